import PyProof.Rows.All
import Wide.All
import OpenK.AllK
import Wide.FinOn
import HandS.ForMost
import HandS.ForExc
import HandS.IsInst
import HandS.Strs
import HandS.TupSets
import HandS.TryMany
import HandS.ExcInit
import HandS.NoneIn
import HandS.Property
import HandS.ExcField
import HandS.Defaults
import KE.BitLaws
import HandS.WideBits
import HandS.Steps
import HandS.Walk
import KE.GoesMore
import HandS.OwnEq
import KE.Datum
import HandS.Star
import HandS.RaiseMore
import HandS.Deep
import HandS.SortRule
import HandS.Zip
import HandS.ClsMeth
import HandS.SortInts
import HandS.Style
import HandS.Conv
import HandS.TupMul
import HandS.SortKw
import KE.DataMinMax
import HandS.ExcIs
import PySem.Challenge.RW_perfectorders_k33_two_needs
set_option Elab.async false
set_option linter.all false
set_option maxRecDepth 100000
set_option maxHeartbeats 2000000
namespace K0
open PySem PySem.Spec PyProof.Rows L2
def top (i : Nat) : Stmt := PySem.Challenge.pw_perfectorders_k33_two_needs.main.body.getD i (.Pass ⟨0, 0, 0, 0⟩)
abbrev s_is_int : Stmt := top 10
abbrev s_is_pair : Stmt := top 11
abbrev s_is_thing : Stmt := top 12
/-- the built-in names that the top leaves as they are -/
structure Blt (mg : Str → Option Value) : Prop where
  isi : mg "isinstance" = none
  int : mg "int" = none
  bool : mg "bool" = none
  list : mg "list" = none
  tuple : mg "tuple" = none
  len : mg "len" = none
section
variable {P : Program} {w : World} {K : PySem.W.Frag} {mg : Str → Option Value} {base : Heap}
inductive Plain (K : PySem.W.Frag) (H : Hp) : V → Bool → Prop where
  | non : Plain K H .non false
  | bl (b : Bool) : Plain K H (.bl b) false
  | int (i : Int) : Plain K H (.int i) true
  | str (x : Str) : Plain K H (.str x) false
  | tup {a : Addr} {xs : List V} (e : H a = some (.tup xs)) : Plain K H (.ref a) false
  | lst {a : Addr} {xs : List V} (e : H a = some (.lst xs)) : Plain K H (.ref a) false
def spIsInt (K : PySem.W.Frag) : Sp := fun vs H Q _ => ∃ v b, vs = [v] ∧ Plain K H v b ∧ Q (.bl b) H
theorem sc_is_int : FnScope ["value"] ["value"] (defScope s_is_int) := ⟨rfl, rfl, rfl, by decide +kernel, rfl, by decide +kernel, by decide +kernel⟩
theorem ok_is_int {f : Addr} {fd : FuncData} (F : Fun K "is_int" "is_int" s_is_int f fd) (B : Blt mg) : FnOk P w K mg base CX0 1 f fd ["value"] (spIsInt K) := by
  refine F.ok sc_is_int (fun vs H Q E h => ?_) (fun cdv A outer s H vs Q E hr h => ?_)
  · obtain ⟨v, b, rfl, _⟩ := h
    rfl
  · obtain ⟨v, b, rfl, hv, q⟩ := h
    refine ⟨_, pss_one (ps_ret (pe_and
      (pe_callB call_isi (by rfl) B.isi (by decide +kernel) (pa_cons (pv 0) (pa_cons (pe_bltn (v := .ty "int") (by rfl) B.int (by decide +kernel) rfl) pa_nil)))
      (pe_one (pe_not (pe_callB call_isi (by rfl) B.isi (by decide +kernel) (pa_cons (pv 0) (pa_cons (pe_bltn (v := .ty "bool") (by rfl) B.bool (by decide +kernel) rfl) pa_nil))))))), ?_⟩
    cases hv with
    | non =>
      exact ⟨_, rfl, _, _, _, _, _, rfl, .ty _, .base .non, kit_ty (r := false) (by decide +kernel), _, rfl, iteF q⟩
    | bl b =>
      exact ⟨_, rfl, _, _, _, _, _, rfl, .ty _, .base (.bl b), kit_ty (r := true) (by decide +kernel), _, rfl, iteT ⟨_, rfl, _, _, _, _, _, rfl, .ty _, .base (.bl b), kit_ty (r := true) (by decide +kernel), _, rfl, q⟩⟩
    | int i =>
      exact ⟨_, rfl, _, _, _, _, _, rfl, .ty _, .base (.int i), kit_ty (r := true) (by decide +kernel), _, rfl, iteT ⟨_, rfl, _, _, _, _, _, rfl, .ty _, .base (.int i), kit_ty (r := false) (by decide +kernel), _, rfl, q⟩⟩
    | str x =>
      exact ⟨_, rfl, _, _, _, _, _, rfl, .ty _, .base (.str x), kit_ty (r := false) (by decide +kernel), _, rfl, iteF q⟩
    | tup e =>
      exact ⟨_, rfl, _, _, _, _, _, rfl, .ty _, .base (.tup e), kit_ty (r := false) (by decide +kernel), _, rfl, iteF q⟩
    | lst e =>
      exact ⟨_, rfl, _, _, _, _, _, rfl, .ty _, .base (.lst e), kit_ty (r := false) (by decide +kernel), _, rfl, iteF q⟩
end
end K0
set_option Elab.async false
set_option linter.all false
set_option maxRecDepth 100000
set_option maxHeartbeats 2000000
namespace K0
open PySem PySem.Spec PyProof.Rows L2
/-! ### data that stands in the heap -/
mutual
inductive Dt (H : Hp) : V → PyData → Prop
  | non : Dt H .non .none
  | bl (b : Bool) : Dt H (.bl b) (.bool b)
  | int (i : Int) : Dt H (.int i) (.int i)
  | str (x : Str) : Dt H (.str x) (.str x)
  | lst {a : Addr} {xs : List V} {ds : List PyData} : H a = some (.lst xs) → DtAll H xs ds → Dt H (.ref a) (.list ds)
  | tup {a : Addr} {xs : List V} {ds : List PyData} : H a = some (.tup xs) → DtAll H xs ds → Dt H (.ref a) (.tuple ds)
inductive DtAll (H : Hp) : List V → List PyData → Prop
  | nil : DtAll H [] []
  | cons {v : V} {vs : List V} {d : PyData} {ds : List PyData} : Dt H v d → DtAll H vs ds → DtAll H (v :: vs) (d :: ds)
end
mutual
theorem Dt.mono {H H' : Hp} (s : Same H H') : ∀ {v : V} {d : PyData}, Dt H v d → Dt H' v d
  | _, _, .non => .non
  | _, _, .bl b => .bl b
  | _, _, .int i => .int i
  | _, _, .str x => .str x
  | _, _, .lst e h => .lst (s _ _ e) (DtAll.mono s h)
  | _, _, .tup e h => .tup (s _ _ e) (DtAll.mono s h)
theorem DtAll.mono {H H' : Hp} (s : Same H H') : ∀ {v : List V} {d : List PyData}, DtAll H v d → DtAll H' v d
  | _, _, .nil => .nil
  | _, _, .cons h t => .cons (Dt.mono s h) (DtAll.mono s t)
end
mutual
theorem Dt.dp {K : PySem.W.Frag} {H : Hp} : ∀ {v : V} {d : PyData}, Dt H v d → Dp K H v d
  | _, _, .non => .non
  | _, _, .bl b => .bl b
  | _, _, .int i => .int i
  | _, _, .str x => .str x
  | _, _, .lst e h => .lst (SqL.of e) (DtAll.dp h)
  | _, _, .tup e h => .tup (SqT.of e) (DtAll.dp h)
theorem DtAll.dp {K : PySem.W.Frag} {H : Hp} : ∀ {v : List V} {d : List PyData}, DtAll H v d → DpAll K H v d
  | _, _, .nil => .nil
  | _, _, .cons h t => .cons (Dt.dp h) (DtAll.dp t)
end
theorem DtAll.len {H : Hp} : ∀ {vs : List V} {ds : List PyData}, DtAll H vs ds → vs.length = ds.length
  | _, _, .nil => rfl
  | _, _, .cons _ t => congrArg (· + 1) t.len
theorem DtAll.at {H : Hp} : ∀ {vs : List V} {ds : List PyData} {i : Nat} {v : V}, DtAll H vs ds → vs[i]? = some v → ∃ d, ds[i]? = some d ∧ Dt H v d
  | _, _, _, _, .nil, e => by simp at e
  | _, _, 0, _, .cons h _, e => by
    have z := Option.some.inj e
    subst z
    exact ⟨_, rfl, h⟩
  | _, _, i + 1, _, .cons _ t, e => DtAll.at (i := i) t e
theorem DtAll.app {H : Hp} : ∀ {vs ws : List V} {ds es : List PyData}, DtAll H vs ds → DtAll H ws es → DtAll H (vs ++ ws) (ds ++ es)
  | _, _, _, _, .nil, h => h
  | _, _, _, _, .cons a t, h => .cons a (t.app h)
theorem DtAll.take {H : Hp} : ∀ {vs : List V} {ds : List PyData} (n : Nat), DtAll H vs ds → DtAll H (vs.take n) (ds.take n)
  | _, _, 0, _ => .nil
  | _, _, _ + 1, .nil => .nil
  | _, _, n + 1, .cons h t => .cons h (t.take n)
theorem DtAll.drop {H : Hp} : ∀ {vs : List V} {ds : List PyData} (n : Nat), DtAll H vs ds → DtAll H (vs.drop n) (ds.drop n)
  | _, _, 0, h => h
  | _, _, _ + 1, .nil => .nil
  | _, _, n + 1, .cons _ t => t.drop n
theorem DtAll.ints (H : Hp) : ∀ ns : List Int, DtAll H (ns.map V.int) (ns.map PyData.int)
  | [] => .nil
  | n :: r => .cons (.int n) (DtAll.ints H r)
theorem same_upd {H : Hp} {p : Addr} {o : HO} (h : H p = none) : Same H (upd H p o) := fun b u e => by
  rw [upd_ne (ne_of_none e h)]
  exact e
theorem Dt.one {H : Hp} {v w : V} {d : PyData} (h : Dt H v d) : Dt H v d := h
/-- is a whole number, and no truth value -/
def isI : PyData → Bool
  | .int _ => true
  | _ => false
def tyD : PyData → String
  | .none => "NoneType"
  | .bool _ => "bool"
  | .int _ => "int"
  | .str _ => "str"
  | .list _ => "list"
  | .tuple _ => "tuple"
  | .dict _ => "dict"
theorem Dt.ty {K : PySem.W.Frag} {H : Hp} {v : V} {d : PyData} (h : Dt H v d) : TyX K H v (.type (tyD d)) := by
  cases h with
  | non => exact .base .non
  | bl b => exact .base (.bl b)
  | int i => exact .base (.int i)
  | str x => exact .base (.str x)
  | lst e _ => exact .base (.lst e)
  | tup e _ => exact .base (.tup e)
/-! ### is_int and its like -/
section
variable {P : Program} {w : World} {K : PySem.W.Frag} {mg : Str → Option Value} {base : Heap}
def spInt : Sp := fun vs H Q _ => ∃ v d, vs = [v] ∧ Dt H v d ∧ Q (.bl (isI d)) H
theorem plain_dt {H : Hp} {v : V} {d : PyData} (h : Dt H v d) : Plain K H v (isI d) := by
  cases h with
  | non => exact .non
  | bl b => exact .bl b
  | int i => exact .int i
  | str x => exact .str x
  | lst e _ => exact .lst e
  | tup e _ => exact .tup e
theorem ok_int {f : Addr} {fd : FuncData} (F : Fun K "is_int" "is_int" s_is_int f fd) (B : Blt mg) : FnOk P w K mg base CX0 1 f fd ["value"] spInt :=
  (ok_is_int F B).imp fun vs H Q E h => by
    obtain ⟨v, d, e, hv, q⟩ := h
    exact ⟨v, isI d, e, plain_dt hv, q⟩
def isPairD : PyData → Bool
  | .list xs => xs.length == 2
  | .tuple xs => xs.length == 2
  | _ => false
theorem len_two (ds : List PyData) : ((ds.length : Int) == 2) = (ds.length == 2) := by
  rw [Bool.eq_iff_iff, beq_iff_eq, beq_iff_eq]
  omega
/-- what leaves all that was tracked -/
def Ret (v : V) (H : Hp) (Q : VK) : Prop := ∀ H', Same H H' → Q v H'
theorem Ret.now {v : V} {H : Hp} {Q : VK} (h : Ret v H Q) : Q v H := h H (Same.refl H)
def spPair : Sp := fun vs H Q _ => ∃ v d, vs = [v] ∧ Dt H v d ∧ Ret (.bl (isPairD d)) H Q
theorem sc_is_pair : FnScope ["value"] ["value"] (defScope s_is_pair) := ⟨rfl, rfl, rfl, by decide +kernel, rfl, by decide +kernel, by decide +kernel⟩
theorem kit2 {K : PySem.W.Frag} {t : String} {b1 b2 : Bool} (h1 : kitB t "list" = some b1) (h2 : kitB t "tuple" = some b2) : PySem.W.kitAny K (.type t) [.type "list", .type "tuple"] = some (b1 || b2) := by
  refine kitAny_cons (kit_ty h1) (fun e => ?_) (fun e => by rw [e]; rfl)
  refine kitAny_cons (kit_ty h2) (fun e2 => ?_) (fun e2 => by rw [e, e2]; rfl)
  rw [e, e2]
  exact kitAny_nil
theorem ok_pair {f : Addr} {fd : FuncData} (F : Fun K "is_pair" "is_pair" s_is_pair f fd) (B : Blt mg) : FnOk P w K mg base CX0 1 f fd ["value"] spPair := by
  refine F.ok sc_is_pair (fun vs H Q E h => ?_) (fun cdv A outer s H vs Q E hr h => ?_)
  · obtain ⟨v, d, rfl, _⟩ := h
    rfl
  · obtain ⟨v, d, rfl, hv, q⟩ := h
    refine ⟨_, pss_one (ps_ret (pe_and
      (pe_callB call_isiT (by rfl) B.isi (by decide +kernel) (pa_cons (pv 0) (pa_cons (pe_tup (pa_cons (pe_bltn (v := .ty "list") (by rfl) B.list (by decide +kernel) rfl) (pa_cons (pe_bltn (v := .ty "tuple") (by rfl) B.tuple (by decide +kernel) rfl) pa_nil))) pa_nil)))
      (pe_one (pe_cmpR op_eq (pe_callB call_len_seq (by rfl) B.len PySem.boot_len (pa_cons (pv 0) pa_nil)) pe_int (nomark _))))), ?_⟩
    refine ⟨_, rfl, by show 2 ≤ sizeLine; decide, fun t ht => ?_⟩
    have sm : Same H (upd H t (.tup [.ty "list", .ty "tuple"])) := same_upd ht
    have cl : Paired ClsV [V.ty "list", V.ty "tuple"] [Value.type "list", Value.type "tuple"] := .cons (.ty _) (.cons (.ty _) .nil)
    have ty : TyX K _ v _ := (hv.mono sm).ty
    cases hv with
    | non => exact ⟨_, _, _, _, _, _, rfl, upd_same, cl, ty, kit2 (b1 := false) (b2 := false) (by decide +kernel) (by decide +kernel), _, rfl, iteF (q _ sm)⟩
    | bl b => exact ⟨_, _, _, _, _, _, rfl, upd_same, cl, ty, kit2 (t := "bool") (b1 := false) (b2 := false) (by decide +kernel) (by decide +kernel), _, rfl, iteF (q _ sm)⟩
    | int b => exact ⟨_, _, _, _, _, _, rfl, upd_same, cl, ty, kit2 (t := "int") (b1 := false) (b2 := false) (by decide +kernel) (by decide +kernel), _, rfl, iteF (q _ sm)⟩
    | str b => exact ⟨_, _, _, _, _, _, rfl, upd_same, cl, ty, kit2 (t := "str") (b1 := false) (b2 := false) (by decide +kernel) (by decide +kernel), _, rfl, iteF (q _ sm)⟩
    | @lst a xs ds e h =>
      refine ⟨_, _, _, _, _, _, rfl, upd_same, cl, ty, kit2 (t := "list") (b1 := true) (b2 := false) (by decide +kernel) (by decide +kernel), _, rfl, iteT ⟨_, rfl, _, xs, rfl, .inl (SqL.of (sm _ _ e)), rfl, ?_⟩⟩
      rw [dec_int, h.len, show ((ds.length : Int) == 2) = isPairD (.list ds) from len_two ds]
      exact q _ sm
    | @tup a xs ds e h =>
      refine ⟨_, _, _, _, _, _, rfl, upd_same, cl, ty, kit2 (t := "tuple") (b1 := false) (b2 := true) (by decide +kernel) (by decide +kernel), _, rfl, iteT ⟨_, rfl, _, xs, rfl, .inr (SqT.of (sm _ _ e)), rfl, ?_⟩⟩
      rw [dec_int, h.len, show ((ds.length : Int) == 2) = isPairD (.tuple ds) from len_two ds]
      exact q _ sm
end
end K0
set_option Elab.async false
set_option linter.all false
set_option maxRecDepth 100000
set_option maxHeartbeats 2000000
/-! own error classes below Exception that store their arguments -/
namespace K0
open PySem PySem.Spec PyProof.Rows L2
/-- the classes behind the own ones -/
def tailOf : List Value → List Value
  | .ref _ :: r => tailOf r
  | l => l
abbrev exT : List Value := [.type "Exception", .type "BaseException", .type "object"]
theorem tail_refuse (self : Value) (wh : Str) : ∀ l : List Value, refuseLoop self wh l = refuseLoop self wh (tailOf l)
  | .ref C :: r => (refuseLoop_ref self wh C r).trans (tail_refuse self wh r)
  | [] => rfl
  | .none :: _ | .ellipsis :: _ | .notImplemented :: _ | .bool _ :: _ | .int _ _ :: _ | .float _ _ :: _ | .str _ _ :: _ | .bytes _ _ :: _ | .type _ :: _ | .builtin _ :: _ => rfl
theorem tail_has (Y : String) : ∀ l : List Value, l.contains (.type Y) = (tailOf l).contains (.type Y)
  | .ref C :: r => by
    rw [List.contains_cons, tail_has Y r]
    rfl
  | [] => rfl
  | .none :: _ | .ellipsis :: _ | .notImplemented :: _ | .bool _ :: _ | .int _ _ :: _ | .float _ _ :: _ | .str _ _ :: _ | .bytes _ _ :: _ | .type _ :: _ | .builtin _ :: _ => rfl
theorem tail_ne : ∀ l : List Value, tailOf l = exT → l.isEmpty = false
  | [], e => by cases e
  | _ :: _, _ => rfl
section
open Builtin Builtin.ObjectAttr PySem.HandSPX PySem.OEX
variable {prog : Program} {w : World} {A : Around} {R : Result → Shared → Prop} {hp : Heap} {g : Array GenState} {d : Drawn} {t : Nat} {os : OsState} {K : PySem.W.Frag} {name : Str} {tk : Tok} {v : Value} {x C : Addr} {fv : Array Value} {cd : ClassData}
/-- what is looked up ahead of a store to an exception of the class at C -/
structure Sto (prog : Program) (w : World) (K : PySem.W.Frag) (hp : Heap) (x C : Addr) (name : Str) (cd : ClassData) : Prop where
  ty : PySem.W.Looks (model prog w) hp (typeOf (.ref x)) (.ref C)
  sub : PySem.W.Looks (model prog w) hp (isInstance (.ref x) (.type "object")) true
  mro : PySem.W.Looks (model prog w) hp (mroOf (.ref C)) cd.mro
  cls : PySem.W.Looks (model prog w) hp (classData C) cd
  fnd : PySem.W.Looks (model prog w) hp (typeLookup (.ref C) name) none
  ref : ∀ self : Value, refuseLoop self "__setattr__" cd.mro = pure ()
theorem sto_of (X : K.In hp) {ox : Obj} {od : Option Obj} (I : PySem.W.InstAt hp x ox C od) (hcd : PySem.W.clsIn K C = some cd) (hm : tailOf cd.mro = exT) (ha : PySem.W.findIn K (.ref C) name = some none) : Sto prog w K hp x C name cd where
  ty := I.type
  sub := I.type.andThen (PySem.W.looks_mroIn X (by
    have h1 : cd.mro.contains (.type "object") = true := by rw [tail_has, hm]; decide +kernel
    unfold PySem.W.mroIn
    rw [hcd, Option.bind_some, if_neg (by rw [tail_ne _ hm]; decide), h1]))
  mro := (PySem.W.looks_clsIn X hcd).andThen .now
  cls := PySem.W.looks_clsIn X hcd
  fnd := PySem.W.looks_findIn X ha
  ref := fun self => by rw [tail_refuse, hm]; exact PySem.F.store_Exception.passes self
theorem osaE (S : Sto prog w K hp x C name cd) (hq : wpAny (model prog w) (A.in1) (storeInOwnDict (.ref x) (.ref C) (.str name tk) name v false) (fun fin s' => match fin with | .done f => R (.ok f) s' | .again c => c.quiet = true ∧ codeAny (model prog w) A c R s') (fun e s' => R (.error e) s') ⟨hp, g, d, t, os⟩) :
    codeAny (model prog w) A (.call (.builtin "object.__setattr__") ⟨[.ref x, .str name tk, v], []⟩) R ⟨hp, g, d, t, os⟩ := by
  have SF := PySem.F.store_object
  refine codeAny_call_builtin SF.slot.plain SF.entry (@PySem.W.check_slot (model prog w) _ _ ⟨hp, g, d, t, os⟩ "object.__setattr__" "object" "__setattr__" (.ref x) [.str name tk, v] [] _ SF.kind SF.split S.sub (SF.args (.ref x) (.str name tk) v) ?_)
  rw [PySem.W.osa_eq, refuse_eq]
  refine wpAny_bind (wpAny_bind (S.ty.at (wpAny_bind (S.mro.at ?_))))
  rw [S.ref]
  refine wpAny_pure (wpAny_bind (S.ty.at (wpAny_bind (S.fnd.at (wpAny_bind ((show PySem.W.Looks (model prog w) hp (storeTaker? none) none from .now).at ?_))))))
  exact hq
theorem osaE_new (X : K.In hp) (hx : hp.get? x = some { cls := .ref C, data := .fields fv }) (hcd : PySem.W.clsIn K C = some cd) (hm : tailOf cd.mro = exT) (hh : cd.hasDict = true) (ha : PySem.W.findIn K (.ref C) name = some none)
    (hq : ∀ h' tk' dx, (∀ b o, b ≠ x → hp.get? b = some o → h'.get? b = some o) → hp.objs.size ≤ dx → dx ≠ x → h'.get? x = some { cls := .ref C, dict := some dx, data := .fields fv } →
      h'.Ns1 dx (fun y => if y = name then some v else none) → R (.ok (.ret .none)) ⟨h', g, d, tk', os⟩) :
    codeAny (model prog w) A (.call (.builtin "object.__setattr__") ⟨[.ref x, .str name tk, v], []⟩) R ⟨hp, g, d, t, os⟩ := by
  have hxs : x ≠ hp.objs.size := Nat.ne_of_lt (Heap.lt_size hx)
  have S : Sto prog w K hp x C name cd := sto_of X (od := none) ⟨hx, rfl, rfl, trivial⟩ hcd hm ha
  refine osaE S ?_
  have hcls := S.cls
  obtain ⟨nm, bs, mro, ns, qn, hd, sn, sb, ab, col, del⟩ := cd
  dsimp only at hh
  subst hh
  unfold storeInOwnDict ownDictForStores
  repeat (first | with_reducible refine store_in_new ?_ ?_ | with_reducible refine wpAny_loadPart_at hx ?_ | with_reducible refine hcls.at ?_ | wp_step)
  · exact ⟨_, #[], _, (Heap.get?_update_ne _ _ _ _ hxs.symm).trans (Heap.get?_push_at rfl rfl), rfl, fun e he => absurd he (by simp), fun _ => rfl⟩
  · intro h' tk' hn' hs
    have hx1 : (hp.push { cls := .type "dict", data := .dict #[] }).get? x = some { cls := .ref C, data := .fields fv } := Heap.get?_push_of_some _ hx
    have old : ∀ b o, b ≠ x → hp.get? b = some o → h'.get? b = some o := fun b o hb ho =>
      (hs.2 b (Nat.ne_of_lt (Heap.lt_size ho))).trans ((Heap.get?_update_ne _ _ _ _ hb).trans (Heap.get?_push_of_some _ ho))
    exact hq h' tk' hp.objs.size old (Nat.le_refl _) hxs.symm ((hs.2 x hxs).trans (Heap.get?_update_self _ hx1 rfl)) hn'
theorem osaE_old {dx : Addr} {m0 : Str → Option Value} {nl : List Str} (X : K.In hp) (hx : hp.get? x = some { cls := .ref C, dict := some dx, data := .fields fv }) (hns : hp.Ns1 dx m0) (hw : Within m0 nl) (hz : nl.length ≤ 1000)
    (hcd : PySem.W.clsIn K C = some cd) (hm : tailOf cd.mro = exT) (hh : cd.hasDict = true) (ha : PySem.W.findIn K (.ref C) name = some none)
    (hq : ∀ h' tk', (∀ b o, b ≠ dx → hp.get? b = some o → h'.get? b = some o) → h'.Ns1 dx (fun y => if y = name then some v else m0 y) → R (.ok (.ret .none)) ⟨h', g, d, tk', os⟩) :
    codeAny (model prog w) A (.call (.builtin "object.__setattr__") ⟨[.ref x, .str name tk, v], []⟩) R ⟨hp, g, d, t, os⟩ := by
  obtain ⟨oD, esD, epD, hoD, hdD, _⟩ := hns.count hw
  have S : Sto prog w K hp x C name cd := sto_of X (od := some oD) ⟨hx, rfl, rfl, hoD⟩ hcd hm ha
  refine osaE S ?_
  have hcls := S.cls
  obtain ⟨nm, bs, mro, ns, qn, hd, sn, sb, ab, col, del⟩ := cd
  dsimp only at hh
  subst hh
  unfold storeInOwnDict ownDictForStores
  repeat (first | with_reducible refine store_in_old hns hw hz ?_ | with_reducible refine wpAny_loadPart_at hx ?_ | with_reducible refine hcls.at ?_ | wp_step)
  exact fun h' tk' hn' hs => hq h' tk' (fun b o hb ho => (hs.2 b hb).trans ho) hn'
end
/-! ### over the abstract heap -/
/-- what the written part says of such a class at C: its own names are not among fs -/
structure ErrC (K : PySem.W.Frag) (C : Addr) (fs : List Str) : Prop where
  cls : ∃ nm q N bs bm sn sub ab col dd k0 k1 k2 k3 k5, K.lookup C = some (excClassObj nm q C N bs bm true sn sub ab col dd k0 k1 k2 k3 k5 "Exception.__new__") ∧ (tailOf bm == exT) = true
  sa : PySem.W.findIn K (.ref C) "__setattr__" = some (some (.builtin "object.__setattr__"))
  ga : PySem.W.findIn K (.ref C) "__getattribute__" = some (some (.builtin "BaseException.__getattribute__"))
  gg : PySem.W.findIn K (.ref C) "__getattr__" = some none
  exC : PySem.W.subIn K (.ref C) (.type "BaseException") = some true
  tyC : PySem.W.typeIn K (.ref C) = some (.type "type")
  kC : PySem.W.keepIn K (.ref C) = true
  hd : PySem.W.hasDictIn K C = true
  no : ∀ f ∈ fs, PySem.W.findIn K (.ref C) f = some none
theorem ErrC.data {K : PySem.W.Frag} {C : Addr} {fs : List Str} (T : ErrC K C fs) : ∃ cd, PySem.W.clsIn K C = some cd ∧ tailOf cd.mro = exT ∧ cd.hasDict = true := by
  obtain ⟨nm, q, N, bs, bm, sn, sub, ab, col, dd, k0, k1, k2, k3, k5, hC, hbm⟩ := T.cls
  refine ⟨{ name := nm, bases := bs, mro := .ref C :: bm, ns := N, qualname := q, hasDict := true, slotNames := sn, subclasses := sub, abstract := ab, collection := col, hasDel := false }, ?_, beq_iff_eq.mp hbm, rfl⟩
  unfold PySem.W.clsIn
  rw [hC]
section
variable {X : Cx} {pins : List (Addr × Obj)} {σ : L2.St} {H : Hp} {s : Shared} {a C dx : Addr} {f : Str} {y : V} {u : Value} {fl : List Str} {fs : List (Str × V)} {Q : Unit → Shared → Prop} {E : Value → Shared → Prop} {A : Around}
/-- the first store: the exception gets its dict -/
theorem stE_new (T : ErrC X.K C fl) (I : Inv X pins σ H s) (e : H a = some (exo a C none)) (hno : f ∈ fl) (ry : RelV y u)
    (h : ∀ dx s', H dx = none → dx ≠ a → Inv X pins σ (upd (upd H dx (exd dx [(f, y)])) a (exo a C (some dx))) s' → Q () s') : wpAny (model X.prog X.w) A (setAttr (.ref a) f u) Q E s := by
  obtain ⟨cd, hcl, hm, hdd⟩ := T.data
  obtain ⟨t1, ho⟩ := exo_at I.hok e
  obtain ⟨hp, g, d, t, os⟩ := s
  refine PySem.W.set_plain I.kIn (ox := { cls := .ref C, dict := none, data := .fields #[.ref t1, .none, .none, .none, .bool false, .none] }) (od := none) ⟨ho, rfl, rfl, trivial⟩ T.sa ?_
  refine osaE_new I.kIn ho hcl hm hdd (T.no f hno) (fun h' tk' dx k dn dne hx hn => ?_)
  have hnd : H dx = none := I.hok.fresh dn
  have lt : ∀ {b : Addr} {o : Obj}, hp.get? b = some o → b ≠ dx := fun q => Nat.ne_of_lt (Nat.lt_of_lt_of_le (Heap.lt_size q) dn)
  have na : ∀ {b : Addr}, H b = none → b ≠ a := fun {b} n z => by rw [z, e] at n; cases n
  refine h dx _ hnd dne (I.un (t' := tk') { keep := fun b o q n _ _ => k b o (na n) q, slot := fun b o q n _ _ => ⟨o.slots, k b o (na n) q⟩, free := fun b o q n _ => ?_, there := fun b o q _ => ?_, tups := fun b xs q => ?_, frzs := fun b o v q => ?_, tbls := fun b ps q => ⟨#[], ?_⟩ } fun b o q => ?_)
  · rw [upd_ne (na n), upd_ne (lt q)]
    exact n
  · rcases Nat.decEq b a with hb | hb
    · exact ⟨o, k b o hb q⟩
    · exact ⟨_, by rw [hb]; exact hx⟩
  · rw [upd_ne (at_ne e q exo_tup), upd_ne (ne_of_none q hnd)]
    exact q
  · rw [upd_ne (at_ne e q exo_frz), upd_ne (ne_of_none q hnd)]
    exact q
  · rw [upd_ne (at_ne e q exo_tbl), upd_ne (ne_of_none q hnd), q]
    simp
  · by_cases hb : b = a
    · subst hb
      rw [upd_same] at q
      cases q
      exact exo_ok hx
    rw [upd_ne hb] at q
    by_cases hdx : b = dx
    · subst hdx
      rw [upd_same] at q
      cases q
      exact exd_ok hn (relO_put (fs := []) ry fun g => True.intro)
    rw [upd_ne hdx] at q
    refine (I.hok b o q).stay (fun c v hc z => k c v ?_ z) (fun c hc => ?_) (fun c xs hc => ?_)
    · rcases hc with hc | hc
      · rw [hc]; exact hb
      · exact at_ne e hc exo_own
    · rw [upd_ne (at_ne e hc exo_own), upd_ne (ne_of_none hc hnd)]
      exact hc
    · rw [upd_ne (at_ne e hc exo_tup), upd_ne (ne_of_none hc hnd)]
      exact hc
/-- a further store -/
theorem stE_old (T : ErrC X.K C fl) (I : Inv X pins σ H s) (e : H a = some (exo a C (some dx))) (ed : H dx = some (exd dx fs)) (hl : fs.length ≤ 900) (hno : f ∈ fl) (ry : RelV y u)
    (h : ∀ s', Inv X pins σ (upd H dx (exd dx ((f, y) :: fs))) s' → Q () s') : wpAny (model X.prog X.w) A (setAttr (.ref a) f u) Q E s := by
  obtain ⟨cd, hcl, hm, hdd⟩ := T.data
  obtain ⟨t1, ho⟩ := exo_at I.hok e
  obtain ⟨mA, hns, rel⟩ := exd_at I.hok ed
  have hw := within_of rel
  obtain ⟨hp, g, d, t, os⟩ := s
  obtain ⟨oD, _, _, hoD, _, _⟩ := hns.count hw
  refine PySem.W.set_plain I.kIn (ox := { cls := .ref C, dict := some dx, data := .fields #[.ref t1, .none, .none, .none, .bool false, .none] }) (od := some oD) ⟨ho, rfl, rfl, hoD⟩ T.sa ?_
  refine osaE_old I.kIn ho hns hw (by rw [List.length_map]; omega) hcl hm hdd (T.no f hno) (fun h' tk' k hn => ?_)
  have there : ∃ o, h'.get? dx = some o := by
    obtain ⟨o, _, _, e', _⟩ := hn
    exact ⟨o, e'⟩
  exact h _ (I.write (t' := tk') (x := dx) (e := dx) (o := exd dx ((f, y) :: fs)) (by rw [ed]; trivial) (.inl rfl) k there (exd_ok hn (relO_put ry rel)))
end
/-- self.f = e in the __init__ of such a class -/
def tStE (K : PySem.W.Frag) (fl : List Str) (f : Str) (to te : TE) : TS := fun D σ H => te σ H fun y H1 => to σ H1 fun x H2 => ∃ a C : Addr, x = .ref a ∧ ErrC K C fl ∧ f ∈ fl ∧
  ((H2 a = some (exo a C none) ∧ ∀ dx, H2 dx = none → dx ≠ a → D.nx σ (upd (upd H2 dx (exd dx [(f, y)])) a (exo a C (some dx)))) ∨
    ∃ (dx : Addr) (fs : List (Str × V)), H2 a = some (exo a C (some dx)) ∧ H2 dx = some (exd dx fs) ∧ fs.length ≤ 900 ∧ D.nx σ (upd H2 dx (exd dx ((f, y) :: fs))))
/-- C(e, ..): a new exception; behind it stand its class, its dict -/
def tMkE (C : Addr) (sp : Sp) (ta : TA) : L2.St → Hp → XK → Prop := fun σ H Q => ta σ H fun vs H1 => vs.length ≤ 1000 ∧ ∀ a, H1 a = none → sp (.ref a :: vs) (upd H1 a (exo a C none))
  (fun v H2 => v = .non ∧ ∃ (d : Addr) (fs : List (Str × V)), H2 a = some (exo a C (some d)) ∧ H2 d = some (exd d fs) ∧ H1 d = none ∧ Q (.ref C) (some d) (upd (del H2 a) d (.xd fs))) (fun _ _ _ => False)
section
variable {X : Cx} {o e : Expr} {es : List Expr} {to te : TE} {ta : TA} {f : Str} {p p' pos : Pos} {fl : List Str}
theorem ps_stE (ho : PE X o to) (he : PE X e te) (hs : swapsWith e (some (.Attribute o f p')) pos.line X.env = pure false := by rfl) : PS X (.Assign [.Attribute o f p'] e pos) (tStE X.K fl f to te) := by
  refine ⟨fun pins s σ H D I h => ?_⟩
  refine plainObj_wpAny_Assign_Attribute (thn (he.run pins s σ H _ I h) fun v s1 ⟨y, H1, I1, r1, q1⟩ => thn (ho.run pins s1 σ H1 _ I1 q1) fun u s2 ⟨x, H2, I2, r2, a, C, ex, T, hno, q⟩ => ?_) hs
  subst ex
  cases (show u = Value.ref a from r2)
  rcases q with ⟨ea, q⟩ | ⟨dx, fs, ea, ed, hl, q⟩
  · exact stE_new T I2 ea hno r1 fun dx s' n ne J => ⟨σ, _, J, q dx n ne⟩
  · exact stE_old T I2 ea ed hl hno r1 fun s' J => ⟨σ, _, J, q⟩
theorem pmk_E {CX : CXT} {x : Str} {C fI : Addr} {k : Nat} {fd : FuncData} {ps : List Str} {sp : Sp} (T : ErrC X.K C fl) (iC : PySem.W.findIn X.K (.ref C) "__init__" = some (some (.ref fI))) (tI : PySem.W.typeIn X.K (.ref fI) = some (.type "function"))
    (F1 : FnOk X.prog X.w X.K X.mg X.base CX k fI fd ps sp) (hr : Room (k + 1) X.A) (hb : Binds X.K fd ps []) (hx : Passes CX X (fun _ _ _ => False)) (hg : Gl X x) (hm : X.mg x = some (.ref C)) (ha : PA X (e :: es) ta)
    (hdb : (x == ("__debug__" : Str)) = false := by decide) (he : starEach (e :: es) X.env = (false, eval e X.env) :: starEach es X.env := by rfl) (hpl : (backTo pos (starEach es X.env)).any (·.1) = false := by rfl) :
    PMk X (.Call (.Name x p) (e :: es) [] pos) (tMkE C sp ta) := by
  intro pins s σ H Q I h
  obtain ⟨nm, q, N, bs, bm, sn, sub, ab, col, dd, k0, k1, k2, k3, k5, hC, hbm⟩ := T.cls
  have hbm' : tailOf bm = exT := beq_iff_eq.mp hbm
  refine wpAny_Call_Name_kw (ld_glob I hg hm ?_ hdb)
  refine PySem.W.callWith_K (h₀ := X.base) I.ok.mod.kin T.kC (thn (ha.run pos pins s σ H _ I h) fun us s1 ⟨vs, H1, I1, r1, hz, q1⟩ => ⟨I1.kIn, ?_⟩) he hpl
  show wpAny _ _ (call (.ref C) us) _ _ _
  obtain ⟨hp, g, dr, tk, os⟩ := s1
  have big : hp.objs.size ≤ hp.objs.size + 1 := Nat.le_succ _
  have hq := q1 (hp.objs.size + 1) (I1.hok.fresh big)
  have kk : ∀ b o, hp.get? b = some o → ((hp.push (PySem.W.kdv_tup us)).push (PySem.HandSPX.excO C hp.objs.size)).get? b = some o := fun b o e => Heap.get?_push_of_some _ (Heap.get?_push_of_some _ e)
  have hget : ((hp.push (PySem.W.kdv_tup us)).push (PySem.HandSPX.excO C hp.objs.size)).get? (hp.objs.size + 1) = some (PySem.HandSPX.excO C hp.objs.size) := by heap_get
  have I2 := I1.laid (t' := tk) (a := hp.objs.size + 1) (o := exo (hp.objs.size + 1) C none) (h' := (hp.push (PySem.W.kdv_tup us)).push (PySem.HandSPX.excO C hp.objs.size)) kk big (exo_ok hget)
  have r2 : Vals (V.ref (hp.objs.size + 1) :: vs) (Value.ref (hp.objs.size + 1) :: us) := .cons rfl r1
  have hl : (Value.ref (hp.objs.size + 1) :: us ++ []).length = ps.length := by
    rw [List.append_nil, ← r2.length]
    exact F1.len _ _ _ _ hq
  have hus : us.length ≤ sizeLine := by
    rw [← Paired.length r1, sizeLine_eq]
    omega
  have bnd := hb _ (Value.ref (hp.objs.size + 1) :: us) I2.kIn hl
  rw [List.append_nil] at bnd
  refine wpAny_call (PySem.HandSPX.call_own PySem.F.excBase_Exception (fun Y => (tail_has Y bm).trans (by rw [hbm'])) (I1.kIn _ _ hC) (PySem.W.looks_findIn I1.kIn iC) (fun self => PySem.W.bind_fn I1.kIn self tI) hus
    (codeAny_mono (F1.run _ X.stack _ _ ⟨Value.ref (hp.objs.size + 1) :: us, []⟩ (Value.ref (hp.objs.size + 1) :: us) _ _ (fun _ _ _ => False) (hr.make C us []) (I2.env0.make C us []) bnd r2 hq) fun r s' hq' => ?_))
  rcases r with er | fl'
  · exact hx pins σ _ _ er s' I2 hq'
  · cases fl' with
    | ret u =>
      obtain ⟨v, H2, os2, bare2, un2, hok2, rv, ev, d, fs, ea, ed, hd1, q2⟩ := hq'
      subst ev
      obtain ⟨h2, g2, d2, t2, os'⟩ := s'
      exact ⟨rv, mk_end (raises_own T.exC T.tyC) I1 big kk un2 hok2 os2 bare2 ea ed hd1 q2⟩
    | next => exact hq'.elim
    | brk => exact hq'.elim
    | cont => exact hq'.elim
/-- raise C(e, ..) -/
theorem ps_raiseE {CX : CXT} {W : WX} {x : Str} {C fI : Addr} {k : Nat} {fd : FuncData} {ps : List Str} {sp : Sp} {pos2 : Pos} (hc : X.calm = true) (tk : Takes X W) (T : ErrC X.K C fl) (iC : PySem.W.findIn X.K (.ref C) "__init__" = some (some (.ref fI))) (tI : PySem.W.typeIn X.K (.ref fI) = some (.type "function"))
    (F1 : FnOk X.prog X.w X.K X.mg X.base CX k fI fd ps sp) (hr : Room (k + 1) X.A) (hb : Binds X.K fd ps []) (hx : Passes CX X (fun _ _ _ => False)) (hg : Gl X x) (hm : X.mg x = some (.ref C)) (ha : PA X (e :: es) ta)
    (hdb : (x == ("__debug__" : Str)) = false := by decide) (he : starEach (e :: es) X.env = (false, eval e X.env) :: starEach es X.env := by rfl) (hpl : (backTo pos (starEach es X.env)).any (·.1) = false := by rfl) :
    PS X (.Raise (some (.Call (.Name x p) (e :: es) [] pos)) none pos2) (fun _ σ H => tMkE C sp ta σ H fun cls d H' => W cls d σ H') := ps_raise hc tk (pmk_E T iC tI F1 hr hb hx hg hm ha hdb he hpl)
end
end K0
set_option Elab.async false
set_option linter.all false
set_option maxRecDepth 100000
set_option maxHeartbeats 2000000
namespace K0
open PySem PySem.Spec PyProof.Rows L2
theorem PS_imp {X : Cx} {st : Stmt} {t t' : TS} (h : PS X st t) (i : ∀ D σ H, t' D σ H → t D σ H) : PS X st t' := ⟨fun pins s σ H D I q => h.run pins s σ H D I (i D σ H q)⟩
/-- a def that lets nothing out is one that may -/
theorem up0 {P : Program} {w : World} {K : PySem.W.Frag} {mg : Str → Option Value} {base : Heap} {CX : CXT} {k : Nat} {f : Addr} {fd : FuncData} {ps : List Str} {sp : Sp} (F : FnOk P w K mg base CX0 k f fd ps sp) : FnOk P w K mg base CX k f fd ps sp :=
  ⟨F.len, fun A outer s H args us vs Q E hr he hb hv hs => codeAny_mono (F.run A outer s H args us vs Q E hr he hb hv hs) fun r s' h => by
    cases r with
    | error e => exact False.elim h
    | ok fl => cases fl <;> exact h⟩
theorem passN {X : Cx} : Passes CX0 X (fun _ _ _ => False) := fun _ _ _ _ _ _ _ h => h.elim
theorem passUp {P : Program} {w : World} {K : PySem.W.Frag} {mg : Str → Option Value} {base : Heap} {N : List Str} {qual : Str} {sc : Scope} {f : Addr} {cd : Value} {A : Around} {outer : List Env} {s : Shared} {H : Hp} {E : XK} :
    Passes (L2.CX P w) (cxOf (L2.CX P w) P w K mg base N qual sc f cd A outer s H E) E := passes_call (takes_of rfl rfl rfl rfl) fun _ _ _ _ h => h
/-! ### the __init__ of an error with one, with two fields -/
abbrev s_e1 : Stmt := inClass (top 4) 0
abbrev s_eW : Stmt := inClass (top 5) 0
abbrev s_eT : Stmt := inClass (top 6) 0
def spE1 (C : Addr) (f : Str) : Sp := fun vs H Q _ => ∃ (a : Addr) (v : V), vs = [.ref a, v] ∧ H a = some (exo a C none) ∧ ∀ dx, H dx = none → dx ≠ a → Q .non (upd (upd H dx (exd dx [(f, v)])) a (exo a C (some dx)))
def spE2 (C : Addr) (f g : Str) : Sp := fun vs H Q _ => ∃ (a : Addr) (v u : V), vs = [.ref a, v, u] ∧ H a = some (exo a C none) ∧ ∀ dx, H dx = none → dx ≠ a → Q .non (upd (upd (upd H dx (exd dx [(f, v)])) a (exo a C (some dx))) dx (exd dx [(g, u), (f, v)]))
section
variable {P : Program} {w : World} {K : PySem.W.Frag} {mg : Str → Option Value} {base : Heap} {f C : Addr} {fd : FuncData}
theorem sc_e1 : FnScope ["self", "name"] ["self", "name"] (defScope s_e1) := ⟨rfl, rfl, rfl, by decide +kernel, rfl, by decide +kernel, by decide +kernel⟩
theorem ok_e1 (F : Fun K "__init__" "BadNumber.__init__" s_e1 f fd) (T : ErrC K C ["name"]) : FnOk P w K mg base CX0 1 f fd ["self", "name"] (spE1 C "name") := by
  refine F.ok sc_e1 (fun vs H Q E h => ?_) (fun cdv A outer s H vs Q E hr h => ?_)
  · obtain ⟨a, v, rfl, _⟩ := h
    rfl
  · obtain ⟨a, v, rfl, ha, q⟩ := h
    refine ⟨_, pss_one (ps_stE (fl := ["name"]) (pv 0) (pv 1)), ?_⟩
    exact ⟨_, rfl, _, rfl, a, C, rfl, T, by decide, .inl ⟨ha, fun dx n ne => q dx n ne⟩⟩
theorem sc_eT : FnScope ["self", "thing"] ["self", "thing"] (defScope s_eT) := ⟨rfl, rfl, rfl, by decide +kernel, rfl, by decide +kernel, by decide +kernel⟩
theorem ok_eT (F : Fun K "__init__" "BadThing.__init__" s_eT f fd) (T : ErrC K C ["thing"]) : FnOk P w K mg base CX0 1 f fd ["self", "thing"] (spE1 C "thing") := by
  refine F.ok sc_eT (fun vs H Q E h => ?_) (fun cdv A outer s H vs Q E hr h => ?_)
  · obtain ⟨a, v, rfl, _⟩ := h
    rfl
  · obtain ⟨a, v, rfl, ha, q⟩ := h
    refine ⟨_, pss_one (ps_stE (fl := ["thing"]) (pv 0) (pv 1)), ?_⟩
    exact ⟨_, rfl, _, rfl, a, C, rfl, T, by decide, .inl ⟨ha, fun dx n ne => q dx n ne⟩⟩
theorem sc_eW : FnScope ["self", "x", "y"] ["self", "x", "y"] (defScope s_eW) := ⟨rfl, rfl, rfl, by decide +kernel, rfl, by decide +kernel, by decide +kernel⟩
theorem ok_eW (F : Fun K "__init__" "BadWeb.__init__" s_eW f fd) (T : ErrC K C ["x", "y"]) : FnOk P w K mg base CX0 1 f fd ["self", "x", "y"] (spE2 C "x" "y") := by
  refine F.ok sc_eW (fun vs H Q E h => ?_) (fun cdv A outer s H vs Q E hr h => ?_)
  · obtain ⟨a, v, u, rfl, _⟩ := h
    rfl
  · obtain ⟨a, v, u, rfl, ha, q⟩ := h
    refine ⟨_, pss_cons (ps_stE (fl := ["x", "y"]) (pv 0) (pv 1)) (pss_one (ps_stE (fl := ["x", "y"]) (pv 0) (pv 2))), ?_⟩
    refine ⟨_, rfl, _, rfl, a, C, rfl, T, by decide, .inl ⟨ha, fun dx n ne => ?_⟩⟩
    exact ⟨_, rfl, _, rfl, a, C, rfl, T, by decide, .inr ⟨dx, _, upd_same, (by rw [upd_ne ne, upd_same]), (by show 1 ≤ 900; decide), q dx n ne⟩⟩
end
/-! ### raising them -/
/-- an error class with its __init__, as it stands behind the top -/
structure Er (P : Program) (w : World) (K : PySem.W.Frag) (mg : Str → Option Value) (base : Heap) (x : Str) (C : Addr) (fl ps : List Str) (sp : Sp) : Prop where
  T : ErrC K C fl
  g : mg x = some (.ref C)
  ex : ∃ (fI : Addr) (fd : FuncData), PySem.W.findIn K (.ref C) "__init__" = some (some (.ref fI)) ∧ PySem.W.typeIn K (.ref fI) = some (.type "function") ∧ FnOk P w K mg base CX0 1 fI fd ps sp ∧ Binds K fd ps []
section
variable {X : Cx} {e e2 : Expr} {te te2 : TE} {x f g : Str} {C : Addr} {W : WX} {p pos pos2 : Pos}
def tRz1 (C : Addr) (f : Str) (W : WX) (te : TE) : TS := fun _ σ H => te σ H fun v H1 => ∀ d, H1 d = none → W (.ref C) (some d) σ (upd H1 d (.xd [(f, v)]))
theorem ps_rz1 (hc : X.calm = true) (tk : Takes X W) (T : Er X.prog X.w X.K X.mg X.base x C [f] ["self", f] (spE1 C f)) (hr : Room 2 X.A) (hg : Gl X x) (he : PE X e te)
    (mono : ∀ σ H (Q Q' : VK), (∀ v H', Q v H' → Q' v H') → te σ H Q → te σ H Q')
    (hdb : (x == ("__debug__" : Str)) = false := by decide) (hs : starEach [e] X.env = (false, eval e X.env) :: starEach [] X.env := by rfl) (hpl : (backTo pos (starEach [] X.env)).any (·.1) = false := by rfl) :
    PS X (.Raise (some (.Call (.Name x p) [e] [] pos)) none pos2) (tRz1 C f W te) := by
  obtain ⟨fI, fd, i1, i2, F, b⟩ := T.ex
  refine PS_imp (ps_raiseE hc tk T.T i1 i2 F hr b passN hg T.g (pa_cons he pa_nil hs) hdb hs hpl) fun D σ H q => ?_
  refine mono σ H _ _ (fun v H1 q1 => ?_) q
  refine ⟨by show 1 ≤ 1000; decide, fun a ha => ⟨a, v, rfl, upd_same, fun dx n ne => ⟨rfl, dx, [(f, v)], upd_same, ?_, ?_, ?_⟩⟩⟩
  · rw [upd_ne ne, upd_same]
  · rw [upd_ne ne] at n
    exact n
  · have n' : H1 dx = none := by rw [upd_ne ne] at n; exact n
    have z := q1 dx n'
    have eq : upd (del (upd (upd (upd H1 a (exo a C none)) dx (exd dx [(f, v)])) a (exo a C (some dx))) a) dx (HO.xd [(f, v)]) = upd H1 dx (.xd [(f, v)]) := by
      funext b
      by_cases hb : b = dx
      · rw [hb, upd_same, upd_same]
      · rw [upd_ne hb, upd_ne hb]
        by_cases hba : b = a
        · rw [hba, del_same, ha]
        · rw [del_ne hba, upd_ne hba, upd_ne hb, upd_ne hba]
    rw [eq]
    exact z
def tRz2 (C : Addr) (f g : Str) (W : WX) (te te2 : TE) : TS := fun _ σ H => te σ H fun v H0 => te2 σ H0 fun u H1 => ∀ d, H1 d = none → W (.ref C) (some d) σ (upd H1 d (.xd [(g, u), (f, v)]))
theorem ps_rz2 (hc : X.calm = true) (tk : Takes X W) (T : Er X.prog X.w X.K X.mg X.base x C [f, g] ["self", f, g] (spE2 C f g)) (hr : Room 2 X.A) (hg : Gl X x) (he : PE X e te) (he2 : PE X e2 te2)
    (mono : ∀ σ H (Q Q' : VK), (∀ v H', Q v H' → Q' v H') → te σ H Q → te σ H Q') (mono2 : ∀ σ H (Q Q' : VK), (∀ v H', Q v H' → Q' v H') → te2 σ H Q → te2 σ H Q')
    (hdb : (x == ("__debug__" : Str)) = false := by decide) (hs : starEach [e, e2] X.env = (false, eval e X.env) :: starEach [e2] X.env := by rfl) (hs2 : starEach [e2] X.env = (false, eval e2 X.env) :: starEach [] X.env := by rfl) (hpl : (backTo pos (starEach [e2] X.env)).any (·.1) = false := by rfl) :
    PS X (.Raise (some (.Call (.Name x p) [e, e2] [] pos)) none pos2) (tRz2 C f g W te te2) := by
  obtain ⟨fI, fd, i1, i2, F, b⟩ := T.ex
  refine PS_imp (ps_raiseE hc tk T.T i1 i2 F hr b passN hg T.g (pa_cons he (pa_cons he2 pa_nil hs2) hs) hdb hs hpl) fun D σ H q => ?_
  refine mono σ H _ _ (fun v H0 q0 => mono2 σ H0 _ _ (fun u H1 q1 => ?_) q0) q
  refine ⟨by show 2 ≤ 1000; decide, fun a ha => ⟨a, v, u, rfl, upd_same, fun dx n ne => ⟨rfl, dx, [(g, u), (f, v)], ?_, upd_same, ?_, ?_⟩⟩⟩
  · rw [upd_ne ne.symm, upd_same]
  · rw [upd_ne ne] at n
    exact n
  · have n' : H1 dx = none := by rw [upd_ne ne] at n; exact n
    have z := q1 dx n'
    have eq : upd (del (upd (upd (upd (upd H1 a (exo a C none)) dx (exd dx [(f, v)])) a (exo a C (some dx))) dx (exd dx [(g, u), (f, v)])) a) dx (HO.xd [(g, u), (f, v)]) = upd H1 dx (.xd [(g, u), (f, v)]) := by
      funext b
      by_cases hb : b = dx
      · rw [hb, upd_same, upd_same]
      · rw [upd_ne hb, upd_ne hb]
        by_cases hba : b = a
        · rw [hba, del_same, ha]
        · rw [del_ne hba, upd_ne hb, upd_ne hba, upd_ne hb, upd_ne hba]
    rw [eq]
    exact z
end
theorem mono_var (i : Nat) : ∀ (σ : L2.St) (H : Hp) (Q Q' : VK), (∀ v H', Q v H' → Q' v H') → tVar i σ H Q → tVar i σ H Q' := fun _ _ _ _ h ⟨v, e, q⟩ => ⟨v, e, h _ _ q⟩
theorem mono_c (v : V) : ∀ (σ : L2.St) (H : Hp) (Q Q' : VK), (∀ v H', Q v H' → Q' v H') → tC v σ H Q → tC v σ H Q' := fun _ _ _ _ h q => h _ _ q
end K0
set_option Elab.async false
set_option linter.all false
set_option maxRecDepth 100000
set_option maxHeartbeats 2000000
namespace K0
open PySem PySem.Spec PyProof.Rows L2
abbrev s_check_number : Stmt := top 13
abbrev s_check_thing : Stmt := top 14
/-- a def of the program as it stands: its name, its promise -/
structure Df (P : Program) (w : World) (K : PySem.W.Frag) (mg : Str → Option Value) (base : Heap) (x : Str) (k : Nat) (ps : List Str) (sp : Sp) : Prop where
  ex : ∃ (f : Addr) (fd : FuncData), mg x = some (.ref f) ∧ PySem.W.keepIn K (.ref f) = true ∧ FnOk P w K mg base (L2.CX P w) k f fd ps sp ∧ Binds K fd ps []
/-- the call of such a def -/
theorem pe_df {X : Cx} {x : Str} {k : Nat} {ps : List Str} {sp : Sp} {E : XK} {e : Expr} {es : List Expr} {t : TA} {p pos : Pos} (T : Df X.prog X.w X.K X.mg X.base x k ps sp) (hr : Room k X.A) (hg : Gl X x) (hx : Passes (L2.CX X.prog X.w) X E) (ha : PA X (e :: es) t)
    (hdb : (x == ("__debug__" : Str)) = false := by decide) (he : starEach (e :: es) X.env = (false, eval e X.env) :: starEach es X.env := by rfl) (hpl : (backTo pos (starEach es X.env)).any (·.1) = false := by rfl) :
    PE X (.Call (.Name x p) (e :: es) [] pos) (tCall sp [] E t) := by
  obtain ⟨f, fd, g, kp, F, b⟩ := T.ex
  exact pe_call F hr hg g kp b .nil hx ha hdb he hpl
section
variable {P : Program} {w : World} {K : PySem.W.Frag} {mg : Str → Option Value} {base : Heap} {f : Addr} {fd : FuncData}
/-- a raise of the error at C, with these fields -/
def Rz (C : Addr) (fs : List (Str × V)) (H : Hp) (E : XK) : Prop := ∀ H' d, Same H H' → H' d = some (.xd fs) → E (.ref C) (some d) H'
theorem Rz.at {C : Addr} {fs : List (Str × V)} {H H1 : Hp} {E : XK} (r : Rz C fs H E) (s : Same H H1) {d : Addr} (n : H1 d = none) : E (.ref C) (some d) (upd H1 d (.xd fs)) := r _ d (s.trans (same_upd n)) upd_same
def isTh (n : Int) : PyData → Bool
  | .int i => decide (0 ≤ i ∧ i < n)
  | _ => false
def spTh : Sp := fun vs H Q _ => ∃ n v d, vs = [.int n, v] ∧ Dt H v d ∧ Ret (.bl (isTh n d)) H Q
theorem sc_th : FnScope ["many", "value"] ["many", "value"] (defScope s_is_thing) := ⟨rfl, rfl, rfl, by decide +kernel, rfl, by decide +kernel, by decide +kernel⟩
theorem ok_th (F : Fun K "is_thing" "is_thing" s_is_thing f fd) (I : Df P w K mg base "is_int" 1 ["value"] spInt) : FnOk P w K mg base (L2.CX P w) 2 f fd ["many", "value"] spTh := by
  refine F.okX sc_th (fun vs H Q E h => ?_) (fun cdv A outer s H vs Q E hr h => ?_)
  · obtain ⟨n, v, d, rfl, _⟩ := h
    rfl
  · obtain ⟨n, v, d, rfl, hv, q⟩ := h
    refine ⟨_, pss_one (ps_ret (pe_and (pe_df I hr (by rfl) passUp (pa_cons (pv 1) pa_nil)) (pe_one (pe_chain op_le op_lt pe_int (pv 1) (pv 0))))), ?_⟩
    refine ⟨_, rfl, v, d, rfl, hv, ?_⟩
    cases hv with
    | int i =>
      refine ⟨_, rfl, iteT ⟨_, rfl, _, _, rfl, rfl, _, rfl, ?_⟩⟩
      by_cases h0 : 0 ≤ i
      · rw [decide_eq_true h0]
        refine iteT ⟨_, rfl, _, _, rfl, rfl, ?_⟩
        have e : isTh n (.int i) = decide (i < n) := by
          show decide (0 ≤ i ∧ i < n) = decide (i < n)
          simp [h0]
        rw [e] at q
        exact q.now
      · rw [decide_eq_false h0]
        have e : isTh n (.int i) = false := by
          show decide (0 ≤ i ∧ i < n) = false
          simp [h0]
        rw [e] at q
        exact iteF q.now
    | non => exact ⟨_, rfl, iteF q.now⟩
    | bl b => exact ⟨_, rfl, iteF q.now⟩
    | str b => exact ⟨_, rfl, iteF q.now⟩
    | lst e h => exact ⟨_, rfl, iteF q.now⟩
    | tup e h => exact ⟨_, rfl, iteF q.now⟩
/-- check_thing: the thing itself, or BadThing of it -/
def spCt (C : Addr) : Sp := fun vs H Q E => ∃ n v d, vs = [.int n, v] ∧ Dt H v d ∧ (isTh n d = true → Ret v H Q) ∧ (isTh n d = false → Rz C [("thing", v)] H E)
theorem sc_ct : FnScope ["many", "thing"] ["many", "thing"] (defScope s_check_thing) := ⟨rfl, rfl, rfl, by decide +kernel, rfl, by decide +kernel, by decide +kernel⟩
theorem ok_ct {C : Addr} (F : Fun K "check_thing" "check_thing" s_check_thing f fd) (I : Df P w K mg base "is_thing" 2 ["many", "value"] spTh) (T : Er P w K mg base "BadThing" C ["thing"] ["self", "thing"] (spE1 C "thing")) :
    FnOk P w K mg base (L2.CX P w) 3 f fd ["many", "thing"] (spCt C) := by
  refine F.okX sc_ct (fun vs H Q E h => ?_) (fun cdv A outer s H vs Q E hr h => ?_)
  · obtain ⟨n, v, d, rfl, _⟩ := h
    rfl
  · obtain ⟨n, v, d, rfl, hv, q1, q2⟩ := h
    refine ⟨_, pss_cons (ps_if (pt_not (pt_val (pe_df I hr (by rfl) passUp (pa_cons (pv 0) (pa_cons (pv 1) pa_nil)))))
      (pss_one (ps_rz1 rfl (takes_of rfl rfl rfl rfl) T hr (by rfl) (pv 1) (mono_var 1))) pss_nil) (pss_one (ps_ret (pv 1))), ?_⟩
    refine ⟨_, rfl, _, rfl, n, v, d, rfl, hv, fun H' sm => ⟨_, rfl, ?_⟩⟩
    cases e : isTh n d with
    | true => exact iteF ⟨_, rfl, q1 e H' sm⟩
    | false => exact iteT ⟨_, rfl, fun dd nd => (q2 e).at sm nd⟩
end
end K0
set_option Elab.async false
set_option linter.all false
set_option maxRecDepth 100000
set_option maxHeartbeats 2000000
namespace K0
open PySem PySem.Spec PyProof.Rows L2
section
variable {P : Program} {w : World} {K : PySem.W.Frag} {mg : Str → Option Value} {base : Heap} {f : Addr} {fd : FuncData}
/-- check_number(value, name, least): the value, or BadNumber of the name -/
def okN (l : Int) : PyData → Bool
  | .int i => decide (l ≤ i)
  | _ => false
def spCn (C : Addr) : Sp := fun vs H Q E => ∃ (v : V) (d : PyData) (x : Str) (l : Int), vs = [v, .str x, .int l] ∧ Dt H v d ∧ (okN l d = true → Q v H) ∧ (okN l d = false → Rz C [("name", .str x)] H E)
theorem sc_cn : FnScope ["value", "name", "least"] ["value", "name", "least"] (defScope s_check_number) := ⟨rfl, rfl, rfl, by decide +kernel, rfl, by decide +kernel, by decide +kernel⟩
theorem ok_cn {C : Addr} (F : FunD K "check_number" "check_number" (defArgs s_check_number) (defBody s_check_number) (defScope s_check_number) [.int 0] [] f fd) (I : Df P w K mg base "is_int" 1 ["value"] spInt) (T : Er P w K mg base "BadNumber" C ["name"] ["self", "name"] (spE1 C "name")) :
    FnOk P w K mg base (L2.CX P w) 3 f fd ["value", "name", "least"] (spCn C) := by
  refine F.ok sc_cn (fun vs H Q E h => ?_) (fun cdv A outer s H vs Q E hr h => ?_)
  · obtain ⟨v, d, x, l, rfl, _⟩ := h
    rfl
  · obtain ⟨v, d, x, l, rfl, hv, q1, q2⟩ := h
    have hr1 : Room 1 _ := hr.mono (by decide)
    refine ⟨_, pss_cons (ps_if (PW.pt (pw_or (pt_not (pt_val (pe_df I hr1 (by rfl) passUp (pa_cons (pv 0) pa_nil)))) (pw_or1 (pt_cmpR op_lt (pv 0) (pv 2) (nomark _)))))
      (pss_one (ps_rz1 rfl (takes_of rfl rfl rfl rfl) T hr (by rfl) (pv 1) (mono_var 1))) pss_nil) (pss_one (ps_ret (pv 0))), ?_⟩
    refine ⟨_, rfl, v, d, rfl, hv, _, rfl, ?_⟩
    cases hv with
    | int i =>
      refine iteF ⟨_, rfl, _, rfl, _, _, rfl, rfl, _, rfl, ?_⟩
      by_cases c : i < l
      · rw [decide_eq_true c]
        have e : okN l (.int i) = false := by
          show decide (l ≤ i) = false
          simp [c]
        exact iteT ⟨_, rfl, fun dd nd => (q2 e).at (Same.refl _) nd⟩
      · rw [decide_eq_false c]
        have e : okN l (.int i) = true := by
          show decide (l ≤ i) = true
          simp
          omega
        exact iteF ⟨_, rfl, q1 e⟩
    | non => exact iteT ⟨_, rfl, fun dd nd => (q2 rfl).at (Same.refl _) nd⟩
    | bl b => exact iteT ⟨_, rfl, fun dd nd => (q2 rfl).at (Same.refl _) nd⟩
    | str b => exact iteT ⟨_, rfl, fun dd nd => (q2 rfl).at (Same.refl _) nd⟩
    | lst e h => exact iteT ⟨_, rfl, fun dd nd => (q2 rfl).at (Same.refl _) nd⟩
    | tup e h => exact iteT ⟨_, rfl, fun dd nd => (q2 rfl).at (Same.refl _) nd⟩
theorem th_int {n : Int} {H : Hp} {v : V} {d : PyData} (h : Dt H v d) (t : isTh n d = true) : ∃ i, v = .int i ∧ d = .int i ∧ 0 ≤ i ∧ i < n := by
  cases h with
  | int i =>
    have z : 0 ≤ i ∧ i < n := of_decide_eq_true t
    exact ⟨i, rfl, rfl, z⟩
  | non => cases t
  | bl b => cases t
  | str b => cases t
  | lst e h => cases t
  | tup e h => cases t
end
end K0
set_option Elab.async false
set_option linter.all false
set_option maxRecDepth 100000
set_option maxHeartbeats 2000000
/-! a set of tuples of ints that grows item by item -/
namespace K0
open PySem PySem.Spec PyProof.Rows L2
section
variable {X : Cx}
theorem cr_setT0 : CallR X (.type "set") (fun xs H Q => xs = [] ∧ ∀ p, H p = none → Q (.ref p) (upd H p (SetTO X.prog X.w p []))) := by
  intro pins s σ H xs us Q I r h
  obtain ⟨rfl, q⟩ := h
  cases r
  refine setR_new fun _ => ?_
  have get : (s.heap.push { cls := .type "set", dict := none, data := .set #[] 0 (.fresh 0 0 (!X.w.params.followText "set-order")) }).get? s.heap.objs.size = some { cls := .type "set", dict := none, data := .set #[] 0 (.fresh 0 0 (!X.w.params.followText "set-order")) } := Heap.get?_push_size _ rfl
  have R := setTR_fresh (P := X.prog) (w := X.w) get
  exact ⟨.ref _, _, I.laid (t' := s.toks) (fun b u e => Heap.get?_push_of_some _ e) (Nat.le_refl _) (setTO_new R.t0), rfl, q _ (I.hok.fresh (Nat.le_refl _))⟩
/-- what is asked ahead of found.add(t) -/
def rTAdd (K : PySem.W.Frag) (P : Program) (w : World) : V → List V → Hp → VK → Prop := fun x xs H Q => ∃ (a b : Addr) (k : List Int) (L : List (Addr × List Int)), x = V.ref a ∧ xs = [V.ref b] ∧ H a = some (SetTO P w a L) ∧
  (∀ p ∈ L, SqT K H p.1 (p.2.map V.int)) ∧ SqT K H b (k.map V.int) ∧ L.length + 1 < 64 ∧
  ∀ L', (k ∈ L.map (·.2) → L' = L) → (k ∉ L.map (·.2) → L'.Perm ((b, k) :: L)) → Q .non (upd H a (SetTO P w a L'))
theorem mt_tadd (hu : X.A.units + 64 < cLine) : MtR X "set.add" (rTAdd X.K X.prog X.w) := by
  intro pins s σ H x xs v us Q I rx rxs h
  obtain ⟨a, b, k, L, rfl, rfl, ha, hL, hb, few, q⟩ := h
  cases rx
  rw [Vals.ref1 rxs]
  have R0 : SetT0 X.prog X.w s.heap a L := (I.hok a _ ha).1
  obtain ⟨es, ep, t, R⟩ := R0.full fun p hp => I.isT (hL p hp)
  obtain ⟨o, ho, hex, hd⟩ := R.ob
  have tid : s.TypeIs (.ref a) "set" := ⟨o, ho, hex.1⟩
  refine wpAny_call_entry PySem.F.slot_set_add tid PySem.F.entry_set_add ?_ (PySem.F.args_set_add_2 _ _)
  unfold Builtin.«set.add» Builtin.Frozenset.oneOther
  simp only [List.isEmpty_nil, bind_assoc]
  unfold Builtin.Frozenset.addrOf setAdd
  refine wpAny_bind (wpAny_pure ?_)
  try dsimp only
  refine wpAny_bind (wpAny_pure ?_)
  try dsimp only
  refine wpAny_bind ?_
  refine wpAny_holding ?_
  have hx := I.isT hb
  have hin : ∀ B : Around, B.units ≤ X.A.units + 8 → B.units < cLine := fun B h => by omega
  refine wpAny_bind (wpAny_pyHash_tuple (ks := k) (hin _ ?_) hx ?_)
  · first | exact Nat.le_add_right _ 8 | (show X.A.units + 1 ≤ X.A.units + 8; omega)
  refine add_at (s := { s with toks := s.toks + (k.length + 1) }) R hx (hin _ ?_) few fun bb h' L' es' ep' t' hsb hS2 c1 c2 => ?_
  case _ => first | exact Nat.le_add_right _ 8 | (show X.A.units + 1 ≤ X.A.units + 8; omega)
  show wpAny _ _ (ret Value.none) _ _ _
  have he : ∃ u, h'.get? a = some u := by
    obtain ⟨o2, ho2, _⟩ := hS2.ob
    exact ⟨o2, ho2⟩
  exact wpAny_pure ⟨_, rfl, .non, _, I.write (e := a) (t' := s.toks + (k.length + 1)) (by rw [ha]; trivial) (.inl rfl) (fun b u hb hu => (hsb.2 b hb).trans hu) he (setTO_new hS2.t0), rfl, q L' c1 c2⟩
def tTAdd (K : PySem.W.Frag) (P : Program) (w : World) (to : TE) (t : TA) : TE := fun σ H Q => to σ H fun x H1 => (∃ a L, x = V.ref a ∧ H1 a = some (SetTO P w a L)) ∧ t σ H1 fun xs H2 => rTAdd K P w x xs H2 Q
variable {o e : Expr} {es : List Expr} {to : TE} {t : TA} {apos cpos : Pos}
theorem pe_tadd (hu : X.A.units + 64 < cLine) (ho : PE X o to) (ha : PA X (e :: es) t)
    (hbase : attributeBase o "add" X.env (eval o X.env) = eval o X.env := by rfl)
    (hfew : ((backTo cpos (starEach (e :: es) X.env)).all (fun x => !x.1) && (backToKw cpos (keywordEach [] X.env)).all (fun x => x.1.isSome) && decide ((e :: es).length + ([] : List Keyword).length + (if ([] : List Keyword).isEmpty then 0 else 1) < 30)) = true := by rfl)
    (hline : (apos.endLine == cpos.line) = true := by rfl) (hs : starEach (e :: es) X.env = (false, eval e X.env) :: starEach es X.env := by rfl) (hplain : (backTo cpos (starEach es X.env)).any (·.1) = false := by rfl) :
    PE X (.Call (.Attribute o "add" apos) (e :: es) [] cpos) (tTAdd X.K X.prog X.w to t) := by
  refine ⟨fun pins s σ H Q I h => ?_⟩
  refine wpAny_Call_method_late hbase hfew hline rfl (thn (ho.run pins s σ H _ I h) fun v s1 ⟨x, H1, I1, r1, ty, q1⟩ => ?_)
  obtain ⟨a, L, rfl, hka⟩ := ty
  obtain ⟨es', ep', t', ⟨ob, hob, hex, hdd⟩, _⟩ := SetT0.ex (I1.hok a _ hka).1
  cases r1
  refine ⟨"set", "set.add", PySem.F.plainAttrs_set, PySem.F.slot_set_add, PySem.F.type_set_add, ⟨ob, hob, hex.1⟩, (fun z hz => by cases hz; exact ⟨ob, hob, hex.2.1⟩), ?_⟩
  have hA := ha.run cpos pins s1 σ H1 _ I1 q1
  rw [hs] at hA ⊢
  refine Calls.callWith_builtin (by show (false || (backTo cpos (starEach es X.env)).any (·.1)) = false; rw [hplain]; rfl) (Calls.evalArgs_plain ?_)
  exact thn hA fun us s2 ⟨vs, H2, I2, r2, q2⟩ => mt_tadd hu pins s2 σ H2 (.ref a) vs (.ref a) us Q I2 rfl r2 q2
end
end K0
set_option Elab.async false
set_option linter.all false
set_option maxRecDepth 100000
set_option maxHeartbeats 2000000
namespace K0
open PySem PySem.Spec PyProof.Rows L2
/-! ### plain facts -/
theorem bor_nat (a b : Nat) : Builtin.bitOr (a : Int) (b : Int) = ((a ||| b : Nat) : Int) := by
  have h1 : ¬ 0 ≤ Builtin.bitNot (a : Int) := by unfold Builtin.bitNot; omega
  have h2 : ¬ 0 ≤ Builtin.bitNot (b : Int) := by unfold Builtin.bitNot; omega
  have n : ∀ c : Nat, Builtin.bitNot (Builtin.bitNot (c : Int)) = (c : Int) := fun c => by unfold Builtin.bitNot; omega
  unfold Builtin.bitOr
  rw [bitAnd_nn h1 h2, n, n, n, Int.toNat_natCast, Int.toNat_natCast]
theorem len_sub {α : Type} [DecidableEq α] : ∀ (l m : List α), l.Nodup → (∀ x ∈ l, x ∈ m) → l.length ≤ m.length
  | [], _, _, _ => Nat.zero_le _
  | a :: l, m, hn, hs => by
    have ha : a ∈ m := hs a List.mem_cons_self
    obtain ⟨hna, hnl⟩ := List.nodup_cons.mp hn
    have ih := len_sub l (m.erase a) hnl fun x hx => (List.mem_erase_of_ne (fun e => hna (by rw [← e]; exact hx))).mpr (hs x (List.mem_cons_of_mem _ hx))
    rw [List.length_erase_of_mem ha] at ih
    have := List.length_pos_of_mem ha
    rw [List.length_cons]
    omega
/-! ### pairs -/
abbrev Pr := Int × Int
/-- below, as tuples are -/
def plt (p q : Pr) : Prop := p.1 < q.1 ∨ (p.1 = q.1 ∧ p.2 < q.2)
theorem plt_irrefl {p : Pr} : ¬ plt p p := by unfold plt; omega
theorem plt_asymm {p q : Pr} (h : plt p q) : ¬ plt q p := by unfold plt at *; omega
theorem srt_unique : ∀ {l m : List Pr}, l.Pairwise plt → m.Pairwise plt → (∀ x, x ∈ l ↔ x ∈ m) → l = m
  | [], [], _, _, _ => rfl
  | [], b :: m, _, _, h => by cases (h b).mpr List.mem_cons_self
  | a :: l, [], _, _, h => by cases (h a).mp List.mem_cons_self
  | a :: l, b :: m, hl, hm, h => by
    obtain ⟨al, ll⟩ := List.pairwise_cons.mp hl
    obtain ⟨bm, mm⟩ := List.pairwise_cons.mp hm
    have e : a = b := by
      rcases List.mem_cons.mp ((h a).mp List.mem_cons_self) with e | e
      · exact e
      rcases List.mem_cons.mp ((h b).mpr List.mem_cons_self) with e2 | e2
      · exact e2.symm
      exact absurd (al b e2) (plt_asymm (bm a e))
    subst e
    rw [srt_unique ll mm fun x => ⟨fun hx => ?_, fun hx => ?_⟩]
    · rcases List.mem_cons.mp ((h x).mp (List.mem_cons_of_mem _ hx)) with e | e
      · rw [e] at hx
        exact absurd (al a hx) plt_irrefl
      · exact e
    · rcases List.mem_cons.mp ((h x).mpr (List.mem_cons_of_mem _ hx)) with e | e
      · rw [e] at hx
        exact absurd (bm a hx) plt_irrefl
      · exact e
/-- all pairs x < y < n stand among these -/
def code8 : List Pr := (List.range 16).flatMap fun (x : Nat) => ((List.range 16).filter fun (y : Nat) => decide (x < y)).map fun (y : Nat) => ((x : Int), (y : Int))
theorem code8_len : code8.length = 120 := by decide +kernel
theorem mem_code8 {p : Pr} (h : 0 ≤ p.1 ∧ p.1 < p.2 ∧ p.2 < 16) : p ∈ code8 := by
  obtain ⟨x, y⟩ := p
  obtain ⟨h1, h2, h3⟩ := h
  obtain ⟨a, rfl⟩ := Int.eq_ofNat_of_zero_le h1
  obtain ⟨b, rfl⟩ := Int.eq_ofNat_of_zero_le (show (0 : Int) ≤ y by omega)
  unfold code8
  refine List.mem_flatMap.mpr ⟨a, List.mem_range.mpr (by omega), List.mem_map.mpr ⟨b, List.mem_filter.mpr ⟨List.mem_range.mpr (by omega), decide_eq_true (by omega)⟩, rfl⟩⟩
/-- a row of clashes as a web holds it -/
structure Cl (n : Int) (q : List Pr) : Prop where
  srt : q.Pairwise plt
  rng : ∀ p ∈ q, 0 ≤ p.1 ∧ p.1 < p.2 ∧ p.2 < n
theorem pairwise_nodup {l : List Pr} (h : l.Pairwise plt) : l.Nodup := List.Pairwise.imp (R := plt) (S := fun a b => a ≠ b) (fun {a b} hab e => plt_irrefl (p := b) (by rw [e] at hab; exact hab)) h
theorem few28 {n : Int} {q : List Pr} (hn : n ≤ 16) (nd : q.Nodup) (rng : ∀ p ∈ q, 0 ≤ p.1 ∧ p.1 < p.2 ∧ p.2 < n) : q.length ≤ 120 := by
  rw [← code8_len]
  exact len_sub q code8 nd fun p hp => mem_code8 ⟨(rng p hp).1, (rng p hp).2.1, Int.lt_of_lt_of_le (rng p hp).2.2 hn⟩
theorem Cl.few {n : Int} {q : List Pr} (h : Cl n q) (hn : n ≤ 16) : q.length ≤ 120 := few28 hn (pairwise_nodup h.srt) h.rng
/-! ### what an entry of clashes is worth -/
def pairOf : PyData → Option (PyData × PyData)
  | .list [x, y] => some (x, y)
  | .tuple [x, y] => some (x, y)
  | _ => none
def entOf (n : Int) (d : PyData) : Except (PyData × PyData) Pr :=
  match pairOf d with
  | none => .error (.none, .none)
  | some (.int x, .int y) => if 0 ≤ x ∧ x < n ∧ 0 ≤ y ∧ y < n ∧ x ≠ y then .ok (min x y, max x y) else .error (.int x, .int y)
  | some (x, y) => .error (x, y)
/-- all entries, or the first bad one -/
def entsOf (n : Int) : List PyData → Except (PyData × PyData) (List Pr)
  | [] => .ok []
  | d :: r => match entOf n d with
    | .error e => .error e
    | .ok p => match entsOf n r with
      | .error e => .error e
      | .ok ps => .ok (p :: ps)
theorem entsOf_app {n : Int} : ∀ {ds es : List PyData} {ps : List Pr}, entsOf n ds = .ok ps → entsOf n (ds ++ es) = (match entsOf n es with | .error e => .error e | .ok qs => .ok (ps ++ qs))
  | [], es, ps, h => by
    cases h
    show entsOf n es = _
    cases entsOf n es <;> rfl
  | d :: r, es, ps, h => by
    rw [entsOf] at h
    rw [List.cons_append, entsOf]
    cases e : entOf n d with
    | error x => rw [e] at h; cases h
    | ok p =>
      rw [e] at h
      dsimp only at h ⊢
      cases e2 : entsOf n r with
      | error x => rw [e2] at h; cases h
      | ok qs =>
        rw [e2] at h
        cases h
        rw [entsOf_app e2]
        cases entsOf n es <;> rfl
theorem entOf_rng {n : Int} {d : PyData} {p : Pr} (h : entOf n d = .ok p) : 0 ≤ p.1 ∧ p.1 < p.2 ∧ p.2 < n := by
  unfold entOf at h
  split at h
  · cases h
  · split at h
    · cases h
      dsimp only
      omega
    · cases h
  · cases h
theorem pairOf_is (d : PyData) : isPairD d = (pairOf d).isSome := by
  unfold isPairD pairOf
  cases d with
  | list xs =>
    match xs with
    | [] => rfl
    | [_] => rfl
    | [_, _] => rfl
    | _ :: _ :: _ :: r => simp
  | tuple xs =>
    match xs with
    | [] => rfl
    | [_] => rfl
    | [_, _] => rfl
    | _ :: _ :: _ :: r => simp
  | _ => rfl
end K0
set_option Elab.async false
set_option linter.all false
set_option maxRecDepth 100000
set_option maxHeartbeats 2000000
namespace K0
open PySem PySem.Spec PyProof.Rows L2
abbrev s_cc : Stmt := top 41
theorem pi_or {X : Cx} {tg it : Expr} {w1 w2 : TI} (h1 : PI X tg it w1) (h2 : PI X tg it w2) : PI X tg it (fun σ H R => w1 σ H R ∨ w2 σ H R) := ⟨fun pins s σ H R I h => h.elim (h1.run pins s σ H R I) (h2.run pins s σ H R I)⟩
theorem pg_or {X : Cx} {tg : Expr} {w1 w2 : TG} (h1 : PG X tg w1) (h2 : PG X tg w2) : PG X tg (fun v σ H Q => w1 v σ H Q ∨ w2 v σ H Q) := ⟨fun pins s σ H v u Q I r h => h.elim (h1.run pins s σ H v u Q I r) (h2.run pins s σ H v u Q I r)⟩
/-- a list or tuple of data, or the () that the program was loaded with -/
inductive Sq (K : PySem.W.Frag) (H : Hp) (a : Addr) (ds : List PyData) : Prop where
  | lst {xs : List V} (e : H a = some (.lst xs)) (h : DtAll H xs ds)
  | tup {xs : List V} (e : H a = some (.tup xs)) (h : DtAll H xs ds)
  | kon (e : ∀ H' : Hp, SqT K H' a []) (z : ds = [])
  | frz {o : Obj} {xs : List V} (e : H a = some (.frz o (.tup xs))) (h : DtAll H xs ds)
theorem Sq.mono {K : PySem.W.Frag} {H H' : Hp} (s : Same H H') {a : Addr} {ds : List PyData} : Sq K H a ds → Sq K H' a ds
  | .lst e h => .lst (s _ _ e) (h.mono s)
  | .tup e h => .tup (s _ _ e) (h.mono s)
  | .kon e z => .kon e z
  | .frz e h => .frz (s _ _ e) (h.mono s)
theorem SqT.frz {K : PySem.W.Frag} {H : Hp} {a : Addr} {o : Obj} {xs : List V} (e : H a = some (.frz o (.tup xs))) : SqT K H a xs := .inl (.inr ⟨o, e⟩)
def prD (p : Pr) : PyData := .tuple [.int p.1, .int p.2]
theorem dt_pr {H : Hp} {t : Addr} {p : Pr} (h : H t = some (.tup [.int p.1, .int p.2])) : Dt H (.ref t) (prD p) := .tup h (.cons (.int _) (.cons (.int _) .nil))
theorem dtAll_prs {H : Hp} : ∀ {l : List (Addr × Pr)}, (∀ z ∈ l, H z.1 = some (.tup [.int z.2.1, .int z.2.2])) → DtAll H (l.map fun z => V.ref z.1) (l.map fun z => prD z.2)
  | [], _ => .nil
  | z :: r, h => .cons (dt_pr (h z List.mem_cons_self)) (dtAll_prs fun y hy => h y (List.mem_cons_of_mem _ hy))
section
variable {P : Program} {w : World} {K : PySem.W.Frag} {mg : Str → Option Value} {base : Heap} {f : Addr} {fd : FuncData}
structure Blt2 (mg : Str → Option Value) : Prop extends Blt mg where
  set : mg "set" = none
  min : mg "min" = none
  max : mg "max" = none
  sorted : mg "sorted" = none
  range : mg "range" = none
  enum : mg "enumerate" = none
  repr : mg "repr" = none
  iter : mg "iter" = none
/-- a new tuple of the pairs q -/
def NewQ (q : List Pr) (H : Hp) (Q : VK) : Prop := ∀ H' a xs, Same H H' → H a = none → H' a = some (.tup xs) → (∃ l : List (Addr × Pr), xs = l.map (fun z => V.ref z.1) ∧ q = l.map (·.2) ∧ ∀ z ∈ l, H z.1 = none ∧ H' z.1 = some (.tup [.int z.2.1, .int z.2.2])) → Q (.ref a) H'
/-- checked_clashes: the clashes as a web holds them, or BadWeb of the first bad entry -/
def spCC (K : PySem.W.Frag) (C : Addr) : Sp := fun vs H Q E => ∃ n a ds, vs = [.int n, .ref a] ∧ n ≤ 16 ∧ ds.length ≤ 62 ∧ Sq K H a ds ∧
  (∀ ps, entsOf n ds = .ok ps → ∀ q, Cl n q → (∀ p, p ∈ q ↔ p ∈ ps) → NewQ q H Q) ∧
  (∀ x y, entsOf n ds = .error (x, y) → ∀ H' d vx vy, Same H H' → Dt H' vx x → Dt H' vy y → H' d = some (.xd [("y", vy), ("x", vx)]) → E (.ref C) (some d) H')
/-- behind some items: the set at s holds the pairs ps, its tuples at their places -/
structure Sofar (P : Program) (w : World) (H0 H : Hp) (s : Addr) (n : Int) (ps : List Pr) : Prop where
  same : Same H0 H
  new : H0 s = none
  set : ∃ L : List (Addr × List Int), H s = some (SetTO P w s L) ∧ (L.map (·.2)).Nodup ∧ (∀ z ∈ L, H0 z.1 = none ∧ H z.1 = some (.tup (z.2.map V.int)) ∧ ∃ p ∈ ps, z.2 = [p.1, p.2]) ∧ ∀ p ∈ ps, ([p.1, p.2] : List Int) ∈ L.map (·.2)
theorem pair_at {H : Hp} {v : V} {d dx dy : PyData} (h : Dt H v d) (e : pairOf d = some (dx, dy)) : ∃ a vx vy, v = .ref a ∧ (H a = some (.tup [vx, vy]) ∨ H a = some (.lst [vx, vy])) ∧ Dt H vx dx ∧ Dt H vy dy := by
  cases h with
  | @lst a xs ds ea h =>
    match ds, h, e with
    | [_, _], .cons h1 (.cons h2 .nil), e =>
      cases e
      exact ⟨a, _, _, rfl, .inr ea, h1, h2⟩
  | @tup a xs ds ea h =>
    match ds, h, e with
    | [_, _], .cons h1 (.cons h2 .nil), e =>
      cases e
      exact ⟨a, _, _, rfl, .inl ea, h1, h2⟩
  | non => cases e
  | bl b => cases e
  | int i => cases e
  | str x => cases e
theorem Sofar.start {H : Hp} {s : Addr} {n : Int} (ns : H s = none) : Sofar P w H (upd H s (SetTO P w s [])) s n [] :=
  ⟨same_upd ns, ns, [], upd_same, List.nodup_nil, fun z hz => (by cases hz), fun p hp => (by cases hp)⟩
theorem Sofar.far {H0 H H1 : Hp} {s : Addr} {n : Int} {ps : List Pr} (h : Sofar P w H0 H s n ps) (e : Same H H1) : Sofar P w H0 H1 s n ps := by
  obtain ⟨L, h1, h2, h3, h4⟩ := h.set
  exact ⟨h.same.trans e, h.new, L, e _ _ h1, h2, fun z hz => ⟨(h3 z hz).1, e _ _ (h3 z hz).2.1, (h3 z hz).2.2⟩, h4⟩
/-- the set holds few -/
theorem Sofar.few {H0 H : Hp} {s : Addr} {n : Int} {ps : List Pr} {L : List (Addr × List Int)} (nd : (L.map (·.2)).Nodup) (hL : ∀ z ∈ L, ∃ p ∈ ps, z.2 = [p.1, p.2]) : L.length ≤ ps.length := by
  let g : Addr × List Int → Pr := fun z => (z.2.getD 0 0, z.2.getD 1 0)
  have hg : ∀ z ∈ L, g z ∈ ps ∧ z.2 = [(g z).1, (g z).2] := fun z hz => by
    obtain ⟨p, hp, e⟩ := hL z hz
    have eg : g z = p := by
      show (z.2.getD 0 0, z.2.getD 1 0) = p
      rw [e]
      rfl
    rw [eg]
    exact ⟨hp, e⟩
  have nd2 : (L.map g).Nodup := by
    refine List.pairwise_map.mpr ?_
    refine List.Pairwise.imp_of_mem (fun {a b} ha hb hne e => ?_) (List.pairwise_map.mp nd)
    refine hne ?_
    rw [(hg a ha).2, (hg b hb).2, e]
  have := len_sub (L.map g) ps nd2 fun p hp => by
    obtain ⟨z, hz, e⟩ := List.mem_map.mp hp
    rw [← e]
    exact (hg z hz).1
  rw [List.length_map] at this
  exact this
theorem Sofar.add {H0 H : Hp} {s b : Addr} {n : Int} {ps : List Pr} {p : Pr} {L L' : List (Addr × List Int)} (hS : H0 s = none) (sm : Same H0 H) (h1 : H s = some (SetTO P w s L)) (h2 : (L.map (·.2)).Nodup)
    (h3 : ∀ z ∈ L, H0 z.1 = none ∧ H z.1 = some (.tup (z.2.map V.int)) ∧ ∃ p ∈ ps, z.2 = [p.1, p.2]) (h4 : ∀ p ∈ ps, ([p.1, p.2] : List Int) ∈ L.map (·.2)) (hb : H0 b = none) (hbt : H b = some (.tup [.int p.1, .int p.2]))
    (c1 : ([p.1, p.2] : List Int) ∈ L.map (·.2) → L' = L) (c2 : ([p.1, p.2] : List Int) ∉ L.map (·.2) → L'.Perm ((b, [p.1, p.2]) :: L)) : Sofar P w H0 (upd H s (SetTO P w s L')) s n (ps ++ [p]) := by
  have sm2 : Same H0 (upd H s (SetTO P w s L')) := fun c o e => by
    rw [upd_ne (ne_of_none e hS)]
    exact sm c o e
  have tup_ne : ∀ {c : Addr} {xs : List V}, H c = some (.tup xs) → c ≠ s := fun {c xs} e z => by
    rw [z, h1] at e
    cases e
  by_cases m : ([p.1, p.2] : List Int) ∈ L.map (·.2)
  · have e := c1 m
    subst e
    refine ⟨sm2, hS, _, upd_same, h2, fun z hz => ?_, fun q hq => ?_⟩
    · obtain ⟨a1, a2, q, hq, a3⟩ := h3 z hz
      exact ⟨a1, by rw [upd_ne (tup_ne a2)]; exact a2, q, List.mem_append_left _ hq, a3⟩
    · rcases List.mem_append.mp hq with hq | hq
      · exact h4 q hq
      · rw [List.mem_singleton.mp hq]
        exact m
  · have pm := c2 m
    refine ⟨sm2, hS, _, upd_same, ?_, fun z hz => ?_, fun q hq => ?_⟩
    · refine (pm.map (·.2)).nodup_iff.mpr ?_
      rw [List.map_cons]
      exact List.nodup_cons.mpr ⟨m, h2⟩
    · rcases List.mem_cons.mp (pm.mem_iff.mp hz) with e | hz
      · rw [e]
        exact ⟨hb, by rw [upd_ne (tup_ne hbt)]; exact hbt, p, List.mem_append_right _ (List.mem_singleton.mpr rfl), rfl⟩
      · obtain ⟨a1, a2, q, hq, a3⟩ := h3 z hz
        exact ⟨a1, by rw [upd_ne (tup_ne a2)]; exact a2, q, List.mem_append_left _ hq, a3⟩
    · rw [(pm.map (·.2)).mem_iff, List.map_cons]
      rcases List.mem_append.mp hq with hq | hq
      · exact List.mem_cons_of_mem _ (h4 q hq)
      · rw [List.mem_singleton.mp hq]
        exact List.mem_cons_self
/-- what is sorted at the end -/
theorem Sofar.fin {n : Int} {ps : List Pr} {L L' : List (Addr × List Int)} (hn : n ≤ 16) (rng : ∀ p ∈ ps, 0 ≤ p.1 ∧ p.1 < p.2 ∧ p.2 < n) (hL : ∀ z ∈ L, ∃ p ∈ ps, z.2 = [p.1, p.2]) (all : ∀ p ∈ ps, ([p.1, p.2] : List Int) ∈ L.map (·.2)) (pm : L'.Perm L)
    (nd : (L'.map (·.2)).Nodup) (ord : L'.Pairwise fun q r => TS.code 64 q.2 ≤ TS.code 64 r.2) :
    ∃ l : List (Addr × Pr), L' = l.map (fun z => (z.1, [z.2.1, z.2.2])) ∧ Cl n (l.map (·.2)) ∧ ∀ p, p ∈ l.map (·.2) ↔ p ∈ ps := by
  let g : Addr × List Int → Addr × Pr := fun z => (z.1, z.2.getD 0 0, z.2.getD 1 0)
  have hg : ∀ z ∈ L', (g z).2 ∈ ps ∧ z = ((g z).1, [(g z).2.1, (g z).2.2]) := fun z hz => by
    obtain ⟨p, hp, e⟩ := hL z (pm.mem_iff.mp hz)
    have eg : (g z).2 = p := by
      show (z.2.getD 0 0, z.2.getD 1 0) = p
      rw [e]
      rfl
    refine ⟨by rw [eg]; exact hp, ?_⟩
    rw [eg, ← e]
  have mem : ∀ p, p ∈ (L'.map g).map (·.2) ↔ p ∈ ps := fun p => by
    rw [List.map_map]
    constructor
    · intro hp
      obtain ⟨z, hz, e⟩ := List.mem_map.mp hp
      rw [← e]
      exact (hg z hz).1
    · intro hp
      obtain ⟨z, hz, e⟩ := List.mem_map.mp (all p hp)
      refine List.mem_map.mpr ⟨z, pm.mem_iff.mpr hz, ?_⟩
      show (z.2.getD 0 0, z.2.getD 1 0) = p
      rw [e]
      rfl
  refine ⟨L'.map g, ?_, ⟨?_, fun p hp => rng p ((mem p).mp hp)⟩, mem⟩
  · rw [List.map_map]
    refine (List.map_congr_left fun z hz => ?_).trans (List.map_id _) |>.symm
    exact ((hg z hz).2).symm
  · rw [List.map_map]
    refine List.pairwise_map.mpr ?_
    have both := ord.and (List.pairwise_map.mp nd)
    refine List.Pairwise.imp_of_mem (fun {a b} ha hb hab => ?_) both
    obtain ⟨h1, h2⟩ := hab
    obtain ⟨ra, ea⟩ := hg a ha
    obtain ⟨rb, eb⟩ := hg b hb
    have r1 := rng _ ra
    have r2 := rng _ rb
    rw [ea, eb] at h1 h2
    have z := pair_lt h1 h2 (by omega) (by omega) (by omega) (by omega)
    exact z
end
end K0
set_option Elab.async false
set_option linter.all false
set_option maxRecDepth 100000
set_option maxHeartbeats 4000000
namespace K0
open PySem PySem.Spec PyProof.Rows L2
section
variable {P : Program} {w : World} {K : PySem.W.Frag} {mg : Str → Option Value} {base : Heap} {f : Addr} {fd : FuncData}
theorem sc_cc : FnScope ["many", "clashes", "pairs", "pair", "x", "y"] ["many", "clashes"] (defScope s_cc) := ⟨rfl, rfl, rfl, by decide +kernel, rfl, by decide +kernel, by decide +kernel⟩
theorem take_at {α : Type} {l : List α} {i : Nat} {x : α} (h : l[i]? = some x) : l.take (i + 1) = l.take i ++ [x] := by
  rw [List.take_succ, h]
  rfl
theorem drop_at {α : Type} {l : List α} {i : Nat} {x : α} (h : l[i]? = some x) : l = l.take i ++ x :: l.drop (i + 1) := by
  obtain ⟨hi, e⟩ := List.getElem?_eq_some_iff.mp h
  rw [← e, ← List.drop_eq_getElem_cons hi, List.take_append_drop]
theorem ents_bad {n : Int} {ds : List PyData} {i : Nat} {d : PyData} {ps : List Pr} {x y : PyData} (h1 : entsOf n (ds.take i) = .ok ps) (hd : ds[i]? = some d) (e : entOf n d = .error (x, y)) : entsOf n ds = .error (x, y) := by
  rw [drop_at hd, entsOf_app h1, entsOf, e]
theorem ents_good {n : Int} {ds : List PyData} {i : Nat} {d : PyData} {ps : List Pr} {p : Pr} (h1 : entsOf n (ds.take i) = .ok ps) (hd : ds[i]? = some d) (e : entOf n d = .ok p) : entsOf n (ds.take (i + 1)) = .ok (ps ++ [p]) := by
  rw [take_at hd, entsOf_app h1, entsOf, e]
  rfl
theorem ents_rng {n : Int} : ∀ {ds : List PyData} {ps : List Pr}, entsOf n ds = .ok ps → ∀ p ∈ ps, 0 ≤ p.1 ∧ p.1 < p.2 ∧ p.2 < n
  | [], ps, h => by
    cases h
    exact fun p hp => by cases hp
  | d :: r, ps, h => by
    rw [entsOf] at h
    cases e : entOf n d with
    | error x => rw [e] at h; cases h
    | ok q =>
      rw [e] at h
      dsimp only at h
      cases e2 : entsOf n r with
      | error x => rw [e2] at h; cases h
      | ok qs =>
        rw [e2] at h
        cases h
        intro p hp
        rcases List.mem_cons.mp hp with hp | hp
        · rw [hp]; exact entOf_rng e
        · exact ents_rng e2 p hp
/-- a loop over a list or tuple of data that the body leaves as it is -/
theorem ents_len {n : Int} : ∀ {ds : List PyData} {ps : List Pr}, entsOf n ds = .ok ps → ps.length = ds.length
  | [], ps, h => by
    cases h
    rfl
  | d :: r, ps, h => by
    rw [entsOf] at h
    cases e : entOf n d with
    | error x => rw [e] at h; cases h
    | ok q =>
      rw [e] at h
      dsimp only at h
      cases e2 : entsOf n r with
      | error x => rw [e2] at h; cases h
      | ok qs =>
        rw [e2] at h
        cases h
        rw [List.length_cons, List.length_cons, ents_len e2]
theorem tfor_sq {K : PySem.W.Frag} {i : Nat} {a : Addr} {ds : List PyData} {g : TG} {tb : TS} {D : Ends} {σ : L2.St} {H H0 : Hp} (hv : σ[i]? = some (some (.ref a))) (h : Sq K H0 a ds) (Pv : Nat → L2.St → Hp → Prop) (h0 : Pv 0 σ H)
    (hl : ∀ j σ H', Pv j σ H' → ∀ o, H0 a = some o → H' a = some o)
    (hs : ∀ j v d σ H', ds[j]? = some d → Dt H0 v d → Pv j σ H' → g v σ H' fun σ2 H2 => tb { D with nx := Pv (j + 1), ct := Pv (j + 1), bk := D.nx } σ2 H2) (hd : ∀ σ H', Pv ds.length σ H' → D.nx σ H') :
    tFor (fun σ H R => iList K (tVar i) σ H R ∨ iTup K (tVar i) σ H R) g tb D σ H := by
  cases h with
  | @lst xs e h =>
    refine .inl ⟨_, hv, a, rfl, ⟨xs, SqL.of (hl 0 _ _ h0 _ e)⟩, for_list (K := K) (a := a) (xs := xs) Pv h0 (fun j σ H' _ p => SqL.of (hl j σ H' p _ e)) (fun j v σ H' hj p => ?_) (fun σ H' p => ?_)⟩
    · obtain ⟨d, hd, hdt⟩ := h.at hj
      exact hs j v d σ H' hd hdt p
    · rw [h.len] at p
      exact hd σ H' p
  | @tup xs e h =>
    refine .inr ⟨_, hv, a, rfl, ⟨xs, SqT.of (hl 0 _ _ h0 _ e)⟩, for_tup (K := K) (a := a) (xs := xs) Pv h0 (fun j σ H' _ p => SqT.of (hl j σ H' p _ e)) (fun j v σ H' hj p => ?_) (fun σ H' p => ?_)⟩
    · obtain ⟨d, hd, hdt⟩ := h.at hj
      exact hs j v d σ H' hd hdt p
    · rw [h.len] at p
      exact hd σ H' p
  | @frz o xs e h =>
    refine .inr ⟨_, hv, a, rfl, ⟨xs, SqT.frz (hl 0 _ _ h0 _ e)⟩, for_tup (K := K) (a := a) (xs := xs) Pv h0 (fun j σ H' _ p => SqT.frz (hl j σ H' p _ e)) (fun j v σ H' hj p => ?_) (fun σ H' p => ?_)⟩
    · obtain ⟨d, hd, hdt⟩ := h.at hj
      exact hs j v d σ H' hd hdt p
    · rw [h.len] at p
      exact hd σ H' p
  | kon e z =>
    refine .inr ⟨_, hv, a, rfl, ⟨[], e _⟩, for_tup (K := K) (a := a) (xs := []) Pv h0 (fun j σ H' _ p => e _) (fun j v σ H' hj p => ?_) (fun σ H' p => ?_)⟩
    · cases hj
    · rw [z] at hd
      exact hd σ H' p
theorem entOf_ok {n : Int} {d : PyData} {p : Pr} (h : entOf n d = .ok p) : ∃ i k, pairOf d = some (.int i, .int k) ∧ (0 ≤ i ∧ i < n) ∧ (0 ≤ k ∧ k < n) ∧ i ≠ k := by
  unfold entOf at h
  split at h
  · cases h
  · rename_i x y e
    split at h
    · rename_i c
      exact ⟨x, y, e, ⟨c.1, c.2.1⟩, ⟨c.2.2.1, c.2.2.2.1⟩, c.2.2.2.2⟩
    · cases h
  · cases h
theorem entOf_err {n : Int} {d x y : PyData} (e : pairOf d = some (x, y)) (no : ∀ p, entOf n d ≠ .ok p) : entOf n d = .error (x, y) := by
  cases q : entOf n d with
  | ok p => exact absurd q (no p)
  | error z =>
    unfold entOf at q
    rw [e] at q
    split at q
    · rename_i w; cases w
    · rename_i w
      cases w
      split at q
      · cases q
      · exact q.symm
    · rename_i w
      cases w
      exact q.symm
theorem min2 (x y : Int) : (if y < x then y else x) = min x y := by omega
theorem max2 (x y : Int) : (if y > x then y else x) = max x y := by omega
theorem ok_cc {C : Addr} (F : Fun K "checked_clashes" "checked_clashes" s_cc f fd) (B : Blt2 mg) (IP : Df P w K mg base "is_pair" 1 ["value"] spPair) (TH : Df P w K mg base "is_thing" 2 ["many", "value"] spTh)
    (T : Er P w K mg base "BadWeb" C ["x", "y"] ["self", "x", "y"] (spE2 C "x" "y")) : FnOk P w K mg base (L2.CX P w) 3 f fd ["many", "clashes"] (spCC K C) := by
  refine F.okX sc_cc (fun vs H Q E h => ?_) (fun cdv A outer s H vs Q E hr h => ?_)
  · obtain ⟨n, a, ds, rfl, _⟩ := h
    rfl
  · obtain ⟨n, a, ds, rfl, hn, h62, hs, kq, ke⟩ := h
    have hr1 : Room 1 _ := hr.mono (by decide)
    have hu := hr.units
    have nd := sc_cc.nd
    refine ⟨_, pss_cons (ps_set (i := 2) nd rfl (.inl rfl) (pe_callTy0 cr_setT0 (by rfl) B.set (by decide +kernel)))
      (pss_cons (ps_for (passes_of rfl) rfl (pi_or (pi_list (pv 1)) (pi_tup (pv 1))) (pg_name (i := 3) nd rfl (.inl rfl))
        (pss_cons (ps_if (pt_not (pt_val (pe_df IP hr1 (by rfl) passUp (pa_cons (pv 3) pa_nil)))) (pss_one (ps_rz2 rfl (takes_of rfl rfl rfl rfl) T hr (by rfl) pe_non pe_non (mono_c .non) (mono_c .non))) pss_nil)
        (pss_cons (ps_asg (pv 3) (pg_or (pg_tup rfl (pgs_cons (pg_name (i := 4) nd rfl (.inl rfl)) (pgs_cons (pg_name (i := 5) nd rfl (.inl rfl)) pgs_nil))) (pg_unl rfl (pgs_cons (pg_name (i := 4) nd rfl (.inl rfl)) (pgs_cons (pg_name (i := 5) nd rfl (.inl rfl)) pgs_nil)))))
        (pss_cons (ps_if (PW.pt (pw_or (pt_not (pt_val (pe_df TH hr (by rfl) passUp (pa_cons (pv 0) (pa_cons (pv 4) pa_nil))))) (pw_or (pt_not (pt_val (pe_df TH hr (by rfl) passUp (pa_cons (pv 0) (pa_cons (pv 5) pa_nil))))) (pw_or1 (pt_cmpR op_eq (pv 4) (pv 5) (nomark _))))))
            (pss_one (ps_rz2 rfl (takes_of rfl rfl rfl rfl) T hr (by rfl) (pv 4) (pv 5) (mono_var 4) (mono_var 5))) pss_nil)
        (pss_one (ps_expr (pe_tadd hu (pv 2) (pa_cons (pe_tup (pa_cons (pe_callB (call_min2 rfl) (by rfl) B.min (by decide +kernel) (pa_cons (pv 4) (pa_cons (pv 5) pa_nil))) (pa_cons (pe_callB (call_max2 rfl) (by rfl) B.max (by decide +kernel) (pa_cons (pv 4) (pa_cons (pv 5) pa_nil))) pa_nil))) pa_nil))))))))
      (pss_one (ps_ret (pe_callTy call_tuple_of (by rfl) B.tuple (by decide +kernel) (pa_cons (pe_callB (cr_sortedT rfl) (by rfl) B.sorted (by decide +kernel) (pa_cons (pv 2) pa_nil)) pa_nil))))), ?_⟩
    refine ⟨rfl, fun s0 ns => ?_⟩
    -- the loop's word
    let Pv : Nat → L2.St → Hp → Prop := fun i σ H' => ∃ o3 o4 o5 ps, σ = [some (.int n), some (.ref a), some (.ref s0), o3, o4, o5] ∧ entsOf n (ds.take i) = .ok ps ∧ Sofar P w H H' s0 n ps
    have h0 : Pv 0 [some (.int n), some (.ref a), some (.ref s0), none, none, none] (upd H s0 (SetTO P w s0 [])) := ⟨none, none, none, [], rfl, rfl, Sofar.start ns⟩
    have sm0 : Same H (upd H s0 (SetTO P w s0 [])) := same_upd ns
    refine tfor_sq rfl hs Pv h0 (fun j σ H' p o e => ?_) (fun j v d σ H' hj hv p => ?_) (fun σ H' p => ?_)
    · obtain ⟨_, _, _, ps, _, _, S⟩ := p
      exact S.same _ _ e
    · obtain ⟨o3, o4, o5, ps, rfl, hps, S⟩ := p
      have hvH : Dt H' v d := hv.mono S.same
      refine ⟨_, rfl, v, d, rfl, hvH, fun H1 s1 => ⟨_, rfl, ?_⟩⟩
      cases ep : pairOf d with
      | none =>
        rw [pairOf_is, ep]
        refine iteT fun dd nd' => ?_
        have eb : entOf n d = .error (.none, .none) := by unfold entOf; rw [ep]
        exact ke .none .none (ents_bad hps hj eb) _ dd .non .non ((S.same.trans s1).trans (same_upd nd')) .non .non upd_same
      | some xy =>
        obtain ⟨dx, dy⟩ := xy
        rw [pairOf_is, ep]
        refine iteF ?_
        have S1 := S.far s1
        obtain ⟨b, vx, vy, rfl, hb, hx, hy⟩ := pair_at (hvH.mono s1) ep
        refine ⟨_, rfl, ?_⟩
        have un : ∀ (Q : L2.St → Hp → Prop), Q [some (.int n), some (.ref a), some (.ref s0), some (.ref b), some vx, some vy] H1 → (gTup K 2 (gCons (gName 4) (gCons (gName 5) gNil)) (.ref b) [some (.int n), some (.ref a), some (.ref s0), some (.ref b), o4, o5] H1 Q ∨ gUnl K 2 (gCons (gName 4) (gCons (gName 5) gNil)) (.ref b) [some (.int n), some (.ref a), some (.ref s0), some (.ref b), o4, o5] H1 Q) := fun Q q => by
          rcases hb with hb | hb
          · exact .inl ⟨b, _, rfl, SqT.of hb, rfl, vx, _, rfl, vy, _, rfl, rfl, q⟩
          · exact .inr ⟨b, _, rfl, SqL.of hb, rfl, vx, _, rfl, vy, _, rfl, rfl, q⟩
        refine un _ ?_
        -- the first is a thing?
        have bad : (∀ p, entOf n d ≠ .ok p) → ∀ H2 dd, Same H1 H2 → H2 dd = none → E (.ref C) (some dd) (upd H2 dd (.xd [("y", vy), ("x", vx)])) := fun no H2 dd s2 nd' => by
          have eb := entOf_err ep no
          have s3 := s2.trans (same_upd (o := .xd [("y", vy), ("x", vx)]) nd')
          exact ke dx dy (ents_bad hps hj eb) _ dd vx vy (S1.same.trans s3) (hx.mono s3) (hy.mono s3) upd_same
        refine ⟨_, rfl, _, rfl, n, vx, dx, rfl, hx, fun H2 s2 => ⟨_, rfl, ?_⟩⟩
        cases tx : isTh n dx with
        | false =>
          refine iteT ⟨_, rfl, _, rfl, fun dd nd' => bad (fun p e => ?_) _ dd s2 nd'⟩
          obtain ⟨i, k, e1, c1, c2, c3⟩ := entOf_ok e
          rw [ep] at e1
          cases e1
          rw [show isTh n (.int i) = true from decide_eq_true c1] at tx
          cases tx
        | true =>
          obtain ⟨i, rfl, rfl, hi⟩ := th_int hx tx
          refine iteF ⟨_, rfl, _, rfl, n, vy, dy, rfl, hy.mono s2, fun H3 s3 => ⟨_, rfl, ?_⟩⟩
          have s23 := s2.trans s3
          cases ty : isTh n dy with
          | false =>
            refine iteT ⟨_, rfl, _, rfl, fun dd nd' => bad (fun p e => ?_) _ dd s23 nd'⟩
            obtain ⟨i', k, e1, c1, c2, c3⟩ := entOf_ok e
            rw [ep] at e1
            cases e1
            rw [show isTh n (.int k) = true from decide_eq_true c2] at ty
            cases ty
          | true =>
            obtain ⟨k, rfl, rfl, hk⟩ := th_int hy ty
            refine iteF ⟨_, rfl, _, rfl, rfl, _, rfl, ?_⟩
            rw [dec_int]
            cases eq : (i == k) with
            | true =>
              refine iteT ⟨_, rfl, _, rfl, fun dd nd' => bad (fun p e => ?_) _ dd s23 nd'⟩
              obtain ⟨i', k', e1, c1, c2, c3⟩ := entOf_ok e
              rw [ep] at e1
              cases e1
              exact c3 (beq_iff_eq.mp eq)
            | false =>
              have ne : i ≠ k := fun z => by rw [z] at eq; simp at eq
              have eo : entOf n d = .ok (min i k, max i k) := by
                unfold entOf
                rw [ep]
                dsimp only
                rw [if_pos ⟨hi.1, hi.2, hk.1, hk.2, ne⟩]
              have S3 := S1.far s23
              obtain ⟨L, l1, l2, l3, l4⟩ := S3.set
              refine iteF ⟨_, rfl, ⟨s0, L, rfl, l1⟩, ?_⟩
              refine ⟨_, rfl, _, rfl, _, _, rfl, _, rfl, _, rfl, _, _, rfl, (by show 2 ≤ sizeLine; decide), fun t nt => ?_⟩
              rw [min2, max2]
              have s4 : Same H3 (upd H3 t (.tup [.int (min i k), .int (max i k)])) := same_upd nt
              have rng := ents_rng hps
              have few := Sofar.few (H0 := H) (H := H3) (s := s0) (n := n) l2 (fun z hz => (l3 z hz).2.2)
              have elen := ents_len hps
              rw [List.length_take] at elen
              refine ⟨s0, t, [min i k, max i k], L, rfl, rfl, s4 _ _ l1, fun z hz => SqT.of (s4 _ _ (l3 z hz).2.1), SqT.of upd_same, by omega, fun L' c1 c2 => ?_⟩
              refine ⟨_, _, _, ps ++ [(min i k, max i k)], rfl, ents_good hps hj eo, ?_⟩
              exact Sofar.add (p := (min i k, max i k)) S3.new (S3.same.trans s4) (s4 _ _ l1) l2 (fun z hz => ⟨(l3 z hz).1, s4 _ _ (l3 z hz).2.1, (l3 z hz).2.2⟩) l4 ((S3.same).free nt) upd_same c1 c2
    · obtain ⟨o3, o4, o5, ps, rfl, hps, S⟩ := p
      rw [List.take_length] at hps
      obtain ⟨L, l1, l2, l3, l4⟩ := S.set
      have rng := ents_rng hps
      refine ⟨_, rfl, s0, L, 2, 64, rfl, l1, fun z hz => SqT.of (l3 z hz).2.1, by decide, fun z hz => ?_, fun L' p pm nd' _ ord np => ?_⟩
      · obtain ⟨p, hp, e⟩ := (l3 z hz).2.2
        have := rng p hp
        rw [e]
        refine ⟨rfl, fun m hm => ?_⟩
        simp only [List.mem_cons, List.not_mem_nil, or_false] at hm
        omega
      · refine ⟨p, _, rfl, .inl ⟨SqL.of upd_same, fun l nl => ?_⟩⟩
        obtain ⟨ll, e1, hq, hmem⟩ := Sofar.fin hn rng (fun z hz => (l3 z hz).2.2) l4 pm nd' ord
        have s5 : Same H' (upd H' p (.lst (L'.map fun q => V.ref q.1))) := same_upd np
        have s6 := s5.trans (same_upd (o := .tup (L'.map fun q => V.ref q.1)) nl)
        refine kq ps hps _ hq hmem _ l (L'.map fun q => V.ref q.1) (S.same.trans s6) ((S.same.trans s5).free nl) upd_same ⟨ll, ?_, rfl, fun z hz => ?_⟩
        · rw [e1, List.map_map]
          rfl
        · have hz' : (z.1, [z.2.1, z.2.2]) ∈ L := pm.mem_iff.mp (by rw [e1]; exact List.mem_map.mpr ⟨z, hz, rfl⟩)
          have := l3 _ hz'
          exact ⟨this.1, s6 _ _ this.2.1⟩
end
end K0
set_option Elab.async false
set_option linter.all false
set_option maxRecDepth 100000
set_option maxHeartbeats 4000000
namespace K0
open PySem PySem.Spec PyProof.Rows L2
/-! ### masks -/
def mStep (ms : List Nat) (p : Pr) : List Nat :=
  let ms1 := ms.set p.1.toNat (ms.getD p.1.toNat 0 ||| 2 ^ p.2.toNat)
  ms1.set p.2.toNat (ms1.getD p.2.toNat 0 ||| 2 ^ p.1.toNat)
def mOf (n : Nat) (q : List Pr) : List Nat := q.foldl mStep (List.replicate n 0)
theorem mStep_len (ms : List Nat) (p : Pr) : (mStep ms p).length = ms.length := by simp [mStep]
theorem mFold_len : ∀ (q : List Pr) (ms : List Nat), (q.foldl mStep ms).length = ms.length
  | [], _ => rfl
  | p :: q, ms => by rw [List.foldl_cons, mFold_len q, mStep_len]
theorem mOf_len (n : Nat) (q : List Pr) : (mOf n q).length = n := by unfold mOf; rw [mFold_len, List.length_replicate]
theorem getD_set {l : List Nat} {i j v : Nat} (hi : i < l.length) : (l.set i v).getD j 0 = if j = i then v else l.getD j 0 := by
  rw [List.getD_eq_getElem?_getD, List.getElem?_set, List.getD_eq_getElem?_getD]
  by_cases e : i = j
  · subst e
    simp [hi]
  · rw [if_neg e, if_neg (fun z => e z.symm)]
/-- do x and y clash by the row q? -/
def hasP (q : List Pr) (x y : Nat) : Bool := decide (((x : Int), (y : Int)) ∈ q) || decide (((y : Int), (x : Int)) ∈ q)
theorem mStep_bit {ms : List Nat} {p : Pr} (h1 : 0 ≤ p.1) (h2 : p.1 < p.2) (h3 : p.2.toNat < ms.length) (x y : Nat) :
    ((mStep ms p).getD x 0).testBit y = ((ms.getD x 0).testBit y || (decide (x = p.1.toNat ∧ y = p.2.toNat) || decide (x = p.2.toNat ∧ y = p.1.toNat))) := by
  have a : p.1.toNat < ms.length := by omega
  have ne : p.1.toNat ≠ p.2.toNat := by omega
  unfold mStep
  dsimp only
  rw [getD_set (by rw [List.length_set]; exact h3), getD_set a, getD_set a]
  by_cases e2 : x = p.2.toNat
  · subst e2
    rw [if_pos rfl, if_neg (Ne.symm ne), Nat.testBit_or, Nat.testBit_two_pow]
    have : decide (p.2.toNat = p.1.toNat ∧ y = p.2.toNat) = false := decide_eq_false (fun z => ne z.1.symm)
    rw [this, Bool.false_or]
    congr 1
    simp only [true_and]
    exact decide_eq_decide.mpr ⟨fun h => h.symm, fun h => h.symm⟩
  · rw [if_neg e2]
    have z2 : decide (x = p.2.toNat ∧ y = p.1.toNat) = false := decide_eq_false (fun z => e2 z.1)
    rw [z2, Bool.or_false]
    by_cases e1 : x = p.1.toNat
    · subst e1
      rw [if_pos rfl, Nat.testBit_or, Nat.testBit_two_pow]
      congr 1
      simp only [true_and]
      exact decide_eq_decide.mpr ⟨fun h => h.symm, fun h => h.symm⟩
    · rw [if_neg e1, decide_eq_false (fun z : x = p.1.toNat ∧ y = p.2.toNat => e1 z.1), Bool.or_false]
theorem mFold_bit {n : Nat} : ∀ (q : List Pr) (ms : List Nat), ms.length = n → (∀ p ∈ q, 0 ≤ p.1 ∧ p.1 < p.2 ∧ p.2 < n) → ∀ x y, ((q.foldl mStep ms).getD x 0).testBit y = ((ms.getD x 0).testBit y || hasP q x y)
  | [], ms, _, _, x, y => by simp [hasP]
  | p :: q, ms, hl, h, x, y => by
    obtain ⟨a, b, c⟩ := h p List.mem_cons_self
    rw [List.foldl_cons, mFold_bit q (mStep ms p) (by rw [mStep_len]; exact hl) (fun r hr => h r (List.mem_cons_of_mem _ hr)) x y, mStep_bit a b (by omega)]
    rw [Bool.or_assoc]
    congr 1
    unfold hasP
    obtain ⟨p1, p2⟩ := p
    dsimp only at a b c ⊢
    have e1 : decide ((((x : Int), (y : Int)) : Pr) ∈ (p1, p2) :: q) = (decide (x = p1.toNat ∧ y = p2.toNat) || decide (((x : Int), (y : Int)) ∈ q)) := by
      rw [Bool.eq_iff_iff, Bool.or_eq_true, decide_eq_true_iff, decide_eq_true_iff, decide_eq_true_iff, List.mem_cons, Prod.mk.injEq]
      constructor
      · rintro (⟨h1, h2⟩ | h)
        · exact .inl ⟨by omega, by omega⟩
        · exact .inr h
      · rintro (⟨h1, h2⟩ | h)
        · exact .inl ⟨by omega, by omega⟩
        · exact .inr h
    have e2 : decide ((((y : Int), (x : Int)) : Pr) ∈ (p1, p2) :: q) = (decide (x = p2.toNat ∧ y = p1.toNat) || decide (((y : Int), (x : Int)) ∈ q)) := by
      rw [Bool.eq_iff_iff, Bool.or_eq_true, decide_eq_true_iff, decide_eq_true_iff, decide_eq_true_iff, List.mem_cons, Prod.mk.injEq]
      constructor
      · rintro (⟨h1, h2⟩ | h)
        · exact .inl ⟨by omega, by omega⟩
        · exact .inr h
      · rintro (⟨h1, h2⟩ | h)
        · exact .inl ⟨by omega, by omega⟩
        · exact .inr h
    rw [e1, e2]
    generalize decide (x = p1.toNat ∧ y = p2.toNat) = b1
    generalize decide (x = p2.toNat ∧ y = p1.toNat) = b2
    generalize decide (((x : Int), (y : Int)) ∈ q) = b3
    generalize decide (((y : Int), (x : Int)) ∈ q) = b4
    cases b1 <;> cases b2 <;> cases b3 <;> cases b4 <;> rfl
theorem mOf_bit {n : Nat} {q : List Pr} (h : Cl n q) (x y : Nat) : ((mOf n q).getD x 0).testBit y = hasP q x y := by
  unfold mOf
  rw [mFold_bit (n := n) q _ (by simp) h.rng x y]
  rw [List.getD_eq_getElem?_getD, List.getElem?_replicate]
  split <;> simp
end K0
set_option Elab.async false
set_option linter.all false
set_option maxRecDepth 100000
set_option maxHeartbeats 4000000
namespace K0
open PySem PySem.Spec PyProof.Rows L2
abbrev s_nm : Stmt := top 24
theorem dta_map {H : Hp} : ∀ {xs : List V} {q : List Pr} {i : Nat} {v : V}, DtAll H xs (q.map prD) → xs[i]? = some v → ∃ p a, q[i]? = some p ∧ v = .ref a ∧ H a = some (.tup [.int p.1, .int p.2]) := by
  intro xs q i v h e
  obtain ⟨d, hd, hv⟩ := h.at e
  rw [List.getElem?_map] at hd
  cases hq : q[i]? with
  | none => rw [hq] at hd; cases hd
  | some p =>
    rw [hq] at hd
    cases hd
    cases hv with
    | tup ea h2 =>
      cases h2 with
      | cons h3 h4 =>
        cases h4 with
        | cons h5 h6 =>
          cases h6
          cases h3
          cases h5
          exact ⟨p, _, rfl, rfl, ea⟩
section
variable {P : Program} {w : World} {K : PySem.W.Frag} {mg : Str → Option Value} {base : Heap} {f : Addr} {fd : FuncData}
def nvs (ms : List Nat) : List V := ms.map fun (k : Nat) => V.int (k : Int)
def spNm : Sp := fun vs H Q _ => ∃ (n : Int) (c : Addr) (xs : List V) (q : List Pr), vs = [.int n, .ref c] ∧ 0 ≤ n ∧ n ≤ 16 ∧ Cl n q ∧ H c = some (.tup xs) ∧ DtAll H xs (q.map prD) ∧
  ∀ H' m, Same H H' → H m = none → H' m = some (.tup (nvs (mOf n.toNat q))) → Q (.ref m) H'
theorem sc_nm : FnScope ["many", "clashes", "masks", "x", "y"] ["many", "clashes"] (defScope s_nm) := ⟨rfl, rfl, rfl, by decide +kernel, rfl, by decide +kernel, by decide +kernel⟩
theorem ixN_nat {n k : Nat} (h : k < n) : ixN n (k : Int) = some k := by
  unfold ixN
  rw [if_pos (Int.natCast_nonneg k), if_pos (by omega), Int.toNat_natCast]
theorem nvs_at {ms : List Nat} {k : Nat} (h : k < ms.length) : atI (nvs ms) (k : Int) = some (V.int ((ms.getD k 0 : Nat) : Int)) := by
  refine atI_nat ?_
  unfold nvs
  rw [List.getElem?_map, List.getElem?_eq_getElem h, List.getD_eq_getElem?_getD, List.getElem?_eq_getElem h]
  rfl
theorem nvs_set (ms : List Nat) (k v : Nat) : (nvs ms).set k (V.int (v : Int)) = nvs (ms.set k v) := by
  unfold nvs
  rw [List.map_set]
theorem nvs_len (ms : List Nat) : (nvs ms).length = ms.length := by unfold nvs; rw [List.length_map]
theorem rep_nvs (n : Nat) : (List.replicate n [V.int 0]).flatten = nvs (List.replicate n 0) := by
  unfold nvs
  rw [List.map_replicate]
  induction n with
  | zero => rfl
  | succ n ih => rw [List.replicate_succ, List.flatten_cons, ih, List.replicate_succ]; rfl
theorem shl1 (y : Nat) : (1 : Int) * 2 ^ ((y : Int).toNat) = ((2 ^ y : Nat) : Int) := by
  rw [Int.one_mul, Int.toNat_natCast]
  exact (Int.natCast_pow 2 y).symm
theorem OpR_imp {X : Cx} {f : Value → Value → Sem Value} {r r' : R2} (h : OpR X f r) (i : ∀ x y H Q, r' x y H Q → r x y H Q) : OpR X f r' := fun pins s σ H x y u v Q I rx ry q => h pins s σ H x y u v Q I rx ry (i _ _ _ _ q)
theorem op_orN {X : Cx} : OpR X (binaryOp .BitOr) (fun x y H Q => ∃ a b : Nat, x = .int (a : Int) ∧ y = .int (b : Int) ∧ Q (.int ((a ||| b : Nat) : Int)) H) := OpR_imp op_or fun x y H Q ⟨a, b, ex, ey, q⟩ => ⟨_, _, ex, ey, by show Q (.int (Builtin.bitOr (a : Int) (b : Int))) H; rw [bor_nat]; exact q⟩
theorem op_shl1 {X : Cx} : OpR X (binaryOp .LShift) (fun x y H Q => ∃ k : Nat, x = .int 1 ∧ y = .int (k : Int) ∧ k ≤ 1000 ∧ Q (.int ((2 ^ k : Nat) : Int)) H) := OpR_imp op_shl fun x y H Q ⟨k, ex, ey, hk, q⟩ => ⟨_, _, ex, ey, ⟨by omega, by omega, by decide⟩, by show Q (.int (1 * 2 ^ ((k : Int).toNat))) H; rw [shl1]; exact q⟩
theorem ok_nm (F : Fun K "near_masks" "near_masks" s_nm f fd) (B : Blt2 mg) : FnOk P w K mg base (L2.CX P w) 1 f fd ["many", "clashes"] spNm := by
  refine up0 (F.ok sc_nm (fun vs H Q E h => ?_) (fun cdv A outer s H vs Q E hr h => ?_))
  · obtain ⟨n, c, xs, q, rfl, _⟩ := h
    rfl
  · obtain ⟨n, c, xs, q, rfl, h0, h8, hq, hc, hx, kq⟩ := h
    have nd := sc_nm.nd
    obtain ⟨m, rfl⟩ := Int.eq_ofNat_of_zero_le h0
    rw [Int.toNat_natCast] at kq
    refine ⟨_, pss_cons (ps_set (i := 2) nd rfl (.inl rfl) (pe_op op_rep (pe_lst (pa_cons pe_int pa_nil)) (pv 0)))
      (pss_cons (ps_for PassesOwn.never rfl (pi_tup (pv 1)) (pg_tup rfl (pgs_cons (pg_name (i := 3) nd rfl (.inl rfl)) (pgs_cons (pg_name (i := 4) nd rfl (.inl rfl)) pgs_nil)))
        (pss_cons (ps_asg (pe_op op_orN (pe_ix ix_list (pv 2) (pv 3) (fun _ _ => rfl)) (pe_op op_shl1 pe_int (pv 4))) (pg_sub (pv 2) (pv 3) set_list))
        (pss_one (ps_asg (pe_op op_orN (pe_ix ix_list (pv 2) (pv 4) (fun _ _ => rfl)) (pe_op op_shl1 pe_int (pv 3))) (pg_sub (pv 2) (pv 4) set_list)))))
      (pss_one (ps_ret (pe_callTy call_tuple_of (by rfl) B.tuple (by decide +kernel) (pa_cons (pv 2) pa_nil))))), ?_⟩
    refine ⟨by show 1 ≤ sizeLine; decide, fun l nl => ?_⟩
    refine ⟨_, rfl, l, (m : Int), _, rfl, rfl, upd_same, by omega, by omega, ?_, fun t nt => ?_⟩
    · rw [Int.toNat_natCast, sizeLine_eq]
      show 1 * m ≤ _
      omega
    rw [Int.toNat_natCast, rep_nvs]
    have s1 : Same H (upd H l (.lst [V.int 0])) := same_upd nl
    have s2 := s1.trans (same_upd (o := .lst (nvs (List.replicate m 0))) nt)
    have ht : H t = none := s1.free nt
    let Pv : Nat → L2.St → Hp → Prop := fun i σ H' => ∃ o3 o4, σ = [some (.int (m : Int)), some (.ref c), some (.ref t), o3, o4] ∧ Same H H' ∧ H' t = some (.lst (nvs (mOf m (q.take i))))
    refine ⟨_, rfl, c, rfl, ⟨xs, SqT.of (s2 _ _ hc)⟩, for_tup (K := K) (a := c) (xs := xs) Pv ⟨none, none, rfl, s2, upd_same⟩ (fun i σ H' _ ⟨_, _, _, sm, _⟩ => SqT.of (sm _ _ hc)) ?_ ?_⟩
    · rintro i v σ H' hi ⟨o3, o4, rfl, sm, hl⟩
      obtain ⟨p, b, hp, rfl, hb⟩ := dta_map hx hi
      obtain ⟨r1, r2, r3⟩ := hq.rng p (List.mem_of_getElem? hp)
      obtain ⟨p1, p2⟩ := p
      dsimp only at r1 r2 r3 hb
      obtain ⟨x, rfl⟩ := Int.eq_ofNat_of_zero_le r1
      obtain ⟨y, rfl⟩ := Int.eq_ofNat_of_zero_le (show (0 : Int) ≤ p2 by omega)
      have hml : (mOf m (q.take i)).length = m := mOf_len _ _
      have hx8 : x < (mOf m (q.take i)).length := by omega
      have hy8 : y < (mOf m (q.take i)).length := by omega
      refine ⟨b, _, rfl, SqT.of (sm _ _ hb), rfl, _, _, rfl, _, _, rfl, rfl, ?_⟩
      refine ⟨_, rfl, _, rfl, t, _, _, _, rfl, rfl, SqL.of hl, nvs_at hx8, _, rfl, y, rfl, rfl, by omega, _, _, rfl, rfl, ?_⟩
      refine ⟨_, rfl, _, rfl, t, _, _, _, rfl, rfl, hl, (by rw [nvs_len]; exact ixN_nat hx8), ?_⟩
      rw [nvs_set]
      have hy9 : y < ((mOf m (q.take i)).set x ((mOf m (q.take i)).getD x 0 ||| 2 ^ y)).length := by rw [List.length_set]; exact hy8
      refine ⟨_, rfl, _, rfl, t, _, _, _, rfl, rfl, SqL.of upd_same, nvs_at hy9, _, rfl, x, rfl, rfl, by omega, _, _, rfl, rfl, ?_⟩
      refine ⟨_, rfl, _, rfl, t, _, _, _, rfl, rfl, upd_same, (by rw [nvs_len]; exact ixN_nat hy9), ?_⟩
      rw [nvs_set, upd_upd]
      refine ⟨_, _, rfl, fun a o e => ?_, ?_⟩
      · rw [upd_ne (ne_of_none e ht)]
        exact sm a o e
      · rw [upd_same, take_at hp]
        unfold mOf
        rw [List.foldl_append]
        rfl
    · rintro σ H' ⟨o3, o4, rfl, sm, hl⟩
      have el : xs.length = q.length := by rw [hx.len, List.length_map]
      rw [el, List.take_length] at hl
      refine ⟨_, rfl, t, _, rfl, .inl ⟨SqL.of hl, fun r nr => ?_⟩⟩
      exact kq _ r (sm.trans (same_upd nr)) (sm.free nr) upd_same
end
end K0
set_option Elab.async false
set_option linter.all false
set_option maxRecDepth 100000
set_option maxHeartbeats 4000000
namespace K0
open PySem PySem.Spec PyProof.Rows L2
abbrev s_wi : Stmt := inClass (top 44) 0
/-! ### what a web looks like -/
theorem k_mc : ¬ (("many" : Str) = "clashes") := by decide +kernel
theorem k_mm : ¬ (("many" : Str) = "masks") := by decide +kernel
def wf (n : Int) (c m : Addr) : List (Str × V) := putF "masks" (.ref m) (putF "clashes" (.ref c) (putF "many" (.int n) []))
theorem wf_many (n : Int) (c m : Addr) : (wf n c m).lookup ("many" : Str) = some (.int n) := by
  unfold wf
  rw [lookup_putF, if_neg k_mm, lookup_putF, if_neg k_mc, lookup_putF, if_pos rfl]
theorem wf_masks (n : Int) (c m : Addr) : (wf n c m).lookup ("masks" : Str) = some (.ref m) := by
  unfold wf
  rw [lookup_putF, if_pos rfl]
theorem wf_no (n : Int) (c m : Addr) {x : Str} (h1 : ¬ x = "many") (h2 : ¬ x = "clashes") (h3 : ¬ x = "masks") : (wf n c m).lookup x = none := by
  unfold wf
  rw [lookup_putF, if_neg h3, lookup_putF, if_neg h2, lookup_putF, if_neg h1]
  rfl
theorem wf_len1 (n : Int) : (putF ("many" : Str) (.int n) []).length < 1000 := by have := length_putF ("many" : Str) (.int n) []; simp at this; omega
theorem wf_len2 (n : Int) (c : Addr) : (putF ("clashes" : Str) (.ref c) (putF ("many" : Str) (.int n) [])).length < 1000 := by
  have h1 := length_putF ("clashes" : Str) (.ref c) (putF ("many" : Str) (.int n) [])
  have h2 := length_putF ("many" : Str) (.int n) []
  simp at h2
  omega
/-- the web of n things with the clashes q stands at p -/
structure WebAt (C : Addr) (H : Hp) (p : Addr) (n : Int) (q : List Pr) : Prop where
  ex : ∃ (dx c m : Addr) (l : List (Addr × Pr)), H p = some (.ins C dx (wf n c m)) ∧ H c = some (.tup (l.map fun z => V.ref z.1)) ∧ q = l.map (·.2) ∧ (∀ z ∈ l, H z.1 = some (.tup [.int z.2.1, .int z.2.2])) ∧ H m = some (.tup (nvs (mOf n.toNat q)))
  cl : Cl n q
  n0 : 0 ≤ n
  n8 : n ≤ 16
theorem WebAt.mono {C : Addr} {H H' : Hp} {p : Addr} {n : Int} {q : List Pr} (W : WebAt C H p n q) (s : Same H H') : WebAt C H' p n q := by
  obtain ⟨⟨dx, c, m, l, h1, h2, h3, h4, h5⟩, cl, n0, n8⟩ := W
  exact ⟨⟨dx, c, m, l, s _ _ h1, s _ _ h2, h3, fun z hz => s _ _ (h4 z hz), s _ _ h5⟩, cl, n0, n8⟩
/-- what is new in H' -/
def New (H H' : Hp) : Hp := fun b => match H b with
  | none => H' b
  | some _ => none
theorem new_at {H H' : Hp} {b : Addr} (h : H b = none) : New H H' b = H' b := by unfold New; rw [h]
theorem same_new {H H' : Hp} : Same (New H H') H' := fun b o e => by
  unfold New at e
  cases h : H b with
  | none => rw [h] at e; exact e
  | some _ => rw [h] at e; cases e
theorem new_mono {H H1 H' H2 : Hp} (a : ∀ b, H b = none → H' b ≠ none → H1 b = none) (s : Same H' H2) : Same (New H H') (New H1 H2) := fun b o e => by
  unfold New at e
  cases h : H b with
  | none =>
    rw [h] at e
    have e' : H' b = some o := e
    rw [new_at (a b h (by rw [e']; simp))]
    exact s _ _ e'
  | some _ => rw [h] at e; cases e
/-- all stays but the object at p -/
def SameX (p : Addr) (H H' : Hp) : Prop := ∀ b o, H b = some o → b ≠ p → H' b = some o
theorem SameX.trans {p : Addr} {H H1 H2 : Hp} (a : SameX p H H1) (b : SameX p H1 H2) : SameX p H H2 := fun c o e n => b c o (a c o e n) n
theorem sx {p : Addr} {H H' : Hp} (s : Same H H') : SameX p H H' := fun b o e _ => s b o e
theorem samex_upd {p : Addr} {H : Hp} {o : HO} : SameX p H (upd H p o) := fun b u e n => by rw [upd_ne n]; exact e
/-- lists and tuples alone -/
def seqs (H : Hp) : Hp := fun b => match H b with
  | some (.lst xs) => some (.lst xs)
  | some (.tup xs) => some (.tup xs)
  | _ => none
theorem seqs_lst {H : Hp} {b : Addr} {xs : List V} (e : H b = some (.lst xs)) : seqs H b = some (.lst xs) := by unfold seqs; rw [e]
theorem seqs_tup {H : Hp} {b : Addr} {xs : List V} (e : H b = some (.tup xs)) : seqs H b = some (.tup xs) := by unfold seqs; rw [e]
theorem seqs_of {H : Hp} {b : Addr} {o : HO} (e : seqs H b = some o) : H b = some o ∧ ∀ C dx fs, o ≠ .ins C dx fs := by
  unfold seqs at e
  split at e
  · rename_i h
    cases e
    exact ⟨h, fun _ _ _ z => by cases z⟩
  · rename_i h
    cases e
    exact ⟨h, fun _ _ _ z => by cases z⟩
  · cases e
mutual
theorem Dt.seqs {H : Hp} : ∀ {v : V} {d : PyData}, Dt H v d → Dt (seqs H) v d
  | _, _, .non => .non
  | _, _, .bl b => .bl b
  | _, _, .int i => .int i
  | _, _, .str x => .str x
  | _, _, .lst e h => .lst (seqs_lst e) (DtAll.seqs h)
  | _, _, .tup e h => .tup (seqs_tup e) (DtAll.seqs h)
theorem DtAll.seqs {H : Hp} : ∀ {v : List V} {d : List PyData}, DtAll H v d → DtAll (seqs H) v d
  | _, _, .nil => .nil
  | _, _, .cons h t => .cons (Dt.seqs h) (DtAll.seqs t)
end
theorem same_seqs {p C dx : Addr} {fs : List (Str × V)} {H H' : Hp} (hp : H p = some (.ins C dx fs)) (s : SameX p H H') : Same (seqs H) H' := fun b o e => by
  obtain ⟨h, no⟩ := seqs_of e
  exact s b o h fun z => by
    rw [z, hp] at h
    exact no C dx fs (Option.some.inj h).symm
theorem Dt.monoX {p C dx : Addr} {fs : List (Str × V)} {H H' : Hp} (hp : H p = some (.ins C dx fs)) (s : SameX p H H') {v : V} {d : PyData} (h : Dt H v d) : Dt H' v d := h.seqs.mono (same_seqs hp s)
theorem Sq.monoX {K : PySem.W.Frag} {p C dx : Addr} {fs : List (Str × V)} {H H' : Hp} (hp : H p = some (.ins C dx fs)) (s : SameX p H H') {a : Addr} {ds : List PyData} (h : Sq K H a ds) : Sq K H' a ds := by
  cases h with
  | lst e h => exact .lst (same_seqs hp s _ _ (seqs_lst e)) (h.seqs.mono (same_seqs hp s))
  | tup e h => exact .tup (same_seqs hp s _ _ (seqs_tup e)) (h.seqs.mono (same_seqs hp s))
  | kon e z => exact .kon e z
  | @frz o xs e h =>
    have e2 : H' a = some (.frz o (.tup xs)) := s _ _ e (by
      intro z
      rw [z, hp] at e
      cases e)
    exact .frz e2 (h.seqs.mono (same_seqs hp s))
section
variable {P : Program} {w : World} {K : PySem.W.Frag} {mg : Str → Option Value} {base : Heap} {f : Addr} {fd : FuncData}
/-- the class of webs as the top has made it -/
structure WebC (K : PySem.W.Frag) (C : Addr) : Prop where
  cl : Cls K C
  nm : NoAttr K C "many"
  nc : NoAttr K C "clashes"
  nk : NoAttr K C "masks"
/-- Web.__init__ -/
def spWi (K : PySem.W.Frag) (C CN CW : Addr) : Sp := fun vs H Q E => ∃ (p dx a : Addr) (v : V) (d : PyData) (ds : List PyData), vs = [.ref p, v, .ref a] ∧ H p = some (.ins C dx []) ∧ Dt H v d ∧ Sq K H a ds ∧
  (okN 0 d = false → ∀ H' e, SameX p H H' → H' e = some (.xd [("name", .str "many")]) → E (.ref CN) (some e) H') ∧
  (∀ n, d = .int n → 0 ≤ n → n ≤ 16 ∧ ds.length ≤ 62 ∧
    (∀ ps, entsOf n ds = .ok ps → ∀ q, Cl n q → (∀ z, z ∈ q ↔ z ∈ ps) → ∀ H', SameX p H H' → WebAt C (New (del H p) H') p n q → Q .non H') ∧
    (∀ x y, entsOf n ds = .error (x, y) → ∀ H' e vx vy, SameX p H H' → Dt H' vx x → Dt H' vy y → H' e = some (.xd [("y", vy), ("x", vx)]) → E (.ref CW) (some e) H'))
theorem sc_wi : FnScope ["self", "many", "clashes"] ["self", "many", "clashes"] (defScope s_wi) := ⟨rfl, rfl, rfl, by decide +kernel, rfl, by decide +kernel, by decide +kernel⟩
end
end K0
set_option Elab.async false
set_option linter.all false
set_option maxRecDepth 100000
set_option maxHeartbeats 4000000
namespace K0
open PySem PySem.Spec PyProof.Rows L2
/-- a def whose last parameters have defaults -/
structure DfD (P : Program) (w : World) (K : PySem.W.Frag) (mg : Str → Option Value) (base : Heap) (x : Str) (k : Nat) (ps : List Str) (dvs : List V) (sp : Sp) : Prop where
  ex : ∃ (f : Addr) (fd : FuncData) (ds : List Value), mg x = some (.ref f) ∧ PySem.W.keepIn K (.ref f) = true ∧ FnOk P w K mg base (L2.CX P w) k f fd ps sp ∧ Vals dvs ds ∧ Binds K fd ps ds
theorem pe_dfd {X : Cx} {x : Str} {k : Nat} {ps : List Str} {dvs : List V} {sp : Sp} {E : XK} {e : Expr} {es : List Expr} {t : TA} {p pos : Pos} (T : DfD X.prog X.w X.K X.mg X.base x k ps dvs sp) (hr : Room k X.A) (hg : Gl X x) (hx : Passes (L2.CX X.prog X.w) X E) (ha : PA X (e :: es) t)
    (hdb : (x == ("__debug__" : Str)) = false := by decide) (he : starEach (e :: es) X.env = (false, eval e X.env) :: starEach es X.env := by rfl) (hpl : (backTo pos (starEach es X.env)).any (·.1) = false := by rfl) :
    PE X (.Call (.Name x p) (e :: es) [] pos) (tCall sp dvs E t) := by
  obtain ⟨f, fd, ds, g, kp, F, v, b⟩ := T.ex
  exact pe_call F hr hg g kp b v hx ha hdb he hpl
section
variable {P : Program} {w : World} {K : PySem.W.Frag} {mg : Str → Option Value} {base : Heap} {f : Addr} {fd : FuncData}
theorem ok_wi {dvs : List V} {C CN CW : Addr} (F : FunD K "__init__" "Web.__init__" (defArgs s_wi) (defBody s_wi) (defScope s_wi) dvs [] f fd) (T : WebC K C) (CNum : DfD P w K mg base "check_number" 3 ["value", "name", "least"] [.int 0] (spCn CN))
    (CC : Df P w K mg base "checked_clashes" 3 ["many", "clashes"] (spCC K CW)) (NM : Df P w K mg base "near_masks" 1 ["many", "clashes"] spNm) : FnOk P w K mg base (L2.CX P w) 4 f fd ["self", "many", "clashes"] (spWi K C CN CW) := by
  refine F.ok sc_wi (fun vs H Q E h => ?_) (fun cdv A outer s H vs Q E hr h => ?_)
  · obtain ⟨p, dx, a, v, d, ds, rfl, _⟩ := h
    rfl
  · obtain ⟨p, dx, a, v, d, ds, rfl, hp, hv, hs, kn, kw⟩ := h
    have hr1 : Room 1 _ := hr.mono (by decide)
    refine ⟨_, pss_cons (ps_expr (pe_dfd CNum hr (by rfl) passUp (pa_cons (pv 1) (pa_cons pe_str pa_nil))))
      (pss_cons (ps_fld (pv 0) (pv 1) rfl)
      (pss_cons (ps_fld (pv 0) (pe_df CC hr (by rfl) passUp (pa_cons (pv 1) (pa_cons (pv 2) pa_nil))) rfl)
      (pss_one (ps_fld (pv 0) (pe_df NM hr1 (by rfl) passUp (pa_cons (pv 1) (pa_cons (pe_fld (pv 0) rfl) pa_nil))) rfl)))), ?_⟩
    refine ⟨_, rfl, v, d, _, 0, rfl, hv, fun ok => ?_, fun bad H' e sm he => kn bad H' e (sx sm) he⟩
    obtain ⟨n, rfl, rfl, h0⟩ : ∃ n, v = .int n ∧ d = .int n ∧ 0 ≤ n := by
      cases hv with
      | int i => exact ⟨i, rfl, rfl, of_decide_eq_true ok⟩
      | non => cases ok
      | bl b => cases ok
      | str b => cases ok
      | lst e h => cases ok
      | tup e h => cases ok
    obtain ⟨n8, n62, kq, ke⟩ := kw n rfl h0
    -- self.many = many
    refine ⟨_, rfl, _, rfl, p, C, dx, [], rfl, hp, T.cl, T.nm, (by show 0 < 1000; decide), ?_⟩
    have x1 : SameX p H (upd H p (.ins C dx (putF "many" (.int n) []))) := samex_upd
    have hs1 := hs.monoX hp x1
    -- self.clashes = checked_clashes(many, clashes)
    refine ⟨_, rfl, _, rfl, n, a, ds, rfl, n8, n62, hs1, fun ps hps q hq hm H2 c xs s2 nc hc hl => ?_, fun x y hxy H' e vx vy sm hx hy he => ke x y hxy H' e vx vy (x1.trans (sx sm)) hx hy he⟩
    have hp2 : H2 p = some (.ins C dx (putF "many" (.int n) [])) := s2 _ _ upd_same
    have cp : c ≠ p := fun z => by rw [z, upd_same] at nc; cases nc
    have nc' : H c = none := by rw [upd_ne cp] at nc; exact nc
    refine ⟨_, rfl, p, C, dx, _, rfl, hp2, T.cl, T.nc, wf_len1 n, ?_⟩
    obtain ⟨l, rfl, eq, hz⟩ := hl
    have x3 : SameX p H2 (upd H2 p (.ins C dx (putF "clashes" (.ref c) (putF "many" (.int n) [])))) := samex_upd
    have hc3 := x3 _ _ hc cp
    have zp : ∀ z ∈ l, z.1 ≠ p := fun z hz' e => by
      have := (hz z hz').1
      rw [e, upd_same] at this
      cases this
    have hz3 : ∀ z ∈ l, (upd H2 p (.ins C dx (putF "clashes" (.ref c) (putF "many" (.int n) [])))) z.1 = some (.tup [.int z.2.1, .int z.2.2]) := fun z hz' => x3 _ _ (hz z hz').2 (zp z hz')
    -- self.masks = near_masks(many, self.clashes)
    refine ⟨_, rfl, _, rfl, p, C, dx, _, .ref c, rfl, upd_same, T.cl, T.nc, (by rw [lookup_putF, if_pos rfl]), n, c, _, q, rfl, h0, n8, hq, hc3, (by rw [eq, List.map_map]; exact dtAll_prs hz3), fun H4 m s4 nm hm4 => ?_⟩
    have hp4 := s4 p _ upd_same
    have mp : m ≠ p := fun z => by rw [z, upd_same] at nm; cases nm
    have nm2 : H2 m = none := by rw [upd_ne mp] at nm; exact nm
    have nm' : H m = none := by
      have := s2.free nm2
      rw [upd_ne mp] at this
      exact this
    refine ⟨_, rfl, p, C, dx, _, rfl, hp4, T.cl, T.nk, wf_len2 n c, ?_⟩
    have x5 : SameX p H4 (upd H4 p (.ins C dx (wf n c m))) := samex_upd
    have xAll : SameX p H (upd H4 p (.ins C dx (wf n c m))) := x1.trans ((sx s2).trans (x3.trans ((sx s4).trans x5)))
    have dl : ∀ {b : Addr}, H b = none → (del H p) b = none := fun {b} h => by
      by_cases e : b = p
      · rw [e, del_same]
      · rw [del_ne e]; exact h
    refine kq ps hps q hq hm _ xAll ⟨⟨dx, c, m, l, ?_, ?_, eq, fun z hz' => ?_, ?_⟩, hq, h0, n8⟩
    · rw [new_at del_same]
      exact upd_same
    · rw [new_at (dl nc')]
      exact x5 _ _ (s4 _ _ hc3) cp
    · have n1 : H z.1 = none := by
        have := (hz z hz').1
        rw [upd_ne (zp z hz')] at this
        exact this
      rw [new_at (dl n1)]
      exact x5 _ _ (s4 _ _ (hz3 z hz')) (zp z hz')
    · rw [new_at (dl nm')]
      exact x5 _ _ hm4 mp
end
end K0
set_option Elab.async false
set_option linter.all false
set_option maxRecDepth 100000
set_option maxHeartbeats 4000000
namespace K0
open PySem PySem.Spec PyProof.Rows L2
abbrev s_ti : Stmt := top 22
def rS : R2 := fun x y H Q => ∃ a b : Nat, x = .int (a : Int) ∧ y = .int (b : Int) ∧ Q (.int ((a / 2 ^ b : Nat) : Int)) H
def rA : R2 := fun x y H Q => ∃ a : Nat, x = .int (a : Int) ∧ y = .int 1 ∧ Q (.int ((a % 2 : Nat) : Int)) H
theorem op_shr2 {X : Cx} : OpR X (binaryOp .RShift) rS := OpR_imp op_shr fun x y H Q ⟨a, b, ex, ey, q⟩ => ⟨_, _, ex, ey, Int.natCast_nonneg b, by
  show Q (.int ((a : Int) / 2 ^ ((b : Int).toNat))) H
  rw [Int.toNat_natCast, show (2 : Int) ^ b = ((2 ^ b : Nat) : Int) from (Int.natCast_pow 2 b).symm, ← Int.natCast_ediv]
  exact q⟩
theorem op_and1 {X : Cx} : OpR X (binaryOp .BitAnd) rA := OpR_imp op_and fun x y H Q ⟨a, ex, ey, q⟩ => ⟨_, _, ex, ey, by
  show Q (.int (Builtin.bitAnd (a : Int) 1)) H
  rw [bitAnd_m1, show ((a : Int) % 2) = ((a % 2 : Nat) : Int) from by omega]
  exact q⟩
theorem bit_val (m k : Nat) : ((((m / 2 ^ k % 2 : Nat) : Int)) != 0) = m.testBit k := by
  rw [Nat.testBit_eq_decide_div_mod_eq]
  rcases Nat.mod_two_eq_zero_or_one (m / 2 ^ k) with e | e <;> rw [e] <;> rfl
theorem bit_one (m k : Nat) : ((((m / 2 ^ k % 2 : Nat) : Int)) == 1) = m.testBit k := by
  rw [Nat.testBit_eq_decide_div_mod_eq]
  rcases Nat.mod_two_eq_zero_or_one (m / 2 ^ k) with e | e <;> rw [e] <;> rfl
theorem range_cut {p : Nat → Bool} {a : Nat} (h : ∀ j, a ≤ j → p j = false) : ∀ d, (List.range (a + d)).filter p = (List.range a).filter p := fun d => by
  rw [List.range_add, List.filter_append]
  have : ((List.range d).map (a + ·)).filter p = [] := by
    rw [List.filter_eq_nil_iff]
    intro x hx
    obtain ⟨y, _, rfl⟩ := List.mem_map.mp hx
    rw [h _ (Nat.le_add_right a y)]
    simp
  rw [this, List.append_nil]
theorem range_same {p : Nat → Bool} {a b : Nat} (ha : ∀ j, a ≤ j → p j = false) (hb : ∀ j, b ≤ j → p j = false) : (List.range a).filter p = (List.range b).filter p := by
  rcases Nat.le_total a b with h | h
  · obtain ⟨d, rfl⟩ := Nat.exists_eq_add_of_le h
    exact (range_cut ha d).symm
  · obtain ⟨d, rfl⟩ := Nat.exists_eq_add_of_le h
    exact range_cut hb d
def bitsN (m : Nat) : Nat := Builtin.Int.intBits (m : Int)
theorem bits_out {m j : Nat} (h : bitsN m ≤ j) : m.testBit j = false := by
  refine Nat.testBit_lt_two_pow ?_
  unfold bitsN Builtin.Int.intBits at h
  by_cases e : m = 0
  · rw [e]
    exact Nat.two_pow_pos j
  · rw [if_neg (by simpa using e), Int.natAbs_natCast] at h
    exact Nat.lt_of_lt_of_le Nat.lt_log2_self (Nat.pow_le_pow_right (by decide) h)
/-- the places of the bits -/
def bitsOf (n m : Nat) : List Nat := (List.range n).filter m.testBit
theorem bitsOf_eq {n m : Nat} (h : ∀ j, n ≤ j → m.testBit j = false) : (List.range (bitsN m)).filter m.testBit = bitsOf n m := range_same (fun j => bits_out) h
section
variable {P : Program} {w : World} {K : PySem.W.Frag} {mg : Str → Option Value} {base : Heap} {f : Addr} {fd : FuncData}
def spTi : Sp := fun vs H Q _ => ∃ (m : Nat), vs = [.int (m : Int)] ∧ bitsN m ≤ 1000 ∧ ∀ H' t, Same H H' → H t = none → H' t = some (.tup (nvs ((List.range (bitsN m)).filter m.testBit))) → Q (.ref t) H'
theorem sc_ti : FnScope ["mask", "thing"] ["mask"] (defScope s_ti) := ⟨rfl, rfl, rfl, by decide +kernel, rfl, by decide +kernel, by decide +kernel⟩
theorem filter_take {p : Nat → Bool} (n i : Nat) (h : i < n) : ((List.range n).take (i + 1)).filter p = ((List.range n).take i).filter p ++ (if p i = true then [i] else []) := by
  rw [List.take_range, List.take_range, Nat.min_eq_left (by omega), Nat.min_eq_left (by omega), List.range_succ, List.filter_append]
  congr 1
  cases e : p i <;> simp [e]
theorem ok_ti (F : Fun K "things_in" "things_in" s_ti f fd) (B : Blt2 mg) : FnOk P w K mg base (L2.CX P w) 1 f fd ["mask"] spTi := by
  refine up0 (F.ok sc_ti (fun vs H Q E h => ?_) (fun cdv A outer s H vs Q E hr h => ?_))
  · obtain ⟨m, rfl, _⟩ := h
    rfl
  · obtain ⟨m, rfl, hb, q⟩ := h
    have nd := sc_ti.nd
    refine ⟨_, pss_one (ps_ret (pe_callTy call_tuple_of (by rfl) B.tuple (by decide +kernel) (pa_cons (pe_lc (tt := tTru K (tOp rA (tOp rS (tVar 0) (tVar 1)) (tC (.int 1)))) (te := tVar 1) (own := [("thing", 1)]) (g := gName 1) rfl nd (pi_range1 (by rfl) B.range (pa_cons (pe_bits (pv 0)) pa_nil))
      (blkOk_by (N := ["mask", "thing"]) (sc := defScope s_ti) (by decide +kernel)) (fun _ _ _ _ _ => pg_name (i := 1) nd rfl (.inl rfl))
      (fun _ _ _ _ _ => pts_one (pt_truth (pe_op op_and1 (pe_op op_shr2 (pv 0) (pv 1)) pe_int) (by intro _; rfl))) (fun _ _ _ _ _ => pv 1)) pa_nil))), ?_⟩
    refine ⟨_, rfl, _, rfl, _, rfl, by omega, by have : bitsN m < 2 ^ 62 := (by omega); exact Int.ofNat_lt.mpr this, fun D nD => ?_⟩
    have eN : ((Builtin.Int.intBits (m : Int) : Nat) : Int).toNat = bitsN m := Int.toNat_natCast _
    rw [eN]
    refine lc_range (lo := 0) (n := bitsN m) (fun i H' => Same H H' ∧ H' D = some (.lst (nvs (((List.range (bitsN m)).take i).filter m.testBit)))) ⟨same_upd nD, upd_same⟩ (fun i H' hi ⟨sm, hD⟩ => ?_) (fun H' ⟨sm, hD⟩ => ?_)
    · refine ⟨rfl, ?_⟩
      rw [Int.zero_add]
      refine ⟨_, rfl, _, rfl, m, i, rfl, rfl, _, rfl, rfl, _, rfl, ?_⟩
      rw [bit_val]
      cases e : m.testBit i with
      | false =>
        refine iteF ⟨sm, ?_⟩
        rw [filter_take _ _ hi, e]
        simpa using hD
      | true =>
        refine iteT ⟨_, rfl, _, hD, ?_, ?_, ?_⟩
        · rw [nvs_len, sizeLine_eq]
          have h1 := List.length_filter_le m.testBit ((List.range (bitsN m)).take i)
          rw [List.length_take, List.length_range] at h1
          omega
        · intro b o e2
          rw [upd_ne (ne_of_none e2 nD)]
          exact sm b o e2
        · rw [upd_same, filter_take _ _ hi, e]
          unfold nvs
          rw [List.map_append]
          rfl
    · rw [List.take_of_length_le (by rw [List.length_range]; exact Nat.le_refl _)] at hD
      exact ⟨D, _, rfl, .inl ⟨SqL.of hD, fun t nt => q _ t (sm.trans (same_upd nt)) (sm.free nt) upd_same⟩⟩
end
end K0
set_option Elab.async false
set_option linter.all false
set_option maxRecDepth 100000
set_option maxHeartbeats 4000000
/-! enumerate(tuple) -/
namespace K0
open PySem PySem.Spec PyProof.Rows L2
open AutoSeq1 (wpAny_loadPart')
theorem enumNewT (l : Addr) (items : Array Value) (n : Nat) (dct : Option Addr) (sl : Array (Option Value)) :
    Meets (Builtin.«enumerate.__new__» ⟨[.type "enumerate", .ref l], []⟩) (fun _ R s => s.heap.get? l = some { cls := .type "tuple", dict := dct, data := .seq items n, slots := sl } ∧
      R (.ok (.ret (.ref (s.heap.push { cls := .type "tuple_iterator", data := .fields #[.ref l, .int 0 0] }).objs.size)))
        { s with heap := (s.heap.push { cls := .type "tuple_iterator", data := .fields #[.ref l, .int 0 0] }).push { cls := .type "enumerate", data := .fields #[.none, .bool false, .ref s.heap.objs.size, rawInt 0, .none, .none] } }) :=
  .of_wp fun prog w A R s h => by
    obtain ⟨hp, g, d, tk, os⟩ := s
    obtain ⟨hl, h⟩ := h
    have hsub := sub_enumerate
    have hT : Heap.IsTuple (Shared.heap ⟨hp, g, d, tk, os⟩) l items := ⟨_, hl, rfl, n, rfl⟩
    wp_walk using wpAny_loadPart' hl
    refine wpAny_stack_any fun st => wpAny_pure ?_
    split
    · rename_i c _ _ _ _ _
      cases (c == Value.type "enumerate")
      · wp_walk using wpAny_loadPart' hl, wpAny_pyIter_tuple hT
        exact ⟨_, rfl, h⟩
      · wp_walk using wpAny_loadPart' hl, wpAny_pyIter_tuple hT
        exact ⟨_, rfl, h⟩
    · wp_walk using wpAny_loadPart' hl, wpAny_pyIter_tuple hT
      exact ⟨_, rfl, h⟩
section
variable {prog : Program} {w : World} {A : Around} {E : Value → Shared → Prop} {s : Shared}
theorem callEnumT {l : Addr} {items : Array Value} {Q : Value → Shared → Prop} (hL : s.heap.IsTuple l items)
    (h : ∀ h', IsEnum h' (s.heap.objs.size + 1) s.heap.objs.size 0 .none → h'.IsTupleIter s.heap.objs.size l 0 → h'.objs.size = s.heap.objs.size + 2 →
      (∀ b o, s.heap.get? b = some o → h'.get? b = some o) → Q (.ref (s.heap.objs.size + 1)) { s with heap := h' }) :
    wpAny (model prog w) A (call (.type "enumerate") [.ref l]) Q E s := by
  obtain ⟨⟨c, dct, dt, sl⟩, hl, hc, n, hd⟩ := hL
  replace hc : c = .type "tuple" := hc
  replace hd : dt = .seq items n := hd
  subst hc hd
  refine callType_new F.called_enumerate (by decide) (F.typeCall_enumerate_1 _) (F.newCall_enumerate_1 _) (fun obj => F.args_object_init_2 obj _) F.entry_enumerate_new
    (enumNewT l items n dct sl) ⟨hl, ?_⟩
  have hz : (s.heap.push { cls := .type "tuple_iterator", data := .fields #[.ref l, .int 0 0] }).objs.size = s.heap.objs.size + 1 := Heap.size_push ..
  show _ ∧ _
  rw [hz]
  have he : IsEnum ((s.heap.push { cls := .type "tuple_iterator", data := .fields #[.ref l, .int 0 0] }).push
      { cls := .type "enumerate", data := .fields #[.none, .bool false, .ref s.heap.objs.size, rawInt 0, .none, .none] }) (s.heap.objs.size + 1) s.heap.objs.size 0 .none := by
    have := Heap.get?_push_size (s.heap.push { cls := .type "tuple_iterator", data := .fields #[.ref l, .int 0 0] })
      (o := { cls := .type "enumerate", data := .fields #[.none, .bool false, .ref s.heap.objs.size, rawInt 0, .none, .none] }) rfl
    rw [hz] at this
    exact this
  refine ⟨⟨_, he, rfl⟩, h _ he ⟨_, Heap.get?_push_of_some _ (Heap.get?_push_size _ rfl), rfl, rfl⟩ (by rw [Heap.size_push, hz]) fun b o x => Heap.get?_push_of_some _ (Heap.get?_push_of_some _ x)⟩
end
/-- the tuple at a, each item in a new pair with its place -/
def IteT (K : PySem.W.Frag) (a : Addr) : It :=
  ⟨fun i H => ∃ (xs : List V) (x : V), SqT K H a xs ∧ xs[i]? = some x, fun i H v H' => ∃ T x, v = .ref T ∧ H T = none ∧ H' = upd H T (.tup [.int (i : Nat), x]) ∧ ∀ xs, SqT K H a xs → xs[i]? = some x, fun i H => ∃ xs : List V, SqT K H a xs ∧ xs.length ≤ i⟩
theorem turn_enumT {P : Program} {w : World} {K : PySem.W.Frag} {elts : List Expr} {kk : Nat} {tpos : Pos} (a e it : Addr) :
    Turn P w K (.Tuple elts kk tpos) (IteT K a) [e, it] e (fun i h => (∃ old, IsEnum h e it ((i : Nat) : Int) old) ∧ h.IsTupleIter it a i ∧ e ≠ it ∧ e ≠ a ∧ a ≠ it) where
  mem := by simp
  obj := fun i h st b hb => by
    obtain ⟨⟨old, he⟩, ⟨o, ho, hc, hd⟩, _⟩ := st
    have e' : b = e ∨ b = it := by simpa using hb
    rcases e' with z | z
    · rw [z]; exact ⟨_, he, fun v q => nomatch q⟩
    · rw [z]; exact ⟨o, ho, fun v q => by rw [hd] at q; cases q⟩
  keep := fun i h h' st k => let ⟨⟨old, he⟩, hi, hne⟩ := st; ⟨⟨old, k e (by simp) _ he⟩, hi.at fun o q => k it (by simp) o q, hne⟩
  item := by
    intro X hP hw hK hc i pins s σ H E I hf st hg
    subst hP hw hK
    obtain ⟨⟨old, he⟩, hit, hne, hea, hai⟩ := st
    obtain ⟨xs, x, hq, hx⟩ := hg
    obtain ⟨its, rv, p, hz⟩ := I.tuple hq
    obtain ⟨u, hu, ru⟩ := rv.get hx
    have hel : e < s.heap.objs.size := Heap.lt_size he
    have hil : it < s.heap.objs.size := by obtain ⟨_, q, _⟩ := hit; exact Heap.lt_size q
    have hT : s.heap.IsTuple a its.toArray := p
    have lt : i < its.toArray.size := by
      have := (List.getElem?_eq_some_iff.mp hu).1
      simpa using this
    refine wpAny_pyNext_enum_itemD (Draws.tuple (A := X.A.in1) (show X.A.in1.handled = none from I.ok.hd hc) it a hai its.toArray) he ⟨hit, hT⟩ lt hne (by simp [hne, hea]) fun y h' tk hy ho hst hTt hsz hk => ?_
    have ey : y = u := by
      rw [show its.toArray[i]? = some u by simpa using hu] at hy
      exact (Option.some.inj hy).symm
    subst ey
    refine ⟨_, rfl, wpAny_letOwnedTupleGo_enum (s := { s with heap := h', toks := tk + 1 }) ho fun h'' he' sb => ?_⟩
    have hT2 : h''.get? s.heap.objs.size = some { cls := .type "tuple", data := .seq #[.int i tk, y] } := (sb.2 _ (Nat.ne_of_gt hel)).trans hTt
    have new : ObjOk X.prog X.w (upd H s.heap.objs.size (.tup [.int (i : Nat), x])) h'' s.heap.objs.size (.tup [.int (i : Nat), x]) :=
      ⟨by show 2 ≤ sizeLine; decide, [.int i tk, y], .cons ⟨_, rfl⟩ (.cons ru .nil), ⟨_, hT2, rfl, _, rfl⟩⟩
    have I1 : Inv X pins σ (upd H s.heap.objs.size (.tup [.int (i : Nat), x])) { s with heap := h'', toks := tk + 1 } :=
      I.turnedNew (ch := [e, it]) (fun b ob hb q => (sb.2 b (fun z => hb (by simp [z]))).trans (hk b ob (fun z => hb (by simp [z])) (fun z => hb (by simp [z])) q)) hf (Nat.le_refl _) new
    refine ⟨.ref s.heap.objs.size, _, I1, rfl, ⟨_, x, rfl, I.hok.fresh (Nat.le_refl _), rfl, fun ys hy => by rw [I.tuple_inj hy hq]; exact hx⟩, ⟨⟨y, ?_⟩, hst.1.at fun o q => (sb.2 it (Ne.symm hne)).trans q, hne, hea, hai⟩, fun b hb => ?_⟩
    · have e1 : ((i + 1 : Nat) : Int) = (i : Int) + 1 := by omega
      rw [e1]; exact he'
    · have hb' : b < s.heap.objs.size := by
        have e' : b = e ∨ b = it := by simpa using hb
        rcases e' with z | z
        · rw [z]; exact hel
        · rw [z]; exact hil
      rw [upd_ne (Nat.ne_of_lt hb')]
      exact (hf b hb).1
  done := by
    intro X hP hw hK hc i pins s σ H E I hf st hg
    subst hP hw hK
    obtain ⟨⟨old, he⟩, hit, hne, hea, hai⟩ := st
    obtain ⟨xs, hq, hx⟩ := hg
    obtain ⟨its, rv, p, hz⟩ := I.tuple hq
    obtain ⟨f0, f1, f2, f3, f4, f5⟩ := hf it (by simp)
    have hl := rv.length
    have hT : s.heap.IsTuple a its.toArray := p
    have hTy : s.TypeIs (.ref e) "enumerate" := ⟨_, he, rfl⟩
    unfold pyNext
    refine wpAny_bind (wpAny_attempt (wpAny_callSpecial?_slot (name := Str.ofString "__next__") hTy F.slot_enumerate_next
      (wpAny_call_entry F.slot_enumerate_next hTy F.entry_enumerate_next ?_ (F.args_enumerate_next_1 _))))
    show wpAny _ _ (field (.ref e) 2 >>= _) _ _ _
    refine wpAny_bind (wpAny_field he rfl (x := .ref it) rfl ?_)
    refine wpAny_bind (wpAny_nextOf_tuple_end (A := X.A.in1) (show X.A.in1.handled = none from I.ok.hd hc) hit hT (by simp; omega) fun h' x he' hx' => ?_)
    obtain ⟨o, ho, hc⟩ := hx'
    refine wpAny_bind (wpAny_isInstance (T := "StopIteration") (b := true) ⟨o, ho, hc⟩ isSubtype_stop ?_)
    exact wpAny_pure ⟨rfl, I.turned (t' := s.toks) (fun b o hb q => he' b o hb q) f0 f1 f3 f4 f5⟩
  self := fun A i s Q E st h => let ⟨⟨_, he⟩, _⟩ := st; wpAny_pyIter_enum he h
def iEnumT (K : PySem.W.Frag) (ta : TA) : TI := fun σ H R => ta σ H fun vs H1 => ∃ a xs, vs = [.ref a] ∧ SqT K H1 a xs ∧ R (IteT K a) H1
theorem pi_enumT {X : Cx} {e : Expr} {ta : TA} {p pos tpos : Pos} {elts : List Expr} {kk : Nat} (hg : Gl X "enumerate") (hm : X.mg "enumerate" = none) (ha : PA X [e] ta) (hs : starEach [e] X.env = [(false, eval e X.env)] := by rfl) :
    PI X (.Tuple elts kk tpos) (.Call (.Name "enumerate" p) [e] [] pos) (iEnumT X.K ta) := by
  refine ⟨fun pins s σ H R I h => ?_⟩
  refine Call_ (ld_blt I hg hm boot_enumerate (PyProof.Rows.callWith_type1 (thn (ha.run pos pins s σ H _ I h) fun us s1 ⟨vs, H1, I1, r1, q1⟩ => ?_) hs rfl))
  obtain ⟨a, xs, ex, hq, q⟩ := q1
  subst ex
  cases r1 with
  | cons r rr =>
    cases rr
    cases r
    obtain ⟨its, rv, p', hz⟩ := I1.tuple hq
    have hT : s1.heap.IsTuple a its.toArray := p'
    have hal : a < s1.heap.objs.size := by obtain ⟨o, ho, _⟩ := hT; exact Heap.lt_size ho
    refine callEnumT hT fun h' he hit hsz hk => wpAny_pyIter_enum he ?_
    have I2 : Inv X pins σ H1 { s1 with heap := h' } := I1.kept (t' := s1.toks) hk
    refine ⟨s1.heap.objs.size + 1, [s1.heap.objs.size + 1, s1.heap.objs.size], _, _, H1, rfl, I2, turn_enumT a (s1.heap.objs.size + 1) s1.heap.objs.size, ⟨⟨.none, he⟩, hit, Nat.succ_ne_self _, Nat.ne_of_gt (Nat.lt_succ_of_lt hal), Nat.ne_of_lt hal⟩, fun b hb => ?_, q⟩
    have e' : b = s1.heap.objs.size + 1 ∨ b = s1.heap.objs.size := by simpa using hb
    have hle : s1.heap.objs.size ≤ b := by
      rcases e' with z | z
      · rw [z]; exact Nat.le_add_right _ _
      · rw [z]; exact Nat.le_refl _
    exact I1.fpOk hle (I1.hok.fresh hle)
theorem walk_enumT {K : PySem.W.Frag} {a : Addr} {xs : List V} : Walk (IteT K a) xs.length (fun H => SqT K H a xs) (YPair (fun i => some (.int (i : Nat))) (fun i => xs[i]?)) := by
  refine ⟨fun i _ hi q => ⟨xs, xs[i], q, by simp [hi]⟩, fun _ q => ⟨xs, q, Nat.le_refl _⟩, fun i H v H' _ q y => ?_⟩
  obtain ⟨T, x, h1, h2, h3, h4⟩ := y
  exact ⟨T, .int (i : Nat), x, h1, h2, h3, rfl, h4 xs q⟩
end K0
set_option Elab.async false
set_option linter.all false
set_option maxRecDepth 100000
set_option maxHeartbeats 4000000
namespace K0
open PySem PySem.Spec PyProof.Rows L2
/-- a loop over enumerate of a list or tuple of data -/
theorem tfor_en {K : PySem.W.Frag} {i : Nat} {a : Addr} {ds : List PyData} {g : TG} {tb : TS} {D : Ends} {σ : L2.St} {H H0 : Hp} (hv : σ[i]? = some (some (.ref a))) (h : Sq K H0 a ds) (Pv : Nat → L2.St → Hp → Prop) (h0 : Pv 0 σ H)
    (hl : ∀ j σ H', Pv j σ H' → ∀ o, H0 a = some o → H' a = some o)
    (hs : ∀ j v d σ H' T, ds[j]? = some d → Dt H0 v d → Pv j σ H' → H' T = none → g (.ref T) σ (upd H' T (.tup [.int (j : Nat), v])) fun σ2 H2 => tb { D with nx := Pv (j + 1), ct := Pv (j + 1), bk := D.nx } σ2 H2) (hd : ∀ σ H', Pv ds.length σ H' → D.nx σ H') :
    tFor (fun σ H R => iEnum K (tCons (tVar i) tNil) σ H R ∨ iEnumT K (tCons (tVar i) tNil) σ H R) g tb D σ H := by
  cases h with
  | @lst xs e h =>
    refine .inl ⟨_, hv, a, xs, rfl, SqL.of (hl 0 _ _ h0 _ e), for_it (walk_enum (K := K) (a := a) (xs := xs)) Pv h0 (fun j σ H' _ p => SqL.of (hl j σ H' p _ e)) (fun j v σ H' H2 hj p y => ?_) (fun σ H' p => ?_)⟩
    · obtain ⟨T, x, y, rfl, nT, rfl, e1, e2⟩ := y
      cases e1
      obtain ⟨d, hd, hdt⟩ := h.at e2
      exact hs j y d σ H' T hd hdt p nT
    · rw [h.len] at p
      exact hd σ H' p
  | @tup xs e h =>
    refine .inr ⟨_, hv, a, xs, rfl, SqT.of (hl 0 _ _ h0 _ e), for_it (walk_enumT (K := K) (a := a) (xs := xs)) Pv h0 (fun j σ H' _ p => SqT.of (hl j σ H' p _ e)) (fun j v σ H' H2 hj p y => ?_) (fun σ H' p => ?_)⟩
    · obtain ⟨T, x, y, rfl, nT, rfl, e1, e2⟩ := y
      cases e1
      obtain ⟨d, hd, hdt⟩ := h.at e2
      exact hs j y d σ H' T hd hdt p nT
    · rw [h.len] at p
      exact hd σ H' p
  | @frz o xs e h =>
    refine .inr ⟨_, hv, a, xs, rfl, SqT.frz (hl 0 _ _ h0 _ e), for_it (walk_enumT (K := K) (a := a) (xs := xs)) Pv h0 (fun j σ H' _ p => SqT.frz (hl j σ H' p _ e)) (fun j v σ H' H2 hj p y => ?_) (fun σ H' p => ?_)⟩
    · obtain ⟨T, x, y, rfl, nT, rfl, e1, e2⟩ := y
      cases e1
      obtain ⟨d, hd, hdt⟩ := h.at e2
      exact hs j y d σ H' T hd hdt p nT
    · rw [h.len] at p
      exact hd σ H' p
  | kon e z =>
    refine .inr ⟨_, hv, a, [], rfl, e _, for_it (walk_enumT (K := K) (a := a) (xs := [])) Pv h0 (fun j σ H' _ p => e _) (fun j v σ H' H2 hj p y => ?_) (fun σ H' p => ?_)⟩
    · cases hj
    · rw [z] at hd
      exact hd σ H' p
end K0
set_option Elab.async false
set_option linter.all false
set_option maxRecDepth 100000
set_option maxHeartbeats 4000000
/-! methods and operators of an own class that may raise -/
namespace K0
open PySem PySem.Spec PyProof.Rows L2
section
variable {X : Cx} {pins : List (Addr × Obj)} {σ : L2.St} {H : Hp} {s : Shared}
/-- a method of the class at C by its name, its promise -/
structure Mt (P : Program) (w : World) (K : PySem.W.Frag) (mg : Str → Option Value) (base : Heap) (C : Addr) (m : Str) (k : Nat) (ps : List Str) (sp : Sp) : Prop where
  ex : ∃ (f : Addr) (fd : FuncData), Cls K C ∧ Meth K C m f ∧ PySem.W.isFn K (.ref f) = true ∧ PySem.W.fnIn K f = true ∧ PySem.W.findIn K (.ref C) m = some (some (.ref f)) ∧ FnOk P w K mg base (L2.CX P w) k f fd ps sp ∧ Binds K fd ps []
variable {C : Addr} {m : Str} {k : Nat} {ps : List Str} {sp : Sp} {E : XK} {o e : Expr} {es : List Expr} {ta : TE} {t : TA} {apos pos : Pos}
theorem pe_mt1 {pl : Sem Bool} (T : Mt X.prog X.w X.K X.mg X.base C m k ps sp) (hr : Room k X.A) (hx : Passes (L2.CX X.prog X.w) X E) (he : PE X o ta) (ha : PA X (e :: es) t)
    (hst : starEach (e :: es) X.env = (false, eval e X.env) :: starEach es X.env := by rfl) (hpl : (backTo pos (starEach es X.env)).any (·.1) = false := by rfl)
    (ht : eval (.Call (.Attribute o m apos) (e :: es) [] pos) X.env = (do
      let ov ← eval o X.env
      standAt apos.atName
      let (f, first) ← holding [ov] (getMethod ov m pl)
      callWith pos f first (backTo pos (starEach (e :: es) X.env)) (backToKw pos (keywordEach [] X.env))) := by rfl) : PE X (.Call (.Attribute o m apos) (e :: es) [] pos) (tMeth C m sp [] E ta t) := by
  obtain ⟨f, fd, c, hm, _, _, _, F, b⟩ := T.ex
  exact pe_meth (pl := pl) he c hm F hr b .nil hx ha hst hpl ht
end
end K0
set_option Elab.async false
set_option linter.all false
set_option maxRecDepth 100000
set_option maxHeartbeats 4000000
namespace K0
open PySem PySem.Spec PyProof.Rows L2
section
variable {P : Program} {w : World} {K : PySem.W.Frag} {mg : Str → Option Value} {base : Heap}
/-- Web(many, clashes) -/
def spMk (K : PySem.W.Frag) (C CN CW : Addr) : Sp := fun vs H Q E => ∃ (a : Addr) (v : V) (d : PyData) (ds : List PyData), vs = [v, .ref a] ∧ Dt H v d ∧ Sq K H a ds ∧
  (okN 0 d = false → Rz CN [("name", .str "many")] H E) ∧
  (∀ n, d = .int n → 0 ≤ n → n ≤ 16 ∧ ds.length ≤ 62 ∧
    (∀ ps, entsOf n ds = .ok ps → ∀ q, Cl n q → (∀ z, z ∈ q ↔ z ∈ ps) → ∀ H' p, Same H H' → H p = none → WebAt C (New H H') p n q → Q (.ref p) H') ∧
    (∀ x y, entsOf n ds = .error (x, y) → ∀ H' e vx vy, Same H H' → Dt H' vx x → Dt H' vy y → H' e = some (.xd [("y", vy), ("x", vx)]) → E (.ref CW) (some e) H'))
/-- the class as it is called -/
structure WebK (P : Program) (w : World) (K : PySem.W.Frag) (mg : Str → Option Value) (base : Heap) (C CN CW : Addr) : Prop where
  g : mg "Web" = some (.ref C)
  ex : ∃ (f : Addr) (fd : FuncData), Mk K C f ∧ FnOk P w K mg base (L2.CX P w) 4 f fd ["self", "many", "clashes"] (spWi K C CN CW) ∧ Binds K fd ["self", "many", "clashes"] [] ∧
    ∃ e0 : Addr, (∀ H : Hp, SqT K H e0 []) ∧ Binds K fd ["self", "many", "clashes"] [.ref e0]
theorem spMk_in {C CN CW : Addr} {vs : List V} {H : Hp} {Q : VK} {E : XK} (h : spMk K C CN CW vs H Q E) (x dx : Addr) (nx : H x = none) (ndx : H dx = none) (ne : dx ≠ x) :
    spWi K C CN CW (.ref x :: vs) (upd (upd H dx (.own x)) x (.ins C dx [])) (fun v H2 => v = .non ∧ Q (.ref x) H2) E := by
  obtain ⟨a, v, d, ds, rfl, hv, hs, kn, kw⟩ := h
  have s1 : Same H (upd (upd H dx (.own x)) x (.ins C dx [])) := fun b o e => by
    rw [upd_ne (ne_of_none e nx), upd_ne (ne_of_none e ndx)]
    exact e
  have sX : ∀ {H'}, SameX x (upd (upd H dx (.own x)) x (.ins C dx [])) H' → Same H H' := fun {H'} z b o e => z b o (s1 b o e) (ne_of_none e nx)
  refine ⟨x, dx, a, v, d, ds, rfl, upd_same, hv.mono s1, hs.mono s1, fun bad H' e z he => kn bad H' e (sX z) he, fun n en h0 => ?_⟩
  obtain ⟨n8, n62, kq, ke⟩ := kw n en h0
  refine ⟨n8, n62, fun ps hps q hq hm H' z W => ⟨rfl, kq ps hps q hq hm H' x (sX z) nx (W.mono (new_mono (fun b e1 e2 => ?_) (Same.refl _)))⟩, fun y1 y2 he H' e vx vy z hx hy hd => ke y1 y2 he H' e vx vy (sX z) hx hy hd⟩
  by_cases eb : b = x
  · rw [eb]; exact nx
  · rw [del_ne eb, upd_ne eb] at e1
    by_cases ed : b = dx
    · rw [ed]; exact ndx
    · rw [upd_ne ed] at e1
      exact e1
section
variable {X : Cx} {C CN CW : Addr} {E : XK} {e : Expr} {es : List Expr} {t : TA} {p pos : Pos}
theorem pe_web (T : WebK X.prog X.w X.K X.mg X.base C CN CW) (hr : Room 5 X.A) (hg : Gl X "Web") (hx : Passes (L2.CX X.prog X.w) X E) (ha : PA X (e :: es) t)
    (he : starEach (e :: es) X.env = (false, eval e X.env) :: starEach es X.env := by rfl) (hpl : (backTo pos (starEach es X.env)).any (·.1) = false := by rfl) :
    PE X (.Call (.Name "Web" p) (e :: es) [] pos) (tCall (spMk X.K C CN CW) [] E t) := by
  obtain ⟨f, fd, M, F, b, _⟩ := T.ex
  refine ⟨fun pins s σ H Q I h => ?_⟩
  refine wpAny_Call_Name_kw (ld_glob I hg T.g ?_ (by decide))
  refine PySem.W.callWith_K (h₀ := X.base) I.ok.mod.kin M.kp (thn (ha.run pos pins s σ H _ I h) fun us s1 ⟨vs, H1, I1, r, q⟩ => ⟨I1.kIn, ?_⟩) he hpl
  refine run_make (dvs := []) M F hr b .nil hx I1 r fun x dx nx ndx ne => ?_
  rw [List.append_nil]
  have q : spMk X.K C CN CW (vs ++ []) H1 Q E := q
  rw [List.append_nil] at q
  exact spMk_in q x dx nx ndx ne
end
/-! ### what a web answers -/
variable {f : Addr} {fd : FuncData}
abbrev s_w (i : Nat) : Stmt := inClass (top 44) i
theorem sc_cl : FnScope ["self", "x", "y"] ["self", "x", "y"] (defScope (s_w 2)) := ⟨rfl, rfl, rfl, by decide +kernel, rfl, by decide +kernel, by decide +kernel⟩
/-- clash -/
def spCl (C CT : Addr) : Sp := fun vs H Q E => ∃ (p : Addr) (vx vy : V) (dx dy : PyData) (n : Int) (q : List Pr), vs = [.ref p, vx, vy] ∧ WebAt C H p n q ∧ Dt H vx dx ∧ Dt H vy dy ∧
  (isTh n dx = false → Rz CT [("thing", vx)] H E) ∧ (isTh n dx = true → isTh n dy = false → Rz CT [("thing", vy)] H E) ∧
  ∀ x y : Nat, dx = .int x → dy = .int y → (x : Int) < n → (y : Int) < n → Ret (.bl (hasP q x y)) H Q
theorem mask_at {C : Addr} {H : Hp} {p : Addr} {n : Int} {q : List Pr} (W : WebAt C H p n q) (x : Nat) (hx : (x : Int) < n) : x < (mOf n.toNat q).length := by
  rw [mOf_len]
  have := W.n0
  omega
theorem mask_bits {C : Addr} {H : Hp} {p : Addr} {n : Int} {q : List Pr} (W : WebAt C H p n q) (x y : Nat) : ((mOf n.toNat q).getD x 0).testBit y = hasP q x y := by
  have := mOf_bit (n := n.toNat) (q := q) (by rw [Int.toNat_of_nonneg W.n0]; exact W.cl) x y
  exact this
theorem ok_cl {C CT : Addr} (F : Fun K "clash" "Web.clash" (s_w 2) f fd) (T : WebC K C) (CH : Df P w K mg base "check_thing" 3 ["many", "thing"] (spCt CT)) : FnOk P w K mg base (L2.CX P w) 4 f fd ["self", "x", "y"] (spCl C CT) := by
  refine F.okX sc_cl (fun vs H Q E h => ?_) (fun cdv A outer s H vs Q E hr h => ?_)
  · obtain ⟨p, vx, vy, dx, dy, n, q, rfl, _⟩ := h
    rfl
  · obtain ⟨p, vx, vy, dx, dy, n, q, rfl, W, hx, hy, q1, q2, q3⟩ := h
    obtain ⟨⟨ddx, c, m, l, h1, h2, h3, h4, h5⟩, cl, n0, n8⟩ := id W
    refine ⟨_, pss_cons (ps_expr (pe_df CH hr (by rfl) passUp (pa_cons (pe_fld (pv 0) rfl) (pa_cons (pv 1) pa_nil))))
      (pss_cons (ps_expr (pe_df CH hr (by rfl) passUp (pa_cons (pe_fld (pv 0) rfl) (pa_cons (pv 2) pa_nil))))
      (pss_one (ps_ret (pe_cmpR op_eq (pe_op op_and1 (pe_op op_shr2 (pe_ix ix_tup (pe_fld (pv 0) rfl) (pv 1) (fun _ _ => rfl)) (pv 2)) pe_int) pe_int (nomark _))))), ?_⟩
    refine ⟨_, rfl, p, C, ddx, _, _, rfl, h1, T.cl, T.nm, wf_many _ _ _, _, rfl, n, vx, dx, rfl, hx, fun t1 H1 s1 => ?_, q1⟩
    refine ⟨_, rfl, p, C, ddx, _, _, rfl, s1 _ _ h1, T.cl, T.nm, wf_many _ _ _, _, rfl, n, vy, dy, rfl, hy.mono s1, fun t2 H2 s2 => ?_, fun t2 H' d s' hd => q2 t1 t2 H' d (s1.trans s') hd⟩
    have s12 := s1.trans s2
    obtain ⟨i, rfl, rfl, i0, iN⟩ := th_int hx t1
    obtain ⟨j, rfl, rfl, j0, jN⟩ := th_int hy t2
    obtain ⟨x, rfl⟩ := Int.eq_ofNat_of_zero_le i0
    obtain ⟨y, rfl⟩ := Int.eq_ofNat_of_zero_le j0
    refine ⟨_, rfl, p, C, ddx, _, _, rfl, s12 _ _ h1, T.cl, T.nk, wf_masks _ _ _, _, rfl, m, _, (x : Int), _, rfl, rfl, SqT.of (s12 _ _ h5), nvs_at (mask_at W x iN), _, rfl, _, y, rfl, rfl, _, rfl, rfl, rfl, ?_⟩
    rw [dec_int, bit_one, mask_bits W]
    exact q3 x y rfl rfl iN jN _ s12
end
end K0
set_option Elab.async false
set_option linter.all false
set_option maxRecDepth 100000
set_option maxHeartbeats 4000000
namespace K0
open PySem PySem.Spec PyProof.Rows L2
section
variable {P : Program} {w : World} {K : PySem.W.Frag} {mg : Str → Option Value} {base : Heap} {f : Addr} {fd : FuncData}
/-- near -/
def nearOf (n : Int) (q : List Pr) (x : Nat) : List Nat := (List.range n.toNat).filter (hasP q x)
end
end K0
set_option Elab.async false
set_option linter.all false
set_option maxRecDepth 100000
set_option maxHeartbeats 4000000
namespace K0
open PySem PySem.Spec PyProof.Rows L2
theorem prD_lay (z : Pr) : (prD z).canLay0 = true := by simp [prD, PyData.canLay0, PyData.canLayAll0]
theorem prs_lay : ∀ zs : List Pr, PyData.canLayAll0 (zs.map prD) = true
  | [] => by simp [PyData.canLayAll0]
  | z :: zs => by rw [List.map_cons]; simp only [PyData.canLayAll0]; rw [prD_lay, prs_lay zs]; rfl
theorem prD_depth (z : Pr) : (prD z).depth ≤ 1 := by simp [prD, PyData.depth, PyData.depthAll]
theorem prs_depth : ∀ zs : List Pr, PyData.depthAll (zs.map prD) ≤ 1
  | [] => by simp [PyData.depthAll]
  | z :: zs => by rw [List.map_cons]; simp only [PyData.depthAll]; exact Nat.max_le.mpr ⟨prD_depth z, prs_depth zs⟩
theorem prsL_shaped (zs : List Pr) : SeqAt.shaped (.list (zs.map prD)) = true := by
  unfold SeqAt.shaped
  rw [Bool.and_eq_true, decide_eq_true_iff]
  refine ⟨by simp only [PyData.canLay0]; exact prs_lay zs, ?_⟩
  simp only [PyData.depth]
  have := prs_depth zs
  omega
section
variable {P : Program} {w : World} {K : PySem.W.Frag} {mg : Str → Option Value} {base : Heap} {f : Addr} {fd : FuncData}
/-- what isinstance and == ask of the class -/
structure WebI (K : PySem.W.Frag) (C : Addr) : Prop extends WebC K C where
  ha : PySem.W.findIn K (.ref C) "__class__" = some (some (.builtin "object.__class__"))
  hn : PySem.W.specialIn K (.builtin "object.__class__") "__get__" = some (some (.builtin "getset_descriptor.__get__"))
  tk : PySem.W.takesIn K (.builtin "object.__class__") = some true
  hm : PySem.W.mroIn K C (.type "object") = some true
  yes : PySem.W.kitOne K (.ref C) (.ref C) = some true
  no : ∀ T ∈ ["NoneType", "bool", "int", "str", "list", "tuple"], PySem.W.kitOne K (.type T) (.ref C) = some false
  nf : ∀ T ∈ ["int", "list"], PySem.W.notFirst K C (.type T) = true
theorem WebI.ty {C : Addr} (T : WebI K C) {H : Hp} {p : Addr} {n : Int} {q : List Pr} (W : WebAt C H p n q) : TyX K H (.ref p) (.ref C) := by
  obtain ⟨⟨ddx, c, m, l, h1, _⟩, _⟩ := W
  exact .base (.ins h1 T.cl T.ha T.hn T.tk T.hm)
theorem WebAt.tuple {C : Addr} {H : Hp} {p : Addr} {n : Int} {q : List Pr} (W : WebAt C H p n q) : ∃ (dx c m : Addr) (xs : List V), H p = some (.ins C dx (wf n c m)) ∧ H c = some (.tup xs) ∧ DtAll H xs (q.map prD) := by
  obtain ⟨⟨dx, c, m, l, h1, h2, h3, h4, h5⟩, _⟩ := W
  exact ⟨dx, c, m, _, h1, h2, by rw [h3, List.map_map]; exact dtAll_prs h4⟩
end
end K0
set_option Elab.async false
set_option linter.all false
set_option maxRecDepth 100000
set_option maxHeartbeats 4000000
namespace K0
open PySem PySem.Spec PyProof.Rows L2
theorem entsOf_prs {n : Int} : ∀ {zs : List Pr}, (∀ z ∈ zs, 0 ≤ z.1 ∧ z.1 < z.2 ∧ z.2 < n) → entsOf n (zs.map prD) = .ok zs
  | [], _ => rfl
  | z :: zs, h => by
    have ih := entsOf_prs (zs := zs) fun y hy => h y (List.mem_cons_of_mem _ hy)
    obtain ⟨x, y⟩ := z
    obtain ⟨a, b, c⟩ := h (x, y) List.mem_cons_self
    dsimp only at a b c
    have e : entOf n (prD (x, y)) = .ok (x, y) := by
      unfold entOf prD pairOf
      dsimp only
      rw [if_pos ⟨a, by omega, by omega, c, by omega⟩]
      congr 2
      · omega
      · omega
    rw [List.map_cons, entsOf, e, ih]
/-- what fresh tuples of pairs stand for -/
def PrsAt (H : Hp) (l : List (Addr × Pr)) : Prop := ∀ z ∈ l, H z.1 = some (.tup [.int z.2.1, .int z.2.2])
theorem PrsAt.mono {H H' : Hp} (s : Same H H') {l : List (Addr × Pr)} (h : PrsAt H l) : PrsAt H' l := fun z hz => s _ _ (h z hz)
end K0
set_option Elab.async false
set_option linter.all false
set_option maxRecDepth 100000
set_option maxHeartbeats 4000000
namespace K0
open PySem PySem.Spec PyProof.Rows L2
theorem prD_shaped (z : Pr) : SeqAt.shaped (prD z) = true := by
  unfold SeqAt.shaped
  rw [Bool.and_eq_true, decide_eq_true_iff]
  exact ⟨prD_lay z, by have := prD_depth z; omega⟩
theorem prD_eqv (a b : Pr) : PyData.eqv (prD a) (prD b) = decide (a = b) := PySem.W.Datum.eqv a b
section
variable {X : Cx} {o e : Expr} {es : List Expr} {to : TE} {t : TA} {apos cpos : Pos}
/-- o.append(e) -/
theorem pe_lapp (ho : PE X o to) (ha : PA X (e :: es) t)
    (hbase : attributeBase o "append" X.env (eval o X.env) = eval o X.env := by rfl)
    (hfew : ((backTo cpos (starEach (e :: es) X.env)).all (fun x => !x.1) && (backToKw cpos (keywordEach [] X.env)).all (fun x => x.1.isSome)
      && decide ((e :: es).length + ([] : List Keyword).length + (if ([] : List Keyword).isEmpty then 0 else 1) < 30)) = true := by rfl)
    (hline : (apos.endLine == cpos.line) = true := by rfl) (hs : starEach (e :: es) X.env = (false, eval e X.env) :: starEach es X.env := by rfl) (hplain : (backTo cpos (starEach es X.env)).any (·.1) = false := by rfl) :
    PE X (.Call (.Attribute o "append" apos) (e :: es) [] cpos) (tBM X.K "list" rAppend to t) :=
  pe_bm PySem.F.plainAttrs_list PySem.F.slot_list_append PySem.F.type_list_append mt_append ho ha hbase hfew hline hs hplain
end
end K0
set_option Elab.async false
set_option linter.all false
set_option maxRecDepth 100000
set_option maxHeartbeats 4000000
/-! several clauses, each with or without a name -/
namespace K0
open PySem PySem.Spec PyProof.Rows L2
abbrev Clause := Value × Option Nat × (Addr → Value → Option Addr → TS)
/-- how a clause's suite ends where its name's slot is i -/
def gone (i : Nat) (D : Ends) : Ends := { nx := fun σ' H' => D.nx (σ'.set i none) H', rt := D.rt, bk := fun σ' H' => D.bk (σ'.set i none) H', ct := fun σ' H' => D.ct (σ'.set i none) H' }
def wCl (K : PySem.W.Frag) (Wout : WX) (D : Ends) : List Clause → WX
  | [] => Wout
  | (c, none, ts) :: r => fun cls d σ H => ∃ b, PySem.W.exmOne K cls c = some b ∧ (b = true → ∀ a, H a = none → ts a cls d D σ H) ∧ (b = false → wCl K Wout D r cls d σ H)
  | (c, some i, ts) :: r => fun cls d σ H => ∃ b, PySem.W.exmOne K cls c = some b ∧ (b = true → ∀ a, H a = none → ts a cls d (gone i D) (σ.set i (some (.ref a))) H) ∧ (b = false → wCl K Wout D r cls d σ H)
inductive ClsOk (X : Cx) : List ExceptHandler → List Clause → Prop
  | nil : ClsOk X [] []
  | cons {x : Str} {c : Value} {ts : Addr → Value → Option Addr → TS} {b₀ : Stmt} {suite : List Stmt} {np pos' : Pos} {hds : List ExceptHandler} {l : List Clause} (hc : Names X x c)
      (hsu : ∀ (a : Addr) (oe : Obj) (cls : Value) (d : Option Addr) (pn : List (Addr × Obj)), Zc cls d oe → (∃ vs, oe.data = .fields vs) → PSs (X.suite a ((a, oe) :: pn)) (b₀ :: suite) (ts a cls d)) (r : ClsOk X hds l) :
      ClsOk X (.ExceptHandler (some (.Name x np)) none (b₀ :: suite) pos' :: hds) ((c, none, ts) :: l)
  | as {x n : Str} {c : Value} {i : Nat} {ts : Addr → Value → Option Addr → TS} {b₀ : Stmt} {suite : List Stmt} {np pos' : Pos} {hds : List ExceptHandler} {l : List Clause} (hN : X.N.Nodup) (hi : X.N[i]? = some n) (hln : X.env.kindOf n = some .local) (hc : Names X x c)
      (hsu : ∀ (a : Addr) (oe : Obj) (cls : Value) (d : Option Addr) (pn : List (Addr × Obj)), Zc cls d oe → (∃ vs, oe.data = .fields vs) → PSs (X.suite a ((a, oe) :: pn)) (b₀ :: suite) (ts a cls d)) (r : ClsOk X hds l) :
      ClsOk X (.ExceptHandler (some (.Name x np)) (some n) (b₀ :: suite) pos' :: hds) ((c, some i, ts) :: l)
section
variable {X : Cx} {body : List Stmt} {h₀ : ExceptHandler} {hds : List ExceptHandler} {l : List Clause} {pos : Pos} {tb : WX → TS} {Wout : WX}
theorem ps_try_any (hs : X.stack = X.env :: X.outer) (hf : X.env.frame = some X.env.locals) (tk : Takes X Wout)
    (hb : ∀ (W : WX) (pn : List (Addr × Obj)) (xe : Value → Shared → Prop), Takes (X.tr pn xe) W → PassesOwn (model X.prog X.w) X.A X.env xe → PSs (X.tr pn xe) body (tb W))
    (hh : ClsOk X (h₀ :: hds) l) : PS X (.Try body (h₀ :: hds) [] [] pos) (fun D σ H => tb (wCl X.K Wout D l) D σ H) := by
  refine ⟨fun pins s σ H D I h => ?_⟩
  have ok := I.ok
  have hfr : X.A.frames = some (X.env :: X.outer) := by rw [ok.frames, hs]
  refine wpAny_Try_except ?_
  refine wpAny_mono ((hb (wCl X.K Wout D l) (X.pn ++ pins) (fun e s₁ => wpAny (model X.prog X.w) X.A (noteFrame e X.env) (fun _ s₂ => wpAny (model X.prog X.w) X.A (setFlight e none) (fun _ s₃ =>
    wpAny (model X.prog X.w) X.A (handleBy e X.env (h₀ :: hds)) (SP X pins D) X.xe s₃) X.xe s₂) X.xe s₁) (fun u s' xx => ?_) PassesOwn.looking).run [] s σ H D (I.toTry _) h) (fun f s1 hsp => ?_) (fun e s1 he => he)
  · obtain ⟨a, B, sI, pins', σ', H', cls, d, rfl, J', nb, up, sky, na, os, ag, w⟩ := xx
    have J : Inv X pins σ' H' sI := J'.ofTry ok
    have sky' : Sky B (X.env :: X.outer) a (Zc cls d) X.env.locals s'.heap := by rw [← hs]; exact sky
    show wpAny (model X.prog X.w) X.A (noteFrame (.ref a) X.env) _ _ _
    refine Sky.land Zc.steady hfr hf sky' fun h3 fl3 up3 => ?_
    have J3 : Inv X pins σ' H' { s' with heap := h3 } := J.landed nb fl3.1 (up.trans up3) os ag
    obtain ⟨oe3, vs3, he3, hz3, hd3⟩ := fl3.there
    have notFr : ∀ {h : Heap} {o : Obj} {vs : Array Value}, h.FunFrames B (X.env :: X.outer) → h.get? a = some o → o.data = .fields vs → a ∉ frs (X.env :: X.outer) := fun {h o vs} ff e dd hm => by
      obtain ⟨_, o', e', hnf⟩ := ff.mem hm
      rw [e] at e'
      cases e'
      exact hnf _ dd
    have nfr := notFr fl3.2.2.1 he3 hd3
    have nL : a ≠ X.env.locals := fun z => nfr (List.mem_filterMap.mpr ⟨X.env, List.mem_cons_self, by rw [hf, z]⟩)
    have nF : a ∉ X.fs := fun hm => by
      obtain ⟨e, he, q⟩ := List.mem_filterMap.mp hm
      exact nfr (List.mem_filterMap.mpr ⟨e, List.mem_cons_of_mem _ he, q⟩)
    have S3 := J3.suite he3 hd3 na nL nF
    have LT : PySem.W.Looks (model X.prog X.w) h3 (typeOf (.ref a)) cls := fun A Q E s k q => wpAny_typeOf_ref (k _ _ he3) (by rw [hz3.1]; exact q)
    have test : ∀ {x : Str} {np : Pos} {c : Value} {Q : Value → Shared → Prop} {E : Value → Shared → Prop}, Names X x c → Q c { s' with heap := h3 } → wpAny (model X.prog X.w) (X.A.mark (some (.ref a))) (eval (.Name x np) X.env) Q E { s' with heap := h3 } := fun {x np c Q E} hc q => by
      obtain ⟨hg, hdbg, hm | ⟨hm, hv, hnn⟩⟩ := hc
      · exact ld_glob (X := X.suite a ((a, oe3) :: (X.pn ++ pins))) S3 hg hm q hdbg
      · exact ld_blt (X := X.suite a ((a, oe3) :: (X.pn ++ pins))) S3 hg hm hv q hnn hdbg
    have go : ∀ {hds' : List ExceptHandler} {l' : List Clause}, ClsOk X hds' l' → wCl X.K Wout D l' cls d σ' H' → wpAny (model X.prog X.w) X.A (handleBy (.ref a) X.env hds') (SP X pins D) X.xe { s' with heap := h3 } := by
      intro hds' l' hk
      induction hk with
      | nil =>
        intro w
        refine wpAny_handleBy_nil ?_
        obtain ⟨k1, k2, k3, oe, vs, T, oT, ts', he, hz, hd, h1, hr⟩ := id fl3
        unfold PySem.passOn
        refine wpAny_bind (wpAny_field he hd h1 ?_)
        rw [if_neg (show ¬ ((Value.ref T == Value.none) = true) from by simp)]
        have fin : wpAny (model X.prog X.w) X.A (setFlight (.ref a) X.env.frame) (fun _ s4 => wpAny (model X.prog X.w) X.A (throw (.ref a) : Sem Flow) (SP X pins D) X.xe s4) X.xe { s' with heap := h3 } := by
          rw [hf]
          refine HandSPX.setFlight_upZ fl3 fun h4 hh4 up4 => wpAny_throw (tk _ _ ?_)
          exact ⟨a, B, sI, pins, σ', H', cls, d, rfl, J, nb, (up.trans up3).trans up4, .inr (.inr (by rw [hs]; exact hh4)), na, os, ag, w⟩
        first
          | exact wpAny_bind (wpAny_pure (wpAny_bind fin))
          | exact wpAny_bind fin
      | @cons x c ts b₀ suite np pos' hds2 l2 hc hsu r ih =>
        intro w
        obtain ⟨b, hb1, hyes, hno⟩ := w
        refine wpAny_handleBy_cons (codeAny_handlers_test ?_) (by intro q; cases q)
        have LM := PySem.W.exm_one (M := model X.prog X.w) (J3.kIn) LT hb1
        refine test hc (LM.here ?_)
        cases b with
        | true =>
          refine codeAny_handlers_suite ?_
          refine HandSPX.lands_againZ fl3 fun h4 fl4 up4 => ?_
          have J4 : Inv X pins σ' H' { s' with heap := h4 } := J.landed nb fl4.1 ((up.trans up3).trans up4) os ag
          obtain ⟨oe4, vs4, he4, hz4, hd4⟩ := fl4.there
          have S4 := J4.suite he4 hd4 na nL nF
          refine wpAny_mono ((hsu a oe4 cls d (X.pn ++ pins) hz4 ⟨_, hd4⟩).run [] _ _ H' _ S4 (hyes rfl a na)) (fun f s6 hsp => ?_) (fun _ _ z => False.elim z)
          cases f with
          | next =>
            obtain ⟨σ6, H6, S6, q6⟩ := hsp
            exact ⟨_, _, S6.unsuite ok, q6⟩
          | brk =>
            obtain ⟨σ6, H6, S6, q6⟩ := hsp
            exact ⟨_, _, S6.unsuite ok, q6⟩
          | cont =>
            obtain ⟨σ6, H6, S6, q6⟩ := hsp
            exact ⟨_, _, S6.unsuite ok, q6⟩
          | ret u =>
            obtain ⟨v6, σ6, H6, S6, r6, q6⟩ := hsp
            exact ⟨_, _, _, S6.unsuite ok, r6, q6⟩
        | false =>
          show wpAny _ X.A (handleBy (.ref a) X.env hds2) _ _ _
          exact ih (hno rfl)
      | @as x n c i ts b₀ suite np pos' hds2 l2 hN hi hln hc hsu r ih =>
        intro w
        obtain ⟨b, hb1, hyes, hno⟩ := w
        refine wpAny_handleBy_cons (codeAny_handlers_test ?_) (by intro q; cases q)
        have LM := PySem.W.exm_one (M := model X.prog X.w) (J3.kIn) LT hb1
        refine test hc (LM.here ?_)
        cases b with
        | true =>
          refine codeAny_handlers_suite_as ?_
          refine HandSPX.lands_againZ fl3 fun h4 fl4 up4 => ?_
          have J4 : Inv X pins σ' H' { s' with heap := h4 } := J.landed nb fl4.1 ((up.trans up3).trans up4) os ag
          obtain ⟨oe4, vs4, he4, hz4, hd4⟩ := fl4.there
          have S4 := J4.suite he4 hd4 na nL nF
          refine store_ok (X := X.suite a ((a, oe4) :: (X.pn ++ pins))) (v := .ref a) S4 hN hi (.inl hln) rfl (fun s5 S5 => ?_) (.inr hln)
          refine wpAny_mono ((hsu a oe4 cls d (X.pn ++ pins) hz4 ⟨_, hd4⟩).run [] s5 _ H' _ S5 (hyes rfl a na)) (fun f s6 hsp => ?_) (fun _ _ z => False.elim z)
          have end_ : ∀ {σ6 : L2.St} {H6 : Hp} {Q : Shared → Prop}, Inv (X.suite a ((a, oe4) :: (X.pn ++ pins))) [] σ6 H6 s6 → (∀ s7, Inv X pins (σ6.set i none) H6 s7 → Q s7) →
              wpAny (model X.prog X.w) X.A (do bindName X.env n .none; unbindBehindTheSuite X.env n pos') (fun _ s7 => Q s7) X.xe s6 := fun {σ6 H6 Q} S6 hq => gone_ok (S6.unsuite ok) hN hi hln hq
          cases f with
          | next =>
            obtain ⟨σ6, H6, S6, q6⟩ := hsp
            exact end_ S6 fun s7 J7 => ⟨_, _, J7, q6⟩
          | brk =>
            obtain ⟨σ6, H6, S6, q6⟩ := hsp
            exact end_ S6 fun s7 J7 => ⟨_, _, J7, q6⟩
          | cont =>
            obtain ⟨σ6, H6, S6, q6⟩ := hsp
            exact end_ S6 fun s7 J7 => ⟨_, _, J7, q6⟩
          | ret u =>
            obtain ⟨v6, σ6, H6, S6, r6, q6⟩ := hsp
            exact end_ S6 fun s7 J7 => ⟨_, _, _, J7, r6, q6⟩
        | false =>
          show wpAny _ X.A (handleBy (.ref a) X.env hds2) _ _ _
          exact ih (hno rfl)
    exact go hh w
  · cases f with
    | next =>
      obtain ⟨σ', H', J', q⟩ := hsp
      exact wpAny_execs_nil ⟨σ', H', J'.ofTry ok, q⟩
    | brk =>
      obtain ⟨σ', H', J', q⟩ := hsp
      exact ⟨σ', H', J'.ofTry ok, q⟩
    | cont =>
      obtain ⟨σ', H', J', q⟩ := hsp
      exact ⟨σ', H', J'.ofTry ok, q⟩
    | ret u =>
      obtain ⟨v, σ', H', J', r, q⟩ := hsp
      exact ⟨v, σ', H', J'.ofTry ok, r, q⟩
end
end K0
set_option Elab.async false
set_option linter.all false
set_option maxRecDepth 100000
set_option maxHeartbeats 4000000
namespace K0
open PySem PySem.Spec PyProof.Rows L2
/-! ### the law's small helpers -/
theorem passE0 {X : Cx} : Passes (L2.CX X.prog X.w) X (fun _ _ _ => False) := fun _ _ _ _ _ _ _ hq => by
  obtain ⟨_, _, _, _, _, _, _, _, _, _, _, _, z⟩ := hq
  exact z.elim
end K0
set_option Elab.async false
set_option linter.all false
set_option maxRecDepth 100000
set_option maxHeartbeats 4000000
namespace K0
open PySem PySem.Spec PyProof.Rows L2
/-! ### rows of ints -/
abbrev Rw := List Int
def rwD (r : Rw) : PyData := .tuple (r.map PyData.int)
theorem dta_ints {H : Hp} : ∀ {xs : List V} {r : List Int}, DtAll H xs (r.map PyData.int) → xs = r.map V.int
  | [], [], _ => rfl
  | _ :: _, [], h => by cases h
  | [], _ :: _, h => by cases h
  | x :: xs, n :: r, h => by
    cases h with
    | cons a b =>
      cases a
      rw [dta_ints b, List.map_cons]
theorem dt_row {H : Hp} {v : V} {r : Rw} (h : Dt H v (rwD r)) : ∃ a, v = .ref a ∧ H a = some (.tup (r.map V.int)) := by
  cases h with
  | tup e h => exact ⟨_, rfl, by rw [e, dta_ints h]⟩
theorem dta_row {H : Hp} {xs : List V} {rs : List Rw} {i : Nat} {v : V} (h : DtAll H xs (rs.map rwD)) (e : xs[i]? = some v) : ∃ r a, rs[i]? = some r ∧ v = .ref a ∧ H a = some (.tup (r.map V.int)) := by
  obtain ⟨d, hd, h⟩ := h.at e
  rw [List.getElem?_map] at hd
  obtain ⟨r, hr, rfl⟩ := Option.map_eq_some_iff.mp hd
  obtain ⟨a, ea, ha⟩ := dt_row h
  exact ⟨r, a, hr, ea, ha⟩
end K0
set_option Elab.async false
set_option linter.all false
set_option maxRecDepth 100000
set_option maxHeartbeats 4000000
namespace K0
open PySem PySem.Spec PyProof.Rows L2
section
variable {P : Program} {w : World} {K : PySem.W.Frag} {mg : Str → Option Value} {base : Heap} {f : Addr} {fd : FuncData}
def SqP (H : Hp) (b : Addr) (qs : List Pr) : Prop := ∃ ys, (H b = some (.lst ys) ∨ H b = some (.tup ys)) ∧ DtAll H ys (qs.map prD)
theorem SqP.mono {H H' : Hp} (s : Same H H') {b : Addr} {qs : List Pr} : SqP H b qs → SqP H' b qs := fun ⟨ys, h, d⟩ => ⟨ys, h.elim (fun z => .inl (s _ _ z)) fun z => .inr (s _ _ z), d.mono s⟩
end
end K0
set_option Elab.async false
set_option linter.all false
set_option maxRecDepth 100000
set_option maxHeartbeats 4000000
namespace K0
open PySem PySem.Spec PyProof.Rows L2
/-! ### rows of pairs that grow in their order -/
structure Lx (n : Int) (P : Pr → Prop) (i c : Int) (rs : List Pr) : Prop where
  srt : rs.Pairwise plt
  mem : ∀ z, z ∈ rs ↔ (0 ≤ z.1 ∧ z.1 < z.2 ∧ z.2 < n) ∧ (z.1 < i ∨ (z.1 = i ∧ z.2 < c)) ∧ P z
theorem Lx.start {n : Int} {P : Pr → Prop} : Lx n P 0 1 [] := ⟨.nil, fun z => ⟨fun h => (by cases h), fun ⟨h1, h2, _⟩ => (by omega)⟩⟩
theorem Lx.row {n : Int} {P : Pr → Prop} {i : Int} {rs : List Pr} (h : Lx n P i n rs) : Lx n P (i + 1) (i + 2) rs := ⟨h.srt, fun z => by
  rw [h.mem]
  constructor
  · rintro ⟨h1, h2, h3⟩
    exact ⟨h1, by omega, h3⟩
  · rintro ⟨h1, h2, h3⟩
    exact ⟨h1, by omega, h3⟩⟩
theorem Lx.skip {n : Int} {P : Pr → Prop} {i c : Int} {rs : List Pr} (h : Lx n P i c rs) (no : ¬ P (i, c)) : Lx n P i (c + 1) rs := ⟨h.srt, fun z => by
  rw [h.mem]
  constructor
  · rintro ⟨h1, h2, h3⟩
    exact ⟨h1, by omega, h3⟩
  · rintro ⟨h1, h2, h3⟩
    refine ⟨h1, ?_, h3⟩
    rcases h2 with h2 | ⟨h2, h4⟩
    · exact .inl h2
    · refine .inr ⟨h2, ?_⟩
      rcases Int.lt_or_le z.2 c with h5 | h5
      · exact h5
      · exact absurd h3 (by rw [show z = (i, c) from Prod.ext h2 (by omega)]; exact no)⟩
theorem Lx.add {n : Int} {P : Pr → Prop} {i c : Int} {rs : List Pr} (h : Lx n P i c rs) (yes : P (i, c)) (r : 0 ≤ i ∧ i < c ∧ c < n) : Lx n P i (c + 1) (rs ++ [(i, c)]) := ⟨by
  rw [List.pairwise_append]
  refine ⟨h.srt, by simp, fun a ha b hb => ?_⟩
  rw [List.mem_singleton.mp hb]
  have := ((h.mem a).mp ha).2.1
  exact this, fun z => by
  rw [List.mem_append, h.mem, List.mem_singleton]
  constructor
  · rintro (⟨h1, h2, h3⟩ | e)
    · exact ⟨h1, by omega, h3⟩
    · rw [e]
      exact ⟨r, .inr ⟨rfl, by dsimp only; omega⟩, yes⟩
  · rintro ⟨h1, h2, h3⟩
    by_cases e : z = (i, c)
    · exact .inr e
    · refine .inl ⟨h1, ?_, h3⟩
      rcases h2 with h2 | ⟨h2, h4⟩
      · exact .inl h2
      · refine .inr ⟨h2, ?_⟩
        rcases Int.lt_or_le z.2 c with h5 | h5
        · exact h5
        · exact absurd (Prod.ext h2 (by omega)) e⟩
theorem Lx.change {n : Int} {P P' : Pr → Prop} {i c : Int} {rs : List Pr} (h : Lx n P i c rs) (e : ∀ z, (z.1 < i ∨ (z.1 = i ∧ z.2 < c)) → (P z ↔ P' z)) : Lx n P' i c rs := ⟨h.srt, fun z => by
  rw [h.mem]
  exact and_congr Iff.rfl (and_congr_right fun b => e z b)⟩
theorem Lx.cl {n : Int} {P : Pr → Prop} {i c : Int} {rs : List Pr} (h : Lx n P i c rs) : Cl n rs := ⟨h.srt, fun z hz => ((h.mem z).mp hz).1⟩
/-- the list at D holds the new pairs rs -/
def Grow (H : Hp) (D : Addr) (rs : List Pr) : Prop := ∃ l : List (Addr × Pr), H D = some (.lst (l.map fun z => V.ref z.1)) ∧ l.map (·.2) = rs ∧ PrsAt H l
theorem Grow.mono {H H' : Hp} {D : Addr} {rs : List Pr} (s : Same H H') : Grow H D rs → Grow H' D rs := fun ⟨l, h, e, p⟩ => ⟨l, s _ _ h, e, p.mono s⟩
theorem Grow.push {H : Hp} {D u : Addr} {rs : List Pr} {x y : Int} (g : Grow H D rs) (nu : H u = none) {xs : List V} (hx : H D = some (.lst xs)) : Grow (upd (upd H u (.tup [.int x, .int y])) D (.lst (xs ++ [.ref u]))) D (rs ++ [(x, y)]) := by
  obtain ⟨l, h, e, p⟩ := g
  rw [h] at hx
  cases hx
  refine ⟨l ++ [(u, (x, y))], by rw [upd_same, List.map_append]; rfl, by rw [List.map_append, e]; rfl, fun z hz => ?_⟩
  have s2 : Same H (upd H u (.tup [.int x, .int y])) := same_upd nu
  have hz2 : (upd H u (.tup [.int x, .int y])) z.1 = some (.tup [.int z.2.1, .int z.2.2]) := by
    rcases List.mem_append.mp hz with hz | hz
    · exact s2 _ _ (p z hz)
    · rw [List.mem_singleton.mp hz]
      exact upd_same
  have zD : z.1 ≠ D := fun e => by
    rw [e, s2 _ _ h] at hz2
    cases hz2
  rw [upd_ne zD]
  exact hz2
theorem Grow.at {H : Hp} {D : Addr} {rs : List Pr} (g : Grow H D rs) : ∃ xs, H D = some (.lst xs) ∧ xs.length = rs.length ∧ DtAll H xs (rs.map prD) := by
  obtain ⟨l, h, e, p⟩ := g
  refine ⟨_, h, by rw [← e, List.length_map, List.length_map], ?_⟩
  rw [← e, List.map_map]
  exact dtAll_prs p
theorem prs_any {q : List Pr} {p : Pr} : ((q.map prD).any fun z => PyData.eqv z (prD p)) = decide (p ∈ q) := by
  induction q with
  | nil => rfl
  | cons a q ih =>
    rw [List.map_cons, List.any_cons, ih, prD_eqv]
    by_cases e : a = p
    · subst e; simp
    · have : ¬ p = a := fun z => e z.symm
      simp [e, this]
/-- a list of pairs -/
def Ls (H : Hp) (b : Addr) (q : List Pr) : Prop := ∃ ys, H b = some (.lst ys) ∧ DtAll H ys (q.map prD)
theorem Ls.mono {H H' : Hp} (s : Same H H') {b : Addr} {q : List Pr} : Ls H b q → Ls H' b q := fun ⟨ys, h, d⟩ => ⟨ys, s _ _ h, d.mono s⟩
theorem Ls.dp {K : PySem.W.Frag} {H : Hp} {b : Addr} {q : List Pr} : Ls H b q → Dp K H (.ref b) (.list (q.map prD)) := fun ⟨ys, h, d⟩ => (Dt.lst h d).dp
theorem Ls.sq {K : PySem.W.Frag} {H : Hp} {b : Addr} {q : List Pr} : Ls H b q → Sq K H b (q.map prD) := fun ⟨ys, h, d⟩ => .lst h d
theorem Grow.ls {H : Hp} {D : Addr} {rs : List Pr} (g : Grow H D rs) : Ls H D rs := let ⟨xs, h, _, d⟩ := g.at; ⟨xs, h, d⟩
end K0
set_option Elab.async false
set_option linter.all false
set_option maxRecDepth 100000
set_option maxHeartbeats 4000000
namespace K0
open PySem PySem.Spec PyProof.Rows L2
theorem hasP_mm {n : Int} {q : List Pr} (h : Cl n q) (x y : Nat) : decide (((min (x : Int) y, max (x : Int) y) : Pr) ∈ q) = hasP q x y := by
  unfold hasP
  rw [Bool.eq_iff_iff, Bool.or_eq_true, decide_eq_true_iff, decide_eq_true_iff, decide_eq_true_iff]
  rcases Nat.lt_trichotomy x y with c | c | c
  · rw [show min (x : Int) y = x by omega, show max (x : Int) y = y by omega]
    refine ⟨.inl, fun z => z.elim (fun z => z) fun z => ?_⟩
    have := h.rng _ z
    dsimp only at this
    omega
  · subst c
    rw [show min (x : Int) x = x by omega, show max (x : Int) x = x by omega]
    exact ⟨.inl, fun z => z.elim (fun z => z) fun z => z⟩
  · rw [show min (x : Int) y = y by omega, show max (x : Int) y = x by omega]
    refine ⟨.inr, fun z => z.elim (fun z => ?_) fun z => z⟩
    have := h.rng _ z
    dsimp only at this
    omega
def rMinI : List V → Hp → VK → Prop := fun xs H Q => ∃ i j : Int, xs = [.int i, .int j] ∧ Q (.int (if j < i then j else i)) H
def rMaxI : List V → Hp → VK → Prop := fun xs H Q => ∃ i j : Int, xs = [.int i, .int j] ∧ Q (.int (if j > i then j else i)) H
theorem c_min {X : Cx} (hc : X.calm = true) : CallR X (.builtin "min") rMinI := call_min2 hc
theorem c_max {X : Cx} (hc : X.calm = true) : CallR X (.builtin "max") rMaxI := call_max2 hc
section
variable {P : Program} {w : World} {K : PySem.W.Frag} {mg : Str → Option Value} {base : Heap} {f : Addr} {fd : FuncData}
abbrev s_ne : Stmt := top 51
/-- _law_near -/
def spNe : Sp := fun vs H Q _ => ∃ (b : Addr) (n : Int) (x : Nat) (q : List Pr), vs = [.int n, .ref b, .int (x : Int)] ∧ 0 ≤ n ∧ n ≤ 16 ∧ Cl n q ∧ Ls H b q ∧ ∀ H' a, Same H H' → H a = none → H' a = some (.lst (nvs (nearOf n q x))) → Q (.ref a) H'
theorem sc_ne : FnScope ["_law_many", "_law_pairs", "_law_x", "_law_y"] ["_law_many", "_law_pairs", "_law_x"] (defScope s_ne) := ⟨rfl, rfl, rfl, by decide +kernel, rfl, by decide +kernel, by decide +kernel⟩
theorem ok_ne (F : Fun K "_law_near" "_law_near" s_ne f fd) (B : Blt2 mg) : FnOk P w K mg base (L2.CX P w) 2 f fd ["_law_many", "_law_pairs", "_law_x"] spNe := by
  refine F.okX sc_ne (fun vs H Q E h => ?_) (fun cdv A outer s H vs Q E hr h => ?_)
  · obtain ⟨b, n, x, q, rfl, _⟩ := h
    rfl
  · obtain ⟨b, n, x, q, rfl, n0, n8, cl, hl, k⟩ := h
    have nd := sc_ne.nd
    have hu : (A.deeper (envOfC "_law_near" (defScope s_ne) s.heap.objs.size f cdv)).units + 65 < cLine := by have := hr.un; omega
    refine ⟨_, pss_one (ps_ret (pe_lc (own := [("_law_y", 3)]) (g := gName 3)
      (tt := tTest (tOp (rInD K) (tTup (tCons (tCB rMinI (tCons (tVar 2) (tCons (tVar 3) tNil))) (tCons (tCB rMaxI (tCons (tVar 2) (tCons (tVar 3) tNil))) tNil))) (tVar 1)))
      (te := tVar 3) rfl nd (pi_range1 (by rfl) B.range (pa_cons (pv 0) pa_nil))
        (blkOk_by (N := ["_law_many", "_law_pairs", "_law_x", "_law_y"]) (sc := defScope s_ne) (by decide +kernel)) (fun _ _ _ _ _ => pg_name (i := 3) nd rfl (.inl rfl))
        (fun _ _ _ _ _ => pts_one (pt_cmpR (op_inD hu) (pe_tup (pa_cons (pe_callB (c_min rfl) (by rfl) B.min (by decide +kernel) (pa_cons (pv 2) (pa_cons (pv 3) pa_nil))) (pa_cons (pe_callB (c_max rfl) (by rfl) B.max (by decide +kernel) (pa_cons (pv 2) (pa_cons (pv 3) pa_nil))) pa_nil))) (pv 1) (by rfl))) (fun _ _ _ _ _ => pv 3))), ?_⟩
    refine ⟨_, rfl, n, rfl, by omega, by omega, fun D nD => ?_⟩
    refine lc_range (lo := 0) (n := n.toNat) (fun i H' => Same H H' ∧ H' D = some (.lst (nvs (((List.range n.toNat).take i).filter (hasP q x))))) ⟨same_upd nD, upd_same⟩ (fun i H' hi ⟨sm, hD⟩ => ?_) (fun H' ⟨sm, hD⟩ => ?_)
    · refine ⟨rfl, ?_⟩
      rw [Int.zero_add]
      refine ⟨_, rfl, _, rfl, _, _, rfl, _, rfl, _, rfl, _, _, rfl, (by show 2 ≤ sizeLine; decide), fun t nt => ?_⟩
      rw [min2, max2]
      have s2 : Same H' (upd H' t (.tup [.int (min (x : Int) i), .int (max (x : Int) i)])) := same_upd nt
      refine ⟨_, rfl, prD (min (x : Int) i, max (x : Int) i), _, (dt_pr (p := (min (x : Int) i, max (x : Int) i)) upd_same).dp, (hl.mono (sm.trans s2)).dp, prD_shaped _, prsL_shaped _, _, rfl, ?_⟩
      rw [prs_any, hasP_mm cl]
      cases e : hasP q x i with
      | false =>
        refine iteF ⟨sm.trans s2, ?_⟩
        rw [filter_take _ _ hi, e, s2 _ _ hD]
        simp
      | true =>
        refine iteT ⟨_, rfl, _, s2 _ _ hD, ?_, fun b o eb => ?_, ?_⟩
        · rw [nvs_len, sizeLine_eq]
          have g1 := List.length_filter_le (hasP q x) ((List.range n.toNat).take i)
          rw [List.length_take, List.length_range] at g1
          omega
        · rw [upd_ne (ne_of_none eb nD)]
          exact s2 _ _ (sm _ _ eb)
        · rw [upd_same, filter_take _ _ hi, e]
          unfold nvs
          rw [List.map_append]
          rfl
    · rw [List.take_of_length_le (by rw [List.length_range]; exact Nat.le_refl _)] at hD
      exact k H' D sm nD hD
def rLenI (K : PySem.W.Frag) : List V → Hp → VK → Prop := fun xs H Q => ∃ p ys, xs = [.ref p] ∧ (SqL K H p ys ∨ SqT K H p ys) ∧ Q (.int ys.length) H
theorem c_len {X : Cx} : CallR X (.builtin "len") (rLenI X.K) := call_len_seq
def rSubI : R2 := rI0 fun i j => .int (i - j)
theorem o_sub {X : Cx} : OpR X (binaryOp .Sub) rSubI := op_sub
end
end K0
set_option Elab.async false
set_option linter.all false
set_option maxRecDepth 100000
set_option maxHeartbeats 4000000
namespace K0
open PySem PySem.Spec PyProof.Rows L2
section
variable {P : Program} {w : World} {K : PySem.W.Frag} {mg : Str → Option Value} {base : Heap} {f : Addr} {fd : FuncData}
theorem same_keep {H H' : Hp} {D : Addr} {o : HO} (n : H D = none) (s : Same H H') : Same H (upd H' D o) := fun b u e => by
  rw [upd_ne (ne_of_none e n)]
  exact s b u e
end
end K0
set_option Elab.async false
set_option linter.all false
set_option maxRecDepth 100000
set_option maxHeartbeats 4000000
namespace K0
open PySem PySem.Spec PyProof.Rows L2
/-- draws that are left -/
def DrO (H : Hp) (d : Addr) : Prop := ∃ ns : List Int, H d = some (.lst (ns.map V.int)) ∧ ∀ k ∈ ns, 0 ≤ k
def DrN (H : Hp) (d : Addr) (n : Nat) : Prop := ∃ ns : List Int, H d = some (.lst (ns.map V.int)) ∧ (∀ k ∈ ns, 0 ≤ k) ∧ ns.length ≤ n
theorem same_del {H H' : Hp} {d : Addr} (s : Same (del H d) H') : Same (del H d) (del H' d) := fun b o e => by
  by_cases hb : b = d
  · rw [hb, del_same] at e
    cases e
  · rw [del_ne hb]
    exact s b o e
theorem del_sub {H : Hp} {d : Addr} : Same (del H d) H := fun b o e => by
  by_cases hb : b = d
  · rw [hb, del_same] at e
    cases e
  · rw [del_ne hb] at e
    exact e
theorem del_upd {H : Hp} {d : Addr} {o : HO} : Same (del H d) (upd H d o) := fun b u e => by
  by_cases hb : b = d
  · rw [hb, del_same] at e
    cases e
  · rw [del_ne hb] at e
    rw [upd_ne hb]
    exact e
section
variable {X : Cx} {o e : Expr} {to : TE} {apos cpos : Pos}
theorem pe_lpop (ho : PE X o to) (hbase : attributeBase o "pop" X.env (eval o X.env) = eval o X.env := by rfl) (hline : (apos.endLine == cpos.line) = true := by rfl) :
    PE X (.Call (.Attribute o "pop" apos) [] [] cpos) (tBM0 X.K "list" rPop to) := pe_bm0 PySem.F.plainAttrs_list PySem.F.slot_list_pop PySem.F.type_list_pop mt_pop ho hbase hline
theorem pe_lrev (ho : PE X o to) (hbase : attributeBase o "reverse" X.env (eval o X.env) = eval o X.env := by rfl) (hline : (apos.endLine == cpos.line) = true := by rfl) :
    PE X (.Call (.Attribute o "reverse" apos) [] [] cpos) (tBM0 X.K "list" rReverse to) := pe_bm0 PySem.F.plainAttrs_list PySem.F.slot_list_reverse PySem.F.type_list_reverse mt_reverse ho hbase hline
end
section
variable {P : Program} {w : World} {K : PySem.W.Frag} {mg : Str → Option Value} {base : Heap} {f : Addr} {fd : FuncData}
abbrev s_tk : Stmt := top 47
abbrev s_dr : Stmt := top 46
/-- _law_take -/
def spTk : Sp := fun vs H Q _ => ∃ (d : Addr) (m : Int), vs = [.ref d, .int m] ∧ 0 < m ∧ DrO H d ∧ ∀ r H', 0 ≤ r → r < m → Same (del H d) H' → DrO H' d → Q (.int r) H'
theorem sc_tk : FnScope ["_law_draws_here", "_law_many"] ["_law_draws_here", "_law_many"] (defScope s_tk) := ⟨rfl, rfl, rfl, by decide +kernel, rfl, by decide +kernel, by decide +kernel⟩
theorem ok_tk (F : Fun K "_law_take" "_law_take" s_tk f fd) (B : Blt2 mg) : FnOk P w K mg base (L2.CX P w) 1 f fd ["_law_draws_here", "_law_many"] spTk := by
  refine F.okX sc_tk (fun vs H Q E h => ?_) (fun cdv A outer s H vs Q E hr h => ?_)
  · obtain ⟨d, m, rfl, _⟩ := h
    rfl
  · obtain ⟨d, m, rfl, m0, ⟨ns, hd, nn⟩, k⟩ := h
    refine ⟨_, pss_cons (ps_if (pt_cmpR op_eq (pe_callB call_len_seq (by rfl) B.len PySem.boot_len (pa_cons (pv 0) pa_nil)) pe_int (nomark _)) (pss_one (ps_ret pe_int)) pss_nil)
      (pss_one (ps_ret (pe_op op_mod (pe_callTy call_int1 (by rfl) B.int (by decide +kernel) (pa_cons (pe_lpop (pv 0)) pa_nil)) (pv 1)))), ?_⟩
    refine ⟨_, rfl, d, _, rfl, .inl (SqL.of hd), rfl, _, rfl, ?_⟩
    rw [dec_int, List.length_map]
    by_cases e : ns = []
    · subst e
      exact iteT (k 0 H (Int.le_refl _) m0 del_sub ⟨[], hd, nn⟩)
    · have l0 : 0 < ns.length := List.length_pos_iff.mpr e
      rw [show (((ns.length : Nat) : Int) == 0) = false by rw [beq_eq_false_iff_ne]; omega]
      have hlt : ns.length - 1 < ns.length := by omega
      refine iteF ⟨_, rfl, .inl ⟨rfl, _, SqL.of hd⟩, d, _, .int ns[ns.length - 1], rfl, rfl, hd, by rw [List.length_map, List.getElem?_map, List.getElem?_eq_getElem hlt]; rfl, ?_⟩
      refine .inl ⟨_, rfl, _, rfl, _, _, rfl, rfl, m0, ?_⟩
      refine k _ _ (Int.emod_nonneg _ (by omega)) (Int.emod_lt_of_pos _ m0) del_upd ⟨ns.dropLast, by rw [upd_same, List.map_dropLast], fun j hj => nn j (List.dropLast_subset _ hj)⟩
/-- _law_draws -/
def spDr (K : PySem.W.Frag) : Sp := fun vs H Q _ => ∃ (l : Addr) (ms : List Int), vs = [.ref l] ∧ SqL K H l (ms.map V.int) ∧ ∀ H' d, Same H H' → H d = none → DrO H' d → Q (.ref d) H'
theorem sc_dr : FnScope ["_law_script", "_law_draws_here", "_law_at", "_law_cell", "_law_k", "_law_number"] ["_law_script"] (defScope s_dr) := ⟨rfl, rfl, rfl, by decide +kernel, rfl, by decide +kernel, by decide +kernel⟩
theorem DrN.push {H : Hp} {d : Addr} {n : Nat} {x : Int} (h : DrN H d n) (hx : 0 ≤ x) {xs : List V} (e : H d = some (.lst xs)) : DrN (upd H d (.lst (xs ++ [.int x]))) d (n + 1) := by
  obtain ⟨ns, h1, h2, h3⟩ := h
  rw [h1] at e
  cases e
  refine ⟨ns ++ [x], by rw [upd_same, List.map_append]; rfl, fun k hk => ?_, by rw [List.length_append]; exact Nat.add_le_add_right h3 1⟩
  rcases List.mem_append.mp hk with hk | hk
  · exact h2 k hk
  · rw [List.mem_singleton.mp hk]
    exact hx
theorem DrN.at {H : Hp} {d : Addr} {n : Nat} (h : DrN H d n) : ∃ xs, H d = some (.lst xs) ∧ xs.length ≤ n := by
  obtain ⟨ns, h1, h2, h3⟩ := h
  exact ⟨_, h1, by rw [List.length_map]; exact h3⟩
theorem DrN.up {H : Hp} {d : Addr} {n m : Nat} (h : DrN H d n) (l : n ≤ m) : DrN H d m := by
  obtain ⟨ns, h1, h2, h3⟩ := h
  exact ⟨ns, h1, h2, Nat.le_trans h3 l⟩
theorem SqL.sm {K : PySem.W.Frag} {H H' : Hp} {a : Addr} {xs : List V} (h : SqL K H a xs) (s : Same H H') : SqL K H' a xs := h.ext fun b o e => s b o e
theorem ok_dr (F : Fun K "_law_draws" "_law_draws" s_dr f fd) (B : Blt2 mg) : FnOk P w K mg base (L2.CX P w) 1 f fd ["_law_script"] (spDr K) := by
  refine F.okX sc_dr (fun vs H Q E h => ?_) (fun cdv A outer s H vs Q E hr h => ?_)
  · obtain ⟨l, ms, rfl, _⟩ := h
    rfl
  · obtain ⟨l, ms, rfl, hl, k⟩ := h
    have nd := sc_dr.nd
    refine ⟨_, pss_cons (ps_set (i := 1) nd rfl (.inl rfl) (pe_lst pa_nil))
      (pss_cons (ps_for (passes_of rfl) rfl (pi_range1 (by rfl) B.range (pa_cons (pe_callB (c_min rfl) (by rfl) B.min (by decide +kernel) (pa_cons (pe_callB c_len (by rfl) B.len PySem.boot_len (pa_cons (pv 0) pa_nil)) (pa_cons pe_int pa_nil))) pa_nil)) (pg_name (i := 2) nd rfl (.inl rfl))
        (pss_cons (ps_set (i := 3) nd rfl (.inl rfl) (pe_callTy call_int1 (by rfl) B.int (by decide +kernel) (pa_cons (pe_ix ix_list (pv 0) (pv 2) (fun _ _ => rfl)) pa_nil)))
        (pss_cons (ps_if (pt_cmpR op_lt (pv 3) pe_int (nomark _)) (pss_one (ps_set (i := 3) nd rfl (.inl rfl) (pe_op op_sub pe_int (pv 3)))) pss_nil)
        (pss_one (ps_if (pt_cmpR op_ge (pv 3) (pe_op op_pow pe_int pe_int) (nomark _))
          (pss_one (ps_for (passes_of rfl) rfl (pi_range1 (by rfl) B.range (pa_cons pe_int pa_nil)) (pg_name (i := 4) nd rfl (.inl rfl))
            (pss_one (ps_if (pt_cmpR op_gt (pv 3) pe_int (nomark _))
              (pss_cons (ps_expr (pe_lapp (pv 1) (pa_cons (pe_op op_mod (pe_callTy call_int1 (by rfl) B.int (by decide +kernel) (pa_cons (pv 3) pa_nil)) pe_int) pa_nil)))
              (pss_one (ps_set (i := 3) nd rfl (.inl rfl) (pe_op op_fdiv (pv 3) pe_int)))) pss_nil))))
          (pss_cons (ps_set (i := 5) nd rfl (.inl rfl) (pe_op op_mod (pe_callTy call_int1 (by rfl) B.int (by decide +kernel) (pa_cons (pe_op op_add (pe_op op_add (pe_op op_mul (pv 3) pe_int) (pe_op op_mul (pv 2) pe_int)) pe_int) pa_nil)) pe_int))
          (pss_one (ps_for (passes_of rfl) rfl (pi_range1 (by rfl) B.range (pa_cons pe_int pa_nil)) (pg_name (i := 4) nd rfl (.inl rfl))
            (pss_cons (ps_set (i := 5) nd rfl (.inl rfl) (pe_op op_mod (pe_callTy call_int1 (by rfl) B.int (by decide +kernel) (pa_cons (pe_op op_add (pe_op op_add (pe_op op_add (pe_op op_mul (pv 5) (pv 5)) (pe_op op_mul (pv 4) pe_int)) (pv 2)) pe_int) pa_nil)) pe_int))
            (pss_one (ps_expr (pe_lapp (pv 1) (pa_cons (pv 5) pa_nil)))))))))))))
      (pss_cons (ps_expr (pe_lrev (pv 1)))
      (pss_one (ps_ret (pv 1))))), ?_⟩
    refine ⟨by show 0 ≤ sizeLine; exact Nat.zero_le _, fun D nD => ?_⟩
    have s0 : Same H (upd H D (.lst [])) := same_upd nD
    have eL : (ms.map V.int).length = ms.length := List.length_map _
    refine ⟨_, rfl, l, _, rfl, .inl (SqL.sm hl s0), _, _, rfl, ?_⟩
    rw [eL]
    obtain ⟨J, eJ⟩ : ∃ J : Int, J = if (63 : Int) < ((ms.length : Nat) : Int) then 63 else ((ms.length : Nat) : Int) := ⟨_, rfl⟩
    rw [← eJ]
    have hJ : 0 ≤ J ∧ J ≤ 63 ∧ J ≤ ((ms.length : Nat) : Int) := by
      rw [eJ]
      split <;> omega
    let P1 : Nat → L2.St → Hp → Prop := fun i σ H' => ∃ o2 o3 o4 o5, σ = [some (.ref l), some (.ref D), o2, o3, o4, o5] ∧ Same H H' ∧ DrN H' D (60 * i)
    refine ⟨J, rfl, by omega, by omega, for_range (n := J.toNat) P1 ⟨none, none, none, none, rfl, s0, [], upd_same, (fun k hk => by cases hk), Nat.zero_le _⟩ (fun i σ H' hi h => ?_) (fun σ H' h => ?_)⟩
    · obtain ⟨o2, o3, o4, o5, rfl, sm, dn⟩ := h
      rw [Int.zero_add]
      have hi2 : i < ms.length := by omega
      have at0 : atI (ms.map V.int) (i : Int) = some (V.int ms[i]) := atI_nat (by rw [List.getElem?_map, List.getElem?_eq_getElem hi2]; rfl)
      refine ⟨_, rfl, _, rfl, l, _, (i : Int), _, rfl, rfl, SqL.sm hl sm, at0, .inl ⟨_, rfl, ?_⟩⟩
      generalize ms[i] = c
      refine ⟨_, rfl, _, _, rfl, rfl, _, rfl, ?_⟩
      by_cases c0 : c < 0
      · rw [decide_eq_true c0]
        refine iteT ⟨_, rfl, _, _, rfl, rfl, ?_⟩
        have c1 : 0 ≤ 1 - c := by omega
        refine ⟨_, rfl, _, _, rfl, rfl, ⟨by decide, by decide, by decide⟩, _, _, rfl, rfl, decide ((1000000000000000000 : Int) ≤ (1 - c)), rfl, ?_⟩
        by_cases big : (1000000000000000000 : Int) ≤ (1 - c)
        · rw [decide_eq_true big]
          refine iteT ?_
          let P2 : Nat → L2.St → Hp → Prop := fun t σ H' => ∃ o4 c, σ = [some (.ref l), some (.ref D), some (.int (i : Int)), some (.int c), o4, o5] ∧ 0 ≤ c ∧ Same H H' ∧ DrN H' D (60 * i + t)
          refine ⟨60, rfl, by decide, by decide, for_range (n := 60) P2 ⟨o4, (1 - c), rfl, c1, sm, dn⟩ (fun t σ H2 ht h => ?_) (fun σ H2 h => ?_)⟩
          · obtain ⟨o4, c, rfl, c1, sm, dn⟩ := h
            refine ⟨_, rfl, _, _, rfl, rfl, _, rfl, ?_⟩
            by_cases g0 : 0 < c
            · rw [decide_eq_true g0]
              obtain ⟨xs, hx, lx⟩ := dn.at
              refine iteT ⟨_, rfl, .inl ⟨rfl, xs, SqL.of hx⟩, _, rfl, .inl ⟨_, rfl, _, _, rfl, rfl, (by show (0 : Int) < 24; decide), D, xs, _, rfl, rfl, hx, by rw [sizeLine_eq]; omega, ?_⟩⟩
              refine ⟨_, rfl, _, _, rfl, rfl, ⟨by decide, by decide⟩, _, c / 24, rfl, Int.ediv_nonneg c1 (by decide), same_keep nD sm, dn.push (Int.emod_nonneg _ (by decide)) hx⟩
            · rw [decide_eq_false g0]
              exact iteF ⟨_, c, rfl, c1, sm, dn.up (by omega)⟩
          · obtain ⟨o4, c, rfl, c1, sm, dn⟩ := h
            exact ⟨_, _, _, _, rfl, sm, dn.up (by omega)⟩
        · rw [decide_eq_false big]
          have cl : (1 - c) < 1000000000000000000 := Int.not_le.mp big
          refine iteF ⟨_, rfl, _, _, rfl, rfl, .inl ⟨by omega, by omega⟩, _, rfl, _, _, rfl, rfl, .inl ⟨by omega, by omega⟩, _, _, rfl, rfl, _, _, rfl, rfl, .inl ⟨_, rfl, _, _, rfl, rfl, (by show (0 : Int) < 2147483647; decide), ?_⟩⟩
          have v1 : 0 ≤ ((1 - c) * 48947 + (i : Int) * 60493 + 7) % 2147483647 ∧ ((1 - c) * 48947 + (i : Int) * 60493 + 7) % 2147483647 < 2147483647 := ⟨Int.emod_nonneg _ (by decide), Int.emod_lt_of_pos _ (by decide)⟩
          let P3 : Nat → L2.St → Hp → Prop := fun t σ H' => ∃ o4 v, σ = [some (.ref l), some (.ref D), some (.int (i : Int)), some (.int (1 - c)), o4, some (.int v)] ∧ (0 ≤ v ∧ v < 2147483647) ∧ Same H H' ∧ DrN H' D (60 * i + t)
          refine ⟨6, rfl, by decide, by decide, for_range (n := 6) P3 ⟨o4, ((1 - c) * 48947 + (i : Int) * 60493 + 7) % 2147483647, rfl, v1, sm, dn⟩ (fun t σ H2 ht h => ?_) (fun σ H2 h => ?_)⟩
          · obtain ⟨o4, v, rfl, v1, sm, dn⟩ := h
            refine ⟨_, rfl, _, rfl, _, _, rfl, rfl, .inl ⟨by omega, by omega⟩, _, rfl, _, _, rfl, rfl, .inl ⟨by omega, by omega⟩, _, _, rfl, rfl, _, rfl, _, _, rfl, rfl, _, _, rfl, rfl, .inl ⟨_, rfl, _, _, rfl, rfl, (by show (0 : Int) < 2147483587; decide), ?_⟩⟩
            have w1 : 0 ≤ (v * v + (0 + (t : Int)) * 38447 + (i : Int) + 11) % 2147483587 ∧ (v * v + (0 + (t : Int)) * 38447 + (i : Int) + 11) % 2147483587 < 2147483587 := ⟨Int.emod_nonneg _ (by decide), Int.emod_lt_of_pos _ (by decide)⟩
            obtain ⟨xs, hx, lx⟩ := dn.at
            refine ⟨_, rfl, .inl ⟨rfl, xs, SqL.of hx⟩, _, rfl, D, xs, _, rfl, rfl, hx, by rw [sizeLine_eq]; omega, ?_⟩
            exact ⟨_, (v * v + (0 + (t : Int)) * 38447 + (i : Int) + 11) % 2147483587, rfl, ⟨w1.1, Int.lt_trans w1.2 (by decide)⟩, same_keep nD sm, dn.push w1.1 hx⟩
          · obtain ⟨o4, v, rfl, v1, sm, dn⟩ := h
            exact ⟨_, _, _, _, rfl, sm, dn.up (by omega)⟩
      · rw [decide_eq_false c0]
        refine iteF ?_
        have c1 : 0 ≤ c := by omega
        refine ⟨_, rfl, _, _, rfl, rfl, ⟨by decide, by decide, by decide⟩, _, _, rfl, rfl, decide ((1000000000000000000 : Int) ≤ c), rfl, ?_⟩
        by_cases big : (1000000000000000000 : Int) ≤ c
        · rw [decide_eq_true big]
          refine iteT ?_
          let P2 : Nat → L2.St → Hp → Prop := fun t σ H' => ∃ o4 c, σ = [some (.ref l), some (.ref D), some (.int (i : Int)), some (.int c), o4, o5] ∧ 0 ≤ c ∧ Same H H' ∧ DrN H' D (60 * i + t)
          refine ⟨60, rfl, by decide, by decide, for_range (n := 60) P2 ⟨o4, c, rfl, c1, sm, dn⟩ (fun t σ H2 ht h => ?_) (fun σ H2 h => ?_)⟩
          · obtain ⟨o4, c, rfl, c1, sm, dn⟩ := h
            refine ⟨_, rfl, _, _, rfl, rfl, _, rfl, ?_⟩
            by_cases g0 : 0 < c
            · rw [decide_eq_true g0]
              obtain ⟨xs, hx, lx⟩ := dn.at
              refine iteT ⟨_, rfl, .inl ⟨rfl, xs, SqL.of hx⟩, _, rfl, .inl ⟨_, rfl, _, _, rfl, rfl, (by show (0 : Int) < 24; decide), D, xs, _, rfl, rfl, hx, by rw [sizeLine_eq]; omega, ?_⟩⟩
              refine ⟨_, rfl, _, _, rfl, rfl, ⟨by decide, by decide⟩, _, c / 24, rfl, Int.ediv_nonneg c1 (by decide), same_keep nD sm, dn.push (Int.emod_nonneg _ (by decide)) hx⟩
            · rw [decide_eq_false g0]
              exact iteF ⟨_, c, rfl, c1, sm, dn.up (by omega)⟩
          · obtain ⟨o4, c, rfl, c1, sm, dn⟩ := h
            exact ⟨_, _, _, _, rfl, sm, dn.up (by omega)⟩
        · rw [decide_eq_false big]
          have cl : c < 1000000000000000000 := Int.not_le.mp big
          refine iteF ⟨_, rfl, _, _, rfl, rfl, .inl ⟨by omega, by omega⟩, _, rfl, _, _, rfl, rfl, .inl ⟨by omega, by omega⟩, _, _, rfl, rfl, _, _, rfl, rfl, .inl ⟨_, rfl, _, _, rfl, rfl, (by show (0 : Int) < 2147483647; decide), ?_⟩⟩
          have v1 : 0 ≤ (c * 48947 + (i : Int) * 60493 + 7) % 2147483647 ∧ (c * 48947 + (i : Int) * 60493 + 7) % 2147483647 < 2147483647 := ⟨Int.emod_nonneg _ (by decide), Int.emod_lt_of_pos _ (by decide)⟩
          let P3 : Nat → L2.St → Hp → Prop := fun t σ H' => ∃ o4 v, σ = [some (.ref l), some (.ref D), some (.int (i : Int)), some (.int c), o4, some (.int v)] ∧ (0 ≤ v ∧ v < 2147483647) ∧ Same H H' ∧ DrN H' D (60 * i + t)
          refine ⟨6, rfl, by decide, by decide, for_range (n := 6) P3 ⟨o4, (c * 48947 + (i : Int) * 60493 + 7) % 2147483647, rfl, v1, sm, dn⟩ (fun t σ H2 ht h => ?_) (fun σ H2 h => ?_)⟩
          · obtain ⟨o4, v, rfl, v1, sm, dn⟩ := h
            refine ⟨_, rfl, _, rfl, _, _, rfl, rfl, .inl ⟨by omega, by omega⟩, _, rfl, _, _, rfl, rfl, .inl ⟨by omega, by omega⟩, _, _, rfl, rfl, _, rfl, _, _, rfl, rfl, _, _, rfl, rfl, .inl ⟨_, rfl, _, _, rfl, rfl, (by show (0 : Int) < 2147483587; decide), ?_⟩⟩
            have w1 : 0 ≤ (v * v + (0 + (t : Int)) * 38447 + (i : Int) + 11) % 2147483587 ∧ (v * v + (0 + (t : Int)) * 38447 + (i : Int) + 11) % 2147483587 < 2147483587 := ⟨Int.emod_nonneg _ (by decide), Int.emod_lt_of_pos _ (by decide)⟩
            obtain ⟨xs, hx, lx⟩ := dn.at
            refine ⟨_, rfl, .inl ⟨rfl, xs, SqL.of hx⟩, _, rfl, D, xs, _, rfl, rfl, hx, by rw [sizeLine_eq]; omega, ?_⟩
            exact ⟨_, (v * v + (0 + (t : Int)) * 38447 + (i : Int) + 11) % 2147483587, rfl, ⟨w1.1, Int.lt_trans w1.2 (by decide)⟩, same_keep nD sm, dn.push w1.1 hx⟩
          · obtain ⟨o4, v, rfl, v1, sm, dn⟩ := h
            exact ⟨_, _, _, _, rfl, sm, dn.up (by omega)⟩
    · obtain ⟨o2, o3, o4, o5, rfl, sm, dn⟩ := h
      obtain ⟨ns, h1, h2, h3⟩ := dn
      refine ⟨_, rfl, .inl ⟨rfl, _, SqL.of h1⟩, D, _, rfl, rfl, h1, _, rfl, ?_⟩
      exact k _ D (same_keep nD sm) nD ⟨ns.reverse, by rw [upd_same, List.map_reverse], fun j hj => h2 j (List.mem_reverse.mp hj)⟩
end
end K0
set_option Elab.async false
set_option linter.all false
set_option maxRecDepth 100000
set_option maxHeartbeats 4000000
namespace K0
open PySem PySem.Spec PyProof.Rows L2
theorem del_upd_ne {H : Hp} {a d : Addr} {o : HO} (h : a ≠ d) : del (upd H a o) d = upd (del H d) a o := by
  funext b
  by_cases hb : b = d
  · rw [hb, del_same, upd_ne h.symm, del_same]
  · rw [del_ne hb]
    by_cases ha : b = a
    · rw [ha, upd_same, upd_same]
    · rw [upd_ne ha, upd_ne ha, del_ne hb]
theorem DrO.ne {H : Hp} {d u : Addr} (h : DrO H d) (n : H u = none) : u ≠ d := fun e => by
  obtain ⟨ns, h1, _⟩ := h
  rw [e, h1] at n
  cases n
theorem DrO.upd {H : Hp} {d u : Addr} {o : HO} (h : DrO H d) (n : u ≠ d) : DrO (upd H u o) d := by
  obtain ⟨ns, h1, h2⟩ := h
  exact ⟨ns, by rw [upd_ne n.symm]; exact h1, h2⟩
/-- new things, the draws apart -/
theorem sd_upd {H H' : Hp} {d u : Addr} {o : HO} (s : Same (del H d) H') (n : H u = none) (ne : u ≠ d) : Same (del H d) (upd H' u o) := fun b v e => by
  have : b ≠ u := fun z => by
    rw [z, del_ne ne, n] at e
    cases e
  rw [upd_ne this]
  exact s b v e
theorem sd_trans {H H1 H2 : Hp} {d : Addr} (a : Same (del H d) H1) (b : Same (del H1 d) H2) : Same (del H d) H2 := (same_del a).trans b
theorem sd_none {H H' : Hp} {d a : Addr} (s : Same (del H d) H') (n : H' a = none) (ne : a ≠ d) : H a = none := by
  cases e : H a with
  | none => rfl
  | some o =>
    have := s a o (by rw [del_ne ne]; exact e)
    rw [this] at n
    cases n
end K0
set_option Elab.async false
set_option linter.all false
set_option maxRecDepth 100000
set_option maxHeartbeats 4000000
namespace K0
open PySem PySem.Spec PyProof.Rows L2
/-! ### calls whose exceptions are caught here -/
section
variable {X : Cx} {pins : List (Addr × Obj)} {σ : L2.St} {H : Hp} {s : Shared}
theorem run_anyS {A : Around} {n : Nat} {f : Addr} {fd : FuncData} {ps : List Str} {sp : Sp} {E : XK} {Q : VK} {vs : List V} {us : List Value} {CX : CXT} (sb : Sub X n A) (F : FnOk X.prog X.w X.K X.mg X.base CX n f fd ps sp) (hb : Binds X.K fd ps []) (hx : PassesAt CX X σ E)
    (I : Inv X pins σ H s) (r : Vals vs us) (h : sp vs H Q E) : wpAny (model X.prog X.w) A (call (.ref f) us) (EP X pins σ Q) X.xe s := by
  have e0 : Env0 X.prog X.w X.K X.mg X.base A X.stack s H := by
    have e := I.env0
    exact ⟨by rw [sb.fr]; exact e.frames, e.mod, e.bs, e.bsz, e.funs, e.frf, e.hok, e.bare⟩
  have hl := F.len _ _ _ _ h
  have hl2 : us.length = ps.length := by rw [← hl, r.length]
  refine wpAny_call (codeAny_mono (F.run A X.stack s H ⟨us, []⟩ us vs Q E sb.room e0 (by
    have := hb s us I.kIn (by simpa using hl2)
    simpa using this) r h) fun r s' hq => ?_)
  cases r with
  | error e => exact hx pins H s e s' I hq
  | ok fl =>
    cases fl with
    | ret w => exact I.after hq
    | next => exact False.elim hq
    | brk => exact False.elim hq
    | cont => exact False.elim hq
variable {C CN CW : Addr} {m : Str} {k : Nat} {ps : List Str} {sp : Sp} {E : L2.St → XK} {o e : Expr} {es : List Expr} {ta tb : TE} {t : TA} {p apos pos : Pos}
end
end K0
set_option Elab.async false
set_option linter.all false
set_option maxRecDepth 100000
set_option maxHeartbeats 4000000
namespace K0
open PySem PySem.Spec PyProof.Rows L2
abbrev heapOf {H H' : Hp} (_ : Same H H') : Hp := H'
theorem cut_take (xs : List V) (k : Nat) : cutV xs none (some (k : Int)) = xs.take k := by
  unfold cutV HT.sIx
  simp only [Nat.sub_zero, List.drop_zero]
  by_cases h : xs.length ≤ k
  · rw [List.take_of_length_le h]
    refine List.take_of_length_le ?_
    split <;> omega
  · congr 1
    split <;> omega
theorem cut_drop (xs : List V) (k : Nat) (h : k ≤ xs.length) : cutV xs (some (k : Int)) none = xs.drop k := by
  have e : HT.sIx xs.length 0 (some (k : Int)) = k := by
    unfold HT.sIx
    simp only
    split <;> omega
  have e2 : HT.sIx xs.length xs.length none = xs.length := rfl
  unfold cutV
  rw [e, e2]
  refine List.take_of_length_le ?_
  rw [List.length_drop]
  exact Nat.le_refl _
theorem cl_eq {n m : Int} {q q' : List Pr} (h : Cl n q) (h' : Cl m q') (e : ∀ z, z ∈ q' ↔ z ∈ q) : q' = q := srt_unique h'.srt h.srt e
theorem Cl.up {n m : Int} {q : List Pr} (h : Cl n q) (l : n ≤ m) : Cl m q := ⟨h.srt, fun p hp => by have := h.rng p hp; omega⟩
/-- Web(n, ..) on a list of pairs that holds just those of r, once or more -/
theorem mk_ls {K : PySem.W.Frag} {C CN CW : Addr} {H : Hp} {b : Addr} {n : Int} {ps : List Pr} {Q : VK} {E : XK} (hl : Ls H b ps) (rng : ∀ z ∈ ps, 0 ≤ z.1 ∧ z.1 < z.2 ∧ z.2 < n) (h0 : 0 ≤ n) (h8 : n ≤ 16) (h62 : ps.length ≤ 62)
    (k : ∀ H' p q, Same H H' → H p = none → Cl n q → (∀ z, z ∈ q ↔ z ∈ ps) → WebAt C (New H H') p n q → Q (.ref p) H') : spMk K C CN CW [.int n, .ref b] H Q E := by
  refine ⟨b, .int n, .int n, ps.map prD, rfl, .int n, hl.sq, fun z => ?_, fun m e _ => ?_⟩
  · have z' : ¬ (0 ≤ n) := of_decide_eq_false z
    exact absurd h0 z'
  · cases e
    refine ⟨h8, by rw [List.length_map]; exact h62, fun ps' hps q cq hm H' p sm np W => ?_, fun x y hxy => ?_⟩
    · rw [entsOf_prs rng] at hps
      cases hps
      exact k H' p q sm np cq hm W
    · rw [entsOf_prs rng] at hxy
      cases hxy
end K0
set_option Elab.async false
set_option linter.all false
set_option maxRecDepth 100000
set_option maxHeartbeats 4000000
set_option Elab.async false
set_option linter.all false
set_option maxRecDepth 100000
set_option maxHeartbeats 4000000
namespace K0
open PySem PySem.Spec PyProof.Rows L2
/-! ### sorted pairs -/
def kH (H : Hp) : V → Int × Int
  | .ref a => match H a with
    | some (.tup [.int x, .int y]) => (x, y)
    | _ => (0, 0)
  | _ => (0, 0)
theorem kH_at {H : Hp} {a : Addr} {p : Pr} (h : H a = some (.tup [.int p.1, .int p.2])) : kH H (.ref a) = p := by
  show (match H a with | some (.tup [.int x, .int y]) => (x, y) | _ => (0, 0)) = p
  rw [h]
theorem dta_kH {H : Hp} : ∀ {xs : List V} {ps : List Pr}, DtAll H xs (ps.map prD) → xs.map (kH H) = ps ∧ ∀ x ∈ xs, ∃ t, x = V.ref t ∧ H t = some (.tup [.int (kH H x).1, .int (kH H x).2])
  | xs, [], h => by
    cases h
    exact ⟨rfl, fun x hx => by cases hx⟩
  | xs, p :: ps, h => by
    cases h with
    | cons h1 h2 =>
      obtain ⟨e, hh⟩ := dta_kH h2
      cases h1 with
      | tup ea h =>
        cases h with
        | cons a b =>
          cases b with
          | cons c d =>
            cases a
            cases c
            cases d
            have ek := kH_at ea
            refine ⟨by rw [List.map_cons, ek, e], fun x hx => ?_⟩
            rcases List.mem_cons.mp hx with hx | hx
            · rw [hx, ek]
              exact ⟨_, rfl, ea⟩
            · exact hh x hx
theorem dta_of {H : Hp} {k : V → Int × Int} : ∀ {ys : List V}, (∀ y ∈ ys, ∃ t, y = V.ref t ∧ H t = some (.tup [.int (k y).1, .int (k y).2])) → DtAll H ys ((ys.map k).map prD)
  | [], _ => .nil
  | y :: ys, h => by
    obtain ⟨t, e, ht⟩ := h y List.mem_cons_self
    subst e
    exact .cons (dt_pr ht) (dta_of fun z hz => h z (List.mem_cons_of_mem _ hz))
theorem cr_srtP {X : Cx} : CallR X (.builtin "sorted") (fun xs H Q => ∃ a ps, xs = [.ref a] ∧ Ls H a ps ∧ ps.Nodup ∧ ∀ H' p rs, Same H H' → H p = none → Ls H' p rs → rs.Pairwise plt → (∀ z, z ∈ rs ↔ z ∈ ps) → rs.length = ps.length → Q (.ref p) H') := by
  intro pins s σ H xs us Q I r h
  obtain ⟨a, ps, rfl, ⟨ys, ha, hy⟩, nd, k⟩ := h
  obtain ⟨e, hh⟩ := dta_kH hy
  refine cr_sortedPO pins s σ H _ us Q I r ⟨a, ys, kH H, rfl, SqL.of ha, hh, fun zs p srt stb np => ?_⟩
  have sm : Same H (upd H p (.lst zs)) := same_upd np
  have pm : (zs.map (kH H)).Perm ps := by
    rw [← e]
    exact stb.perm.map _
  have nd2 : (zs.map (kH H)).Nodup := pm.nodup_iff.mpr nd
  refine k _ p (zs.map (kH H)) sm np ⟨zs, upd_same, dta_of fun y hy' => ?_⟩ ?_ (fun z => pm.mem_iff) pm.length_eq
  · obtain ⟨t, e1, e2⟩ := hh y (stb.perm.mem_iff.mp hy')
    exact ⟨t, e1, sm _ _ e2⟩
  · have s2 : (zs.map (kH H)).Pairwise fun x y => SrtO.lexB y x = false := List.pairwise_map.mpr srt
    refine List.Pairwise.imp₂ (fun x y h1 h2 => ?_) s2 nd2
    have := SrtO.lexB_no.mp h1
    have ne : x.1 ≠ y.1 ∨ x.2 ≠ y.2 := by
      by_cases e1 : x.1 = y.1
      · exact .inr fun e2 => h2 (Prod.ext e1 e2)
      · exact .inl e1
    unfold plt
    omega
end K0
set_option Elab.async false
set_option linter.all false
set_option maxRecDepth 100000
set_option maxHeartbeats 4000000
/-! ### rows of ints, sorted, any number of them -/
namespace RowS
open PySem PySem.Spec PyProof.Rows L2
abbrev cd (r : List Int) : Int := TS.code 64 r
/-- sorted rows, each once -/
abbrev Up (rs : List (List Int)) : Prop := rs.Pairwise fun a b => cd a < cd b
theorem up_unique : ∀ {l m : List (List Int)}, Up l → Up m → (∀ x, x ∈ l ↔ x ∈ m) → l = m
  | [], [], _, _, _ => rfl
  | [], b :: m, _, _, h => by cases (h b).mpr List.mem_cons_self
  | a :: l, [], _, _, h => by cases (h a).mp List.mem_cons_self
  | a :: l, b :: m, hl, hm, h => by
    obtain ⟨al, ll⟩ := List.pairwise_cons.mp hl
    obtain ⟨bm, mm⟩ := List.pairwise_cons.mp hm
    have e : a = b := by
      rcases List.mem_cons.mp ((h a).mp List.mem_cons_self) with e | e
      · exact e
      rcases List.mem_cons.mp ((h b).mpr List.mem_cons_self) with e2 | e2
      · exact e2.symm
      have p := bm a e
      have q := al b e2
      omega
    subst e
    have no : ∀ {k : List (List Int)}, (∀ x ∈ k, cd a < cd x) → a ∉ k := fun hk hx => Int.lt_irrefl _ (hk a hx)
    rw [up_unique ll mm fun x => ⟨fun hx => ?_, fun hx => ?_⟩]
    · rcases List.mem_cons.mp ((h x).mp (List.mem_cons_of_mem _ hx)) with e | e
      · exact absurd hx (by rw [e]; exact no al)
      · exact e
    · rcases List.mem_cons.mp ((h x).mpr (List.mem_cons_of_mem _ hx)) with e | e
      · exact absurd hx (by rw [e]; exact no bm)
      · exact e
section
variable {prog : Program} {w : World} {A : Around} {E : Value → Shared → Prop} {s : Shared}
theorem swo_cd {α : Type} (k : α → Int) : SrtO.Swo fun v u => decide (k v < k u) := by
  refine ⟨fun x y h => ?_, fun x y z h1 h2 => ?_⟩
  · have := of_decide_eq_true h
    exact decide_eq_false (by omega)
  · have := of_decide_eq_false h1
    have := of_decide_eq_false h2
    exact decide_eq_false (by omega)
theorem rows_cmp {d : Nat} {vs : List Value} {h0 : Heap} (hp : TS.TupsOk s.heap d 64 vs) (same : ∀ v ∈ vs, TS.intsOf h0 v = TS.intsOf s.heap v) :
    SrtO.Cmp prog w A s (tuples' true) (fun p => p.1 ∈ vs) (SrtO.lt2 fun v u => decide (cd (TS.intsOf h0 v) < cd (TS.intsOf h0 u))) := by
  intro p q hm hm'
  obtain ⟨ns, t1, l1, b1⟩ := hp _ hm
  obtain ⟨ms, t2, l2, b2⟩ := hp _ hm'
  show wpAny (model prog w) A (keyLt' (tuples' true) p.1 q.1) (fun r s' => s' = s ∧ r = decide (cd (TS.intsOf h0 p.1) < cd (TS.intsOf h0 q.1))) (fun _ _ => False) s
  rw [same _ hm, same _ hm', t1.ints, t2.ints]
  obtain ⟨a, xs, e, ⟨o, ho, hc, n, hd⟩, i⟩ := t1
  obtain ⟨a', xs', e', ⟨o', ho', hc', n', hd'⟩, i'⟩ := t2
  rw [e, e']
  refine PySem.W.kat_lt ho hd ho' hd' ?_
  have ez : decide (xs.size < xs'.size) = false := by
    have z1 := i.length
    have z2 := i'.length
    rw [Array.length_toList] at z1 z2
    exact decide_eq_false (by omega)
  rw [ez]
  exact TS.lex_ints 0 i i' (by omega) b1 b2 ⟨rfl, rfl⟩
theorem rows_sortable {d : Nat} {a : Addr} {vs : List Value} (hd : 1 ≤ d) (hz : 0 < vs.length) (hp : TS.TupsOk s.heap d 64 vs) (ha : ∀ o, s.heap.get? a = some o → o.cls ≠ .type "tuple") (h0 : Heap) (same : ∀ v ∈ vs, TS.intsOf h0 v = TS.intsOf s.heap v) :
    SrtO.SortableO prog w A s a vs fun v u => decide (cd (TS.intsOf h0 v) < cd (TS.intsOf h0 u)) := by
  intro h' keep
  have kp : ∀ b o, s.heap.get? b = some o → o.cls = .type "tuple" → h'.get? b = some o := fun b o e c => keep b o (fun z => by subst z; exact ha o e c) e
  have hp' : TS.TupsOk h' d 64 vs := hp.keeps kp
  have same' : ∀ v ∈ vs, TS.intsOf h0 v = TS.intsOf h' v := fun v hv => by
    obtain ⟨ns, t, _⟩ := hp v hv
    rw [same v hv, t.ints, (t.keeps kp).ints]
  obtain ⟨fs, h1, h2, h3⟩ := TS.firsts_of hd vs hp'
  refine ⟨tuples' true, fun Q E hq => ?_, rows_cmp (s := { s with heap := h' }) hp' same'⟩
  refine PySem.W.kat_kind (T := .type "int") h1 (by omega) (fun f hm => ?_) (by rfl) ?_
  · obtain ⟨x, t, rfl⟩ := h3 f hm
    exact PySem.W.Looks.now
  · have e : (Value.type "int" != Value.type "tuple") = true := by first | decide +kernel | rfl | decide
    rw [e]
    exact hq
theorem sorted_rows {l : Addr} {vs : List Value} {d : Nat} {Q : Value → Shared → Prop} (hl : s.heap.IsList l vs.toArray) (hz : vs.length ≤ sizeLine) (hd : 1 ≤ d) (hp : TS.TupsOk s.heap d 64 vs)
    (h : ∀ (h' : Heap) (p : Addr) (out : List Value), out.Perm vs → out.Pairwise (fun v u => cd (TS.intsOf s.heap v) ≤ cd (TS.intsOf s.heap u)) → (∀ b o, s.heap.get? b = some o → h'.get? b = some o) → s.heap.objs.size ≤ p → (∃ n, h'.get? p = some (seqObj "list" out.toArray n)) → Q (.ref p) { s with heap := h' }) :
    wpAny (model prog w) A (call (.builtin "sorted") [.ref l]) Q E s := by
  refine SrtO.sorted_ord (swo_cd fun v => cd (TS.intsOf s.heap v)) hl hz (fun h2 h₁ a ha kk => ?_) fun out hs hb => ?_
  · have kp : ∀ b o, s.heap.get? b = some o → o.cls = .type "tuple" → h₁.get? b = some o := fun b o e _ => (kk b o e).2
    refine rows_sortable (s := { s with heap := h₁ }) hd (by omega) (hp.keeps kp) (fun o e => ?_) s.heap fun v hv => ?_
    · have e' : some o = some (seqObj "list" vs.toArray 0) := e.symm.trans ha
      cases e'
      intro c
      exact absurd (Value.type.inj c) (by decide)
    · obtain ⟨ns, t, _⟩ := hp v hv
      rw [t.ints]
      exact (t.keeps kp).ints.symm
  · refine h _ _ out hb.perm (List.Pairwise.imp (fun {v u} z => ?_) hs) (fun b o e => sortedAll_old e) (Nat.le_succ _) (sortedAll_at s.heap vs out.toArray)
    have := of_decide_eq_false z
    omega
end
end RowS
namespace L2
open PySem PySem.Spec PyProof.Rows
/-- sorted(xs), xs a list of tuples of d ints in [0, 64): a new list of the same, by their codes -/
def rSortV (K : PySem.W.Frag) (d : Nat) : List V → Hp → VK → Prop := fun vs H Q => ∃ (a : Addr) (xs : List V), vs = [V.ref a] ∧ SqL K H a xs ∧ (∀ x ∈ xs, ∃ ns, TupI K H x ns ∧ ns.length = d ∧ TS.Bd 64 ns) ∧
  ∀ (ys : List V) (p : Addr), ys.Perm xs → ys.Pairwise (fun x y => ∀ n m, TupI K H x n → TupI K H y m → TS.code 64 n ≤ TS.code 64 m) → H p = none → Q (.ref p) (upd H p (.lst ys))
theorem cr_sortV {X : Cx} {d : Nat} (hd : 1 ≤ d) : CallR X (.builtin "sorted") (rSortV X.K d) := by
  intro pins s σ H vs us Q I r h
  obtain ⟨a, xs, rfl, hs, hx, q⟩ := h
  obtain ⟨its, rv, hl, hz⟩ := I.list hs
  rw [Vals.ref1 r]
  obtain ⟨e1, e2⟩ := bkV_refs rv fun x m => by
    obtain ⟨ns, ⟨t, e, _⟩, _⟩ := hx x m
    exact ⟨t, e⟩
  refine RowS.sorted_rows (d := d) hl.isList (by rw [← rv.length]; exact hz) hd (fun v hv => ?_) fun h' p out h1 h2 kp hp hn => ?_
  · obtain ⟨t, rfl⟩ := e2 v hv
    have hm : V.ref t ∈ xs := by
      rw [e1]
      exact List.mem_map.mpr ⟨_, hv, rfl⟩
    obtain ⟨ns, ⟨t', e, ht⟩, hn, hb⟩ := hx _ hm
    cases e
    exact ⟨ns, tupI_raw I ht, hn, hb⟩
  · have h3 : ∀ u ∈ out, ∃ a, u = Value.ref a := fun u hu => e2 u (h1.mem_iff.mp hu)
    obtain ⟨n, hn⟩ := hn
    have hp' : (out.map bkV).Perm xs := by
      rw [e1]
      exact h1.map bkV
    have hlen : (out.map bkV).length ≤ sizeLine := by
      rw [hp'.length_eq]
      exact hz
    refine ⟨.ref p, upd H p (.lst (out.map bkV)), I.laid (t' := s.toks) kp hp ⟨hlen, out, n, bkV_vals h3, hn⟩, rfl, q _ p hp' ?_ (I.hok.fresh hp)⟩
    rw [List.pairwise_map]
    refine List.Pairwise.imp (fun {u v} huv n m hn hm => ?_) h2
    obtain ⟨t, et, ht⟩ := hn
    obtain ⟨t', et', ht'⟩ := hm
    have eu := bkV_ref et
    have ev := bkV_ref et'
    have i1 : TS.intsOf s.heap u = n := by
      rw [eu]
      exact (tupI_raw I ht).ints
    have i2 : TS.intsOf s.heap v = m := by
      rw [ev]
      exact (tupI_raw I ht').ints
    have z := huv
    rw [i1, i2] at z
    exact z
end L2
set_option Elab.async false
set_option linter.all false
set_option maxRecDepth 100000
set_option maxHeartbeats 4000000
namespace K0
open PySem PySem.Spec PyProof.Rows L2
/-! ### rows of four, as sorted rows of ints -/
/-- x and y clash by the row q -/
def cl (q : List Pr) (x y : Int) : Prop := (x, y) ∈ q ∨ (y, x) ∈ q
theorem cl_rng {n : Int} {q : List Pr} (h : Cl n q) {x y : Int} (c : cl q x y) : (0 ≤ x ∧ x < n) ∧ 0 ≤ y ∧ y < n := by
  rcases c with c | c <;> have := h.rng _ c <;> dsimp only at this <;> omega
theorem hasP_cl {q : List Pr} {x y : Nat} : hasP q x y = true ↔ cl q x y := by
  unfold hasP cl
  rw [Bool.or_eq_true, decide_eq_true_iff, decide_eq_true_iff]
/-- a row of four -/
structure RQ (q : List Pr) (a b c d : Int) : Prop where
  ab : cl q a b
  bc : cl q b c
  cd : cl q c d
  ac : ¬ cl q a c
  bd : ¬ cl q b d
  ad : ¬ cl q a d
  nac : a ≠ c
  nbd : b ≠ d
  nad : a ≠ d
/-- the rows of four of a web, sorted -/
structure IsRows (n : Int) (q : List Pr) (rs : List Rw) : Prop where
  up : RowS.Up rs
  mem : ∀ r, r ∈ rs ↔ ∃ a b c d, r = [a, b, c, d] ∧ a < d ∧ RQ q a b c d
theorem IsRows.uniq {n m : Int} {q : List Pr} {rs ss : List Rw} (h : IsRows n q rs) (g : IsRows m q ss) : rs = ss := RowS.up_unique h.up g.up fun x => by rw [h.mem, g.mem]
theorem RQ.rng {n : Int} {q : List Pr} (h : Cl n q) {a b c d : Int} (r : RQ q a b c d) : (0 ≤ a ∧ a < n) ∧ (0 ≤ b ∧ b < n) ∧ (0 ≤ c ∧ c < n) ∧ 0 ≤ d ∧ d < n := ⟨(cl_rng h r.ab).1, (cl_rng h r.ab).2, (cl_rng h r.cd).1, (cl_rng h r.cd).2⟩
theorem nodup_fm {α β : Type} {l : List α} {f : α → List β} (nl : l.Nodup) (nf : ∀ a ∈ l, (f a).Nodup) (ap : ∀ a ∈ l, ∀ b ∈ l, ∀ x, x ∈ f a → x ∈ f b → a = b) : (l.flatMap f).Nodup := by
  refine List.pairwise_flatMap.mpr ⟨nf, List.Pairwise.imp_of_mem (fun {a b} ha hb ne x hx y hy e => ?_) nl⟩
  subst e
  exact ne (ap a ha b hb x hx hy)
/-! ### what the program finds -/
abbrev near (n : Nat) (q : List Pr) (x : Nat) : List Nat := (List.range n).filter (hasP q x)
def row4 (a b c d : Nat) : Rw := [(a : Int), (b : Int), (c : Int), (d : Int)]
theorem nh {q : List Pr} {x y : Nat} : hasP q x y = false ↔ ¬ cl q x y := by
  rw [← hasP_cl]
  simp
/-! ### what the law finds -/
def lq3 (n : Nat) (q : List Pr) (a b c : Nat) : List Rw := ((near n q c).filter fun d => decide (a < d) && (!decide (d = b) && (!hasP q b d && !hasP q a d))).map (row4 a b c)
def lq2 (n : Nat) (q : List Pr) (a b : Nat) : List Rw := ((near n q b).filter fun c => !decide (c = a) && !hasP q a c).flatMap (lq3 n q a b)
def lq1 (n : Nat) (q : List Pr) (a : Nat) : List Rw := (near n q a).flatMap (lq2 n q a)
def lq (n : Nat) (q : List Pr) : List Rw := (List.range n).flatMap (lq1 n q)
end K0
set_option Elab.async false
set_option linter.all false
set_option maxRecDepth 100000
set_option maxHeartbeats 4000000
namespace K0
open PySem PySem.Spec PyProof.Rows L2
/-! ### webs put in -/
abbrev Wb := Int × List Pr
def nW (ws : List Wb) (v : Nat) : Int := (ws.getD v (0, [])).1
def qW (ws : List Wb) (v : Nat) : List Pr := (ws.getD v (0, [])).2
def fW (ws : List Wb) (v : Nat) : Int := ((ws.take v).map (·.1)).sum
structure Wbs (ws : List Wb) : Prop where
  n0 : ∀ w ∈ ws, 0 ≤ w.1
  cl : ∀ w ∈ ws, Cl w.1 w.2
theorem getD_mem {α : Type} {l : List α} {i : Nat} {d : α} (h : i < l.length) : l.getD i d ∈ l := by
  rw [List.getD_eq_getElem?_getD, List.getElem?_eq_getElem h]
  exact List.getElem_mem h
theorem Wbs.nn {ws : List Wb} (W : Wbs ws) (v : Nat) : 0 ≤ nW ws v := by
  unfold nW
  by_cases h : v < ws.length
  · exact W.n0 _ (getD_mem h)
  · rw [List.getD_eq_getElem?_getD, List.getElem?_eq_none (by omega)]
    exact Int.le_refl _
theorem sum_snoc (l : List Int) (x : Int) : (l ++ [x]).sum = l.sum + x := by
  induction l with
  | nil => simp
  | cons a l ih => rw [List.cons_append, List.sum_cons, List.sum_cons, ih]; omega
theorem fW_zero (ws : List Wb) : fW ws 0 = 0 := rfl
theorem fW_succ (ws : List Wb) (v : Nat) : fW ws (v + 1) = fW ws v + nW ws v := by
  unfold fW nW
  by_cases h : v < ws.length
  · rw [List.take_succ, List.getElem?_eq_getElem h, List.getD_eq_getElem?_getD, List.getElem?_eq_getElem h]
    show ((ws.take v ++ [ws[v]]).map (·.1)).sum = _
    rw [List.map_append]
    exact sum_snoc _ _
  · rw [List.take_of_length_le (by omega), List.take_of_length_le (by omega), List.getD_eq_getElem?_getD, List.getElem?_eq_none (by omega)]
    simp
theorem fW_mono {ws : List Wb} (W : Wbs ws) {u v : Nat} (h : u ≤ v) : fW ws u ≤ fW ws v := by
  induction v with
  | zero => rw [Nat.le_zero.mp h]; exact Int.le_refl _
  | succ v ih =>
    rcases Nat.lt_or_ge u (v + 1) with l | l
    · have := ih (by omega)
      have := W.nn v
      rw [fW_succ]
      omega
    · rw [show u = v + 1 by omega]
      exact Int.le_refl _
theorem fW_nonneg {ws : List Wb} (W : Wbs ws) (v : Nat) : 0 ≤ fW ws v := fW_mono W (Nat.zero_le v)
theorem fW_lt {ws : List Wb} (W : Wbs ws) {u v : Nat} (h : u < v) : fW ws u + nW ws u ≤ fW ws v := by
  rw [← fW_succ]
  exact fW_mono W h
/-- the thing t is the thing x of the web v -/
structure Loc (ws : List Wb) (t : Int) (k : Nat) (x : Int) : Prop where
  v : k < ws.length
  x0 : 0 ≤ x
  x1 : x < nW ws k
  e : t = fW ws k + x
theorem Loc.uniq {ws : List Wb} (W : Wbs ws) {t : Int} {u v : Nat} {x y : Int} (a : Loc ws t u x) (b : Loc ws t v y) : u = v ∧ x = y := by
  have e := a.e.symm.trans b.e
  have := a.x0; have := a.x1; have := b.x0; have := b.x1
  rcases Nat.lt_trichotomy u v with h | h | h
  · have := fW_lt W h
    omega
  · subst h
    exact ⟨rfl, by omega⟩
  · have := fW_lt W h
    omega
theorem Loc.ex {ws : List Wb} {t : Int} : ∀ {k : Nat}, k ≤ ws.length → 0 ≤ t → t < fW ws k → ∃ v x, Loc ws t v x
  | 0, _, h0, h1 => by rw [fW_zero] at h1; omega
  | k + 1, hk, h0, h1 => by
    rcases Int.lt_or_le t (fW ws k) with h | h
    · exact Loc.ex (k := k) (by omega) h0 h
    · rw [fW_succ] at h1
      exact ⟨k, t - fW ws k, by omega, by omega, by omega, by omega⟩
abbrev tot (ws : List Wb) : Int := fW ws ws.length
theorem Loc.rng {ws : List Wb} (W : Wbs ws) {t : Int} {v : Nat} {x : Int} (a : Loc ws t v x) : 0 ≤ t ∧ t < tot ws := by
  have := fW_nonneg W v
  have := fW_lt W a.v
  have := a.x0; have := a.x1; have := a.e
  show 0 ≤ t ∧ t < fW ws ws.length
  omega
theorem Loc.lt {ws : List Wb} (W : Wbs ws) {t t' : Int} {u v : Nat} {x y : Int} (a : Loc ws t u x) (b : Loc ws t' v y) : t < t' ↔ u < v ∨ (u = v ∧ x < y) := by
  have := a.x0; have := a.x1; have := b.x0; have := b.x1; have := a.e; have := b.e
  rcases Nat.lt_trichotomy u v with h | h | h
  · have := fW_lt W h
    omega
  · subst h
    omega
  · have := fW_lt W h
    omega
/-! ### the pairs -/
def shf (q : List Pr) (s : Int) : List Pr := q.map fun p => (p.1 + s, p.2 + s)
def grid (a m b k : Int) : List Pr := (List.range m.toNat).flatMap fun (x : Nat) => (List.range k.toNat).map fun (y : Nat) => (a + (x : Int), b + (y : Int))
def inL (ws : List Wb) (k : Nat) : List Pr := (List.range k).flatMap fun v => shf (qW ws v) (fW ws v)
def gr (ws : List Wb) (e : Pr) : List Pr := grid (fW ws e.1.toNat) (nW ws e.1.toNat) (fW ws e.2.toNat) (nW ws e.2.toNat)
def acL (Q : List Pr) (ws : List Wb) : List Pr := Q.flatMap (gr ws)
def putL (Q : List Pr) (ws : List Wb) : List Pr := inL ws ws.length ++ acL Q ws
theorem mem_shf {q : List Pr} {s : Int} {z : Pr} : z ∈ shf q s ↔ (z.1 - s, z.2 - s) ∈ q := by
  unfold shf
  rw [List.mem_map]
  constructor
  · rintro ⟨p, hp, rfl⟩
    rw [show ((p.1 + s, p.2 + s) : Pr).1 - s = p.1 from by show p.1 + s - s = p.1; omega, show ((p.1 + s, p.2 + s) : Pr).2 - s = p.2 from by show p.2 + s - s = p.2; omega]
    exact hp
  · intro h
    exact ⟨_, h, Prod.ext (by show z.1 - s + s = z.1; omega) (by show z.2 - s + s = z.2; omega)⟩
theorem mem_grid {a m b k : Int} {z : Pr} : z ∈ grid a m b k ↔ (a ≤ z.1 ∧ z.1 < a + m) ∧ b ≤ z.2 ∧ z.2 < b + k := by
  unfold grid
  simp only [List.mem_flatMap, List.mem_map, List.mem_range]
  constructor
  · rintro ⟨x, hx, y, hy, rfl⟩
    dsimp only
    omega
  · rintro ⟨⟨h1, h2⟩, h3, h4⟩
    exact ⟨(z.1 - a).toNat, by omega, (z.2 - b).toNat, by omega, Prod.ext (by dsimp only; omega) (by dsimp only; omega)⟩
/-- the web put in: its clashes, sorted -/
structure IsPut (Q : List Pr) (ws : List Wb) (p : List Pr) : Prop where
  c : Cl (tot ws) p
  m : ∀ z, z ∈ p ↔ z ∈ putL Q ws
theorem IsPut.uniq {Q : List Pr} {ws : List Wb} {p p' : List Pr} (h : IsPut Q ws p) (g : IsPut Q ws p') : p = p' := srt_unique h.c.srt g.c.srt fun z => by rw [h.m, g.m]
/-! ### its rows of four -/
/-! ### contraries -/
end K0
set_option Elab.async false
set_option linter.all false
set_option maxRecDepth 100000
set_option maxHeartbeats 4000000
set_option Elab.async false
set_option linter.all false
set_option maxRecDepth 100000
set_option maxHeartbeats 4000000
namespace K0
open PySem PySem.Spec PyProof.Rows L2
section
variable {P : Program} {w : World} {K : PySem.W.Frag} {mg : Str → Option Value} {base : Heap} {f : Addr} {fd : FuncData}
/-- a tuple of pairs -/
def TqP (H : Hp) (c : Addr) (q : List Pr) : Prop := ∃ xs, H c = some (.tup xs) ∧ DtAll H xs (q.map prD)
theorem TqP.mono {H H' : Hp} (s : Same H H') {c : Addr} {q : List Pr} : TqP H c q → TqP H' c q := fun ⟨xs, h, d⟩ => ⟨xs, s _ _ h, d.mono s⟩
abbrev rAddI : R2 := rI0 fun i j => .int (i + j)
/-! ### Web on a list of pairs -/
end
end K0
set_option Elab.async false
set_option linter.all false
set_option maxRecDepth 100000
set_option maxHeartbeats 4000000
namespace K0
open PySem PySem.Spec PyProof.Rows L2
section
variable {P : Program} {w : World} {K : PySem.W.Frag} {mg : Str → Option Value} {base : Heap} {f : Addr} {fd : FuncData}
theorem Grow.ys {H : Hp} {D : Addr} {rs : List Pr} (g : Grow H D rs) : ∃ ys, H D = some (.lst ys) ∧ ys.length = rs.length ∧ DtAll H ys (rs.map prD) := g.at
end
end K0
set_option Elab.async false
set_option linter.all false
set_option maxRecDepth 100000
set_option maxHeartbeats 4000000
namespace K0
open PySem PySem.Spec PyProof.Rows L2 ClX
/-! ### own operators -/
/-! ### defs called by positional promises -/
/-! ### the class as a local name -/
section
variable {P : Program} {w : World} {K : PySem.W.Frag} {mg : Str → Option Value} {base : Heap} {f : Addr} {fd : FuncData}
theorem len28 {n : Int} {q : List Pr} (h : Cl n q) (hn : n ≤ 8) : q.length ≤ 28 := by
  let c : List Pr := (List.range 8).flatMap fun (x : Nat) => ((List.range 8).filter fun (y : Nat) => decide (x < y)).map fun (y : Nat) => ((x : Int), (y : Int))
  have e : c.length = 28 := by decide +kernel
  rw [← e]
  refine len_sub q c (pairwise_nodup h.srt) fun p hp => ?_
  obtain ⟨h1, h2, h3⟩ := h.rng p hp
  exact List.mem_flatMap.mpr ⟨p.1.toNat, List.mem_range.mpr (by omega), List.mem_map.mpr ⟨p.2.toNat, List.mem_filter.mpr ⟨List.mem_range.mpr (by omega), decide_eq_true (by omega)⟩, Prod.ext (by dsimp only; omega) (by dsimp only; omega)⟩⟩
end
end K0
set_option Elab.async false
set_option linter.all false
set_option maxRecDepth 100000
set_option maxHeartbeats 4000000
namespace K0
open PySem PySem.Spec PyProof.Rows L2 StX
section
variable {P : Program} {w : World} {K : PySem.W.Frag} {mg : Str → Option Value} {base : Heap} {f : Addr} {fd : FuncData}
theorem WebAt.ins {C : Addr} {H : Hp} {p : Addr} {n : Int} {q : List Pr} (W : WebAt C H p n q) : ∃ dx fs, H p = some (.ins C dx fs) := by
  obtain ⟨⟨dx, c, m, l, h1, _⟩, _⟩ := W
  exact ⟨dx, _, h1⟩
theorem WebAt.new {C : Addr} {H H' : Hp} {p : Addr} {n : Int} {q : List Pr} (W : WebAt C (New H H') p n q) : WebAt C H' p n q := W.mono same_new
end
end K0
set_option Elab.async false
set_option linter.all false
set_option maxRecDepth 100000
set_option maxHeartbeats 4000000
namespace K0
open PySem PySem.Spec PyProof.Rows L2
/-! ### rows of webs -/
section
variable {P : Program} {w : World} {K : PySem.W.Frag} {mg : Str → Option Value} {base : Heap} {f : Addr} {fd : FuncData}
structure Blt3 (mg : Str → Option Value) : Prop extends Blt2 mg where
  sum : mg "sum" = none
  zip : mg "zip" = none
end
end K0
set_option Elab.async false
set_option linter.all false
set_option maxRecDepth 100000
set_option maxHeartbeats 4000000
namespace K0
open PySem PySem.Spec PyProof.Rows L2
/-- a list of fresh pairs behind another one -/
theorem Grow.cat {H : Hp} {D a : Addr} {rs ss : List Pr} {xs ys : List V} (g : Grow H D rs) (g' : Grow H a ss) (hx : H D = some (.lst xs)) (hy : H a = some (.lst ys)) : Grow (upd H D (.lst (xs ++ ys))) D (rs ++ ss) := by
  obtain ⟨l, h, e, p⟩ := g
  obtain ⟨l', h', e', p'⟩ := g'
  rw [h] at hx
  cases hx
  rw [h'] at hy
  cases hy
  refine ⟨l ++ l', by rw [upd_same, List.map_append], by rw [List.map_append, e, e'], fun z hz => ?_⟩
  have hz2 : H z.1 = some (.tup [.int z.2.1, .int z.2.2]) := (List.mem_append.mp hz).elim (p z) (p' z)
  have zD : z.1 ≠ D := fun e => by
    rw [e, h] at hz2
    cases hz2
  rw [upd_ne zD]
  exact hz2
end K0
set_option Elab.async false
set_option linter.all false
set_option maxRecDepth 100000
set_option maxHeartbeats 4000000
namespace K0
open PySem PySem.Spec PyProof.Rows L2
/-! ### bits taken off -/
def andN (a b : Nat) : Nat := a - (a &&& b)
theorem andN_bit : ∀ (j a b : Nat), (andN a b).testBit j = (a.testBit j && !b.testBit j) := fun j => by
  induction j with
  | zero =>
    intro a b
    unfold andN
    have h1 : (a &&& b) % 2 = 1 ↔ a % 2 = 1 ∧ b % 2 = 1 := Nat.and_mod_two_eq_one
    have h2 : a &&& b ≤ a := Nat.and_le_left
    have h3 : (a &&& b) / 2 = a / 2 &&& b / 2 := Nat.and_div_two
    have h4 : a / 2 &&& b / 2 ≤ a / 2 := Nat.and_le_left
    rw [Nat.testBit_zero, Nat.testBit_zero, Nat.testBit_zero, Bool.eq_iff_iff, Bool.and_eq_true, Bool.not_eq_true', decide_eq_true_iff, decide_eq_true_iff, decide_eq_false_iff_not]
    by_cases ha : a % 2 = 1 <;> by_cases hb : b % 2 = 1 <;> omega
  | succ j ih =>
    intro a b
    rw [Nat.testBit_succ, Nat.testBit_succ, Nat.testBit_succ, ← ih]
    congr 1
    unfold andN
    have h1 : (a &&& b) % 2 = 1 ↔ a % 2 = 1 ∧ b % 2 = 1 := Nat.and_mod_two_eq_one
    have h2 : a &&& b ≤ a := Nat.and_le_left
    have h3 : (a &&& b) / 2 = a / 2 &&& b / 2 := Nat.and_div_two
    have h4 : a / 2 &&& b / 2 ≤ a / 2 := Nat.and_le_left
    by_cases ha : a % 2 = 1 <;> by_cases hb : b % 2 = 1 <;> omega
theorem andN_le (a b : Nat) : andN a b ≤ a := Nat.sub_le _ _
theorem and_not (a b : Nat) : Builtin.bitAnd (a : Int) (Builtin.bitNot (b : Int)) = ((andN a b : Nat) : Int) := by
  have n : Builtin.bitNot (Builtin.bitNot (b : Int)) = (b : Int) := by unfold Builtin.bitNot; omega
  have e1 : decide (0 ≤ (a : Int)) = true := decide_eq_true (Int.natCast_nonneg a)
  have e2 : decide (0 ≤ Builtin.bitNot (b : Int)) = false := decide_eq_false (by unfold Builtin.bitNot; omega)
  unfold Builtin.bitAnd
  rw [e1, e2]
  dsimp only
  rw [n, Int.toNat_natCast, Int.toNat_natCast]
  unfold andN
  have : a &&& b ≤ a := Nat.and_le_left
  omega
theorem bits_small {m k : Nat} (h : m < 2 ^ k) : bitsN m ≤ k := by
  unfold bitsN Builtin.Int.intBits
  split
  · exact Nat.zero_le _
  · rename_i z
    rw [Int.natAbs_natCast]
    have nz : m ≠ 0 := by simpa using z
    have := (Nat.log2_lt nz).mpr h
    omega
/-- x & ~y -/
def rAndN : R2 := fun x y H Q => ∃ a b : Nat, x = .int (a : Int) ∧ y = .int (Builtin.bitNot (b : Int)) ∧ Q (.int ((andN a b : Nat) : Int)) H
theorem op_andN {X : Cx} : OpR X (binaryOp .BitAnd) rAndN := OpR_imp op_and fun x y H Q ⟨a, b, ex, ey, q⟩ => ⟨_, _, ex, ey, by show Q (.int (Builtin.bitAnd (a : Int) (Builtin.bitNot (b : Int)))) H; rw [and_not]; exact q⟩
/-! ### lists of fresh rows -/
def GrowR (H : Hp) (D : Addr) (rs : List Rw) : Prop := ∃ l : List (Addr × Rw), H D = some (.lst (l.map fun z => V.ref z.1)) ∧ l.map (·.2) = rs ∧ ∀ z ∈ l, H z.1 = some (.tup (z.2.map V.int))
theorem GrowR.mono {H H' : Hp} {D : Addr} {rs : List Rw} (s : Same H H') : GrowR H D rs → GrowR H' D rs := fun ⟨l, h, e, p⟩ => ⟨l, s _ _ h, e, fun z hz => s _ _ (p z hz)⟩
theorem dtAll_rws {H : Hp} : ∀ {l : List (Addr × Rw)}, (∀ z ∈ l, H z.1 = some (.tup (z.2.map V.int))) → DtAll H (l.map fun z => V.ref z.1) (l.map fun z => rwD z.2)
  | [], _ => .nil
  | z :: r, h => .cons (.tup (h z List.mem_cons_self) (DtAll.ints _ _)) (dtAll_rws fun y hy => h y (List.mem_cons_of_mem _ hy))
theorem GrowR.at {H : Hp} {D : Addr} {rs : List Rw} (g : GrowR H D rs) : ∃ xs, H D = some (.lst xs) ∧ xs.length = rs.length ∧ DtAll H xs (rs.map rwD) := by
  obtain ⟨l, h, e, p⟩ := g
  refine ⟨_, h, by rw [← e, List.length_map, List.length_map], ?_⟩
  rw [← e, List.map_map]
  exact dtAll_rws p
theorem GrowR.nil {H : Hp} {D : Addr} (n : H D = none) : GrowR (upd H D (.lst [])) D [] := ⟨[], upd_same, rfl, fun z hz => by cases hz⟩
theorem GrowR.push {H : Hp} {D u : Addr} {rs : List Rw} {r : Rw} (g : GrowR H D rs) (nu : H u = none) {xs : List V} (hx : H D = some (.lst xs)) : GrowR (upd (upd H u (.tup (r.map V.int))) D (.lst (xs ++ [.ref u]))) D (rs ++ [r]) := by
  obtain ⟨l, h, e, p⟩ := g
  rw [h] at hx
  cases hx
  refine ⟨l ++ [(u, r)], by rw [upd_same, List.map_append]; rfl, by rw [List.map_append, e]; rfl, fun z hz => ?_⟩
  have s2 : Same H (upd H u (.tup (r.map V.int))) := same_upd nu
  have hz2 : (upd H u (.tup (r.map V.int))) z.1 = some (.tup (z.2.map V.int)) := by
    rcases List.mem_append.mp hz with hz | hz
    · exact s2 _ _ (p z hz)
    · rw [List.mem_singleton.mp hz]
      exact upd_same
  have zD : z.1 ≠ D := fun e => by
    rw [e, s2 _ _ h] at hz2
    cases hz2
  rw [upd_ne zD]
  exact hz2
theorem GrowR.cat {H : Hp} {D a : Addr} {rs ss : List Rw} {xs ys : List V} (g : GrowR H D rs) (g' : GrowR H a ss) (hx : H D = some (.lst xs)) (hy : H a = some (.lst ys)) : GrowR (upd H D (.lst (xs ++ ys))) D (rs ++ ss) := by
  obtain ⟨l, h, e, p⟩ := g
  obtain ⟨l', h', e', p'⟩ := g'
  rw [h] at hx
  cases hx
  rw [h'] at hy
  cases hy
  refine ⟨l ++ l', by rw [upd_same, List.map_append], by rw [List.map_append, e, e'], fun z hz => ?_⟩
  have hz2 : H z.1 = some (.tup (z.2.map V.int)) := (List.mem_append.mp hz).elim (p z) (p' z)
  have zD : z.1 ≠ D := fun e => by
    rw [e, h] at hz2
    cases hz2
  rw [upd_ne zD]
  exact hz2
/-- a list or tuple of rows -/
theorem tupI_row {K : PySem.W.Frag} {H : Hp} {v : V} {r : Rw} (h : Dt H v (rwD r)) : TupI K H v r := by
  obtain ⟨a, e, ha⟩ := dt_row h
  exact ⟨a, e, SqT.of ha⟩
theorem dta_pick {H : Hp} {r0 : V → Rw} : ∀ {xs : List V} {rs : List Rw}, DtAll H xs (rs.map rwD) → (∀ v r, Dt H v (rwD r) → r0 v = r) → xs.map r0 = rs ∧ ∀ x ∈ xs, Dt H x (rwD (r0 x))
  | [], [], _, _ => ⟨rfl, fun x hx => by cases hx⟩
  | _ :: _, [], h, _ => by cases h
  | [], _ :: _, h, _ => by cases h
  | x :: xs, r :: rs, h, k => by
    cases h with
    | cons a b =>
      obtain ⟨e1, e2⟩ := dta_pick b k
      have e := k x r a
      refine ⟨by rw [List.map_cons, e, e1], fun y hy => ?_⟩
      rcases List.mem_cons.mp hy with hy | hy
      · rw [hy, e]
        exact a
      · exact e2 y hy
theorem dta_rws {H : Hp} {r0 : V → Rw} : ∀ {ys : List V}, (∀ y ∈ ys, Dt H y (rwD (r0 y))) → DtAll H ys ((ys.map r0).map rwD)
  | [], _ => .nil
  | y :: ys, h => .cons (h y List.mem_cons_self) (dta_rws fun z hz => h z (List.mem_cons_of_mem _ hz))
def unV : V → Int
  | .int i => i
  | _ => 0
def r0H (H : Hp) : V → Rw
  | .ref a => match H a with
    | some (.tup xs) => xs.map unV
    | _ => []
  | _ => []
theorem r0H_at {H : Hp} (v : V) (r : Rw) (h : Dt H v (rwD r)) : r0H H v = r := by
  obtain ⟨a, rfl, ha⟩ := dt_row h
  show (match H a with | some (.tup xs) => xs.map unV | _ => []) = r
  rw [ha]
  show (r.map V.int).map unV = r
  rw [List.map_map]
  exact List.map_id _
/-- sorted of a list of rows of d things below 64 -/
theorem cr_srtW {X : Cx} {d : Nat} (hd : 1 ≤ d) : CallR X (.builtin "sorted") (fun xs H Q => ∃ (a : Addr) (rs : List Rw) (ys : List V), xs = [.ref a] ∧ H a = some (.lst ys) ∧ DtAll H ys (rs.map rwD) ∧ (∀ r ∈ rs, r.length = d ∧ TS.Bd 64 r) ∧
    ∀ (H' : Hp) (p : Addr) (zs : List V) (ss : List Rw), Same H H' → H p = none → H' p = some (.lst zs) → DtAll H' zs (ss.map rwD) → ss.Perm rs → ss.Pairwise (fun a b => TS.code 64 a ≤ TS.code 64 b) → Q (.ref p) H') := by
  intro pins s σ H xs us Q I r h
  obtain ⟨a, rs, ys, rfl, ha, hy, hb, k⟩ := h
  obtain ⟨e1, e2⟩ := dta_pick (r0 := r0H H) hy r0H_at
  refine cr_sortV (d := d) hd pins s σ H _ us Q I r ⟨a, ys, rfl, SqL.of ha, fun x hx => ⟨r0H H x, tupI_row (e2 x hx), ?_⟩, fun zs p pm le np => ?_⟩
  · exact hb _ (by rw [← e1]; exact List.mem_map.mpr ⟨x, hx, rfl⟩)
  · have sm : Same H (upd H p (.lst zs)) := same_upd np
    refine k _ p zs (zs.map (r0H H)) sm np upd_same (dta_rws fun y hy' => (e2 y (pm.mem_iff.mp hy')).mono sm) (by rw [← e1]; exact pm.map _) ?_
    refine List.pairwise_map.mpr (List.Pairwise.imp_of_mem (fun {x y} hx hy' le => ?_) le)
    exact le _ _ (tupI_row (e2 x (pm.mem_iff.mp hx))) (tupI_row (e2 y (pm.mem_iff.mp hy')))
end K0
set_option Elab.async false
set_option linter.all false
set_option maxRecDepth 100000
set_option maxHeartbeats 4000000
namespace K0
open PySem PySem.Spec PyProof.Rows L2
theorem len_fm {α β : Type} {m : Nat} {f : α → List β} : ∀ (l : List α), (∀ x ∈ l, (f x).length ≤ m) → (l.flatMap f).length ≤ l.length * m
  | [], _ => by simp
  | x :: l, h => by
    have := len_fm l fun y hy => h y (List.mem_cons_of_mem _ hy)
    have := h x List.mem_cons_self
    rw [List.flatMap_cons, List.length_append, List.length_cons, Nat.succ_mul]
    omega
theorem nvs_val {l : List Nat} {j : Nat} {v : V} (h : (nvs l)[j]? = some v) : ∃ x, l[j]? = some x ∧ v = .int (x : Int) := by
  unfold nvs at h
  rw [List.getElem?_map] at h
  cases e : l[j]? with
  | none => rw [e] at h; cases h
  | some x => rw [e] at h; exact ⟨x, rfl, (Option.some.inj h).symm⟩
end K0
set_option Elab.async false
set_option linter.all false
set_option maxRecDepth 100000
set_option maxHeartbeats 4000000
namespace K0
open PySem PySem.Spec PyProof.Rows L2
section
variable {P : Program} {w : World} {K : PySem.W.Frag} {mg : Str → Option Value} {base : Heap} {f : Addr} {fd : FuncData}
abbrev s_ln' : Stmt := top 53
abbrev s_rg : Stmt := top 54
/-- _law_clash -/
def spCk : Sp := fun vs H Q _ => ∃ (b : Addr) (n : Int) (x y : Nat) (q : List Pr), vs = [.ref b, .int (x : Int), .int (y : Int)] ∧ Cl n q ∧ Ls H b q ∧ Ret (.bl (hasP q x y)) H Q
/-- pairs of neighbours -/
def lnP (k : Nat) : List Pr := (List.range k).map fun (x : Nat) => ((x : Int), (x : Int) + 1)
theorem lnP_succ (k : Nat) : lnP (k + 1) = lnP k ++ [((k : Int), (k : Int) + 1)] := by
  unfold lnP
  rw [List.range_succ, List.map_append]
  rfl
theorem lnP_len (k : Nat) : (lnP k).length = k := by unfold lnP; rw [List.length_map, List.length_range]
theorem new_upd {H G : Hp} {u : Addr} {o : HO} (n : H u = none) : New H (upd G u o) = upd (New H G) u o := by
  funext b
  by_cases e : b = u
  · rw [e, new_at n, upd_same, upd_same]
  · rw [upd_ne e]
    unfold New
    rw [upd_ne e]
theorem line_stepN {H H' : Hp} {D : Addr} {i : Nat} (nD : H D = none) (sm : Same H H') (g : Grow (New H H') D (lnP i)) (hi : i < 16) {u : Addr} (nu : H' u = none) :
    ∃ acc, (upd H' u (.tup [.int (i : Int), .int ((i : Int) + 1)])) D = some (.lst acc) ∧ acc.length < sizeLine ∧ Same H (upd (upd H' u (.tup [.int (i : Int), .int ((i : Int) + 1)])) D (.lst (acc ++ [.ref u]))) ∧ Grow (New H (upd (upd H' u (.tup [.int (i : Int), .int ((i : Int) + 1)])) D (.lst (acc ++ [.ref u])))) D (lnP (i + 1)) := by
  obtain ⟨as, hA, lA, _⟩ := g.at
  have s8 : Same H' (upd H' u (.tup [.int (i : Int), .int ((i : Int) + 1)])) := same_upd nu
  have hu : H u = none := sm.free nu
  refine ⟨as, s8 _ _ (same_new _ _ hA), ?_, same_keep nD (sm.trans s8), ?_⟩
  · rw [lA, lnP_len, sizeLine_eq]
    omega
  · rw [lnP_succ, new_upd nD, new_upd hu]
    exact g.push (by rw [new_at hu]; exact nu) hA
/-- _law_line -/
def spLine : Sp := fun vs H Q _ => ∃ (n : Int), vs = [.int n] ∧ 1 ≤ n ∧ n ≤ 16 ∧ ∀ H' D, Same H H' → H D = none → Grow (New H H') D (lnP (n - 1).toNat) → Q (.ref D) H'
theorem sc_ln' : FnScope ["_law_many", "_law_x"] ["_law_many"] (defScope s_ln') := ⟨rfl, rfl, rfl, by decide +kernel, rfl, by decide +kernel, by decide +kernel⟩
theorem line_step {H H' : Hp} {D : Addr} {i : Nat} (nD : H D = none) (sm : Same H H') (g : Grow H' D (lnP i)) (hi : i < 16) {u : Addr} (nu : H' u = none) :
    ∃ acc, (upd H' u (.tup [.int (i : Int), .int ((i : Int) + 1)])) D = some (.lst acc) ∧ acc.length < sizeLine ∧ Same H (upd (upd H' u (.tup [.int (i : Int), .int ((i : Int) + 1)])) D (.lst (acc ++ [.ref u]))) ∧ Grow (upd (upd H' u (.tup [.int (i : Int), .int ((i : Int) + 1)])) D (.lst (acc ++ [.ref u]))) D (lnP (i + 1)) := by
  obtain ⟨as, hA, lA, _⟩ := g.at
  have s8 : Same H' (upd H' u (.tup [.int (i : Int), .int ((i : Int) + 1)])) := same_upd nu
  refine ⟨as, s8 _ _ hA, ?_, same_keep nD (sm.trans s8), ?_⟩
  · rw [lA, lnP_len, sizeLine_eq]
    omega
  · rw [lnP_succ]
    exact g.push nu hA
theorem ok_ln' (F : Fun K "_law_line" "_law_line" s_ln' f fd) (B : Blt2 mg) : FnOk P w K mg base (L2.CX P w) 1 f fd ["_law_many"] spLine := by
  refine F.okX sc_ln' (fun vs H Q E h => ?_) (fun cdv A outer s H vs Q E hr h => ?_)
  · obtain ⟨n, rfl, _⟩ := h
    rfl
  · obtain ⟨n, rfl, n1, n16, k⟩ := h
    have nd := sc_ln'.nd
    refine ⟨_, pss_one (ps_ret (pe_lc (own := [("_law_x", 1)]) (g := gName 1) (tt := tYes) (te := tTup (tCons (tVar 1) (tCons (tOp (rI0 fun i j => .int (i + j)) (tVar 1) (tC (.int 1))) tNil))) rfl nd
      (pi_range1 (by rfl) B.range (pa_cons (pe_op op_sub (pv 0) pe_int) pa_nil)) (blkOk_by (N := ["_law_many", "_law_x"]) (sc := defScope s_ln') (by decide +kernel)) (fun _ _ _ _ _ => pg_name (i := 1) nd rfl (.inl rfl)) (fun _ _ _ _ _ => pts_nil)
      (fun _ _ _ _ _ => pe_tup (pa_cons (pv 1) (pa_cons (pe_op op_add (pv 1) pe_int) pa_nil))))), ?_⟩
    refine ⟨_, rfl, _, _, rfl, rfl, n - 1, rfl, by omega, by omega, fun D nD => ?_⟩
    refine lc_range (lo := 0) (n := (n - 1).toNat) (fun i H' => Same H H' ∧ Grow (New H H') D (lnP i)) ⟨same_upd nD, [], by rw [new_upd nD, upd_same]; rfl, rfl, fun z hz => by cases hz⟩ (fun i H' hi ⟨sm, g⟩ => ?_) (fun H' ⟨sm, g⟩ => k H' D sm nD g)
    refine ⟨rfl, ?_⟩
    rw [Int.zero_add]
    exact ⟨_, rfl, _, rfl, _, _, rfl, rfl, (by show 2 ≤ sizeLine; decide), fun u nu => line_stepN nD sm g (by omega) nu⟩
end
end K0
set_option Elab.async false
set_option linter.all false
set_option maxRecDepth 100000
set_option maxHeartbeats 4000000
namespace K0
open PySem PySem.Spec PyProof.Rows L2
theorem GrowR.ne {H : Hp} {D u : Addr} {rs : List Rw} (g : GrowR H D rs) (n : H u = none) : u ≠ D := fun e => by
  obtain ⟨xs, h, _⟩ := g.at
  rw [e, h] at n
  cases n
section
variable {P : Program} {w : World} {K : PySem.W.Frag} {mg : Str → Option Value} {base : Heap} {f : Addr} {fd : FuncData}
theorem sc_rg : FnScope ["_law_many", "_law_pairs", "_law_x"] ["_law_many"] (defScope s_rg) := ⟨rfl, rfl, rfl, by decide +kernel, rfl, by decide +kernel, by decide +kernel⟩
end
end K0
set_option Elab.async false
set_option linter.all false
set_option maxRecDepth 100000
set_option maxHeartbeats 4000000
set_option Elab.async false
set_option linter.all false
set_option maxRecDepth 100000
set_option maxHeartbeats 2000000
set_option Elab.async false
set_option linter.all false
set_option maxRecDepth 100000
set_option maxHeartbeats 4000000
/-! ### rules that the library lacks: sorted over a tuple of ints; t[::-1] of a tuple of four -/
namespace K0
open PySem PySem.Spec PyProof.Rows L2
section
variable {prog : Program} {w : World} {A : Around} {E : Value → Shared → Prop} {s : Shared}
abbrev heldH (h : Heap) (vs : List Value) : Heap :=
  Heap.update (Heap.push h (seqObj "list" #[] 0)) h.objs.size (Obj.mapSeq fun z => z ++ vs.toArray)
theorem gather_tup {l : Addr} {vs : List Value} {Q : List Value → Shared → Prop} (ht : IsTup s.heap l vs.toArray) (hz : vs.length ≤ sizeLine)
    (k : Q vs { s with heap := heldH s.heap vs }) : wpAny (model prog w) A (collect (.ref l)) Q E s := by
  obtain ⟨o, ho, hc, m, hd⟩ := id ht
  have at' : (s.heap.push (seqObj "list" #[] 0)).get? l = some o := Heap.get?_push_of_some _ ho
  have at0 : (s.heap.push (seqObj "list" #[] 0)).get? s.heap.objs.size = some (seqObj "list" #[] 0) := Heap.get?_push_size _ rfl
  unfold collect
  refine wpAny_bind (wpAny_runValue (codeAny_builtin entry_proto_collect' ?_))
  change wpAny (model prog w) _ (do again (.builtin "list.__iadd__" ⟨[← newList [], .ref l], []⟩)) _ _ s
  refine wpAny_bind (wpAny_newList (wpAny_pure ⟨Code.quiet_builtin _ (by decide +kernel), codeAny_builtin entry_list_iadd' ?_⟩))
  change wpAny (model prog w) _ (Builtin.List.listExtendWith (.ref s.heap.objs.size) (.ref l) (.ref s.heap.objs.size)) _ _ _
  unfold Builtin.List.listExtendWith
  refine wpAny_bind (wpAny_typeOf (T := "tuple") ⟨o, at', hc⟩ ?_)
  have same : (Value.type "tuple" == Value.type "tuple") = true := by rfl
  rw [if_pos (by rw [same]; simp)]
  refine wpAny_bind (listItems_at at' hd (wpAny_bind (listItems_at at0 rfl ?_)))
  rw [if_neg (by simp)]
  have fit : (#[] ++ vs.toArray : Array Value).size ≤ sizeLine + 1 := by
    simp only [Array.size_append, List.size_toArray, List.length_nil]
    omega
  refine wpAny_bind (listUpdate_at at0 rfl (wpAny_pure ?_) (Nat.zero_le _) fit)
  change wpAny (model prog w) A (do
      let o ← load s.heap.objs.size
      match o.data with
      | .seq z _ => pure z.toList
      | _ => unsupported "internal:collect") Q E { s with heap := heldH s.heap vs }
  refine wpAny_bind (wpAny_load (get?_update_seq at0 _) ?_)
  have e : (#[] ++ vs.toArray : Array Value).toList = vs := by simp
  change wpAny (model prog w) _ (pure (#[] ++ vs.toArray : Array Value).toList) Q E _
  rw [e]
  exact wpAny_pure k
theorem sorted_itup {l : Addr} {vs : List Value} {ns : List Int} {Q : Value → Shared → Prop} (ht : IsTup s.heap l vs.toArray) (hI : IntsAre vs ns) (h64 : vs.length < 64)
    (k : ∀ (out : Array Value) (ms : List Int), IntsAre out.toList ms → ms.Perm ns → ms.Pairwise (· ≤ ·) → Q (.ref (s.heap.objs.size + 1)) { s with heap := sortedAll s.heap vs out }) :
    wpAny (model prog w) A (call (.builtin "sorted") [.ref l]) Q E s := by
  have line : vs.length ≤ sizeLine := by rw [sizeLine_eq]; omega
  refine Calls.call_function_entry kind_sorted plain_sorted entry_sorted (args_sorted1 _) ?_
  unfold Builtin.«sorted»
  refine wpAny_bind (m := checkCount "sorted" 1 1 _) (wpAny_pure (wpAny_bind (gather_tup ht line (wpAny_bind (wpAny_newList ?_)))))
  have sz : (heldH s.heap vs).objs.size = s.heap.objs.size + 1 := by rw [Heap.size_update, size_push']
  have here : ((heldH s.heap vs).push (seqObj "list" vs.toArray 0)).get? (s.heap.objs.size + 1) = some (seqObj "list" vs.toArray 0) := by
    rw [← sz]
    exact Heap.get?_push_size _ rfl
  change wpAny (model prog w) _ _ _ _ { s with heap := (heldH s.heap vs).push (seqObj "list" vs.toArray 0) }
  rw [sz]
  have run := fun (P : Fin → Shared → Prop) q => list_sort_tree (prog := prog) (w := w) (A := A.in1.in1) (E := E) (s := { s with heap := (heldH s.heap vs).push (seqObj "list" vs.toArray 0) }) (P := P) here hI h64 q
  refine wpAny_bind (wpAny_holding (wpAny_call_entry slot_list_sort ⟨_, here, rfl⟩ entry_list_sort (run _ fun out ms a b c => ⟨_, rfl, ?_⟩) (args_list_sort _)))
  exact wpAny_pure ⟨_, rfl, k out ms a b c⟩
end
/-- sorted(t) of a tuple of ints -/
def rSrtTup (K : PySem.W.Frag) : List V → Hp → VK → Prop := fun vs H Q => ∃ (a : Addr) (ns : List Int), vs = [V.ref a] ∧ SqT K H a (ns.map V.int) ∧ ns.length < 64 ∧
  ∀ (ms : List Int) (p : Addr), ms.Perm ns → ms.Pairwise (· ≤ ·) → H p = none → Q (.ref p) (upd H p (.lst (ms.map V.int)))
theorem cr_sorted_itup {X : Cx} : CallR X (.builtin "sorted") (rSrtTup X.K) := by
  intro pins s σ H vs us Q I r h
  obtain ⟨a, ns, rfl, hs, h64, q⟩ := h
  obtain ⟨its, rv, ht, hz⟩ := I.tuple hs
  rw [Vals.ref1 r]
  have hi := rv.ints
  have n64 : its.length < 64 := by rw [hi.length]; exact h64
  refine sorted_itup ht hi n64 fun out ms h1 h2 h3 => ?_
  have fit : (ms.map V.int).length ≤ sizeLine := by
    rw [List.length_map, h2.length_eq, sizeLine_eq]
    omega
  obtain ⟨ep, at1⟩ := PyProof.Rows.sortedAll_at s.heap its out
  refine ⟨.ref _, upd H (s.heap.objs.size + 1) (.lst (ms.map V.int)), ?_, rfl, q ms _ h2 h3 (I.hok.fresh (Nat.le_succ _))⟩
  exact I.laid (t' := s.toks) (fun _ _ => PyProof.Rows.sortedAll_old) (Nat.le_succ _) ⟨fit, out.toList, ep, vals_of_ints h1, at1⟩
end K0
set_option Elab.async false
set_option linter.all false
set_option maxRecDepth 100000
set_option maxHeartbeats 4000000
set_option Elab.async false
set_option linter.all false
set_option maxRecDepth 100000
set_option maxHeartbeats 4000000
namespace K0
open PySem PySem.Spec PyProof.Rows L2
abbrev s_fw : Stmt := top 16
abbrev s_cs : Stmt := top 17
def okAt (n : Int) (sn : List Int) : PyData → Bool
  | .int i => decide (0 ≤ i ∧ i < n ∧ i ∉ sn)
  | _ => false
def toI : PyData → Int
  | .int i => i
  | _ => 0
/-- the first wrong place, behind the things sn -/
def fwG (n : Int) : List PyData → List Int → Option Nat
  | [], _ => none
  | d :: r, sn => if okAt n sn d = true then fwG n r (sn ++ [toI d]) else some sn.length
structure Good (n : Int) (sn : List Int) : Prop where
  nd : sn.Nodup
  rng : ∀ k ∈ sn, 0 ≤ k ∧ k < n
theorem Good.few {n : Int} {sn : List Int} (h : Good n sn) (hn : n ≤ 9) : sn.length ≤ 9 := by
  have := len_sub sn ((List.range 9).map fun (k : Nat) => (k : Int)) h.nd fun k hk => by
    obtain ⟨a, b⟩ := h.rng k hk
    exact List.mem_map.mpr ⟨k.toNat, List.mem_range.mpr (by omega), by omega⟩
  simpa using this
theorem fwG_none {n : Int} : ∀ {ds : List PyData} {sn : List Int}, Good n sn → fwG n ds sn = none → ∃ r, ds = r.map PyData.int ∧ Good n (sn ++ r)
  | [], sn, h, _ => ⟨[], rfl, by rw [List.append_nil]; exact h⟩
  | d :: ds, sn, h, e => by
    rw [fwG] at e
    cases c : okAt n sn d with
    | false => rw [c] at e; cases e
    | true =>
      rw [c, if_pos rfl] at e
      cases d with
      | int i =>
        have z : 0 ≤ i ∧ i < n ∧ i ∉ sn := of_decide_eq_true c
        have g : Good n (sn ++ [i]) := ⟨by
          rw [List.nodup_append]
          refine ⟨h.nd, by simp, fun a ha b hb => ?_⟩
          rw [List.mem_singleton.mp hb]
          exact fun e => z.2.2 (e ▸ ha), fun k hk => by
          rcases List.mem_append.mp hk with hk | hk
          · exact h.rng k hk
          · rw [List.mem_singleton.mp hk]; exact ⟨z.1, z.2.1⟩⟩
        obtain ⟨r, e1, e2⟩ := fwG_none g e
        refine ⟨i :: r, by rw [e1]; rfl, ?_⟩
        rw [List.append_assoc] at e2
        exact e2
      | _ => cases c
section
variable {P : Program} {w : World} {K : PySem.W.Frag} {mg : Str → Option Value} {base : Heap} {f : Addr} {fd : FuncData}
theorem inV_ints (m : Int) : ∀ ns : List Int, inV (.int m) (ns.map V.int) = decide (m ∈ ns)
  | [] => by simp [inV]
  | n :: ns => by
    have ih := inV_ints m ns
    unfold inV at ih ⊢
    rw [List.map_cons, List.any_cons, ih]
    show ((n == m) || _) = _
    by_cases c : n = m
    · subst c
      simp
    · have c2 : ¬ m = n := fun e => c e.symm
      simp [c, c2]
theorem rgV_ints (n : Int) : rgV 0 n = ((List.range n.toNat).map fun (k : Nat) => (k : Int)).map V.int := by
  unfold rgV
  rw [List.map_map]
  have e : n - 0 = n := by omega
  rw [e]
  refine List.map_congr_left fun k _ => ?_
  show V.int (0 + (k : Int)) = V.int (k : Int)
  rw [Int.zero_add]
theorem inV_rg (i n : Int) : inV (.int i) (rgV 0 n) = decide (0 ≤ i ∧ i < n) := by
  rw [rgV_ints, inV_ints]
  refine decide_eq_decide.mpr ⟨fun h => ?_, fun h => ?_⟩
  · obtain ⟨k, hk, e⟩ := List.mem_map.mp h
    have := List.mem_range.mp hk
    omega
  · exact List.mem_map.mpr ⟨i.toNat, List.mem_range.mpr (by omega), by omega⟩
theorem flat_rg (n : Int) : (rgV 0 n).all flatV = true := by
  rw [rgV_ints, List.all_map]
  exact List.all_eq_true.mpr fun k _ => rfl
/-- first_unfit(things, row), the things 0 to n - 1 -/
def spFw (K : PySem.W.Frag) : Sp := fun vs H Q _ => ∃ T n a ds, vs = [.ref T, .ref a] ∧ n ≤ 9 ∧ SqT K H T (rgV 0 n) ∧ (∀ H', Same H H' → SqT K H' T (rgV 0 n)) ∧ Sq K H a ds ∧ (fwG n ds [] = none → Ret .non H Q) ∧ (∀ i, fwG n ds [] = some i → Ret (.int (i : Nat)) H Q)
theorem sc_fw : FnScope ["things", "row", "seen", "place", "thing"] ["things", "row"] (defScope s_fw) := ⟨rfl, rfl, rfl, by decide +kernel, rfl, by decide +kernel, by decide +kernel⟩
theorem ok_fw (F : Fun K "first_unfit" "first_unfit" s_fw f fd) (B : Blt2 mg) (I : Df P w K mg base "is_int" 1 ["value"] spInt) : FnOk P w K mg base (L2.CX P w) 3 f fd ["things", "row"] (spFw K) := by
  refine F.okX sc_fw (fun vs H Q E h => ?_) (fun cdv A outer s H vs Q E hr h => ?_)
  · obtain ⟨T, n, a, ds, rfl, _⟩ := h
    rfl
  · obtain ⟨T, n, a, ds, rfl, hn, hT0, hT, hs, q1, q2⟩ := h
    have nd := sc_fw.nd
    have hr1 : Room 1 _ := hr.mono (by decide)
    refine ⟨_, pss_cons (ps_set (i := 2) nd rfl (.inl rfl) (pe_callTy0 cr_set0 (by rfl) B.set (by decide +kernel)))
      (pss_cons (ps_for (passes_of rfl) rfl (pi_or (pi_enum (by rfl) B.enum (pa_cons (pv 1) pa_nil)) (pi_enumT (by rfl) B.enum (pa_cons (pv 1) pa_nil))) (pg_tup rfl (pgs_cons (pg_name (i := 3) nd rfl (.inl rfl)) (pgs_cons (pg_name (i := 4) nd rfl (.inl rfl)) pgs_nil)))
        (pss_cons (ps_if (PW.pt (pw_or (pt_not (pt_val (pe_df I hr1 (by rfl) passUp (pa_cons (pv 4) pa_nil)))) (pw_or (pt_cmpR op_notIn_seq (pv 4) (pv 0) (by rfl)) (pw_or1 (pt_cmpR or_sin (pv 4) (pv 2) (by rfl))))))
            (pss_one (ps_ret (pv 3))) pss_nil)
        (pss_one (ps_expr (pe_sadd (pv 2) (pa_cons (pv 4) pa_nil))))))
      (pss_one (ps_ret pe_non))), ?_⟩
    refine ⟨rfl, fun s0 ns => ?_⟩
    let Pv : Nat → L2.St → Hp → Prop := fun i σ H' => ∃ o3 o4 sn S, σ = [some (.ref T), some (.ref a), some (.ref s0), o3, o4] ∧ Same H H' ∧ fwG n ds [] = fwG n (ds.drop i) sn ∧ sn.length = i ∧ Good n sn ∧ H' s0 = some (SetO w s0 S sn.length) ∧ ∀ k, S k = decide (k ∈ sn)
    have h0 : Pv 0 [some (.ref T), some (.ref a), some (.ref s0), none, none] (upd H s0 (SetO w s0 (fun _ => false) 0)) := ⟨none, none, [], _, rfl, same_upd ns, rfl, rfl, ⟨List.nodup_nil, fun k hk => by cases hk⟩, upd_same, fun k => by simp⟩
    refine tfor_en rfl hs Pv h0 (fun j σ H' p o e => ?_) (fun j v d σ H' T' hj hv p nT => ?_) (fun σ H' p => ?_)
    · obtain ⟨_, _, _, _, _, sm, _⟩ := p
      exact sm _ _ e
    · obtain ⟨o3, o4, sn, S, rfl, sm, ef, el, g, hS, eS⟩ := p
      have s1 : Same H' (upd H' T' (.tup [.int (j : Nat), v])) := same_upd nT
      have few := g.few hn
      have ed : ds.drop j = d :: ds.drop (j + 1) := by
        obtain ⟨hi, e⟩ := List.getElem?_eq_some_iff.mp hj
        rw [← e]
        exact List.drop_eq_getElem_cons hi
      rw [ed, fwG] at ef
      have hv1 := hv.mono (sm.trans s1)
      refine ⟨T', _, rfl, SqT.of upd_same, rfl, _, _, rfl, _, _, rfl, rfl, ?_⟩
      refine ⟨_, rfl, v, d, rfl, hv1, _, rfl, ?_⟩
      have no : ∀ (x : PyData), okAt n sn x = false → ∀ H3 : Hp, Same H' H3 → d = x → Q (.int (j : Nat)) H3 := fun x ex H3 s3 e => q2 j (by rw [ef, e, ex, if_neg (by simp), el]) _ (sm.trans s3)
      cases hv1 with
      | int i =>
        refine iteF ⟨_, rfl, _, rfl, T, _, rfl, .inr (hT _ (sm.trans s1)), rfl, flat_rg n, ?_⟩
        rw [inV_rg]
        by_cases c : 0 ≤ i ∧ i < n
        · rw [decide_eq_true c]
          refine ⟨_, rfl, iteF ⟨_, rfl, _, rfl, i, s0, S, _, rfl, rfl, s1 _ _ hS, _, rfl, ?_⟩⟩
          rw [eS]
          by_cases m : i ∈ sn
          · rw [decide_eq_true m]
            exact iteT ⟨_, rfl, no (.int i) (decide_eq_false fun y => y.2.2 m) _ s1 rfl⟩
          · rw [decide_eq_false m]
            have yes : okAt n sn (.int i) = true := decide_eq_true ⟨c.1, c.2, m⟩
            refine iteF ⟨_, rfl, ⟨s0, S, _, rfl, s1 _ _ hS⟩, _, rfl, s0, i, S, _, rfl, rfl, s1 _ _ hS, (by have : (10 : Nat) < scanBound := (by decide); omega), ?_⟩
            have e0 : S i = false := by rw [eS]; exact decide_eq_false m
            rw [e0, if_neg (by simp)]
            refine ⟨_, _, sn ++ [i], (fun j => S j || decide (j = i)), rfl, fun b o e => ?_, ?_, by rw [List.length_append, el]; rfl, ⟨?_, ?_⟩, ?_, fun k => ?_⟩
            · rw [upd_ne (ne_of_none e ns)]
              exact (sm.trans s1) b o e
            · rw [ef, yes, if_pos rfl]
              rfl
            · rw [List.nodup_append]
              refine ⟨g.nd, by simp, fun a ha b hb => ?_⟩
              rw [List.mem_singleton.mp hb]
              exact fun e => m (e ▸ ha)
            · intro k hk
              rcases List.mem_append.mp hk with hk | hk
              · exact g.rng k hk
              · rw [List.mem_singleton.mp hk]; exact c
            · rw [upd_same, List.length_append]
              rfl
            · show (S k || decide (k = i)) = _
              rw [eS]
              by_cases c1 : k ∈ sn
              · simp [c1]
              · by_cases c2 : k = i
                · simp [c2]
                · simp [c1, c2]
        · rw [decide_eq_false c]
          exact ⟨_, rfl, iteT ⟨_, rfl, no (.int i) (decide_eq_false fun y => c ⟨y.1, y.2.1⟩) _ s1 rfl⟩⟩
      | non => exact iteT ⟨_, rfl, no _ rfl _ s1 rfl⟩
      | bl b => exact iteT ⟨_, rfl, no _ rfl _ s1 rfl⟩
      | str b => exact iteT ⟨_, rfl, no _ rfl _ s1 rfl⟩
      | lst e h => exact iteT ⟨_, rfl, no _ rfl _ s1 rfl⟩
      | tup e h => exact iteT ⟨_, rfl, no _ rfl _ s1 rfl⟩
    · obtain ⟨o3, o4, sn, S, rfl, sm, ef, el, g, hS, eS⟩ := p
      rw [List.drop_length] at ef
      exact q1 ef _ sm
theorem cr_or {X : Cx} {f : Value} {r1 r2 : List V → Hp → VK → Prop} (h1 : CallR X f r1) (h2 : CallR X f r2) : CallR X f fun vs H Q => r1 vs H Q ∨ r2 vs H Q :=
  fun pins s σ H vs us Q I r h => h.elim (h1 pins s σ H vs us Q I r) (h2 pins s σ H vs us Q I r)
/-- tuple(list), the object known -/
theorem cr_tupF {X : Cx} : CallR X (.type "tuple") (fun xs H Q => ∃ p ys, xs = [.ref p] ∧ SqL X.K H p ys ∧ ∀ l o, H l = none → o.dict = none → Q (.ref l) (upd H l (.frz o (.tup ys)))) := by
  intro pins s σ H xs us Q I r h
  obtain ⟨p, ys, rfl, hq, q⟩ := h
  obtain ⟨u, rfl, rx⟩ := vals1 r
  cases rx
  obtain ⟨its, r', pl, hz⟩ := I.list hq
  have hlen := r'.length
  refine call_tuple_list pl.isList (fun h' kp => ?_) (by simp only [List.size_toArray] <;> omega)
  have I1 : Inv X pins σ H { s with heap := h' } := I.kept (t' := s.toks) kp
  have g := Heap.get?_push_size h' (o := { cls := .type "tuple", data := .seq its.toArray }) rfl
  have I2 : Inv X pins σ (upd H h'.objs.size (.frz { cls := .type "tuple", data := .seq its.toArray } (.tup ys))) { s with heap := h'.push { cls := .type "tuple", data := .seq its.toArray } } :=
    I1.laid (t' := s.toks) (fun b o e => Heap.get?_push_of_some _ e) (Nat.le_refl _) (show ObjOk X.prog X.w _ _ _ (.frz _ (.tup ys)) from ⟨g, hz, its, r', IsTup.new _ _⟩)
  exact ⟨.ref h'.objs.size, _, I2, rfl, q _ _ (I1.hok.fresh (Nat.le_refl _)) rfl⟩
/-- a tuple of whole numbers, its object known -/
def TupF (H : Hp) (t : Addr) (ns : List Int) : Prop := ∃ o, H t = some (.frz o (.tup (ns.map V.int))) ∧ o.dict = none
theorem TupF.mono {H H' : Hp} (s : Same H H') {t : Addr} {ns : List Int} : TupF H t ns → TupF H' t ns := fun ⟨o, h, d⟩ => ⟨o, s _ _ h, d⟩
theorem TupF.sq {K : PySem.W.Frag} {H : Hp} {t : Addr} {ns : List Int} : TupF H t ns → SqT K H t (ns.map V.int) := fun ⟨o, h, _⟩ => .inl (.inr ⟨o, h⟩)
/-- check_things on a list or a tuple that is right, or on anything wrong -/
def spCs (K : PySem.W.Frag) (C : Addr) : Sp := fun vs H Q E => ∃ n a ds, vs = [.int n, .ref a] ∧ 0 ≤ n ∧ n ≤ 9 ∧ Sq K H a ds ∧ (fwG n ds [] = none → (∃ xs, (H a = some (.lst xs) ∨ SqT K H a xs ∧ ∀ H', Same H H' → SqT K H' a xs) ∧ DtAll H xs ds) ∧ ∀ H' t (ns : List Int), Same H H' → H t = none → TupF H' t ns → ns.Pairwise (· < ·) → (∀ k, k ∈ ns ↔ PyData.int k ∈ ds) → Q (.ref t) H') ∧
  (∀ i, fwG n ds [] = some i → Rz C [("place", .int (i : Nat))] H E)
theorem sc_cs : FnScope ["many", "things", "place"] ["many", "things"] (defScope s_cs) := ⟨rfl, rfl, rfl, by decide +kernel, rfl, by decide +kernel, by decide +kernel⟩
theorem srt_lt {l : List Int} (h : l.Pairwise (· ≤ ·)) (nd : l.Nodup) : l.Pairwise (· < ·) := by
  refine List.Pairwise.imp₂ (fun a b h1 h2 => ?_) h nd
  omega
theorem ok_cs {C : Addr} (F : Fun K "check_things" "check_things" s_cs f fd) (B : Blt2 mg) (FW : Df P w K mg base "first_unfit" 3 ["things", "row"] (spFw K))
    (T : Er P w K mg base "BadPart" C ["place"] ["self", "place"] (spE1 C "place")) : FnOk P w K mg base (L2.CX P w) 4 f fd ["many", "things"] (spCs K C) := by
  refine F.okX sc_cs (fun vs H Q E h => ?_) (fun cdv A outer s H vs Q E hr h => ?_)
  · obtain ⟨n, a, ds, rfl, _⟩ := h
    rfl
  · obtain ⟨n, a, ds, rfl, hn0, hn, hs, q1, q2⟩ := h
    have nd := sc_cs.nd
    have hr2 : Room 2 _ := hr.mono (by decide)
    refine ⟨_, pss_cons (ps_set (i := 2) nd rfl (.inl rfl) (pe_df FW hr (by rfl) passUp (pa_cons (pe_tupRg rfl (by rfl) B.tuple (prg_1 (by rfl) B.range (pv 0))) (pa_cons (pv 1) pa_nil))))
      (pss_cons (ps_if (pt_cmpR op_notN (pv 2) pe_non (nomark _)) (pss_one (ps_rz1 rfl (takes_of rfl rfl rfl rfl) T hr2 (by rfl) (pv 2) (mono_var 2))) pss_nil)
      (pss_one (ps_ret (pe_callTy cr_tupF (by rfl) B.tuple (by decide +kernel) (pa_cons (pe_callB (cr_or cr_sorted cr_sorted_itup) (by rfl) B.sorted (by decide +kernel) (pa_cons (pv 1) pa_nil)) pa_nil))))), ?_⟩
    refine ⟨_, rfl, _, rfl, RgOk.of_le (by decide) (by omega) (by decide) hn0, fun p0 np0 => ?_⟩
    have s0 : Same H (upd H p0 (.tup (rgV 0 n))) := same_upd np0
    refine ⟨_, rfl, p0, n, a, ds, rfl, hn, SqT.of upd_same, fun H' s' => SqT.of (s' _ _ upd_same), hs.mono s0, fun e H1 s01 => ?_, fun i e H1 s01 => ?_⟩
    · have s1 := s0.trans s01
      refine ⟨_, rfl, rfl, _, rfl, iteF ?_⟩
      obtain ⟨⟨xs, hx, hd⟩, q⟩ := q1 e
      obtain ⟨r, er, g⟩ := fwG_none (sn := []) ⟨List.nodup_nil, fun k hk => by cases hk⟩ e
      rw [List.nil_append] at g
      have few := g.few hn
      have hxs : xs = r.map V.int := by
        rw [er] at hd
        clear er few g q q1 q2 hx e
        induction r generalizing xs with
        | nil => cases hd; rfl
        | cons k r ih =>
          cases hd with
          | cons h1 h2 =>
            cases h1
            rw [ih _ h2]
            rfl
      have last : ∀ (ns : List Int) (p : Addr), ns.Perm r → ns.Pairwise (· ≤ ·) → H1 p = none → ∃ p' ys, ([V.ref p] : List V) = [.ref p'] ∧ SqL K (upd H1 p (.lst (ns.map V.int))) p' ys ∧ ∀ l o, (upd H1 p (.lst (ns.map V.int))) l = none → o.dict = none → Q (.ref l) (upd (upd H1 p (.lst (ns.map V.int))) l (.frz o (.tup ys))) := fun ns p pm srt np => by
        refine ⟨p, _, rfl, SqL.of upd_same, fun t o nt od => ?_⟩
        have s2 : Same H1 (upd H1 p (.lst (ns.map V.int))) := same_upd np
        refine q _ t ns (s1.trans (s2.trans (same_upd nt))) ((s1.trans s2).free nt) ⟨o, upd_same, od⟩ (srt_lt srt (pm.nodup_iff.mpr g.nd)) fun k => ?_
        rw [pm.mem_iff, er]
        simp
      rcases hx with hx | hx
      · refine ⟨_, rfl, .inl ⟨a, r, rfl, SqL.of (by rw [← hxs]; exact s1 _ _ hx), by omega, fun ns p pm srt np => ?_⟩⟩
        exact last ns p pm srt np
      · refine ⟨_, rfl, .inr ⟨a, r, rfl, (by rw [← hxs]; exact hx.2 _ s1), by omega, fun ns p pm srt np => ?_⟩⟩
        exact last ns p pm srt np
    · exact ⟨_, rfl, rfl, _, rfl, iteT ⟨_, rfl, fun dd nd' => (q2 i e).at (s0.trans s01) nd'⟩⟩
end
end K0
set_option Elab.async false
set_option linter.all false
set_option maxRecDepth 100000
set_option maxHeartbeats 4000000
set_option Elab.async false
set_option linter.all false
set_option maxRecDepth 100000
set_option maxHeartbeats 4000000
namespace K0
open PySem PySem.Spec PyProof.Rows L2
section
variable {P : Program} {w : World} {K : PySem.W.Frag} {mg : Str → Option Value} {base : Heap} {f : Addr} {fd : FuncData}
abbrev s_co : Stmt := top 50
end
end K0
set_option Elab.async false
set_option linter.all false
set_option maxRecDepth 100000
set_option maxHeartbeats 4000000
namespace K0
open PySem PySem.Spec PyProof.Rows L2
section
variable {P : Program} {w : World} {K : PySem.W.Frag} {mg : Str → Option Value} {base : Heap} {f : Addr} {fd : FuncData}
/-- _law_contrary -/
def spCo : Sp := fun vs H Q _ => ∃ (b : Addr) (n : Int) (q : List Pr), vs = [.int n, .ref b] ∧ 0 ≤ n ∧ n ≤ 16 ∧ Ls H b q ∧ ∀ H' a rs, Same H H' → H a = none → Grow H' a rs → Lx n (fun z => z ∉ q) n (n + 1) rs → Q (.ref a) H'
theorem sc_co : FnScope ["_law_many", "_law_pairs", "_law_rest", "_law_x", "_law_y"] ["_law_many", "_law_pairs"] (defScope s_co) := ⟨rfl, rfl, rfl, by decide +kernel, rfl, by decide +kernel, by decide +kernel⟩
theorem ok_co (F : Fun K "_law_contrary" "_law_contrary" s_co f fd) (B : Blt2 mg) : FnOk P w K mg base (L2.CX P w) 1 f fd ["_law_many", "_law_pairs"] spCo := by
  refine F.okX sc_co (fun vs H Q E h => ?_) (fun cdv A outer s H vs Q E hr h => ?_)
  · obtain ⟨b, n, q, rfl, _⟩ := h
    rfl
  · obtain ⟨b, n, q, rfl, n0, n8, hl, k⟩ := h
    have nd := sc_co.nd
    have hu : (A.deeper (envOfC "_law_contrary" (defScope s_co) s.heap.objs.size f cdv)).units + 65 < cLine := by have := hr.un; omega
    refine ⟨_, pss_cons (ps_set (i := 2) nd rfl (.inl rfl) (pe_lst pa_nil))
      (pss_cons (ps_for (passes_of rfl) rfl (pi_range1 (by rfl) B.range (pa_cons (pv 0) pa_nil)) (pg_name (i := 3) nd rfl (.inl rfl))
        (pss_one (ps_for (passes_of rfl) rfl (pi_range2 (by rfl) B.range (pa_cons (pe_op op_add (pv 3) pe_int) (pa_cons (pv 0) pa_nil))) (pg_name (i := 4) nd rfl (.inl rfl))
          (pss_one (ps_if (pt_cmpR (op_notInD hu) (pe_tup (pa_cons (pv 3) (pa_cons (pv 4) pa_nil))) (pv 1) (by rfl)) (pss_one (ps_expr (pe_lapp (pv 2) (pa_cons (pe_tup (pa_cons (pv 3) (pa_cons (pv 4) pa_nil))) pa_nil)))) pss_nil)))))
      (pss_one (ps_ret (pv 2)))), ?_⟩
    refine ⟨by show 0 ≤ sizeLine; exact Nat.zero_le _, fun D nD => ?_⟩
    let P1 : Nat → L2.St → Hp → Prop := fun i σ H' => ∃ o3 o4 rs, σ = [some (.int n), some (.ref b), some (.ref D), o3, o4] ∧ Same H H' ∧ Grow H' D rs ∧ Lx n (fun z => z ∉ q) i (i + 1) rs
    refine ⟨_, rfl, n, rfl, by omega, by omega, for_range (n := n.toNat) P1 ⟨none, none, [], rfl, same_upd nD, ⟨[], upd_same, rfl, fun z hz => by cases hz⟩, by simpa using Lx.start⟩ (fun i σ H' hi h => ?_) (fun σ H' h => ?_)⟩
    · obtain ⟨o3, o4, rs, rfl, sm, g, lx⟩ := h
      rw [Int.zero_add]
      let P2 : Nat → L2.St → Hp → Prop := fun t σ H' => ∃ o4 rs, σ = [some (.int n), some (.ref b), some (.ref D), some (.int (i : Int)), o4] ∧ Same H H' ∧ Grow H' D rs ∧ Lx n (fun z => z ∉ q) i ((i : Int) + 1 + t) rs
      refine ⟨_, rfl, _, _, rfl, rfl, _, rfl, _, _, rfl, ⟨by omega, by omega, by omega, by omega⟩, for_range (n := (n - ((i : Int) + 1)).toNat) P2 ⟨o4, rs, rfl, sm, g, by simpa using lx⟩ (fun t σ H2 ht h => ?_) (fun σ H2 h => ?_)⟩
      · obtain ⟨o4, rs, rfl, sm, g, lx⟩ := h
        refine ⟨_, rfl, _, rfl, (by show 2 ≤ sizeLine; decide), fun u nu => ?_⟩
        have s2 : Same H2 (upd H2 u (.tup [.int (i : Int), .int ((i : Int) + 1 + t)])) := same_upd nu
        refine ⟨_, rfl, prD ((i : Int), (i : Int) + 1 + t), _, (dt_pr (p := ((i : Int), (i : Int) + 1 + t)) upd_same).dp, (hl.mono (sm.trans s2)).dp, prD_shaped _, prsL_shaped _, _, rfl, ?_⟩
        rw [prs_any]
        have g2 := g.mono s2
        have r : 0 ≤ (i : Int) ∧ (i : Int) < (i : Int) + 1 + t ∧ (i : Int) + 1 + t < n := by omega
        by_cases m : (((i : Int), (i : Int) + 1 + t) : Pr) ∈ q
        · rw [decide_eq_true m]
          refine iteF ⟨_, rs, rfl, sm.trans s2, g2, ?_⟩
          have := lx.skip (by exact fun z => z m)
          rw [Int.add_assoc] at this
          exact_mod_cast this
        · rw [decide_eq_false m]
          obtain ⟨xs, hx, lxs, _⟩ := g2.at
          have few := lx.cl.few (by omega)
          refine iteT ⟨_, rfl, .inl ⟨rfl, xs, SqL.of hx⟩, _, rfl, _, rfl, (by show 2 ≤ sizeLine; decide), fun v nv => ?_⟩
          have s3 : Same (upd H2 u (.tup [.int (i : Int), .int ((i : Int) + 1 + t)])) (upd (upd H2 u (.tup [.int (i : Int), .int ((i : Int) + 1 + t)])) v (.tup [.int (i : Int), .int ((i : Int) + 1 + t)])) := same_upd nv
          refine ⟨D, xs, _, rfl, rfl, s3 _ _ hx, by rw [sizeLine_eq]; omega, ?_⟩
          refine ⟨_, rs ++ [((i : Int), (i : Int) + 1 + t)], rfl, same_keep nD ((sm.trans s2).trans s3), g2.push nv hx, ?_⟩
          have := lx.add m r
          rw [Int.add_assoc] at this
          exact_mod_cast this
      · obtain ⟨o4, rs, rfl, sm, g, lx⟩ := h
        rw [show (i : Int) + 1 + ((n - ((i : Int) + 1)).toNat : Int) = n by omega] at lx
        refine ⟨_, _, rs, rfl, sm, g, ?_⟩
        have := lx.row
        rw [show (i : Int) + 2 = (i : Int) + 1 + 1 by omega] at this
        exact_mod_cast this
    · obtain ⟨o3, o4, rs, rfl, sm, g, lx⟩ := h
      rw [show ((n.toNat : Nat) : Int) = n by omega] at lx
      exact ⟨_, rfl, k H' D rs sm nD g lx⟩
end
end K0
set_option Elab.async false
set_option linter.all false
set_option maxRecDepth 100000
set_option maxHeartbeats 4000000
set_option Elab.async false
set_option linter.all false
set_option maxRecDepth 100000
set_option maxHeartbeats 4000000
namespace K0
open PySem PySem.Spec PyProof.Rows L2
/-! ### rows of things -/
abbrev IL (H : Hp) (a : Addr) (r : List Int) : Prop := H a = some (.lst (r.map V.int))
theorem perm_pick (r : List Int) {w : Nat} (hw : w < r.length) : (r.getD w 0 :: ((List.range r.length).filter fun k => !decide (k = w)).map fun k => r.getD k 0).Perm r := by
  have h1 : (w :: (List.range r.length).filter fun k => !decide (k = w)).Perm (List.range r.length) := by
    refine (List.perm_ext_iff_of_nodup ?_ List.nodup_range).mpr fun x => ?_
    · refine List.nodup_cons.mpr ⟨fun h => ?_, List.nodup_range.filter _⟩
      have := (List.mem_filter.mp h).2
      simp at this
    · simp only [List.mem_cons, List.mem_filter, List.mem_range, Bool.not_eq_true', decide_eq_false_iff_not]
      constructor
      · rintro (rfl | ⟨h, _⟩)
        · exact hw
        · exact h
      · intro h
        by_cases e : x = w
        · exact .inl e
        · exact .inr ⟨h, e⟩
  have h2 := h1.map fun k => r.getD k 0
  have e : (List.range r.length).map (fun k => r.getD k 0) = r := by
    refine List.ext_getElem (by rw [List.length_map, List.length_range]) fun i h1 h2 => ?_
    rw [List.getElem_map, List.getElem_range, List.getD_eq_getElem?_getD, List.getElem?_eq_getElem h2]
    rfl
  rw [e] at h2
  exact h2
theorem perm_put {α : Type} (l : List α) (x : α) (p : Nat) : (l.take p ++ [x] ++ l.drop p).Perm (x :: l) := by
  have h : (l.take p ++ [x] ++ l.drop p).Perm (x :: (l.take p ++ l.drop p)) := by
    rw [List.append_assoc]
    exact List.perm_middle
  rwa [List.take_append_drop] at h
section
variable {P : Program} {w : World} {K : PySem.W.Frag} {mg : Str → Option Value} {base : Heap} {f : Addr} {fd : FuncData}
abbrev s_mv : Stmt := top 52
abbrev s_rr' : Stmt := top 55
/-- _law_moved -/
def spMv : Sp := fun vs H Q _ => ∃ (a : Addr) (r : List Int) (w p : Nat), vs = [.ref a, .int (w : Int), .int (p : Int)] ∧ IL H a r ∧ w < r.length ∧ p < r.length ∧ r.length ≤ 1000 ∧ ∀ H' b r', Same H H' → H b = none → IL H' b r' → r'.Perm r → Q (.ref b) H'
theorem sc_mv : FnScope ["_law_row_here", "_law_which", "_law_place", "_law_rest", "_law_k"] ["_law_row_here", "_law_which", "_law_place"] (defScope s_mv) := ⟨rfl, rfl, rfl, by decide +kernel, rfl, by decide +kernel, by decide +kernel⟩
theorem ok_mv (F : Fun K "_law_moved" "_law_moved" s_mv f fd) (B : Blt2 mg) : FnOk P w K mg base (L2.CX P w) 1 f fd ["_law_row_here", "_law_which", "_law_place"] spMv := by
  refine F.okX sc_mv (fun vs H Q E h => ?_) (fun cdv A outer s H vs Q E hr h => ?_)
  · obtain ⟨a, r, w, p, rfl, _⟩ := h
    rfl
  · obtain ⟨a, r, wh, p, rfl, ha, hw, hp, l1000, k⟩ := h
    have nd := sc_mv.nd
    refine ⟨_, pss_cons (ps_setLc (i := 3) (own := [("_law_k", 4)]) (g := gName 4) (tt := tTest (tOp rNe (tVar 4) (tVar 1))) (te := tOp (rIxL K) (tVar 0) (tVar 4)) rfl nd rfl (by rfl) (by rfl)
        (pi_range1 (by rfl) B.range (pa_cons (pe_callB c_len (by rfl) B.len PySem.boot_len (pa_cons (pv 0) pa_nil)) pa_nil)) (blkOk_by (N := ["_law_row_here", "_law_which", "_law_place", "_law_rest", "_law_k"]) (sc := defScope s_mv) (by decide +kernel)) (fun _ _ _ _ _ => pg_name (i := 4) nd rfl (.inl rfl))
        (fun _ _ _ _ _ => pts_one (pt_cmpR op_ne (pv 4) (pv 1) (by rfl))) (fun _ _ _ _ _ => pe_ix ix_list (pv 0) (pv 4) (fun _ _ => rfl)))
      (pss_one (ps_ret (pe_op op_cat (pe_op op_cat (pe_slice sl_list (pv 3) po_none (po_some (pv 2))) (pe_lst (pa_cons (pe_ix ix_list (pv 0) (pv 1) (fun _ _ => rfl)) pa_nil))) (pe_slice sl_list (pv 3) (po_some (pv 2)) po_none)))), ?_⟩
    have at_ : ∀ {i : Nat}, i < r.length → atI (r.map V.int) (i : Int) = some (.int (r.getD i 0)) := fun {i} hi => atI_nat (by rw [List.getElem?_map, List.getD_eq_getElem?_getD, List.getElem?_eq_getElem hi]; rfl)
    let W : Nat → List Int := fun i => (((List.range r.length).take i).filter fun k => !decide (k = wh)).map fun k => r.getD k 0
    refine ⟨_, rfl, a, _, rfl, .inl (SqL.of ha), _, rfl, by rw [List.length_map]; omega, by rw [List.length_map]; omega, fun D nD => ?_⟩
    rw [List.length_map, Int.toNat_natCast]
    refine lc_range (lo := 0) (n := r.length) (fun i H' => Same H H' ∧ IL H' D (W i)) ⟨same_upd nD, upd_same⟩ (fun i H' hi z => ?_) (fun H' z => ?_)
    · obtain ⟨sm, hD⟩ := z
      rw [Int.zero_add]
      have eW : W (i + 1) = W i ++ (if i = wh then [] else [r.getD i 0]) := by
        show List.map _ _ = _
        rw [filter_take _ _ hi, List.map_append]
        congr 1
        by_cases e : i = wh <;> simp [e]
      have lW : (W i).length ≤ r.length := by
        show (List.map _ _).length ≤ _
        rw [List.length_map]
        refine Nat.le_trans (List.length_filter_le _ _) ?_
        rw [List.length_take, List.length_range]
        exact Nat.min_le_right _ _
      refine ⟨rfl, _, rfl, _, rfl, rfl, _, rfl, ?_⟩
      rw [dec_int]
      by_cases e : i = wh
      · rw [show (!(((i : Nat) : Int) == ((wh : Nat) : Int))) = false by simp [e]]
        refine iteF ⟨sm, ?_⟩
        rw [eW, if_pos e, List.append_nil]
        exact hD
      · rw [show (!(((i : Nat) : Int) == ((wh : Nat) : Int))) = true by simp; omega]
        refine iteT ⟨_, rfl, _, rfl, a, _, _, _, rfl, rfl, SqL.of (sm _ _ ha), at_ hi, _, hD, by rw [List.length_map, sizeLine_eq]; omega, same_keep nD sm, ?_⟩
        show (upd _ _ _) _ = _
        rw [upd_same, eW, if_neg e, List.map_append]
        rfl
    · obtain ⟨sm, hD⟩ := z
      let R := W r.length
      have eR : R = ((List.range r.length).filter fun k => !decide (k = wh)).map fun k => r.getD k 0 := by
        show List.map _ _ = _
        rw [List.take_of_length_le (by rw [List.length_range]; exact Nat.le_refl _)]
      have pk := perm_pick r hw
      rw [← eR] at pk
      have lR : R.length + 1 = r.length := by
        have := pk.length_eq
        rw [List.length_cons] at this
        exact this
      have hD : H' D = some (.lst (R.map V.int)) := hD
      refine ⟨_, rfl, _, rfl, _, rfl, D, _, rfl, SqL.of hD, fun c1 n1 => ?_⟩
      have s1 := same_upd (o := .lst (cutV (R.map V.int) none (some (p : Int)))) n1
      rw [cut_take] at s1 ⊢
      refine ⟨_, rfl, _, rfl, a, _, _, _, rfl, rfl, SqL.of ((sm.trans s1) _ _ ha), at_ hw, by show 1 ≤ sizeLine; decide, fun c2 n2 => ?_⟩
      have s2 := same_upd (o := .lst [.int (r.getD wh 0)]) n2
      refine ⟨c1, c2, _, _, rfl, rfl, s2 _ _ upd_same, upd_same, ?_, fun c3 n3 => ?_⟩
      · rw [List.length_take, List.length_map, sizeLine_eq]
        show _ + 1 ≤ _
        omega
      have s3 := same_upd (o := .lst ((R.map V.int).take p ++ [.int (r.getD wh 0)])) n3
      refine ⟨_, rfl, _, rfl, _, rfl, D, _, rfl, SqL.of ((s1.trans (s2.trans s3)) _ _ hD), fun c4 n4 => ?_⟩
      have s4 := same_upd (o := .lst (cutV (R.map V.int) (some (p : Int)) none)) n4
      rw [cut_drop _ _ (by rw [List.length_map]; omega)] at s4 ⊢
      refine ⟨c3, c4, _, _, rfl, rfl, s4 _ _ upd_same, upd_same, ?_, fun c5 n5 => ?_⟩
      · rw [List.length_append, List.length_take, List.length_drop, List.length_map, sizeLine_eq]
        show _ + 1 + _ ≤ _
        omega
      · refine k _ c5 (R.take p ++ [r.getD wh 0] ++ R.drop p) ((sm.trans (s1.trans (s2.trans (s3.trans s4)))).trans (same_upd n5)) ((sm.trans (s1.trans (s2.trans (s3.trans s4)))).free n5) ?_ ((perm_put R _ p).trans pk)
        show (upd _ _ _) _ = _
        rw [upd_same, List.map_append, List.map_append, List.map_take, List.map_drop]
        rfl
end
end K0
set_option Elab.async false
set_option linter.all false
set_option maxRecDepth 100000
set_option maxHeartbeats 4000000
namespace K0
open PySem PySem.Spec PyProof.Rows L2
def ran (n : Nat) : List Int := (List.range n).map fun (k : Nat) => (k : Int)
theorem ran_len (n : Nat) : (ran n).length = n := by unfold ran; rw [List.length_map, List.length_range]
theorem lnP_cl {n : Int} {k : Nat} (h : (k : Int) < n) : Cl n (lnP k) := by
  refine ⟨List.pairwise_map.mpr (List.Pairwise.imp (fun {a b} h => ?_) List.pairwise_lt_range), fun p hp => ?_⟩
  · exact .inl (by omega)
  · obtain ⟨x, hx, rfl⟩ := List.mem_map.mp hp
    have := List.mem_range.mp hx
    dsimp only
    omega
section
variable {P : Program} {w : World} {K : PySem.W.Frag} {mg : Str → Option Value} {base : Heap} {f : Addr} {fd : FuncData}
/-- _law_ring, of any size -/
def spRg : Sp := fun vs H Q _ => ∃ (n : Int), vs = [.int n] ∧ 3 ≤ n ∧ n ≤ 16 ∧ ∀ H' D rs, Same H H' → H D = none → Ls H' D rs → Cl n rs → (∀ z, z ∈ rs ↔ z ∈ lnP (n - 1).toNat ++ [((0 : Int), n - 1)]) → Q (.ref D) H'
theorem ok_rgN (F : Fun K "_law_ring" "_law_ring" s_rg f fd) (B : Blt2 mg) : FnOk P w K mg base (L2.CX P w) 1 f fd ["_law_many"] spRg := by
  refine F.okX sc_rg (fun vs H Q E h => ?_) (fun cdv A outer s H vs Q E hr h => ?_)
  · obtain ⟨n, rfl, _⟩ := h
    rfl
  · obtain ⟨n, rfl, n3, n16, k⟩ := h
    have nd := sc_rg.nd
    refine ⟨_, pss_cons (ps_setLc (i := 1) (own := [("_law_x", 2)]) (g := gName 2) (tt := tYes) (te := tTup (tCons (tVar 2) (tCons (tOp (rI0 fun i j => .int (i + j)) (tVar 2) (tC (.int 1))) tNil))) rfl nd rfl (by rfl) (by rfl)
      (pi_range1 (by rfl) B.range (pa_cons (pe_op op_sub (pv 0) pe_int) pa_nil)) (blkOk_by (N := ["_law_many", "_law_pairs", "_law_x"]) (sc := defScope s_rg) (by decide +kernel)) (fun _ _ _ _ _ => pg_name (i := 2) nd rfl (.inl rfl)) (fun _ _ _ _ _ => pts_nil)
      (fun _ _ _ _ _ => pe_tup (pa_cons (pv 2) (pa_cons (pe_op op_add (pv 2) pe_int) pa_nil))))
      (pss_cons (ps_expr (pe_lapp (pv 1) (pa_cons (pe_tup (pa_cons pe_int (pa_cons (pe_op op_sub (pv 0) pe_int) pa_nil))) pa_nil)))
      (pss_one (ps_ret (pe_callB cr_srtP (by rfl) B.sorted (by decide +kernel) (pa_cons (pv 1) pa_nil))))), ?_⟩
    refine ⟨_, rfl, _, _, rfl, rfl, n - 1, rfl, by omega, by omega, fun D nD => ?_⟩
    refine lc_range (lo := 0) (n := (n - 1).toNat) (fun i H' => Same H H' ∧ Grow H' D (lnP i)) ⟨same_upd nD, [], upd_same, rfl, fun z hz => by cases hz⟩ (fun i H' hi ⟨sm, g⟩ => ?_) (fun H' ⟨sm, g⟩ => ?_)
    · refine ⟨rfl, ?_⟩
      rw [Int.zero_add]
      exact ⟨_, rfl, _, rfl, _, _, rfl, rfl, (by show 2 ≤ sizeLine; decide), fun u nu => line_step nD sm g (by omega) nu⟩
    · obtain ⟨as, hA, lA, _⟩ := g.at
      refine ⟨_, rfl, .inl ⟨rfl, as, SqL.of hA⟩, _, rfl, _, _, rfl, rfl, (by show 2 ≤ sizeLine; decide), fun u nu => ?_⟩
      have s8 : Same H' (upd H' u (.tup [.int 0, .int (n - 1)])) := same_upd nu
      refine ⟨D, as, _, rfl, rfl, s8 _ _ hA, (by rw [lA, lnP_len, sizeLine_eq]; omega), ?_⟩
      have g2 := g.push (x := 0) (y := n - 1) nu hA
      have s9 : Same H (upd (upd H' u (.tup [.int 0, .int (n - 1)])) D (.lst (as ++ [.ref u]))) := same_keep nD (sm.trans s8)
      have cl0 : Cl n (lnP (n - 1).toNat) := lnP_cl (by omega)
      have no : ((0 : Int), n - 1) ∉ lnP (n - 1).toNat := fun h => by
        obtain ⟨x, _, e⟩ := List.mem_map.mp h
        obtain ⟨e1, e2⟩ := Prod.ext_iff.mp e
        dsimp only at e1 e2
        omega
      have ndp : (lnP (n - 1).toNat ++ [((0 : Int), n - 1)]).Nodup := List.nodup_append.mpr ⟨pairwise_nodup cl0.srt, by simp, fun a ha b hb e => by
        rw [List.mem_singleton.mp hb] at e
        rw [e] at ha
        exact no ha⟩
      refine ⟨_, rfl, D, _, rfl, g2.ls, ndp, fun H2 p rs s2 np hl pw hm _ => ?_⟩
      refine k H2 p rs (s9.trans s2) (s9.free np) hl ⟨pw, fun z hz => ?_⟩ hm
      rcases List.mem_append.mp ((hm z).mp hz) with h | h
      · exact cl0.rng z h
      · rw [List.mem_singleton.mp h]
        dsimp only
        omega
/-- _law_ring_row -/
def spRrw : Sp := fun vs H Q _ => ∃ (n : Int), vs = [.int n] ∧ 4 ≤ n ∧ n ≤ 7 ∧ ∀ H' D r, Same H H' → H D = none → IL H' D r → r.Perm (ran n.toNat) → Q (.ref D) H'
theorem sc_rr' : FnScope ["_law_many", "_law_x"] ["_law_many"] (defScope s_rr') := ⟨rfl, rfl, rfl, by decide +kernel, rfl, by decide +kernel, by decide +kernel⟩
def stepL (lo : Int) (m : Nat) : List Int := (List.range m).map fun (k : Nat) => lo + (k : Int) * 2
theorem stepL_succ (lo : Int) (m : Nat) : stepL lo (m + 1) = stepL lo m ++ [lo + (m : Int) * 2] := by
  unfold stepL
  rw [List.range_succ, List.map_append]
  rfl
theorem stepL_len (lo : Int) (m : Nat) : (stepL lo m).length = m := by unfold stepL; rw [List.length_map, List.length_range]
theorem ok_rrw (F : Fun K "_law_ring_row" "_law_ring_row" s_rr' f fd) (B : Blt2 mg) : FnOk P w K mg base (L2.CX P w) 1 f fd ["_law_many"] spRrw := by
  refine F.okX sc_rr' (fun vs H Q E h => ?_) (fun cdv A outer s H vs Q E hr h => ?_)
  · obtain ⟨n, rfl, _⟩ := h
    rfl
  · obtain ⟨n, rfl, n4, n7, k⟩ := h
    have nd := sc_rr'.nd
    refine ⟨_, pss_one (ps_ret (pe_op op_cat
      (pe_lc (own := [("_law_x", 1)]) (g := gName 1) (tt := tYes) (te := tVar 1) rfl nd (pi_range3 (by rfl) B.range (pa_cons pe_int (pa_cons (pv 0) (pa_cons pe_int pa_nil)))) (blkOk_by (N := ["_law_many", "_law_x"]) (sc := defScope s_rr') (by decide +kernel)) (fun _ _ _ _ _ => pg_name (i := 1) nd rfl (.inl rfl)) (fun _ _ _ _ _ => pts_nil) (fun _ _ _ _ _ => pv 1))
      (pe_lc (own := [("_law_x", 1)]) (g := gName 1) (tt := tYes) (te := tVar 1) rfl nd (pi_range3 (by rfl) B.range (pa_cons pe_int (pa_cons (pv 0) (pa_cons pe_int pa_nil)))) (blkOk_by (N := ["_law_many", "_law_x"]) (sc := defScope s_rr') (by decide +kernel)) (fun _ _ _ _ _ => pg_name (i := 1) nd rfl (.inl rfl)) (fun _ _ _ _ _ => pts_nil) (fun _ _ _ _ _ => pv 1)))), ?_⟩
    obtain ⟨m1, m2, r1, r2, pm, s1, s2⟩ : ∃ m1 m2 : Nat, RgC 0 n 2 m1 ∧ RgC 1 n 2 m2 ∧ (stepL 0 m1 ++ stepL 1 m2).Perm (ran n.toNat) ∧ m1 ≤ 10 ∧ m2 ≤ 10 := by
      obtain rfl | rfl | rfl | rfl : n = 4 ∨ n = 5 ∨ n = 6 ∨ n = 7 := by omega
      · exact ⟨2, 2, ⟨by decide, by decide, by decide +kernel, by decide +kernel⟩, ⟨by decide, by decide, by decide +kernel, by decide +kernel⟩, by decide +kernel, by decide, by decide⟩
      · exact ⟨3, 2, ⟨by decide, by decide, by decide +kernel, by decide +kernel⟩, ⟨by decide, by decide, by decide +kernel, by decide +kernel⟩, by decide +kernel, by decide, by decide⟩
      · exact ⟨3, 3, ⟨by decide, by decide, by decide +kernel, by decide +kernel⟩, ⟨by decide, by decide, by decide +kernel, by decide +kernel⟩, by decide +kernel, by decide, by decide⟩
      · exact ⟨4, 3, ⟨by decide, by decide, by decide +kernel, by decide +kernel⟩, ⟨by decide, by decide, by decide +kernel, by decide +kernel⟩, by decide +kernel, by decide, by decide⟩
    refine ⟨_, rfl, 0, n, 2, m1, rfl, r1, fun D nD => ?_⟩
    refine lc_it walk_rangeC (fun i H' => Same H H' ∧ IL H' D (stepL 0 i)) ⟨same_upd nD, upd_same⟩ (fun i H' _ z => trivial) (fun i x H' H2 hi z y => ?_) (fun H' z => ?_)
    · obtain ⟨sm, hD⟩ := z
      obtain ⟨rfl, rfl⟩ := y
      refine ⟨rfl, _, rfl, _, hD, by rw [List.length_map, stepL_len, sizeLine_eq]; omega, same_keep nD sm, ?_⟩
      show (upd _ _ _) _ = _
      rw [upd_same, stepL_succ, List.map_append]
      rfl
    · obtain ⟨sm, hD⟩ := z
      refine ⟨_, rfl, 1, n, 2, m2, rfl, r2, fun G nG => ?_⟩
      refine lc_it walk_rangeC (fun i H2 => Same H' H2 ∧ IL H2 G (stepL 1 i)) ⟨same_upd nG, upd_same⟩ (fun i H' _ z => trivial) (fun i x H2 H3 hi z y => ?_) (fun H2 z => ?_)
      · obtain ⟨sm2, hG⟩ := z
        obtain ⟨rfl, rfl⟩ := y
        refine ⟨rfl, _, rfl, _, hG, by rw [List.length_map, stepL_len, sizeLine_eq]; omega, same_keep nG sm2, ?_⟩
        show (upd _ _ _) _ = _
        rw [upd_same, stepL_succ, List.map_append]
        rfl
      · obtain ⟨sm2, hG⟩ := z
        refine ⟨D, G, _, _, rfl, rfl, sm2 _ _ hD, hG, by rw [List.length_map, List.length_map, stepL_len, stepL_len, sizeLine_eq]; omega, fun A nA => ?_⟩
        refine k _ A (stepL 0 m1 ++ stepL 1 m2) ((sm.trans sm2).trans (same_upd nA)) ((sm.trans sm2).free nA) ?_ pm
        show (upd _ _ _) _ = _
        rw [upd_same, List.map_append]
end
end K0
set_option Elab.async false
set_option linter.all false
set_option maxRecDepth 100000
set_option maxHeartbeats 4000000
namespace K0
open PySem PySem.Spec PyProof.Rows L2
theorem ran_succ (n : Nat) : ran (n + 1) = ran n ++ [(n : Int)] := by
  unfold ran
  rw [List.range_succ, List.map_append]
  rfl
theorem ran_add (n m : Nat) : ran (n + m) = ran n ++ (ran m).map fun x => (n : Int) + x := by
  unfold ran
  rw [List.range_add, List.map_append, List.map_map, List.map_map]
  congr 1
theorem ints_val {l : List Int} {j : Nat} {v : V} (h : (l.map V.int)[j]? = some v) : ∃ x, l[j]? = some x ∧ v = .int x := by
  rw [List.getElem?_map] at h
  cases e : l[j]? with
  | none => rw [e] at h; cases h
  | some x => rw [e] at h; exact ⟨x, rfl, (Option.some.inj h).symm⟩
theorem take_room {α : Type} (l : List α) (i : Nat) : (l.take i).length ≤ l.length := by rw [List.length_take]; exact Nat.min_le_right _ _
/-- a case: a number, pairs, a row -/
def CsAt (H : Hp) (v : V) (n : Int) (q : List Pr) (r : List Int) : Prop := ∃ a b c, v = .ref a ∧ H a = some (.lst [.int n, .ref b, .ref c]) ∧ Ls H b q ∧ IL H c r
theorem CsAt.mono {H H' : Hp} (s : Same H H') {v : V} {n : Int} {q : List Pr} {r : List Int} : CsAt H v n q r → CsAt H' v n q r := fun ⟨a, b, c, e, h, l, i⟩ => ⟨a, b, c, e, s _ _ h, l.mono s, s _ _ i⟩
/-- .. of new things -/
def CsNew (H H' : Hp) (v : V) (n : Int) (q : List Pr) (r : List Int) : Prop := ∃ a b c, v = .ref a ∧ H a = none ∧ H b = none ∧ H c = none ∧ H' a = some (.lst [.int n, .ref b, .ref c]) ∧ Ls H' b q ∧ IL H' c r
structure Csk (n : Int) (q : List Pr) (r : List Int) : Prop where
  c : Cl n q
  n1 : 1 ≤ n
  p : r.Perm (ran n.toNat)
theorem Csk.len {n : Int} {q : List Pr} {r : List Int} (h : Csk n q r) : r.length = n.toNat := by rw [h.p.length_eq, ran_len]
theorem dta_prs {H : Hp} : ∀ {ys : List V} {q : List Pr}, DtAll H ys (q.map prD) → ∃ l : List (Addr × Pr), ys = (l.map fun z => V.ref z.1) ∧ l.map (·.2) = q ∧ PrsAt H l
  | _, [], .nil => ⟨[], rfl, rfl, fun z hz => by cases hz⟩
  | _, p :: q, h => by
    cases h with
    | cons h1 h2 =>
      obtain ⟨l, e1, e2, e3⟩ := dta_prs h2
      cases h1 with
      | tup ea h =>
        cases h with
        | cons a b =>
          cases b with
          | cons c d =>
            cases a
            cases c
            cases d
            rename_i t
            refine ⟨(t, p) :: l, by rw [e1]; rfl, by rw [List.map_cons, e2], fun z hz => ?_⟩
            rcases List.mem_cons.mp hz with rfl | hz
            · exact ea
            · exact e3 z hz
theorem Ls.grow {H : Hp} {D : Addr} {q : List Pr} : Ls H D q → Grow H D q := fun ⟨ys, h, d⟩ => by
  obtain ⟨l, e1, e2, e3⟩ := dta_prs d
  exact ⟨l, by rw [← e1]; exact h, e2, e3⟩
section
variable {P : Program} {w : World} {K : PySem.W.Frag} {mg : Str → Option Value} {base : Heap} {f : Addr} {fd : FuncData}
abbrev s_sd : Stmt := top 56
abbrev s_sm : Stmt := top 57
/-- _law_sides -/
def spSd : Sp := fun vs H Q _ => ∃ (v u : V) (j : Bool) (n m : Int) (q p : List Pr) (r s : List Int), vs = [v, u, .bl j] ∧ CsAt H v n q r ∧ CsAt H u m p s ∧ Csk n q r ∧ Csk m p s ∧ n + m ≤ 16 ∧
  ∀ H' x q' r', Same H H' → CsNew H H' x (n + m) q' r' → Csk (n + m) q' r' → Q x H'
theorem sc_sd : FnScope ["_law_one", "_law_other", "_law_joined", "_law_pairs", "_law_pair_here", "_law_x", "_law_y", "_law_row_here"] ["_law_one", "_law_other", "_law_joined"] (defScope s_sd) := ⟨rfl, rfl, rfl, by decide +kernel, rfl, by decide +kernel, by decide +kernel⟩
theorem ok_sd (F : Fun K "_law_sides" "_law_sides" s_sd f fd) (B : Blt2 mg) : FnOk P w K mg base (L2.CX P w) 1 f fd ["_law_one", "_law_other", "_law_joined"] spSd := by
  refine F.okX sc_sd (fun vs H Q E h => ?_) (fun cdv A outer s H vs Q E hr h => ?_)
  · obtain ⟨v, u, j, n, m, q, p, r, s, rfl, _⟩ := h
    rfl
  · obtain ⟨v, u, j, n, m, q, p, r, s', rfl, ⟨a1, b1, c1, rfl, h1, hq, hr1⟩, ⟨a2, b2, c2, rfl, h2, hp, hr2⟩, K1, K2, n16, k⟩ := h
    have nd := sc_sd.nd
    have n1 := K1.n1; have m1 := K2.n1
    refine ⟨_, pss_cons (ps_set (i := 3) nd rfl (.inl rfl) (pe_callTy call_list_of (by rfl) B.list (by decide +kernel) (pa_cons (pe_ix ix_list (pv 0) pe_int (fun _ _ => rfl)) pa_nil)))
      (pss_cons (ps_for (passes_of rfl) rfl (pi_list (pe_ix ix_list (pv 1) pe_int (fun _ _ => rfl))) (pg_name (i := 4) nd rfl (.inl rfl))
        (pss_one (ps_expr (pe_lapp (pv 3) (pa_cons (pe_tup (pa_cons (pe_op op_add (pe_ix ix_tup (pv 4) pe_int (fun _ _ => rfl)) (pe_ix ix_list (pv 0) pe_int (fun _ _ => rfl))) (pa_cons (pe_op op_add (pe_ix ix_tup (pv 4) pe_int (fun _ _ => rfl)) (pe_ix ix_list (pv 0) pe_int (fun _ _ => rfl))) pa_nil))) pa_nil)))))
      (pss_cons (ps_if (pt_val (pv 2)) (pss_one (ps_for (passes_of rfl) rfl (pi_range1 (by rfl) B.range (pa_cons (pe_ix ix_list (pv 0) pe_int (fun _ _ => rfl)) pa_nil)) (pg_name (i := 5) nd rfl (.inl rfl))
        (pss_one (ps_for (passes_of rfl) rfl (pi_range1 (by rfl) B.range (pa_cons (pe_ix ix_list (pv 1) pe_int (fun _ _ => rfl)) pa_nil)) (pg_name (i := 6) nd rfl (.inl rfl))
          (pss_one (ps_expr (pe_lapp (pv 3) (pa_cons (pe_tup (pa_cons (pv 5) (pa_cons (pe_op op_add (pe_ix ix_list (pv 0) pe_int (fun _ _ => rfl)) (pv 6)) pa_nil))) pa_nil)))))))) pss_nil)
      (pss_cons (ps_set (i := 7) nd rfl (.inl rfl) (pe_op op_cat (pe_callTy call_list_of (by rfl) B.list (by decide +kernel) (pa_cons (pe_ix ix_list (pv 0) pe_int (fun _ _ => rfl)) pa_nil))
        (pe_lc (own := [("_law_y", 6)]) (g := gName 6) (tt := tYes) (te := tOp rAddI (tOp (rIxL K) (tVar 0) (tC (.int 0))) (tVar 6)) rfl nd (pi_list (pe_ix ix_list (pv 1) pe_int (fun _ _ => rfl)))
          (blkOk_by (N := ["_law_one", "_law_other", "_law_joined", "_law_pairs", "_law_pair_here", "_law_x", "_law_y", "_law_row_here"]) (sc := defScope s_sd) (by decide +kernel)) (fun _ _ _ _ _ => pg_name (i := 6) nd rfl (.inl rfl)) (fun _ _ _ _ _ => pts_nil)
          (fun _ _ _ _ _ => pe_op op_add (pe_ix ix_list (pv 0) pe_int (fun _ _ => rfl)) (pv 6)))))
      (pss_one (ps_ret (pe_lst (pa_cons (pe_op op_add (pe_ix ix_list (pv 0) pe_int (fun _ _ => rfl)) (pe_ix ix_list (pv 1) pe_int (fun _ _ => rfl))) (pa_cons (pe_callB cr_srtP (by rfl) B.sorted (by decide +kernel) (pa_cons (pv 3) pa_nil)) (pa_cons (pv 7) pa_nil))))))))), ?_⟩
    obtain ⟨qs, hb1, dq⟩ := id hq
    obtain ⟨ps, hb2, dp⟩ := id hp
    have lps := dp.len
    rw [List.length_map] at lps
    have lq := K1.c.few (by omega)
    have lp' := K2.c.few (by omega)
    have lr := K1.len
    have ls := K2.len
    have rowP : (r ++ s'.map fun x => n + x).Perm (ran (n + m).toNat) := by
      have e : (n + m).toNat = n.toNat + m.toNat := by omega
      have en : ((n.toNat : Nat) : Int) = n := by omega
      rw [e, ran_add, en]
      exact K1.p.append (K2.p.map _)
    have mshf : ∀ z, z ∈ shf p n → n ≤ z.1 ∧ z.1 < z.2 ∧ z.2 < n + m := fun z hz => by
      have := K2.c.rng _ (mem_shf.mp hz)
      dsimp only at this
      omega
    have nd2 : (q ++ shf p n).Nodup := List.nodup_append.mpr ⟨pairwise_nodup K1.c.srt, List.pairwise_map.mpr (List.Pairwise.imp (fun {c d} ne e => ne (Prod.ext (by have := (Prod.ext_iff.mp e).1; dsimp only at this; omega) (by have := (Prod.ext_iff.mp e).2; dsimp only at this; omega))) (pairwise_nodup K2.c.srt)), fun z h1 z' h2 e => by
      subst e
      have := K1.c.rng z h1
      have := mshf z h2
      omega⟩
    have rg2 : ∀ z ∈ q ++ shf p n, 0 ≤ z.1 ∧ z.1 < z.2 ∧ z.2 < n + m := fun z hz => by
      rcases List.mem_append.mp hz with h | h
      · have := K1.c.rng z h
        omega
      · have := mshf z h
        omega
    have mgr : ∀ z, z ∈ grid 0 n n m ↔ (0 ≤ z.1 ∧ z.1 < 0 + n) ∧ n ≤ z.2 ∧ z.2 < n + m := fun z => mem_grid
    have grid_nd : (grid 0 n n m).Nodup := by
      unfold grid
      refine nodup_fm List.nodup_range (fun x _ => List.pairwise_map.mpr (List.Pairwise.imp (fun {c d} ne e => ?_) List.nodup_range)) fun x _ y _ z h1 h2 => ?_
      · have := (Prod.ext_iff.mp e).2
        dsimp only at this
        omega
      · obtain ⟨u, _, e1⟩ := List.mem_map.mp h1
        obtain ⟨v, _, e2⟩ := List.mem_map.mp h2
        rw [← e2] at e1
        have := (Prod.ext_iff.mp e1).1
        dsimp only at this
        omega
    have nd3 : (q ++ shf p n ++ grid 0 n n m).Nodup := List.nodup_append.mpr ⟨nd2, grid_nd, fun z h1 z' h2 e => by
      subst e
      have h2 := (mgr z).mp h2
      rcases List.mem_append.mp h1 with h | h
      · have := K1.c.rng z h
        omega
      · have := mshf z h
        omega⟩
    have rg3 : ∀ z ∈ q ++ shf p n ++ grid 0 n n m, 0 ≤ z.1 ∧ z.1 < z.2 ∧ z.2 < n + m := fun z hz => by
      rcases List.mem_append.mp hz with h | h
      · exact rg2 z h
      · have := (mgr z).mp h
        omega
    refine ⟨_, rfl, a1, _, 1, _, rfl, rfl, SqL.of h1, rfl, b1, _, rfl, .inl (SqL.of hb1), fun D nD => ?_⟩
    have s1 := same_upd (o := .lst qs) nD
    have g1 : Grow (heapOf s1) D q := Ls.grow ⟨qs, upd_same, dq.mono s1⟩
    let P1 : Nat → L2.St → Hp → Prop := fun i σ H' => ∃ o4, σ = [some (.ref a1), some (.ref a2), some (.bl j), some (.ref D), o4, none, none, none] ∧ Same H H' ∧ Grow H' D (q ++ shf (p.take i) n)
    refine ⟨_, rfl, a2, _, 1, _, rfl, rfl, SqL.of (s1 _ _ h2), rfl, b2, rfl, ⟨ps, SqL.of (s1 _ _ hb2)⟩, for_list (K := K) (a := b2) (xs := ps) P1 ⟨none, rfl, s1, by simpa [shf] using g1⟩ (fun i σ H' _ h => ?_) (fun i x σ H2 hi h => ?_) (fun σ H2 h => ?_)⟩
    · obtain ⟨_, _, sm, _⟩ := h
      exact SqL.of (sm _ _ hb2)
    · obtain ⟨o4, rfl, s2, g2⟩ := h
      obtain ⟨e, eb, he, rfl, heb⟩ := dta_map (dp.mono s2) hi
      obtain ⟨as, hA, lA, _⟩ := g2.at
      refine ⟨_, rfl, .inl ⟨rfl, as, SqL.of hA⟩, _, rfl, eb, _, 0, _, rfl, rfl, SqT.of heb, rfl, _, rfl, a1, _, 0, _, rfl, rfl, SqL.of (s2 _ _ h1), rfl, _, _, rfl, rfl, _, rfl, eb, _, 1, _, rfl, rfl, SqT.of heb, rfl, _, rfl, a1, _, 0, _, rfl, rfl, SqL.of (s2 _ _ h1), rfl, _, _, rfl, rfl, (by show 2 ≤ sizeLine; decide), fun u nu => ?_⟩
      have s3 := same_upd (o := .tup [.int (e.1 + n), .int (e.2 + n)]) nu
      have ltk : (shf (p.take i) n).length ≤ p.length := by
        show (List.map _ _).length ≤ _
        rw [List.length_map]
        exact take_room p i
      refine ⟨D, as, _, rfl, rfl, s3 _ _ hA, by rw [lA, List.length_append, sizeLine_eq]; omega, _, rfl, same_keep nD (s2.trans s3), ?_⟩
      have e1 : shf (p.take (i + 1)) n = shf (p.take i) n ++ [(e.1 + n, e.2 + n)] := by
        unfold shf
        rw [take_at he, List.map_append]
        rfl
      rw [e1, ← List.append_assoc]
      exact g2.push nu hA
    · obtain ⟨o4, rfl, s2, g2⟩ := h
      rw [lps, List.take_length] at g2
      refine ⟨_, rfl, j, rfl, ?_⟩
      cases j with
      | false =>
        have sm := s2
        have g := g2
        refine iteF ⟨_, rfl, a1, _, 2, _, rfl, rfl, SqL.of (sm _ _ h1), rfl, c1, _, rfl, .inl (SqL.of (sm _ _ hr1)), fun E1 nE1 => ?_⟩
        have sA := same_upd (o := .lst (r.map V.int)) nE1
        have hE1' := (upd_same : heapOf sA E1 = some (.lst (r.map V.int)))
        have s6 := sm.trans sA
        refine ⟨_, rfl, a2, _, 2, _, rfl, rfl, SqL.of (s6 _ _ h2), rfl, c2, rfl, ⟨_, SqL.of (s6 _ _ hr2)⟩, fun E2 nE2 => ?_⟩
        refine lc_list (K := K) (a := c2) (xs := s'.map V.int) (fun i H' => Same (heapOf sA) H' ∧ IL H' E2 ((s'.take i).map fun x => n + x)) ⟨same_upd nE2, upd_same⟩ (fun i H' _ z => SqL.of ((s6.trans z.1) _ _ hr2)) (fun i x H' hi z => ?_) (fun H7 z => ?_)
        · obtain ⟨s7, hE⟩ := z
          obtain ⟨y, hy, rfl⟩ := ints_val hi
          have := take_room s' i
          refine ⟨rfl, _, rfl, a1, _, 0, _, rfl, rfl, SqL.of ((s6.trans s7) _ _ h1), rfl, _, rfl, _, _, rfl, rfl, _, hE, by rw [List.length_map, List.length_map, sizeLine_eq]; omega, same_keep nE2 s7, ?_⟩
          show (upd _ _ _) _ = _
          rw [upd_same, take_at hy, List.map_append, List.map_append]
          rfl
        · obtain ⟨s7, hE⟩ := z
          rw [List.length_map, List.take_length] at hE
          refine ⟨E1, E2, _, _, rfl, rfl, s7 _ _ hE1', hE, by rw [List.length_map, List.length_map, List.length_map, sizeLine_eq]; omega, fun E3 nE3 => ?_⟩
          have s8 := same_upd (o := .lst (r.map V.int ++ (s'.map fun x => n + x).map V.int)) nE3
          have hE3 : IL (heapOf s8) E3 (r ++ s'.map fun x => n + x) := by
            show (upd _ _ _) _ = _
            rw [upd_same, List.map_append]
          have s78 := (sA.trans s7).trans s8
          have s08 := sm.trans s78
          refine ⟨_, rfl, a1, _, 0, _, rfl, rfl, SqL.of (s08 _ _ h1), rfl, _, rfl, a2, _, 0, _, rfl, rfl, SqL.of (s08 _ _ h2), rfl, _, _, rfl, rfl, _, rfl, D, _, rfl, (g.mono s78).ls, nd2, fun H9 pA rs s9 np lp pw hm _ => ⟨_, rfl, (by show 3 ≤ sizeLine; decide), fun R nR => ?_⟩⟩
          have s10 := same_upd (o := .lst [.int (n + m), .ref pA, .ref E3]) nR
          refine k _ (.ref R) rs _ ((s08.trans s9).trans s10) ⟨R, pA, E3, rfl, (s08.trans s9).free nR, s08.free np, (sm.trans (sA.trans s7)).free nE3, upd_same, lp.mono s10, (s9.trans s10) _ _ hE3⟩ ⟨⟨pw, fun z hz => rg2 z ((hm z).mp hz)⟩, by omega, rowP⟩
      | true =>
        let row : Nat → List Pr := fun i => (List.range m.toNat).map fun (y : Nat) => ((0 : Int) + (i : Int), n + (y : Int))
        let GG : Nat → List Pr := fun i => (List.range i).flatMap row
        have eGG : GG n.toNat = grid 0 n n m := rfl
        have lrow : ∀ i, (row i).length = m.toNat := fun i => by show (List.map _ _).length = _; rw [List.length_map, List.length_range]
        have lGG : ∀ i, i ≤ 16 → (GG i).length ≤ 256 := fun i hi => by
          have h1 := len_fm (List.range i) (f := row) (m := 16) fun x _ => by rw [lrow]; omega
          rw [List.length_range] at h1
          exact Nat.le_trans h1 (Nat.mul_le_mul_right 16 hi)
        have lsh : (shf p n).length = p.length := List.length_map _
        let P2 : Nat → L2.St → Hp → Prop := fun i σ H' => ∃ o5 o6, σ = [some (.ref a1), some (.ref a2), some (.bl true), some (.ref D), o4, o5, o6, none] ∧ Same H H' ∧ Grow H' D (q ++ shf p n ++ GG i)
        refine iteT ⟨_, rfl, a1, _, 0, _, rfl, rfl, SqL.of (s2 _ _ h1), rfl, n, rfl, by omega, by omega, for_range (n := n.toNat) P2 ⟨none, none, rfl, s2, by simpa [GG] using g2⟩ (fun i σ H3 hi h => ?_) (fun σ H3 h => ?_)⟩
        · obtain ⟨o5, o6, rfl, s3, g3⟩ := h
          let P3 : Nat → L2.St → Hp → Prop := fun t σ H' => ∃ o6, σ = [some (.ref a1), some (.ref a2), some (.bl true), some (.ref D), o4, some (.int (0 + (i : Int))), o6, none] ∧ Same H H' ∧ Grow H' D (q ++ shf p n ++ GG i ++ (row i).take t)
          refine ⟨_, rfl, a2, _, 0, _, rfl, rfl, SqL.of (s3 _ _ h2), rfl, m, rfl, by omega, by omega, for_range (n := m.toNat) P3 ⟨o6, rfl, s3, by simpa using g3⟩ (fun t σ H4 ht h => ?_) (fun σ H4 h => ?_)⟩
          · obtain ⟨o6, rfl, s4, g4⟩ := h
            obtain ⟨as, hA, lA, _⟩ := g4.at
            refine ⟨_, rfl, .inl ⟨rfl, as, SqL.of hA⟩, _, rfl, _, rfl, a1, _, 0, _, rfl, rfl, SqL.of (s4 _ _ h1), rfl, _, rfl, _, _, rfl, rfl, (by show 2 ≤ sizeLine; decide), fun u nu => ?_⟩
            have s5 := same_upd (o := .tup [.int (0 + (i : Int)), .int (n + (0 + (t : Int)))]) nu
            have ltk := take_room (row i) t
            have lrow' := lrow i
            have lgg := lGG i (by omega)
            refine ⟨D, as, _, rfl, rfl, s5 _ _ hA, by rw [lA, List.length_append, List.length_append, List.length_append, sizeLine_eq]; omega, _, rfl, same_keep nD (s4.trans s5), ?_⟩
            have e : (row i)[t]? = some ((0 : Int) + (i : Int), n + (t : Int)) := by
              show ((List.range m.toNat).map _)[t]? = _
              rw [List.getElem?_map, List.getElem?_range ht]
              rfl
            rw [take_at e, ← List.append_assoc]
            have z := g4.push (x := 0 + (i : Int)) (y := n + (0 + (t : Int))) nu hA
            rw [Int.zero_add (t : Int)] at z
            rw [Int.zero_add (t : Int)]
            exact z
          · obtain ⟨o6, rfl, s4, g4⟩ := h
            rw [List.take_of_length_le (by rw [lrow]; exact Nat.le_refl _)] at g4
            refine ⟨_, _, rfl, s4, ?_⟩
            have e : GG (i + 1) = GG i ++ row i := by
              show (List.range (i + 1)).flatMap row = _
              rw [List.range_succ, List.flatMap_append]
              simp [GG]
            rw [e, ← List.append_assoc]
            exact g4
        · obtain ⟨o5, o6, rfl, s3, g3⟩ := h
          rw [eGG] at g3
          have sm := s3
          have g := g3
          refine ⟨_, rfl, a1, _, 2, _, rfl, rfl, SqL.of (sm _ _ h1), rfl, c1, _, rfl, .inl (SqL.of (sm _ _ hr1)), fun E1 nE1 => ?_⟩
          have sA := same_upd (o := .lst (r.map V.int)) nE1
          have hE1' := (upd_same : heapOf sA E1 = some (.lst (r.map V.int)))
          have s6 := sm.trans sA
          refine ⟨_, rfl, a2, _, 2, _, rfl, rfl, SqL.of (s6 _ _ h2), rfl, c2, rfl, ⟨_, SqL.of (s6 _ _ hr2)⟩, fun E2 nE2 => ?_⟩
          refine lc_list (K := K) (a := c2) (xs := s'.map V.int) (fun i H' => Same (heapOf sA) H' ∧ IL H' E2 ((s'.take i).map fun x => n + x)) ⟨same_upd nE2, upd_same⟩ (fun i H' _ z => SqL.of ((s6.trans z.1) _ _ hr2)) (fun i x H' hi z => ?_) (fun H7 z => ?_)
          · obtain ⟨s7, hE⟩ := z
            obtain ⟨y, hy, rfl⟩ := ints_val hi
            have := take_room s' i
            refine ⟨rfl, _, rfl, a1, _, 0, _, rfl, rfl, SqL.of ((s6.trans s7) _ _ h1), rfl, _, rfl, _, _, rfl, rfl, _, hE, by rw [List.length_map, List.length_map, sizeLine_eq]; omega, same_keep nE2 s7, ?_⟩
            show (upd _ _ _) _ = _
            rw [upd_same, take_at hy, List.map_append, List.map_append]
            rfl
          · obtain ⟨s7, hE⟩ := z
            rw [List.length_map, List.take_length] at hE
            refine ⟨E1, E2, _, _, rfl, rfl, s7 _ _ hE1', hE, by rw [List.length_map, List.length_map, List.length_map, sizeLine_eq]; omega, fun E3 nE3 => ?_⟩
            have s8 := same_upd (o := .lst (r.map V.int ++ (s'.map fun x => n + x).map V.int)) nE3
            have hE3 : IL (heapOf s8) E3 (r ++ s'.map fun x => n + x) := by
              show (upd _ _ _) _ = _
              rw [upd_same, List.map_append]
            have s78 := (sA.trans s7).trans s8
            have s08 := sm.trans s78
            refine ⟨_, rfl, a1, _, 0, _, rfl, rfl, SqL.of (s08 _ _ h1), rfl, _, rfl, a2, _, 0, _, rfl, rfl, SqL.of (s08 _ _ h2), rfl, _, _, rfl, rfl, _, rfl, D, _, rfl, (g.mono s78).ls, nd3, fun H9 pA rs s9 np lp pw hm _ => ⟨_, rfl, (by show 3 ≤ sizeLine; decide), fun R nR => ?_⟩⟩
            have s10 := same_upd (o := .lst [.int (n + m), .ref pA, .ref E3]) nR
            refine k _ (.ref R) rs _ ((s08.trans s9).trans s10) ⟨R, pA, E3, rfl, (s08.trans s9).free nR, s08.free np, (sm.trans (sA.trans s7)).free nE3, upd_same, lp.mono s10, (s9.trans s10) _ _ hE3⟩ ⟨⟨pw, fun z hz => rg3 z ((hm z).mp hz)⟩, by omega, rowP⟩
end
end K0
set_option Elab.async false
set_option linter.all false
set_option maxRecDepth 100000
set_option maxHeartbeats 4000000
namespace K0
open PySem PySem.Spec PyProof.Rows L2
theorem DrO.mono {H H' : Hp} (s : Same H H') {d : Addr} : DrO H d → DrO H' d := fun ⟨ns, h, p⟩ => ⟨ns, s _ _ h, p⟩
/-- a list of pairs, apart from the draws -/
theorem Ls.del {H : Hp} {D d : Addr} {q : List Pr} (h : Ls H D q) (dr : DrO H d) (ne : D ≠ d) : Ls (del H d) D q := by
  obtain ⟨ys, hD, hy⟩ := h
  obtain ⟨e, hh⟩ := dta_kH hy
  refine ⟨ys, by rw [del_ne ne]; exact hD, ?_⟩
  rw [← e]
  refine dta_of fun y hy' => ?_
  obtain ⟨t, e1, e2⟩ := hh y hy'
  refine ⟨t, e1, ?_⟩
  have : t ≠ d := fun z => by
    obtain ⟨ns, h1, _⟩ := dr
    rw [z, h1] at e2
    cases e2
  rw [del_ne this]
  exact e2
theorem cs_up {H G : Hp} {d b c A : Addr} {n : Int} {q : List Pr} {r : List Int} (sm : Same (del H d) G) (dr : DrO G d) (hb : Ls (del G d) b q) (hc : IL (del G d) c r) (nA : G A = none) :
    Same (del H d) (upd G A (.lst [.int n, .ref b, .ref c])) ∧ DrO (upd G A (.lst [.int n, .ref b, .ref c])) d ∧ CsAt (del (upd G A (.lst [.int n, .ref b, .ref c])) d) (.ref A) n q r := by
  have Ad := dr.ne nA
  have hA := sd_none sm nA Ad
  have s : Same (del G d) (del (upd G A (.lst [.int n, .ref b, .ref c])) d) := by
    rw [del_upd_ne Ad]
    exact same_upd (by rw [del_ne Ad]; exact nA)
  exact ⟨sd_upd sm hA Ad, dr.upd Ad, A, b, c, rfl, by rw [del_ne Ad, upd_same], hb.mono s, s _ _ hc⟩
theorem delF {H H' : Hp} {d : Addr} (s : Same H H') : Same (del H d) (del H' d) := fun b o e => by
  by_cases hb : b = d
  · rw [hb, del_same] at e
    cases e
  · rw [del_ne hb] at e ⊢
    exact s b o e
theorem IL.del {H : Hp} {a d : Addr} {r : List Int} (h : IL H a r) (ne : a ≠ d) : IL (L2.del H d) a r := by
  show (L2.del H d) a = _
  rw [del_ne ne]
  exact h
theorem ran_step {H0 : Hp} {D : Addr} {n i : Nat} {H' : Hp} (nD : H0 D = none) (hi : i < n) (hn : n ≤ 1000) (z : Same H0 H' ∧ IL H' D (ran i)) : ∃ acc, H' D = some (.lst acc) ∧ acc.length < sizeLine ∧ Same H0 (upd H' D (.lst (acc ++ [.int (i : Int)]))) ∧ IL (upd H' D (.lst (acc ++ [.int (i : Int)]))) D (ran (i + 1)) := by
  obtain ⟨sm, hD⟩ := z
  refine ⟨_, hD, by rw [List.length_map, ran_len, sizeLine_eq]; omega, same_keep nD sm, ?_⟩
  show (upd _ _ _) _ = _
  rw [upd_same, ran_succ, List.map_append]
  rfl
/-- what a maker of the law hands on -/
def OutCs (H : Hp) (d : Addr) (l m : Int) (Q : VK) : Prop := ∀ H' v n q r, Same (del H d) H' → DrO H' d → CsAt (del H' d) v n q r → Csk n q r → l ≤ n → n ≤ m → Q v H'
section
variable {P : Program} {w : World} {K : PySem.W.Frag} {mg : Str → Option Value} {base : Heap} {f : Addr} {fd : FuncData}
/-- _law_small -/
def spSm : Sp := fun vs H Q _ => ∃ (d : Addr), vs = [.ref d] ∧ DrO H d ∧ OutCs H d 1 4 Q
theorem sc_sm : FnScope ["_law_draws_here", "_law_many", "_law_x"] ["_law_draws_here"] (defScope s_sm) := ⟨rfl, rfl, rfl, by decide +kernel, rfl, by decide +kernel, by decide +kernel⟩
theorem ok_sm (F : Fun K "_law_small" "_law_small" s_sm f fd) (B : Blt2 mg) (TK : Df P w K mg base "_law_take" 1 ["_law_draws_here", "_law_many"] spTk) (LN : Df P w K mg base "_law_line" 1 ["_law_many"] spLine) : FnOk P w K mg base (L2.CX P w) 2 f fd ["_law_draws_here"] spSm := by
  refine F.okX sc_sm (fun vs H Q E h => ?_) (fun cdv A outer s H vs Q E hr h => ?_)
  · obtain ⟨d, rfl, _⟩ := h
    rfl
  · obtain ⟨d, rfl, dr, k⟩ := h
    have nd := sc_sm.nd
    have r1 : Room 1 _ := hr.mono (by decide)
    refine ⟨_, pss_cons (ps_set (i := 1) nd rfl (.inl rfl) (pe_op op_add pe_int (pe_df TK r1 (by rfl) passUp (pa_cons (pv 0) (pa_cons pe_int pa_nil)))))
      (pss_cons (ps_if (pt_cmpR op_eq (pe_df TK r1 (by rfl) passUp (pa_cons (pv 0) (pa_cons pe_int pa_nil))) pe_int (nomark _)) (pss_one (ps_ret (pe_lst (pa_cons (pv 1) (pa_cons (pe_lst pa_nil) (pa_cons (pe_lc (own := [("_law_x", 2)]) (g := gName 2) (tt := tYes) (te := tVar 2) rfl nd
          (pi_range1 (by rfl) B.range (pa_cons (pv 1) pa_nil)) (blkOk_by (N := ["_law_draws_here", "_law_many", "_law_x"]) (sc := defScope s_sm) (by decide +kernel)) (fun _ _ _ _ _ => pg_name (i := 2) nd rfl (.inl rfl)) (fun _ _ _ _ _ => pts_nil) (fun _ _ _ _ _ => pv 2)) pa_nil)))))) pss_nil)
      (pss_one (ps_ret (pe_lst (pa_cons (pv 1) (pa_cons (pe_df LN r1 (by rfl) passUp (pa_cons (pv 1) pa_nil)) (pa_cons (pe_lc (own := [("_law_x", 2)]) (g := gName 2) (tt := tYes) (te := tVar 2) rfl nd
          (pi_range1 (by rfl) B.range (pa_cons (pv 1) pa_nil)) (blkOk_by (N := ["_law_draws_here", "_law_many", "_law_x"]) (sc := defScope s_sm) (by decide +kernel)) (fun _ _ _ _ _ => pg_name (i := 2) nd rfl (.inl rfl)) (fun _ _ _ _ _ => pts_nil) (fun _ _ _ _ _ => pv 2)) pa_nil))))))), ?_⟩
    refine ⟨_, rfl, d, 4, rfl, by decide, dr, fun r1' H1 a0 a4 s1 dr1 => ?_⟩
    let n : Int := 1 + r1'
    have en : n = 1 + r1' := rfl
    refine ⟨_, _, rfl, rfl, ?_⟩
    refine ⟨_, rfl, d, 3, rfl, by decide, dr1, fun r2 H2 b0 b3 s2 dr2 => ⟨rfl, _, rfl, ?_⟩⟩
    rw [dec_int]
    have s12 := sd_trans s1 s2
    by_cases e : r2 = 1
    · rw [show (r2 == 1) = true by simpa using e]
      refine iteT ⟨_, rfl, by show 0 ≤ sizeLine; exact Nat.zero_le _, fun D nD => ?_⟩
      have Dd := dr2.ne nD
      have s3 := same_upd (o := .lst []) nD
      have dr3 := dr2.mono s3
      refine ⟨_, rfl, n, rfl, by omega, by omega, fun G nG => ?_⟩
      refine lc_range (lo := 0) (n := n.toNat) (fun i H' => Same (heapOf s3) H' ∧ IL H' G (ran i)) ⟨same_upd nG, upd_same⟩ (fun i H' hi z => ?_) (fun H4 z => ?_)
      · rw [Int.zero_add]
        exact ⟨rfl, _, rfl, ran_step nG hi (by omega) z⟩
      · obtain ⟨s4, hG⟩ := z
        refine ⟨(by show 3 ≤ sizeLine; decide), fun A nA => ?_⟩
        have dr4 := dr3.mono s4
        have Gd := dr3.ne nG
        have hD : Ls (heapOf s4) D [] := ⟨[], s4 _ _ upd_same, .nil⟩
        obtain ⟨x, y, z⟩ := cs_up (n := n) (sd_trans s12 (del_sub.trans (s3.trans s4))) dr4 (hD.del dr4 Dd) (hG.del Gd) nA
        exact k _ _ _ _ _ x y z ⟨⟨.nil, fun p hp => by cases hp⟩, by omega, .refl _⟩ (by omega) (by omega)
    · rw [show (r2 == 1) = false by simpa using e]
      refine iteF ⟨_, rfl, _, rfl, n, rfl, by omega, by omega, fun H3 D s3 nD hD => ?_⟩
      have Dd := dr2.ne nD
      have dr3 := dr2.mono s3
      refine ⟨_, rfl, n, rfl, by omega, by omega, fun G nG => ?_⟩
      refine lc_range (lo := 0) (n := n.toNat) (fun i H' => Same H3 H' ∧ IL H' G (ran i)) ⟨same_upd nG, upd_same⟩ (fun i H' hi z => ?_) (fun H4 z => ?_)
      · rw [Int.zero_add]
        exact ⟨rfl, _, rfl, ran_step nG hi (by omega) z⟩
      · obtain ⟨s4, hG⟩ := z
        refine ⟨(by show 3 ≤ sizeLine; decide), fun A nA => ?_⟩
        have dr4 := dr3.mono s4
        have Gd := dr3.ne nG
        have hL : Ls (heapOf s4) D (lnP (n - 1).toNat) := ((hD.mono same_new).ls).mono s4
        obtain ⟨x, y, z⟩ := cs_up (n := n) (sd_trans s12 (del_sub.trans (s3.trans s4))) dr4 (hL.del dr4 Dd) (hG.del Gd) nA
        exact k _ _ _ _ _ x y z ⟨lnP_cl (by omega), by omega, .refl _⟩ (by omega) (by omega)
end
end K0
set_option Elab.async false
set_option linter.all false
set_option maxRecDepth 100000
set_option maxHeartbeats 4000000
namespace K0
open PySem PySem.Spec PyProof.Rows L2
section
variable {X : Cx} {o e : Expr} {es : List Expr} {to : TE} {t : TA} {apos cpos : Pos}
/-- o.index(e) -/
theorem pe_lidx (ho : PE X o to) (ha : PA X (e :: es) t) (hbase : attributeBase o "index" X.env (eval o X.env) = eval o X.env := by rfl)
    (hfew : ((backTo cpos (starEach (e :: es) X.env)).all (fun x => !x.1) && (backToKw cpos (keywordEach [] X.env)).all (fun x => x.1.isSome) && decide ((e :: es).length + ([] : List Keyword).length + (if ([] : List Keyword).isEmpty then 0 else 1) < 30)) = true := by rfl)
    (hline : (apos.endLine == cpos.line) = true := by rfl) (hs : starEach (e :: es) X.env = (false, eval e X.env) :: starEach es X.env := by rfl) (hplain : (backTo cpos (starEach es X.env)).any (·.1) = false := by rfl) :
    PE X (.Call (.Attribute o "index" apos) (e :: es) [] cpos) (tBM X.K "list" (rIndex X.K) to t) := pe_bm PySem.F.plainAttrs_list PySem.F.slot_list_index PySem.F.type_list_index mt_index ho ha hbase hfew hline hs hplain
end
theorem ex_idx {x : Int} : ∀ {r : List Int}, x ∈ r → ∃ j : Nat, r[j]? = some x ∧ ∀ m : Nat, m < j → ∀ z, r[m]? = some z → z ≠ x
  | [], h => by cases h
  | y :: r, h => by
    by_cases e : y = x
    · exact ⟨0, by rw [e]; rfl, fun m hm => absurd hm (Nat.not_lt_zero m)⟩
    · have h2 : x ∈ r := by
        rcases List.mem_cons.mp h with h | h
        · exact absurd h.symm e
        · exact h
      obtain ⟨j, h3, h4⟩ := ex_idx h2
      refine ⟨j + 1, h3, fun m hm z hz => ?_⟩
      cases m with
      | zero => rw [← Option.some.inj hz]; exact e
      | succ m => exact h4 m (by omega) z hz
theorem hasP_mmU {q : List Pr} (h : ∀ z ∈ q, z.1 < z.2) (x y : Nat) : decide (((min (x : Int) y, max (x : Int) y) : Pr) ∈ q) = hasP q x y := by
  unfold hasP
  rw [Bool.eq_iff_iff, Bool.or_eq_true, decide_eq_true_iff, decide_eq_true_iff, decide_eq_true_iff]
  rcases Nat.lt_trichotomy x y with c | c | c
  · rw [show min (x : Int) y = x by omega, show max (x : Int) y = y by omega]
    refine ⟨.inl, fun z => z.elim (fun z => z) fun z => ?_⟩
    have := h _ z
    dsimp only at this
    omega
  · subst c
    rw [show min (x : Int) x = x by omega, show max (x : Int) x = x by omega]
    exact ⟨.inl, fun z => z.elim (fun z => z) fun z => z⟩
  · rw [show min (x : Int) y = y by omega, show max (x : Int) y = x by omega]
    refine ⟨.inr, fun z => z.elim (fun z => ?_) fun z => z⟩
    have := h _ z
    dsimp only at this
    omega
section
variable {P : Program} {w : World} {K : PySem.W.Frag} {mg : Str → Option Value} {base : Heap} {f : Addr} {fd : FuncData}
abbrev s_tw : Stmt := top 58
/-- _law_near, of pairs in any order -/
def spNu : Sp := fun vs H Q _ => ∃ (b : Addr) (n : Int) (x : Nat) (q : List Pr), vs = [.int n, .ref b, .int (x : Int)] ∧ 0 ≤ n ∧ n ≤ 16 ∧ (∀ z ∈ q, z.1 < z.2) ∧ Ls H b q ∧ ∀ H' a, Same H H' → H a = none → H' a = some (.lst (nvs (nearOf n q x))) → Q (.ref a) H'
theorem ok_nu (F : Fun K "_law_near" "_law_near" s_ne f fd) (B : Blt2 mg) : FnOk P w K mg base (L2.CX P w) 2 f fd ["_law_many", "_law_pairs", "_law_x"] spNu := by
  refine F.okX sc_ne (fun vs H Q E h => ?_) (fun cdv A outer s H vs Q E hr h => ?_)
  · obtain ⟨b, n, x, q, rfl, _⟩ := h
    rfl
  · obtain ⟨b, n, x, q, rfl, n0, n8, cl, hl, k⟩ := h
    have nd := sc_ne.nd
    have hu : (A.deeper (envOfC "_law_near" (defScope s_ne) s.heap.objs.size f cdv)).units + 65 < cLine := by have := hr.un; omega
    refine ⟨_, pss_one (ps_ret (pe_lc (own := [("_law_y", 3)]) (g := gName 3)
      (tt := tTest (tOp (rInD K) (tTup (tCons (tCB rMinI (tCons (tVar 2) (tCons (tVar 3) tNil))) (tCons (tCB rMaxI (tCons (tVar 2) (tCons (tVar 3) tNil))) tNil))) (tVar 1)))
      (te := tVar 3) rfl nd (pi_range1 (by rfl) B.range (pa_cons (pv 0) pa_nil))
        (blkOk_by (N := ["_law_many", "_law_pairs", "_law_x", "_law_y"]) (sc := defScope s_ne) (by decide +kernel)) (fun _ _ _ _ _ => pg_name (i := 3) nd rfl (.inl rfl))
        (fun _ _ _ _ _ => pts_one (pt_cmpR (op_inD hu) (pe_tup (pa_cons (pe_callB (c_min rfl) (by rfl) B.min (by decide +kernel) (pa_cons (pv 2) (pa_cons (pv 3) pa_nil))) (pa_cons (pe_callB (c_max rfl) (by rfl) B.max (by decide +kernel) (pa_cons (pv 2) (pa_cons (pv 3) pa_nil))) pa_nil))) (pv 1) (by rfl))) (fun _ _ _ _ _ => pv 3))), ?_⟩
    refine ⟨_, rfl, n, rfl, by omega, by omega, fun D nD => ?_⟩
    refine lc_range (lo := 0) (n := n.toNat) (fun i H' => Same H H' ∧ H' D = some (.lst (nvs (((List.range n.toNat).take i).filter (hasP q x))))) ⟨same_upd nD, upd_same⟩ (fun i H' hi ⟨sm, hD⟩ => ?_) (fun H' ⟨sm, hD⟩ => ?_)
    · refine ⟨rfl, ?_⟩
      rw [Int.zero_add]
      refine ⟨_, rfl, _, rfl, _, _, rfl, _, rfl, _, rfl, _, _, rfl, (by show 2 ≤ sizeLine; decide), fun t nt => ?_⟩
      rw [min2, max2]
      have s2 : Same H' (upd H' t (.tup [.int (min (x : Int) i), .int (max (x : Int) i)])) := same_upd nt
      refine ⟨_, rfl, prD (min (x : Int) i, max (x : Int) i), _, (dt_pr (p := (min (x : Int) i, max (x : Int) i)) upd_same).dp, (hl.mono (sm.trans s2)).dp, prD_shaped _, prsL_shaped _, _, rfl, ?_⟩
      rw [prs_any, hasP_mmU cl]
      cases e : hasP q x i with
      | false =>
        refine iteF ⟨sm.trans s2, ?_⟩
        rw [filter_take _ _ hi, e, s2 _ _ hD]
        simp
      | true =>
        refine iteT ⟨_, rfl, _, s2 _ _ hD, ?_, fun b o eb => ?_, ?_⟩
        · rw [nvs_len, sizeLine_eq]
          have g1 := List.length_filter_le (hasP q x) ((List.range n.toNat).take i)
          rw [List.length_take, List.length_range] at g1
          omega
        · rw [upd_ne (ne_of_none eb nD)]
          exact s2 _ _ (sm _ _ eb)
        · rw [upd_same, filter_take _ _ hi, e]
          unfold nvs
          rw [List.map_append]
          rfl
    · rw [List.take_of_length_le (by rw [List.length_range]; exact Nat.le_refl _)] at hD
      exact k H' D sm nD hD
theorem Ls.cat {H : Hp} {A G B : Addr} {rs ss : List Pr} {xs ys : List V} (h : Ls H A rs) (g : Ls H G ss) (hx : H A = some (.lst xs)) (hy : H G = some (.lst ys)) (nB : H B = none) : Ls (upd H B (.lst (xs ++ ys))) B (rs ++ ss) := by
  obtain ⟨xs', h1, h2⟩ := h
  obtain ⟨ys', g1, g2⟩ := g
  rw [h1] at hx
  cases hx
  rw [g1] at hy
  cases hy
  refine ⟨_, upd_same, ?_⟩
  rw [List.map_append]
  exact (h2.app g2).mono (same_upd nB)
theorem Ls.len {H : Hp} {A : Addr} {rs : List Pr} {xs : List V} (h : Ls H A rs) (hx : H A = some (.lst xs)) : xs.length = rs.length := by
  obtain ⟨xs', h1, h2⟩ := h
  rw [h1] at hx
  cases hx
  have := h2.len
  rwa [List.length_map] at this
structure TwI (mo : Int) (H H' : Hp) (d b c : Addr) (N : Int) (ps : List Pr) (r : List Int) : Prop where
  sm : Same (del H d) H'
  dr : DrO H' d
  ls : Ls (del H' d) b ps
  il : IL (del H' d) c r
  N4 : 4 ≤ N
  N7 : N ≤ mo
  ndp : ps.Nodup
  rng : ∀ z ∈ ps, 0 ≤ z.1 ∧ z.1 < z.2 ∧ z.2 < N
  p : r.Perm (ran N.toNat)
theorem TwI.next {mo : Int} {H H' H2 : Hp} {d b c : Addr} {N : Int} {ps : List Pr} {r : List Int} (I : TwI mo H H' d b c N ps r) (s : Same (del H' d) H2) (dr : DrO H2 d) : TwI mo H H2 d b c N ps r :=
  ⟨sd_trans I.sm s, dr, I.ls.mono (same_del s), (same_del s) _ _ I.il, I.N4, I.N7, I.ndp, I.rng, I.p⟩
/-- _law_twins -/
def spTwn : Sp := fun vs H Q _ => ∃ (d : Addr) (v : V) (q : List Pr) (r : List Int) (mo : Int), vs = [.ref d, v, .int mo] ∧ 5 ≤ mo ∧ mo ≤ 7 ∧ DrO H d ∧ CsAt (del H d) v 4 q r ∧ Csk 4 q r ∧ OutCs H d 2 mo Q
theorem sc_tw : FnScope ["_law_draws_here", "_law_case_here", "_law_most", "_law_many", "_law_pairs", "_law_row_here", "_law_turn", "_law_old", "_law_near_here", "_law_x", "_law_place"] ["_law_draws_here", "_law_case_here", "_law_most"] (defScope s_tw) := ⟨rfl, rfl, rfl, by decide +kernel, rfl, by decide +kernel, by decide +kernel⟩
theorem ok_tw (F : Fun K "_law_twins" "_law_twins" s_tw f fd) (B : Blt2 mg) (TK : Df P w K mg base "_law_take" 1 ["_law_draws_here", "_law_many"] spTk) (NE : Df P w K mg base "_law_near" 2 ["_law_many", "_law_pairs", "_law_x"] spNu) : FnOk P w K mg base (L2.CX P w) 3 f fd ["_law_draws_here", "_law_case_here", "_law_most"] spTwn := by
  refine F.okX sc_tw (fun vs H Q E h => ?_) (fun cdv A outer s H vs Q E hr h => ?_)
  · obtain ⟨d, v, q, r, mo, rfl, _⟩ := h
    rfl
  · obtain ⟨d, v, q, r, mo, rfl, mo5, mo7, dr, ⟨a1, b1, c1, rfl, h1, hq, hr1⟩, K1, k⟩ := h
    have nd := sc_tw.nd
    have r1 : Room 1 _ := hr.mono (by decide)
    have r2 : Room 2 _ := hr.mono (by decide)
    refine ⟨_, pss_cons (ps_set (i := 3) nd rfl (.inr rfl) (pe_ix ix_list (pv 1) pe_int (fun _ _ => rfl)))
      (pss_cons (ps_set (i := 4) nd rfl (.inl rfl) (pe_callTy call_list_of (by rfl) B.list (by decide +kernel) (pa_cons (pe_ix ix_list (pv 1) pe_int (fun _ _ => rfl)) pa_nil)))
      (pss_cons (ps_set (i := 5) nd rfl (.inl rfl) (pe_callTy call_list_of (by rfl) B.list (by decide +kernel) (pa_cons (pe_ix ix_list (pv 1) pe_int (fun _ _ => rfl)) pa_nil)))
      (pss_cons (ps_for (passes_of rfl) rfl (pi_range1 (by rfl) B.range (pa_cons pe_int pa_nil)) (pg_name (i := 6) nd rfl (.inl rfl))
        (pss_cons (ps_set (i := 7) nd rfl (.inl rfl) (pe_df TK r1 (by rfl) passUp (pa_cons (pv 0) (pa_cons (pv 3) pa_nil))))
        (pss_one (ps_if (PW.pt (pw_and (pt_cmpR op_lt (pv 3) (pv 2) (nomark _)) (pw_and1 (pt_cmpR op_gt (pe_df TK r1 (by rfl) passUp (pa_cons (pv 0) (pa_cons pe_int pa_nil))) pe_int (nomark _)))))
          (pss_cons (ps_set (i := 8) nd rfl (.inl rfl) (pe_df NE r2 (by rfl) passUp (pa_cons (pv 3) (pa_cons (pv 4) (pa_cons (pv 7) pa_nil)))))
          (pss_cons (ps_if (pt_cmpR op_eq (pe_df TK r1 (by rfl) passUp (pa_cons (pv 0) (pa_cons pe_int pa_nil))) pe_int (nomark _)) (pss_one (ps_expr (pe_lapp (pv 8) (pa_cons (pv 7) pa_nil)))) pss_nil)
          (pss_cons (ps_set (i := 4) nd rfl (.inl rfl) (pe_op op_cat (pv 4) (pe_lc (own := [("_law_x", 9)]) (g := gName 9) (tt := tYes) (te := tTup (tCons (tVar 9) (tCons (tVar 3) tNil))) rfl nd (pi_list (pv 8))
            (blkOk_by (N := ["_law_draws_here", "_law_case_here", "_law_most", "_law_many", "_law_pairs", "_law_row_here", "_law_turn", "_law_old", "_law_near_here", "_law_x", "_law_place"]) (sc := defScope s_tw) (by decide +kernel)) (fun _ _ _ _ _ => pg_name (i := 9) nd rfl (.inl rfl)) (fun _ _ _ _ _ => pts_nil) (fun _ _ _ _ _ => pe_tup (pa_cons (pv 9) (pa_cons (pv 3) pa_nil))))))
          (pss_cons (ps_set (i := 10) nd rfl (.inl rfl) (pe_op op_add (pe_lidx (pv 5) (pa_cons (pv 7) pa_nil)) pe_int))
          (pss_cons (ps_set (i := 5) nd rfl (.inl rfl) (pe_op op_cat (pe_op op_cat (pe_slice sl_list (pv 5) po_none (po_some (pv 10))) (pe_lst (pa_cons (pv 3) pa_nil))) (pe_slice sl_list (pv 5) (po_some (pv 10)) po_none)))
          (pss_one (ps_set (i := 3) nd rfl (.inr rfl) (pe_op op_add (pv 3) pe_int)))))))) pss_nil))))
      (pss_one (ps_ret (pe_lst (pa_cons (pv 3) (pa_cons (pe_callB cr_srtP (by rfl) B.sorted (by decide +kernel) (pa_cons (pv 4) pa_nil)) (pa_cons (pv 5) pa_nil))))))))), ?_⟩
    obtain ⟨qs, hb1, dq⟩ := id hq
    have h1' := del_sub _ _ h1
    have hr' : H c1 = some (.lst (r.map V.int)) := del_sub _ _ hr1
    refine ⟨_, rfl, a1, _, 0, _, rfl, rfl, SqL.of h1', rfl, ?_⟩
    refine ⟨_, rfl, a1, _, 1, _, rfl, rfl, SqL.of h1', rfl, b1, _, rfl, .inl (SqL.of (del_sub _ _ hb1)), fun D nD => ?_⟩
    have s1 := same_upd (o := .lst qs) nD
    have Dd := dr.ne nD
    refine ⟨_, rfl, a1, _, 2, _, rfl, rfl, SqL.of (s1 _ _ h1'), rfl, c1, _, rfl, .inl (SqL.of (s1 _ _ hr')), fun G0 nG0 => ?_⟩
    have s2 := same_upd (o := .lst (r.map V.int)) nG0
    have G0d := (dr.mono s1).ne nG0
    have s12 := s1.trans s2
    have I0 : TwI mo H (heapOf s2) d D G0 4 q r := ⟨del_sub.trans s12, dr.mono s12, Ls.del ⟨qs, s2 _ _ upd_same, dq.mono (del_sub.trans s12)⟩ (dr.mono s12) Dd, IL.del upd_same G0d, by decide, by omega, pairwise_nodup K1.c.srt, K1.c.rng, K1.p⟩
    let Pv : Nat → L2.St → Hp → Prop := fun i σ H' => ∃ (N : Int) (ps : List Pr) (r : List Int) (b c : Addr) (o6 o7 o8 o10 : Option V), σ = [some (.ref d), some (.ref a1), some (.int mo), some (.int N), some (.ref b), some (.ref c), o6, o7, o8, none, o10] ∧ TwI mo H H' d b c N ps r
    refine ⟨3, rfl, by decide, by decide, for_range (n := 3) Pv ⟨4, q, r, D, G0, none, none, none, none, rfl, I0⟩ (fun i σ H1 hi h => ?_) (fun σ H1 h => ?_)⟩
    · obtain ⟨N, ps, r, b, c, o6, o7, o8, o10, rfl, I1⟩ := h
      have N4 := I1.N4; have N7 := I1.N7
      refine ⟨_, rfl, _, rfl, d, N, rfl, by omega, I1.dr, fun old H2 o0 oN s2 dr2 => ?_⟩
      obtain ⟨x, rfl⟩ := Int.eq_ofNat_of_zero_le o0
      have I2 := I1.next s2 dr2
      refine ⟨_, rfl, _, rfl, _, _, rfl, rfl, _, rfl, ?_⟩
      by_cases lt : N < mo
      case neg =>
        rw [decide_eq_false lt]
        exact iteF (iteF ⟨N, ps, r, b, c, _, _, _, _, rfl, I2⟩)
      rw [decide_eq_true lt]
      refine iteT ⟨_, rfl, d, 4, rfl, by decide, dr2, fun t H3 t0 t4 s3 dr3 => ⟨_, _, rfl, rfl, _, rfl, ?_⟩⟩
      have I3 := I2.next s3 dr3
      by_cases tp : 0 < t
      case neg =>
        rw [decide_eq_false tp]
        exact iteF ⟨N, ps, r, b, c, _, _, _, _, rfl, I3⟩
      rw [decide_eq_true tp]
      refine iteT ⟨_, rfl, _, rfl, _, rfl, b, N, x, ps, rfl, by omega, by omega, (fun z hz => (I3.rng z hz).2.1), I3.ls.mono del_sub, fun H4 t' s4 nt ht => ?_⟩
      have td := dr3.ne nt
      have dr4 := dr3.mono s4
      have s34 : Same (del H3 d) H4 := del_sub.trans s4
      refine ⟨_, rfl, d, 2, rfl, by decide, dr4, fun u H5 u0 u2 s5 dr5 => ⟨rfl, _, rfl, ?_⟩⟩
      rw [dec_int]
      have s35 := sd_trans s34 s5
      have ht5 : H5 t' = some (.lst (nvs (nearOf N ps x))) := s5 _ _ (by rw [del_ne td]; exact ht)
      have ndn : (nearOf N ps x).Nodup := List.nodup_range.filter _
      have ltn : ∀ y ∈ nearOf N ps x, (y : Int) < N := fun y hy => by
        have := List.mem_range.mp (List.mem_filter.mp hy).1
        omega
      have lnn : (nearOf N ps x).length ≤ 7 := by
        have := List.length_filter_le (hasP ps x) (List.range N.toNat)
        rw [List.length_range] at this
        exact Nat.le_trans this (by omega)
      by_cases eu : u = 1
      · rw [show (u == 1) = true by simpa using eu]
        refine iteT ⟨_, rfl, .inl ⟨rfl, _, SqL.of ht5⟩, _, rfl, t', _, _, rfl, rfl, ht5, by rw [nvs_len, sizeLine_eq]; omega, ?_⟩
        have I6 : TwI mo H (upd H5 t' (.lst (nvs (nearOf N ps x) ++ [.int (x : Int)]))) d b c N ps r := I3.next (sd_upd s35 nt td) (dr5.upd td)
        have ht6 : (upd H5 t' (.lst (nvs (nearOf N ps x) ++ [.int (x : Int)]))) t' = some (.lst (nvs (nearOf N ps x ++ [x]))) := by
          rw [upd_same]
          unfold nvs
          rw [List.map_append]
          rfl
        have nx : x ∉ nearOf N ps x := fun h => by
          have := (List.mem_filter.mp h).2
          have this := hasP_cl.mp this
          unfold cl at this
          rcases this with h | h <;> (have := I3.rng _ h; dsimp only at this; omega)
        have nd6 : (nearOf N ps x ++ [x]).Nodup := List.nodup_append.mpr ⟨ndn, by simp, fun a ha b hb e => by
          rw [List.mem_singleton.mp hb] at e
          rw [e] at ha
          exact nx ha⟩
        have lt6 : ∀ y ∈ nearOf N ps x ++ [x], (y : Int) < N := fun y hy => by
          rcases List.mem_append.mp hy with h | h
          · exact ltn y h
          · rw [List.mem_singleton.mp h]; exact oN
        have ln6 : (nearOf N ps x ++ [x]).length ≤ 8 := by rw [List.length_append]; show _ + 1 ≤ 8; omega
        obtain ⟨bs, hb6, _⟩ := id (I6.ls.mono del_sub)
        have ls6 := I6.ls.mono del_sub
        refine ⟨_, rfl, _, rfl, t', rfl, ⟨_, SqL.of ht6⟩, fun G nG => ?_⟩
        refine lc_list (K := K) (a := t') (xs := nvs (nearOf N ps x ++ [x])) (fun i H' => Same (upd H5 t' (.lst (nvs (nearOf N ps x) ++ [.int (x : Int)]))) H' ∧ Grow H' G (((nearOf N ps x ++ [x]).take i).map fun (y : Nat) => ((y : Int), N))) ⟨same_upd nG, [], upd_same, rfl, fun z hz => by cases hz⟩ (fun i H' _ z => SqL.of (z.1 _ _ ht6)) (fun i v H' hi z => ?_) (fun H7 z => ?_)
        · obtain ⟨s7, g7⟩ := z
          obtain ⟨y, hy, rfl⟩ := nvs_val hi
          obtain ⟨as, hA, lA, _⟩ := g7.at
          refine ⟨rfl, _, rfl, _, rfl, (by show 2 ≤ sizeLine; decide), fun u nu => ?_⟩
          have s8 : Same H' (upd H' u (.tup [.int (y : Int), .int N])) := same_upd nu
          have := take_room (nearOf N ps x ++ [x]) i
          refine ⟨as, s8 _ _ hA, by rw [lA, List.length_map, sizeLine_eq]; omega, same_keep nG (s7.trans s8), ?_⟩
          rw [take_at hy, List.map_append]
          exact g7.push nu hA
        · obtain ⟨s7, g7⟩ := z
          rw [nvs_len, List.take_length] at g7
          obtain ⟨as, hA, lA, _⟩ := g7.at
          rw [List.length_map] at lA
          have few := few28 (n := N) (by omega) I6.ndp I6.rng
          refine ⟨_, G, bs, as, rfl, rfl, s7 _ _ hb6, hA, by rw [ls6.len hb6, lA, sizeLine_eq]; omega, fun B' nB => ?_⟩
          have s8 := same_upd (o := .lst (bs ++ as)) nB
          have lsB : Ls (heapOf s8) B' (ps ++ (nearOf N ps x ++ [x]).map fun (y : Nat) => ((y : Int), N)) := (ls6.mono s7).cat g7.ls (s7 _ _ hb6) hA nB
          have s68 := s7.trans s8
          have I8 := I6.next (del_sub.trans s68) (I6.dr.mono s68)
          have hc8 : heapOf s8 c = some (.lst (r.map V.int)) := del_sub _ _ I8.il
          have memr : (x : Int) ∈ r := I6.p.mem_iff.mpr (List.mem_map.mpr ⟨x, List.mem_range.mpr (by omega), rfl⟩)
          obtain ⟨j, hj, hno⟩ := ex_idx memr
          have hj2 : j < r.length := (List.getElem?_eq_some_iff.mp hj).1
          have lr : r.length = N.toNat := by rw [I6.p.length_eq, ran_len]
          refine ⟨_, rfl, .inl ⟨rfl, _, SqL.of hc8⟩, _, rfl, c, r.map V.int, .int (x : Int), j, .int (x : Int), rfl, rfl, SqL.of hc8, rfl, List.all_eq_true.mpr (fun v hv => by obtain ⟨i, _, rfl⟩ := List.mem_map.mp hv; rfl), by rw [List.getElem?_map, hj]; rfl, by show ((x : Int) == (x : Int)) = true; simp, fun m z' hm hz => ?_, _, _, rfl, rfl, ?_⟩
          · obtain ⟨i, hi, rfl⟩ := ints_val hz
            have := hno m hm i hi
            show ((i : Int) == (x : Int)) = false
            simpa using this
          refine ⟨_, rfl, _, rfl, _, rfl, c, _, rfl, SqL.of hc8, fun k1 m1 => ?_⟩
          have ej : ((j : Nat) : Int) + 1 = ((j + 1 : Nat) : Int) := rfl
          rw [ej, cut_take]
          have q1 := same_upd (o := .lst ((r.map V.int).take (j + 1))) m1
          refine ⟨_, rfl, by show 1 ≤ sizeLine; decide, fun k2 m2 => ?_⟩
          have q2 := same_upd (o := .lst [.int N]) m2
          refine ⟨k1, k2, _, _, rfl, rfl, q2 _ _ upd_same, upd_same, ?_, fun k3 m3 => ?_⟩
          · rw [List.length_take, List.length_map, sizeLine_eq]
            show _ + 1 ≤ _
            omega
          have q3 := same_upd (o := .lst ((r.map V.int).take (j + 1) ++ [.int N])) m3
          refine ⟨_, rfl, _, rfl, _, rfl, c, _, rfl, SqL.of ((q1.trans (q2.trans q3)) _ _ hc8), fun k4 m4 => ?_⟩
          rw [ej, cut_drop _ _ (by rw [List.length_map]; omega)]
          have q4 := same_upd (o := .lst ((r.map V.int).drop (j + 1))) m4
          refine ⟨k3, k4, _, _, rfl, rfl, q4 _ _ upd_same, upd_same, ?_, fun k5 m5 => ?_⟩
          · rw [List.length_append, List.length_take, List.length_drop, List.length_map, sizeLine_eq]
            show _ + 1 + _ ≤ _
            omega
          have q5 := same_upd (o := .lst ((r.map V.int).take (j + 1) ++ [.int N] ++ (r.map V.int).drop (j + 1))) m5
          have q15 := ((q1.trans q2).trans q3).trans (q4.trans q5)
          have I9 := I8.next (del_sub.trans q15) (I8.dr.mono q15)
          have dr8 := I8.dr
          have Bd : B' ≠ d := (I6.dr.mono s7).ne nB
          have k5d : k5 ≠ d := (I8.dr.mono (((q1.trans q2).trans q3).trans q4)).ne m5
          refine ⟨_, rfl, _, _, rfl, rfl, N + 1, ps ++ (nearOf N ps x ++ [x]).map (fun (y : Nat) => ((y : Int), N)), r.take (j + 1) ++ [N] ++ r.drop (j + 1), B', k5, _, _, _, _, rfl, I9.sm, I9.dr, (lsB.mono q15).del I9.dr Bd, IL.del (by show (upd _ _ _) _ = _; rw [upd_same, List.map_append, List.map_append, List.map_take, List.map_drop]; rfl) k5d, by have := I6.N4; omega, by omega, ?_, ?_, ?_⟩
          · refine List.nodup_append.mpr ⟨I6.ndp, List.pairwise_map.mpr (List.Pairwise.imp (fun {a b} ne e => ne (by have := (Prod.ext_iff.mp e).1; dsimp only at this; omega)) nd6), fun z h1 z' h2 e => ?_⟩
            subst e
            obtain ⟨y, _, rfl⟩ := List.mem_map.mp h2
            have := I6.rng _ h1
            dsimp only at this
            omega
          · intro z hz
            rcases List.mem_append.mp hz with h | h
            · have := I6.rng z h
              omega
            · obtain ⟨y, hy, rfl⟩ := List.mem_map.mp h
              have := lt6 y hy
              dsimp only
              omega
          · have e : (N + 1).toNat = N.toNat + 1 := by have := I6.N4; omega
            have eN : ((N.toNat : Nat) : Int) = N := by have := I6.N4; omega
            rw [e, ran_succ, eN]
            refine (perm_put r N (j + 1)).trans ?_
            refine List.Perm.trans (.cons N I6.p) ?_
            exact (List.perm_append_singleton N (ran N.toNat)).symm
      · rw [show (u == 1) = false by simpa using eu]
        refine iteF ?_
        have I6 := I3.next s35 dr5
        obtain ⟨bs, hb6, _⟩ := id (I6.ls.mono del_sub)
        have ls6 := I6.ls.mono del_sub
        refine ⟨_, rfl, _, rfl, t', rfl, ⟨_, SqL.of ht5⟩, fun G nG => ?_⟩
        refine lc_list (K := K) (a := t') (xs := nvs (nearOf N ps x)) (fun i H' => Same H5 H' ∧ Grow H' G (((nearOf N ps x).take i).map fun (y : Nat) => ((y : Int), N))) ⟨same_upd nG, [], upd_same, rfl, fun z hz => by cases hz⟩ (fun i H' _ z => SqL.of (z.1 _ _ ht5)) (fun i v H' hi z => ?_) (fun H7 z => ?_)
        · obtain ⟨s7, g7⟩ := z
          obtain ⟨y, hy, rfl⟩ := nvs_val hi
          obtain ⟨as, hA, lA, _⟩ := g7.at
          refine ⟨rfl, _, rfl, _, rfl, (by show 2 ≤ sizeLine; decide), fun u nu => ?_⟩
          have s8 : Same H' (upd H' u (.tup [.int (y : Int), .int N])) := same_upd nu
          have := take_room (nearOf N ps x) i
          refine ⟨as, s8 _ _ hA, by rw [lA, List.length_map, sizeLine_eq]; omega, same_keep nG (s7.trans s8), ?_⟩
          rw [take_at hy, List.map_append]
          exact g7.push nu hA
        · obtain ⟨s7, g7⟩ := z
          rw [nvs_len, List.take_length] at g7
          obtain ⟨as, hA, lA, _⟩ := g7.at
          rw [List.length_map] at lA
          have few := few28 (n := N) (by omega) I6.ndp I6.rng
          refine ⟨_, G, bs, as, rfl, rfl, s7 _ _ hb6, hA, by rw [ls6.len hb6, lA, sizeLine_eq]; omega, fun B' nB => ?_⟩
          have s8 := same_upd (o := .lst (bs ++ as)) nB
          have lsB : Ls (heapOf s8) B' (ps ++ (nearOf N ps x).map fun (y : Nat) => ((y : Int), N)) := (ls6.mono s7).cat g7.ls (s7 _ _ hb6) hA nB
          have s68 := s7.trans s8
          have I8 := I6.next (del_sub.trans s68) (I6.dr.mono s68)
          have hc8 : heapOf s8 c = some (.lst (r.map V.int)) := del_sub _ _ I8.il
          have memr : (x : Int) ∈ r := I6.p.mem_iff.mpr (List.mem_map.mpr ⟨x, List.mem_range.mpr (by omega), rfl⟩)
          obtain ⟨j, hj, hno⟩ := ex_idx memr
          have hj2 : j < r.length := (List.getElem?_eq_some_iff.mp hj).1
          have lr : r.length = N.toNat := by rw [I6.p.length_eq, ran_len]
          refine ⟨_, rfl, .inl ⟨rfl, _, SqL.of hc8⟩, _, rfl, c, r.map V.int, .int (x : Int), j, .int (x : Int), rfl, rfl, SqL.of hc8, rfl, List.all_eq_true.mpr (fun v hv => by obtain ⟨i, _, rfl⟩ := List.mem_map.mp hv; rfl), by rw [List.getElem?_map, hj]; rfl, by show ((x : Int) == (x : Int)) = true; simp, fun m z' hm hz => ?_, _, _, rfl, rfl, ?_⟩
          · obtain ⟨i, hi, rfl⟩ := ints_val hz
            have := hno m hm i hi
            show ((i : Int) == (x : Int)) = false
            simpa using this
          refine ⟨_, rfl, _, rfl, _, rfl, c, _, rfl, SqL.of hc8, fun k1 m1 => ?_⟩
          have ej : ((j : Nat) : Int) + 1 = ((j + 1 : Nat) : Int) := rfl
          rw [ej, cut_take]
          have q1 := same_upd (o := .lst ((r.map V.int).take (j + 1))) m1
          refine ⟨_, rfl, by show 1 ≤ sizeLine; decide, fun k2 m2 => ?_⟩
          have q2 := same_upd (o := .lst [.int N]) m2
          refine ⟨k1, k2, _, _, rfl, rfl, q2 _ _ upd_same, upd_same, ?_, fun k3 m3 => ?_⟩
          · rw [List.length_take, List.length_map, sizeLine_eq]
            show _ + 1 ≤ _
            omega
          have q3 := same_upd (o := .lst ((r.map V.int).take (j + 1) ++ [.int N])) m3
          refine ⟨_, rfl, _, rfl, _, rfl, c, _, rfl, SqL.of ((q1.trans (q2.trans q3)) _ _ hc8), fun k4 m4 => ?_⟩
          rw [ej, cut_drop _ _ (by rw [List.length_map]; omega)]
          have q4 := same_upd (o := .lst ((r.map V.int).drop (j + 1))) m4
          refine ⟨k3, k4, _, _, rfl, rfl, q4 _ _ upd_same, upd_same, ?_, fun k5 m5 => ?_⟩
          · rw [List.length_append, List.length_take, List.length_drop, List.length_map, sizeLine_eq]
            show _ + 1 + _ ≤ _
            omega
          have q5 := same_upd (o := .lst ((r.map V.int).take (j + 1) ++ [.int N] ++ (r.map V.int).drop (j + 1))) m5
          have q15 := ((q1.trans q2).trans q3).trans (q4.trans q5)
          have I9 := I8.next (del_sub.trans q15) (I8.dr.mono q15)
          have dr8 := I8.dr
          have Bd : B' ≠ d := (I6.dr.mono s7).ne nB
          have k5d : k5 ≠ d := (I8.dr.mono (((q1.trans q2).trans q3).trans q4)).ne m5
          refine ⟨_, rfl, _, _, rfl, rfl, N + 1, ps ++ (nearOf N ps x).map (fun (y : Nat) => ((y : Int), N)), r.take (j + 1) ++ [N] ++ r.drop (j + 1), B', k5, _, _, _, _, rfl, I9.sm, I9.dr, (lsB.mono q15).del I9.dr Bd, IL.del (by show (upd _ _ _) _ = _; rw [upd_same, List.map_append, List.map_append, List.map_take, List.map_drop]; rfl) k5d, by have := I6.N4; omega, by omega, ?_, ?_, ?_⟩
          · refine List.nodup_append.mpr ⟨I6.ndp, List.pairwise_map.mpr (List.Pairwise.imp (fun {a b} ne e => ne (by have := (Prod.ext_iff.mp e).1; dsimp only at this; omega)) ndn), fun z h1 z' h2 e => ?_⟩
            subst e
            obtain ⟨y, _, rfl⟩ := List.mem_map.mp h2
            have := I6.rng _ h1
            dsimp only at this
            omega
          · intro z hz
            rcases List.mem_append.mp hz with h | h
            · have := I6.rng z h
              omega
            · obtain ⟨y, hy, rfl⟩ := List.mem_map.mp h
              have := ltn y hy
              dsimp only
              omega
          · have e : (N + 1).toNat = N.toNat + 1 := by have := I6.N4; omega
            have eN : ((N.toNat : Nat) : Int) = N := by have := I6.N4; omega
            rw [e, ran_succ, eN]
            refine (perm_put r N (j + 1)).trans ?_
            refine List.Perm.trans (.cons N I6.p) ?_
            exact (List.perm_append_singleton N (ran N.toNat)).symm
    · obtain ⟨N, ps, r, b, c, o6, o7, o8, o10, rfl, I1⟩ := h
      have N4 := I1.N4; have N7 := I1.N7
      refine ⟨_, rfl, _, rfl, b, ps, rfl, I1.ls.mono del_sub, I1.ndp, fun H2 pA rs s2 np lp pw hm _ => ⟨_, rfl, (by show 3 ≤ sizeLine; decide), fun R nR => ?_⟩⟩
      have dr2 := I1.dr.mono s2
      have pd := I1.dr.ne np
      have I2 := I1.next (del_sub.trans s2) dr2
      obtain ⟨x1, x2, x3⟩ := cs_up (n := N) I2.sm dr2 (lp.del dr2 pd) I2.il nR
      exact k _ _ _ _ _ x1 x2 x3 ⟨⟨pw, fun z hz => I1.rng z ((hm z).mp hz)⟩, by omega, I1.p⟩ (by omega) N7
end
end K0
set_option Elab.async false
set_option linter.all false
set_option maxRecDepth 100000
set_option maxHeartbeats 4000000
namespace K0
open PySem PySem.Spec PyProof.Rows L2
section
variable {P : Program} {w : World} {K : PySem.W.Frag} {mg : Str → Option Value} {base : Heap} {f : Addr} {fd : FuncData}
abbrev s_ro : Stmt := top 60
abbrev s_fa : Stmt := top 62
/-- _law_row -/
def spRo : Sp := fun vs H Q _ => ∃ (d : Addr) (n : Int), vs = [.ref d, .int n] ∧ 0 ≤ n ∧ n ≤ 16 ∧ DrO H d ∧ ∀ H' a r, Same (del H d) H' → DrO H' d → H a = none → IL (del H' d) a r → r.Perm (ran n.toNat) → Q (.ref a) H'
theorem sc_ro : FnScope ["_law_draws_here", "_law_many", "_law_rest", "_law_x", "_law_row_here", "_law_k", "_law_which", "_law_j"] ["_law_draws_here", "_law_many"] (defScope s_ro) := ⟨rfl, rfl, rfl, by decide +kernel, rfl, by decide +kernel, by decide +kernel⟩
structure RoI (H H' : Hp) (d c D : Addr) (n : Nat) (R W : List Int) : Prop where
  sm : Same (del H d) H'
  dr : DrO H' d
  il : IL (del H' d) c R
  iw : IL (del H' d) D W
  cD : c ≠ D
  p : (W ++ R).Perm (ran n)
theorem ok_ro (F : Fun K "_law_row" "_law_row" s_ro f fd) (B : Blt2 mg) (TK : Df P w K mg base "_law_take" 1 ["_law_draws_here", "_law_many"] spTk) : FnOk P w K mg base (L2.CX P w) 2 f fd ["_law_draws_here", "_law_many"] spRo := by
  refine F.okX sc_ro (fun vs H Q E h => ?_) (fun cdv A outer s H vs Q E hr h => ?_)
  · obtain ⟨d, n, rfl, _⟩ := h
    rfl
  · obtain ⟨d, n, rfl, n0, n16, dr, k⟩ := h
    have nd := sc_ro.nd
    have r1 : Room 1 _ := hr.mono (by decide)
    refine ⟨_, pss_cons (ps_set (i := 2) nd rfl (.inr rfl) (pe_lc (own := [("_law_x", 3)]) (g := gName 3) (tt := tYes) (te := tVar 3) rfl nd (pi_range1 (by rfl) B.range (pa_cons (pv 1) pa_nil))
        (blkOk_by (N := ["_law_draws_here", "_law_many", "_law_rest", "_law_x", "_law_row_here", "_law_k", "_law_which", "_law_j"]) (sc := defScope s_ro) (by decide +kernel)) (fun _ _ _ _ _ => pg_name (i := 3) nd rfl (.inl rfl)) (fun _ _ _ _ _ => pts_nil) (fun _ _ _ _ _ => pv 3)))
      (pss_cons (ps_set (i := 4) nd rfl (.inl rfl) (pe_lst pa_nil))
      (pss_cons (ps_for (passes_of rfl) rfl (pi_range1 (by rfl) B.range (pa_cons (pv 1) pa_nil)) (pg_name (i := 5) nd rfl (.inl rfl))
        (pss_cons (ps_set (i := 6) nd rfl (.inr rfl) (pe_df TK r1 (by rfl) passUp (pa_cons (pv 0) (pa_cons (pe_callB c_len (by rfl) B.len PySem.boot_len (pa_cons (pv 2) pa_nil)) pa_nil))))
        (pss_cons (ps_expr (pe_lapp (pv 4) (pa_cons (pe_ix ix_list (pv 2) (pv 6) (fun _ _ => rfl)) pa_nil)))
        (pss_one (ps_set (i := 2) nd rfl (.inr rfl) (pe_lc (own := [("_law_j", 7)]) (g := gName 7) (tt := tTest (tOp rNe (tVar 7) (tVar 6))) (te := tOp (rIxL K) (tVar 2) (tVar 7)) rfl nd
          (pi_range1 (by rfl) B.range (pa_cons (pe_callB c_len (by rfl) B.len PySem.boot_len (pa_cons (pv 2) pa_nil)) pa_nil)) (blkOk_by (N := ["_law_draws_here", "_law_many", "_law_rest", "_law_x", "_law_row_here", "_law_k", "_law_which", "_law_j"]) (sc := defScope s_ro) (by decide +kernel)) (fun _ _ _ _ _ => pg_name (i := 7) nd rfl (.inl rfl))
          (fun _ _ _ _ _ => pts_one (pt_cmpR op_ne (pv 7) (pv 6) (by rfl))) (fun _ _ _ _ _ => pe_ix ix_list (pv 2) (pv 7) (fun _ _ => rfl))))))))
      (pss_one (ps_ret (pv 4))))), ?_⟩
    refine ⟨_, rfl, n, rfl, by omega, by omega, fun C0 nC0 => ?_⟩
    refine lc_range (lo := 0) (n := n.toNat) (fun i H' => Same H H' ∧ IL H' C0 (ran i)) ⟨same_upd nC0, upd_same⟩ (fun i H' hi z => ?_) (fun H1 z => ?_)
    · rw [Int.zero_add]
      exact ⟨rfl, _, rfl, ran_step nC0 hi (by omega) z⟩
    obtain ⟨s1, hC0⟩ := z
    have dr1 := dr.mono s1
    have C0d := dr.ne nC0
    refine ⟨by show 0 ≤ sizeLine; exact Nat.zero_le _, fun D nD => ?_⟩
    have s2 := same_upd (o := .lst []) nD
    have Dd := dr1.ne nD
    have hD0 : H D = none := s1.free nD
    have C0D : C0 ≠ D := fun e => by rw [e] at hC0; rw [show H1 D = _ from hC0] at nD; cases nD
    let Pv : Nat → L2.St → Hp → Prop := fun i σ H' => ∃ (c : Addr) (o5 o6 : Option V) (R W : List Int), σ = [some (.ref d), some (.int n), some (.ref c), none, some (.ref D), o5, o6, none] ∧ RoI H H' d c D n.toNat R W ∧ R.length + i = n.toNat
    refine ⟨_, rfl, n, rfl, by omega, by omega, for_range (n := n.toNat) Pv ⟨C0, none, none, ran n.toNat, [], rfl, ⟨del_sub.trans (s1.trans s2), dr1.mono s2, IL.del (s2 _ _ hC0) C0d, IL.del upd_same Dd, C0D, by rw [List.nil_append]⟩, by rw [ran_len]; rfl⟩ (fun i σ H2 hi h => ?_) (fun σ H2 h => ?_)⟩
    · obtain ⟨c, o5, o6, R, W, rfl, I, lR⟩ := h
      have hc := del_sub _ _ I.il
      have lRW : R.length + W.length = n.toNat := by
        have := I.p.length_eq
        rw [List.length_append, ran_len] at this
        omega
      refine ⟨_, rfl, _, rfl, c, _, rfl, .inl (SqL.of hc), d, _, rfl, by rw [List.length_map]; omega, I.dr, fun wv H3 w0 w1 s3 dr3 => ?_⟩
      rw [List.length_map] at w1
      obtain ⟨wh, rfl⟩ := Int.eq_ofNat_of_zero_le w0
      have hw : wh < R.length := by omega
      have sm3 := sd_trans I.sm s3
      have il3 := (same_del s3) _ _ I.il
      have iw3 := (same_del s3) _ _ I.iw
      have hc3 : H3 c = some (.lst (R.map V.int)) := del_sub _ _ il3
      have hD3 : H3 D = some (.lst (W.map V.int)) := del_sub _ _ iw3
      have at_ : ∀ {i : Nat}, i < R.length → atI (R.map V.int) (i : Int) = some (.int (R.getD i 0)) := fun {i} hi => atI_nat (by rw [List.getElem?_map, List.getD_eq_getElem?_getD, List.getElem?_eq_getElem hi]; rfl)
      refine ⟨_, rfl, .inl ⟨rfl, _, SqL.of hD3⟩, _, rfl, _, rfl, c, _, _, _, rfl, rfl, SqL.of hc3, at_ hw, D, _, _, rfl, rfl, hD3, by rw [List.length_map, sizeLine_eq]; omega, ?_⟩
      have sm4 := sd_upd (o := .lst (W.map V.int ++ [.int (R.getD wh 0)])) sm3 hD0 Dd
      have dr4 : DrO (upd H3 D (.lst (W.map V.int ++ [.int (R.getD wh 0)]))) d := dr3.upd Dd
      have hc4 : (upd H3 D (.lst (W.map V.int ++ [.int (R.getD wh 0)]))) c = some (.lst (R.map V.int)) := by rw [upd_ne I.cD]; exact hc3
      have hD4 : (upd H3 D (.lst (W.map V.int ++ [.int (R.getD wh 0)]))) D = some (.lst ((W ++ [R.getD wh 0]).map V.int)) := by rw [upd_same, List.map_append]; rfl
      let Wk : Nat → List Int := fun i => (((List.range R.length).take i).filter fun k => !decide (k = wh)).map fun k => R.getD k 0
      refine ⟨_, rfl, c, _, rfl, .inl (SqL.of hc4), _, rfl, by rw [List.length_map]; omega, by rw [List.length_map]; omega, fun E nE => ?_⟩
      rw [List.length_map, Int.toNat_natCast]
      refine lc_range (lo := 0) (n := R.length) (fun i H' => Same (upd H3 D (.lst (W.map V.int ++ [.int (R.getD wh 0)]))) H' ∧ IL H' E (Wk i)) ⟨same_upd nE, upd_same⟩ (fun i H' hi z => ?_) (fun H' z => ?_)
      · obtain ⟨sm, hE⟩ := z
        rw [Int.zero_add]
        have eW : Wk (i + 1) = Wk i ++ (if i = wh then [] else [R.getD i 0]) := by
          show List.map _ _ = _
          rw [filter_take _ _ hi, List.map_append]
          congr 1
          by_cases e : i = wh <;> simp [e]
        have lW : (Wk i).length ≤ R.length := by
          show (List.map _ _).length ≤ _
          rw [List.length_map]
          refine Nat.le_trans (List.length_filter_le _ _) ?_
          rw [List.length_take, List.length_range]
          exact Nat.min_le_right _ _
        refine ⟨rfl, _, rfl, _, rfl, rfl, _, rfl, ?_⟩
        rw [dec_int]
        by_cases e : i = wh
        · rw [show (!(((i : Nat) : Int) == ((wh : Nat) : Int))) = false by simp [e]]
          refine iteF ⟨sm, ?_⟩
          rw [eW, if_pos e, List.append_nil]
          exact hE
        · rw [show (!(((i : Nat) : Int) == ((wh : Nat) : Int))) = true by simp; omega]
          refine iteT ⟨_, rfl, _, rfl, c, _, _, _, rfl, rfl, SqL.of (sm _ _ hc4), at_ hi, _, hE, by rw [List.length_map, sizeLine_eq]; omega, same_keep nE sm, ?_⟩
          show (upd _ _ _) _ = _
          rw [upd_same, eW, if_neg e, List.map_append]
          rfl
      · obtain ⟨sm, hE⟩ := z
        have eR : Wk R.length = ((List.range R.length).filter fun k => !decide (k = wh)).map fun k => R.getD k 0 := by
          show List.map _ _ = _
          rw [List.take_of_length_le (by rw [List.length_range]; exact Nat.le_refl _)]
        have pk := perm_pick R hw
        rw [← eR] at pk
        have lE := pk.length_eq
        rw [List.length_cons] at lE
        have Ed := dr4.ne nE
        have ED : E ≠ D := fun e => by rw [e, hD4] at nE; cases nE
        refine ⟨E, _, _, Wk R.length, W ++ [R.getD wh 0], rfl, ⟨sd_trans sm4 (del_sub.trans sm), dr4.mono sm, IL.del hE Ed, IL.del (sm _ _ hD4) Dd, ED, ?_⟩, by omega⟩
        rw [List.append_assoc]
        exact (List.Perm.append_left W pk).trans I.p
    · obtain ⟨c, o5, o6, R, W, rfl, I, lR⟩ := h
      have : R = [] := List.length_eq_zero_iff.mp (by omega)
      subst this
      have p := I.p
      rw [List.append_nil] at p
      exact ⟨_, rfl, k H2 D W I.sm I.dr hD0 I.iw p⟩
end
end K0
set_option Elab.async false
set_option linter.all false
set_option maxRecDepth 100000
set_option maxHeartbeats 4000000
namespace K0
open PySem PySem.Spec PyProof.Rows L2
section
variable {P : Program} {w : World} {K : PySem.W.Frag} {mg : Str → Option Value} {base : Heap} {f : Addr} {fd : FuncData}
abbrev s_fr : Stmt := top 61
/-- _law_falling -/
def spFa : Sp := fun vs H Q _ => ∃ (d : Addr) (n : Int), vs = [.ref d, .int n] ∧ 2 ≤ n ∧ n ≤ 16 ∧ DrO H d ∧ OutCs H d 2 n Q
theorem sc_fa : FnScope ["_law_draws_here", "_law_many", "_law_numbers", "_law_pairs", "_law_x", "_law_y"] ["_law_draws_here", "_law_many"] (defScope s_fa) := ⟨rfl, rfl, rfl, by decide +kernel, rfl, by decide +kernel, by decide +kernel⟩
theorem ok_fa (F : Fun K "_law_falling" "_law_falling" s_fa f fd) (B : Blt2 mg) (RO : Df P w K mg base "_law_row" 2 ["_law_draws_here", "_law_many"] spRo) : FnOk P w K mg base (L2.CX P w) 3 f fd ["_law_draws_here", "_law_many"] spFa := by
  refine F.okX sc_fa (fun vs H Q E h => ?_) (fun cdv A outer s H vs Q E hr h => ?_)
  · obtain ⟨d, n, rfl, _⟩ := h
    rfl
  · obtain ⟨d, n, rfl, n1, n16, dr, k⟩ := h
    have nd := sc_fa.nd
    have r2 : Room 2 _ := hr.mono (by decide)
    refine ⟨_, pss_cons (ps_set (i := 2) nd rfl (.inl rfl) (pe_df RO r2 (by rfl) passUp (pa_cons (pv 0) (pa_cons (pv 1) pa_nil))))
      (pss_cons (ps_set (i := 3) nd rfl (.inl rfl) (pe_lst pa_nil))
      (pss_cons (ps_for (passes_of rfl) rfl (pi_range1 (by rfl) B.range (pa_cons (pv 1) pa_nil)) (pg_name (i := 4) nd rfl (.inl rfl))
        (pss_one (ps_for (passes_of rfl) rfl (pi_range2 (by rfl) B.range (pa_cons (pe_op op_add (pv 4) pe_int) (pa_cons (pv 1) pa_nil))) (pg_name (i := 5) nd rfl (.inl rfl))
          (pss_one (ps_if (pt_cmpR op_gt (pe_ix ix_list (pv 2) (pv 4) (fun _ _ => rfl)) (pe_ix ix_list (pv 2) (pv 5) (fun _ _ => rfl)) (by rfl)) (pss_one (ps_expr (pe_lapp (pv 3) (pa_cons (pe_tup (pa_cons (pv 4) (pa_cons (pv 5) pa_nil))) pa_nil)))) pss_nil)))))
      (pss_one (ps_ret (pe_lst (pa_cons (pv 1) (pa_cons (pv 3) (pa_cons (pe_lc (own := [("_law_x", 4)]) (g := gName 4) (tt := tYes) (te := tVar 4) rfl nd (pi_range1 (by rfl) B.range (pa_cons (pv 1) pa_nil))
        (blkOk_by (N := ["_law_draws_here", "_law_many", "_law_numbers", "_law_pairs", "_law_x", "_law_y"]) (sc := defScope s_fa) (by decide +kernel)) (fun _ _ _ _ _ => pg_name (i := 4) nd rfl (.inl rfl)) (fun _ _ _ _ _ => pts_nil) (fun _ _ _ _ _ => pv 4)) pa_nil)))))))), ?_⟩
    refine ⟨_, rfl, _, rfl, d, n, rfl, by omega, n16, dr, fun H1 a r s1 dr1 na ha pr => ?_⟩
    have lr : r.length = n.toNat := by rw [pr.length_eq, ran_len]
    have ha1 : H1 a = some (.lst (r.map V.int)) := del_sub _ _ ha
    have at_ : ∀ {i : Nat}, i < r.length → atI (r.map V.int) (i : Int) = some (.int (r.getD i 0)) := fun {i} hi => atI_nat (by rw [List.getElem?_map, List.getD_eq_getElem?_getD, List.getElem?_eq_getElem hi]; rfl)
    refine ⟨by show 0 ≤ sizeLine; exact Nat.zero_le _, fun D nD => ?_⟩
    have Dd := dr1.ne nD
    let PP : Pr → Prop := fun z => r.getD z.2.toNat 0 < r.getD z.1.toNat 0
    let P1 : Nat → L2.St → Hp → Prop := fun i σ H' => ∃ o4 o5 rs, σ = [some (.ref d), some (.int n), some (.ref a), some (.ref D), o4, o5] ∧ Same H1 H' ∧ Grow H' D rs ∧ Lx n PP i (i + 1) rs
    refine ⟨_, rfl, n, rfl, by omega, by omega, for_range (n := n.toNat) P1 ⟨none, none, [], rfl, same_upd nD, ⟨[], upd_same, rfl, fun z hz => by cases hz⟩, by simpa using Lx.start⟩ (fun i σ H' hi h => ?_) (fun σ H' h => ?_)⟩
    · obtain ⟨o4, o5, rs, rfl, sm, g, lx⟩ := h
      rw [Int.zero_add]
      let P2 : Nat → L2.St → Hp → Prop := fun t σ H' => ∃ o5 rs, σ = [some (.ref d), some (.int n), some (.ref a), some (.ref D), some (.int (i : Int)), o5] ∧ Same H1 H' ∧ Grow H' D rs ∧ Lx n PP i ((i : Int) + 1 + t) rs
      refine ⟨_, rfl, _, _, rfl, rfl, _, rfl, _, _, rfl, ⟨by omega, by omega, by omega, by omega⟩, for_range (n := (n - ((i : Int) + 1)).toNat) P2 ⟨o5, rs, rfl, sm, g, by simpa using lx⟩ (fun t σ H2 ht h => ?_) (fun σ H2 h => ?_)⟩
      · obtain ⟨o5, rs, rfl, sm, g, lx⟩ := h
        have e0 : (i : Int) + 1 + t = ((i + 1 + t : Nat) : Int) := by omega
        rw [e0]
        have e1 : ((i + 1 + t : Nat) : Int) + 1 = (i : Int) + 1 + ((t + 1 : Nat) : Int) := by omega
        rw [e0] at lx
        refine ⟨_, rfl, _, rfl, a, _, _, _, rfl, rfl, SqL.of (sm _ _ ha1), at_ (by omega), _, rfl, _, rfl, a, _, _, _, rfl, rfl, SqL.of (sm _ _ ha1), at_ (by omega), _, _, rfl, rfl, _, rfl, ?_⟩
        by_cases lt : r.getD (i + 1 + t) 0 < r.getD i 0
        · rw [decide_eq_true lt]
          obtain ⟨xs, hx, lxs, _⟩ := g.at
          have few := lx.cl.few (by omega)
          refine iteT ⟨_, rfl, .inl ⟨rfl, xs, SqL.of hx⟩, _, rfl, _, rfl, (by show 2 ≤ sizeLine; decide), fun u nu => ?_⟩
          have s4 : Same H2 (upd H2 u (.tup [.int (i : Int), .int ((i + 1 + t : Nat) : Int)])) := same_upd nu
          refine ⟨D, xs, _, rfl, rfl, s4 _ _ hx, by rw [sizeLine_eq]; omega, _, rs ++ [((i : Int), ((i + 1 + t : Nat) : Int))], rfl, same_keep nD (sm.trans s4), g.push nu hx, ?_⟩
          have := lx.add (show PP ((i : Int), ((i + 1 + t : Nat) : Int)) from lt) ⟨by omega, by omega, by omega⟩
          rw [e1] at this
          exact this
        · rw [decide_eq_false lt]
          refine iteF ⟨_, rs, rfl, sm, g, ?_⟩
          have := lx.skip (show ¬ PP ((i : Int), ((i + 1 + t : Nat) : Int)) from lt)
          rw [e1] at this
          exact this
      · obtain ⟨o5, rs, rfl, sm, g, lx⟩ := h
        rw [show (i : Int) + 1 + ((n - ((i : Int) + 1)).toNat : Int) = n by omega] at lx
        refine ⟨_, _, rs, rfl, sm, g, ?_⟩
        have := lx.row
        rw [show (i : Int) + 2 = (i : Int) + 1 + 1 by omega] at this
        exact_mod_cast this
    · obtain ⟨o4, o5, rs, rfl, sm, g, lx⟩ := h
      rw [show ((n.toNat : Nat) : Int) = n by omega] at lx
      refine ⟨_, rfl, _, rfl, _, rfl, n, rfl, by omega, by omega, fun G nG => ?_⟩
      refine lc_range (lo := 0) (n := n.toNat) (fun i H2 => Same H' H2 ∧ IL H2 G (ran i)) ⟨same_upd nG, upd_same⟩ (fun i H2 hi z => ?_) (fun H2 z => ?_)
      · rw [Int.zero_add]
        exact ⟨rfl, _, rfl, ran_step nG hi (by omega) z⟩
      · obtain ⟨s4, hG⟩ := z
        refine ⟨(by show 3 ≤ sizeLine; decide), fun R nR => ?_⟩
        have dr2 := dr1.mono sm
        have dr4 := dr2.mono s4
        have Gd := dr2.ne nG
        obtain ⟨x1, x2, x3⟩ := cs_up (n := n) (sd_trans s1 (del_sub.trans (sm.trans s4))) dr4 ((g.ls.mono s4).del dr4 Dd) (hG.del Gd) nR
        exact k _ _ _ _ _ x1 x2 x3 ⟨lx.cl, by omega, .refl _⟩ (by omega) (Int.le_refl _)
end
end K0
set_option Elab.async false
set_option linter.all false
set_option maxRecDepth 100000
set_option maxHeartbeats 4000000
namespace K0
open PySem PySem.Spec PyProof.Rows L2
section
variable {P : Program} {w : World} {K : PySem.W.Frag} {mg : Str → Option Value} {base : Heap} {f : Addr} {fd : FuncData}
/-- _law_free -/
def spFr : Sp := fun vs H Q _ => ∃ (d : Addr) (n m : Int), vs = [.ref d, .int n, .int m] ∧ 2 ≤ n ∧ n ≤ 16 ∧ DrO H d ∧ OutCs H d 2 n Q
theorem sc_fr : FnScope ["_law_draws_here", "_law_many", "_law_left", "_law_pairs", "_law_x", "_law_y"] ["_law_draws_here", "_law_many", "_law_left"] (defScope s_fr) := ⟨rfl, rfl, rfl, by decide +kernel, rfl, by decide +kernel, by decide +kernel⟩
theorem ok_fr (F : Fun K "_law_free" "_law_free" s_fr f fd) (B : Blt2 mg) (TK : Df P w K mg base "_law_take" 1 ["_law_draws_here", "_law_many"] spTk) : FnOk P w K mg base (L2.CX P w) 2 f fd ["_law_draws_here", "_law_many", "_law_left"] spFr := by
  refine F.okX sc_fr (fun vs H Q E h => ?_) (fun cdv A outer s H vs Q E hr h => ?_)
  · obtain ⟨d, n, m, rfl, _⟩ := h
    rfl
  · obtain ⟨d, n, m, rfl, n1, n16, dr, k⟩ := h
    have nd := sc_fr.nd
    have r1 : Room 1 _ := hr.mono (by decide)
    refine ⟨_, pss_cons (ps_set (i := 3) nd rfl (.inl rfl) (pe_lst pa_nil))
      (pss_cons (ps_for (passes_of rfl) rfl (pi_range1 (by rfl) B.range (pa_cons (pv 1) pa_nil)) (pg_name (i := 4) nd rfl (.inl rfl))
        (pss_one (ps_for (passes_of rfl) rfl (pi_range2 (by rfl) B.range (pa_cons (pe_op op_add (pv 4) pe_int) (pa_cons (pv 1) pa_nil))) (pg_name (i := 5) nd rfl (.inl rfl))
          (pss_one (ps_if (PW.pt (pw_and (PW.pt (pw_or (pt_cmpR op_eq (pv 2) pe_int (nomark _)) (pw_or1 (pt_chain op_lt op_le (pv 4) (pv 2) (pv 5))))) (pw_and1 (pt_cmpR op_eq (pe_df TK r1 (by rfl) passUp (pa_cons (pv 0) (pa_cons pe_int pa_nil))) pe_int (nomark _)))))
            (pss_one (ps_expr (pe_lapp (pv 3) (pa_cons (pe_tup (pa_cons (pv 4) (pa_cons (pv 5) pa_nil))) pa_nil)))) pss_nil)))))
      (pss_one (ps_ret (pe_lst (pa_cons (pv 1) (pa_cons (pv 3) (pa_cons (pe_lc (own := [("_law_x", 4)]) (g := gName 4) (tt := tYes) (te := tVar 4) rfl nd (pi_range1 (by rfl) B.range (pa_cons (pv 1) pa_nil))
        (blkOk_by (N := ["_law_draws_here", "_law_many", "_law_left", "_law_pairs", "_law_x", "_law_y"]) (sc := defScope s_fr) (by decide +kernel)) (fun _ _ _ _ _ => pg_name (i := 4) nd rfl (.inl rfl)) (fun _ _ _ _ _ => pts_nil) (fun _ _ _ _ _ => pv 4)) pa_nil))))))), ?_⟩
    refine ⟨by show 0 ≤ sizeLine; exact Nat.zero_le _, fun D nD => ?_⟩
    have Dd := dr.ne nD
    let P1 : Nat → L2.St → Hp → Prop := fun i σ H' => ∃ o4 o5 rs P, σ = [some (.ref d), some (.int n), some (.int m), some (.ref D), o4, o5] ∧ Same (del H d) H' ∧ DrO H' d ∧ Grow (del H' d) D rs ∧ Lx n P i (i + 1) rs
    refine ⟨_, rfl, n, rfl, by omega, by omega, for_range (n := n.toNat) P1 ⟨none, none, [], fun _ => True, rfl, sd_upd del_sub nD Dd, dr.upd Dd, ⟨[], by rw [del_ne Dd, upd_same]; rfl, rfl, fun z hz => by cases hz⟩, by simpa using Lx.start⟩ (fun i σ H' hi h => ?_) (fun σ H' h => ?_)⟩
    · obtain ⟨o4, o5, rs, PP, rfl, sm, dr', g, lx⟩ := h
      rw [Int.zero_add]
      let P2 : Nat → L2.St → Hp → Prop := fun t σ H' => ∃ o5 rs P, σ = [some (.ref d), some (.int n), some (.int m), some (.ref D), some (.int (i : Int)), o5] ∧ Same (del H d) H' ∧ DrO H' d ∧ Grow (del H' d) D rs ∧ Lx n P i ((i : Int) + 1 + t) rs
      refine ⟨_, rfl, _, _, rfl, rfl, _, rfl, _, _, rfl, ⟨by omega, by omega, by omega, by omega⟩, for_range (n := (n - ((i : Int) + 1)).toNat) P2 ⟨o5, rs, PP, rfl, sm, dr', g, by simpa using lx⟩ (fun t σ H2 ht h => ?_) (fun σ H2 h => ?_)⟩
      · obtain ⟨o5, rs, PP, rfl, sm, dr', g, lx⟩ := h
        have r' : 0 ≤ (i : Int) ∧ (i : Int) < (i : Int) + 1 + t ∧ (i : Int) + 1 + t < n := by omega
        have e1 : (i : Int) + 1 + t + 1 = (i : Int) + 1 + ((t + 1 : Nat) : Int) := by omega
        have skip : ∀ {H3 : Hp}, Same (del H d) H3 → DrO H3 d → Grow (del H3 d) D rs → P2 (t + 1) [some (.ref d), some (.int n), some (.int m), some (.ref D), some (.int (i : Int)), some (.int ((i : Int) + 1 + (t : Int)))] H3 := fun {H3} sm3 dr3 g3 => by
          refine ⟨_, rs, fun z => PP z ∧ z ≠ ((i : Int), (i : Int) + 1 + t), rfl, sm3, dr3, g3, ?_⟩
          have lx' : Lx n (fun z => PP z ∧ z ≠ ((i : Int), (i : Int) + 1 + t)) i ((i : Int) + 1 + t) rs := lx.change fun z hz => ⟨fun h => ⟨h, fun h => by rw [h] at hz; dsimp only at hz; omega⟩, fun h => h.1⟩
          have := lx'.skip (fun z => z.2 rfl)
          rw [e1] at this
          exact this
        refine ⟨_, rfl, rfl, _, rfl, ?_⟩
        rw [dec_int]
        by_cases em : m = 0
        · rw [show (m == 0) = true by simpa using em]
          refine iteT ?_
          refine ⟨_, rfl, d, 2, rfl, by decide, dr', fun rr H3 r0 r2' s3 dr3 => ⟨rfl, _, rfl, ?_⟩⟩
          rw [dec_int]
          have sm3 := sd_trans sm s3
          have g3 := g.mono (same_del s3)
          by_cases er : rr = 1
          · rw [show (rr == 1) = true by simpa using er]
            obtain ⟨xs, hx, lxs, _⟩ := g3.at
            have hx3 : H3 D = some (.lst xs) := by rw [del_ne Dd] at hx; exact hx
            have few := lx.cl.few (by omega)
            refine iteT ⟨_, rfl, .inl ⟨rfl, xs, SqL.of hx3⟩, _, rfl, _, rfl, (by show 2 ≤ sizeLine; decide), fun u nu => ?_⟩
            have ud := dr3.ne nu
            have s4 : Same H3 (upd H3 u (.tup [.int (i : Int), .int ((i : Int) + 1 + t)])) := same_upd nu
            refine ⟨D, xs, _, rfl, rfl, s4 _ _ hx3, by rw [sizeLine_eq]; omega, ?_⟩
            refine ⟨_, rs ++ [((i : Int), (i : Int) + 1 + t)], fun z => PP z ∨ z = ((i : Int), (i : Int) + 1 + t), rfl, sd_upd (sd_upd sm3 (sd_none sm3 nu ud) ud) nD Dd, (dr3.upd ud).upd Dd, ?_, ?_⟩
            · rw [del_upd_ne Dd, del_upd_ne ud]
              exact g3.push (by rw [del_ne ud]; exact nu) hx
            · have lx' : Lx n (fun z => PP z ∨ z = ((i : Int), (i : Int) + 1 + t)) i ((i : Int) + 1 + t) rs := lx.change fun z hz => ⟨.inl, fun h => h.elim (fun h => h) fun h => by rw [h] at hz; dsimp only at hz; omega⟩
              have := lx'.add (.inr rfl) r'
              rw [e1] at this
              exact this
          · rw [show (rr == 1) = false by simpa using er]
            exact iteF (skip sm3 dr3 g3)
        · rw [show (m == 0) = false by simpa using em]
          refine iteF ⟨_, rfl, _, rfl, _, _, rfl, rfl, _, rfl, ?_⟩
          by_cases c1 : (i : Int) < m
          · rw [decide_eq_true c1]
            refine iteT ⟨_, rfl, _, _, rfl, rfl, _, rfl, ?_⟩
            by_cases c2 : m ≤ (i : Int) + 1 + t
            · rw [decide_eq_true c2]
              refine iteT ?_
              refine ⟨_, rfl, d, 2, rfl, by decide, dr', fun rr H3 r0 r2' s3 dr3 => ⟨rfl, _, rfl, ?_⟩⟩
              rw [dec_int]
              have sm3 := sd_trans sm s3
              have g3 := g.mono (same_del s3)
              by_cases er : rr = 1
              · rw [show (rr == 1) = true by simpa using er]
                obtain ⟨xs, hx, lxs, _⟩ := g3.at
                have hx3 : H3 D = some (.lst xs) := by rw [del_ne Dd] at hx; exact hx
                have few := lx.cl.few (by omega)
                refine iteT ⟨_, rfl, .inl ⟨rfl, xs, SqL.of hx3⟩, _, rfl, _, rfl, (by show 2 ≤ sizeLine; decide), fun u nu => ?_⟩
                have ud := dr3.ne nu
                have s4 : Same H3 (upd H3 u (.tup [.int (i : Int), .int ((i : Int) + 1 + t)])) := same_upd nu
                refine ⟨D, xs, _, rfl, rfl, s4 _ _ hx3, by rw [sizeLine_eq]; omega, ?_⟩
                refine ⟨_, rs ++ [((i : Int), (i : Int) + 1 + t)], fun z => PP z ∨ z = ((i : Int), (i : Int) + 1 + t), rfl, sd_upd (sd_upd sm3 (sd_none sm3 nu ud) ud) nD Dd, (dr3.upd ud).upd Dd, ?_, ?_⟩
                · rw [del_upd_ne Dd, del_upd_ne ud]
                  exact g3.push (by rw [del_ne ud]; exact nu) hx
                · have lx' : Lx n (fun z => PP z ∨ z = ((i : Int), (i : Int) + 1 + t)) i ((i : Int) + 1 + t) rs := lx.change fun z hz => ⟨.inl, fun h => h.elim (fun h => h) fun h => by rw [h] at hz; dsimp only at hz; omega⟩
                  have := lx'.add (.inr rfl) r'
                  rw [e1] at this
                  exact this
              · rw [show (rr == 1) = false by simpa using er]
                exact iteF (skip sm3 dr3 g3)
            · rw [decide_eq_false c2]
              exact iteF (iteF (skip sm dr' g))
          · rw [decide_eq_false c1]
            exact iteF ⟨false, rfl, iteF (iteF (skip sm dr' g))⟩
      · obtain ⟨o5, rs, PP, rfl, sm, dr', g, lx⟩ := h
        rw [show (i : Int) + 1 + ((n - ((i : Int) + 1)).toNat : Int) = n by omega] at lx
        refine ⟨_, _, rs, PP, rfl, sm, dr', g, ?_⟩
        have := lx.row
        rw [show (i : Int) + 2 = (i : Int) + 1 + 1 by omega] at this
        exact_mod_cast this
    · obtain ⟨o4, o5, rs, PP, rfl, sm, dr', g, lx⟩ := h
      rw [show ((n.toNat : Nat) : Int) = n by omega] at lx
      refine ⟨_, rfl, _, rfl, _, rfl, n, rfl, by omega, by omega, fun G nG => ?_⟩
      refine lc_range (lo := 0) (n := n.toNat) (fun i H2 => Same H' H2 ∧ IL H2 G (ran i)) ⟨same_upd nG, upd_same⟩ (fun i H2 hi z => ?_) (fun H2 z => ?_)
      · rw [Int.zero_add]
        exact ⟨rfl, _, rfl, ran_step nG hi (by omega) z⟩
      · obtain ⟨s4, hG⟩ := z
        refine ⟨(by show 3 ≤ sizeLine; decide), fun R nR => ?_⟩
        have dr4 := dr'.mono s4
        have Gd := dr'.ne nG
        obtain ⟨x1, x2, x3⟩ := cs_up (n := n) (sd_trans sm (del_sub.trans s4)) dr4 (g.ls.mono (delF s4)) (hG.del Gd) nR
        exact k _ _ _ _ _ x1 x2 x3 ⟨lx.cl, by omega, .refl _⟩ (by omega) (Int.le_refl _)
end
end K0
set_option Elab.async false
set_option linter.all false
set_option maxRecDepth 100000
set_option maxHeartbeats 4000000
namespace K0
open PySem PySem.Spec PyProof.Rows L2
section
variable {P : Program} {w : World} {K : PySem.W.Frag} {mg : Str → Option Value} {base : Heap} {f : Addr} {fd : FuncData}
abbrev s_st' : Stmt := top 59
/-- _law_stretches -/
def spStr : Sp := fun vs H Q _ => ∃ (d : Addr) (n : Int), vs = [.ref d, .int n] ∧ 2 ≤ n ∧ n ≤ 16 ∧ DrO H d ∧ OutCs H d 2 n Q
theorem sc_st' : FnScope ["_law_draws_here", "_law_many", "_law_spans", "_law_x", "_law_start", "_law_pairs", "_law_y", "_law_span"] ["_law_draws_here", "_law_many"] (defScope s_st') := ⟨rfl, rfl, rfl, by decide +kernel, rfl, by decide +kernel, by decide +kernel⟩
structure SpnOk (i : Nat) (W : List Rw) : Prop where
  l : W.length = i
  r : ∀ (j : Nat) (r : Rw), W[j]? = some r → ∃ s e : Int, r = [s, e, (j : Int)] ∧ 0 ≤ s ∧ s ≤ 6 ∧ 0 ≤ e ∧ e ≤ 9
theorem SpnOk.add {i : Nat} {W : List Rw} {s e : Int} (h : SpnOk i W) (s0 : 0 ≤ s) (s6 : s ≤ 6) (e0 : 0 ≤ e) (e9 : e ≤ 9) : SpnOk (i + 1) (W ++ [[s, e, (i : Int)]]) := by
  refine ⟨by rw [List.length_append, h.l]; rfl, fun j r hj => ?_⟩
  by_cases lt : j < W.length
  · rw [List.getElem?_append_left lt] at hj
    exact h.r j r hj
  · have e2 : j = W.length := by
      have := (List.getElem?_eq_some_iff.mp hj).1
      rw [List.length_append] at this
      simp at this
      omega
    subst e2
    rw [List.getElem?_append_right (Nat.le_refl _), Nat.sub_self] at hj
    cases hj
    exact ⟨s, e, by rw [h.l], s0, s6, e0, e9⟩
theorem SpnOk.third {i : Nat} {W : List Rw} (h : SpnOk i W) : W.map (fun r => r.getD 2 0) = ran i := by
  refine List.ext_getElem? fun j => ?_
  unfold ran
  rw [List.getElem?_map, List.getElem?_map]
  by_cases lt : j < W.length
  · rw [List.getElem?_eq_getElem lt, List.getElem?_range (by have := h.l; omega)]
    obtain ⟨s, e, er, _⟩ := h.r j _ (List.getElem?_eq_getElem lt)
    rw [er]
    rfl
  · rw [List.getElem?_eq_none (by omega), List.getElem?_eq_none (by rw [List.length_range]; have := h.l; omega)]
    rfl
theorem ok_str (F : Fun K "_law_stretches" "_law_stretches" s_st' f fd) (B : Blt2 mg) (TK : Df P w K mg base "_law_take" 1 ["_law_draws_here", "_law_many"] spTk) : FnOk P w K mg base (L2.CX P w) 2 f fd ["_law_draws_here", "_law_many"] spStr := by
  refine F.okX sc_st' (fun vs H Q E h => ?_) (fun cdv A outer s H vs Q E hr h => ?_)
  · obtain ⟨d, n, rfl, _⟩ := h
    rfl
  · obtain ⟨d, n, rfl, n1, n16, dr, k⟩ := h
    have nd := sc_st'.nd
    have r1 : Room 1 _ := hr.mono (by decide)
    refine ⟨_, pss_cons (ps_set (i := 2) nd rfl (.inl rfl) (pe_lst pa_nil))
      (pss_cons (ps_for (passes_of rfl) rfl (pi_range1 (by rfl) B.range (pa_cons (pv 1) pa_nil)) (pg_name (i := 3) nd rfl (.inl rfl))
        (pss_cons (ps_set (i := 4) nd rfl (.inl rfl) (pe_df TK r1 (by rfl) passUp (pa_cons (pv 0) (pa_cons pe_int pa_nil))))
        (pss_one (ps_expr (pe_lapp (pv 2) (pa_cons (pe_tup (pa_cons (pv 4) (pa_cons (pe_op op_add (pv 4) (pe_df TK r1 (by rfl) passUp (pa_cons (pv 0) (pa_cons pe_int pa_nil)))) (pa_cons (pv 3) pa_nil)))) pa_nil))))))
      (pss_cons (ps_set (i := 5) nd rfl (.inl rfl) (pe_lst pa_nil))
      (pss_cons (ps_for (passes_of rfl) rfl (pi_range1 (by rfl) B.range (pa_cons (pv 1) pa_nil)) (pg_name (i := 3) nd rfl (.inl rfl))
        (pss_one (ps_for (passes_of rfl) rfl (pi_range2 (by rfl) B.range (pa_cons (pe_op op_add (pv 3) pe_int) (pa_cons (pv 1) pa_nil))) (pg_name (i := 6) nd rfl (.inl rfl))
          (pss_one (ps_if (pt_cmpR op_le (pe_callB (c_max rfl) (by rfl) B.max (by decide +kernel) (pa_cons (pe_ix ix_tup (pe_ix ix_list (pv 2) (pv 3) (fun _ _ => rfl)) pe_int (fun _ _ => rfl)) (pa_cons (pe_ix ix_tup (pe_ix ix_list (pv 2) (pv 6) (fun _ _ => rfl)) pe_int (fun _ _ => rfl)) pa_nil)))
              (pe_callB (c_min rfl) (by rfl) B.min (by decide +kernel) (pa_cons (pe_ix ix_tup (pe_ix ix_list (pv 2) (pv 3) (fun _ _ => rfl)) pe_int (fun _ _ => rfl)) (pa_cons (pe_ix ix_tup (pe_ix ix_list (pv 2) (pv 6) (fun _ _ => rfl)) pe_int (fun _ _ => rfl)) pa_nil))) (by rfl))
            (pss_one (ps_expr (pe_lapp (pv 5) (pa_cons (pe_tup (pa_cons (pv 3) (pa_cons (pv 6) pa_nil))) pa_nil)))) pss_nil)))))
      (pss_one (ps_ret (pe_lst (pa_cons (pv 1) (pa_cons (pv 5) (pa_cons (pe_lc (own := [("_law_span", 7)]) (g := gName 7) (tt := tYes) (te := tOp (rIxT K) (tVar 7) (tC (.int 2))) rfl nd (pi_list (pe_callB (cr_srtW (d := 3) (by decide)) (by rfl) B.sorted (by decide +kernel) (pa_cons (pv 2) pa_nil)))
        (blkOk_by (N := ["_law_draws_here", "_law_many", "_law_spans", "_law_x", "_law_start", "_law_pairs", "_law_y", "_law_span"]) (sc := defScope s_st') (by decide +kernel)) (fun _ _ _ _ _ => pg_name (i := 7) nd rfl (.inl rfl)) (fun _ _ _ _ _ => pts_nil) (fun _ _ _ _ _ => pe_ix ix_tup (pv 7) pe_int (fun _ _ => rfl))) pa_nil))))))))), ?_⟩
    refine ⟨by show 0 ≤ sizeLine; exact Nat.zero_le _, fun S nS => ?_⟩
    have Sd := dr.ne nS
    let P0 : Nat → L2.St → Hp → Prop := fun i σ H' => ∃ o3 o4 W, σ = [some (.ref d), some (.int n), some (.ref S), o3, o4, none, none, none] ∧ Same (del H d) H' ∧ DrO H' d ∧ GrowR (del H' d) S W ∧ SpnOk i W
    refine ⟨_, rfl, n, rfl, by omega, by omega, for_range (n := n.toNat) P0 ⟨none, none, [], rfl, sd_upd del_sub nS Sd, dr.upd Sd, ⟨[], by rw [del_ne Sd, upd_same]; rfl, rfl, fun z hz => by cases hz⟩, rfl, fun j r hj => by simp at hj⟩ (fun i σ H' hi h => ?_) (fun σ H1 h => ?_)⟩
    · obtain ⟨o3, o4, W, rfl, sm, dr', g, sk⟩ := h
      rw [Int.zero_add]
      refine ⟨_, rfl, d, 7, rfl, by decide, dr', fun a H2 a0 a7 s2 dr2 => ?_⟩
      have g2 := g.mono (same_del s2)
      obtain ⟨xs, hx, lxs, _⟩ := g2.at
      have hx2 : H2 S = some (.lst xs) := by rw [del_ne Sd] at hx; exact hx
      refine ⟨_, rfl, .inl ⟨rfl, xs, SqL.of hx2⟩, _, rfl, _, rfl, _, rfl, d, 4, rfl, by decide, dr2, fun b H3 b0 b4 s3 dr3 => ⟨_, _, rfl, rfl, _, rfl, (by show 3 ≤ sizeLine; decide), fun u nu => ?_⟩⟩
      have g3 := g2.mono (same_del s3)
      have hx3 : H3 S = some (.lst xs) := s3 _ _ hx
      have hxd : (del H3 d) S = some (.lst xs) := (same_del s3) _ _ hx
      have sm3 := sd_trans (sd_trans sm s2) s3
      have ud := dr3.ne nu
      have s4 : Same H3 (upd H3 u (.tup (([a, a + b, (i : Int)] : Rw).map V.int))) := same_upd nu
      have lW := sk.l
      refine ⟨S, xs, _, rfl, rfl, s4 _ _ hx3, by rw [lxs, sizeLine_eq]; omega, _, _, W ++ [[a, a + b, (i : Int)]], rfl, sd_upd (sd_upd sm3 (sd_none sm3 nu ud) ud) nS Sd, (dr3.upd ud).upd Sd, ?_, sk.add a0 (by omega) (by omega) (by omega)⟩
      rw [del_upd_ne Sd, del_upd_ne ud]
      exact g3.push (r := [a, a + b, (i : Int)]) (by rw [del_ne ud]; exact nu) hxd
    · obtain ⟨o3, o4, W, rfl, sm1, dr1, g1, sk⟩ := h
      have gS := g1.mono del_sub
      obtain ⟨xs, hx, lxs, dx⟩ := gS.at
      have lW := sk.l
      have spn : ∀ {i : Nat} {H' : Hp}, Same H1 H' → i < n.toNat → ∃ (a : Addr) (s e : Int), xs[i]? = some (.ref a) ∧ H' a = some (.tup [.int s, .int e, .int (i : Int)]) := fun {i H'} sm hi => by
        have hi2 : i < xs.length := by omega
        obtain ⟨r, a, hr', ea, ha⟩ := dta_row (dx.mono sm) (List.getElem?_eq_getElem hi2)
        obtain ⟨s, e, er, _⟩ := sk.r i r hr'
        exact ⟨a, s, e, by rw [List.getElem?_eq_getElem hi2, ea], by rw [er] at ha; exact ha⟩
      refine ⟨by show 0 ≤ sizeLine; exact Nat.zero_le _, fun D nD => ?_⟩
      have Dd := dr1.ne nD
      let P1 : Nat → L2.St → Hp → Prop := fun i σ H' => ∃ o3 o6 rs P, σ = [some (.ref d), some (.int n), some (.ref S), o3, o4, some (.ref D), o6, none] ∧ Same H1 H' ∧ Grow H' D rs ∧ Lx n P i (i + 1) rs
      refine ⟨_, rfl, n, rfl, by omega, by omega, for_range (n := n.toNat) P1 ⟨_, none, [], fun _ => True, rfl, same_upd nD, ⟨[], upd_same, rfl, fun z hz => by cases hz⟩, by simpa using Lx.start⟩ (fun i σ H' hi h => ?_) (fun σ H' h => ?_)⟩
      · obtain ⟨o3, o6, rs, PP, rfl, sm, g, lx⟩ := h
        rw [Int.zero_add]
        let P2 : Nat → L2.St → Hp → Prop := fun t σ H' => ∃ o6 rs P, σ = [some (.ref d), some (.int n), some (.ref S), some (.int (i : Int)), o4, some (.ref D), o6, none] ∧ Same H1 H' ∧ Grow H' D rs ∧ Lx n P i ((i : Int) + 1 + t) rs
        refine ⟨_, rfl, _, _, rfl, rfl, _, rfl, _, _, rfl, ⟨by omega, by omega, by omega, by omega⟩, for_range (n := (n - ((i : Int) + 1)).toNat) P2 ⟨o6, rs, PP, rfl, sm, g, by simpa using lx⟩ (fun t σ H2 ht h => ?_) (fun σ H2 h => ?_)⟩
        · obtain ⟨o6, rs, PP, rfl, sm, g, lx⟩ := h
          have e0 : (i : Int) + 1 + t = ((i + 1 + t : Nat) : Int) := by omega
          rw [e0]
          rw [e0] at lx
          have r' : 0 ≤ (i : Int) ∧ (i : Int) < ((i + 1 + t : Nat) : Int) ∧ ((i + 1 + t : Nat) : Int) < n := by omega
          have e1 : ((i + 1 + t : Nat) : Int) + 1 = (i : Int) + 1 + ((t + 1 : Nat) : Int) := by omega
          obtain ⟨x1, s1, t1, hx1, hh1⟩ := spn sm hi
          obtain ⟨x2, s2, t2, hx2, hh2⟩ := spn (i := i + 1 + t) sm (by omega)
          have hS := sm _ _ hx
          refine ⟨_, rfl, _, rfl, S, xs, _, _, rfl, rfl, SqL.of hS, atI_nat hx1, x1, _, 0, _, rfl, rfl, SqT.of hh1, rfl, _, rfl, _, rfl, S, xs, _, _, rfl, rfl, SqL.of hS, atI_nat hx2, x2, _, 0, _, rfl, rfl, SqT.of hh2, rfl, _, _, rfl, ?_⟩
          refine ⟨_, rfl, _, rfl, S, xs, _, _, rfl, rfl, SqL.of hS, atI_nat hx1, x1, _, 1, _, rfl, rfl, SqT.of hh1, rfl, _, rfl, _, rfl, S, xs, _, _, rfl, rfl, SqL.of hS, atI_nat hx2, x2, _, 1, _, rfl, rfl, SqT.of hh2, rfl, _, _, rfl, _, _, rfl, rfl, _, rfl, ?_⟩
          refine ite2 (fun _ => ?_) (fun _ => ?_)
          case refine_1 =>
            obtain ⟨zs, hz, lz, _⟩ := g.at
            have few := lx.cl.few (by omega)
            refine ⟨_, rfl, .inl ⟨rfl, zs, SqL.of hz⟩, _, rfl, _, rfl, (by show 2 ≤ sizeLine; decide), fun u nu => ?_⟩
            have s4 : Same H2 (upd H2 u (.tup [.int (i : Int), .int ((i + 1 + t : Nat) : Int)])) := same_upd nu
            refine ⟨D, zs, _, rfl, rfl, s4 _ _ hz, by rw [sizeLine_eq]; omega, _, rs ++ [((i : Int), ((i + 1 + t : Nat) : Int))], fun z => PP z ∨ z = ((i : Int), ((i + 1 + t : Nat) : Int)), rfl, same_keep nD (sm.trans s4), g.push nu hz, ?_⟩
            have lx' : Lx n (fun z => PP z ∨ z = ((i : Int), ((i + 1 + t : Nat) : Int))) i ((i + 1 + t : Nat) : Int) rs := lx.change fun z hz => ⟨.inl, fun h => h.elim (fun h => h) fun h => by rw [h] at hz; dsimp only at hz; omega⟩
            have := lx'.add (.inr rfl) r'
            rw [e1] at this
            exact this
          case refine_2 =>
            refine ⟨_, rs, fun z => PP z ∧ z ≠ ((i : Int), ((i + 1 + t : Nat) : Int)), rfl, sm, g, ?_⟩
            have lx' : Lx n (fun z => PP z ∧ z ≠ ((i : Int), ((i + 1 + t : Nat) : Int))) i ((i + 1 + t : Nat) : Int) rs := lx.change fun z hz => ⟨fun h => ⟨h, fun h => by rw [h] at hz; dsimp only at hz; omega⟩, fun h => h.1⟩
            have := lx'.skip (fun z => z.2 rfl)
            rw [e1] at this
            exact this
        · obtain ⟨o6, rs, PP, rfl, sm, g, lx⟩ := h
          rw [show (i : Int) + 1 + ((n - ((i : Int) + 1)).toNat : Int) = n by omega] at lx
          refine ⟨_, _, rs, PP, rfl, sm, g, ?_⟩
          have := lx.row
          rw [show (i : Int) + 2 = (i : Int) + 1 + 1 by omega] at this
          exact_mod_cast this
      · obtain ⟨o3, o6, rs, PP, rfl, sm, g, lx⟩ := h
        rw [show ((n.toNat : Nat) : Int) = n by omega] at lx
        refine ⟨_, rfl, _, rfl, _, rfl, S, W, xs, rfl, sm _ _ hx, dx.mono sm, fun r hr' => ?_, fun H2 p zs ss s2 np hp dz pm _ => ?_⟩
        · obtain ⟨j, hj⟩ := List.getElem?_of_mem hr'
          obtain ⟨s, e, er, s0, s6, e0, e9⟩ := sk.r j r hj
          have hjl := (List.getElem?_eq_some_iff.mp hj).1
          subst er
          refine ⟨rfl, fun m hm => ?_⟩
          simp only [List.mem_cons, List.not_mem_nil, or_false] at hm
          omega
        · have s12 := sm.trans s2
          have dr2 := dr1.mono s12
          refine ⟨p, rfl, ⟨zs, SqL.of hp⟩, fun G nG => ?_⟩
          have lss : ss.length = n.toNat := by rw [pm.length_eq, lW]
          have lzs : zs.length = ss.length := by have := dz.len; rwa [List.length_map] at this
          refine lc_list (K := K) (a := p) (xs := zs) (fun j H3 => Same H2 H3 ∧ IL H3 G ((ss.take j).map fun r => r.getD 2 0)) ⟨same_upd nG, upd_same⟩ (fun j H3 _ z => SqL.of (z.1 _ _ hp)) (fun j v H3 hj z => ?_) (fun H3 z => ?_)
          · obtain ⟨s3, hG⟩ := z
            obtain ⟨r, ra, hr', rfl, hra⟩ := dta_row (dz.mono s3) hj
            obtain ⟨j', hj'⟩ := List.getElem?_of_mem (pm.mem_iff.mp (List.mem_of_getElem? hr'))
            obtain ⟨s, e, er, _⟩ := sk.r j' r hj'
            have := take_room ss j
            refine ⟨rfl, _, rfl, ra, _, 2, .int (r.getD 2 0), rfl, rfl, SqT.of hra, by rw [er]; rfl, _, hG, by rw [List.length_map, List.length_map, sizeLine_eq]; omega, same_keep nG s3, ?_⟩
            show (upd _ _ _) _ = _
            rw [upd_same, take_at hr', List.map_append, List.map_append]
            rfl
          · obtain ⟨s3, hG⟩ := z
            rw [lzs, List.take_length] at hG
            refine ⟨(by show 3 ≤ sizeLine; decide), fun R nR => ?_⟩
            have dr3 := dr2.mono s3
            have Gd := dr2.ne nG
            obtain ⟨y1, y2, y3⟩ := cs_up (n := n) (sd_trans sm1 (del_sub.trans (s12.trans s3))) dr3 ((g.ls.mono (s2.trans s3)).del dr3 Dd) (hG.del Gd) nR
            refine k _ _ _ _ _ y1 y2 y3 ⟨lx.cl, by omega, ?_⟩ (by omega) (Int.le_refl _)
            rw [← sk.third]
            exact pm.map _
end
end K0
set_option Elab.async false
set_option linter.all false
set_option maxRecDepth 100000
set_option maxHeartbeats 4000000
namespace K0
open PySem PySem.Spec PyProof.Rows L2
section
variable {P : Program} {w : World} {K : PySem.W.Frag} {mg : Str → Option Value} {base : Heap} {f : Addr} {fd : FuncData}
abbrev s_md : Stmt := top 63
/-- _law_made -/
def spMd : Sp := fun vs H Q _ => ∃ (d : Addr) (mo : Int), vs = [.ref d, .int mo] ∧ 5 ≤ mo ∧ mo ≤ 7 ∧ DrO H d ∧ OutCs H d 2 mo Q
theorem sc_md : FnScope ["_law_draws_here", "_law_most", "_law_word", "_law_many", "_law_plain", "_law_x", "_law_one", "_law_other", "_law_house"] ["_law_draws_here", "_law_most"] (defScope s_md) := ⟨rfl, rfl, rfl, by decide +kernel, rfl, by decide +kernel, by decide +kernel⟩
/-- the makers -/
structure Mks (P : Program) (w : World) (K : PySem.W.Frag) (mg : Str → Option Value) (base : Heap) : Prop where
  tk : Df P w K mg base "_law_take" 1 ["_law_draws_here", "_law_many"] spTk
  ln : Df P w K mg base "_law_line" 1 ["_law_many"] spLine
  rg : Df P w K mg base "_law_ring" 1 ["_law_many"] spRg
  rr : Df P w K mg base "_law_ring_row" 1 ["_law_many"] spRrw
  co : Df P w K mg base "_law_contrary" 1 ["_law_many", "_law_pairs"] spCo
  st : Df P w K mg base "_law_stretches" 2 ["_law_draws_here", "_law_many"] spStr
  fa : Df P w K mg base "_law_falling" 3 ["_law_draws_here", "_law_many"] spFa
  fr : Df P w K mg base "_law_free" 2 ["_law_draws_here", "_law_many", "_law_left"] spFr
  sm : Df P w K mg base "_law_small" 2 ["_law_draws_here"] spSm
  sd : Df P w K mg base "_law_sides" 1 ["_law_one", "_law_other", "_law_joined"] spSd
  tw : Df P w K mg base "_law_twins" 3 ["_law_draws_here", "_law_case_here", "_law_most"] spTwn
theorem OutCs.now {H G : Hp} {d b c A : Addr} {n l m : Int} {q : List Pr} {r : List Int} {Q : VK} (o : OutCs H d l m Q) (sm : Same (del H d) G) (dr : DrO G d) (hb : Ls G b q) (bd : b ≠ d) (hc : IL G c r) (cd : c ≠ d) (k : Csk n q r) (hl : l ≤ n) (hn : n ≤ m) (nA : G A = none) : Q (.ref A) (upd G A (.lst [.int n, .ref b, .ref c])) := by
  obtain ⟨x, y, z⟩ := cs_up (n := n) sm dr (hb.del dr bd) (hc.del cd) nA
  exact o _ _ _ _ _ x y z k hl hn
theorem outNow {H G H' : Hp} {d : Addr} {x : V} {n l m : Int} {q : List Pr} {r : List Int} {Q : VK} (o : OutCs H d l m Q) (sm : Same (del H d) G) (dr : DrO G d) (s : Same G H') (c : CsNew G H' x n q r) (k : Csk n q r) (hl : l ≤ n) (hn : n ≤ m) : Q x H' := by
  obtain ⟨a, b, c, rfl, na, nb, nc, ha, hb, hc⟩ := c
  have dr' := dr.mono s
  exact o H' _ n q r (sd_trans sm (del_sub.trans s)) dr' ⟨a, b, c, rfl, by rw [del_ne (dr.ne na)]; exact ha, hb.del dr' (dr.ne nb), IL.del hc (dr.ne nc)⟩ k hl hn
theorem ok_md (F : Fun K "_law_made" "_law_made" s_md f fd) (B : Blt2 mg) (M : Mks P w K mg base) : FnOk P w K mg base (L2.CX P w) 4 f fd ["_law_draws_here", "_law_most"] spMd := by
  refine F.okX sc_md (fun vs H Q E h => ?_) (fun cdv A outer s H vs Q E hr h => ?_)
  · obtain ⟨d, mo, rfl, _⟩ := h
    rfl
  · obtain ⟨d, mo, rfl, mo5, mo7, dr, k⟩ := h
    have nd := sc_md.nd
    have r1 : Room 1 _ := hr.mono (by decide)
    have r2 : Room 2 _ := hr.mono (by decide)
    have r3 : Room 3 _ := hr.mono (by decide)
    refine ⟨_, pss_cons (ps_set (i := 2) nd rfl (.inl rfl) (pe_df M.tk r1 (by rfl) passUp (pa_cons (pv 0) (pa_cons pe_int pa_nil))))
      (pss_cons (ps_set (i := 3) nd rfl (.inl rfl) (pe_op op_add pe_int (pe_df M.tk r1 (by rfl) passUp (pa_cons (pv 0) (pa_cons (pe_op op_sub (pv 1) pe_int) pa_nil)))))
      (pss_cons (ps_setLc (i := 4) (own := [("_law_x", 5)]) (g := gName 5) (tt := tYes) (te := tVar 5) rfl nd rfl (by rfl) (by rfl) (pi_range1 (by rfl) B.range (pa_cons (pv 3) pa_nil))
        (blkOk_by (N := ["_law_draws_here", "_law_most", "_law_word", "_law_many", "_law_plain", "_law_x", "_law_one", "_law_other", "_law_house"]) (sc := defScope s_md) (by decide +kernel)) (fun _ _ _ _ _ => pg_name (i := 5) nd rfl (.inl rfl)) (fun _ _ _ _ _ => pts_nil) (fun _ _ _ _ _ => pv 5))
      (pss_cons (ps_if (pt_cmpR op_eq (pv 2) pe_int (nomark _)) (pss_one (ps_ret (pe_lst (pa_cons pe_int (pa_cons (pe_df M.ln r1 (by rfl) passUp (pa_cons pe_int pa_nil)) (pa_cons (pe_lst (pa_cons pe_int (pa_cons pe_int (pa_cons pe_int (pa_cons pe_int pa_nil))))) pa_nil)))))) pss_nil)
      (pss_cons (ps_if (pt_cmpR op_eq (pv 2) pe_int (nomark _)) (pss_one (ps_ret (pe_lst (pa_cons (pv 3) (pa_cons (pe_df M.rg r1 (by rfl) passUp (pa_cons (pv 3) pa_nil)) (pa_cons (pe_df M.rr r1 (by rfl) passUp (pa_cons (pv 3) pa_nil)) pa_nil)))))) pss_nil)
      (pss_cons (ps_if (pt_cmpR op_eq (pv 2) pe_int (nomark _)) (pss_cons (ps_set (i := 3) nd rfl (.inl rfl) (pe_callB (c_max rfl) (by rfl) B.max (by decide +kernel) (pa_cons (pv 3) (pa_cons pe_int pa_nil))))
        (pss_one (ps_ret (pe_lst (pa_cons (pv 3) (pa_cons (pe_df M.co r1 (by rfl) passUp (pa_cons (pv 3) (pa_cons (pe_df M.rg r1 (by rfl) passUp (pa_cons (pv 3) pa_nil)) pa_nil))) (pa_cons (pe_df M.rr r1 (by rfl) passUp (pa_cons (pv 3) pa_nil)) pa_nil))))))) pss_nil)
      (pss_cons (ps_if (pt_cmpR op_eq (pv 2) pe_int (nomark _)) (pss_one (ps_ret (pe_lst (pa_cons (pv 3) (pa_cons (pe_df M.ln r1 (by rfl) passUp (pa_cons (pv 3) pa_nil)) (pa_cons (pv 4) pa_nil)))))) pss_nil)
      (pss_cons (ps_if (pt_cmpR op_eq (pv 2) pe_int (nomark _)) (pss_one (ps_ret (pe_df M.st r2 (by rfl) passUp (pa_cons (pv 0) (pa_cons (pv 3) pa_nil))))) pss_nil)
      (pss_cons (ps_if (pt_cmpR op_eq (pv 2) pe_int (nomark _)) (pss_one (ps_ret (pe_df M.fa r3 (by rfl) passUp (pa_cons (pv 0) (pa_cons (pv 3) pa_nil))))) pss_nil)
      (pss_cons (ps_if (pt_cmpR op_eq (pv 2) pe_int (nomark _)) (pss_one (ps_ret (pe_df M.fr r2 (by rfl) passUp (pa_cons (pv 0) (pa_cons (pv 3) (pa_cons pe_int pa_nil)))))) pss_nil)
      (pss_cons (ps_if (PW.pt (pw_or (pt_cmpR op_eq (pv 2) pe_int (nomark _)) (pw_or1 (pt_cmpR op_eq (pv 2) pe_int (nomark _)))))
        (pss_cons (ps_set (i := 6) nd rfl (.inl rfl) (pe_df M.sm r2 (by rfl) passUp (pa_cons (pv 0) pa_nil)))
        (pss_cons (ps_set (i := 7) nd rfl (.inl rfl) (pe_df M.sm r2 (by rfl) passUp (pa_cons (pv 0) pa_nil)))
        (pss_cons (ps_if (pt_cmpR op_gt (pe_op op_add (pe_ix ix_list (pv 6) pe_int (fun _ _ => rfl)) (pe_ix ix_list (pv 7) pe_int (fun _ _ => rfl))) (pv 1) (by rfl)) (pss_one (ps_set (i := 7) nd rfl (.inl rfl) (pe_lst (pa_cons pe_int (pa_cons (pe_lst pa_nil) (pa_cons (pe_lst (pa_cons pe_int pa_nil)) pa_nil)))))) pss_nil)
        (pss_one (ps_ret (pe_df M.sd r1 (by rfl) passUp (pa_cons (pv 6) (pa_cons (pv 7) (pa_cons (pe_cmpR op_eq (pv 2) pe_int (nomark _)) pa_nil)))))))))  pss_nil)
      (pss_cons (ps_if (pt_cmpR op_eq (pv 2) pe_int (nomark _)) (pss_one (ps_ret (pe_df M.tw r3 (by rfl) passUp (pa_cons (pv 0) (pa_cons (pe_lst (pa_cons pe_int (pa_cons (pe_df M.ln r1 (by rfl) passUp (pa_cons pe_int pa_nil)) (pa_cons (pe_lst (pa_cons pe_int (pa_cons pe_int (pa_cons pe_int (pa_cons pe_int pa_nil))))) pa_nil)))) (pa_cons (pv 1) pa_nil)))))) pss_nil)
      (pss_cons (ps_if (pt_cmpR op_eq (pv 2) pe_int (nomark _)) (pss_cons (ps_set (i := 8) nd rfl (.inl rfl) (pe_callB cr_srtP (by rfl) B.sorted (by decide +kernel) (pa_cons (pe_op op_cat (pe_df M.rg r1 (by rfl) passUp (pa_cons pe_int pa_nil)) (pe_lst (pa_cons (pe_tup (pa_cons pe_int (pa_cons pe_int pa_nil))) pa_nil))) pa_nil)))
        (pss_one (ps_ret (pe_lst (pa_cons pe_int (pa_cons (pv 8) (pa_cons (pe_lst (pa_cons pe_int (pa_cons pe_int (pa_cons pe_int (pa_cons pe_int (pa_cons pe_int pa_nil)))))) pa_nil))))))) pss_nil)
      (pss_one (ps_ret (pe_df M.fr r2 (by rfl) passUp (pa_cons (pv 0) (pa_cons (pv 3) (pa_cons pe_int pa_nil)))))))))))))))))), ?_⟩
    refine ⟨_, rfl, d, 12, rfl, by decide, dr, fun wd H1 w0 w12 s1 dr1 => ?_⟩
    refine ⟨_, rfl, _, rfl, _, _, rfl, rfl, d, mo - 3, rfl, by omega, dr1, fun r1' H2 a0 a4 s2 dr2 => ?_⟩
    let n : Int := 4 + r1'
    have en : n = 4 + r1' := rfl
    have s02 := sd_trans s1 s2
    refine ⟨_, _, rfl, rfl, ?_⟩
    refine ⟨_, rfl, n, rfl, by omega, by omega, fun G nG => ?_⟩
    refine lc_range (lo := 0) (n := n.toNat) (fun i H' => Same H2 H' ∧ IL H' G (ran i)) ⟨same_upd nG, upd_same⟩ (fun i H' hi z => ?_) (fun H3 z => ?_)
    · rw [Int.zero_add]
      exact ⟨rfl, _, rfl, ran_step nG hi (by omega) z⟩
    obtain ⟨s3, hG⟩ := z
    have dr3 := dr2.mono s3
    have Gd := dr2.ne nG
    have s03 : Same (del H d) H3 := sd_trans s02 (del_sub.trans s3)
    have N4 : 4 ≤ n := by omega
    have N7 : n ≤ mo := by omega
    have N77 : n ≤ 7 := by omega
    have OutS : ∀ {m : Int} {H' : Hp}, m ≤ mo → Same (del H d) H' → OutCs H' d 2 m Q := fun {m H'} hm s H2 v n q r s2 dr cs ck hl hn => k H2 v n q r (sd_trans s s2) dr cs ck hl (by omega)
    obtain rfl | rfl | rfl | rfl | rfl | rfl | rfl | rfl | rfl | rfl | rfl | rfl : wd = 0 ∨ wd = 1 ∨ wd = 2 ∨ wd = 3 ∨ wd = 4 ∨ wd = 5 ∨ wd = 6 ∨ wd = 7 ∨ wd = 8 ∨ wd = 9 ∨ wd = 10 ∨ wd = 11 := by omega
    · refine ⟨_, rfl, rfl, true, rfl, iteT ⟨4, rfl, by decide, by decide, fun H4 D s4 nD hD => ?_⟩⟩
      refine ⟨by show 4 ≤ sizeLine; decide, fun R nR => ⟨by show 3 ≤ sizeLine; decide, fun A nA => ?_⟩⟩
      have sR := same_upd (o := .lst [.int 0, .int 1, .int 2, .int 3]) nR
      have Dd := dr3.ne nD
      have dr4 := dr3.mono s4
      have Rd := dr4.ne nR
      exact k.now (c := R) (r := [0, 1, 2, 3]) (sd_trans s03 (del_sub.trans (s4.trans sR))) (dr4.mono sR) (((hD.mono same_new).ls).mono sR) Dd upd_same Rd ⟨lnP_cl (by decide), by decide, .refl _⟩ (by decide) (by omega) nA
    · refine ⟨_, rfl, rfl, false, rfl, iteF ⟨_, rfl, rfl, true, rfl, iteT ⟨_, rfl, _, rfl, n, rfl, by omega, by omega, fun H4 D rs s4 nD hD cD _ => ?_⟩⟩⟩
      refine ⟨_, rfl, n, rfl, N4, N77, fun H5 R r s5 nR hR pR => ⟨by show 3 ≤ sizeLine; decide, fun A nA => ?_⟩⟩
      have Dd := dr3.ne nD
      have dr4 := dr3.mono s4
      have Rd := dr4.ne nR
      exact k.now (sd_trans s03 (del_sub.trans (s4.trans s5))) (dr4.mono s5) (hD.mono s5) Dd hR Rd ⟨cD, by omega, pR⟩ (by omega) N7 nA
    · refine ⟨_, rfl, rfl, false, rfl, iteF ⟨_, rfl, rfl, false, rfl, iteF ⟨_, rfl, rfl, true, rfl, iteT ⟨_, rfl, _, _, rfl, ?_⟩⟩⟩⟩
      let m : Int := if 5 > n then 5 else n
      have m5 : 5 ≤ m := by show 5 ≤ if 5 > n then 5 else n; split <;> omega
      have m7 : m ≤ mo := by show (if 5 > n then 5 else n) ≤ mo; split <;> omega
      have m77 : m ≤ 7 := by omega
      refine ⟨_, rfl, _, rfl, _, rfl, m, rfl, by omega, by omega, fun H4 D rs s4 nD hD cD _ => ?_⟩
      refine ⟨D, m, rs, rfl, by omega, by omega, hD, fun H5 E qs s5 nE gE lx => ?_⟩
      refine ⟨_, rfl, m, rfl, by omega, m77, fun H6 R r s6 nR hR pR => ⟨by show 3 ≤ sizeLine; decide, fun A nA => ?_⟩⟩
      have dr4 := dr3.mono s4
      have dr5 := dr4.mono s5
      have Ed := dr4.ne nE
      have Rd := dr5.ne nR
      exact k.now (sd_trans s03 (del_sub.trans ((s4.trans s5).trans s6))) (dr5.mono s6) (gE.ls.mono s6) Ed hR Rd ⟨lx.cl, by omega, pR⟩ (by omega) m7 nA
    · refine ⟨_, rfl, rfl, false, rfl, iteF ⟨_, rfl, rfl, false, rfl, iteF ⟨_, rfl, rfl, false, rfl, iteF ⟨_, rfl, rfl, true, rfl, iteT ⟨_, rfl, _, rfl, n, rfl, by omega, by omega, fun H4 D s4 nD hD => ⟨_, rfl, by show 3 ≤ sizeLine; decide, fun A nA => ?_⟩⟩⟩⟩⟩⟩
      have Dd := dr3.ne nD
      exact k.now (sd_trans s03 (del_sub.trans s4)) (dr3.mono s4) (hD.mono same_new).ls Dd (s4 _ _ hG) Gd ⟨lnP_cl (by omega), by omega, .refl _⟩ (by omega) N7 nA
    · exact ⟨_, rfl, rfl, false, rfl, iteF ⟨_, rfl, rfl, false, rfl, iteF ⟨_, rfl, rfl, false, rfl, iteF ⟨_, rfl, rfl, false, rfl, iteF ⟨_, rfl, rfl, true, rfl, iteT ⟨_, rfl, _, rfl, d, n, rfl, by omega, by omega, dr3, OutS N7 s03⟩⟩⟩⟩⟩⟩
    · exact ⟨_, rfl, rfl, false, rfl, iteF ⟨_, rfl, rfl, false, rfl, iteF ⟨_, rfl, rfl, false, rfl, iteF ⟨_, rfl, rfl, false, rfl, iteF ⟨_, rfl, rfl, false, rfl, iteF ⟨_, rfl, rfl, true, rfl, iteT ⟨_, rfl, _, rfl, d, n, rfl, by omega, by omega, dr3, OutS N7 s03⟩⟩⟩⟩⟩⟩⟩
    · exact ⟨_, rfl, rfl, false, rfl, iteF ⟨_, rfl, rfl, false, rfl, iteF ⟨_, rfl, rfl, false, rfl, iteF ⟨_, rfl, rfl, false, rfl, iteF ⟨_, rfl, rfl, false, rfl, iteF ⟨_, rfl, rfl, false, rfl, iteF ⟨_, rfl, rfl, true, rfl, iteT ⟨_, rfl, _, rfl, d, n, 2, rfl, by omega, by omega, dr3, OutS N7 s03⟩⟩⟩⟩⟩⟩⟩⟩
    · refine ⟨_, rfl, rfl, false, rfl, iteF ⟨_, rfl, rfl, false, rfl, iteF ⟨_, rfl, rfl, false, rfl, iteF ⟨_, rfl, rfl, false, rfl, iteF ⟨_, rfl, rfl, false, rfl, iteF ⟨_, rfl, rfl, false, rfl, iteF ⟨_, rfl, rfl, false, rfl, iteF ⟨_, rfl, rfl, true, rfl, iteT ⟨_, rfl, d, rfl, dr3, fun H4 v1 n1 q1 r1 s4 dr4 c1 k1 g1 l1 => ?_⟩⟩⟩⟩⟩⟩⟩⟩⟩
      refine ⟨_, rfl, d, rfl, dr4, fun H5 v2 n2 q2 r2 s5 dr5 c2 k2 g2 l2 => ?_⟩
      have c1' := c1.mono s5
      have s35 := sd_trans s03 (sd_trans s4 s5)
      obtain ⟨x1, y1, z1, rfl, hx1, _, _⟩ := id c1'
      obtain ⟨x2, y2, z2, rfl, hx2, _, _⟩ := id (c2.mono del_sub)
      have p1 := k1.n1; have p2 := k2.n1
      refine ⟨_, rfl, x1, _, 0, _, rfl, rfl, SqL.of hx1, rfl, _, rfl, x2, _, 0, _, rfl, rfl, SqL.of hx2, rfl, _, _, rfl, rfl, _, rfl, _, _, rfl, rfl, _, rfl, ?_⟩
      by_cases big : mo < n1 + n2
      · rw [decide_eq_true big]
        refine iteT ⟨by show 0 ≤ sizeLine; exact Nat.zero_le _, fun e1 m1 => ⟨by show 1 ≤ sizeLine; decide, fun e2 m2 => ⟨by show 3 ≤ sizeLine; decide, fun e3 m3 => ?_⟩⟩⟩
        have t1 := same_upd (o := .lst []) m1
        have t2 := same_upd (o := .lst [.int 0]) m2
        have t3 := same_upd (o := .lst [.int 1, .ref e1, .ref e2]) m3
        have t13 := (t1.trans t2).trans t3
        have c3 : CsAt (heapOf t3) (.ref e3) 1 [] [0] := ⟨e3, e1, e2, rfl, upd_same, ⟨[], (t2.trans t3) _ _ upd_same, .nil⟩, t3 _ _ upd_same⟩
        refine ⟨_, rfl, _, rfl, _, rfl, rfl, _, _, true, n1, 1, q1, [], r1, [0], rfl, c1'.mono t13, c3, k1, ⟨⟨.nil, fun p hp => by cases hp⟩, by decide, .refl _⟩, by omega, fun H6 x q' r' s6 c6 k6 => ?_⟩
        exact outNow k (sd_trans s35 (del_sub.trans t13)) (dr5.mono t13) s6 c6 k6 (by omega) (by omega)
      · rw [decide_eq_false big]
        refine iteF ⟨_, rfl, _, rfl, _, rfl, rfl, _, _, true, n1, n2, q1, q2, r1, r2, rfl, c1', c2.mono del_sub, k1, k2, by omega, fun H6 x q' r' s6 c6 k6 => ?_⟩
        exact outNow k s35 dr5 s6 c6 k6 (by omega) (by omega)
    · refine ⟨_, rfl, rfl, false, rfl, iteF ⟨_, rfl, rfl, false, rfl, iteF ⟨_, rfl, rfl, false, rfl, iteF ⟨_, rfl, rfl, false, rfl, iteF ⟨_, rfl, rfl, false, rfl, iteF ⟨_, rfl, rfl, false, rfl, iteF ⟨_, rfl, rfl, false, rfl, iteF ⟨_, rfl, rfl, false, rfl, iteF ⟨_, rfl, rfl, true, rfl, iteT ⟨_, rfl, d, rfl, dr3, fun H4 v1 n1 q1 r1 s4 dr4 c1 k1 g1 l1 => ?_⟩⟩⟩⟩⟩⟩⟩⟩⟩⟩
      refine ⟨_, rfl, d, rfl, dr4, fun H5 v2 n2 q2 r2 s5 dr5 c2 k2 g2 l2 => ?_⟩
      have c1' := c1.mono s5
      have s35 := sd_trans s03 (sd_trans s4 s5)
      obtain ⟨x1, y1, z1, rfl, hx1, _, _⟩ := id c1'
      obtain ⟨x2, y2, z2, rfl, hx2, _, _⟩ := id (c2.mono del_sub)
      have p1 := k1.n1; have p2 := k2.n1
      refine ⟨_, rfl, x1, _, 0, _, rfl, rfl, SqL.of hx1, rfl, _, rfl, x2, _, 0, _, rfl, rfl, SqL.of hx2, rfl, _, _, rfl, rfl, _, rfl, _, _, rfl, rfl, _, rfl, ?_⟩
      by_cases big : mo < n1 + n2
      · rw [decide_eq_true big]
        refine iteT ⟨by show 0 ≤ sizeLine; exact Nat.zero_le _, fun e1 m1 => ⟨by show 1 ≤ sizeLine; decide, fun e2 m2 => ⟨by show 3 ≤ sizeLine; decide, fun e3 m3 => ?_⟩⟩⟩
        have t1 := same_upd (o := .lst []) m1
        have t2 := same_upd (o := .lst [.int 0]) m2
        have t3 := same_upd (o := .lst [.int 1, .ref e1, .ref e2]) m3
        have t13 := (t1.trans t2).trans t3
        have c3 : CsAt (heapOf t3) (.ref e3) 1 [] [0] := ⟨e3, e1, e2, rfl, upd_same, ⟨[], (t2.trans t3) _ _ upd_same, .nil⟩, t3 _ _ upd_same⟩
        refine ⟨_, rfl, _, rfl, _, rfl, rfl, _, _, false, n1, 1, q1, [], r1, [0], rfl, c1'.mono t13, c3, k1, ⟨⟨.nil, fun p hp => by cases hp⟩, by decide, .refl _⟩, by omega, fun H6 x q' r' s6 c6 k6 => ?_⟩
        exact outNow k (sd_trans s35 (del_sub.trans t13)) (dr5.mono t13) s6 c6 k6 (by omega) (by omega)
      · rw [decide_eq_false big]
        refine iteF ⟨_, rfl, _, rfl, _, rfl, rfl, _, _, false, n1, n2, q1, q2, r1, r2, rfl, c1', c2.mono del_sub, k1, k2, by omega, fun H6 x q' r' s6 c6 k6 => ?_⟩
        exact outNow k s35 dr5 s6 c6 k6 (by omega) (by omega)
    · refine ⟨_, rfl, rfl, false, rfl, iteF ⟨_, rfl, rfl, false, rfl, iteF ⟨_, rfl, rfl, false, rfl, iteF ⟨_, rfl, rfl, false, rfl, iteF ⟨_, rfl, rfl, false, rfl, iteF ⟨_, rfl, rfl, false, rfl, iteF ⟨_, rfl, rfl, false, rfl, iteF ⟨_, rfl, rfl, false, rfl, iteF ⟨_, rfl, rfl, false, rfl, iteF ⟨_, rfl, rfl, true, rfl, iteT ⟨_, rfl, 4, rfl, by decide, by decide, fun H4 D s4 nD hD => ?_⟩⟩⟩⟩⟩⟩⟩⟩⟩⟩⟩
      refine ⟨by show 4 ≤ sizeLine; decide, fun R nR => ⟨by show 3 ≤ sizeLine; decide, fun A nA => ⟨_, rfl, ?_⟩⟩⟩
      have sR := same_upd (o := .lst [.int 0, .int 1, .int 2, .int 3]) nR
      have Dd := dr3.ne nD
      have dr4 := dr3.mono s4
      have Rd := dr4.ne nR
      have drR := dr4.mono sR
      obtain ⟨x, y, z⟩ := cs_up (n := 4) (r := [0, 1, 2, 3]) (sd_trans s03 (del_sub.trans (s4.trans sR))) drR ((((hD.mono same_new).ls).mono sR).del drR Dd) (IL.del upd_same Rd) nA
      exact ⟨d, _, _, [0, 1, 2, 3], mo, rfl, mo5, mo7, y, z, ⟨lnP_cl (by decide), by decide, .refl _⟩, OutS (by omega) x⟩
    · refine ⟨_, rfl, rfl, false, rfl, iteF ⟨_, rfl, rfl, false, rfl, iteF ⟨_, rfl, rfl, false, rfl, iteF ⟨_, rfl, rfl, false, rfl, iteF ⟨_, rfl, rfl, false, rfl, iteF ⟨_, rfl, rfl, false, rfl, iteF ⟨_, rfl, rfl, false, rfl, iteF ⟨_, rfl, rfl, false, rfl, iteF ⟨_, rfl, rfl, false, rfl, iteF ⟨_, rfl, rfl, false, rfl, iteF ⟨_, rfl, rfl, true, rfl, iteT ⟨5, rfl, by decide, by decide, fun H4 D rs s4 nD hD cD mD => ?_⟩⟩⟩⟩⟩⟩⟩⟩⟩⟩⟩⟩
      refine ⟨by show 2 ≤ sizeLine; decide, fun t1 m1 => ⟨by show 1 ≤ sizeLine; decide, fun e1 m2 => ?_⟩⟩
      have u1 := same_upd (o := .tup [.int 0, .int 2]) m1
      have u2 := same_upd (o := .lst [.ref t1]) m2
      obtain ⟨ds, hds, _⟩ := id (hD.mono (u1.trans u2))
      have lrs := cD.few (by decide)
      have lE : Ls (heapOf u2) e1 [(0, 2)] := ⟨_, upd_same, .cons (dt_pr (p := (0, 2)) (u2 _ _ upd_same)) .nil⟩
      refine ⟨D, e1, ds, [.ref t1], rfl, rfl, hds, upd_same, by rw [(hD.mono (u1.trans u2)).len hds, sizeLine_eq]; show _ + 1 ≤ _; omega, fun e2 m3 => ?_⟩
      have u3 := same_upd (o := .lst (ds ++ [.ref t1])) m3
      have lC : Ls (heapOf u3) e2 (rs ++ [(0, 2)]) := (hD.mono (u1.trans u2)).cat lE hds upd_same m3
      have no : ((0 : Int), (2 : Int)) ∉ rs := fun h => by
        have := (mD _).mp h
        revert this
        decide
      have ndp : (rs ++ [((0 : Int), (2 : Int))]).Nodup := List.nodup_append.mpr ⟨pairwise_nodup cD.srt, by simp, fun a ha b hb e => by
        rw [List.mem_singleton.mp hb] at e
        rw [e] at ha
        exact no ha⟩
      refine ⟨e2, _, rfl, lC, ndp, fun H5 pA qs s5 np lp pw hm _ => ?_⟩
      refine ⟨_, rfl, by show 5 ≤ sizeLine; decide, fun R nR => ⟨by show 3 ≤ sizeLine; decide, fun A nA => ?_⟩⟩
      have sR := same_upd (o := .lst [.int 0, .int 2, .int 1, .int 3, .int 4]) nR
      have dr4 := ((dr3.mono s4).mono ((u1.trans u2).trans u3))
      have pd := dr4.ne np
      have dr5 := dr4.mono s5
      have Rd := dr5.ne nR
      exact k.now (c := R) (r := [0, 2, 1, 3, 4]) (sd_trans s03 (del_sub.trans (((s4.trans ((u1.trans u2).trans u3)).trans s5).trans sR))) (dr5.mono sR) (lp.mono sR) pd upd_same Rd ⟨⟨pw, fun z hz => by
        rcases List.mem_append.mp ((hm z).mp hz) with h | h
        · exact cD.rng z h
        · rw [List.mem_singleton.mp h]; decide⟩, by decide, by decide +kernel⟩ (by decide) (by omega) nA
    · exact ⟨_, rfl, rfl, false, rfl, iteF ⟨_, rfl, rfl, false, rfl, iteF ⟨_, rfl, rfl, false, rfl, iteF ⟨_, rfl, rfl, false, rfl, iteF ⟨_, rfl, rfl, false, rfl, iteF ⟨_, rfl, rfl, false, rfl, iteF ⟨_, rfl, rfl, false, rfl, iteF ⟨_, rfl, rfl, false, rfl, iteF ⟨_, rfl, rfl, false, rfl, iteF ⟨_, rfl, rfl, false, rfl, iteF ⟨_, rfl, rfl, false, rfl, iteF ⟨_, rfl, _, rfl, d, n, 0, rfl, by omega, by omega, dr3, OutS N7 s03⟩⟩⟩⟩⟩⟩⟩⟩⟩⟩⟩⟩
end
end K0
set_option Elab.async false
set_option linter.all false
set_option maxRecDepth 100000
set_option maxHeartbeats 4000000
namespace K0
open PySem PySem.Spec PyProof.Rows L2
section
variable {P : Program} {w : World} {K : PySem.W.Frag} {mg : Str → Option Value} {base : Heap} {f : Addr} {fd : FuncData}
abbrev s_ca : Stmt := top 64
/-- _law_case -/
theorem sc_ca : FnScope ["_law_draws_here", "_law_most", "_law_case_here", "_law_mode", "_law_row_here", "_law_which", "_law_place"] ["_law_draws_here", "_law_most"] (defScope s_ca) := ⟨rfl, rfl, rfl, by decide +kernel, rfl, by decide +kernel, by decide +kernel⟩
theorem ok_ca (F : Fun K "_law_case" "_law_case" s_ca f fd) (B : Blt2 mg) (TK : Df P w K mg base "_law_take" 1 ["_law_draws_here", "_law_many"] spTk) (MD : Df P w K mg base "_law_made" 4 ["_law_draws_here", "_law_most"] spMd) (MV : Df P w K mg base "_law_moved" 1 ["_law_row_here", "_law_which", "_law_place"] spMv) (RO : Df P w K mg base "_law_row" 2 ["_law_draws_here", "_law_many"] spRo) :
    FnOk P w K mg base (L2.CX P w) 5 f fd ["_law_draws_here", "_law_most"] spMd := by
  refine F.okX sc_ca (fun vs H Q E h => ?_) (fun cdv A outer s H vs Q E hr h => ?_)
  · obtain ⟨d, mo, rfl, _⟩ := h
    rfl
  · obtain ⟨d, mo, rfl, mo5, mo7, dr, k⟩ := h
    have nd := sc_ca.nd
    have r1 : Room 1 _ := hr.mono (by decide)
    have r2 : Room 2 _ := hr.mono (by decide)
    have r4 : Room 4 _ := hr.mono (by decide)
    refine ⟨_, pss_cons (ps_set (i := 2) nd rfl (.inl rfl) (pe_df MD r4 (by rfl) passUp (pa_cons (pv 0) (pa_cons (pv 1) pa_nil))))
      (pss_cons (ps_set (i := 3) nd rfl (.inl rfl) (pe_df TK r1 (by rfl) passUp (pa_cons (pv 0) (pa_cons pe_int pa_nil))))
      (pss_cons (ps_set (i := 4) nd rfl (.inl rfl) (pe_callTy call_list_of (by rfl) B.list (by decide +kernel) (pa_cons (pe_ix ix_list (pv 2) pe_int (fun _ _ => rfl)) pa_nil)))
      (pss_cons (ps_if (pt_cmpR op_eq (pv 3) pe_int (nomark _))
        (pss_cons (ps_set (i := 5) nd rfl (.inl rfl) (pe_op op_mod (pe_callTy call_int1 (by rfl) B.int (by decide +kernel) (pa_cons (pe_op op_add (pe_op op_sub (pe_ix ix_list (pv 2) pe_int (fun _ _ => rfl)) pe_int) (pe_df TK r1 (by rfl) passUp (pa_cons (pv 0) (pa_cons (pe_ix ix_list (pv 2) pe_int (fun _ _ => rfl)) pa_nil)))) pa_nil)) (pe_ix ix_list (pv 2) pe_int (fun _ _ => rfl))))
        (pss_cons (ps_set (i := 6) nd rfl (.inl rfl) (pe_op op_mod (pe_callTy call_int1 (by rfl) B.int (by decide +kernel) (pa_cons (pe_op op_add pe_int (pe_df TK r1 (by rfl) passUp (pa_cons (pv 0) (pa_cons (pe_ix ix_list (pv 2) pe_int (fun _ _ => rfl)) pa_nil)))) pa_nil)) (pe_ix ix_list (pv 2) pe_int (fun _ _ => rfl))))
        (pss_one (ps_set (i := 4) nd rfl (.inl rfl) (pe_df MV r1 (by rfl) passUp (pa_cons (pv 4) (pa_cons (pv 5) (pa_cons (pv 6) pa_nil)))))))) pss_nil)
      (pss_cons (ps_if (pt_cmpR op_eq (pv 3) pe_int (nomark _)) (pss_one (ps_set (i := 4) nd rfl (.inl rfl) (pe_df RO r2 (by rfl) passUp (pa_cons (pv 0) (pa_cons (pe_ix ix_list (pv 2) pe_int (fun _ _ => rfl)) pa_nil))))) pss_nil)
      (pss_one (ps_ret (pe_lst (pa_cons (pe_ix ix_list (pv 2) pe_int (fun _ _ => rfl)) (pa_cons (pe_ix ix_list (pv 2) pe_int (fun _ _ => rfl)) (pa_cons (pv 4) pa_nil)))))))))), ?_⟩
    refine ⟨_, rfl, _, rfl, d, mo, rfl, mo5, mo7, dr, fun H1 v n q r s1 dr1 cs ck n2 n7 => ?_⟩
    obtain ⟨a, b, c, rfl, ha, hb, hc⟩ := id cs
    have n1 := ck.n1
    have lr := ck.len
    refine ⟨_, rfl, d, 4, rfl, by decide, dr1, fun mo H2 m0 m4 s2 dr2 => ?_⟩
    have s02 := sd_trans s1 s2
    have ha2 := (same_del s2) _ _ ha
    have hb2 := hb.mono (same_del s2)
    have hc2 : IL (del H2 d) c r := (same_del s2) _ _ hc
    refine ⟨_, rfl, a, _, 2, _, rfl, rfl, SqL.of (del_sub _ _ ha2), rfl, c, _, rfl, .inl (SqL.of (del_sub _ _ hc2)), fun R nR => ?_⟩
    have s3 := same_upd (o := .lst (r.map V.int)) nR
    have Rd := dr2.ne nR
    have dr3 := dr2.mono s3
    have s03 : Same (del H d) (heapOf s3) := sd_trans s02 (del_sub.trans s3)
    have ha3 := (delF (d := d) s3) _ _ ha2
    have hb3 := hb2.mono (delF (d := d) s3)
    have hR : IL (del (heapOf s3) d) R r := IL.del upd_same Rd
    have fin : ∀ {H' : Hp} {R' : Addr} {r' : List Int} {A' : Addr}, Same (del (heapOf s3) d) H' → DrO H' d → IL (del H' d) R' r' → r'.Perm (ran n.toNat) → H' A' = none → Q (.ref A') (upd H' A' (.lst [.int n, .ref b, .ref R'])) := fun {H' R' r' A'} s dr' hr' pr nA => by
      obtain ⟨x, y, z⟩ := cs_up (n := n) (sd_trans s03 s) dr' (hb3.mono (same_del s)) hr' nA
      exact k _ _ _ _ _ x y z ⟨ck.c, n1, pr⟩ n2 n7
    have ret : ∀ {H' : Hp}, Same (del (heapOf s3) d) H' → H' a = some (.lst [.int n, .ref b, .ref c]) := fun s => s _ _ ha3
    refine ⟨_, rfl, rfl, _, rfl, ?_⟩
    rw [dec_int]
    by_cases e0 : mo = 0
    · rw [show (mo == 0) = true by simpa using e0]
      have rA := ret (H' := heapOf s3) del_sub
      refine iteT ⟨_, rfl, a, _, 0, _, rfl, rfl, SqL.of rA, rfl, _, _, rfl, rfl, _, rfl, _, rfl, a, _, 0, _, rfl, rfl, SqL.of rA, rfl, d, n, rfl, by omega, dr3, fun w1 H4 w10 w1n s4 dr4 => ?_⟩
      have rA4 := ret s4
      refine ⟨_, _, rfl, rfl, .inl ⟨_, rfl, _, rfl, a, _, 0, _, rfl, rfl, SqL.of rA4, rfl, _, _, rfl, rfl, by omega, ?_⟩⟩
      refine ⟨_, rfl, _, rfl, a, _, 0, _, rfl, rfl, SqL.of rA4, rfl, d, n, rfl, by omega, dr4, fun w2 H5 w20 w2n s5 dr5 => ?_⟩
      have s35 := sd_trans s4 s5
      have rA5 := ret s35
      refine ⟨_, _, rfl, rfl, .inl ⟨_, rfl, _, rfl, a, _, 0, _, rfl, rfl, SqL.of rA5, rfl, _, _, rfl, rfl, by omega, ?_⟩⟩
      obtain ⟨x, hx⟩ := Int.eq_ofNat_of_zero_le (Int.emod_nonneg (n - 1 + w1) (by omega : n ≠ 0))
      obtain ⟨y, hy⟩ := Int.eq_ofNat_of_zero_le (Int.emod_nonneg (1 + w2) (by omega : n ≠ 0))
      have hx2 := Int.emod_lt_of_pos (n - 1 + w1) (by omega : 0 < n)
      have hy2 := Int.emod_lt_of_pos (1 + w2) (by omega : 0 < n)
      have hR5 := (same_del s35) _ _ hR
      refine ⟨_, rfl, _, rfl, _, rfl, R, r, x, y, by rw [← hx, ← hy]; rfl, del_sub _ _ hR5, by omega, by omega, by omega, fun H6 R' r' s6 nR' hR' pR' => ?_⟩
      have dr6 := dr5.mono s6
      have Rd' := dr5.ne nR'
      have s36 : Same (del (heapOf s3) d) H6 := sd_trans s35 (del_sub.trans s6)
      have rA6 := ret s36
      refine ⟨_, rfl, rfl, false, by rw [e0]; rfl, iteF ⟨_, rfl, a, _, 0, _, rfl, rfl, SqL.of rA6, rfl, _, rfl, a, _, 1, _, rfl, rfl, SqL.of rA6, rfl, _, rfl, (by show 3 ≤ sizeLine; decide), fun A' nA => ?_⟩⟩
      exact fin s36 dr6 (IL.del hR' Rd') (pR'.trans ck.p) nA
    · rw [show (mo == 0) = false by simpa using e0]
      refine iteF ⟨_, rfl, rfl, _, rfl, ?_⟩
      rw [dec_int]
      have rA := ret (H' := heapOf s3) del_sub
      by_cases e3 : mo = 3
      · rw [show (mo == 3) = true by simpa using e3]
        refine iteT ⟨_, rfl, _, rfl, a, _, 0, _, rfl, rfl, SqL.of rA, rfl, d, n, rfl, by omega, by omega, dr3, fun H4 R' r' s4 dr4 nR' hR' pR' => ?_⟩
        have rA4 := ret s4
        exact ⟨_, rfl, a, _, 0, _, rfl, rfl, SqL.of rA4, rfl, _, rfl, a, _, 1, _, rfl, rfl, SqL.of rA4, rfl, _, rfl, (by show 3 ≤ sizeLine; decide), fun A' nA => fin s4 dr4 hR' pR' nA⟩
      · rw [show (mo == 3) = false by simpa using e3]
        exact iteF ⟨_, rfl, a, _, 0, _, rfl, rfl, SqL.of rA, rfl, _, rfl, a, _, 1, _, rfl, rfl, SqL.of rA, rfl, _, rfl, (by show 3 ≤ sizeLine; decide), fun A' nA => fin del_sub dr3 hR ck.p nA⟩
end
end K0
set_option Elab.async false
set_option linter.all false
set_option maxRecDepth 100000
set_option maxHeartbeats 4000000
namespace K0
open PySem PySem.Spec PyProof.Rows L2
/-! ### full knots by masks, as mathematics -/
def ClqM (q : List Pr) (m : Nat) : Prop := ∀ x y : Nat, m.testBit x = true → m.testBit y = true → x ≠ y → hasP q x y = true
def SubM (a b : Nat) : Prop := ∀ x : Nat, a.testBit x = true → b.testBit x = true
theorem SubM.trans {a b c : Nat} (h : SubM a b) (g : SubM b c) : SubM a c := fun x hx => g x (h x hx)
/-- a knot of the part that no thing of the part goes with -/
structure MaxM (q : List Pr) (part m : Nat) : Prop where
  clq : ClqM q m
  sub : SubM m part
  max : ∀ y : Nat, part.testBit y = true → m.testBit y = false → ∃ x, m.testBit x = true ∧ hasP q x y = false
structure Ent where
  k : Nat
  f : Nat
  d : Nat
structure EntOk (q : List Pr) (part : Nat) (e : Ent) : Prop where
  clq : ClqM q e.k
  kp : SubM e.k part
  fp : SubM e.f part
  dp : SubM e.d part
  nb : ∀ x y : Nat, e.k.testBit x = true → (e.f.testBit y = true ∨ e.d.testBit y = true) → hasP q x y = true
  dj : ∀ y : Nat, e.f.testBit y = true → e.d.testBit y = false
structure Hit (e : Ent) (m : Nat) : Prop where
  lo : SubM e.k m
  hi : ∀ x : Nat, m.testBit x = true → e.k.testBit x = true ∨ e.f.testBit x = true
theorem two_bit (t y : Nat) : (2 ^ t).testBit y = decide (t = y) := Nat.testBit_two_pow
theorem or_two (m t y : Nat) : (m ||| 2 ^ t).testBit y = (m.testBit y || decide (t = y)) := by rw [Nat.testBit_or, two_bit]
theorem hasP_irr {n : Int} {q : List Pr} (h : Cl n q) (x : Nat) : hasP q x x = false := by
  cases e : hasP q x x with
  | false => rfl
  | true =>
    unfold hasP at e
    rw [Bool.or_self, decide_eq_true_iff] at e
    have := h.rng _ e
    omega
theorem hasP_sym (q : List Pr) (x y : Nat) : hasP q x y = hasP q y x := Bool.or_comm _ _
def kids (ms : Nat → Nat) (K : Nat) : Nat → Nat → List Nat → List Ent
  | _, _, [] => []
  | F, D, t :: g => ⟨K ||| 2 ^ t, F &&& ms t, D &&& ms t⟩ :: kids ms K (andN F (2 ^ t)) (D ||| 2 ^ t) g
section
variable {n : Int} {q : List Pr} {ms : Nat → Nat} {part : Nat}
theorem kid_ok (cl : Cl n q) (hm : ∀ x y, (ms x).testBit y = hasP q x y) {K F D t : Nat} (ok : EntOk q part ⟨K, F, D⟩) (ht : F.testBit t = true) : EntOk q part ⟨K ||| 2 ^ t, F &&& ms t, D &&& ms t⟩ ∧ EntOk q part ⟨K, andN F (2 ^ t), D ||| 2 ^ t⟩ := by
  have nb := ok.nb
  dsimp only at nb
  constructor
  · refine ⟨fun x y hx hy ne => ?_, fun x hx => ?_, fun x hx => ?_, fun x hx => ?_, fun x y hx hy => ?_, fun y hy => ?_⟩
    · dsimp only at hx hy
      rw [or_two, Bool.or_eq_true, decide_eq_true_iff] at hx hy
      rcases hx with hx | rfl
      · rcases hy with hy | rfl
        · exact ok.clq x y hx hy ne
        · exact nb x _ hx (.inl ht)
      · rcases hy with hy | rfl
        · rw [hasP_sym]
          exact nb y _ hy (.inl ht)
        · exact absurd rfl ne
    · dsimp only at hx
      rw [or_two, Bool.or_eq_true, decide_eq_true_iff] at hx
      rcases hx with hx | rfl
      · exact ok.kp x hx
      · exact ok.fp _ ht
    · dsimp only at hx
      rw [Nat.testBit_and, Bool.and_eq_true] at hx
      exact ok.fp x hx.1
    · dsimp only at hx
      rw [Nat.testBit_and, Bool.and_eq_true] at hx
      exact ok.dp x hx.1
    · dsimp only at hx hy
      rw [or_two, Bool.or_eq_true, decide_eq_true_iff] at hx
      rw [Nat.testBit_and, Bool.and_eq_true, Nat.testBit_and, Bool.and_eq_true] at hy
      rcases hx with hx | rfl
      · exact nb x y hx (hy.imp (fun h => h.1) (fun h => h.1))
      · rcases hy with hy | hy
        · rw [← hm]; exact hy.2
        · rw [← hm]; exact hy.2
    · dsimp only at hy ⊢
      rw [Nat.testBit_and, Bool.and_eq_true] at hy
      rw [Nat.testBit_and, ok.dj y hy.1, Bool.false_and]
  · refine ⟨ok.clq, ok.kp, fun x hx => ?_, fun x hx => ?_, fun x y hx hy => ?_, fun y hy => ?_⟩
    · dsimp only at hx
      rw [andN_bit, Bool.and_eq_true] at hx
      exact ok.fp x hx.1
    · dsimp only at hx
      rw [or_two, Bool.or_eq_true, decide_eq_true_iff] at hx
      rcases hx with hx | rfl
      · exact ok.dp x hx
      · exact ok.fp _ ht
    · dsimp only at hx hy
      rw [andN_bit, Bool.and_eq_true, or_two, Bool.or_eq_true, decide_eq_true_iff] at hy
      rcases hy with hy | hy | rfl
      · exact nb x y hx (.inl hy.1)
      · exact nb x y hx (.inr hy)
      · exact nb x _ hx (.inl ht)
    · dsimp only at hy ⊢
      rw [andN_bit, Bool.and_eq_true, two_bit, Bool.not_eq_true', decide_eq_false_iff_not] at hy
      rw [or_two, ok.dj y hy.1, Bool.false_or]
      exact decide_eq_false hy.2
theorem kids_ok (cl : Cl n q) (hm : ∀ x y, (ms x).testBit y = hasP q x y) {K : Nat} : ∀ {g : List Nat} {F D : Nat}, EntOk q part ⟨K, F, D⟩ → g.Nodup → (∀ t ∈ g, F.testBit t = true) → ∀ e ∈ kids ms K F D g, EntOk q part e
  | [], _, _, _, _, _, e, he => by cases he
  | t :: g, F, D, ok, nd, hg, e, he => by
    obtain ⟨o1, o2⟩ := kid_ok cl hm ok (hg t List.mem_cons_self)
    rcases List.mem_cons.mp he with rfl | he
    · exact o1
    · refine kids_ok cl hm o2 (List.nodup_cons.mp nd).2 (fun y hy => ?_) e he
      rw [andN_bit, hg y (List.mem_cons_of_mem _ hy), two_bit, Bool.true_and, Bool.not_eq_true', decide_eq_false_iff_not]
      rintro rfl
      exact (List.nodup_cons.mp nd).1 hy
theorem kids_hit (hm : ∀ x y, (ms x).testBit y = hasP q x y) {K m : Nat} (mx : MaxM q part m) : ∀ {g : List Nat} {F D : Nat}, Hit ⟨K, F, D⟩ m → (∃ t ∈ g, m.testBit t = true) → ∃ e ∈ kids ms K F D g, Hit e m
  | [], _, _, _, ⟨_, h, _⟩ => by cases h
  | t :: g, F, D, hit, ⟨u, hu, mu⟩ => by
    by_cases ht : m.testBit t = true
    · refine ⟨_, List.mem_cons_self, ⟨fun x hx => ?_, fun x hx => ?_⟩⟩
      · dsimp only at hx
        rw [or_two, Bool.or_eq_true, decide_eq_true_iff] at hx
        rcases hx with hx | rfl
        · exact hit.lo x hx
        · exact ht
      · dsimp only
        rw [or_two, Bool.or_eq_true, decide_eq_true_iff, Nat.testBit_and, Bool.and_eq_true]
        by_cases e : t = x
        · exact .inl (.inr e)
        · rcases hit.hi x hx with h | h
          · exact .inl (.inl h)
          · exact .inr ⟨h, by rw [hm]; exact mx.clq t x ht hx e⟩
    · rcases List.mem_cons.mp hu with rfl | hu
      · exact absurd mu ht
      · obtain ⟨e, he, h⟩ := kids_hit hm mx (g := g) (F := andN F (2 ^ t)) (D := D ||| 2 ^ t) ⟨hit.lo, fun x hx => by
          dsimp only
          rcases hit.hi x hx with h | h
          · exact .inl h
          · refine .inr ?_
            rw [andN_bit, two_bit]
            dsimp only at h
            rw [h, Bool.true_and, Bool.not_eq_true', decide_eq_false_iff_not]
            rintro rfl
            exact ht hx⟩ ⟨u, hu, mu⟩
        exact ⟨e, List.mem_cons_of_mem _ he, h⟩
/-- the pivot's way: some of the growing ones is in each full knot -/
theorem grow_hit (cl : Cl n q) (hm : ∀ x y, (ms x).testBit y = hasP q x y) {K F D p m : Nat} (ok : EntOk q part ⟨K, F, D⟩) (mx : MaxM q part m) (hit : Hit ⟨K, F, D⟩ m) (hp : F.testBit p = true ∨ D.testBit p = true) : ∃ t, (andN F (ms p)).testBit t = true ∧ m.testBit t = true := by
  refine Classical.byContradiction fun no => ?_
  have no' : ∀ t, F.testBit t = true → m.testBit t = true → hasP q p t = true := fun t hF hM => by
    cases e : hasP q p t with
    | true => rfl
    | false => exact absurd ⟨t, by rw [andN_bit, hF, hm, e]; rfl, hM⟩ no
  have nb := ok.nb
  have hh := hit.hi
  dsimp only at nb hh
  have pM : m.testBit p = false := by
    cases e : m.testBit p with
    | false => rfl
    | true =>
      rcases hh p e with h | h
      · have := nb p p h hp
        rw [hasP_irr cl] at this
        cases this
      · have := no' p h e
        rw [hasP_irr cl] at this
        cases this
  have pp : part.testBit p = true := by
    rcases hp with h | h
    · exact ok.fp p h
    · exact ok.dp p h
  obtain ⟨x, hx, nx⟩ := mx.max p pp pM
  rcases hh x hx with h | h
  · rw [nb x p h hp] at nx
    cases nx
  · have := no' x h hx
    rw [hasP_sym, nx] at this
    cases this
theorem leaf_hit {K F D m : Nat} (ok : EntOk q part ⟨K, F, D⟩) (z : F ||| D = 0) (hit : Hit ⟨K, F, D⟩ m) : m = K := by
  refine Nat.eq_of_testBit_eq fun x => ?_
  have f0 : F.testBit x = false := by
    have : (F ||| D).testBit x = false := by rw [z, Nat.zero_testBit]
    rw [Nat.testBit_or, Bool.or_eq_false_iff] at this
    exact this.1
  rw [Bool.eq_iff_iff]
  constructor
  · intro h
    rcases hit.hi x h with h | h
    · exact h
    · dsimp only at h
      rw [f0] at h
      cases h
  · exact hit.lo x
/-- each knot of a part lies in a full one -/
theorem ext_max (part : Nat) : ∀ (l : List Nat) {s : Nat}, ClqM q s → SubM s part → (∀ y ∈ l, part.testBit y = true) → ∃ m, SubM s m ∧ ClqM q m ∧ SubM m part ∧ ∀ y ∈ l, m.testBit y = false → ∃ x, m.testBit x = true ∧ hasP q x y = false
  | [], s, c, sp, _ => ⟨s, fun _ h => h, c, sp, fun y hy => by cases hy⟩
  | y :: l, s, c, sp, hl => by
    by_cases all : ∀ x : Nat, s.testBit x = true → x ≠ y → hasP q x y = true
    · obtain ⟨m, h1, h2, h3, h4⟩ := ext_max part l (s := s ||| 2 ^ y) (fun a b ha hb ne => by
        rw [or_two, Bool.or_eq_true, decide_eq_true_iff] at ha hb
        rcases ha with ha | rfl
        · rcases hb with hb | rfl
          · exact c a b ha hb ne
          · exact all a ha ne
        · rcases hb with hb | rfl
          · rw [hasP_sym]
            exact all b hb (Ne.symm ne)
          · exact absurd rfl ne) (fun x hx => by
        rw [or_two, Bool.or_eq_true, decide_eq_true_iff] at hx
        rcases hx with hx | rfl
        · exact sp x hx
        · exact hl _ List.mem_cons_self) (fun z hz => hl z (List.mem_cons_of_mem _ hz))
      refine ⟨m, fun x hx => h1 x (by rw [or_two, hx]; rfl), h2, h3, fun z hz hn => ?_⟩
      rcases List.mem_cons.mp hz with rfl | hz
      · rw [h1 z (by rw [or_two, decide_eq_true rfl, Bool.or_true])] at hn
        cases hn
      · exact h4 z hz hn
    · obtain ⟨m, h1, h2, h3, h4⟩ := ext_max part l (s := s) c sp (fun z hz => hl z (List.mem_cons_of_mem _ hz))
      refine ⟨m, h1, h2, h3, fun z hz hn => ?_⟩
      rcases List.mem_cons.mp hz with rfl | hz
      · obtain ⟨x, hx⟩ := Classical.not_forall.mp all
        have hx1 := Classical.not_imp.mp hx
        have hx2 := Classical.not_imp.mp hx1.2
        exact ⟨x, h1 x hx1.1, by cases e : hasP q x z with | false => rfl | true => exact absurd e hx2.2⟩
      · exact h4 z hz hn
end
end K0
set_option Elab.async false
set_option linter.all false
set_option maxRecDepth 100000
set_option maxHeartbeats 4000000
namespace K0
open PySem PySem.Spec PyProof.Rows L2
theorem fil_lt {p r : Nat → Bool} : ∀ {l : List Nat}, (∀ x ∈ l, p x = true → r x = true) → (∃ t ∈ l, r t = true ∧ p t = false) → (l.filter p).length + 1 ≤ (l.filter r).length
  | [], _, ⟨_, h, _⟩ => by cases h
  | a :: l, h, ⟨t, ht, rt, pt⟩ => by
    have le : (l.filter p).length ≤ (l.filter r).length := by
      clear pt rt ht
      have h' : ∀ x ∈ l, p x = true → r x = true := fun x hx => h x (List.mem_cons_of_mem _ hx)
      clear h
      induction l with
      | nil => exact Nat.le_refl _
      | cons b l ih =>
        have ih := ih fun x hx => h' x (List.mem_cons_of_mem _ hx)
        have hb := h' b List.mem_cons_self
        rw [List.filter_cons, List.filter_cons]
        cases e : p b with
        | true =>
          rw [hb e, if_pos rfl, if_pos rfl, List.length_cons, List.length_cons]
          omega
        | false =>
          rw [if_neg Bool.false_ne_true]
          cases e2 : r b with
          | true => rw [if_pos rfl, List.length_cons]; omega
          | false => rw [if_neg Bool.false_ne_true]; exact ih
    rw [List.filter_cons, List.filter_cons]
    rcases List.mem_cons.mp ht with rfl | ht
    · rw [rt, pt, if_pos rfl, if_neg Bool.false_ne_true, List.length_cons]
      omega
    · have ih := fil_lt (l := l) (fun x hx => h x (List.mem_cons_of_mem _ hx)) ⟨t, ht, rt, pt⟩
      have ha := h a List.mem_cons_self
      cases e : p a with
      | true =>
        rw [ha e, if_pos rfl, if_pos rfl, List.length_cons, List.length_cons]
        omega
      | false =>
        rw [if_neg Bool.false_ne_true]
        cases e2 : r a with
        | true => rw [if_pos rfl, List.length_cons]; omega
        | false => rw [if_neg Bool.false_ne_true]; exact ih
def cntM (N m : Nat) : Nat := (bitsOf N m).length
theorem cnt_lt {N a b t : Nat} (s : SubM a b) (ht : t < N) (hb : b.testBit t = true) (ha : a.testBit t = false) : cntM N a + 1 ≤ cntM N b := fil_lt (fun x _ h => s x h) ⟨t, List.mem_range.mpr ht, hb, ha⟩
theorem cnt_le {N m : Nat} : cntM N m ≤ N := by
  unfold cntM bitsOf
  have := List.length_filter_le m.testBit (List.range N)
  rw [List.length_range] at this
  exact this
def muE (N : Nat) (e : Ent) : Nat := 2 ^ cntM N e.f
theorem and_sub (a b : Nat) : SubM (a &&& b) a := fun x h => by
  rw [Nat.testBit_and, Bool.and_eq_true] at h
  exact h.1
theorem andN_sub (a b : Nat) : SubM (andN a b) a := fun x h => by
  rw [andN_bit, Bool.and_eq_true] at h
  exact h.1
theorem kids_mu {n : Int} {q : List Pr} {ms : Nat → Nat} {N : Nat} (cl : Cl n q) (hm : ∀ x y, (ms x).testBit y = hasP q x y) {K : Nat} : ∀ {g : List Nat} {F D : Nat}, g.Nodup → (∀ t ∈ g, t < N ∧ F.testBit t = true) → ((kids ms K F D g).map (muE N)).sum + 1 ≤ 2 ^ cntM N F
  | [], F, D, _, _ => Nat.one_le_two_pow
  | t :: g, F, D, nd, hg => by
    obtain ⟨tN, tF⟩ := hg t List.mem_cons_self
    have c1 := cnt_lt (N := N) (and_sub F (ms t)) tN tF (by rw [Nat.testBit_and, hm, hasP_irr cl, Bool.and_false])
    have c2 := cnt_lt (N := N) (andN_sub F (2 ^ t)) tN tF (by rw [andN_bit, two_bit, decide_eq_true rfl]; simp)
    have ih := kids_mu cl hm (K := K) (g := g) (F := andN F (2 ^ t)) (D := D ||| 2 ^ t) (List.nodup_cons.mp nd).2 (fun y hy => by
      obtain ⟨yN, yF⟩ := hg y (List.mem_cons_of_mem _ hy)
      refine ⟨yN, ?_⟩
      rw [andN_bit, yF, two_bit, Bool.true_and, Bool.not_eq_true', decide_eq_false_iff_not]
      rintro rfl
      exact (List.nodup_cons.mp nd).1 hy)
    show (muE N ⟨K ||| 2 ^ t, F &&& ms t, D &&& ms t⟩ + ((kids ms K (andN F (2 ^ t)) (D ||| 2 ^ t) g).map (muE N)).sum) + 1 ≤ 2 ^ cntM N F
    obtain ⟨c, hc⟩ : ∃ c, cntM N F = c + 1 := ⟨cntM N F - 1, by omega⟩
    have p1 : muE N ⟨K ||| 2 ^ t, F &&& ms t, D &&& ms t⟩ ≤ 2 ^ c := Nat.pow_le_pow_right (by decide) (by show cntM N (F &&& ms t) ≤ c; omega)
    have p2 : 2 ^ cntM N (andN F (2 ^ t)) ≤ 2 ^ c := Nat.pow_le_pow_right (by decide) (by omega)
    rw [hc, Nat.pow_succ]
    omega
/-- how far the search for full knots is -/
structure RunM (N : Nat) (q : List Pr) (part : Nat) (found : List Nat) (wait : List Ent) : Prop where
  fo : ∀ m ∈ found, ClqM q m ∧ SubM m part
  wo : ∀ e ∈ wait, EntOk q part e
  cov : ∀ m, MaxM q part m → m ∈ found ∨ ∃ e ∈ wait, Hit e m
  mu : found.length + (wait.map (muE N)).sum ≤ 2 ^ cntM N part
/-- what the search finds -/
structure Fulls (q : List Pr) (part : Nat) (found : List Nat) : Prop where
  fo : ∀ m ∈ found, ClqM q m ∧ SubM m part
  all : ∀ s, ClqM q s → SubM s part → ∃ m ∈ found, SubM s m
section
variable {n : Int} {q : List Pr} {ms : Nat → Nat} {part N : Nat} {found : List Nat} {w : List Ent} {e : Ent}
theorem RunM.start (q : List Pr) (part N : Nat) : RunM N q part [] [⟨0, part, 0⟩] := by
  have z : ∀ x, (0 : Nat).testBit x = false := Nat.zero_testBit
  refine ⟨fun m hm => (by cases hm), fun e he => ?_, fun m mx => .inr ⟨_, List.mem_singleton.mpr rfl, ⟨fun x hx => ?_, fun x hx => .inr (mx.sub x hx)⟩⟩, ?_⟩
  · rw [List.mem_singleton.mp he]
    refine ⟨fun x y hx => ?_, fun x hx => ?_, fun x hx => hx, fun x hx => ?_, fun x y hx => ?_, fun y _ => z y⟩
    all_goals (dsimp only at hx; rw [z] at hx; cases hx)
  · dsimp only at hx
    rw [z] at hx
    cases hx
  · show 0 + (2 ^ cntM N part + 0) ≤ _
    omega
theorem RunM.leaf (R : RunM N q part found (w ++ [e])) (z : e.f ||| e.d = 0) : RunM N q part (found ++ [e.k]) w := by
  have oe := R.wo e (List.mem_append_right _ (List.mem_singleton.mpr rfl))
  refine ⟨fun m hm => ?_, fun x hx => R.wo x (List.mem_append_left _ hx), fun m mx => ?_, ?_⟩
  · rcases List.mem_append.mp hm with hm | hm
    · exact R.fo m hm
    · rw [List.mem_singleton.mp hm]
      exact ⟨oe.clq, oe.kp⟩
  · rcases R.cov m mx with h | ⟨x, hx, h⟩
    · exact .inl (List.mem_append_left _ h)
    · rcases List.mem_append.mp hx with hx | hx
      · exact .inr ⟨x, hx, h⟩
      · rw [List.mem_singleton.mp hx] at h
        exact .inl (List.mem_append_right _ (List.mem_singleton.mpr (leaf_hit (K := e.k) (F := e.f) (D := e.d) oe z h)))
  · have := R.mu
    rw [List.map_append, List.sum_append, List.map_cons, List.map_nil, List.sum_cons, List.sum_nil] at this
    have p : 1 ≤ muE N e := Nat.one_le_two_pow
    rw [List.length_append]
    show found.length + 1 + _ ≤ _
    omega
theorem RunM.node (cl : Cl n q) (hm : ∀ x y, (ms x).testBit y = hasP q x y) (pN : ∀ x, part.testBit x = true → x < N) (R : RunM N q part found (w ++ [e])) {p : Nat} (hp : e.f.testBit p = true ∨ e.d.testBit p = true) {g : List Nat} (gd : g.Nodup) (hg : ∀ t, t ∈ g ↔ (andN e.f (ms p)).testBit t = true) : RunM N q part found (w ++ kids ms e.k e.f e.d g) := by
  have oe := R.wo e (List.mem_append_right _ (List.mem_singleton.mpr rfl))
  have gF : ∀ t ∈ g, e.f.testBit t = true := fun t ht => andN_sub _ _ t ((hg t).mp ht)
  refine ⟨R.fo, fun x hx => ?_, fun m mx => ?_, ?_⟩
  · rcases List.mem_append.mp hx with hx | hx
    · exact R.wo x (List.mem_append_left _ hx)
    · exact kids_ok cl hm (K := e.k) oe gd gF x hx
  · rcases R.cov m mx with h | ⟨x, hx, h⟩
    · exact .inl h
    · rcases List.mem_append.mp hx with hx | hx
      · exact .inr ⟨x, List.mem_append_left _ hx, h⟩
      · rw [List.mem_singleton.mp hx] at h
        obtain ⟨t, h1, h2⟩ := grow_hit cl hm (K := e.k) oe mx h hp
        obtain ⟨y, hy, h3⟩ := kids_hit hm mx (K := e.k) (g := g) (F := e.f) (D := e.d) h ⟨t, (hg t).mpr h1, h2⟩
        exact .inr ⟨y, List.mem_append_right _ hy, h3⟩
  · have := R.mu
    rw [List.map_append, List.sum_append, List.map_cons, List.map_nil, List.sum_cons, List.sum_nil] at this
    have k := kids_mu (N := N) cl hm (K := e.k) (D := e.d) gd (fun t ht => ⟨pN t (oe.fp t (gF t ht)), gF t ht⟩)
    rw [List.map_append, List.sum_append]
    have : muE N e = 2 ^ cntM N e.f := rfl
    omega
theorem RunM.done (pN : ∀ x, part.testBit x = true → x < N) (R : RunM N q part found []) : Fulls q part found := by
  refine ⟨R.fo, fun s cs ss => ?_⟩
  obtain ⟨m, h1, h2, h3, h4⟩ := ext_max part (bitsOf N part) cs ss (fun y hy => (List.mem_filter.mp hy).2)
  have mx : MaxM q part m := ⟨h2, h3, fun y hy hn => h4 y (List.mem_filter.mpr ⟨List.mem_range.mpr (pN y hy), hy⟩) hn⟩
  rcases R.cov m mx with h | ⟨e, he, _⟩
  · exact ⟨m, h, h1⟩
  · cases he
end
end K0
set_option Elab.async false
set_option linter.all false
set_option maxRecDepth 100000
set_option maxHeartbeats 4000000
/-! zip of range(n) and a list or a tuple -/
namespace ZR
open PySem PySem.Spec PyProof.Rows L2
def It2 (tp : Bool) (h : Heap) (q b : Addr) (j : Nat) : Prop := match tp with
  | true => h.IsTupleIter q b j
  | false => h.IsListIter q b j
def Sq2 (tp : Bool) (h : Heap) (b : Addr) (ys : Array Value) : Prop := match tp with
  | true => h.IsTuple b ys
  | false => h.IsList b ys
theorem It2.extBut {tp : Bool} {h h' : Heap} {q b c : Addr} {j : Nat} (x : It2 tp h q b j) (e : Heap.ExtBut c h h') (ne : q ≠ c) : It2 tp h' q b j := by
  cases tp
  · exact Heap.IsListIter.extBut x e ne
  · exact Heap.IsTupleIter.extBut x e ne
theorem Sq2.extBut {tp : Bool} {h h' : Heap} {b c : Addr} {ys : Array Value} (x : Sq2 tp h b ys) (e : Heap.ExtBut c h h') (ne : b ≠ c) : Sq2 tp h' b ys := by
  cases tp
  · exact Heap.IsList.extBut x e ne
  · exact Heap.IsTuple.extBut x e ne
theorem It2.at {tp : Bool} {h h' : Heap} {q b : Addr} {j : Nat} (x : It2 tp h q b j) (e : ∀ o, h.get? q = some o → h'.get? q = some o) : It2 tp h' q b j := by
  cases tp
  · exact Heap.IsListIter.at x e
  · exact Heap.IsTupleIter.at x e
theorem It2.obj {tp : Bool} {h : Heap} {q b : Addr} {j : Nat} (x : It2 tp h q b j) : ∃ o, h.get? q = some o ∧ ∀ v, o.data ≠ .cell v := by
  cases tp
  · obtain ⟨o, e, _, d⟩ := x
    exact ⟨o, e, fun v t => by rw [d] at t; cases t⟩
  · obtain ⟨o, e, _, d⟩ := x
    exact ⟨o, e, fun v t => by rw [d] at t; cases t⟩
section
variable {pr : Program} {wo : World} {Ar : Around} {Ex : Value → Shared → Prop} {st : Shared}
theorem next2_item {tp : Bool} {q b : Addr} {j : Nat} {ys : Array Value} {y : Value} {Q : Value → Shared → Prop} (hit : It2 tp st.heap q b j) (hl : Sq2 tp st.heap b ys) (hx : ys[j]? = some y)
    (hQ : ∀ h', It2 tp h' q b (j + 1) → Heap.SameBut q st.heap h' → Q y { st with heap := h' }) : wpAny (model pr wo) Ar (Builtin.SmallTypes.nextOf (.ref q)) Q Ex st := by
  cases tp
  · exact wpAny_nextOf_list_item hit hl hx hQ
  · exact RZ.nextOf_tuple_item hit hl hx hQ
theorem next2_end {tp : Bool} {q b : Addr} {j : Nat} {ys : Array Value} {Q : Value → Shared → Prop} (hh : Ar.handled = none) (hit : It2 tp st.heap q b j) (hl : Sq2 tp st.heap b ys) (hx : ys[j]? = none)
    (hE : ∀ h' e, Heap.ExtBut q st.heap h' → (∃ o, h'.get? e = some o ∧ o.cls = .type "StopIteration") → Ex (.ref e) { st with heap := h' }) : wpAny (model pr wo) Ar (Builtin.SmallTypes.nextOf (.ref q)) Q Ex st := by
  cases tp
  · exact wpAny_nextOf_list_end hh hit hl hx hE
  · exact RZ.nextOf_tuple_end hh hit hl hx hE
theorem nextR_item {p : Addr} {x left step : Int} {Q : Value → Shared → Prop} (hit : IsRangeIter st.heap p x left step) (hleft : 0 < left)
    (hQ : ∀ h', IsRangeIter h' p (x + step) (left - 1) step → Heap.SameBut p st.heap h' → Q (.int x st.toks) { st with heap := h', toks := st.toks + 1 }) : wpAny (model pr wo) Ar (Builtin.SmallTypes.nextOf (.ref p)) Q Ex st := by
  have hT : st.TypeIs (.ref p) "range_iterator" := ⟨_, hit, rfl⟩
  unfold Builtin.SmallTypes.nextOf
  refine wpAny_bind (wpAny_callSpecial?_slot (name := Str.ofString "__next__") hT F.slot_range_iterator_next
    (call_meets F.slot_range_iterator_next hT F.entry_range_iterator_next (F.args_range_iterator_next_1 _) (AutoRange.range_iterator___next___range_iterator_1 p x left step (by omega)) ⟨hit, ?_⟩))
  exact wpAny_pure (hQ _ (Heap.get?_update_self _ (Heap.get?_update_self _ hit rfl) rfl) ((Heap.SameBut.update ..).trans (Heap.SameBut.update ..)))
theorem nextR_end {p : Addr} {x left step : Int} {Q : Value → Shared → Prop} (hh : Ar.handled = none) (hit : IsRangeIter st.heap p x left step) (hleft : left ≤ 0)
    (hE : ∀ h' e, Heap.ExtBut p st.heap h' → (∃ o, h'.get? e = some o ∧ o.cls = .type "StopIteration") → Ex (.ref e) { st with heap := h' }) : wpAny (model pr wo) Ar (Builtin.SmallTypes.nextOf (.ref p)) Q Ex st := by
  have hT : st.TypeIs (.ref p) "range_iterator" := ⟨_, hit, rfl⟩
  unfold Builtin.SmallTypes.nextOf
  refine wpAny_bind (wpAny_callSpecial?_slot (name := Str.ofString "__next__") hT F.slot_range_iterator_next
    (wpAny_call_entry F.slot_range_iterator_next hT F.entry_range_iterator_next ?_ (F.args_range_iterator_next_1 _)))
  show wpAny _ _ (field (.ref p) 0 >>= _) _ _ st
  refine wpAny_bind (wpAny_field hit rfl (x := rawInt x) rfl ?_)
  show wpAny _ _ (field (.ref p) 1 >>= _) _ _ st
  refine wpAny_bind (wpAny_field hit rfl (x := rawInt left) rfl ?_)
  show wpAny _ _ (field (.ref p) 2 >>= _) _ _ st
  refine wpAny_bind (wpAny_field hit rfl (x := rawInt step) rfl ?_)
  show wpAny _ _ (if left ≤ 0 then _ else _) _ _ st
  rw [if_pos hleft]
  refine wpAny_bind (wpAny_rule ?_)
  refine wpAny_bind ?_
  show wpAny _ _ (newExc (.type "StopIteration") [] >>= _) _ _ _
  refine wpAny_bind ?_
  simp only [newExc, newTuple]
  refine wpAny_bind (wpAny_newObj_type ?_ (by size_fits))
  refine wpAny_bind (m := firstArgMember _ _) (wpAny_of_eq (a := Value.none) (by first | rfl | (simp only [firstArgMember]; rfl)) ?_)
  refine wpAny_newObj_type ?_ (by size_fits)
  simp only [raiseNew]
  refine wpAny_bind (wpAny_handled ?_)
  first | rw [show Ar.in1.handled = none from hh] | rw [hh]
  refine wpAny_bind (wpAny_pure (wpAny_throw ?_))
  exact hE _ _ (((Heap.ExtBut.refl p st.heap).push _).push _) ⟨_, Heap.get?_push_size _ rfl, rfl⟩
end
end ZR
set_option Elab.async false
set_option linter.all false
set_option maxRecDepth 100000
set_option maxHeartbeats 4000000
namespace ZR
open PySem PySem.Spec PyProof.Rows L2
section
variable {pr : Program} {wo : World} {Ar : Around} {Ex : Value → Shared → Prop} {st : Shared}
/-- where the zip stands: z with its pair of iterators I, its pair of what was handed out O, the iterators p over range(n), q over the list or tuple at b -/
structure At (tp : Bool) (n : Nat) (h : Heap) (z I O p q b : Addr) (i : Nat) : Prop where
  z : IsZip h z I O .none
  I : PySem.IsPair h I (.ref p) (.ref q)
  O : ∃ u v, PySem.IsPair h O u v
  p : IsRangeIter h p (i : Int) ((n : Int) - (i : Int)) 1
  q : It2 tp h q b i
/-- all but these four stay -/
def Off (z O p q : Addr) (h h' : Heap) : Prop := ∀ c o, c ≠ z → c ≠ O → c ≠ p → c ≠ q → h.get? c = some o → h'.get? c = some o
theorem rit_ext {h h' : Heap} {p c : Addr} {x l s : Int} (k : IsRangeIter h p x l s) (e : Heap.ExtBut c h h') (ne : p ≠ c) : IsRangeIter h' p x l s := e _ _ ne k
theorem go {tp : Bool} {n : Nat} {z I O p q b : Addr} {i : Nat} {ys : Array Value} {y : Value} {G : Value → Shared → Prop} (D : ZipApart z I O p q b b) (W : At tp n st.heap z I O p q b i) (lb : Sq2 tp st.heap b ys) (ex : i < n) (ey : ys[i]? = some y)
    (k : ∀ h', IsZip h' z I O (rawInt st.heap.objs.size) → PySem.IsPair h' O (.int (i : Int) st.toks) y → IsRangeIter h' p ((i + 1 : Nat) : Int) ((n : Int) - ((i + 1 : Nat) : Int)) 1 → It2 tp h' q b (i + 1) → PySem.IsPair h' st.heap.objs.size (.int (i : Int) st.toks) y → h'.objs.size = st.heap.objs.size + 1 → Off z O p q st.heap h' → G (.ref st.heap.objs.size) { st with heap := h', toks := st.toks + 1 }) :
    wpAny (model pr wo) Ar (Builtin.«zip.__next__» ⟨[.ref z], []⟩) (fun fin s' => ∃ v, fin = .done (.ret v) ∧ G v s') Ex st := by
  obtain ⟨kz, kI, ⟨u, v, kO⟩, kp, kq⟩ := W
  show wpAny _ _ (field (.ref z) 2 >>= _) _ _ _; refine wpAny_bind (wpAny_field kz rfl (x := .bool false) rfl ?_)
  show wpAny _ _ (field (.ref z) 3 >>= _) _ _ _; refine wpAny_bind (wpAny_field kz rfl (x := .ref I) rfl (wpAny_bind (wpAny_seqItems kI rfl ?_)))
  show wpAny _ _ (Builtin.SmallTypes.ownedTupleIsFree (.ref z) >>= _) _ _ _; refine wpAny_bind ?_; unfold Builtin.SmallTypes.ownedTupleIsFree
  refine wpAny_bind (wpAny_field kz rfl (x := .none) rfl (wpAny_pure ?_)); simp only [if_true]
  refine wpAny_bind (wpAny_rule (wpAny_bind (wpAny_field kz rfl (x := .ref O) rfl (wpAny_bind (wpAny_setField_rec kz (by simp) fun g1 z1 e1 => ?_)))))
  replace z1 : IsZip g1 z I O .ellipsis := z1
  refine wpAny_bind ?_; simp only [List.zipIdx_cons, List.zipIdx_nil, List.forIn_cons, List.forIn_nil]
  refine wpAny_bind (wpAny_bind (wpAny_onRaise ?_)); show wpAny _ _ (Builtin.SmallTypes.nextOf (.ref p) >>= _) _ _ _
  refine wpAny_bind (nextR_item (rit_ext kp e1.extBut D.i1z) (by omega) fun g2 p2 e2 => wpAny_pure ?_)
  have O2 : PySem.IsPair g2 O u v := e2.extBut _ _ D.TOi1 (e1.extBut _ _ D.TOz kO)
  refine wpAny_bind (wpAny_seqItems O2 rfl (wpAny_bind (wpAny_updateSeq_pair O2 fun g3 O3 e3 => ?_)))
  replace O3 : PySem.IsPair g3 O (.int (i : Int) st.toks) v := O3
  refine wpAny_bind (wpAny_letGo (wpAny_pure (wpAny_bind (wpAny_bind (wpAny_onRaise ?_))))); show wpAny _ _ (Builtin.SmallTypes.nextOf (.ref q) >>= _) _ _ _
  refine wpAny_bind (next2_item (((kq.extBut e1.extBut D.i2z).extBut e2.extBut D.i12.symm).extBut e3.extBut D.TOi2.symm) (((lb.extBut e1.extBut D.l2z).extBut e2.extBut D.l2i1).extBut e3.extBut D.l2TO) ey fun g4 q4 e4 => wpAny_pure ?_)
  have O4 : PySem.IsPair g4 O (.int (i : Int) st.toks) v := e4.extBut _ _ D.TOi2 O3
  refine wpAny_bind (wpAny_seqItems O4 rfl (wpAny_bind (wpAny_updateSeq_pair O4 fun g5 O5 e5 => ?_)))
  replace O5 : PySem.IsPair g5 O (.int (i : Int) st.toks) y := O5
  refine wpAny_bind (wpAny_letGo (wpAny_pure (wpAny_pure (wpAny_bind (wpAny_seqItems O5 rfl (wpAny_bind (wpAny_newTuple ?_)))))))
  have sz : g5.objs.size = st.heap.objs.size := by rw [e5.1, e4.1, e3.1, e2.1, e1.1]
  have z5 : IsZip g5 z I O .ellipsis := e5.extBut _ _ D.TOz.symm (e4.extBut _ _ D.i2z.symm (e3.extBut _ _ D.TOz.symm (e2.extBut _ _ D.i1z.symm z1)))
  have off : Off z O p q st.heap g5 := fun c o n1 n2 n3 n4 e => e5.extBut _ _ n2 (e4.extBut _ _ n4 (e3.extBut _ _ n2 (e2.extBut _ _ n3 (e1.extBut _ _ n1 e))))
  have p5 : IsRangeIter g5 p ((i : Int) + 1) ((n : Int) - (i : Int) - 1) 1 := rit_ext (rit_ext (rit_ext p2 e3.extBut D.TOi1.symm) e4.extBut D.i12) e5.extBut D.TOi1.symm
  have q5 : It2 tp g5 q b (i + 1) := q4.extBut e5.extBut D.TOi2.symm
  have lz : z < g5.objs.size := Heap.lt_size z5
  show wpAny _ _ (Builtin.SmallTypes.ownedTupleHandOut (.ref z) (.ref g5.objs.size) >>= _) _ _ _; refine wpAny_bind ?_; unfold Builtin.SmallTypes.ownedTupleHandOut
  have z6 : IsZip (g5.push { cls := .type "tuple", data := .seq #[.int (i : Int) st.toks, y] }) z I O .ellipsis := Heap.get?_push_of_some _ z5
  refine wpAny_bind (wpAny_setField_rec z6 (by simp) fun g7 z7 e7 => ?_)
  replace z7 : IsZip g7 z I O (rawInt g5.objs.size) := z7
  refine wpAny_setField_rec z7 (by simp) fun g8 z8 e8 => ?_
  replace z8 : IsZip g8 z I O (rawInt g5.objs.size) := z8
  have rise : ∀ c o, c ≠ z → g5.get? c = some o → g8.get? c = some o := fun c o n e => e8.extBut _ _ n (e7.extBut _ _ n (Heap.get?_push_of_some _ e))
  have T8 : PySem.IsPair g8 g5.objs.size (.int (i : Int) st.toks) y := e8.extBut _ _ (Nat.ne_of_gt lz) (e7.extBut _ _ (Nat.ne_of_gt lz) (Heap.get?_push_size _ rfl))
  have s8 : g8.objs.size = g5.objs.size + 1 := by rw [e8.1, e7.1, Heap.size_push]
  rw [sz] at z8 T8 s8
  refine wpAny_pure ⟨_, rfl, ?_⟩; show G (.ref g5.objs.size) _; rw [sz]
  have e1' : ((i + 1 : Nat) : Int) = (i : Int) + 1 := by omega
  have e2' : (n : Int) - ((i + 1 : Nat) : Int) = (n : Int) - (i : Int) - 1 := by omega
  exact k g8 z8 (rise _ _ D.TOz O5) (by rw [e2', e1']; exact rise _ _ D.i1z p5) (q5.at fun o e => rise _ o D.i2z e) T8 s8 fun c o n1 n2 n3 n4 e => rise c o n1 (off c o n1 n2 n3 n4 e)
theorem stop {tp : Bool} {n : Nat} {z I O p q b : Addr} {i : Nat} {ys : Array Value} {G : PySem.Fin → Shared → Prop} (nh : Ar.handled = none) (D : ZipApart z I O p q b b) (W : At tp n st.heap z I O p q b i) (lb : Sq2 tp st.heap b ys) (en : n ≤ i ∨ ys[i]? = none)
    (k : ∀ h' e t, Off z O p q st.heap h' → (∃ o, h'.get? e = some o ∧ o.cls = .type "StopIteration") → Ex (.ref e) { st with heap := h', toks := t }) : wpAny (model pr wo) Ar (Builtin.«zip.__next__» ⟨[.ref z], []⟩) G Ex st := by
  obtain ⟨kz, kI, ⟨u, v, kO⟩, kp, kq⟩ := W
  show wpAny _ _ (field (.ref z) 2 >>= _) _ _ _; refine wpAny_bind (wpAny_field kz rfl (x := .bool false) rfl ?_)
  show wpAny _ _ (field (.ref z) 3 >>= _) _ _ _; refine wpAny_bind (wpAny_field kz rfl (x := .ref I) rfl (wpAny_bind (wpAny_seqItems kI rfl ?_)))
  show wpAny _ _ (Builtin.SmallTypes.ownedTupleIsFree (.ref z) >>= _) _ _ _; refine wpAny_bind ?_; unfold Builtin.SmallTypes.ownedTupleIsFree
  refine wpAny_bind (wpAny_field kz rfl (x := .none) rfl (wpAny_pure ?_)); simp only [if_true]
  refine wpAny_bind (wpAny_rule (wpAny_bind (wpAny_field kz rfl (x := .ref O) rfl (wpAny_bind (wpAny_setField_rec kz (by simp) fun g1 z1 e1 => ?_)))))
  replace z1 : IsZip g1 z I O .ellipsis := z1
  refine wpAny_bind ?_; simp only [List.zipIdx_cons, List.zipIdx_nil, List.forIn_cons, List.forIn_nil]
  refine wpAny_bind (wpAny_bind (wpAny_onRaise ?_)); show wpAny _ _ (Builtin.SmallTypes.nextOf (.ref p) >>= _) _ _ _
  by_cases ex : n ≤ i
  · refine wpAny_bind (nextR_end nh (rit_ext kp e1.extBut D.i1z) (by omega) fun g2 e e2 ⟨oe, he, ce⟩ => ?_)
    have z2 : IsZip g2 z I O .ellipsis := e2 _ _ D.i1z.symm z1
    have ne : e ≠ z := fun t => by subst t; rw [z2] at he; cases he; simp at ce
    exact wpAny_setField_rec z2 (by simp) fun g3 _ e3 => k g3 e _ (fun c o n1 _ n3 _ t => e3.extBut _ _ n1 (e2 _ _ n3 (e1.extBut _ _ n1 t))) ⟨oe, e3.extBut _ _ ne he, ce⟩
  · have ey : ys[i]? = none := en.elim (fun t => absurd t ex) fun t => t
    refine wpAny_bind (nextR_item (rit_ext kp e1.extBut D.i1z) (by omega) fun g2 p2 e2 => wpAny_pure ?_)
    have O2 : PySem.IsPair g2 O u v := e2.extBut _ _ D.TOi1 (e1.extBut _ _ D.TOz kO)
    refine wpAny_bind (wpAny_seqItems O2 rfl (wpAny_bind (wpAny_updateSeq_pair O2 fun g3 O3 e3 => ?_)))
    refine wpAny_bind (wpAny_letGo (wpAny_pure (wpAny_bind (wpAny_bind (wpAny_onRaise ?_))))); show wpAny _ _ (Builtin.SmallTypes.nextOf (.ref q) >>= _) _ _ _
    refine wpAny_bind (next2_end nh (((kq.extBut e1.extBut D.i2z).extBut e2.extBut D.i12.symm).extBut e3.extBut D.TOi2.symm) (((lb.extBut e1.extBut D.l2z).extBut e2.extBut D.l2i1).extBut e3.extBut D.l2TO) ey fun g4 e e4 ⟨oe, he, ce⟩ => ?_)
    have z4 : IsZip g4 z I O .ellipsis := e4 _ _ D.i2z.symm (e3.extBut _ _ D.TOz.symm (e2.extBut _ _ D.i1z.symm z1))
    have ne : e ≠ z := fun t => by subst t; rw [z4] at he; cases he; simp at ce
    exact wpAny_setField_rec z4 (by simp) fun g5 _ e5 => k g5 e _ (fun c o n1 n2 n3 n4 t => e5.extBut _ _ n1 (e4 _ _ n4 (e3.extBut _ _ n2 (e2.extBut _ _ n3 (e1.extBut _ _ n1 t))))) ⟨oe, e5.extBut _ _ ne he, ce⟩
theorem nextGo {tp : Bool} {n : Nat} {z I O p q b : Addr} {i : Nat} {ys : Array Value} {y : Value} {G : Option Value → Shared → Prop} (D : ZipApart z I O p q b b) (W : At tp n st.heap z I O p q b i) (lb : Sq2 tp st.heap b ys) (ex : i < n) (ey : ys[i]? = some y)
    (k : ∀ h', IsZip h' z I O (rawInt st.heap.objs.size) → PySem.IsPair h' O (.int (i : Int) st.toks) y → IsRangeIter h' p ((i + 1 : Nat) : Int) ((n : Int) - ((i + 1 : Nat) : Int)) 1 → It2 tp h' q b (i + 1) → PySem.IsPair h' st.heap.objs.size (.int (i : Int) st.toks) y → h'.objs.size = st.heap.objs.size + 1 → Off z O p q st.heap h' → G (some (.ref st.heap.objs.size)) { st with heap := h', toks := st.toks + 1 }) : wpAny (model pr wo) Ar (pyNext (.ref z)) G Ex st := by
  have ty : st.TypeIs (.ref z) "zip" := ⟨_, W.z, rfl⟩
  unfold pyNext
  exact wpAny_bind (wpAny_attempt (wpAny_callSpecial?_slot (name := Str.ofString "__next__") ty F.slot_zip_next (wpAny_call_entry F.slot_zip_next ty F.entry_zip_next (go D W lb ex ey fun h' k1 k2 k3 k4 k5 k6 k7 => wpAny_pure (k h' k1 k2 k3 k4 k5 k6 k7)) (F.args_zip_next_1 _))))
theorem nextStop {tp : Bool} {n : Nat} {z I O p q b : Addr} {i : Nat} {ys : Array Value} {G : Option Value → Shared → Prop} (nh : Ar.handled = none) (D : ZipApart z I O p q b b) (W : At tp n st.heap z I O p q b i) (lb : Sq2 tp st.heap b ys) (en : n ≤ i ∨ ys[i]? = none)
    (k : ∀ h' t, Off z O p q st.heap h' → G none { st with heap := h', toks := t }) : wpAny (model pr wo) Ar (pyNext (.ref z)) G Ex st := by
  have ty : st.TypeIs (.ref z) "zip" := ⟨_, W.z, rfl⟩
  unfold pyNext
  refine wpAny_bind (wpAny_attempt (wpAny_callSpecial?_slot (name := Str.ofString "__next__") ty F.slot_zip_next (wpAny_call_entry F.slot_zip_next ty F.entry_zip_next (stop nh D W lb en fun h' e t o ⟨oe, he, ce⟩ => ?_) (F.args_zip_next_1 _))))
  exact wpAny_bind (wpAny_isInstance (T := "StopIteration") (b := true) ⟨oe, he, ce⟩ isSubtype_stop (wpAny_pure (k _ _ o)))
end
end ZR
set_option Elab.async false
set_option linter.all false
set_option maxRecDepth 100000
set_option maxHeartbeats 4000000
namespace ZR
open PySem PySem.Spec PyProof.Rows L2
theorem small_n {n : Nat} (h : n ≤ 1000) : Builtin.Range.small 0 (n : Int) 1 = true := by
  have hn := rangeSize_one 0 (n : Int)
  unfold Builtin.Range.small Builtin.Range.rangeFitsLong
  rw [hn]
  by_cases hab : (0 : Int) < n
  · rw [if_pos hab]
    simp only [Bool.and_eq_true, Bool.or_eq_true, decide_eq_true_eq]
    refine ⟨⟨⟨⟨?_, ?_⟩, ?_⟩, ?_⟩, ?_⟩ <;> first | omega | (right; simp only [show ((1 : Int) > 0) = True by simp, if_true, decide_eq_true_eq, Bool.and_eq_true]; omega) | (simp; omega)
  · rw [if_neg hab]
    simp only [Bool.and_eq_true, Bool.or_eq_true, decide_eq_true_eq]
    refine ⟨⟨⟨⟨?_, ?_⟩, ?_⟩, ?_⟩, ?_⟩ <;> first | omega | (left; rfl) | simp
def itO (tp : Bool) (b : Addr) : Obj := match tp with
  | true => { cls := .type "tuple_iterator", data := .fields #[.ref b, .int 0 0] }
  | false => { cls := .type "list_iterator", data := .fields #[.ref b, .int 0 0] }
def m1 (h : Heap) (n : Nat) : Heap := h.push { cls := .type "range_iterator", data := .fields #[rawInt 0, rawInt (Builtin.Range.rangeSize 0 n 1), rawInt 1] }
def m2 (tp : Bool) (h : Heap) (n : Nat) (b : Addr) : Heap := (m1 h n).push (itO tp b)
def m3 (tp : Bool) (h : Heap) (n : Nat) (b : Addr) : Heap := (m2 tp h n b).push { cls := .type "tuple", data := .seq #[.ref h.objs.size, .ref (m1 h n).objs.size] }
def m4 (tp : Bool) (h : Heap) (n : Nat) (b : Addr) : Heap := (m3 tp h n b).push { cls := .type "tuple", data := .seq #[.none, .none] }
def m5 (tp : Bool) (h : Heap) (n : Nat) (b : Addr) : Heap := (m4 tp h n b).push { cls := .type "zip", data := .fields #[.none, .bool false, .bool false, .ref (m2 tp h n b).objs.size, .ref (m3 tp h n b).objs.size] }
theorem Sq2.push {tp : Bool} {h : Heap} {b : Addr} {ys : Array Value} (x : Sq2 tp h b ys) (o : Obj) : Sq2 tp (h.push o) b ys := by
  cases tp
  · exact Heap.IsList.push x o
  · obtain ⟨ob, h1, h2, m, h3⟩ := x
    exact ⟨ob, Heap.get?_push_of_some _ h1, h2, m, h3⟩
theorem madeL (r b : Addr) (n : Nat) (hn : n ≤ 1000) (t u v : Tok) (ys : Array Value) : Meets (Builtin.«zip.__new__» ⟨[.type "zip", .ref r, .ref b], []⟩) (fun _ R s => IsRange s.heap r 0 n 1 t u v ∧ s.heap.IsList b ys ∧ R (.ok (.ret (.ref (m4 false s.heap n b).objs.size))) { s with heap := m5 false s.heap n b }) :=
  .of_wp fun pr wo Ar R s k => by
    obtain ⟨hp, g, d, tk, os⟩ := s
    obtain ⟨ta, lb, k⟩ := k
    have hsub := sub_zip
    have sm := small_n hn
    have t1 : IsRange (Shared.heap ⟨hp, g, d, tk, os⟩) r 0 n 1 t u v := ta
    have t2 : Heap.IsList (Shared.heap ⟨hp.push { cls := .type "range_iterator", data := .fields #[rawInt 0, rawInt (Builtin.Range.rangeSize 0 n 1), rawInt 1] }, g, d, tk, os⟩) b ys := Heap.IsList.push lb _
    wp_walk using wpAny_pyIter_range t1 sm, wpAny_pyIter_list t2
    exact ⟨_, rfl, k⟩
theorem madeT (r b : Addr) (n : Nat) (hn : n ≤ 1000) (t u v : Tok) (ys : Array Value) : Meets (Builtin.«zip.__new__» ⟨[.type "zip", .ref r, .ref b], []⟩) (fun _ R s => IsRange s.heap r 0 n 1 t u v ∧ s.heap.IsTuple b ys ∧ R (.ok (.ret (.ref (m4 true s.heap n b).objs.size))) { s with heap := m5 true s.heap n b }) :=
  .of_wp fun pr wo Ar R s k => by
    obtain ⟨hp, g, d, tk, os⟩ := s
    obtain ⟨ta, lb, k⟩ := k
    have hsub := sub_zip
    have sm := small_n hn
    have t1 : IsRange (Shared.heap ⟨hp, g, d, tk, os⟩) r 0 n 1 t u v := ta
    have t2 : Heap.IsTuple (Shared.heap ⟨hp.push { cls := .type "range_iterator", data := .fields #[rawInt 0, rawInt (Builtin.Range.rangeSize 0 n 1), rawInt 1] }, g, d, tk, os⟩) b ys := Sq2.push (tp := true) lb _
    wp_walk using wpAny_pyIter_range t1 sm, wpAny_pyIter_tuple t2
    exact ⟨_, rfl, k⟩
theorem calls {pr : Program} {wo : World} {Ar : Around} {Ex : Value → Shared → Prop} {st : Shared} {tp : Bool} {r b : Addr} {n : Nat} (hn : n ≤ 1000) {t u v : Tok} {ys : Array Value} {G : Value → Shared → Prop} (ta : IsRange st.heap r 0 n 1 t u v) (lb : Sq2 tp st.heap b ys)
    (k : ∀ h', At tp n h' (st.heap.objs.size + 4) (st.heap.objs.size + 2) (st.heap.objs.size + 3) st.heap.objs.size (st.heap.objs.size + 1) b 0 → (∀ c o, st.heap.get? c = some o → h'.get? c = some o) → G (.ref (st.heap.objs.size + 4)) { st with heap := h' }) : wpAny (model pr wo) Ar (call (.type "zip") [.ref r, .ref b]) G Ex st := by
  have n1 : (m1 st.heap n).objs.size = st.heap.objs.size + 1 := Heap.size_push ..
  have n2 : (m2 tp st.heap n b).objs.size = st.heap.objs.size + 2 := by unfold m2; rw [Heap.size_push, n1]
  have n3 : (m3 tp st.heap n b).objs.size = st.heap.objs.size + 3 := by unfold m3; rw [Heap.size_push, n2]
  have n4 : (m4 tp st.heap n b).objs.size = st.heap.objs.size + 4 := by unfold m4; rw [Heap.size_push, n3]
  have u5 : (m5 tp st.heap n b).get? (m4 tp st.heap n b).objs.size = some _ := Heap.get?_push_size _ rfl
  have u4 : (m5 tp st.heap n b).get? (m3 tp st.heap n b).objs.size = some _ := Heap.get?_push_of_some _ (Heap.get?_push_size _ rfl)
  have u3 : (m5 tp st.heap n b).get? (m2 tp st.heap n b).objs.size = some _ := Heap.get?_push_of_some _ (Heap.get?_push_of_some _ (Heap.get?_push_size _ rfl))
  have u2 : (m5 tp st.heap n b).get? (m1 st.heap n).objs.size = some (itO tp b) := Heap.get?_push_of_some _ (Heap.get?_push_of_some _ (Heap.get?_push_of_some _ (Heap.get?_push_size _ (by cases tp <;> rfl))))
  have u1 : (m5 tp st.heap n b).get? st.heap.objs.size = some _ := Heap.get?_push_of_some _ (Heap.get?_push_of_some _ (Heap.get?_push_of_some _ (Heap.get?_push_of_some _ (Heap.get?_push_size _ rfl))))
  have fin : G (.ref (m4 tp st.heap n b).objs.size) { st with heap := m5 tp st.heap n b } := by
    rw [n2, n3, n4] at u5
    rw [n1, n2] at u3
    rw [n3] at u4
    rw [n1] at u2
    rw [n4]
    refine k _ ⟨u5, u3, ⟨_, _, u4⟩, ?_, ?_⟩ fun c o t => Heap.get?_push_of_some _ (Heap.get?_push_of_some _ (Heap.get?_push_of_some _ (Heap.get?_push_of_some _ (Heap.get?_push_of_some _ t))))
    · have e : Builtin.Range.rangeSize 0 (n : Int) 1 = (n : Int) - ((0 : Nat) : Int) := by
        rw [rangeSize_nat]
        omega
      rw [e] at u1
      exact u1
    · cases tp
      · exact ⟨_, u2, rfl, rfl⟩
      · exact ⟨_, u2, rfl, rfl⟩
  cases tp
  · exact callType_new F.called_zip (by decide) (F.typeCall_zip_2 _ _) (F.newCall_zip_2 _ _) (fun obj => F.args_object_init_3 obj _ _) F.entry_zip_new (madeL r b n hn t u v ys) ⟨ta, lb, ⟨⟨_, u5, rfl⟩, fin⟩⟩
  · exact callType_new F.called_zip (by decide) (F.typeCall_zip_2 _ _) (F.newCall_zip_2 _ _) (fun obj => F.args_object_init_3 obj _ _) F.entry_zip_new (madeT r b n hn t u v ys) ⟨ta, lb, ⟨⟨_, u5, rfl⟩, fin⟩⟩
end ZR
set_option Elab.async false
set_option linter.all false
set_option maxRecDepth 100000
set_option maxHeartbeats 4000000
namespace ZR
open PySem PySem.Spec PyProof.Rows L2
def SqK (tp : Bool) (K : PySem.W.Frag) (H : Hp) (b : Addr) (ys : List V) : Prop := match tp with
  | true => SqT K H b ys
  | false => SqL K H b ys
/-- range(n) and the list or tuple at b as it stands at each turn, the items in new pairs -/
def ItR (tp : Bool) (K : PySem.W.Frag) (n : Nat) (b : Addr) : It :=
  ⟨fun i H => i < n ∧ ∃ (ys : List V) (y : V), SqK tp K H b ys ∧ ys[i]? = some y, fun i H v H' => i < n ∧ ∃ t y, v = .ref t ∧ H t = none ∧ H' = upd H t (.tup [.int (i : Int), y]) ∧ ∀ ys, SqK tp K H b ys → ys[i]? = some y,
    fun i H => ∃ ys : List V, SqK tp K H b ys ∧ (n ≤ i ∨ ys.length ≤ i)⟩
theorem five {z I O p q c : Addr} (h : c ∈ [z, I, O, p, q]) : c = z ∨ c = I ∨ c = O ∨ c = p ∨ c = q := by simpa using h
theorem sqk_inj {tp : Bool} {X : Cx} {pins : List (Addr × Obj)} {σ : L2.St} {H : Hp} {s : Shared} (In : Inv X pins σ H s) {b : Addr} {xs ys : List V} (h1 : SqK tp X.K H b xs) (h2 : SqK tp X.K H b ys) : xs = ys := by
  cases tp
  · exact In.list_inj h1 h2
  · exact In.tuple_inj h1 h2
theorem sqk_at {tp : Bool} {X : Cx} {pins : List (Addr × Obj)} {σ : L2.St} {H : Hp} {s : Shared} (In : Inv X pins σ H s) {b : Addr} {ys : List V} (h : SqK tp X.K H b ys) : ∃ its : List Value, Vals ys its ∧ Sq2 tp s.heap b its.toArray ∧ b < s.heap.objs.size := by
  cases tp
  · obtain ⟨jts, rw', lb, _⟩ := In.list h
    exact ⟨jts, rw', lb.isList, lb.lt⟩
  · obtain ⟨jts, rw', lb, _⟩ := In.tuple h
    obtain ⟨o1, ho1, _⟩ := id lb
    exact ⟨jts, rw', lb, Heap.lt_size ho1⟩
theorem turn {P : Program} {w : World} {K : PySem.W.Frag} {elts : List Expr} {kk : Nat} {tpos : Pos} {tp : Bool} {n : Nat} {b z I O p q : Addr} (D : ZipApart z I O p q b b) : Turn P w K (.Tuple elts kk tpos) (ItR tp K n b) [z, I, O, p, q] z (fun i h => At tp n h z I O p q b i) where
  mem := by simp
  obj := fun i h W c hc => by
    obtain ⟨kz, kI, ⟨u, v, kO⟩, kp, kq⟩ := W
    rcases five hc with rfl | rfl | rfl | rfl | rfl
    · exact ⟨_, kz, fun v t => nomatch t⟩
    · exact ⟨_, kI, fun v t => nomatch t⟩
    · exact ⟨_, kO, fun v t => nomatch t⟩
    · exact ⟨_, kp, fun v t => nomatch t⟩
    · exact kq.obj
  keep := fun i h h' W k => by
    obtain ⟨kz, kI, ⟨u, v, kO⟩, kp, kq⟩ := W
    exact ⟨k z (by simp) _ kz, k I (by simp) _ kI, ⟨u, v, k O (by simp) _ kO⟩, k p (by simp) _ kp, kq.at fun o t => k q (by simp) o t⟩
  item := by
    intro X hP hw hK hc i pins s σ H E In hf W hg
    subst hP hw hK
    obtain ⟨iN, ys, y, qy, ey⟩ := hg
    obtain ⟨jts, rw', lb, _⟩ := sqk_at In qy
    obtain ⟨v, hv, rv'⟩ := rw'.get ey
    have lz : z < s.heap.objs.size := Heap.lt_size W.z
    have kI := W.I
    have lim : ∀ {c : Addr}, c ∈ [z, I, O, p, q] → c < s.heap.objs.size := fun {c} hm => by
      obtain ⟨_, _, ⟨_, _, kO⟩, e1, kq⟩ := id W
      obtain ⟨_, e2, _⟩ := kq.obj
      rcases five hm with rfl | rfl | rfl | rfl | rfl
      · exact lz
      · exact Heap.lt_size kI
      · exact Heap.lt_size kO
      · exact Heap.lt_size e1
      · exact Heap.lt_size e2
    refine nextGo D W lb iN (y := v) (by simpa using hv) fun h' zz OO pp qq TT sz off => ?_
    refine ⟨_, rfl, wpAny_letOwnedTupleGo_zip (s := { s with heap := h', toks := s.toks + 1 }) zz fun h2 z2 sb => ?_⟩
    have T2 : h2.get? s.heap.objs.size = some { cls := .type "tuple", data := .seq #[.int (i : Int) s.toks, v] } := (sb.2 _ (Nat.ne_of_gt lz)).trans TT
    have new : ObjOk X.prog X.w (upd H s.heap.objs.size (.tup [.int (i : Int), y])) h2 s.heap.objs.size (.tup [.int (i : Int), y]) := ⟨by show 2 ≤ sizeLine; decide, [.int (i : Int) s.toks, v], .cons ⟨_, rfl⟩ (.cons rv' .nil), ⟨_, T2, rfl, _, rfl⟩⟩
    have stays : ∀ c o, c ∉ [z, I, O, p, q] → s.heap.get? c = some o → h2.get? c = some o := fun c o hb t => (sb.2 c fun e => hb (by simp [e])).trans (off c o (fun e => hb (by simp [e])) (fun e => hb (by simp [e])) (fun e => hb (by simp [e])) (fun e => hb (by simp [e])) t)
    have I1 : Inv X pins σ (upd H s.heap.objs.size (.tup [.int (i : Int), y])) { s with heap := h2, toks := s.toks + 1 } := In.turnedNew (t' := s.toks + 1) (ch := [z, I, O, p, q]) stays hf (Nat.le_refl _) new
    refine ⟨.ref s.heap.objs.size, _, I1, rfl, ⟨iN, _, y, rfl, In.hok.fresh (Nat.le_refl _), rfl, fun l hl => by rw [sqk_inj In hl qy]; exact ey⟩, ⟨z2, (sb.2 _ D.TIz).trans (off _ _ D.TIz D.TITO D.TIi1 D.TIi2 kI), ⟨_, v, (sb.2 _ D.TOz).trans OO⟩, (sb.2 _ D.i1z).trans pp, qq.at fun o t => (sb.2 _ D.i2z).trans t⟩, fun c hm => ?_⟩
    rw [upd_ne (Nat.ne_of_lt (lim hm))]
    exact (hf c hm).1
  done := by
    intro X hP hw hK hc i pins s σ H E In hf W hg
    subst hP hw hK
    obtain ⟨ys, qy, en⟩ := hg
    obtain ⟨jts, rw', lb, _⟩ := sqk_at In qy
    have l2 := rw'.length
    refine nextStop (In.ok.hd hc) D W lb (en.elim .inl fun t => .inr (by simp; omega)) fun h' t' off => ⟨rfl, In.turnedL (t' := t') (ch := [z, I, O, p, q]) (fun c o hb t => off c o (fun e => hb (by simp [e])) (fun e => hb (by simp [e])) (fun e => hb (by simp [e])) (fun e => hb (by simp [e])) t) hf⟩
  self := fun A i s Q E W h => wpAny_pyIter_zip W.z h
/-- zip(range(n), xs) -/
def iZipR (K : PySem.W.Frag) (ta te : TE) : TI := fun σ H R => ta σ H fun a H1 => ∃ m : Nat, a = .int (m : Int) ∧ m ≤ 1000 ∧ te σ H1 fun x H2 => ∃ (tp : Bool) (b : Addr) (ys : List V), x = .ref b ∧ SqK tp K H2 b ys ∧ R (ItR tp K m b) H2
theorem pi_zipR {X : Cx} {e e2 : Expr} {ta te : TE} {p p2 pos pos2 tpos : Pos} {elts : List Expr} {kk : Nat} (hg : Gl X "zip") (hm : X.mg "zip" = none) (hgr : Gl X "range") (hmr : X.mg "range" = none) (ha : PE X e ta) (he : PE X e2 te)
    (na : starEach [e] X.env = (false, eval e X.env) :: starEach [] X.env := by rfl) (nb : starEach [e2] X.env = (false, eval e2 X.env) :: starEach [] X.env := by rfl)
    (hs : starEach [.Call (.Name "range" p2) [e] [] pos2, e2] X.env = (false, eval (.Call (.Name "range" p2) [e] [] pos2) X.env) :: starEach [e2] X.env := by rfl)
    (hpl : (backTo pos (starEach [e2] X.env)).any (·.1) = false := by rfl) : PI X (.Tuple elts kk tpos) (.Call (.Name "zip" p) [.Call (.Name "range" p2) [e] [] pos2, e2] [] pos) (iZipR X.K ta te) := by
  refine ⟨fun pins s σ H R I h => ?_⟩
  refine Call_ (ld_blt I hg hm PyProof.Rows.boot_zip (PyProof.Rows.callWith_type1 (args_cons ?_ hs) hs hpl))
  refine Call_ (ld_blt I hgr hmr boot_range (PyProof.Rows.callWith_type1 (one_arg ha I h (fun v s2 x H2 I2 r q => ?_) na) na))
  obtain ⟨m, rfl, hm1, q⟩ := q
  obtain ⟨t0, rfl⟩ := r
  refine call_range_1 ?_
  have I3 : Inv X pins σ H2 { s2 with heap := s2.heap.push { cls := .type "range", data := .fields #[.int 0 s2.toks, .int (m : Int) t0, .int 1 (s2.toks + 1)] }, toks := s2.toks + 1 + 1 } := I2.kept (t' := s2.toks + 1 + 1) fun b u e => Heap.get?_push_of_some _ e
  have hr0 := IsRange.new s2.heap 0 (m : Int) 1 s2.toks t0 (s2.toks + 1)
  have I4 : Inv X ((s2.heap.objs.size, { cls := .type "range", data := .fields #[.int 0 s2.toks, .int (m : Int) t0, .int 1 (s2.toks + 1)] }) :: pins) σ H2 { s2 with heap := s2.heap.push { cls := .type "range", data := .fields #[.int 0 s2.toks, .int (m : Int) t0, .int 1 (s2.toks + 1)] }, toks := s2.toks + 1 + 1 } := I3.pins_of fun z hz => by
    rcases List.mem_cons.mp hz with e | e
    · subst e
      exact ⟨hr0, I2.hok.fresh (Nat.le_refl _), Nat.ne_of_gt I2.lt, I2.nofs (Nat.le_refl _), fun v z => nomatch z⟩
    · exact I3.pin z (List.mem_append_right _ e)
  refine one_arg he I4 q (fun u s5 y H5 I5 r5 q5 => ?_) nb
  obtain ⟨tp, b, ys, rfl, qy, q6⟩ := q5
  cases r5
  have hr5 : IsRange s5.heap s2.heap.objs.size 0 (m : Int) 1 s2.toks t0 (s2.toks + 1) := (I5.pin (s2.heap.objs.size, _) (List.mem_append_right _ List.mem_cons_self)).1
  have I6 : Inv X pins σ H5 s5 := I5.pins_of fun z hz => I5.pin z (List.mem_append_right _ (List.mem_cons_of_mem _ hz))
  obtain ⟨jts, rw', lb, blt⟩ := sqk_at I6 qy
  have new5 : ∀ c, c ∈ [s5.heap.objs.size + 4, s5.heap.objs.size + 2, s5.heap.objs.size + 3, s5.heap.objs.size, s5.heap.objs.size + 1] → FpOk X pins H5 c := fun c hm => by
    have hle : s5.heap.objs.size ≤ c := by
      rcases five hm with t | t | t | t | t <;> (rw [t]; first | exact Nat.le_add_right _ _ | exact Nat.le_refl _)
    exact I6.fpOk hle (I6.hok.fresh hle)
  refine calls hm1 hr5 lb fun h' W hk => wpAny_pyIter_zip W.z ?_
  exact ⟨s5.heap.objs.size + 4, [s5.heap.objs.size + 4, s5.heap.objs.size + 2, s5.heap.objs.size + 3, s5.heap.objs.size, s5.heap.objs.size + 1], _, _, H5, rfl, I6.kept (t' := s5.toks) hk, turn (PySem.W.ktu_apart s5.heap.objs.size b b blt blt), W, new5, q6⟩
theorem walk_zR {K : PySem.W.Frag} {tp : Bool} {m : Nat} {b : Addr} {ys : List V} : Walk (ItR tp K m b) (min m ys.length) (fun H => SqK tp K H b ys) (fun i H v H' => ∃ t y, ys[i]? = some y ∧ v = .ref t ∧ H t = none ∧ H' = upd H t (.tup [.int (i : Int), y])) :=
  ⟨fun i _ hi q => ⟨by omega, ys, ys[i]'(by omega), q, by rw [List.getElem?_eq_getElem (by omega)]⟩, fun _ q => ⟨ys, q, by omega⟩, fun _ _ _ _ _ q ⟨_, t, y, e, n, eh, hy⟩ => ⟨t, y, hy _ q, e, n, eh⟩⟩
end ZR
set_option Elab.async false
set_option linter.all false
set_option maxRecDepth 100000
set_option maxHeartbeats 4000000
namespace K0
open PySem PySem.Spec PyProof.Rows L2
abbrev s_ckn : Stmt := top 18
def okNd : PyData → Bool
  | .int i => decide (0 ≤ i)
  | _ => false
/-- amounts of n things -/
structure Amt (n : Nat) (ns : List Int) : Prop where
  len : ns.length = n
  pos : ∀ x ∈ ns, 0 ≤ x
/-- a list or a new tuple of data -/
def SqD (H : Hp) (a : Addr) (ds : List PyData) : Prop := ∃ xs, (H a = some (.lst xs) ∨ H a = some (.tup xs)) ∧ DtAll H xs ds
theorem SqD.mono {H H' : Hp} (s : Same H H') {a : Addr} {ds : List PyData} : SqD H a ds → SqD H' a ds := fun ⟨xs, h, d⟩ => ⟨xs, h.imp (s _ _) (s _ _), d.mono s⟩
def TupI (H : Hp) (t : Addr) (ns : List Int) : Prop := H t = some (.tup (ns.map V.int))
theorem TupI.sq {H : Hp} {t : Addr} {ns : List Int} (h : TupI H t ns) : SqD H t (ns.map PyData.int) := ⟨_, .inr h, .ints H ns⟩
theorem TupI.mono {H H' : Hp} (s : Same H H') {t : Addr} {ns : List Int} (h : TupI H t ns) : TupI H' t ns := s _ _ h
/-- the first i of the data are amounts -/
def okUp (ds : List PyData) (i : Nat) : Prop := ∀ j, j < i → ∃ d, ds[j]? = some d ∧ okNd d = true
/-- the place that check_needs tells of -/
def BadAt (n : Nat) (ds : List PyData) (i : Nat) : Prop := okUp ds i ∧ ((i < n ∧ ∃ d, ds[i]? = some d ∧ okNd d = false) ∨ (i = min n ds.length ∧ ds.length ≠ n))
theorem is_amt : ∀ {ds : List PyData} {n : Nat}, okUp ds n → ds.length = n → ∃ ns : List Int, ds = ns.map PyData.int ∧ Amt n ns
  | [], n, _, e => ⟨[], rfl, e, fun x hx => by cases hx⟩
  | d :: ds, n, h, e => by
    obtain ⟨m, rfl⟩ : ∃ m, n = m + 1 := ⟨n - 1, by rw [List.length_cons] at e; omega⟩
    obtain ⟨ns, e1, e2⟩ := is_amt (ds := ds) (n := m) (fun j hj => h (j + 1) (by omega)) (by rw [List.length_cons] at e; omega)
    obtain ⟨d', h1, h2⟩ := h 0 (by omega)
    cases h1
    cases d with
    | int i =>
      refine ⟨i :: ns, by rw [e1]; rfl, by rw [List.length_cons, e2.len], fun x hx => ?_⟩
      rcases List.mem_cons.mp hx with rfl | hx
      · exact of_decide_eq_true h2
      · exact e2.pos x hx
    | _ => cases h2
theorem amt_ok {ns : List Int} {n : Nat} (h : Amt n ns) : okUp (ns.map PyData.int) n := fun j hj => by
  have hl : j < ns.length := by rw [h.len]; exact hj
  refine ⟨.int ns[j], by rw [List.getElem?_map, List.getElem?_eq_getElem hl]; rfl, show decide (0 ≤ ns[j]) = true from decide_eq_true (h.pos _ (List.getElem_mem hl))⟩
section
variable {P : Program} {w : World} {K : PySem.W.Frag} {mg : Str → Option Value} {base : Heap} {f : Addr} {fd : FuncData}
/-- check_needs -/
def spCkn (C : Addr) : Sp := fun vs H Q E => ∃ (n : Nat) (v : V), vs = [.int (n : Int), v] ∧ 2 ≤ n ∧ n ≤ 16 ∧ ((v = .non ∧ ∀ H' t, Same H H' → H t = none → TupI H' t (List.replicate n 1) → Q (.ref t) H') ∨
  ∃ (a : Addr) (ds : List PyData), v = .ref a ∧ SqD H a ds ∧ ds.length ≤ 1000 ∧ (okUp ds n → ds.length = n → ∀ H' t ns, Same H H' → TupI H' t ns → ds = ns.map PyData.int → Amt n ns → Q (.ref t) H') ∧ (∀ i : Nat, BadAt n ds i → Rz C [("place", .int (i : Int))] H E))
theorem sc_ckn : FnScope ["many", "needs", "place", "need"] ["many", "needs"] (defScope s_ckn) := ⟨rfl, rfl, rfl, by decide +kernel, rfl, by decide +kernel, by decide +kernel⟩
theorem flat_one : ∀ n : Nat, (List.replicate n [V.int 1]).flatten = (List.replicate n (1 : Int)).map V.int
  | 0 => rfl
  | n + 1 => by rw [List.replicate_succ, List.flatten_cons, flat_one n, List.replicate_succ]; rfl
theorem ok_ckn {C : Addr} (F : Fun K "check_needs" "check_needs" s_ckn f fd) (B : Blt3 mg) (I : Df P w K mg base "is_int" 1 ["value"] spInt) (T : Er P w K mg base "BadNeeds" C ["place"] ["self", "place"] (spE1 C "place")) : FnOk P w K mg base (L2.CX P w) 3 f fd ["many", "needs"] (spCkn C) := by
  refine F.okX sc_ckn (fun vs H Q E h => ?_) (fun cdv A outer s H vs Q E hr h => ?_)
  · obtain ⟨n, v, rfl, _⟩ := h
    rfl
  · obtain ⟨n, v, rfl, n2, n16, h⟩ := h
    have nd := sc_ckn.nd
    have hr1 : Room 1 _ := hr.mono (by decide)
    have hr2 : Room 2 _ := hr.mono (by decide)
    refine ⟨_, pss_cons (ps_if (pt_cmpR op_isN (pv 1) pe_non (nomark _)) (pss_one (ps_ret (pe_op op_repT (pe_tup (pa_cons pe_int pa_nil)) (pv 0)))) pss_nil)
      (pss_cons (ps_for (passes_of rfl) rfl (ZR.pi_zipR (by rfl) B.zip (by rfl) B.range (pv 0) (pv 1)) (pg_tup rfl (pgs_cons (pg_name (i := 2) nd rfl (.inl rfl)) (pgs_cons (pg_name (i := 3) nd rfl (.inl rfl)) pgs_nil)))
        (pss_one (ps_if (PW.pt (pw_or (pt_not (pt_val (pe_df I hr1 (by rfl) passUp (pa_cons (pv 3) pa_nil)))) (pw_or1 (pt_cmpR op_lt (pv 3) pe_int (nomark _)))))
          (pss_one (ps_rz1 rfl (takes_of rfl rfl rfl rfl) T hr2 (by rfl) (pv 2) (mono_var 2))) pss_nil)))
      (pss_cons (ps_if (pt_cmpR op_ne (pe_callB c_len (by rfl) B.len PySem.boot_len (pa_cons (pv 1) pa_nil)) (pv 0) (nomark _))
        (pss_one (ps_rz1 rfl (takes_of rfl rfl rfl rfl) T hr2 (by rfl) (pe_callB (c_min rfl) (by rfl) B.min (by decide +kernel) (pa_cons (pv 0) (pa_cons (pe_callB c_len (by rfl) B.len PySem.boot_len (pa_cons (pv 1) pa_nil)) pa_nil))) ?mono)) pss_nil)
      (pss_one (ps_ret (pe_callTy call_tuple_of (by rfl) B.tuple (by decide +kernel) (pa_cons (pv 1) pa_nil)))))), ?_⟩
    case mono =>
      rintro σ H Q Q' im ⟨x, ex, y, ey, p, ys, a1, a2, i', j, e3, q⟩
      exact ⟨x, ex, y, ey, p, ys, a1, a2, i', j, e3, im _ _ q⟩
    rcases h with ⟨rfl, q⟩ | ⟨a, ds, rfl, hs, few, q1, q2⟩
    · refine ⟨_, rfl, rfl, _, rfl, iteT ⟨by show 1 ≤ sizeLine; decide, fun l nl => ?_⟩⟩
      refine ⟨_, rfl, l, _, _, rfl, rfl, SqT.of upd_same, by simp, by omega, by omega, by decide, fun t nt => ?_⟩
      have s1 : Same H (upd H l (.tup [V.int 1])) := same_upd nl
      refine q _ t (s1.trans (same_upd nt)) (s1.free nt) ?_
      unfold TupI
      rw [upd_same, Int.toNat_natCast, flat_one]
    · refine ⟨_, rfl, rfl, _, rfl, iteF ?_⟩
      obtain ⟨xs, hx, hd⟩ := id hs
      have lx := hd.len
      have sq : ∃ tp : Bool, ∀ H', Same H H' → ZR.SqK tp K H' a xs := by
        rcases hx with hx | hx
        · exact ⟨false, fun H' s' => SqL.of (s' _ _ hx)⟩
        · exact ⟨true, fun H' s' => SqT.of (s' _ _ hx)⟩
      obtain ⟨tp, sq⟩ := sq
      let Pv : Nat → L2.St → Hp → Prop := fun i σ H' => ∃ o2 o3, σ = [some (.int (n : Int)), some (.ref a), o2, o3] ∧ Same H H' ∧ okUp ds i
      refine ⟨_, rfl, _, rfl, by omega, _, rfl, tp, a, xs, rfl, sq H (.refl _), for_it (ZR.walk_zR (K := K) (tp := tp) (m := n) (b := a) (ys := xs)) Pv ⟨none, none, rfl, .refl _, fun j hj => absurd hj (Nat.not_lt_zero j)⟩ (fun i σ H' _ h => ?_) (fun i v σ H' H2 hi h y => ?_) (fun σ H' h => ?_)⟩
      · obtain ⟨_, _, _, sm, _⟩ := h
        exact sq _ sm
      · obtain ⟨o2, o3, rfl, sm, up⟩ := h
        obtain ⟨t, y, ey, rfl, nt, rfl⟩ := y
        obtain ⟨d, ed, hy⟩ := hd.at ey
        have s2 := sm.trans (same_upd (o := .tup [.int (i : Int), y]) nt)
        refine ⟨t, _, rfl, SqT.of upd_same, rfl, _, _, rfl, _, _, rfl, rfl, ?_⟩
        refine ⟨_, rfl, y, d, rfl, hy.mono s2, _, rfl, ?_⟩
        have bad : okNd d = false → Rz C [("place", .int (i : Int))] H E := fun e => q2 i ⟨up, .inl ⟨by omega, d, ed, e⟩⟩
        cases hy with
        | int k =>
          refine iteF ⟨_, rfl, _, _, rfl, rfl, _, rfl, ?_⟩
          by_cases c : k < 0
          · rw [decide_eq_true c]
            refine iteT ⟨_, rfl, fun dd nd' => (bad ?_).at s2 nd'⟩
            show decide (0 ≤ k) = false
            rw [decide_eq_false_iff_not]
            omega
          · rw [decide_eq_false c]
            refine iteF ⟨_, _, rfl, s2, fun j hj => ?_⟩
            rcases Nat.lt_or_eq_of_le (Nat.le_of_lt_succ hj) with lt | rfl
            · exact up j lt
            · exact ⟨_, ed, show decide (0 ≤ k) = true from decide_eq_true (by omega)⟩
        | non => exact iteT ⟨_, rfl, fun dd nd' => (bad rfl).at s2 nd'⟩
        | bl b => exact iteT ⟨_, rfl, fun dd nd' => (bad rfl).at s2 nd'⟩
        | str b => exact iteT ⟨_, rfl, fun dd nd' => (bad rfl).at s2 nd'⟩
        | lst e h => exact iteT ⟨_, rfl, fun dd nd' => (bad rfl).at s2 nd'⟩
        | tup e h => exact iteT ⟨_, rfl, fun dd nd' => (bad rfl).at s2 nd'⟩
      · obtain ⟨o2, o3, rfl, sm, up⟩ := h
        have sl : SqL K H' a xs ∨ SqT K H' a xs := by
          rcases hx with hx | hx
          · exact .inl (SqL.of (sm _ _ hx))
          · exact .inr (SqT.of (sm _ _ hx))
        refine ⟨_, rfl, a, xs, rfl, sl, _, rfl, rfl, _, rfl, ?_⟩
        rw [dec_int]
        by_cases c : ds.length = n
        · rw [show (!((xs.length : Int) == (n : Int))) = false by simp; omega]
          refine iteF ?_
          have up' : okUp ds n := by
            rw [lx, c, Nat.min_self] at up
            exact up
          obtain ⟨ns, e1, am⟩ := is_amt up' c
          have ex : xs = ns.map V.int := dta_ints (by rw [← e1]; exact hd)
          refine ⟨_, rfl, a, xs, rfl, ?_⟩
          rcases hx with hx | hx
          · exact .inl ⟨SqL.of (sm _ _ hx), fun t nt => q1 up' c _ t ns (sm.trans (same_upd nt)) (by unfold TupI; rw [upd_same, ex]) e1 am⟩
          · exact .inr ⟨SqT.of (sm _ _ hx), q1 up' c _ a ns sm (by unfold TupI; rw [sm _ _ hx, ex]) e1 am⟩
        · rw [show (!((xs.length : Int) == (n : Int))) = true by simp; omega]
          refine iteT ⟨_, rfl, _, rfl, a, xs, rfl, sl, _, _, rfl, ?_⟩
          have e : (if (xs.length : Int) < (n : Int) then (xs.length : Int) else (n : Int)) = ((min n ds.length : Nat) : Int) := by
            split <;> omega
          rw [e]
          exact fun dd nd' => (q2 _ ⟨by rw [← lx]; exact up, .inr ⟨rfl, c⟩⟩).at sm nd'
end
end K0
set_option Elab.async false
set_option linter.all false
set_option maxRecDepth 100000
set_option maxHeartbeats 4000000
namespace K0
open PySem PySem.Spec PyProof.Rows L2
abbrev s_wt : Stmt := top 19
abbrev s_wh : Stmt := top 21
abbrev s_le : Stmt := top 23
def wsum (ns : List Int) (g : List Nat) : Int := (g.map fun t => ns.getD t 0).sum
theorem ints_at {ns : List Int} {k : Nat} (h : k < ns.length) : atI (ns.map V.int) (k : Int) = some (V.int (ns.getD k 0)) := by
  refine atI_nat ?_
  rw [List.getElem?_map, List.getElem?_eq_getElem h, List.getD_eq_getElem?_getD, List.getElem?_eq_getElem h]
  rfl
theorem nvs_get {g : List Nat} {i : Nat} {v : V} (h : (nvs g)[i]? = some v) : ∃ x, g[i]? = some x ∧ v = .int (x : Int) := by
  unfold nvs at h
  rw [List.getElem?_map] at h
  cases e : g[i]? with
  | none => rw [e] at h; cases h
  | some x => rw [e] at h; cases h; exact ⟨x, rfl, rfl⟩
section
variable {P : Program} {w : World} {K : PySem.W.Frag} {mg : Str → Option Value} {base : Heap} {f : Addr} {fd : FuncData}
/-- weight(needs, things) -/
def spWt (K : PySem.W.Frag) : Sp := fun vs H Q _ => ∃ (a b : Addr) (n : Nat) (ns : List Int) (g : List Nat), vs = [.ref a, .ref b] ∧ TupI H a ns ∧ Amt n ns ∧ g.length ≤ 16 ∧ (∀ x ∈ g, x < n) ∧ (∀ H', Same H H' → SqT K H' b (nvs g)) ∧ Ret (.int (wsum ns g)) H Q
theorem sc_wt : FnScope ["needs", "things", "thing"] ["needs", "things"] (defScope s_wt) := ⟨rfl, rfl, rfl, by decide +kernel, rfl, by decide +kernel, by decide +kernel⟩
theorem ok_wt (F : Fun K "weight" "weight" s_wt f fd) (B : Blt3 mg) : FnOk P w K mg base (L2.CX P w) 1 f fd ["needs", "things"] (spWt K) := by
  refine F.okX sc_wt (fun vs H Q E h => ?_) (fun cdv A outer s H vs Q E hr h => ?_)
  · obtain ⟨a, b, n, ns, g, rfl, _⟩ := h
    rfl
  · obtain ⟨a, b, n, ns, g, rfl, ha, am, g16, gn, hb, k⟩ := h
    have nd := sc_wt.nd
    refine ⟨_, pss_cons (ps_if (pt_cmpR op_isN (pv 0) pe_non (nomark _)) (pss_one (ps_ret (pe_callB call_len_seq (by rfl) B.len PySem.boot_len (pa_cons (pv 1) pa_nil)))) pss_nil)
      (pss_one (ps_ret (pe_callB (cr_sum rfl) (by rfl) B.sum (by decide +kernel) (pa_cons (pe_lc (own := [("thing", 2)]) (g := gName 2) (tt := tYes) (te := tOp (rIxT K) (tVar 0) (tVar 2)) rfl nd (pi_tup (pv 1))
        (blkOk_by (N := ["needs", "things", "thing"]) (sc := defScope s_wt) (by decide +kernel)) (fun _ _ _ _ _ => pg_name (i := 2) nd rfl (.inl rfl)) (fun _ _ _ _ _ => pts_nil) (fun _ _ _ _ _ => pe_ix ix_tup (pv 0) (pv 2) (fun _ _ => rfl))) pa_nil)))), ?_⟩
    refine ⟨_, rfl, rfl, _, rfl, iteF ?_⟩
    refine ⟨_, rfl, b, rfl, ⟨_, hb H (.refl _)⟩, fun D nD => ?_⟩
    refine lc_it (walk_tup (K := K) (a := b) (xs := nvs g)) (fun i H' => Same H H' ∧ H' D = some (.lst ((g.take i).map fun t => V.int (ns.getD t 0)))) ⟨same_upd nD, upd_same⟩ (fun i H' _ z => hb _ z.1) (fun i x H' H2 hi z y => ?_) (fun H' z => ?_)
    · obtain ⟨rfl, hv⟩ := y
      obtain ⟨sm, hD⟩ := z
      obtain ⟨t, ht, rfl⟩ := nvs_get hv
      have tn : t < ns.length := by rw [am.len]; exact gn t (List.mem_of_getElem? ht)
      refine ⟨rfl, ?_⟩
      refine ⟨_, rfl, _, rfl, a, _, _, _, rfl, rfl, SqT.of (sm _ _ ha), ints_at tn, _, hD, ?_, fun b2 o e => ?_, ?_⟩
      · rw [List.length_map, List.length_take, sizeLine_eq]
        omega
      · rw [upd_ne (ne_of_none e nD)]
        exact sm b2 o e
      · rw [upd_same, take_at ht, List.map_append]
        rfl
    · obtain ⟨sm, hD⟩ := z
      rw [nvs_len, List.take_length] at hD
      refine ⟨D, g.map fun t => ns.getD t 0, rfl, SqL.of (by rw [List.map_map]; exact hD), k H' sm⟩
/-- whole_mask(many) -/
def spWh : Sp := fun vs H Q _ => ∃ (n : Nat), vs = [.int (n : Int)] ∧ n ≤ 16 ∧ Ret (.int ((2 ^ n - 1 : Nat) : Int)) H Q
theorem sc_wh : FnScope ["many"] ["many"] (defScope s_wh) := ⟨rfl, rfl, rfl, by decide +kernel, rfl, by decide +kernel, by decide +kernel⟩
theorem ok_wh (F : Fun K "whole_mask" "whole_mask" s_wh f fd) : FnOk P w K mg base (L2.CX P w) 1 f fd ["many"] spWh := by
  refine F.okX sc_wh (fun vs H Q E h => ?_) (fun cdv A outer s H vs Q E hr h => ?_)
  · obtain ⟨n, rfl, _⟩ := h
    rfl
  · obtain ⟨n, rfl, n16, k⟩ := h
    refine ⟨_, pss_one (ps_ret (pe_op op_sub (pe_op op_shl1 pe_int (pv 0)) pe_int)), ?_⟩
    refine ⟨_, rfl, n, rfl, rfl, by omega, _, _, rfl, rfl, ?_⟩
    have : ((2 ^ n - 1 : Nat) : Int) = ((2 ^ n : Nat) : Int) - 1 := by
      have := Nat.one_le_two_pow (n := n)
      omega
    have q := k H (.refl _)
    rw [this] at q
    exact q
/-- least_in(mask) -/
def spLe : Sp := fun vs H Q _ => ∃ (m : Nat), vs = [.int (m : Int)] ∧ m ≠ 0 ∧ m < 256 ∧ ∀ t : Nat, m.testBit t = true → Ret (.int (t : Int)) H Q
theorem sc_le : FnScope ["mask"] ["mask"] (defScope s_le) := ⟨rfl, rfl, rfl, by decide +kernel, rfl, by decide +kernel, by decide +kernel⟩
theorem low_bit : ∀ m : Nat, m < 256 → m = 0 ∨ m.testBit (Builtin.Int.intBits (Builtin.bitAnd (m : Int) (-(m : Int))) - 1) = true ∧ Builtin.Int.intBits (Builtin.bitAnd (m : Int) (-(m : Int))) ≠ 0 := by decide +kernel
theorem ok_le (F : Fun K "least_in" "least_in" s_le f fd) : FnOk P w K mg base (L2.CX P w) 1 f fd ["mask"] spLe := by
  refine F.okX sc_le (fun vs H Q E h => ?_) (fun cdv A outer s H vs Q E hr h => ?_)
  · obtain ⟨n, rfl, _⟩ := h
    rfl
  · obtain ⟨m, rfl, m0, m8, k⟩ := h
    refine ⟨_, pss_one (ps_ret (pe_op op_sub (pe_bits (pe_op op_and (pv 0) (pe_un un_neg (pv 0)))) pe_int)), ?_⟩
    obtain ⟨h1, h2⟩ := (low_bit m m8).resolve_left m0
    refine ⟨_, rfl, _, rfl, _, rfl, _, _, rfl, rfl, _, rfl, _, _, rfl, rfl, ?_⟩
    have := k _ h1 H (.refl _)
    rw [show ((Builtin.Int.intBits (Builtin.bitAnd (m : Int) (-(m : Int))) - 1 : Nat) : Int) = (Builtin.Int.intBits (Builtin.bitAnd (m : Int) (-(m : Int))) : Int) - 1 by omega] at this
    exact this
end
end K0
set_option Elab.async false
set_option linter.all false
set_option maxRecDepth 100000
set_option maxHeartbeats 4000000
namespace K0
open PySem PySem.Spec PyProof.Rows L2
abbrev s_fm : Stmt := top 25
def rAndB : R2 := fun x y H Q => ∃ a b : Nat, x = .int (a : Int) ∧ y = .int (b : Int) ∧ Q (.int ((a &&& b : Nat) : Int)) H
theorem op_andB {X : Cx} : OpR X (binaryOp .BitAnd) rAndB := OpR_imp op_and fun x y H Q ⟨a, b, ex, ey, q⟩ => ⟨_, _, ex, ey, by
  show Q (.int (Builtin.bitAnd (a : Int) (b : Int))) H
  have e1 : decide (0 ≤ (a : Int)) = true := decide_eq_true (Int.natCast_nonneg a)
  have e2 : decide (0 ≤ (b : Int)) = true := decide_eq_true (Int.natCast_nonneg b)
  unfold Builtin.bitAnd
  rw [e1, e2]
  dsimp only
  rw [Int.toNat_natCast, Int.toNat_natCast]
  exact q⟩
def entV (e : Ent) : List V := [.int (e.k : Int), .int (e.f : Int), .int (e.d : Int)]
/-- a list of entries yet to be looked at -/
def GrowE (H : Hp) (D : Addr) (es : List Ent) : Prop := ∃ l : List (Addr × Ent), H D = some (.lst (l.map fun z => V.ref z.1)) ∧ l.map (·.2) = es ∧ ∀ z ∈ l, H z.1 = some (.tup (entV z.2))
theorem GrowE.len {H : Hp} {D : Addr} {es : List Ent} (h : GrowE H D es) : ∃ ys, H D = some (.lst ys) ∧ ys.length = es.length := by
  obtain ⟨l, h1, h2, _⟩ := h
  exact ⟨_, h1, by rw [← h2, List.length_map, List.length_map]⟩
theorem GrowE.pop {H : Hp} {D : Addr} {es : List Ent} {e : Ent} (h : GrowE H D (es ++ [e])) : ∃ ys a, H D = some (.lst ys) ∧ ys[ys.length - 1]? = some (.ref a) ∧ H a = some (.tup (entV e)) ∧ GrowE (upd H D (.lst ys.dropLast)) D es ∧ H a ≠ H D := by
  obtain ⟨l, h1, h2, h3⟩ := h
  rcases List.eq_nil_or_concat l with rfl | ⟨l', z, rfl⟩
  · simp at h2
  · rw [List.concat_eq_append] at h1 h2 h3
    rw [List.map_append] at h1 h2
    have h2' := List.append_inj' h2 rfl
    have e2 : z.2 = e := by simpa using h2'.2
    have hz := h3 z (by simp)
    refine ⟨_, z.1, h1, by simp, by rw [← e2]; exact hz, ⟨l', ?_, h2'.1, fun y hy => ?_⟩, ?_⟩
    · rw [upd_same]
      simp
    · have hy2 := h3 y (by simp [hy])
      rw [upd_ne (fun ee => by rw [ee, h1] at hy2; cases hy2)]
      exact hy2
    · rw [h1, hz]
      intro h
      cases h
theorem GrowE.push {H : Hp} {D u : Addr} {es : List Ent} {e : Ent} (h : GrowE H D es) (nu : H u = none) : ∃ ys, (upd H u (.tup (entV e))) D = some (.lst ys) ∧ ys.length = es.length ∧ GrowE (upd (upd H u (.tup (entV e))) D (.lst (ys ++ [.ref u]))) D (es ++ [e]) := by
  obtain ⟨l, h1, h2, h3⟩ := h
  have du : D ≠ u := fun e => by rw [e, nu] at h1; cases h1
  refine ⟨_, by rw [upd_ne du]; exact h1, by rw [← h2, List.length_map, List.length_map], l ++ [(u, e)], by rw [upd_same, List.map_append]; rfl, by rw [List.map_append, h2]; rfl, fun z hz => ?_⟩
  rcases List.mem_append.mp hz with hz | hz
  · have hy := h3 z hz
    rw [upd_ne (fun ee => by rw [ee, h1] at hy; cases hy), upd_ne (ne_of_none hy nu)]
    exact hy
  · rw [List.mem_singleton.mp hz]
    show (upd _ _ _) u = _
    rw [upd_ne (Ne.symm du), upd_same]
theorem GrowE.mono {H H' : Hp} {D : Addr} {es : List Ent} (s : Same H H') : GrowE H D es → GrowE H' D es := fun ⟨l, h, e, p⟩ => ⟨l, s _ _ h, e, fun z hz => s _ _ (p z hz)⟩
/-- what another list's growing leaves of it -/
theorem GrowE.other {H : Hp} {D F : Addr} {es : List Ent} {xs ys : List V} (h : GrowE H D es) (hF : H F = some (.lst xs)) (ne : D ≠ F) : GrowE (upd H F (.lst ys)) D es := by
  obtain ⟨l, h1, h2, h3⟩ := h
  refine ⟨l, by rw [upd_ne ne]; exact h1, h2, fun z hz => ?_⟩
  have hy := h3 z hz
  rw [upd_ne (fun ee => by rw [ee, hF] at hy; cases hy)]
  exact hy
theorem small8 {m : Nat} (h : ∀ x, m.testBit x = true → x < 8) : m < 256 := Nat.lt_pow_two_of_testBit (n := 8) _ fun i hi => by
  cases e : m.testBit i with
  | false => rfl
  | true => exact absurd (h i e) (by omega)
section
variable {P : Program} {w : World} {K : PySem.W.Frag} {mg : Str → Option Value} {base : Heap} {f : Addr} {fd : FuncData}
/-- full_masks(masks, part) -/
def spFm : Sp := fun vs H Q _ => ∃ (a : Addr) (n : Nat) (q : List Pr) (part : Nat), vs = [.ref a, .int (part : Int)] ∧ n ≤ 8 ∧ Cl n q ∧ H a = some (.tup (nvs (mOf n q))) ∧ (∀ x, part.testBit x = true → x < n) ∧ ∀ H' b found, Same H H' → H b = none → H' b = some (.lst (nvs found)) → Fulls q part found → found.length ≤ 256 → Q (.ref b) H'
abbrev fmN : List Str := ["masks", "part", "found", "waiting", "knot", "fitting", "done", "pivot", "growing", "thing", "bit"]
theorem sc_fm : FnScope fmN ["masks", "part"] (defScope s_fm) := ⟨rfl, rfl, rfl, by decide +kernel, rfl, by decide +kernel, by decide +kernel⟩
theorem ok_fm (F : Fun K "full_masks" "full_masks" s_fm f fd) (B : Blt2 mg) (LE : Df P w K mg base "least_in" 1 ["mask"] spLe) (TI : Df P w K mg base "things_in" 1 ["mask"] spTi) : FnOk P w K mg base (L2.CX P w) 3 f fd ["masks", "part"] spFm := by
  refine F.okX sc_fm (fun vs H Q E h => ?_) (fun cdv A outer s H vs Q E hr h => ?_)
  · obtain ⟨a, n, q, part, rfl, _⟩ := h
    rfl
  · obtain ⟨a, n, q, part, rfl, n8, cl, ha, pn, k⟩ := h
    have nd := sc_fm.nd
    have hr1 : Room 1 _ := hr.mono (by decide)
    refine ⟨_, pss_cons (ps_set (i := 2) nd rfl (.inl rfl) (pe_lst pa_nil))
      (pss_cons (ps_set (i := 3) nd rfl (.inl rfl) (pe_lst (pa_cons (pe_tup (pa_cons pe_int (pa_cons (pv 1) (pa_cons pe_int pa_nil)))) pa_nil)))
      (pss_cons (ps_while (passes_of rfl) (pt_truth (pv 3) (by intro _; rfl))
        (pss_cons (ps_asg (pe_lpop (pv 3)) (pg_tup rfl (pgs_cons (pg_name (i := 4) nd rfl (.inl rfl)) (pgs_cons (pg_name (i := 5) nd rfl (.inl rfl)) (pgs_cons (pg_name (i := 6) nd rfl (.inl rfl)) pgs_nil)))))
        (pss_cons (ps_if (pt_cmpR op_eq (pe_op op_orN (pv 5) (pv 6)) pe_int (nomark _)) (pss_cons (ps_expr (pe_lapp (pv 2) (pa_cons (pv 4) pa_nil))) (pss_one ps_continue)) pss_nil)
        (pss_cons (ps_set (i := 7) nd rfl (.inl rfl) (pe_df LE hr1 (by rfl) passUp (pa_cons (pe_op op_orN (pv 5) (pv 6)) pa_nil)))
        (pss_cons (ps_set (i := 8) nd rfl (.inl rfl) (pe_df TI hr1 (by rfl) passUp (pa_cons (pe_op op_andN (pv 5) (pe_un un_inv (pe_ix ix_tup (pv 0) (pv 7) (fun _ _ => rfl)))) pa_nil)))
        (pss_one (ps_for (passes_of rfl) rfl (pi_tup (pv 8)) (pg_name (i := 9) nd rfl (.inl rfl))
          (pss_cons (ps_set (i := 10) nd rfl (.inl rfl) (pe_op op_shl1 pe_int (pv 9)))
          (pss_cons (ps_expr (pe_lapp (pv 3) (pa_cons (pe_tup (pa_cons (pe_op op_orN (pv 4) (pv 10)) (pa_cons (pe_op op_andB (pv 5) (pe_ix ix_tup (pv 0) (pv 9) (fun _ _ => rfl))) (pa_cons (pe_op op_andB (pv 6) (pe_ix ix_tup (pv 0) (pv 9) (fun _ _ => rfl))) pa_nil)))) pa_nil)))
          (pss_cons (ps_set (i := 5) nd rfl (.inl rfl) (pe_op op_andN (pv 5) (pe_un un_inv (pv 10))))
          (pss_one (ps_set (i := 6) nd rfl (.inl rfl) (pe_op op_orN (pv 6) (pv 10))))))))))))))
      (pss_one (ps_ret (pv 2))))), ?_⟩
    refine ⟨by show 0 ≤ sizeLine; decide, fun F0 nF => ?_⟩
    refine ⟨_, rfl, by show 3 ≤ sizeLine; decide, fun u nu => ⟨by show 1 ≤ sizeLine; decide, fun W0 nW => ?_⟩⟩
    have s1 : Same H (upd H F0 (.lst [])) := same_upd nF
    have s2 := s1.trans (same_upd (o := .tup (entV ⟨0, part, 0⟩)) nu)
    have s3 := s2.trans (same_upd (o := .lst [.ref u]) nW)
    have hW : H W0 = none := s2.free nW
    have uF : u ≠ F0 := fun e => by rw [e, upd_same] at nu; cases nu
    have wu : W0 ≠ u := fun e => by rw [e, upd_same] at nW; cases nW
    have wF : W0 ≠ F0 := fun e => by rw [e, upd_ne (Ne.symm uF), upd_same] at nW; cases nW
    have p256 : part < 256 := small8 fun x hx => by have := pn x hx; omega
    have nl : (mOf n q).length = n := mOf_len _ _
    have hm := mOf_bit cl
    let Wv : Nat → L2.St → Hp → Prop := fun m σ H' => ∃ o4 o5 o6 o7 o8 o9 o10 found wait, σ = [some (.ref a), some (.int (part : Int)), some (.ref F0), some (.ref W0), o4, o5, o6, o7, o8, o9, o10] ∧ Same H H' ∧ H' F0 = some (.lst (nvs found)) ∧ GrowE H' W0 wait ∧ RunM n q part found wait ∧ m = (wait.map (muE n)).sum
    refine ⟨Wv, ⟨_, none, none, none, none, none, none, none, [], [⟨0, part, 0⟩], rfl, s3, ?_, ⟨[(u, ⟨0, part, 0⟩)], upd_same, rfl, fun z hz => ?_⟩, RunM.start q part n, rfl⟩, ?_⟩
    · rw [upd_ne (Ne.symm wF), upd_ne (Ne.symm uF), upd_same]
      rfl
    · rw [List.mem_singleton.mp hz]
      show (upd _ _ _) u = _
      rw [upd_ne (Ne.symm wu), upd_same]
      rfl
    rintro m σ H' ⟨o4, o5, o6, o7, o8, o9, o10, found, wait, rfl, sm, hF, gw, R, rfl⟩
    have muF : found.length ≤ 256 := by
      have h1 := R.mu
      have h2 : 2 ^ cntM n part ≤ 2 ^ 8 := Nat.pow_le_pow_right (by decide) (Nat.le_trans cnt_le n8)
      omega
    have muW : wait.length ≤ 256 := by
      have h1 := R.mu
      have h2 : 2 ^ cntM n part ≤ 2 ^ 8 := Nat.pow_le_pow_right (by decide) (Nat.le_trans cnt_le n8)
      have h3 : ∀ l : List Ent, l.length ≤ (l.map (muE n)).sum := fun l => by
        induction l with
        | nil => exact Nat.le_refl _
        | cons x l ih =>
          have : 1 ≤ muE n x := Nat.one_le_two_pow
          rw [List.length_cons, List.map_cons, List.sum_cons]
          omega
      have := h3 wait
      omega
    obtain ⟨ys0, hy0, ly0⟩ := gw.len
    refine ⟨_, rfl, !ys0.isEmpty, .inl ⟨_, SqL.of hy0, rfl⟩, ?_⟩
    rcases List.eq_nil_or_concat wait with rfl | ⟨wt, e, rfl⟩
    · have : ys0 = [] := List.length_eq_zero_iff.mp ly0
      subst this
      rw [if_neg (by simp)]
      exact ⟨_, rfl, k H' F0 found sm nF hF (R.done pn) muF⟩
    rw [List.concat_eq_append] at gw R muW ly0 ⊢
    have ne0 : ys0 ≠ [] := fun e => by rw [e] at ly0; simp at ly0
    rw [if_pos (by simpa using ne0)]
    refine ⟨fun σ' H'' => ∃ m', m' < ((wt ++ [e]).map (muE n)).sum ∧ Wv m' σ' H'', fun _ _ h => h, ?_⟩
    obtain ⟨ys, ea, hy, hlast, hea, gw', ned⟩ := gw.pop
    refine ⟨_, rfl, .inl ⟨rfl, _, SqL.of hy⟩, W0, _, _, rfl, rfl, hy, hlast, ?_⟩
    have smW : ∀ o, Same H (upd H' W0 o) := fun o b u e => by
      rw [upd_ne (ne_of_none e hW)]
      exact sm b u e
    have hF' : (upd H' W0 (.lst ys.dropLast)) F0 = some (.lst (nvs found)) := by rw [upd_ne (Ne.symm wF)]; exact hF
    have hea' : (upd H' W0 (.lst ys.dropLast)) ea = some (.tup (entV e)) := by
      rw [upd_ne (fun h => ned (by rw [h]))]
      exact hea
    refine ⟨ea, _, rfl, SqT.of hea', rfl, _, _, rfl, _, _, rfl, _, _, rfl, rfl, ?_⟩
    have oe := R.wo e (List.mem_append_right _ (List.mem_singleton.mpr rfl))
    have hsum : ((wt ++ [e]).map (muE n)).sum = (wt.map (muE n)).sum + muE n e := by
      rw [List.map_append, List.sum_append, List.map_cons, List.map_nil, List.sum_cons, List.sum_nil, Nat.add_zero]
    have m1 : 1 ≤ muE n e := Nat.one_le_two_pow
    refine ⟨_, rfl, _, rfl, _, _, rfl, rfl, rfl, _, rfl, ?_⟩
    rw [dec_int]
    by_cases c : e.f ||| e.d = 0
    · rw [c]
      refine iteT ⟨_, rfl, .inl ⟨rfl, _, SqL.of hF'⟩, _, rfl, F0, _, _, rfl, rfl, hF', ?_, ?_⟩
      · rw [nvs_len, sizeLine_eq]
        omega
      · refine ⟨_, ?_, _, _, _, _, _, _, _, found ++ [e.k], wt, rfl, fun b o h => ?_, ?_, gw'.other hF' wF, R.leaf c, rfl⟩
        · omega
        · rw [upd_ne (ne_of_none h nF)]
          exact smW _ b o h
        · rw [upd_same]
          unfold nvs
          rw [List.map_append]
          rfl
    · rw [show (((e.f ||| e.d : Nat) : Int) == 0) = false by rw [beq_eq_false_iff_ne]; omega]
      refine iteF ?_
      have fdp : ∀ x, (e.f ||| e.d).testBit x = true → x < n := fun x hx => by
        rw [Nat.testBit_or, Bool.or_eq_true] at hx
        exact pn x (hx.elim (oe.fp x) (oe.dp x))
      refine ⟨_, rfl, _, rfl, _, _, rfl, rfl, (e.f ||| e.d), rfl, c, small8 fun x hx => (by have := fdp x hx; omega), fun p hp H1 t1 => ?_⟩
      have pN := fdp p hp
      have sm1 : Same H H1 := (smW _).trans t1
      have ha1 := sm1 _ _ ha
      have hfp : e.f.testBit p = true ∨ e.d.testBit p = true := by
        rw [Nat.testBit_or, Bool.or_eq_true] at hp
        exact hp
      have f256 : e.f < 2 ^ 8 := small8 fun x hx => by have := pn x (oe.fp x hx); omega
      have b8 : bitsN (andN e.f ((mOf n q).getD p 0)) ≤ 8 := bits_small (Nat.lt_of_le_of_lt (andN_le _ _) f256)
      refine ⟨_, rfl, _, rfl, _, rfl, a, _, _, _, rfl, rfl, SqT.of ha1, nvs_at (by rw [nl]; exact pN), _, rfl, _, _, rfl, rfl, andN e.f ((mOf n q).getD p 0), rfl, by omega, fun H2 G t2 nG hG => ?_⟩
      have sm2 : Same H H2 := sm1.trans t2
      have hF2 := t2 _ _ (t1 _ _ hF')
      have gw2 := (gw'.mono t1).mono t2
      let g := (List.range (bitsN (andN e.f ((mOf n q).getD p 0)))).filter (andN e.f ((mOf n q).getD p 0)).testBit
      have gd : g.Nodup := List.Pairwise.filter _ List.nodup_range
      have hg : ∀ t, t ∈ g ↔ (andN e.f ((mOf n q).getD p 0)).testBit t = true := fun t => by
        rw [List.mem_filter]
        refine ⟨fun h => h.2, fun h => ⟨List.mem_range.mpr ?_, h⟩⟩
        refine Nat.lt_of_not_le fun le => ?_
        rw [bits_out le] at h
        cases h
      have R2 := R.node (n := n) (ms := fun x => (mOf n q).getD x 0) cl hm pn (p := p) hfp gd hg
      have gl : g.length ≤ 8 := Nat.le_trans (List.length_filter_le _ _) (by rw [List.length_range]; exact b8)
      have nFW : H F0 = none ∧ H W0 = none := ⟨nF, hW⟩
      let Pv : Nat → L2.St → Hp → Prop := fun i σ H' => ∃ o9 o10 fi di wi, σ = [some (.ref a), some (.int (part : Int)), some (.ref F0), some (.ref W0), some (.int (e.k : Int)), some (.int (fi : Nat)), some (.int (di : Nat)), some (.int (p : Int)), some (.ref G), o9, o10] ∧ Same H H' ∧ H' F0 = some (.lst (nvs found)) ∧ H' G = some (.tup (nvs g)) ∧ GrowE H' W0 wi ∧ wi ++ kids (fun x => (mOf n q).getD x 0) e.k fi di (g.drop i) = wt ++ kids (fun x => (mOf n q).getD x 0) e.k e.f e.d g ∧ wi.length ≤ 300 + i
      refine ⟨_, rfl, G, rfl, ⟨_, SqT.of hG⟩, for_tup (K := K) (a := G) (xs := nvs g) Pv ⟨o9, o10, e.f, e.d, wt, rfl, sm2, hF2, hG, gw2, rfl, by rw [List.length_append] at muW; omega⟩ (fun i σ H' _ ⟨_, _, _, _, _, _, _, _, hG, _⟩ => SqT.of hG) (fun i v σ H3 hi hp3 => ?_) (fun σ H3 hp3 => ?_)⟩
      · obtain ⟨o9, o10, fi, di, wi, rfl, sm3, hF3, hG3, gw3, ew, lw⟩ := hp3
        obtain ⟨t, ht, rfl⟩ := nvs_get hi
        obtain ⟨il, ht'⟩ := List.getElem?_eq_some_iff.mp ht
        have tg : t ∈ g := List.mem_of_getElem? ht
        have tn : t < n := pn t (oe.fp t (andN_sub _ _ t ((hg t).mp tg)))
        have tl : t < (mOf n q).length := by rw [nl]; exact tn
        have ha3 := sm3 _ _ ha
        obtain ⟨ys3, hy3, ly3⟩ := gw3.len
        have gx : SqT K H3 a (nvs (mOf n q)) := SqT.of ha3
        rw [List.drop_eq_getElem_cons il, ht'] at ew
        refine ⟨_, rfl, t, rfl, rfl, by omega, ?_⟩
        refine ⟨_, rfl, .inl ⟨rfl, ys3, SqL.of hy3⟩, _, rfl, _, rfl, _, _, rfl, rfl, _, rfl, _, rfl, _, rfl, a, _, _, _, rfl, rfl, gx, nvs_at tl, _, _, rfl, rfl, _, rfl, _, rfl, _, rfl, a, _, _, _, rfl, rfl, gx, nvs_at tl, _, _, rfl, rfl, by show 3 ≤ sizeLine; decide, fun u3 nu3 => ?_⟩
        obtain ⟨ys4, hy4, ly4, gw4⟩ := gw3.push (e := ⟨e.k ||| 2 ^ t, fi &&& (mOf n q).getD t 0, di &&& (mOf n q).getD t 0⟩) nu3
        refine ⟨W0, ys4, _, rfl, rfl, hy4, by rw [ly4, sizeLine_eq]; omega, ?_⟩
        refine ⟨_, rfl, _, rfl, _, rfl, _, _, rfl, rfl, _, rfl, _, rfl, _, _, rfl, rfl, ?_⟩
        refine ⟨_, _, andN fi (2 ^ t), di ||| 2 ^ t, wi ++ [Ent.mk (e.k ||| 2 ^ t) (fi &&& (mOf n q).getD t 0) (di &&& (mOf n q).getD t 0)], rfl, ?_, ?_, ?_, gw4, ?_, ?_⟩
        · exact fun b o h => by
            rw [upd_ne (ne_of_none h hW)]
            exact (sm3.trans (same_upd nu3)) b o h
        · rw [upd_ne (Ne.symm wF), upd_ne (fun ee => by rw [ee, nu3] at hF3; cases hF3)]
          exact hF3
        · have gW : G ≠ W0 := fun ee => by rw [ee, hy3] at hG3; cases hG3
          rw [upd_ne gW, upd_ne (fun ee => by rw [ee, nu3] at hG3; cases hG3)]
          exact hG3
        · rw [List.append_assoc]
          exact ew
        · rw [List.length_append, List.length_singleton]
          omega
      · obtain ⟨o9, o10, fi, di, wi, rfl, sm3, hF3, _, gw3, ew, _⟩ := hp3
        rw [nvs_len, List.drop_length] at ew
        replace ew : wi ++ [] = _ := ew
        rw [List.append_nil] at ew
        subst ew
        refine ⟨_, ?_, _, _, _, _, _, _, _, found, _, rfl, sm3, hF3, gw3, R2, rfl⟩
        have := kids_mu (N := n) (ms := fun x => (mOf n q).getD x 0) cl hm (K := e.k) (D := e.d) gd (fun t ht => ⟨pn t (oe.fp t (andN_sub _ _ t ((hg t).mp ht))), andN_sub _ _ t ((hg t).mp ht)⟩)
        rw [hsum, List.map_append, List.sum_append]
        have : muE n e = 2 ^ cntM n e.f := rfl
        omega
end
end K0
set_option Elab.async false
set_option linter.all false
set_option maxRecDepth 100000
set_option maxHeartbeats 4000000
namespace K0
open PySem PySem.Spec PyProof.Rows L2
abbrev s_fp : Stmt := top 27
abbrev s_ik : Stmt := top 28
theorem th_true {n : Int} {x : Nat} (h : (x : Int) < n) : isTh n (.int (x : Int)) ≠ false := fun z => by
  have : isTh n (.int (x : Int)) = true := decide_eq_true (by omega)
  rw [this] at z
  cases z
section
variable {P : Program} {w : World} {K : PySem.W.Frag} {mg : Str → Option Value} {base : Heap} {f : Addr} {fd : FuncData}
/-- first_pair(web, things, clashing) -/
def spFp (K : PySem.W.Frag) (C : Addr) : Sp := fun vs H Q _ => ∃ (p a : Addr) (n : Int) (q : List Pr) (g : List Nat) (b : Bool), vs = [.ref p, .ref a, .bl b] ∧ WebAt C H p n q ∧ (∀ H', Same H H' → SqT K H' a (nvs g)) ∧ g.length ≤ 16 ∧ (∀ x ∈ g, (x : Int) < n) ∧
  ((∀ x ∈ g, ∀ y ∈ g, x < y → hasP q x y ≠ b) → Ret .non H Q) ∧ ∀ H' u x y, Same H H' → x ∈ g → y ∈ g → x < y → hasP q x y = b → H' u = some (.tup [.int (x : Nat), .int (y : Nat)]) → Q (.ref u) H'
abbrev fpN : List Str := ["web", "things", "clashing", "x", "y"]
theorem sc_fp : FnScope fpN ["web", "things", "clashing"] (defScope s_fp) := ⟨rfl, rfl, rfl, by decide +kernel, rfl, by decide +kernel, by decide +kernel⟩
theorem ok_fp {C CT : Addr} (F : Fun K "first_pair" "first_pair" s_fp f fd) (CL : Mt P w K mg base C "clash" 4 ["self", "x", "y"] (spCl C CT)) : FnOk P w K mg base (L2.CX P w) 5 f fd ["web", "things", "clashing"] (spFp K C) := by
  refine F.okX sc_fp (fun vs H Q E h => ?_) (fun cdv A outer s H vs Q E hr h => ?_)
  · obtain ⟨p, a, n, q, g, b, rfl, _⟩ := h
    rfl
  · obtain ⟨p, a, n, q, g, b, rfl, W, hs, g16, gn, q1, q2⟩ := h
    obtain ⟨⟨ddx, c, m, l0, h1, h2, h3, h4, h5⟩, cl', n0, n16⟩ := id W
    have nd := sc_fp.nd
    refine ⟨_, pss_cons (ps_for (passes_of rfl) rfl (pi_tup (pv 1)) (pg_name (i := 3) nd rfl (.inl rfl))
      (pss_one (ps_for (passes_of rfl) rfl (pi_tup (pv 1)) (pg_name (i := 4) nd rfl (.inl rfl))
        (pss_one (ps_if (PW.pt (pw_and (pt_cmpR op_lt (pv 3) (pv 4) (nomark _)) (pw_and1 (pt_cmpR op_eq (pe_mt1 CL hr passUp (pv 0) (pa_cons (pv 3) (pa_cons (pv 4) pa_nil))) (pv 2) (nomark _)))))
          (pss_one (ps_ret (pe_tup (pa_cons (pv 3) (pa_cons (pv 4) pa_nil))))) pss_nil)))))
      (pss_one (ps_ret pe_non)), ?_⟩
    let P1 : Nat → L2.St → Hp → Prop := fun i σ H' => ∃ o3 o4, σ = [some (.ref p), some (.ref a), some (.bl b), o3, o4] ∧ Same H H' ∧ ∀ x ∈ g.take i, ∀ y ∈ g, x < y → hasP q x y ≠ b
    refine ⟨_, rfl, a, rfl, ⟨_, hs H (.refl _)⟩, for_tup (K := K) (a := a) (xs := nvs g) P1 ⟨none, none, rfl, .refl _, fun x hx => by cases hx⟩ (fun i σ H' _ h => ?_) (fun i v σ H1 hi h => ?_) (fun σ H1 h => ?_)⟩
    · obtain ⟨_, _, _, sm, _⟩ := h
      exact hs _ sm
    · obtain ⟨o3, o4, rfl, sm1, fine1⟩ := h
      obtain ⟨x, hx, rfl⟩ := nvs_get hi
      have xg := List.mem_of_getElem? hx
      let P2 : Nat → L2.St → Hp → Prop := fun j σ H' => ∃ o4, σ = [some (.ref p), some (.ref a), some (.bl b), some (.int (x : Int)), o4] ∧ Same H H' ∧ ∀ y ∈ g.take j, x < y → hasP q x y ≠ b
      refine ⟨_, rfl, a, rfl, ⟨_, hs _ sm1⟩, for_tup (K := K) (a := a) (xs := nvs g) P2 ⟨o4, rfl, sm1, fun y hy => by cases hy⟩ (fun j σ H' _ h => ?_) (fun j v σ H2 hj h => ?_) (fun σ H2 h => ?_)⟩
      · obtain ⟨_, _, sm, _⟩ := h
        exact hs _ sm
      · obtain ⟨o4, rfl, sm2, fine2⟩ := h
        obtain ⟨y, hy, rfl⟩ := nvs_get hj
        have yg := List.mem_of_getElem? hy
        have next : ∀ H3, Same H H3 → (x < y → hasP q x y ≠ b) → P2 (j + 1) [some (.ref p), some (.ref a), some (.bl b), some (.int (x : Int)), some (.int (y : Int))] H3 := fun H3 s3 no => ⟨_, rfl, s3, fun z hz => by
          rw [take_at hy] at hz
          rcases List.mem_append.mp hz with hz | hz
          · exact fine2 z hz
          · rw [List.mem_singleton.mp hz]
            exact no⟩
        refine ⟨_, rfl, _, rfl, _, _, rfl, rfl, _, rfl, ?_⟩
        by_cases lt : x < y
        · rw [decide_eq_true (show (x : Int) < (y : Int) by omega)]
          refine iteT ⟨_, rfl, p, ddx, _, rfl, sm2 _ _ h1, wf_no _ _ _ (by decide +kernel) (by decide +kernel) (by decide +kernel), _, rfl, _, rfl, p, _, _, .int (x : Int), .int (y : Int), n, q, rfl, W.mono sm2, .int _, .int _, (fun z => absurd z (th_true (gn x xg))), (fun _ z => absurd z (th_true (gn y yg))), fun x' y' ex ey hx' hy' H3 s3 => ?_⟩
          have ex' : x' = x := by have := PyData.int.inj ex; omega
          have ey' : y' = y := by have := PyData.int.inj ey; omega
          subst ex' ey'
          refine ⟨_, rfl, rfl, _, rfl, ?_⟩
          rw [dec_bl]
          by_cases e : hasP q x' y' = b
          · rw [show (hasP q x' y' == b) = true by rw [e]; exact beq_self_eq_true b]
            refine iteT ⟨_, rfl, _, rfl, by show 2 ≤ sizeLine; decide, fun u nu => ?_⟩
            exact q2 _ u x' y' ((sm2.trans s3).trans (same_upd nu)) xg yg lt e upd_same
          · rw [show (hasP q x' y' == b) = false by rw [beq_eq_false_iff_ne]; exact e]
            exact iteF (next H3 (sm2.trans s3) fun _ => e)
        · rw [decide_eq_false (show ¬ (x : Int) < (y : Int) by omega)]
          exact iteF (next H2 sm2 fun h => absurd h lt)
      · obtain ⟨o4, rfl, sm2, fine2⟩ := h
        rw [nvs_len, List.take_length] at fine2
        refine ⟨_, _, rfl, sm2, fun z hz y hy => ?_⟩
        rw [take_at hx] at hz
        rcases List.mem_append.mp hz with hz | hz
        · exact fine1 z hz y hy
        · rw [List.mem_singleton.mp hz]
          exact fine2 y hy
    · obtain ⟨o3, o4, rfl, sm1, fine1⟩ := h
      rw [nvs_len, List.take_length] at fine1
      exact q1 fine1 H1 sm1
/-- is_knot(web, things), on things that are right -/
def spIk (K : PySem.W.Frag) (C : Addr) : Sp := fun vs H Q _ => ∃ (p a : Addr) (n : Int) (q : List Pr) (ns : List Int), vs = [.ref p, .ref a] ∧ WebAt C H p n q ∧ n ≤ 9 ∧ TupF H a ns ∧ Good n ns ∧ ns.length ≤ 2 ∧ (∀ a ∈ ns, ∀ b ∈ ns, a < b → hasP q a.toNat b.toNat = true) ∧ Ret (.bl true) H Q
theorem sc_ik : FnScope ["web", "things"] ["web", "things"] (defScope s_ik) := ⟨rfl, rfl, rfl, by decide +kernel, rfl, by decide +kernel, by decide +kernel⟩
theorem fwG_good {n : Int} : ∀ {r sn : List Int}, Good n (sn ++ r) → fwG n (r.map PyData.int) sn = none
  | [], sn, _ => rfl
  | i :: r, sn, g => by
    have nd := List.nodup_append.mp g.nd
    have h1 : okAt n sn (.int i) = true := decide_eq_true ⟨(g.rng i (List.mem_append_right _ List.mem_cons_self)).1, (g.rng i (List.mem_append_right _ List.mem_cons_self)).2, fun h => nd.2.2 i h i List.mem_cons_self rfl⟩
    rw [List.map_cons, fwG, if_pos h1]
    exact fwG_good (by rw [List.append_assoc]; exact g)
theorem ok_ik {C CPt : Addr} (F : Fun K "is_knot" "is_knot" s_ik f fd) (T : WebC K C) (CS : Df P w K mg base "check_things" 4 ["many", "things"] (spCs K CPt)) (FP : Df P w K mg base "first_pair" 5 ["web", "things", "clashing"] (spFp K C)) : FnOk P w K mg base (L2.CX P w) 6 f fd ["web", "things"] (spIk K C) := by
  refine F.okX sc_ik (fun vs H Q E h => ?_) (fun cdv A outer s H vs Q E hr h => ?_)
  · obtain ⟨p, a, n, q, ns, rfl, _⟩ := h
    rfl
  · obtain ⟨p, a, n, q, ns, rfl, W, n9, ha, gd, l1, kn, k⟩ := h
    obtain ⟨⟨ddx, c, m, l0, h1, h2, h3, h4, h5⟩, cl', n0, n16⟩ := id W
    have r4 : Room 4 _ := hr.mono (by decide)
    refine ⟨_, pss_one (ps_ret (pe_cmpR op_isN (pe_df FP hr (by rfl) passUp (pa_cons (pv 0) (pa_cons (pe_df CS r4 (by rfl) passUp (pa_cons (pe_fld (pv 0) rfl) (pa_cons (pv 1) pa_nil))) (pa_cons pe_bl pa_nil)))) pe_non (nomark _))), ?_⟩
    obtain ⟨o, ho, od⟩ := id ha
    have fw : fwG n (ns.map PyData.int) [] = none := fwG_good gd
    refine ⟨_, rfl, _, rfl, p, C, ddx, _, _, rfl, h1, T.cl, T.nm, wf_many _ _ _, _, rfl, n, a, ns.map PyData.int, rfl, n0, n9, .frz ho (.ints H ns), fun _ => ⟨⟨_, .inr ⟨ha.sq, fun H' s' => (ha.mono s').sq⟩, .ints H ns⟩, fun H1 t ms s1 nt ht srt mm => ?_⟩, fun i e => by rw [fw] at e; cases e⟩
    have rn : ∀ x ∈ ms, 0 ≤ x ∧ x < n := fun x hx => gd.rng x (by simpa using (mm x).mp hx)
    have rn2 := rn
    have em : ms.map V.int = nvs (ms.map Int.toNat) := by
      unfold nvs
      rw [List.map_map]
      refine List.map_congr_left fun x hx => ?_
      have := (rn x hx).1
      show V.int x = V.int ((x.toNat : Nat) : Int)
      rw [Int.toNat_of_nonneg this]
    have l2 : ms.length ≤ 2 := by
      have := len_sub ms ns (srt.imp (fun h => by omega)) fun x hx => by simpa using (mm x).mp hx
      omega
    refine ⟨p, t, n, q, ms.map Int.toNat, false, rfl, W.mono s1, fun H' s' => by rw [← em]; exact (ht.mono s').sq, by rw [List.length_map]; omega, fun x hx => ?_, fun _ H2 s2 => ⟨rfl, k H2 (s1.trans s2)⟩, fun H' u x y _ hx hy lt hf _ => ?_⟩
    · obtain ⟨z, hz, rfl⟩ := List.mem_map.mp hx
      have := rn z hz
      omega
    · exfalso
      obtain ⟨z1, hz1, rfl⟩ := List.mem_map.mp hx
      obtain ⟨z2, hz2, rfl⟩ := List.mem_map.mp hy
      have g1 := rn z1 hz1
      have g2 := rn z2 hz2
      rw [kn z1 (by simpa using (mm z1).mp hz1) z2 (by simpa using (mm z2).mp hz2) (by omega)] at hf
      cases hf
end
end K0
set_option Elab.async false
set_option linter.all false
set_option maxRecDepth 100000
set_option maxHeartbeats 4000000
namespace K0
open PySem PySem.Spec PyProof.Rows L2
/-! ### weights of masks -/
def wM (n : Nat) (ns : List Int) (m : Nat) : Int := ((List.range n).map fun x => if m.testBit x = true then ns.getD x 0 else 0).sum
theorem sum_le {f g : Nat → Int} : ∀ n : Nat, (∀ x, x < n → f x ≤ g x) → ((List.range n).map f).sum ≤ ((List.range n).map g).sum
  | 0, _ => Int.le_refl _
  | n + 1, h => by
    have ih := sum_le n fun x hx => h x (by omega)
    have := h n (by omega)
    rw [List.range_succ, List.map_append, List.map_append, List.sum_append, List.sum_append]
    simp only [List.map_cons, List.map_nil, List.sum_cons, List.sum_nil]
    omega
theorem sum_eq {f g : Nat → Int} (n : Nat) (h : ∀ x, x < n → f x = g x) : ((List.range n).map f).sum = ((List.range n).map g).sum :=
  Int.le_antisymm (sum_le n fun x hx => Int.le_of_eq (h x hx)) (sum_le n fun x hx => Int.le_of_eq (h x hx).symm)
theorem sum_add {f g : Nat → Int} : ∀ n : Nat, ((List.range n).map fun x => f x + g x).sum = ((List.range n).map f).sum + ((List.range n).map g).sum
  | 0 => rfl
  | n + 1 => by
    have ih := sum_add (f := f) (g := g) n
    rw [List.range_succ, List.map_append, List.map_append, List.map_append, List.sum_append, List.sum_append, List.sum_append]
    simp only [List.map_cons, List.map_nil, List.sum_cons, List.sum_nil]
    omega
theorem sum_zero : ∀ n : Nat, ((List.range n).map fun _ => (0 : Int)).sum = 0
  | 0 => rfl
  | n + 1 => by
    have ih := sum_zero n
    rw [List.range_succ, List.map_append, List.sum_append, ih]
    rfl
theorem sum_one (t : Nat) (c : Int) : ∀ n : Nat, ((List.range n).map fun x => if x = t then c else 0).sum = if t < n then c else 0
  | 0 => rfl
  | n + 1 => by
    have ih := sum_one t c n
    rw [List.range_succ, List.map_append, List.sum_append, ih]
    simp only [List.map_cons, List.map_nil, List.sum_cons, List.sum_nil]
    by_cases h1 : t < n
    · rw [if_pos h1, if_neg (by omega), if_pos (by omega)]
      omega
    · rw [if_neg h1]
      by_cases h2 : n = t
      · rw [if_pos h2, if_pos (by omega)]
        omega
      · rw [if_neg h2, if_neg (by omega)]
        rfl
theorem wsum_bits (ns : List Int) (m : Nat) : ∀ n : Nat, wsum ns (bitsOf n m) = wM n ns m
  | 0 => rfl
  | n + 1 => by
    have ih := wsum_bits ns m n
    unfold wsum bitsOf wM at *
    rw [List.range_succ, List.filter_append, List.map_append, List.sum_append, ih, List.map_append, List.sum_append]
    congr 1
    cases e : m.testBit n <;> simp [e]
theorem wM_mono {n : Nat} {ns : List Int} (am : Amt n ns) {a b : Nat} (s : SubM a b) : wM n ns a ≤ wM n ns b := sum_le n fun x hx => by
  have p : 0 ≤ ns.getD x 0 := by
    have hl : x < ns.length := by rw [am.len]; exact hx
    rw [List.getD_eq_getElem?_getD, List.getElem?_eq_getElem hl]
    exact am.pos _ (List.getElem_mem hl)
  by_cases h : a.testBit x = true
  · rw [if_pos h, if_pos (s x h)]
    exact Int.le_refl _
  · rw [if_neg h]
    split
    · exact p
    · exact Int.le_refl _
theorem wM_add {n : Nat} {ns : List Int} {m t : Nat} (tn : t < n) (h : m.testBit t = false) : wM n ns (m ||| 2 ^ t) = wM n ns m + ns.getD t 0 := by
  unfold wM
  have e : ((List.range n).map fun x => if x = t then ns.getD t 0 else 0).sum = ns.getD t 0 := by
    rw [sum_one, if_pos tn]
  rw [← e, ← sum_add]
  refine sum_eq n fun x _ => ?_
  by_cases c : x = t
  · subst c
    rw [if_pos (by rw [or_two, decide_eq_true rfl, Bool.or_true]), if_neg (by rw [h]; exact Bool.false_ne_true), if_pos rfl]
    omega
  · have : (m ||| 2 ^ t).testBit x = m.testBit x := by
      rw [or_two, decide_eq_false (fun e => c e.symm), Bool.or_false]
    rw [this, if_neg c]
    omega
theorem wM_zero (n : Nat) (ns : List Int) : wM n ns 0 = 0 := by
  unfold wM
  rw [sum_eq (g := fun _ => 0) n fun x _ => by rw [Nat.zero_testBit]; rfl, sum_zero]
/-- the weight of the heaviest knot that holds the things of h -/
structure Hv (n : Nat) (q : List Pr) (ns : List Int) (h : Nat) (r : Int) : Prop where
  ex : ∃ m, ClqM q m ∧ (∀ x, m.testBit x = true → x < n) ∧ SubM h m ∧ wM n ns m = r
  le : ∀ m, ClqM q m → (∀ x, m.testBit x = true → x < n) → SubM h m → wM n ns m ≤ r
theorem Hv.uniq {n : Nat} {q : List Pr} {ns : List Int} {h : Nat} {r s : Int} (a : Hv n q ns h r) (b : Hv n q ns h s) : r = s := by
  obtain ⟨m, m1, m2, m3, e1⟩ := a.ex
  obtain ⟨k, k1, k2, k3, e2⟩ := b.ex
  have := b.le m m1 m2 m3
  have := a.le k k1 k2 k3
  omega
def maskOf : List Nat → Nat
  | [] => 0
  | [x] => 2 ^ x
  | x :: y :: _ => 2 ^ x ||| 2 ^ y
def partOf (n : Nat) (q : List Pr) : List Nat → Nat
  | [] => 2 ^ n - 1
  | [x] => (2 ^ n - 1) &&& (mOf n q).getD x 0
  | x :: y :: _ => ((2 ^ n - 1) &&& (mOf n q).getD x 0) &&& (mOf n q).getD y 0
/-- no thing, one, or two that clash -/
def TwoK (q : List Pr) (g : List Nat) : Prop := g = [] ∨ (∃ x, g = [x]) ∨ ∃ x y, g = [x, y] ∧ x ≠ y ∧ hasP q x y = true
theorem TwoK.none {q : List Pr} : TwoK q [] := .inl rfl
theorem TwoK.one {q : List Pr} {x : Nat} : TwoK q [x] := .inr (.inl ⟨x, rfl⟩)
theorem TwoK.two {q : List Pr} {x y : Nat} (ne : x ≠ y) (h : hasP q x y = true) : TwoK q [x, y] := .inr (.inr ⟨x, y, rfl, ne, h⟩)
theorem TwoK.len {q : List Pr} {g : List Nat} (h : TwoK q g) : g.length ≤ 2 := by
  rcases h with rfl | ⟨x, rfl⟩ | ⟨x, y, rfl, _⟩ <;> simp
theorem TwoK.nodup {q : List Pr} {g : List Nat} (h : TwoK q g) : g.Nodup := by
  rcases h with rfl | ⟨x, rfl⟩ | ⟨x, y, rfl, ne, _⟩
  · exact List.nodup_nil
  · exact List.nodup_cons.mpr ⟨List.not_mem_nil, List.nodup_nil⟩
  · exact List.nodup_cons.mpr ⟨fun m => ne (List.mem_singleton.mp m), List.nodup_cons.mpr ⟨List.not_mem_nil, List.nodup_nil⟩⟩
theorem TwoK.clq {q : List Pr} {g : List Nat} (h : TwoK q g) {x y : Nat} (hx : x ∈ g) (hy : y ∈ g) (ne : x ≠ y) : hasP q x y = true := by
  rcases h with rfl | ⟨a, rfl⟩ | ⟨a, b, rfl, _, hp⟩
  · cases hx
  · rw [List.mem_singleton] at hx hy
    exact absurd (hx.trans hy.symm) ne
  · rcases List.mem_cons.mp hx with ex | hx
    · rcases List.mem_cons.mp hy with ey | hy
      · exact absurd (ex.trans ey.symm) ne
      · have ey := List.mem_singleton.mp hy
        rw [ex, ey]
        exact hp
    · have ex := List.mem_singleton.mp hx
      rcases List.mem_cons.mp hy with ey | hy
      · rw [ex, ey, hasP_sym]
        exact hp
      · exact absurd (ex.trans (List.mem_singleton.mp hy).symm) ne
theorem maskOf_bit {q : List Pr} {g : List Nat} (h : TwoK q g) (z : Nat) : (maskOf g).testBit z = decide (z ∈ g) := by
  rcases h with rfl | ⟨a, rfl⟩ | ⟨a, b, rfl, _, _⟩
  · rw [maskOf, Nat.zero_testBit]
    rfl
  · rw [maskOf, two_bit]
    exact decide_eq_decide.mpr ⟨fun e => by rw [← e]; exact List.mem_singleton.mpr rfl, fun m => (List.mem_singleton.mp m).symm⟩
  · rw [maskOf, or_two, two_bit, Bool.eq_iff_iff, Bool.or_eq_true, decide_eq_true_iff, decide_eq_true_iff, decide_eq_true_iff, List.mem_cons, List.mem_singleton]
    exact ⟨fun e => e.imp Eq.symm Eq.symm, fun e => e.imp Eq.symm Eq.symm⟩
theorem whole_bit (n x : Nat) : (2 ^ n - 1).testBit x = decide (x < n) := Nat.testBit_two_pow_sub_one n x
theorem partOf_bit {n : Nat} {q : List Pr} (cl : Cl n q) {g : List Nat} (h : TwoK q g) (x : Nat) : (partOf n q g).testBit x = true ↔ x < n ∧ ∀ t ∈ g, hasP q t x = true := by
  rcases h with rfl | ⟨a, rfl⟩ | ⟨a, b, rfl, _, _⟩
  · rw [partOf, whole_bit, decide_eq_true_iff]
    exact ⟨fun l => ⟨l, fun t ht => by cases ht⟩, fun l => l.1⟩
  · rw [partOf, Nat.testBit_and, whole_bit, mOf_bit cl, Bool.and_eq_true, decide_eq_true_iff]
    exact ⟨fun l => ⟨l.1, fun t ht => by rw [List.mem_singleton.mp ht]; exact l.2⟩, fun l => ⟨l.1, l.2 a (List.mem_singleton.mpr rfl)⟩⟩
  · rw [partOf, Nat.testBit_and, Nat.testBit_and, whole_bit, mOf_bit cl, mOf_bit cl, Bool.and_eq_true, Bool.and_eq_true, decide_eq_true_iff]
    refine ⟨fun l => ⟨l.1.1, fun t ht => ?_⟩, fun l => ⟨⟨l.1, l.2 a List.mem_cons_self⟩, l.2 b (List.mem_cons_of_mem _ (List.mem_singleton.mpr rfl))⟩⟩
    rcases List.mem_cons.mp ht with e | ht
    · rw [e]
      exact l.1.2
    · rw [List.mem_singleton.mp ht]
      exact l.2
theorem wM_hold {n : Nat} {q : List Pr} {ns : List Int} {g : List Nat} (h : TwoK q g) (gn : ∀ x ∈ g, x < n) {m : Nat} (no : ∀ x ∈ g, m.testBit x = false) : wM n ns (m ||| maskOf g) = wM n ns m + wsum ns g := by
  rcases h with rfl | ⟨a, rfl⟩ | ⟨a, b, rfl, ne, _⟩
  · rw [maskOf, Nat.or_zero]
    show _ = _ + 0
    omega
  · rw [maskOf, wM_add (gn a List.mem_cons_self) (no a List.mem_cons_self)]
    show _ = _ + (ns.getD a 0 + 0)
    omega
  · have hb : b ∈ [a, b] := List.mem_cons_of_mem _ (List.mem_singleton.mpr rfl)
    rw [maskOf, ← Nat.or_assoc, wM_add (gn b hb) (by rw [or_two, no b hb, decide_eq_false ne]; rfl), wM_add (gn a List.mem_cons_self) (no a List.mem_cons_self)]
    show _ = _ + (ns.getD a 0 + (ns.getD b 0 + 0))
    omega
theorem hv_of {n : Nat} {q : List Pr} {ns : List Int} (cl : Cl n q) (am : Amt n ns) {g : List Nat} (g1 : TwoK q g) (gn : ∀ x ∈ g, x < n) {found : List Nat} (fu : Fulls q (partOf n q g) found) {r : Int}
    (hr : r ∈ found.map (wM n ns)) (top : ∀ y ∈ found.map (wM n ns), y ≤ r) : Hv n q ns (maskOf g) (wsum ns g + r) := by
  obtain ⟨m0, hm0, rfl⟩ := List.mem_map.mp hr
  obtain ⟨c0, s0⟩ := fu.fo m0 hm0
  have pb := partOf_bit cl g1
  have mb := maskOf_bit g1
  have nt : ∀ m, SubM m (partOf n q g) → ∀ t ∈ g, m.testBit t = false := fun m s t ht => by
    cases e : m.testBit t with
    | false => rfl
    | true =>
      have := ((pb t).mp (s t e)).2 t ht
      rw [hasP_irr cl] at this
      cases this
  have ob : ∀ m x, (m ||| maskOf g).testBit x = true ↔ m.testBit x = true ∨ x ∈ g := fun m x => by
    rw [Nat.testBit_or, mb, Bool.or_eq_true, decide_eq_true_iff]
  refine ⟨⟨m0 ||| maskOf g, fun x y hx hy ne => ?_, fun x hx => ?_, fun x hx => ?_, by rw [wM_hold g1 gn (nt m0 s0)]; omega⟩, fun m c b s => ?_⟩
  · rw [ob] at hx hy
    rcases hx with hx | hx
    · rcases hy with hy | hy
      · exact c0 x y hx hy ne
      · rw [hasP_sym]
        exact ((pb x).mp (s0 x hx)).2 y hy
    · rcases hy with hy | hy
      · exact ((pb y).mp (s0 y hy)).2 x hx
      · exact g1.clq hx hy ne
  · rw [ob] at hx
    rcases hx with hx | hx
    · exact ((pb x).mp (s0 x hx)).1
    · exact gn x hx
  · rw [ob]
    rw [mb, decide_eq_true_iff] at hx
    exact .inr hx
  · have mg : ∀ t ∈ g, m.testBit t = true := fun t ht => s t (by rw [mb]; exact decide_eq_true ht)
    let m1 := andN m (maskOf g)
    have b1 : ∀ x, m1.testBit x = true ↔ m.testBit x = true ∧ x ∉ g := fun x => by
      show (andN m (maskOf g)).testBit x = true ↔ _
      rw [andN_bit, mb, Bool.and_eq_true, Bool.not_eq_true', decide_eq_false_iff_not]
    have em : m = m1 ||| maskOf g := Nat.eq_of_testBit_eq fun x => by
      rw [Bool.eq_iff_iff, ob, b1]
      by_cases e : x ∈ g
      · exact ⟨fun _ => .inr e, fun _ => mg x e⟩
      · exact ⟨fun h => .inl ⟨h, e⟩, fun h => h.elim (fun h => h.1) fun h => absurd h e⟩
    obtain ⟨m', h1, h2⟩ := fu.all m1 (fun x y hx hy ne => c x y ((b1 x).mp hx).1 ((b1 y).mp hy).1 ne) fun x hx => by
      obtain ⟨h3, h4⟩ := (b1 x).mp hx
      exact (pb x).mpr ⟨b x h3, fun t ht => c t x (mg t ht) h3 fun e => h4 (e ▸ ht)⟩
    have k1 := wM_mono am h2
    have k2 := top _ (List.mem_map.mpr ⟨m', h1, rfl⟩)
    have k3 : ∀ x ∈ g, m1.testBit x = false := fun x hx => by
      cases e : m1.testBit x with
      | false => rfl
      | true => exact absurd hx ((b1 x).mp e).2
    rw [em, wM_hold g1 gn k3]
    omega
end K0
set_option Elab.async false
set_option linter.all false
set_option maxRecDepth 100000
set_option maxHeartbeats 4000000
namespace K0
open PySem PySem.Spec PyProof.Rows L2
abbrev s_hv : Stmt := top 29
def asI (g : List Nat) : List Int := g.map fun (k : Nat) => (k : Int)
theorem asI_nvs (g : List Nat) : (asI g).map V.int = nvs g := by
  unfold asI nvs
  rw [List.map_map]
  rfl
theorem amt_nobad {ns : List Int} {n : Nat} (am : Amt n ns) (i : Nat) : ¬ BadAt n (ns.map PyData.int) i := fun bad => by
  obtain ⟨_, b⟩ := bad
  rcases b with ⟨lt, d, ed, nd'⟩ | ⟨_, b⟩
  · obtain ⟨d', ed', ok'⟩ := amt_ok am i lt
    rw [ed] at ed'
    cases ed'
    rw [ok'] at nd'
    cases nd'
  · rw [List.length_map, am.len] at b
    exact b rfl
theorem ints_inj : ∀ {a b : List Int}, a.map PyData.int = b.map PyData.int → a = b
  | [], [], _ => rfl
  | x :: a, y :: b, h => by
    rw [List.map_cons, List.map_cons] at h
    injection h with h1 h2
    rw [PyData.int.inj h1, ints_inj h2]
theorem asI_nodup {g : List Nat} (h : g.Nodup) : (asI g).Nodup := (List.nodup_iff_pairwise_ne.mp h).map _ (fun a b ne e => ne (by omega))
theorem asI_nodup' : ∀ {g : List Nat}, (asI g).Nodup → g.Nodup
  | [], _ => List.nodup_nil
  | x :: g, h => by
    have h := List.nodup_cons.mp h
    exact List.nodup_cons.mpr ⟨fun m => h.1 (List.mem_map.mpr ⟨x, m, rfl⟩), asI_nodup' h.2⟩
theorem mem_asI {g : List Nat} {x : Nat} : (x : Int) ∈ asI g ↔ x ∈ g := by
  unfold asI
  constructor
  · intro h
    obtain ⟨y, hy, e⟩ := List.mem_map.mp h
    have : y = x := by omega
    rw [← this]
    exact hy
  · exact fun h => List.mem_map.mpr ⟨x, h, rfl⟩
theorem TwoK.perm {q : List Pr} {g go : List Nat} (h : TwoK q g) (nd : go.Nodup) (mo : ∀ x, x ∈ go ↔ x ∈ g) : TwoK q go := by
  match go, nd, mo with
  | [], _, _ => exact .none
  | [x], _, _ => exact .one
  | [x, y], nd, mo =>
    have ne : x ≠ y := fun e => (List.nodup_cons.mp nd).1 (List.mem_singleton.mpr e)
    exact .two ne (h.clq ((mo x).mp List.mem_cons_self) ((mo y).mp (List.mem_cons_of_mem _ List.mem_cons_self)) ne)
  | x :: y :: z :: r, nd, mo =>
    exfalso
    have l := len_sub (asI (x :: y :: z :: r)) (asI g) (asI_nodup nd) fun v hv => by
      obtain ⟨u, hu, e⟩ := List.mem_map.mp hv
      exact List.mem_map.mpr ⟨u, (mo u).mp hu, e⟩
    unfold asI at l
    rw [List.length_map, List.length_map] at l
    have := h.len
    simp only [List.length_cons] at l
    omega
/-- the things that are told of as held -/
def HoldAt (K : PySem.W.Frag) (H : Hp) (c : Addr) (g : List Nat) : Prop := Sq K H c ((asI g).map PyData.int) ∧ ∃ xs, (H c = some (.lst xs) ∨ SqT K H c xs ∧ ∀ H', Same H H' → SqT K H' c xs) ∧ DtAll H xs ((asI g).map PyData.int)
theorem HoldAt.mono {K : PySem.W.Frag} {H H' : Hp} (s : Same H H') {c : Addr} {g : List Nat} (h : HoldAt K H c g) : HoldAt K H' c g := by
  obtain ⟨h1, xs, h2, h3⟩ := h
  refine ⟨h1.mono s, xs, ?_, h3.mono s⟩
  rcases h2 with h2 | ⟨_, h2⟩
  · exact .inl (s _ _ h2)
  · exact .inr ⟨h2 _ s, fun H2 s2 => h2 _ (s.trans s2)⟩
theorem HoldAt.none {K : PySem.W.Frag} {H : Hp} {c : Addr} (h : ∀ H' : Hp, SqT K H' c []) : HoldAt K H c [] := ⟨.kon h rfl, [], .inr ⟨h H, fun H' _ => h H'⟩, .nil⟩
theorem HoldAt.two {K : PySem.W.Frag} {H : Hp} {c : Addr} {s t : Nat} (h : H c = some (.tup [.int (s : Int), .int (t : Int)])) : HoldAt K H c [s, t] := ⟨.tup h (.cons (.int _) (.cons (.int _) .nil)), _, .inr ⟨SqT.of h, fun H' s' => SqT.of (s' _ _ h)⟩, .cons (.int _) (.cons (.int _) .nil)⟩
theorem HoldAt.one {K : PySem.W.Frag} {H : Hp} {c : Addr} {t : Nat} (h : H c = some (.tup [.int (t : Int)])) : HoldAt K H c [t] := ⟨.tup h (.cons (.int _) .nil), _, .inr ⟨SqT.of h, fun H' s => SqT.of (s _ _ h)⟩, .cons (.int _) .nil⟩
section
variable {P : Program} {w : World} {K : PySem.W.Frag} {mg : Str → Option Value} {base : Heap} {f : Addr} {fd : FuncData}
/-- heaviest(web, needs, holding) -/
def spHv (K : PySem.W.Frag) (C : Addr) : Sp := fun vs H Q _ => ∃ (p a c : Addr) (n : Nat) (q : List Pr) (ns : List Int) (g : List Nat), vs = [.ref p, .ref a, .ref c] ∧ WebAt C H p (n : Int) q ∧ 2 ≤ n ∧ n ≤ 8 ∧ SqD H a (ns.map PyData.int) ∧ Amt n ns ∧ HoldAt K H c g ∧ TwoK q g ∧ (∀ x ∈ g, x < n) ∧ ∀ r, Hv n q ns (maskOf g) r → Ret (.int r) H Q
abbrev hvN : List Str := ["web", "needs", "holding", "told", "held", "fitting", "thing", "mask"]
theorem sc_hv : FnScope hvN ["web", "needs", "holding"] (defScope s_hv) := ⟨rfl, rfl, rfl, by decide +kernel, rfl, by decide +kernel, by decide +kernel⟩
theorem ok_hv {dvs : List V} {C CND CPt : Addr} (F : FunD K "heaviest" "heaviest" (defArgs s_hv) (defBody s_hv) (defScope s_hv) dvs [] f fd) (B : Blt3 mg) (T : WebC K C) (CKN : Df P w K mg base "check_needs" 3 ["many", "needs"] (spCkn CND)) (CS : Df P w K mg base "check_things" 4 ["many", "things"] (spCs K CPt)) (IK : Df P w K mg base "is_knot" 6 ["web", "things"] (spIk K C))
    (WH : Df P w K mg base "whole_mask" 1 ["many"] spWh) (WT : Df P w K mg base "weight" 1 ["needs", "things"] (spWt K)) (TI : Df P w K mg base "things_in" 1 ["mask"] spTi) (FM : Df P w K mg base "full_masks" 3 ["masks", "part"] spFm) : FnOk P w K mg base (L2.CX P w) 7 f fd ["web", "needs", "holding"] (spHv K C) := by
  refine F.ok sc_hv (fun vs H Q E h => ?_) (fun cdv A outer s H vs Q E hr h => ?_)
  · obtain ⟨p, a, c, n, q, ns, g, rfl, _⟩ := h
    rfl
  · obtain ⟨p, a, c, n, q, ns, g, rfl, W, n2, n8, ha, am, ho, g1, gn, k⟩ := h
    obtain ⟨⟨ddx, cc, m, l0, h1, h2, h3, h4, h5⟩, cl, n0, n16⟩ := id W
    have nd := sc_hv.nd
    have r1 : Room 1 _ := hr.mono (by decide)
    have r3 : Room 3 _ := hr.mono (by decide)
    have r4 : Room 4 _ := hr.mono (by decide)
    refine ⟨_, pss_cons (ps_set (i := 3) nd rfl (.inr rfl) (pe_df CKN r3 (by rfl) passUp (pa_cons (pe_fld (pv 0) rfl) (pa_cons (pv 1) pa_nil))))
      (pss_cons (ps_set (i := 4) nd rfl (.inl rfl) (pe_df CS r4 (by rfl) passUp (pa_cons (pe_fld (pv 0) rfl) (pa_cons (pv 2) pa_nil))))
      (pss_cons (ps_if (pt_not (pt_val (pe_df IK hr (by rfl) passUp (pa_cons (pv 0) (pa_cons (pv 4) pa_nil))))) (pss_one (ps_ret pe_non)) pss_nil)
      (pss_cons (ps_set (i := 5) nd rfl (.inl rfl) (pe_df WH r1 (by rfl) passUp (pa_cons (pe_fld (pv 0) rfl) pa_nil)))
      (pss_cons (ps_for (passes_of rfl) rfl (pi_tup (pv 4)) (pg_name (i := 6) nd rfl (.inl rfl))
        (pss_one (ps_set (i := 5) nd rfl (.inl rfl) (pe_op op_andB (pv 5) (pe_ix ix_tup (pe_fld (pv 0) rfl) (pv 6) (fun _ _ => rfl))))))
      (pss_one (ps_ret (pe_op op_add (pe_df WT r1 (by rfl) passUp (pa_cons (pv 3) (pa_cons (pv 4) pa_nil)))
        (pe_callB (cr_max rfl) (by rfl) B.max (by decide +kernel) (pa_cons (pe_lc (own := [("mask", 7)]) (g := gName 7) (tt := tYes) (te := tCall (spWt K) [] (fun _ _ _ => False) (tCons (tVar 3) (tCons (tCall spTi [] (fun _ _ _ => False) (tCons (tVar 7) tNil)) tNil))) rfl nd
          (pi_list (pe_df FM r3 (by rfl) passUp (pa_cons (pe_fld (pv 0) rfl) (pa_cons (pv 5) pa_nil)))) (blkOk_by (N := hvN) (sc := defScope s_hv) (by decide +kernel)) (fun _ _ _ _ _ => pg_name (i := 7) nd rfl (.inl rfl)) (fun _ _ _ _ _ => pts_nil)
          (fun _ _ _ _ _ => pe_df WT r1 (by rfl) passE0 (pa_cons (pv 3) (pa_cons (pe_df TI r1 (by rfl) passE0 (pa_cons (pv 7) pa_nil)) pa_nil)))) pa_nil))))))))), ?_⟩
    have n8' : (n : Int) ≤ 9 := by omega
    have fld0 : ∀ {H' : Hp}, Same H H' → H' p = some (.ins C ddx (wf n cc m)) := fun s' => s' _ _ h1
    refine ⟨_, rfl, p, C, ddx, _, _, rfl, h1, T.cl, T.nm, wf_many _ _ _, _, rfl, n, .ref a, rfl, n2, by omega, .inr ⟨a, ns.map PyData.int, rfl, ha, by rw [List.length_map, am.len]; omega, fun _ _ H1 told ns' t1 hT e1 _ => ?_, fun i bad => absurd bad (amt_nobad am i)⟩⟩
    have e1' : ns' = ns := (ints_inj e1).symm
    subst e1'
    obtain ⟨hsq, hxs⟩ := ho.mono t1
    have gdn : (asI g).Nodup := asI_nodup g1.nodup
    have gd : Good (n : Int) (asI g) := ⟨gdn, fun k hk => by
      obtain ⟨x, hx, rfl⟩ := List.mem_map.mp hk
      have := gn x hx
      omega⟩
    have fw : fwG n ((asI g).map PyData.int) [] = none := fwG_good gd
    refine ⟨_, rfl, p, C, ddx, _, _, rfl, fld0 t1, T.cl, T.nm, wf_many _ _ _, _, rfl, n, c, _, rfl, by omega, n8', hsq, fun _ => ⟨hxs, fun H2 held ms t2 nh hh srt mm => ?_⟩, fun i e => by rw [fw] at e; cases e⟩
    -- the held things in their order
    have rn : ∀ z ∈ ms, 0 ≤ z ∧ z < (n : Int) := fun z hz => gd.rng z (by simpa using (mm z).mp hz)
    obtain ⟨go, eo⟩ : ∃ go : List Nat, ms = asI go := ⟨ms.map Int.toNat, by
      unfold asI
      rw [List.map_map]
      refine (List.map_id ms).symm.trans (List.map_congr_left fun z hz => ?_)
      have := (rn z hz).1
      show z = ((z.toNat : Nat) : Int)
      rw [Int.toNat_of_nonneg this]⟩
    subst eo
    have mo : ∀ x : Nat, x ∈ go ↔ x ∈ g := fun x => by
      have h : (x : Int) ∈ asI go ↔ (x : Int) ∈ asI g := by rw [mm]; simp
      exact mem_asI.symm.trans (h.trans mem_asI)
    have ndo : go.Nodup := asI_nodup' (srt.imp (fun h => by omega))
    have go1 := g1.perm ndo mo
    have emask : maskOf go = maskOf g := Nat.eq_of_testBit_eq fun z => by
      rw [maskOf_bit go1, maskOf_bit g1]
      exact decide_eq_decide.mpr (mo z)
    rw [← emask] at k
    have gno : ∀ x ∈ go, x < n := fun x hx => gn x ((mo x).mp hx)
    have gdo : Good (n : Int) (asI go) := ⟨srt.imp (fun h => by omega), rn⟩
    have knOk : ∀ a ∈ asI go, ∀ b ∈ asI go, a < b → hasP q a.toNat b.toNat = true := fun a ha b hb lt => by
      obtain ⟨x, hx, rfl⟩ := List.mem_map.mp ha
      obtain ⟨y, hy, rfl⟩ := List.mem_map.mp hb
      exact go1.clq hx hy (by omega)
    have t12 := t1.trans t2
    have hsN : ∀ {H' : Hp}, Same H2 H' → SqT K H' held (nvs go) := fun s' => by
      have := (hh.mono s').sq (K := K)
      rw [asI_nvs] at this
      exact this
    refine ⟨_, rfl, _, rfl, p, held, n, q, _, rfl, W.mono t12, n8', hh, gdo, (by unfold asI; rw [List.length_map]; exact go1.len), knOk, fun H3 t3 => ⟨_, rfl, iteF ?_⟩⟩
    have t13 := t12.trans t3
    refine ⟨_, rfl, p, C, ddx, _, _, rfl, fld0 t13, T.cl, T.nm, wf_many _ _ _, n, rfl, by omega, fun H4 t4 => ?_⟩
    have t14 := t13.trans t4
    have nl : (mOf n q).length = n := mOf_len _ _
    have mk : ∀ {H' : Hp}, Same H H' → H' m = some (.tup (nvs (mOf n q))) := fun s' => by
      have := s' _ _ h5
      rw [Int.toNat_natCast] at this
      exact this
    let fit : Nat → Nat := fun i => (go.take i).foldl (fun f t => f &&& (mOf n q).getD t 0) (2 ^ n - 1)
    let Pv : Nat → L2.St → Hp → Prop := fun i σ H' => ∃ o6, σ = [some (.ref p), some (.ref a), some (.ref c), some (.ref told), some (.ref held), some (.int (fit i : Nat)), o6, none] ∧ Same H4 H'
    refine ⟨_, rfl, held, rfl, ⟨_, hsN (t3.trans t4)⟩, for_tup (K := K) (a := held) (xs := nvs go) Pv ⟨none, rfl, .refl _⟩ (fun i σ H' _ h => ?_) (fun i v σ H5 hi h => ?_) (fun σ H5 h => ?_)⟩
    · obtain ⟨_, _, t5⟩ := h
      exact hsN ((t3.trans t4).trans t5)
    · obtain ⟨o6, rfl, t5⟩ := h
      obtain ⟨x, hx, rfl⟩ := nvs_get hi
      have xn := gno x (List.mem_of_getElem? hx)
      have t15 := t14.trans t5
      refine ⟨_, rfl, _, rfl, p, C, ddx, _, _, rfl, fld0 t15, T.cl, T.nk, wf_masks _ _ _, _, rfl, m, _, _, _, rfl, rfl, SqT.of (mk t15), nvs_at (by rw [nl]; exact xn), _, _, rfl, rfl, ?_⟩
      refine ⟨some (.int (x : Int)), ?_, t5⟩
      have : fit (i + 1) = fit i &&& (mOf n q).getD x 0 := by
        show (go.take (i + 1)).foldl _ _ = _
        rw [take_at hx, List.foldl_append]
        rfl
      rw [this]
      rfl
    · obtain ⟨o6, rfl, t5⟩ := h
      have t15 := t14.trans t5
      have ef : fit (nvs go).length = partOf n q go := by
        show (go.take (nvs go).length).foldl _ _ = _
        rw [nvs_len, List.take_length]
        rcases go1 with e | ⟨x, e⟩ | ⟨x, y, e, _⟩ <;> subst e <;> rfl
      rw [ef]
      have told5 : ∀ {H' : Hp}, Same H5 H' → TupI H' told ns' := fun s' => ((((hT.mono t2).mono t3).mono t4).mono t5).mono s'
      refine ⟨_, rfl, _, rfl, told, held, n, ns', go, rfl, told5 (.refl _), am, (by have := go1.len; omega), gno, fun H' s' => hsN (((t3.trans t4).trans t5).trans s'), fun H6 t6 => ?_⟩
      have t16 := t15.trans t6
      have pn : ∀ x, (partOf n q go).testBit x = true → x < n := fun x hx => ((partOf_bit cl go1 x).mp hx).1
      refine ⟨_, rfl, p, C, ddx, _, _, rfl, fld0 t16, T.cl, T.nk, wf_masks _ _ _, _, rfl, m, n, q, partOf n q go, rfl, n8, cl, mk t16, pn, fun H7 b found t7 nb hb fu fl => ?_⟩
      refine ⟨b, rfl, ⟨_, SqL.of hb⟩, fun D nD => ?_⟩
      have fs : ∀ x ∈ found, ∀ y, x.testBit y = true → y < n := fun x hx y hy => pn y ((fu.fo x hx).2 y hy)
      refine lc_it (walk_list (K := K) (a := b) (xs := nvs found)) (fun i H' => Same H7 H' ∧ H' D = some (.lst ((found.take i).map fun x => V.int (wM n ns' x)))) ⟨same_upd nD, upd_same⟩ (fun i H' _ z => SqL.of (z.1 _ _ hb)) (fun i x H' H8 hi z y => ?_) (fun H' z => ?_)
      · obtain ⟨rfl, hv⟩ := y
        obtain ⟨sm, hD⟩ := z
        obtain ⟨x, hx, rfl⟩ := nvs_get hv
        have xf := fs x (List.mem_of_getElem? hx)
        have b8 : bitsN x ≤ 8 := bits_small (small8 fun y hy => by have := xf y hy; omega)
        have ex : (List.range (bitsN x)).filter x.testBit = bitsOf n x := bitsOf_eq fun j hj => by
          cases e : x.testBit j with
          | false => rfl
          | true => exact absurd (xf j e) (by omega)
        have lb : (bitsOf n x).length ≤ n := cnt_le
        refine ⟨rfl, _, rfl, _, rfl, x, rfl, by omega, fun H9 t s9 nt ht => ?_⟩
        rw [ex] at ht
        refine ⟨told, t, n, ns', bitsOf n x, rfl, told5 ((t6.trans t7).trans (sm.trans s9)), am, by omega, fun y hy => List.mem_range.mp (List.mem_filter.mp hy).1, fun H' s' => SqT.of (s' _ _ ht), fun H10 s10 => ?_⟩
        have s78 := sm.trans (s9.trans s10)
        refine ⟨_, s10 _ _ (s9 _ _ hD), ?_, fun b2 o e => ?_, ?_⟩
        · rw [List.length_map, List.length_take, sizeLine_eq]
          omega
        · rw [upd_ne (ne_of_none e nD)]
          exact s78 b2 o e
        · rw [upd_same, take_at hx, List.map_append, wsum_bits]
          rfl
      · obtain ⟨sm, hD⟩ := z
        rw [nvs_len, List.take_length] at hD
        have fne : 0 < found.length := by
          obtain ⟨m', hm', _⟩ := fu.all 0 (fun x y hx => by rw [Nat.zero_testBit] at hx; cases hx) fun x hx => by rw [Nat.zero_testBit] at hx; cases hx
          exact List.length_pos_of_mem hm'
        refine ⟨D, found.map (wM n ns'), rfl, SqL.of (by rw [List.map_map]; exact hD), by rw [List.length_map]; exact fne, fun r hr top => ?_⟩
        exact ⟨_, _, rfl, rfl, k _ (hv_of cl am go1 gno fu hr top) H' (t16.trans (t7.trans sm))⟩
end
end K0
set_option Elab.async false
set_option linter.all false
set_option maxRecDepth 100000
set_option maxHeartbeats 4000000
/-! zip of two tuples -/
namespace ZT
open PySem PySem.Spec PyProof.Rows L2
section
variable {pr : Program} {wo : World} {Ar : Around} {Ex : Value → Shared → Prop} {st : Shared}
/-- where the zip stands: z with its pair of iterators I, its pair of what was handed out O, the iterators p over the tuple at a, q over the list at b -/
structure At (h : Heap) (z I O p q a b : Addr) (i j : Nat) : Prop where
  z : IsZip h z I O .none
  I : PySem.IsPair h I (.ref p) (.ref q)
  O : ∃ u v, PySem.IsPair h O u v
  p : h.IsTupleIter p a i
  q : h.IsTupleIter q b j
/-- all but these four stay -/
def Off (z O p q : Addr) (h h' : Heap) : Prop := ∀ c o, c ≠ z → c ≠ O → c ≠ p → c ≠ q → h.get? c = some o → h'.get? c = some o
theorem go {z I O p q a b : Addr} {i j : Nat} {xs ys : Array Value} {x y : Value} {G : Value → Shared → Prop} (D : ZipApart z I O p q a b) (W : At st.heap z I O p q a b i j) (ta : st.heap.IsTuple a xs) (lb : st.heap.IsTuple b ys) (ex : xs[i]? = some x) (ey : ys[j]? = some y)
    (k : ∀ h', IsZip h' z I O (rawInt st.heap.objs.size) → PySem.IsPair h' O x y → h'.IsTupleIter p a (i + 1) → h'.IsTupleIter q b (j + 1) → PySem.IsPair h' st.heap.objs.size x y → h'.objs.size = st.heap.objs.size + 1 → Off z O p q st.heap h' → G (.ref st.heap.objs.size) { st with heap := h' }) :
    wpAny (model pr wo) Ar (Builtin.«zip.__next__» ⟨[.ref z], []⟩) (fun fin s' => ∃ v, fin = .done (.ret v) ∧ G v s') Ex st := by
  obtain ⟨kz, kI, ⟨u, v, kO⟩, kp, kq⟩ := W
  show wpAny _ _ (field (.ref z) 2 >>= _) _ _ _; refine wpAny_bind (wpAny_field kz rfl (x := .bool false) rfl ?_)
  show wpAny _ _ (field (.ref z) 3 >>= _) _ _ _; refine wpAny_bind (wpAny_field kz rfl (x := .ref I) rfl (wpAny_bind (wpAny_seqItems kI rfl ?_)))
  show wpAny _ _ (Builtin.SmallTypes.ownedTupleIsFree (.ref z) >>= _) _ _ _; refine wpAny_bind ?_; unfold Builtin.SmallTypes.ownedTupleIsFree
  refine wpAny_bind (wpAny_field kz rfl (x := .none) rfl (wpAny_pure ?_)); simp only [if_true]
  refine wpAny_bind (wpAny_rule (wpAny_bind (wpAny_field kz rfl (x := .ref O) rfl (wpAny_bind (wpAny_setField_rec kz (by simp) fun g1 z1 e1 => ?_)))))
  replace z1 : IsZip g1 z I O .ellipsis := z1
  refine wpAny_bind ?_; simp only [List.zipIdx_cons, List.zipIdx_nil, List.forIn_cons, List.forIn_nil]
  refine wpAny_bind (wpAny_bind (wpAny_onRaise ?_)); show wpAny _ _ (Builtin.SmallTypes.nextOf (.ref p) >>= _) _ _ _
  refine wpAny_bind (RZ.nextOf_tuple_item (kp.extBut e1.extBut D.i1z) (ta.extBut e1.extBut D.l1z) ex fun g2 p2 e2 => wpAny_pure ?_)
  have O2 : PySem.IsPair g2 O u v := e2.extBut _ _ D.TOi1 (e1.extBut _ _ D.TOz kO)
  refine wpAny_bind (wpAny_seqItems O2 rfl (wpAny_bind (wpAny_updateSeq_pair O2 fun g3 O3 e3 => ?_)))
  replace O3 : PySem.IsPair g3 O x v := O3
  refine wpAny_bind (wpAny_letGo (wpAny_pure (wpAny_bind (wpAny_bind (wpAny_onRaise ?_))))); show wpAny _ _ (Builtin.SmallTypes.nextOf (.ref q) >>= _) _ _ _
  refine wpAny_bind (RZ.nextOf_tuple_item (((kq.extBut e1.extBut D.i2z).extBut e2.extBut D.i12.symm).extBut e3.extBut D.TOi2.symm) (((lb.extBut e1.extBut D.l2z).extBut e2.extBut D.l2i1).extBut e3.extBut D.l2TO) ey fun g4 q4 e4 => wpAny_pure ?_)
  have O4 : PySem.IsPair g4 O x v := e4.extBut _ _ D.TOi2 O3
  refine wpAny_bind (wpAny_seqItems O4 rfl (wpAny_bind (wpAny_updateSeq_pair O4 fun g5 O5 e5 => ?_)))
  replace O5 : PySem.IsPair g5 O x y := O5
  refine wpAny_bind (wpAny_letGo (wpAny_pure (wpAny_pure (wpAny_bind (wpAny_seqItems O5 rfl (wpAny_bind (wpAny_newTuple ?_)))))))
  have sz : g5.objs.size = st.heap.objs.size := by rw [e5.1, e4.1, e3.1, e2.1, e1.1]
  have z5 : IsZip g5 z I O .ellipsis := e5.extBut _ _ D.TOz.symm (e4.extBut _ _ D.i2z.symm (e3.extBut _ _ D.TOz.symm (e2.extBut _ _ D.i1z.symm z1)))
  have off : Off z O p q st.heap g5 := fun c o n1 n2 n3 n4 e => e5.extBut _ _ n2 (e4.extBut _ _ n4 (e3.extBut _ _ n2 (e2.extBut _ _ n3 (e1.extBut _ _ n1 e))))
  have p5 : g5.IsTupleIter p a (i + 1) := ((p2.extBut e3.extBut D.TOi1.symm).extBut e4.extBut D.i12).extBut e5.extBut D.TOi1.symm
  have q5 : g5.IsTupleIter q b (j + 1) := q4.extBut e5.extBut D.TOi2.symm
  have lz : z < g5.objs.size := Heap.lt_size z5
  show wpAny _ _ (Builtin.SmallTypes.ownedTupleHandOut (.ref z) (.ref g5.objs.size) >>= _) _ _ _; refine wpAny_bind ?_; unfold Builtin.SmallTypes.ownedTupleHandOut
  have z6 : IsZip (g5.push { cls := .type "tuple", data := .seq #[x, y] }) z I O .ellipsis := Heap.get?_push_of_some _ z5
  refine wpAny_bind (wpAny_setField_rec z6 (by simp) fun g7 z7 e7 => ?_)
  replace z7 : IsZip g7 z I O (rawInt g5.objs.size) := z7
  refine wpAny_setField_rec z7 (by simp) fun g8 z8 e8 => ?_
  replace z8 : IsZip g8 z I O (rawInt g5.objs.size) := z8
  have rise : ∀ c o, c ≠ z → g5.get? c = some o → g8.get? c = some o := fun c o n e => e8.extBut _ _ n (e7.extBut _ _ n (Heap.get?_push_of_some _ e))
  have T8 : PySem.IsPair g8 g5.objs.size x y := e8.extBut _ _ (Nat.ne_of_gt lz) (e7.extBut _ _ (Nat.ne_of_gt lz) (Heap.get?_push_size _ rfl))
  have s8 : g8.objs.size = g5.objs.size + 1 := by rw [e8.1, e7.1, Heap.size_push]
  rw [sz] at z8 T8 s8
  refine wpAny_pure ⟨_, rfl, ?_⟩; show G (.ref g5.objs.size) _; rw [sz]
  exact k g8 z8 (rise _ _ D.TOz O5) (p5.at fun o e => rise _ o D.i1z e) (q5.at fun o e => rise _ o D.i2z e) T8 s8 fun c o n1 n2 n3 n4 e => rise c o n1 (off c o n1 n2 n3 n4 e)
theorem stop {z I O p q a b : Addr} {i j : Nat} {xs ys : Array Value} {G : PySem.Fin → Shared → Prop} (nh : Ar.handled = none) (D : ZipApart z I O p q a b) (W : At st.heap z I O p q a b i j) (ta : st.heap.IsTuple a xs) (lb : st.heap.IsTuple b ys) (en : xs[i]? = none ∨ ys[j]? = none)
    (k : ∀ h' e, Off z O p q st.heap h' → (∃ o, h'.get? e = some o ∧ o.cls = .type "StopIteration") → Ex (.ref e) { st with heap := h' }) : wpAny (model pr wo) Ar (Builtin.«zip.__next__» ⟨[.ref z], []⟩) G Ex st := by
  obtain ⟨kz, kI, ⟨u, v, kO⟩, kp, kq⟩ := W
  show wpAny _ _ (field (.ref z) 2 >>= _) _ _ _; refine wpAny_bind (wpAny_field kz rfl (x := .bool false) rfl ?_)
  show wpAny _ _ (field (.ref z) 3 >>= _) _ _ _; refine wpAny_bind (wpAny_field kz rfl (x := .ref I) rfl (wpAny_bind (wpAny_seqItems kI rfl ?_)))
  show wpAny _ _ (Builtin.SmallTypes.ownedTupleIsFree (.ref z) >>= _) _ _ _; refine wpAny_bind ?_; unfold Builtin.SmallTypes.ownedTupleIsFree
  refine wpAny_bind (wpAny_field kz rfl (x := .none) rfl (wpAny_pure ?_)); simp only [if_true]
  refine wpAny_bind (wpAny_rule (wpAny_bind (wpAny_field kz rfl (x := .ref O) rfl (wpAny_bind (wpAny_setField_rec kz (by simp) fun g1 z1 e1 => ?_)))))
  replace z1 : IsZip g1 z I O .ellipsis := z1
  refine wpAny_bind ?_; simp only [List.zipIdx_cons, List.zipIdx_nil, List.forIn_cons, List.forIn_nil]
  refine wpAny_bind (wpAny_bind (wpAny_onRaise ?_)); show wpAny _ _ (Builtin.SmallTypes.nextOf (.ref p) >>= _) _ _ _
  cases ex : xs[i]? with
  | none =>
    refine wpAny_bind (RZ.nextOf_tuple_end nh (kp.extBut e1.extBut D.i1z) (ta.extBut e1.extBut D.l1z) ex fun g2 e e2 ⟨oe, he, ce⟩ => ?_)
    have z2 : IsZip g2 z I O .ellipsis := e2 _ _ D.i1z.symm z1
    have ne : e ≠ z := fun t => by subst t; rw [z2] at he; cases he; simp at ce
    exact wpAny_setField_rec z2 (by simp) fun g3 _ e3 => k g3 e (fun c o n1 _ n3 _ t => e3.extBut _ _ n1 (e2 _ _ n3 (e1.extBut _ _ n1 t))) ⟨oe, e3.extBut _ _ ne he, ce⟩
  | some x =>
    have ey : ys[j]? = none := en.elim (fun t => by rw [ex] at t; cases t) fun t => t
    refine wpAny_bind (RZ.nextOf_tuple_item (kp.extBut e1.extBut D.i1z) (ta.extBut e1.extBut D.l1z) ex fun g2 p2 e2 => wpAny_pure ?_)
    have O2 : PySem.IsPair g2 O u v := e2.extBut _ _ D.TOi1 (e1.extBut _ _ D.TOz kO)
    refine wpAny_bind (wpAny_seqItems O2 rfl (wpAny_bind (wpAny_updateSeq_pair O2 fun g3 O3 e3 => ?_)))
    refine wpAny_bind (wpAny_letGo (wpAny_pure (wpAny_bind (wpAny_bind (wpAny_onRaise ?_))))); show wpAny _ _ (Builtin.SmallTypes.nextOf (.ref q) >>= _) _ _ _
    refine wpAny_bind (RZ.nextOf_tuple_end nh (((kq.extBut e1.extBut D.i2z).extBut e2.extBut D.i12.symm).extBut e3.extBut D.TOi2.symm) (((lb.extBut e1.extBut D.l2z).extBut e2.extBut D.l2i1).extBut e3.extBut D.l2TO) ey fun g4 e e4 ⟨oe, he, ce⟩ => ?_)
    have z4 : IsZip g4 z I O .ellipsis := e4 _ _ D.i2z.symm (e3.extBut _ _ D.TOz.symm (e2.extBut _ _ D.i1z.symm z1))
    have ne : e ≠ z := fun t => by subst t; rw [z4] at he; cases he; simp at ce
    exact wpAny_setField_rec z4 (by simp) fun g5 _ e5 => k g5 e (fun c o n1 n2 n3 n4 t => e5.extBut _ _ n1 (e4 _ _ n4 (e3.extBut _ _ n2 (e2.extBut _ _ n3 (e1.extBut _ _ n1 t))))) ⟨oe, e5.extBut _ _ ne he, ce⟩
theorem nextGo {z I O p q a b : Addr} {i j : Nat} {xs ys : Array Value} {x y : Value} {G : Option Value → Shared → Prop} (D : ZipApart z I O p q a b) (W : At st.heap z I O p q a b i j) (ta : st.heap.IsTuple a xs) (lb : st.heap.IsTuple b ys) (ex : xs[i]? = some x) (ey : ys[j]? = some y)
    (k : ∀ h', IsZip h' z I O (rawInt st.heap.objs.size) → PySem.IsPair h' O x y → h'.IsTupleIter p a (i + 1) → h'.IsTupleIter q b (j + 1) → PySem.IsPair h' st.heap.objs.size x y → h'.objs.size = st.heap.objs.size + 1 → Off z O p q st.heap h' → G (some (.ref st.heap.objs.size)) { st with heap := h' }) : wpAny (model pr wo) Ar (pyNext (.ref z)) G Ex st := by
  have ty : st.TypeIs (.ref z) "zip" := ⟨_, W.z, rfl⟩
  unfold pyNext
  exact wpAny_bind (wpAny_attempt (wpAny_callSpecial?_slot (name := Str.ofString "__next__") ty F.slot_zip_next (wpAny_call_entry F.slot_zip_next ty F.entry_zip_next (go D W ta lb ex ey fun h' k1 k2 k3 k4 k5 k6 k7 => wpAny_pure (k h' k1 k2 k3 k4 k5 k6 k7)) (F.args_zip_next_1 _))))
theorem nextStop {z I O p q a b : Addr} {i j : Nat} {xs ys : Array Value} {G : Option Value → Shared → Prop} (nh : Ar.handled = none) (D : ZipApart z I O p q a b) (W : At st.heap z I O p q a b i j) (ta : st.heap.IsTuple a xs) (lb : st.heap.IsTuple b ys) (en : xs[i]? = none ∨ ys[j]? = none)
    (k : ∀ h', Off z O p q st.heap h' → G none { st with heap := h' }) : wpAny (model pr wo) Ar (pyNext (.ref z)) G Ex st := by
  have ty : st.TypeIs (.ref z) "zip" := ⟨_, W.z, rfl⟩
  unfold pyNext
  refine wpAny_bind (wpAny_attempt (wpAny_callSpecial?_slot (name := Str.ofString "__next__") ty F.slot_zip_next (wpAny_call_entry F.slot_zip_next ty F.entry_zip_next (stop nh D W ta lb en fun h' e o ⟨oe, he, ce⟩ => ?_) (F.args_zip_next_1 _))))
  exact wpAny_bind (wpAny_isInstance (T := "StopIteration") (b := true) ⟨oe, he, ce⟩ isSubtype_stop (wpAny_pure (k _ o)))
end
def m1 (h : Heap) (a : Addr) : Heap := h.push { cls := .type "tuple_iterator", data := .fields #[.ref a, .int 0 0] }
def m2 (h : Heap) (a b : Addr) : Heap := (m1 h a).push { cls := .type "tuple_iterator", data := .fields #[.ref b, .int 0 0] }
def m3 (h : Heap) (a b : Addr) : Heap := (m2 h a b).push { cls := .type "tuple", data := .seq #[.ref h.objs.size, .ref (m1 h a).objs.size] }
def m4 (h : Heap) (a b : Addr) : Heap := (m3 h a b).push { cls := .type "tuple", data := .seq #[.none, .none] }
def m5 (h : Heap) (a b : Addr) : Heap := (m4 h a b).push { cls := .type "zip", data := .fields #[.none, .bool false, .bool false, .ref (m2 h a b).objs.size, .ref (m3 h a b).objs.size] }
theorem made (a b : Addr) (xs ys : Array Value) : Meets (Builtin.«zip.__new__» ⟨[.type "zip", .ref a, .ref b], []⟩) (fun _ R s => s.heap.IsTuple a xs ∧ s.heap.IsTuple b ys ∧ R (.ok (.ret (.ref (m4 s.heap a b).objs.size))) { s with heap := m5 s.heap a b }) :=
  .of_wp fun pr wo Ar R s k => by
    obtain ⟨hp, g, d, tk, os⟩ := s
    obtain ⟨ta, lb, k⟩ := k
    have hsub := sub_zip
    have t1 : Heap.IsTuple (Shared.heap ⟨hp, g, d, tk, os⟩) a xs := ta
    have t2 : Heap.IsTuple (Shared.heap ⟨hp.push { cls := .type "tuple_iterator", data := .fields #[.ref a, .int 0 0] }, g, d, tk, os⟩) b ys := ZR.Sq2.push (tp := true) lb _
    wp_walk using wpAny_pyIter_tuple t1, wpAny_pyIter_tuple t2
    exact ⟨_, rfl, k⟩
theorem calls {pr : Program} {wo : World} {Ar : Around} {Ex : Value → Shared → Prop} {st : Shared} {a b : Addr} {xs ys : Array Value} {G : Value → Shared → Prop} (ta : st.heap.IsTuple a xs) (lb : st.heap.IsTuple b ys)
    (k : ∀ h', At h' (st.heap.objs.size + 4) (st.heap.objs.size + 2) (st.heap.objs.size + 3) st.heap.objs.size (st.heap.objs.size + 1) a b 0 0 → (∀ c o, st.heap.get? c = some o → h'.get? c = some o) → G (.ref (st.heap.objs.size + 4)) { st with heap := h' }) : wpAny (model pr wo) Ar (call (.type "zip") [.ref a, .ref b]) G Ex st := by
  refine callType_new F.called_zip (by decide) (F.typeCall_zip_2 _ _) (F.newCall_zip_2 _ _) (fun obj => F.args_object_init_3 obj _ _) F.entry_zip_new (made a b xs ys) ⟨ta, lb, ?_⟩
  have n1 : (m1 st.heap a).objs.size = st.heap.objs.size + 1 := Heap.size_push ..
  have n2 : (m2 st.heap a b).objs.size = st.heap.objs.size + 2 := by unfold m2; rw [Heap.size_push, n1]
  have n3 : (m3 st.heap a b).objs.size = st.heap.objs.size + 3 := by unfold m3; rw [Heap.size_push, n2]
  have n4 : (m4 st.heap a b).objs.size = st.heap.objs.size + 4 := by unfold m4; rw [Heap.size_push, n3]
  have u5 : (m5 st.heap a b).get? (m4 st.heap a b).objs.size = some _ := Heap.get?_push_size _ rfl
  have u4 : (m5 st.heap a b).get? (m3 st.heap a b).objs.size = some _ := Heap.get?_push_of_some _ (Heap.get?_push_size _ rfl)
  have u3 : (m5 st.heap a b).get? (m2 st.heap a b).objs.size = some _ := Heap.get?_push_of_some _ (Heap.get?_push_of_some _ (Heap.get?_push_size _ rfl))
  have u2 : (m5 st.heap a b).get? (m1 st.heap a).objs.size = some _ := Heap.get?_push_of_some _ (Heap.get?_push_of_some _ (Heap.get?_push_of_some _ (Heap.get?_push_size _ rfl)))
  have u1 : (m5 st.heap a b).get? st.heap.objs.size = some _ := Heap.get?_push_of_some _ (Heap.get?_push_of_some _ (Heap.get?_push_of_some _ (Heap.get?_push_of_some _ (Heap.get?_push_size _ rfl))))
  show _ ∧ _
  rw [n2, n3, n4] at u5
  rw [n1, n2] at u3
  rw [n3] at u4
  rw [n1] at u2
  rw [n4]
  exact ⟨⟨_, u5, rfl⟩, k _ ⟨u5, u3, ⟨_, _, u4⟩, ⟨_, u1, rfl, rfl⟩, ⟨_, u2, rfl, rfl⟩⟩ fun c o t => Heap.get?_push_of_some _ (Heap.get?_push_of_some _ (Heap.get?_push_of_some _ (Heap.get?_push_of_some _ (Heap.get?_push_of_some _ t))))⟩
/-- the tuple at a and the list at b as they stand at each turn, the items in new pairs -/
def ItM (K : PySem.W.Frag) (a b : Addr) : It :=
  ⟨fun i H => ∃ (xs ys : List V) (x y : V), SqT K H a xs ∧ SqT K H b ys ∧ xs[i]? = some x ∧ ys[i]? = some y, fun i H v H' => ∃ t x y, v = .ref t ∧ H t = none ∧ H' = upd H t (.tup [x, y]) ∧ (∀ xs, SqT K H a xs → xs[i]? = some x) ∧ ∀ ys, SqT K H b ys → ys[i]? = some y,
    fun i H => ∃ xs ys : List V, SqT K H a xs ∧ SqT K H b ys ∧ (xs.length ≤ i ∨ ys.length ≤ i)⟩
theorem five {z I O p q c : Addr} (h : c ∈ [z, I, O, p, q]) : c = z ∨ c = I ∨ c = O ∨ c = p ∨ c = q := by simpa using h
theorem turn {P : Program} {w : World} {K : PySem.W.Frag} {elts : List Expr} {kk : Nat} {tpos : Pos} {a b z I O p q : Addr} (D : ZipApart z I O p q a b) : Turn P w K (.Tuple elts kk tpos) (ItM K a b) [z, I, O, p, q] z (fun i h => At h z I O p q a b i i) where
  mem := by simp
  obj := fun i h W c hc => by
    obtain ⟨kz, kI, ⟨u, v, kO⟩, ⟨o1, e1, _, d1⟩, ⟨o2, e2, _, d2⟩⟩ := W
    rcases five hc with rfl | rfl | rfl | rfl | rfl
    · exact ⟨_, kz, fun v t => nomatch t⟩
    · exact ⟨_, kI, fun v t => nomatch t⟩
    · exact ⟨_, kO, fun v t => nomatch t⟩
    · exact ⟨o1, e1, fun v t => by rw [d1] at t; cases t⟩
    · exact ⟨o2, e2, fun v t => by rw [d2] at t; cases t⟩
  keep := fun i h h' W k => by
    obtain ⟨kz, kI, ⟨u, v, kO⟩, kp, kq⟩ := W
    exact ⟨k z (by simp) _ kz, k I (by simp) _ kI, ⟨u, v, k O (by simp) _ kO⟩, kp.at fun o t => k p (by simp) o t, kq.at fun o t => k q (by simp) o t⟩
  item := by
    intro X hP hw hK hc i pins s σ H E In hf W hg
    subst hP hw hK
    obtain ⟨xs, ys, x, y, qx, qy, ex, ey⟩ := hg
    obtain ⟨its, rv, ta, _⟩ := In.tuple qx
    obtain ⟨jts, rw', lb, _⟩ := In.tuple qy
    obtain ⟨u, hu, ru⟩ := rv.get ex
    obtain ⟨v, hv, rv'⟩ := rw'.get ey
    have lz : z < s.heap.objs.size := Heap.lt_size W.z
    have kI := W.I
    have lim : ∀ {c : Addr}, c ∈ [z, I, O, p, q] → c < s.heap.objs.size := fun {c} hm => by
      obtain ⟨_, _, ⟨_, _, kO⟩, ⟨_, e1, _⟩, ⟨_, e2, _⟩⟩ := id W
      rcases five hm with rfl | rfl | rfl | rfl | rfl
      · exact lz
      · exact Heap.lt_size kI
      · exact Heap.lt_size kO
      · exact Heap.lt_size e1
      · exact Heap.lt_size e2
    refine nextGo D W ta lb (x := u) (y := v) (by simpa using hu) (by simpa using hv) fun h' zz OO pp qq TT sz off => ?_
    refine ⟨_, rfl, wpAny_letOwnedTupleGo_zip (s := { s with heap := h' }) zz fun h2 z2 sb => ?_⟩
    have T2 : h2.get? s.heap.objs.size = some { cls := .type "tuple", data := .seq #[u, v] } := (sb.2 _ (Nat.ne_of_gt lz)).trans TT
    have new : ObjOk X.prog X.w (upd H s.heap.objs.size (.tup [x, y])) h2 s.heap.objs.size (.tup [x, y]) := ⟨by show 2 ≤ sizeLine; decide, [u, v], .cons ru (.cons rv' .nil), ⟨_, T2, rfl, _, rfl⟩⟩
    have stays : ∀ c o, c ∉ [z, I, O, p, q] → s.heap.get? c = some o → h2.get? c = some o := fun c o hb t => (sb.2 c fun e => hb (by simp [e])).trans (off c o (fun e => hb (by simp [e])) (fun e => hb (by simp [e])) (fun e => hb (by simp [e])) (fun e => hb (by simp [e])) t)
    have I1 : Inv X pins σ (upd H s.heap.objs.size (.tup [x, y])) { s with heap := h2 } := In.turnedNew (t' := s.toks) (ch := [z, I, O, p, q]) stays hf (Nat.le_refl _) new
    refine ⟨.ref s.heap.objs.size, _, I1, rfl, ⟨_, x, y, rfl, In.hok.fresh (Nat.le_refl _), rfl, fun l hl => by rw [In.tuple_inj hl qx]; exact ex, fun l hl => by rw [In.tuple_inj hl qy]; exact ey⟩, ⟨z2, (sb.2 _ D.TIz).trans (off _ _ D.TIz D.TITO D.TIi1 D.TIi2 kI), ⟨u, v, (sb.2 _ D.TOz).trans OO⟩, pp.at fun o t => (sb.2 _ D.i1z).trans t, qq.at fun o t => (sb.2 _ D.i2z).trans t⟩, fun c hm => ?_⟩
    rw [upd_ne (Nat.ne_of_lt (lim hm))]
    exact (hf c hm).1
  done := by
    intro X hP hw hK hc i pins s σ H E In hf W hg
    subst hP hw hK
    obtain ⟨xs, ys, qx, qy, en⟩ := hg
    obtain ⟨its, rv, ta, _⟩ := In.tuple qx
    obtain ⟨jts, rw', lb, _⟩ := In.tuple qy
    have l1 := rv.length
    have l2 := rw'.length
    refine nextStop (In.ok.hd hc) D W ta lb (en.elim (fun t => .inl (by simp; omega)) fun t => .inr (by simp; omega)) fun h' off => ⟨rfl, In.turnedL (t' := s.toks) (ch := [z, I, O, p, q]) (fun c o hb t => off c o (fun e => hb (by simp [e])) (fun e => hb (by simp [e])) (fun e => hb (by simp [e])) (fun e => hb (by simp [e])) t) hf⟩
  self := fun A i s Q E W h => wpAny_pyIter_zip W.z h
/-- zip of two tuples -/
def iZipT (K : PySem.W.Frag) (ta : TA) : TI := fun σ H R => ta σ H fun vs H1 => ∃ a b xs ys, vs = [.ref a, .ref b] ∧ SqT K H1 b ys ∧ SqT K H1 a xs ∧ R (ItM K a b) H1
theorem pi_zipT {X : Cx} {e e2 : Expr} {ta : TA} {p pos tpos : Pos} {elts : List Expr} {kk : Nat} (hg : Gl X "zip") (hm : X.mg "zip" = none) (ha : PA X [e, e2] ta) (hs : starEach [e, e2] X.env = (false, eval e X.env) :: starEach [e2] X.env := by rfl)
    (hpl : (backTo pos (starEach [e2] X.env)).any (·.1) = false := by rfl) : PI X (.Tuple elts kk tpos) (.Call (.Name "zip" p) [e, e2] [] pos) (iZipT X.K ta) := by
  refine ⟨fun pins s σ H R In h => ?_⟩
  refine Call_ (ld_blt In hg hm PyProof.Rows.boot_zip (PyProof.Rows.callWith_type1 (thn (ha.run pos pins s σ H _ In h) fun us s1 ⟨vs, H1, I1, r1, a, b, xs, ys, ev, qb, qa, q⟩ => ?_) hs hpl))
  subst ev
  cases r1 with
  | cons r rr =>
    cases rr with
    | cons r' rr =>
      cases rr
      cases r
      cases r'
      have new5 : ∀ c, c ∈ [s1.heap.objs.size + 4, s1.heap.objs.size + 2, s1.heap.objs.size + 3, s1.heap.objs.size, s1.heap.objs.size + 1] → FpOk X pins H1 c := fun c hm => by
        have hle : s1.heap.objs.size ≤ c := by
          rcases five hm with t | t | t | t | t <;> (rw [t]; first | exact Nat.le_add_right _ _ | exact Nat.le_refl _)
        exact I1.fpOk hle (I1.hok.fresh hle)
      obtain ⟨jts, rw', lb, _⟩ := I1.tuple qb
      obtain ⟨its, rv, ta', _⟩ := I1.tuple qa
      obtain ⟨o1, ho1, _⟩ := id ta'
      obtain ⟨o2, ho2, _⟩ := id lb
      refine calls (show s1.heap.IsTuple a its.toArray from ta') (show s1.heap.IsTuple b jts.toArray from lb) fun h' W hk => wpAny_pyIter_zip W.z ?_
      exact ⟨s1.heap.objs.size + 4, [s1.heap.objs.size + 4, s1.heap.objs.size + 2, s1.heap.objs.size + 3, s1.heap.objs.size, s1.heap.objs.size + 1], _, _, H1, rfl, I1.kept (t' := s1.toks) hk, turn (PySem.W.ktu_apart s1.heap.objs.size a b (Heap.lt_size ho1) (Heap.lt_size ho2)), W, new5, q⟩
section
variable {K : PySem.W.Frag} {a b : Addr} {xs ys : List V}
theorem walk_zT (hl : xs.length = ys.length) : Walk (ItM K a b) xs.length (fun H => SqT K H a xs ∧ SqT K H b ys) (YPair (xs[·]?) (ys[·]?)) :=
  ⟨fun i _ hi q => ⟨xs, ys, xs[i], ys[i]'(by omega), q.1, q.2, by simp [hi], by rw [List.getElem?_eq_getElem (by omega)]⟩, fun _ q => ⟨xs, ys, q.1, q.2, .inl (Nat.le_refl _)⟩, fun _ _ _ _ _ q ⟨t, x, y, e, n, eh, hx, hy⟩ => ⟨t, x, y, e, n, eh, hx _ q.1, hy _ q.2⟩⟩
end
end ZT
set_option Elab.async false
set_option linter.all false
set_option maxRecDepth 100000
set_option maxHeartbeats 4000000
namespace K0
open PySem PySem.Spec PyProof.Rows L2
abbrev s_sn : Stmt := top 31
abbrev s_rd : Stmt := top 33
abbrev s_rh : Stmt := top 34
def addI (ns ms : List Int) : List Int := List.zipWith (· + ·) ns ms
theorem Amt.add {n : Nat} {ns ms : List Int} (a : Amt n ns) (b : Amt n ms) : Amt n (addI ns ms) := by
  refine ⟨by unfold addI; rw [List.length_zipWith, a.len, b.len, Nat.min_self], fun x hx => ?_⟩
  obtain ⟨i, hi, e⟩ := List.mem_iff_getElem.mp hx
  unfold addI at hi e
  rw [List.length_zipWith] at hi
  rw [List.getElem_zipWith] at e
  have := a.pos _ (List.getElem_mem (show i < ns.length by omega))
  have := b.pos _ (List.getElem_mem (show i < ms.length by omega))
  omega
section
variable {P : Program} {w : World} {K : PySem.W.Frag} {mg : Str → Option Value} {base : Heap} {f : Addr} {fd : FuncData}
/-- check_needs of what is right -/
theorem ckn_good {CND : Addr} {H : Hp} {Q : VK} {E : XK} {n : Nat} {a : Addr} {ns : List Int} (n2 : 2 ≤ n) (n16 : n ≤ 16) (hs : SqD H a (ns.map PyData.int)) (am : Amt n ns) (k : ∀ H' t, Same H H' → TupI H' t ns → Q (.ref t) H') : spCkn CND [.int (n : Int), .ref a] H Q E := by
  refine ⟨n, .ref a, rfl, n2, n16, .inr ⟨a, ns.map PyData.int, rfl, hs, by rw [List.length_map, am.len]; omega, fun _ _ H1 t ns' t1 hT e1 _ => ?_, fun i bad => absurd bad (amt_nobad am i)⟩⟩
  obtain rfl := ints_inj e1
  exact k H1 t t1 hT
/-- sum_needs(needs, other), on tuples that are right -/
def spSn : Sp := fun vs H Q _ => ∃ (a b : Addr) (n : Nat) (ns ms : List Int), vs = [.ref a, .ref b] ∧ 2 ≤ n ∧ n ≤ 16 ∧ TupI H a ns ∧ TupI H b ms ∧ Amt n ns ∧ Amt n ms ∧ ∀ H' t, Same H H' → TupI H' t (addI ns ms) → Q (.ref t) H'
abbrev snN : List Str := ["needs", "other", "told", "more", "one", "two"]
theorem sc_sn : FnScope snN ["needs", "other"] (defScope s_sn) := ⟨rfl, rfl, rfl, by decide +kernel, rfl, by decide +kernel, by decide +kernel⟩
theorem ok_sn {CND : Addr} (F : Fun K "sum_needs" "sum_needs" s_sn f fd) (B : Blt3 mg) (CKN : Df P w K mg base "check_needs" 3 ["many", "needs"] (spCkn CND)) : FnOk P w K mg base (L2.CX P w) 4 f fd ["needs", "other"] spSn := by
  refine F.okX sc_sn (fun vs H Q E h => ?_) (fun cdv A outer s H vs Q E hr h => ?_)
  · obtain ⟨a, b, n, ns, ms, rfl, _⟩ := h
    rfl
  · obtain ⟨a, b, n, ns, ms, rfl, n2, n16, ha, hb, am, bm, k⟩ := h
    have nd := sc_sn.nd
    refine ⟨_, pss_cons (ps_set (i := 2) nd rfl (.inl rfl) (pe_df CKN hr (by rfl) passUp (pa_cons (pe_callB call_len_seq (by rfl) B.len PySem.boot_len (pa_cons (pv 0) pa_nil)) (pa_cons (pv 0) pa_nil))))
      (pss_cons (ps_set (i := 3) nd rfl (.inl rfl) (pe_df CKN hr (by rfl) passUp (pa_cons (pe_callB call_len_seq (by rfl) B.len PySem.boot_len (pa_cons (pv 0) pa_nil)) (pa_cons (pv 1) pa_nil))))
      (pss_one (ps_ret (pe_callTy call_tuple_of (by rfl) B.tuple (by decide +kernel) (pa_cons (pe_lc (own := [("one", 4), ("two", 5)]) (g := gTup K 2 (gCons (gName 4) (gCons (gName 5) gNil))) (tt := tYes) (te := tOp rAddI (tVar 4) (tVar 5)) rfl nd
        (ZT.pi_zipT (by rfl) B.zip (pa_cons (pv 2) (pa_cons (pv 3) pa_nil))) (blkOk_by (N := snN) (sc := defScope s_sn) (by decide +kernel))
        (fun _ _ _ _ _ => pg_tup rfl (pgs_cons (pg_name (i := 4) nd rfl (.inl rfl)) (pgs_cons (pg_name (i := 5) nd rfl (.inl rfl)) pgs_nil))) (fun _ _ _ _ _ => pts_nil) (fun _ _ _ _ _ => pe_op op_add (pv 4) (pv 5))) pa_nil))))), ?_⟩
    have el : ∀ {xs : List Int}, Amt n xs → (((xs.map V.int).length : Nat) : Int) = (n : Int) := fun h => by rw [List.length_map, h.len]
    refine ⟨_, rfl, a, _, rfl, .inr (SqT.of ha), _, rfl, ?_⟩
    rw [el am]
    dsimp only [tNil, List.append_nil]
    show spCkn CND [V.int (n : Int), V.ref a] _ _ _
    refine ckn_good n2 n16 ha.sq am fun H1 told t1 h1 => ?_
    refine ⟨_, rfl, a, _, rfl, .inr (SqT.of (t1 _ _ ha)), _, rfl, ?_⟩
    rw [el am]
    dsimp only [tNil, List.append_nil]
    show spCkn CND [V.int (n : Int), V.ref b] _ _ _
    refine ckn_good n2 n16 (TupI.sq (t1 _ _ hb)) bm fun H2 more t2 h2 => ?_
    have h12 := h1.mono t2
    refine ⟨_, rfl, _, rfl, told, more, _, _, rfl, SqT.of h2, SqT.of h12, fun D nD => ?_⟩
    have t12 := t1.trans t2
    refine lc_it (ZT.walk_zT (K := K) (a := told) (b := more) (xs := ns.map V.int) (ys := ms.map V.int) (by rw [List.length_map, List.length_map, am.len, bm.len])) (fun i H' => Same H2 H' ∧ H' D = some (.lst (((addI ns ms).take i).map V.int))) ⟨same_upd nD, upd_same⟩ (fun i H' _ z => ⟨SqT.of (z.1 _ _ h12), SqT.of (z.1 _ _ h2)⟩) (fun i x H' H3 hi z y => ?_) (fun H' z => ?_)
    · obtain ⟨T, x, y, rfl, nT, rfl, ex, ey⟩ := y
      obtain ⟨sm, hD⟩ := z
      rw [List.length_map, am.len] at hi
      have i1 : i < ns.length := by rw [am.len]; exact hi
      have i2 : i < ms.length := by rw [bm.len]; exact hi
      replace ex : (ns.map V.int)[i]? = some x := ex
      replace ey : (ms.map V.int)[i]? = some y := ey
      rw [List.getElem?_map, List.getElem?_eq_getElem i1] at ex
      rw [List.getElem?_map, List.getElem?_eq_getElem i2] at ey
      cases ex
      cases ey
      refine ⟨T, _, rfl, SqT.of upd_same, rfl, _, _, rfl, _, _, rfl, rfl, rfl, ?_⟩
      have nDT : D ≠ T := fun e => by rw [e, nT] at hD; cases hD
      have ea : (addI ns ms)[i]? = some (ns[i] + ms[i]) := by
        unfold addI
        rw [List.getElem?_zipWith, List.getElem?_eq_getElem i1, List.getElem?_eq_getElem i2]
      refine ⟨_, rfl, _, rfl, _, _, rfl, rfl, _, by rw [upd_ne nDT]; exact hD, ?_, fun b2 o e => ?_, ?_⟩
      · rw [List.length_map, List.length_take, sizeLine_eq]
        omega
      · rw [upd_ne (ne_of_none e nD), upd_ne (ne_of_none (sm b2 o e) nT)]
        exact sm b2 o e
      · rw [upd_same, take_at ea, List.map_append]
        rfl
    · obtain ⟨sm, hD⟩ := z
      rw [List.length_map, am.len, List.take_of_length_le (by rw [(am.add bm).len]; exact Nat.le_refl _)] at hD
      exact ⟨D, _, rfl, .inl ⟨SqL.of hD, fun t nt => k _ t (t12.trans (sm.trans (same_upd nt))) upd_same⟩⟩
/-- raised -/
theorem sc_rd : FnScope ["needs", "raises"] ["needs", "raises"] (defScope s_rd) := ⟨rfl, rfl, rfl, by decide +kernel, rfl, by decide +kernel, by decide +kernel⟩
theorem ok_rd (F : Fun K "raised" "raised" s_rd f fd) (SN : Df P w K mg base "sum_needs" 4 ["needs", "other"] spSn) : FnOk P w K mg base (L2.CX P w) 5 f fd ["needs", "raises"] spSn := by
  refine F.okX sc_rd (fun vs H Q E h => ?_) (fun cdv A outer s H vs Q E hr h => ?_)
  · obtain ⟨a, b, n, ns, ms, rfl, _⟩ := h
    rfl
  · obtain ⟨a, b, n, ns, ms, rfl, h⟩ := h
    exact ⟨_, pss_one (ps_ret (pe_df SN hr (by rfl) passUp (pa_cons (pv 0) (pa_cons (pv 1) pa_nil)))), _, rfl, _, rfl, a, b, n, ns, ms, rfl, h⟩
/-- raised_heaviest(web, needs, raises) on what is right -/
def spRh (C : Addr) : Sp := fun vs H Q _ => ∃ (p a b : Addr) (n : Nat) (q : List Pr) (ns ms : List Int), vs = [.ref p, .ref a, .ref b] ∧ WebAt C H p (n : Int) q ∧ 2 ≤ n ∧ n ≤ 8 ∧ SqD H a (ns.map PyData.int) ∧ SqD H b (ms.map PyData.int) ∧ Amt n ns ∧ Amt n ms ∧ ∀ r, Hv n q (addI ns ms) 0 r → Ret (.int r) H Q
theorem sc_rh : FnScope ["web", "needs", "raises", "told"] ["web", "needs", "raises"] (defScope s_rh) := ⟨rfl, rfl, rfl, by decide +kernel, rfl, by decide +kernel, by decide +kernel⟩
theorem ok_rh {C CND e0 : Addr} (F : Fun K "raised_heaviest" "raised_heaviest" s_rh f fd) (T : WebC K C) (h0 : ∀ H : Hp, SqT K H e0 []) (CKN : Df P w K mg base "check_needs" 3 ["many", "needs"] (spCkn CND)) (RD : Df P w K mg base "raised" 5 ["needs", "raises"] spSn) (HV : DfD P w K mg base "heaviest" 7 ["web", "needs", "holding"] [.ref e0] (spHv K C)) : FnOk P w K mg base (L2.CX P w) 8 f fd ["web", "needs", "raises"] (spRh C) := by
  refine F.okX sc_rh (fun vs H Q E h => ?_) (fun cdv A outer s H vs Q E hr h => ?_)
  · obtain ⟨p, a, b, n, q, ns, ms, rfl, _⟩ := h
    rfl
  · obtain ⟨p, a, b, n, q, ns, ms, rfl, W, n2, n8, ha, hb, am, bm, k⟩ := h
    obtain ⟨⟨ddx, cc, m, l0, h1, h2, h3, h4, h5⟩, cl, n0, n16⟩ := id W
    have nd := sc_rh.nd
    have r3 : Room 3 _ := hr.mono (by decide)
    have r5 : Room 5 _ := hr.mono (by decide)
    refine ⟨_, pss_cons (ps_set (i := 3) nd rfl (.inl rfl) (pe_df CKN r3 (by rfl) passUp (pa_cons (pe_fld (pv 0) rfl) (pa_cons (pv 1) pa_nil))))
      (pss_one (ps_ret (pe_dfd HV hr (by rfl) passUp (pa_cons (pv 0) (pa_cons (pe_df RD r5 (by rfl) passUp (pa_cons (pv 3) (pa_cons (pe_df CKN r3 (by rfl) passUp (pa_cons (pe_fld (pv 0) rfl) (pa_cons (pv 2) pa_nil))) pa_nil))) pa_nil))))), ?_⟩
    refine ⟨_, rfl, p, C, ddx, _, _, rfl, h1, T.cl, T.nm, wf_many _ _ _, _, rfl, ?_⟩
    dsimp only [tNil, List.append_nil]
    show spCkn CND [V.int (n : Int), V.ref a] _ _ _
    refine ckn_good n2 (by omega) ha am fun H1 told t1 hT => ?_
    refine ⟨_, rfl, _, rfl, _, rfl, p, C, ddx, _, _, rfl, t1 _ _ h1, T.cl, T.nm, wf_many _ _ _, _, rfl, ?_⟩
    dsimp only [tNil, List.append_nil]
    show spCkn CND [V.int (n : Int), V.ref b] _ _ _
    refine ckn_good n2 (by omega) (hb.mono t1) bm fun H2 more t2 hM => ?_
    refine ⟨told, more, n, ns, ms, rfl, n2, by omega, hT.mono t2, hM, am, bm, fun H3 tot t3 hS => ?_⟩
    have t13 := t1.trans (t2.trans t3)
    exact ⟨p, tot, e0, n, q, addI ns ms, [], rfl, W.mono t13, n2, n8, TupI.sq hS, am.add bm, HoldAt.none h0, TwoK.none, (fun x hx => by cases hx), fun r hr H4 t4 => k r hr H4 (t13.trans t4)⟩
end
end K0
set_option Elab.async false
set_option linter.all false
set_option maxRecDepth 100000
set_option maxHeartbeats 4000000
namespace K0
open PySem PySem.Spec PyProof.Rows L2
/-! ### max(xs, default=d) of a list of whole numbers -/
theorem depth_ints : ∀ ns : List Int, PyData.depthAll (ns.map PyData.int) = 0
  | [] => rfl
  | n :: ns => by
    rw [List.map_cons, PyData.depthAll, depth_ints ns]
    rfl
end K0
set_option Elab.async false
set_option linter.all false
set_option maxRecDepth 100000
set_option maxHeartbeats 4000000
namespace K0
open PySem PySem.Spec PyProof.Rows L2
abbrev s_sl : Stmt := top 35
abbrev s_cst : Stmt := top 39
section
variable {P : Program} {w : World} {K : PySem.W.Frag} {mg : Str → Option Value} {base : Heap} {f : Addr} {fd : FuncData}
theorem sc_sl : FnScope ["web", "needs", "thing", "told"] ["web", "needs", "thing"] (defScope s_sl) := ⟨rfl, rfl, rfl, by decide +kernel, rfl, by decide +kernel, by decide +kernel⟩
/-- cost(web, needs, raises) on what is right -/
def spCst (C : Addr) : Sp := fun vs H Q _ => ∃ (p a b : Addr) (n : Nat) (q : List Pr) (ns ms : List Int), vs = [.ref p, .ref a, .ref b] ∧ WebAt C H p (n : Int) q ∧ 2 ≤ n ∧ n ≤ 8 ∧ SqD H a (ns.map PyData.int) ∧ SqD H b (ms.map PyData.int) ∧ Amt n ns ∧ Amt n ms ∧ ∀ r s, Hv n q (addI ns ms) 0 r → Hv n q ns 0 s → Ret (.int (r - s)) H Q
theorem sc_cst : FnScope ["web", "needs", "raises", "told"] ["web", "needs", "raises"] (defScope s_cst) := ⟨rfl, rfl, rfl, by decide +kernel, rfl, by decide +kernel, by decide +kernel⟩
theorem ok_cst {C CND e0 : Addr} (F : Fun K "cost" "cost" s_cst f fd) (T : WebC K C) (h0 : ∀ H : Hp, SqT K H e0 []) (CKN : Df P w K mg base "check_needs" 3 ["many", "needs"] (spCkn CND)) (RH : Df P w K mg base "raised_heaviest" 8 ["web", "needs", "raises"] (spRh C)) (HV : DfD P w K mg base "heaviest" 7 ["web", "needs", "holding"] [.ref e0] (spHv K C)) : FnOk P w K mg base (L2.CX P w) 9 f fd ["web", "needs", "raises"] (spCst C) := by
  refine F.okX sc_cst (fun vs H Q E h => ?_) (fun cdv A outer s H vs Q E hr h => ?_)
  · obtain ⟨p, a, b, n, q, ns, ms, rfl, _⟩ := h
    rfl
  · obtain ⟨p, a, b, n, q, ns, ms, rfl, W, n2, n8, ha, hb, am, bm, k⟩ := h
    obtain ⟨⟨ddx, cc, m, l0, h1, h2, h3, h4, h5⟩, cl, n0, n16⟩ := id W
    have nd := sc_cst.nd
    have r3 : Room 3 _ := hr.mono (by decide)
    have r7 : Room 7 _ := hr.mono (by decide)
    refine ⟨_, pss_cons (ps_set (i := 3) nd rfl (.inl rfl) (pe_df CKN r3 (by rfl) passUp (pa_cons (pe_fld (pv 0) rfl) (pa_cons (pv 1) pa_nil))))
      (pss_one (ps_ret (pe_op op_sub (pe_df RH hr (by rfl) passUp (pa_cons (pv 0) (pa_cons (pv 3) (pa_cons (pv 2) pa_nil)))) (pe_dfd HV r7 (by rfl) passUp (pa_cons (pv 0) (pa_cons (pv 3) pa_nil)))))), ?_⟩
    refine ⟨_, rfl, p, C, ddx, _, _, rfl, h1, T.cl, T.nm, wf_many _ _ _, _, rfl, ?_⟩
    dsimp only [tNil, List.append_nil]
    show spCkn CND [V.int (n : Int), V.ref a] _ _ _
    refine ckn_good n2 (by omega) ha am fun H1 told t1 hT => ?_
    refine ⟨_, rfl, _, rfl, _, rfl, p, told, b, n, q, ns, ms, rfl, W.mono t1, n2, n8, hT.sq, hb.mono t1, am, bm, fun r hrr H2 t2 => ?_⟩
    have t12 := t1.trans t2
    refine ⟨_, rfl, _, rfl, p, told, e0, n, q, ns, [], rfl, W.mono t12, n2, n8, (hT.mono t2).sq, am, HoldAt.none h0, TwoK.none, (fun y hy => by cases hy), fun s hss H3 t3 => ?_⟩
    exact ⟨_, _, rfl, rfl, k r s hrr hss H3 (t12.trans t3)⟩
end
end K0
set_option Elab.async false
set_option linter.all false
set_option maxRecDepth 100000
set_option maxHeartbeats 4000000
namespace K0
open PySem PySem.Spec PyProof.Rows L2
/-! ### what is told of needs, right or wrong -/
def NdOk (H : Hp) (n : Nat) (v : V) (ns : List Int) : Prop := (v = .non ∧ ns = List.replicate n 1) ∨ ∃ a, v = .ref a ∧ SqD H a (ns.map PyData.int)
def NdBad (H : Hp) (n : Nat) (v : V) (i : Nat) : Prop := ∃ a ds, v = .ref a ∧ SqD H a ds ∧ ds.length ≤ 1000 ∧ BadAt n ds i
theorem NdOk.mono {H H' : Hp} (s : Same H H') {n : Nat} {v : V} {ns : List Int} : NdOk H n v ns → NdOk H' n v ns
  | .inl h => .inl h
  | .inr ⟨a, e, h⟩ => .inr ⟨a, e, h.mono s⟩
theorem NdBad.mono {H H' : Hp} (s : Same H H') {n : Nat} {v : V} {i : Nat} : NdBad H n v i → NdBad H' n v i := fun ⟨a, ds, e, h, l, b⟩ => ⟨a, ds, e, h.mono s, l, b⟩
theorem ok_bad {ds : List PyData} {i j : Nat} (h : okUp ds i) (hj : j < i) {d : PyData} (e : ds[j]? = some d) (b : okNd d = false) : False := by
  obtain ⟨d', e', o⟩ := h j hj
  rw [e] at e'
  cases e'
  rw [b] at o
  cases o
theorem bad_uniq {n : Nat} {ds : List PyData} {i j : Nat} (a : BadAt n ds i) (b : BadAt n ds j) : i = j := by
  obtain ⟨a1, a2⟩ := a
  obtain ⟨b1, b2⟩ := b
  have up : ∀ {k}, okUp ds k → k ≤ ds.length := fun {k} h => by
    cases k with
    | zero => exact Nat.zero_le _
    | succ k =>
      obtain ⟨d, e, _⟩ := h k (by omega)
      obtain ⟨l, _⟩ := List.getElem?_eq_some_iff.mp e
      exact l
  have ua := up a1
  have ub := up b1
  rcases Nat.lt_trichotomy i j with lt | e | lt
  · exfalso
    rcases a2 with ⟨_, d, e, o⟩ | ⟨e, _⟩
    · exact ok_bad b1 lt e o
    · have : j ≤ n := by
        rcases b2 with ⟨l, _⟩ | ⟨l, _⟩ <;> omega
      omega
  · exact e
  · exfalso
    rcases b2 with ⟨_, d, e, o⟩ | ⟨e, _⟩
    · exact ok_bad a1 lt e o
    · have : i ≤ n := by
        rcases a2 with ⟨l, _⟩ | ⟨l, _⟩ <;> omega
      omega
theorem ones_amt (n : Nat) : Amt n (List.replicate n 1) := ⟨List.length_replicate, fun x hx => by rw [List.eq_of_mem_replicate hx]; decide⟩
section
variable {P : Program} {w : World} {K : PySem.W.Frag} {mg : Str → Option Value} {base : Heap} {f : Addr} {fd : FuncData}
theorem ckn_ok {CND : Addr} {H : Hp} {Q : VK} {E : XK} {n : Nat} {v : V} {ns : List Int} (n2 : 2 ≤ n) (n16 : n ≤ 16) (h : NdOk H n v ns) (am : Amt n ns) (k : ∀ H' t, Same H H' → TupI H' t ns → Q (.ref t) H') : spCkn CND [.int (n : Int), v] H Q E := by
  rcases h with ⟨rfl, rfl⟩ | ⟨a, rfl, h⟩
  · exact ⟨n, .non, rfl, n2, n16, .inl ⟨rfl, fun H' t s _ ht => k H' t s ht⟩⟩
  · exact ckn_good n2 n16 h am k
theorem ckn_bad {CND : Addr} {H : Hp} {Q : VK} {E : XK} {n : Nat} {v : V} {i : Nat} (n2 : 2 ≤ n) (n16 : n ≤ 16) (h : NdBad H n v i) (k : Rz CND [("place", .int (i : Int))] H E) : spCkn CND [.int (n : Int), v] H Q E := by
  obtain ⟨a, ds, rfl, hs, l, b⟩ := h
  refine ⟨n, .ref a, rfl, n2, n16, .inr ⟨a, ds, rfl, hs, l, fun up len => ?_, fun j bj => by rw [bad_uniq bj b]; exact k⟩⟩
  exfalso
  obtain ⟨_, b⟩ := b
  rcases b with ⟨l, d, e, o⟩ | ⟨_, b⟩
  · exact ok_bad up l e o
  · exact b len
def CostOf (n : Nat) (q : List Pr) (ns ms : List Int) (x : Nat) (c : Int) : Prop := ∃ r s, Hv n q ns 0 r ∧ Hv n q ns (2 ^ x) s ∧ c = ms.getD x 0 - (r - s)
structure LotC (n : Nat) (q : List Pr) (ns ms : List Int) (r : Int) : Prop where
  nn : 0 ≤ r
  le : ∀ x, x < n → 0 < ms.getD x 0 → ∃ c, CostOf n q ns ms x c ∧ c ≤ r
  ex : r = 0 ∨ ∃ x, x < n ∧ 0 < ms.getD x 0 ∧ CostOf n q ns ms x r
end
end K0
set_option Elab.async false
set_option linter.all false
set_option maxRecDepth 100000
set_option maxHeartbeats 4000000
namespace K0
open PySem PySem.Spec PyProof.Rows L2
/-! ### all knots, as lists -/
/-- the knots among the first x things -/
structure KnS (x : Nat) (q : List Pr) (kn : List (List Nat)) : Prop where
  snd : ∀ k ∈ kn, ∃ m, k = bitsOf x m ∧ ClqM q m ∧ ∀ y, m.testBit y = true → y < x
  all : ∀ m, ClqM q m → (∀ y, m.testBit y = true → y < x) → bitsOf x m ∈ kn
  few : kn.length ≤ 2 ^ x
theorem bitsOf_succ (x m : Nat) : bitsOf (x + 1) m = bitsOf x m ++ if m.testBit x = true then [x] else [] := by
  unfold bitsOf
  rw [List.range_succ, List.filter_append]
  congr 1
  cases e : m.testBit x <;> simp [e]
theorem bitsOf_congr {x a b : Nat} (h : ∀ y, y < x → a.testBit y = b.testBit y) : bitsOf x a = bitsOf x b := List.filter_congr fun y hy => h y (List.mem_range.mp hy)
theorem mem_bits {x m y : Nat} : y ∈ bitsOf x m ↔ y < x ∧ m.testBit y = true := by
  unfold bitsOf
  rw [List.mem_filter, List.mem_range]
theorem KnS.start (q : List Pr) : KnS 0 q [[]] := by
  have z : ∀ y, (0 : Nat).testBit y = false := Nat.zero_testBit
  refine ⟨fun k hk => ⟨0, List.mem_singleton.mp hk, fun x y hx => ?_, fun y hy => ?_⟩, fun m _ _ => List.mem_singleton.mpr rfl, Nat.le_refl _⟩
  · rw [z] at hx
    cases hx
  · rw [z] at hy
    cases hy
def fits (q : List Pr) (x : Nat) (k : List Nat) : Bool := k.all fun z => hasP q x z
theorem KnS.step {q : List Pr} {n : Int} (cl : Cl n q) {x : Nat} {kn : List (List Nat)} (h : KnS x q kn) : KnS (x + 1) q (kn ++ (kn.filter (fits q x)).map (· ++ [x])) := by
  refine ⟨fun k hk => ?_, fun m c b => ?_, ?_⟩
  · rcases List.mem_append.mp hk with hk | hk
    · obtain ⟨m, e, c, b⟩ := h.snd k hk
      refine ⟨m, ?_, c, fun y hy => by have := b y hy; omega⟩
      rw [bitsOf_succ, if_neg (fun t => by have := b x t; omega), List.append_nil]
      exact e
    · obtain ⟨k', hk', rfl⟩ := List.mem_map.mp hk
      obtain ⟨h1, h2⟩ := List.mem_filter.mp hk'
      obtain ⟨m, e, c, b⟩ := h.snd k' h1
      have near : ∀ z, m.testBit z = true → hasP q x z = true := fun z hz => List.all_eq_true.mp h2 z (by rw [e]; exact mem_bits.mpr ⟨b z hz, hz⟩)
      refine ⟨m ||| 2 ^ x, ?_, fun y z hy hz ne => ?_, fun y hy => ?_⟩
      · rw [bitsOf_succ, if_pos (by rw [or_two, decide_eq_true rfl, Bool.or_true]), e]
        congr 1
        refine bitsOf_congr fun y hy => ?_
        rw [or_two, decide_eq_false (by omega), Bool.or_false]
      · rw [or_two, Bool.or_eq_true, decide_eq_true_iff] at hy hz
        rcases hy with hy | rfl
        · rcases hz with hz | rfl
          · exact c y z hy hz ne
          · rw [hasP_sym]
            exact near y hy
        · rcases hz with hz | rfl
          · exact near z hz
          · exact absurd rfl ne
      · rw [or_two, Bool.or_eq_true, decide_eq_true_iff] at hy
        rcases hy with hy | rfl
        · have := b y hy
          omega
        · omega
  · by_cases t : m.testBit x = true
    · have b1 : ∀ y, (andN m (2 ^ x)).testBit y = true ↔ m.testBit y = true ∧ y ≠ x := fun y => by
        rw [andN_bit, two_bit, Bool.and_eq_true, Bool.not_eq_true', decide_eq_false_iff_not]
        exact ⟨fun h => ⟨h.1, fun e => h.2 e.symm⟩, fun h => ⟨h.1, fun e => h.2 e.symm⟩⟩
      have e1 : bitsOf x (andN m (2 ^ x)) = bitsOf x m := bitsOf_congr fun y hy => by
        rw [Bool.eq_iff_iff, b1]
        exact ⟨fun h => h.1, fun h => ⟨h, by omega⟩⟩
      have hin := h.all (andN m (2 ^ x)) (fun y z hy hz ne => c y z ((b1 y).mp hy).1 ((b1 z).mp hz).1 ne) fun y hy => by
        obtain ⟨h1, h2⟩ := (b1 y).mp hy
        have := b y h1
        omega
      rw [bitsOf_succ, if_pos t, ← e1]
      refine List.mem_append_right _ (List.mem_map.mpr ⟨_, List.mem_filter.mpr ⟨hin, List.all_eq_true.mpr fun z hz => ?_⟩, rfl⟩)
      obtain ⟨h1, h2⟩ := mem_bits.mp hz
      exact c x z t ((b1 z).mp h2).1 (Ne.symm ((b1 z).mp h2).2)
    · rw [bitsOf_succ, if_neg t, List.append_nil]
      refine List.mem_append_left _ (h.all m c fun y hy => ?_)
      have := b y hy
      rcases Nat.lt_or_eq_of_le (Nat.le_of_lt_succ this) with l | rfl
      · exact l
      · exact absurd hy t
  · rw [List.length_append, List.length_map, Nat.pow_succ]
    have := List.length_filter_le (fits q x) kn
    have := h.few
    omega
/-- knots as they lie on the heap -/
def KnH (H : Hp) (D : Addr) (kn : List (List Nat)) : Prop := ∃ l : List (Addr × List Nat), H D = some (.lst (l.map fun z => V.ref z.1)) ∧ l.map (·.2) = kn ∧ ∀ z ∈ l, H z.1 = some (.lst (nvs z.2))
theorem KnH.mono {H H' : Hp} {D : Addr} {kn : List (List Nat)} (s : Same H H') : KnH H D kn → KnH H' D kn := fun ⟨l, h, e, p⟩ => ⟨l, s _ _ h, e, fun z hz => s _ _ (p z hz)⟩
end K0
set_option Elab.async false
set_option linter.all false
set_option maxRecDepth 100000
set_option maxHeartbeats 4000000
namespace K0
open PySem PySem.Spec PyProof.Rows L2
abbrev s_kn : Stmt := top 65
/-- a block within a block -/
theorem lookup_relabel {env : Env} : ∀ {names : List (Str × NameKind)} {x : Str}, names.lookup x = some .cell ∨ names.lookup x = some .free →
    (names.map fun (n, k) => if (k == NameKind.free && env.scope.kind == .function && env.kindOf n == some .cell) then (n, NameKind.cell) else (n, k)).lookup x = some .cell ∨
    (names.map fun (n, k) => if (k == NameKind.free && env.scope.kind == .function && env.kindOf n == some .cell) then (n, NameKind.cell) else (n, k)).lookup x = some .free
  | [], _, h => by simp at h
  | (n, k) :: r, x, h => by
    have ih := @lookup_relabel env r x
    rw [List.map_cons]
    cases hx : x == n with
    | true =>
      simp only [List.lookup_cons, hx] at h
      by_cases hc : (k == NameKind.free && env.scope.kind == .function && env.kindOf n == some .cell) = true
      · simp only [hc, if_true, List.lookup_cons, hx]
        exact .inl trivial
      · simp only [hc, if_false, List.lookup_cons, hx, Bool.false_eq_true]
        exact h
    | false =>
      simp only [List.lookup_cons, hx] at h
      by_cases hc : (k == NameKind.free && env.scope.kind == .function && env.kindOf n == some .cell) = true
      · simp only [hc, if_true, List.lookup_cons, hx]
        exact ih h
      · simp only [hc, if_false, List.lookup_cons, hx, Bool.false_eq_true]
        exact ih h
theorem blkOk_in {N : List Str} {sc scope : Scope} {own : List (Str × Nat)} {env : Env} (h : blkC N sc scope own = true) : BlkOk N (relabel sc env) scope own := by
  have b := blkOk_by h
  exact ⟨b.kind, b.uniq, b.ix, fun y hy e => lookup_relabel (b.free y hy e), b.own⟩
section
variable {P : Program} {w : World} {K : PySem.W.Frag} {mg : Str → Option Value} {base : Heap} {f : Addr} {fd : FuncData}
/-- _law_knots -/
def spKn : Sp := fun vs H Q _ => ∃ (b : Addr) (n : Nat) (q : List Pr), vs = [.int (n : Int), .ref b] ∧ n ≤ 8 ∧ Cl n q ∧ Ls H b q ∧ ∀ H' D kn, Same H H' → KnH (New H H') D kn → KnS n q kn → Q (.ref D) H'
abbrev knN : List Str := ["_law_many", "_law_pairs", "_law_knots_here", "_law_x", "_law_near_here", "_law_knot", "_law_z"]
theorem sc_kn : FnScope knN ["_law_many", "_law_pairs"] (defScope s_kn) := ⟨rfl, rfl, rfl, by decide +kernel, rfl, by decide +kernel, by decide +kernel⟩
theorem all_len {p : Nat → Bool} : ∀ k : List Nat, decide ((k.filter p).length = k.length) = k.all p
  | [] => rfl
  | x :: k => by
    have ih := all_len (p := p) k
    have := List.length_filter_le p k
    rw [List.filter_cons, List.all_cons, ← ih]
    cases e : p x with
    | true =>
      rw [if_pos rfl, List.length_cons, List.length_cons, Bool.true_and]
      exact decide_eq_decide.mpr (by omega)
    | false =>
      rw [if_neg Bool.false_ne_true, List.length_cons, Bool.false_and, decide_eq_false_iff_not]
      omega
theorem inV_nvs (x : Nat) (l : List Nat) : inV (.int (x : Int)) (nvs l) = decide (x ∈ l) := by
  have : nvs l = (l.map fun (k : Nat) => (k : Int)).map V.int := by
    unfold nvs
    rw [List.map_map]
    rfl
  rw [this, inV_ints]
  refine decide_eq_decide.mpr ⟨fun h => ?_, fun h => List.mem_map.mpr ⟨x, h, rfl⟩⟩
  obtain ⟨k, hk, e⟩ := List.mem_map.mp h
  rw [show x = k by omega]
  exact hk
theorem nvs_flat (l : List Nat) : (nvs l).all flatV = true := by
  unfold nvs
  rw [List.all_map]
  exact List.all_eq_true.mpr fun _ _ => rfl
theorem fits_near {n x : Nat} {q : List Pr} {m : Nat} (b : ∀ y, m.testBit y = true → y < x) (xn : x < n) : (bitsOf x m).all (fun z => decide (z ∈ nearOf (n : Int) q x)) = fits q x (bitsOf x m) := by
  unfold fits
  rw [Bool.eq_iff_iff, List.all_eq_true, List.all_eq_true]
  have e : ∀ z ∈ bitsOf x m, decide (z ∈ nearOf (n : Int) q x) = hasP q x z := fun z hz => by
    have := (mem_bits.mp hz).1
    unfold nearOf
    rw [Bool.eq_iff_iff, decide_eq_true_iff, List.mem_filter, List.mem_range]
    exact ⟨fun h => h.2, fun h => ⟨by omega, h⟩⟩
  exact ⟨fun h z hz => by rw [← e z hz]; exact h z hz, fun h z hz => by rw [e z hz]; exact h z hz⟩
/-- .. of new things, none of them where H0 has something -/
def KnN (H0 H : Hp) (D : Addr) (kn : List (List Nat)) : Prop := H0 D = none ∧ ∃ l : List (Addr × List Nat), H D = some (.lst (l.map fun z => V.ref z.1)) ∧ l.map (·.2) = kn ∧ ∀ z ∈ l, H z.1 = some (.lst (nvs z.2)) ∧ H0 z.1 = none
theorem KnN.mono {H0 H H' : Hp} {D : Addr} {kn : List (List Nat)} (s : Same H H') : KnN H0 H D kn → KnN H0 H' D kn := fun ⟨n, l, h, e, p⟩ => ⟨n, l, s _ _ h, e, fun z hz => ⟨s _ _ (p z hz).1, (p z hz).2⟩⟩
theorem knw_at {H0 H : Hp} {x : Addr} (h : H0 x = none) : New H0 H x = H x := by
  unfold New
  rw [h]
theorem KnN.kn {H0 H : Hp} {D : Addr} {kn : List (List Nat)} : KnN H0 H D kn → KnH (New H0 H) D kn := fun ⟨n, l, h, e, p⟩ => ⟨l, by rw [knw_at n]; exact h, e, fun z hz => by rw [knw_at (p z hz).2]; exact (p z hz).1⟩
def KnG (H0 H : Hp) (D : Addr) (kn : List (List Nat)) : Prop := ∃ l : List (Addr × List Nat), H D = some (.lst (l.map fun z => V.ref z.1)) ∧ l.map (·.2) = kn ∧ ∀ z ∈ l, H z.1 = some (.lst (nvs z.2)) ∧ z.1 ≠ D ∧ H0 z.1 = none
theorem KnG.mono {H0 H H' : Hp} {D : Addr} {kn : List (List Nat)} (s : Same H H') : KnG H0 H D kn → KnG H0 H' D kn := fun ⟨l, h, e, p⟩ => ⟨l, s _ _ h, e, fun z hz => ⟨s _ _ (p z hz).1, (p z hz).2⟩⟩
theorem KnG.push {H0 H : Hp} {D p : Addr} {kn : List (List Nat)} {k : List Nat} (h : KnG H0 H D kn) (hp : H p = some (.lst (nvs k))) (ne : p ≠ D) (n0 : H0 p = none) : ∃ ys, H D = some (.lst ys) ∧ ys.length = kn.length ∧ KnG H0 (upd H D (.lst (ys ++ [.ref p]))) D (kn ++ [k]) := by
  obtain ⟨l, h1, h2, h3⟩ := h
  refine ⟨_, h1, by rw [← h2, List.length_map, List.length_map], l ++ [(p, k)], by rw [upd_same, List.map_append]; rfl, by rw [List.map_append, h2]; rfl, fun z hz => ?_⟩
  rcases List.mem_append.mp hz with hz | hz
  · exact ⟨by rw [upd_ne (h3 z hz).2.1]; exact (h3 z hz).1, (h3 z hz).2⟩
  · rw [List.mem_singleton.mp hz]
    exact ⟨by rw [upd_ne ne]; exact hp, ne, n0⟩
theorem ok_kn (F : Fun K "_law_knots" "_law_knots" s_kn f fd) (B : Blt2 mg) (NE : Df P w K mg base "_law_near" 2 ["_law_many", "_law_pairs", "_law_x"] spNe) : FnOk P w K mg base (L2.CX P w) 3 f fd ["_law_many", "_law_pairs"] spKn := by
  refine F.okX sc_kn (fun vs H Q E h => ?_) (fun cdv A outer s H vs Q E hr h => ?_)
  · obtain ⟨b, n, q, rfl, _⟩ := h
    rfl
  · obtain ⟨b, n, q, rfl, n8, cl, hl, k⟩ := h
    have nd := sc_kn.nd
    let ttI : TT := tTest (tOp (rIn K false) (tVar 6) (tVar 4))
    let teI : TE := tLc (iList K (tVar 5)) (gName 6) ttI (tVar 6) [6]
    refine ⟨_, pss_cons (ps_set (i := 2) nd rfl (.inl rfl) (pe_lst (pa_cons (pe_lst pa_nil) pa_nil)))
      (pss_cons (ps_for (passes_of rfl) rfl (pi_range1 (by rfl) B.range (pa_cons (pv 0) pa_nil)) (pg_name (i := 3) nd rfl (.inr rfl))
        (pss_cons (ps_set (i := 4) nd rfl (.inr rfl) (pe_df NE hr (by rfl) passUp (pa_cons (pv 0) (pa_cons (pv 1) (pa_cons (pv 3) pa_nil)))))
        (pss_one (ps_set (i := 2) nd rfl (.inl rfl) (pe_op op_cat (pv 2) (pe_lc (own := [("_law_knot", 5)]) (g := gName 5) (tt := tTest (tOp rEq (tCB (rLenI K) (tCons teI tNil)) (tCB (rLenI K) (tCons (tVar 5) tNil)))) (te := tOp rCat (tVar 5) (tLst (tCons (tVar 3) tNil))) rfl nd (pi_list (pv 2))
          (blkOk_by (N := knN) (sc := defScope s_kn) (by decide +kernel)) (fun _ _ _ _ _ => pg_name (i := 5) nd rfl (.inl rfl))
          (fun _ _ _ _ _ => pts_one (pt_cmpR op_eq (pe_callB c_len (by rfl) B.len PySem.boot_len (pa_cons (pe_lc (own := [("_law_z", 6)]) (g := gName 6) (tt := ttI) (te := tVar 6) rfl nd (pi_list (pv 5)) (blkOk_in (N := knN) (by decide +kernel)) (fun _ _ _ _ _ => pg_name (i := 6) nd rfl (.inl rfl)) (fun _ _ _ _ _ => pts_one (pt_cmpR op_in_seq (pv 6) (pv 4) (by rfl))) (fun _ _ _ _ _ => pv 6)) pa_nil)) (pe_callB c_len (by rfl) B.len PySem.boot_len (pa_cons (pv 5) pa_nil)) (by rfl)))
          (fun _ _ _ _ _ => pe_op op_cat (pv 5) (pe_lst (pa_cons (pv 3) pa_nil)))))))))
      (pss_one (ps_ret (pv 2)))), ?_⟩
    refine ⟨by show 0 ≤ sizeLine; decide, fun e0 ne0 => ⟨by show 1 ≤ sizeLine; decide, fun D0 nD0 => ?_⟩⟩
    have s1 : Same H (upd H e0 (.lst [])) := same_upd ne0
    have s2 := s1.trans (same_upd (o := .lst [.ref e0]) nD0)
    have d0 : D0 ≠ e0 := fun e => by rw [e, upd_same] at nD0; cases nD0
    let Pv : Nat → L2.St → Hp → Prop := fun i σ H' => ∃ D o3 o4 kn, σ = [some (.int (n : Int)), some (.ref b), some (.ref D), o3, o4, none, none] ∧ Same H H' ∧ KnN H H' D kn ∧ KnS i q kn
    refine ⟨_, rfl, n, rfl, by omega, by omega, ?_⟩
    rw [Int.toNat_natCast]
    refine for_range (n := n) Pv ⟨D0, none, none, [[]], rfl, s2, ⟨s1.free nD0, [(e0, [])], upd_same, rfl, fun z hz => ?_⟩, KnS.start q⟩ (fun i σ H1 hi h => ?_) (fun σ H1 h => ?_)
    · rw [List.mem_singleton.mp hz]
      show (upd _ _ _) e0 = _ ∧ _
      rw [upd_ne (Ne.symm d0), upd_same]
      exact ⟨rfl, ne0⟩
    · obtain ⟨D, o3, o4, kn, rfl, t1, hD, ks⟩ := h
      rw [Int.zero_add]
      refine ⟨_, rfl, _, rfl, _, rfl, b, n, i, q, rfl, by omega, by omega, cl, hl.mono t1, fun H2 a t2 na ha => ?_⟩
      obtain ⟨_, l, hl1, hl2, hl3⟩ := hD.mono t2
      have kl : kn.length ≤ 256 := by
        have h1 := ks.few
        have h2 : 2 ^ i ≤ 2 ^ 8 := Nat.pow_le_pow_right (by decide) (by omega)
        omega
      have ll : l.length = kn.length := by rw [← hl2, List.length_map]
      refine ⟨_, rfl, _, rfl, D, rfl, ⟨_, SqL.of hl1⟩, fun D2 nD2 => ?_⟩
      refine lc_it (walk_list (K := K) (a := D) (xs := l.map fun z => V.ref z.1)) (fun j H' => Same H2 H' ∧ KnG H H' D2 (((kn.take j).filter (fits q i)).map (· ++ [i]))) ⟨same_upd nD2, [], upd_same, rfl, fun z hz => by cases hz⟩ (fun j H' _ z => SqL.of (z.1 _ _ hl1)) (fun j x H' H3 hj z y => ?_) (fun H' z => ?_)
      · obtain ⟨rfl, hv⟩ := y
        obtain ⟨sm, kg⟩ := z
        rw [List.length_map] at hj
        have hlj : l[j]? = some l[j] := List.getElem?_eq_getElem hj
        rw [List.getElem?_map, hlj] at hv
        cases hv
        have kj : kn[j]? = some l[j].2 := by rw [← hl2, List.getElem?_map, hlj]; rfl
        obtain ⟨m, em, cm, bm⟩ := ks.snd _ (List.mem_of_getElem? kj)
        have hk0 := sm _ _ (hl3 _ (List.getElem_mem hj)).1
        have kil : l[j].2.length ≤ 8 := by
          rw [em]
          unfold bitsOf
          refine Nat.le_trans (List.length_filter_le _ _) ?_
          rw [List.length_range]
          omega
        refine ⟨rfl, _, rfl, l[j].1, rfl, ⟨_, SqL.of hk0⟩, fun D3 nD3 => ?_⟩
        refine lc_it (walk_list (K := K) (a := l[j].1) (xs := nvs l[j].2)) (fun i2 H' => Same H3 H' ∧ H' D3 = some (.lst (nvs ((l[j].2.take i2).filter fun z => decide (z ∈ nearOf (n : Int) q i))))) ⟨same_upd nD3, upd_same⟩ (fun i2 H' _ z => SqL.of (z.1 _ _ hk0)) (fun i2 x H' H4 hi2 z y => ?_) (fun H4 z => ?_)
        · obtain ⟨rfl, hv⟩ := y
          obtain ⟨sm3, hD3⟩ := z
          obtain ⟨z, hz, rfl⟩ := nvs_get hv
          refine ⟨rfl, _, rfl, _, rfl, a, _, rfl, .inl (SqL.of (sm3 _ _ (sm _ _ ha))), rfl, nvs_flat _, _, rfl, ?_⟩
          rw [if_neg Bool.false_ne_true, inV_nvs]
          have et := take_at hz
          cases e : decide (z ∈ nearOf (n : Int) q i) with
          | false =>
            refine iteF ⟨sm3, ?_⟩
            rw [et, List.filter_append, List.filter_cons, e, if_neg Bool.false_ne_true, List.filter_nil, List.append_nil]
            exact hD3
          | true =>
            refine iteT ⟨_, rfl, _, hD3, ?_, fun b2 o h => ?_, ?_⟩
            · rw [nvs_len, sizeLine_eq]
              have h1 := List.length_filter_le (fun z => decide (z ∈ nearOf (n : Int) q i)) (l[j].2.take i2)
              rw [List.length_take] at h1
              omega
            · rw [upd_ne (ne_of_none h nD3)]
              exact sm3 b2 o h
            · rw [upd_same, et, List.filter_append, List.filter_cons, e, if_pos rfl, List.filter_nil]
              unfold nvs
              rw [List.map_append]
              rfl
        · obtain ⟨sm3, hD3⟩ := z
          rw [nvs_len, List.take_length] at hD3
          refine ⟨D3, _, rfl, .inl (SqL.of hD3), _, rfl, l[j].1, _, rfl, .inl (SqL.of (sm3 _ _ hk0)), rfl, _, rfl, ?_⟩
          rw [dec_int]
          have ec : ((((nvs (l[j].2.filter fun z => decide (z ∈ nearOf (n : Int) q i))).length : Nat) : Int) == (((nvs l[j].2).length : Nat) : Int)) = fits q i l[j].2 := by
            rw [nvs_len, nvs_len]
            have h1 : (l[j].2.all fun z => decide (z ∈ nearOf (n : Int) q i)) = fits q i l[j].2 := by
              rw [em]
              exact fits_near bm hi
            rw [← h1, ← all_len, Bool.eq_iff_iff, beq_iff_eq, decide_eq_true_iff]
            omega
          rw [ec]
          have kt := take_at kj
          have kg3 := kg.mono sm3
          cases e : fits q i l[j].2 with
          | false =>
            refine iteF ⟨sm.trans sm3, ?_⟩
            rw [kt, List.filter_append, List.filter_cons, e, if_neg Bool.false_ne_true, List.filter_nil, List.append_nil]
            exact kg3
          | true =>
            refine iteT ⟨_, rfl, _, rfl, by show 1 ≤ sizeLine; decide, fun u nu => ?_⟩
            have t4 : Same H4 (upd H4 u (.lst [.int (i : Int)])) := same_upd nu
            refine ⟨l[j].1, u, nvs l[j].2, _, rfl, rfl, t4 _ _ (sm3 _ _ hk0), upd_same, ?_, fun p np => ?_⟩
            · rw [nvs_len, sizeLine_eq]
              show _ + 1 ≤ _
              omega
            · have t5 := t4.trans (same_upd (o := .lst (nvs l[j].2 ++ [.int (i : Int)])) np)
              have kg5 := kg3.mono t5
              have pD : p ≠ D2 := fun ee => by
                obtain ⟨l2, h2, _⟩ := kg3.mono t4
                rw [ee, h2] at np
                cases np
              obtain ⟨ys, hy, ly, kg6⟩ := kg5.push (p := p) (k := l[j].2 ++ [i]) (by rw [upd_same]; unfold nvs; rw [List.map_append]; rfl) pD ((t1.trans (t2.trans (sm.trans (sm3.trans t4)))).free np)
              refine ⟨ys, hy, ?_, fun b2 o h => ?_, ?_⟩
              · have h1 := List.length_filter_le (fits q i) (kn.take j)
                rw [List.length_take] at h1
                rw [ly, List.length_map, sizeLine_eq]
                omega
              · rw [upd_ne (ne_of_none h nD2)]
                exact t5 _ _ (sm3 _ _ (sm b2 o h))
              · rw [kt, List.filter_append, List.filter_cons, e, if_pos rfl, List.filter_nil, List.map_append]
                exact kg6
      · obtain ⟨sm, l2, h1, h2, h3⟩ := z
        rw [List.length_map, ll, List.take_length] at h2
        refine ⟨D, D2, _, _, rfl, rfl, sm _ _ hl1, h1, ?_, fun p np => ?_⟩
        · rw [List.length_map, List.length_map, sizeLine_eq]
          have h4 := List.length_filter_le (fits q i) kn
          have h5 : l2.length = (kn.filter (fits q i)).length := by rw [← List.length_map (f := (· ++ [i])) (as := kn.filter (fits q i)), ← h2, List.length_map]
          omega
        · have t6 : Same H' (upd H' p (.lst (l.map (fun z => V.ref z.1) ++ l2.map fun z => V.ref z.1))) := same_upd np
          refine ⟨p, _, _, kn ++ (kn.filter (fits q i)).map (· ++ [i]), rfl, t1.trans (t2.trans (sm.trans t6)), ⟨(t1.trans (t2.trans sm)).free np, l ++ l2, by rw [upd_same, List.map_append], by rw [List.map_append, hl2, h2], fun z hz => ?_⟩, ks.step cl⟩
          rcases List.mem_append.mp hz with hz | hz
          · exact ⟨t6 _ _ (sm _ _ (hl3 z hz).1), (hl3 z hz).2⟩
          · exact ⟨t6 _ _ (h3 z hz).1, (h3 z hz).2.2⟩
    · obtain ⟨D, o3, o4, kn, rfl, t1, hD, ks⟩ := h
      exact ⟨_, rfl, k H1 D kn t1 hD.kn ks⟩
end
end K0
set_option Elab.async false
set_option linter.all false
set_option maxRecDepth 100000
set_option maxHeartbeats 4000000
namespace K0
open PySem PySem.Spec PyProof.Rows L2
abbrev s_lwt : Stmt := top 66
abbrev s_hy : Stmt := top 67
def LI (H : Hp) (a : Addr) (ns : List Int) : Prop := H a = some (.lst (ns.map V.int))
theorem LI.mono {H H' : Hp} (s : Same H H') {a : Addr} {ns : List Int} (h : LI H a ns) : LI H' a ns := s _ _ h
theorem LI.sq {H : Hp} {t : Addr} {ns : List Int} (h : LI H t ns) : SqD H t (ns.map PyData.int) := ⟨_, .inl h, .ints H ns⟩
section
variable {P : Program} {w : World} {K : PySem.W.Frag} {mg : Str → Option Value} {base : Heap} {f : Addr} {fd : FuncData}
/-- _law_weight -/
def spLwt : Sp := fun vs H Q _ => ∃ (a b : Addr) (ns : List Int) (g : List Nat), vs = [.ref a, .ref b] ∧ LI H a ns ∧ H b = some (.lst (nvs g)) ∧ (∀ x ∈ g, x < ns.length) ∧ Ret (.int (wsum ns g)) H Q
theorem sc_lwt : FnScope ["_law_needs_here", "_law_things", "_law_total", "_law_x"] ["_law_needs_here", "_law_things"] (defScope s_lwt) := ⟨rfl, rfl, rfl, by decide +kernel, rfl, by decide +kernel, by decide +kernel⟩
theorem ok_lwt (F : Fun K "_law_weight" "_law_weight" s_lwt f fd) : FnOk P w K mg base (L2.CX P w) 1 f fd ["_law_needs_here", "_law_things"] spLwt := by
  refine F.okX sc_lwt (fun vs H Q E h => ?_) (fun cdv A outer s H vs Q E hr h => ?_)
  · obtain ⟨a, b, ns, g, rfl, _⟩ := h
    rfl
  · obtain ⟨a, b, ns, g, rfl, ha, hb, gn, k⟩ := h
    have nd := sc_lwt.nd
    refine ⟨_, pss_cons (ps_set (i := 2) nd rfl (.inl rfl) pe_int) (pss_cons (ps_for (passes_of rfl) rfl (pi_list (pv 1)) (pg_name (i := 3) nd rfl (.inl rfl))
        (pss_one (ps_set (i := 2) nd rfl (.inl rfl) (pe_op op_add (pv 2) (pe_ix ix_list (pv 0) (pv 3) (fun _ _ => rfl)))))) (pss_one (ps_ret (pv 2)))), ?_⟩
    let Pv : Nat → L2.St → Hp → Prop := fun i σ H' => ∃ o3, σ = [some (.ref a), some (.ref b), some (.int (wsum ns (g.take i))), o3] ∧ Same H H'
    refine ⟨_, rfl, b, rfl, ⟨_, SqL.of hb⟩, for_it (walk_list (K := K) (a := b) (xs := nvs g)) Pv ⟨none, rfl, .refl _⟩ (fun i σ H' _ h => ?_) (fun i x σ H' H2 hi h y => ?_) (fun σ H' h => ?_)⟩
    · obtain ⟨_, _, sm⟩ := h
      exact SqL.of (sm _ _ hb)
    · obtain ⟨o3, rfl, sm⟩ := h
      obtain ⟨rfl, hv⟩ := y
      obtain ⟨z, hz, rfl⟩ := nvs_get hv
      refine ⟨_, rfl, _, rfl, _, rfl, a, _, _, _, rfl, rfl, SqL.of (sm _ _ ha), ints_at (gn z (List.mem_of_getElem? hz)), _, _, rfl, rfl, some (.int (z : Int)), ?_, sm⟩
      have : wsum ns (g.take (i + 1)) = wsum ns (g.take i) + ns.getD z 0 := by
        unfold wsum
        rw [take_at hz, List.map_append, List.sum_append]
        simp
      rw [this]
      rfl
    · obtain ⟨o3, rfl, sm⟩ := h
      rw [nvs_len, List.take_length]
      exact ⟨_, rfl, k H' sm⟩
/-- _law_heavy -/
def spHy : Sp := fun vs H Q _ => ∃ (D a : Addr) (n : Nat) (q : List Pr) (kn : List (List Nat)) (ns : List Int), vs = [.ref D, .ref a] ∧ KnH H D kn ∧ KnS n q kn ∧ LI H a ns ∧ Amt n ns ∧ n ≤ 8 ∧ ∀ r, Hv n q ns 0 r → Ret (.int r) H Q
theorem sc_hy : FnScope ["_law_knots_here", "_law_needs_here", "_law_best", "_law_knot"] ["_law_knots_here", "_law_needs_here"] (defScope s_hy) := ⟨rfl, rfl, rfl, by decide +kernel, rfl, by decide +kernel, by decide +kernel⟩
theorem ok_hy (F : Fun K "_law_heavy" "_law_heavy" s_hy f fd) (B : Blt2 mg) (LW : Df P w K mg base "_law_weight" 1 ["_law_needs_here", "_law_things"] spLwt) : FnOk P w K mg base (L2.CX P w) 2 f fd ["_law_knots_here", "_law_needs_here"] spHy := by
  refine F.okX sc_hy (fun vs H Q E h => ?_) (fun cdv A outer s H vs Q E hr h => ?_)
  · obtain ⟨D, a, n, q, kn, ns, rfl, _⟩ := h
    rfl
  · obtain ⟨D, a, n, q, kn, ns, rfl, hD, ks, ha, am, n8, k⟩ := h
    have nd := sc_hy.nd
    obtain ⟨l, hl1, hl2, hl3⟩ := hD
    refine ⟨_, pss_cons (ps_set (i := 2) nd rfl (.inl rfl) pe_int) (pss_cons (ps_for (passes_of rfl) rfl (pi_list (pv 0)) (pg_name (i := 3) nd rfl (.inl rfl))
        (pss_one (ps_set (i := 2) nd rfl (.inl rfl) (pe_callB (c_max rfl) (by rfl) B.max (by decide +kernel) (pa_cons (pv 2) (pa_cons (pe_df LW hr (by rfl) passUp (pa_cons (pv 1) (pa_cons (pv 3) pa_nil))) pa_nil)))))) (pss_one (ps_ret (pv 2)))), ?_⟩
    let Pv : Nat → L2.St → Hp → Prop := fun i σ H' => ∃ o3 best, σ = [some (.ref D), some (.ref a), some (.int best), o3] ∧ Same H H' ∧ 0 ≤ best ∧ (∀ k ∈ kn.take i, wsum ns k ≤ best) ∧ (best = 0 ∨ ∃ k ∈ kn, best = wsum ns k)
    refine ⟨_, rfl, D, rfl, ⟨_, SqL.of hl1⟩, for_it (walk_list (K := K) (a := D) (xs := l.map fun z => V.ref z.1)) Pv ⟨none, 0, rfl, .refl _, Int.le_refl _, (fun k hk => by cases hk), .inl rfl⟩ (fun i σ H' _ h => ?_) (fun i x σ H' H2 hi h y => ?_) (fun σ H' h => ?_)⟩
    · obtain ⟨_, _, _, sm, _⟩ := h
      exact SqL.of (sm _ _ hl1)
    · obtain ⟨o3, best, rfl, sm, b0, bl, bx⟩ := h
      obtain ⟨rfl, hv⟩ := y
      rw [List.length_map] at hi
      have hli : l[i]? = some l[i] := List.getElem?_eq_getElem hi
      rw [List.getElem?_map, hli] at hv
      cases hv
      have ki : kn[i]? = some l[i].2 := by rw [← hl2, List.getElem?_map, hli]; rfl
      obtain ⟨m, em, cm, bm⟩ := ks.snd _ (List.mem_of_getElem? ki)
      refine ⟨_, rfl, _, rfl, _, rfl, a, l[i].1, ns, l[i].2, rfl, sm _ _ ha, sm _ _ (hl3 _ (List.getElem_mem hi)), fun x hx => ?_, fun H3 s3 => ⟨_, _, rfl, ?_⟩⟩
      · rw [em] at hx
        rw [am.len]
        exact (mem_bits.mp hx).1
      · refine ⟨_, _, rfl, sm.trans s3, ?_, fun k hk => ?_, ?_⟩
        · split <;> omega
        · rw [take_at ki] at hk
          rcases List.mem_append.mp hk with hk | hk
          · have := bl k hk
            split <;> omega
          · rw [List.mem_singleton.mp hk]
            split <;> omega
        · by_cases c : wsum ns l[i].2 > best
          · rw [if_pos c]
            exact .inr ⟨_, List.mem_of_getElem? ki, rfl⟩
          · rw [if_neg c]
            exact bx
    · obtain ⟨o3, best, rfl, sm, b0, bl, bx⟩ := h
      have ll : l.length = kn.length := by rw [← hl2, List.length_map]
      rw [List.length_map, ll, List.take_length] at bl
      refine ⟨_, rfl, k best ⟨?_, fun m c b _ => ?_⟩ H' sm⟩
      · rcases bx with rfl | ⟨k', hk, e⟩
        · refine ⟨0, fun x y hx => ?_, fun x hx => ?_, fun x hx => hx, wM_zero n ns⟩
          · rw [Nat.zero_testBit] at hx
            cases hx
          · rw [Nat.zero_testBit] at hx
            cases hx
        · obtain ⟨m, em, cm, bm⟩ := ks.snd k' hk
          refine ⟨m, cm, bm, fun x hx => ?_, by rw [e, em, wsum_bits]⟩
          rw [Nat.zero_testBit] at hx
          cases hx
      · rw [← wsum_bits]
        exact bl _ (ks.all m c b)
end
end K0
set_option Elab.async false
set_option linter.all false
set_option maxRecDepth 100000
set_option maxHeartbeats 4000000
namespace K0
open PySem PySem.Spec PyProof.Rows L2
abbrev s_nd : Stmt := top 69
abbrev s_lg : Stmt := top 70
section
variable {P : Program} {w : World} {K : PySem.W.Frag} {mg : Str → Option Value} {base : Heap} {f : Addr} {fd : FuncData}
theorem upd_del_get {H : Hp} {d D : Addr} {o : HO} (h : H D = some o) (ne : D ≠ d) : (del H d) D = some o := by
  rw [del_ne ne]
  exact h
/-- _law_needs -/
def spNd : Sp := fun vs H Q _ => ∃ (d : Addr) (n : Nat), vs = [.ref d, .int (n : Int)] ∧ n ≤ 16 ∧ DrO H d ∧ ∀ H' a ns, Same (del H d) H' → DrO H' d → LI (del H' d) a ns → Amt n ns → (∀ x ∈ ns, x ≤ 3) → Q (.ref a) H'
abbrev ndN : List Str := ["_law_draws_here", "_law_many", "_law_mode", "_law_x"]
theorem sc_nd : FnScope ndN ["_law_draws_here", "_law_many"] (defScope s_nd) := ⟨rfl, rfl, rfl, by decide +kernel, rfl, by decide +kernel, by decide +kernel⟩
theorem ok_nd (F : Fun K "_law_needs" "_law_needs" s_nd f fd) (B : Blt2 mg) (TK : Df P w K mg base "_law_take" 1 ["_law_draws_here", "_law_many"] spTk) : FnOk P w K mg base (L2.CX P w) 2 f fd ["_law_draws_here", "_law_many"] spNd := by
  refine F.okX sc_nd (fun vs H Q E h => ?_) (fun cdv A outer s H vs Q E hr h => ?_)
  · obtain ⟨d, n, rfl, _⟩ := h
    rfl
  · obtain ⟨d, n, rfl, n16, dr, k⟩ := h
    have nd := sc_nd.nd
    refine ⟨_, pss_cons (ps_set (i := 2) nd rfl (.inl rfl) (pe_df TK hr (by rfl) passUp (pa_cons (pv 0) (pa_cons pe_int pa_nil))))
      (pss_cons (ps_if (pt_cmpR op_eq (pv 2) pe_int (nomark _)) (pss_one (ps_ret (pe_lc (own := [("_law_x", 3)]) (g := gName 3) (tt := tYes) (te := tC (.int 1)) rfl nd (pi_range1 (by rfl) B.range (pa_cons (pv 1) pa_nil))
        (blkOk_by (N := ndN) (sc := defScope s_nd) (by decide +kernel)) (fun _ _ _ _ _ => pg_name (i := 3) nd rfl (.inl rfl)) (fun _ _ _ _ _ => pts_nil) (fun _ _ _ _ _ => pe_int)))) pss_nil)
      (pss_one (ps_ret (pe_lc (own := [("_law_x", 3)]) (g := gName 3) (tt := tYes) (te := tCall spTk [] (fun _ _ _ => False) (tCons (tVar 0) (tCons (tC (.int 4)) tNil))) rfl nd (pi_range1 (by rfl) B.range (pa_cons (pv 1) pa_nil))
        (blkOk_by (N := ndN) (sc := defScope s_nd) (by decide +kernel)) (fun _ _ _ _ _ => pg_name (i := 3) nd rfl (.inl rfl)) (fun _ _ _ _ _ => pts_nil) (fun _ _ _ _ _ => pe_df TK hr (by rfl) passE0 (pa_cons (pv 0) (pa_cons pe_int pa_nil))))))), ?_⟩
    refine ⟨_, rfl, d, 4, rfl, by decide, dr, fun r H1 r0 r4 s1 dr1 => ?_⟩
    refine ⟨_, rfl, rfl, _, rfl, ?_⟩
    rw [dec_int]
    have fin : ∀ H' D ns, Same (del H1 d) H' → DrO H' d → H1 D = none → LI H' D ns → Amt n ns → (∀ x ∈ ns, x ≤ 3) → Q (.ref D) H' := fun H' D ns t1 dr' nD hD am le => k H' D ns (fun b o e => t1 b o (same_del s1 b o e)) dr' (upd_del_get hD (dr1.ne nD)) am le
    cases e : (r == 0) with
    | true =>
      refine iteT ⟨_, rfl, n, rfl, by omega, by omega, fun D nD => ?_⟩
      rw [Int.toNat_natCast]
      refine lc_range (lo := 0) (n := n) (fun i H' => Same H1 H' ∧ H' D = some (.lst ((List.replicate i (1 : Int)).map V.int))) ⟨same_upd nD, upd_same⟩ (fun i H' hi ⟨sm, hD⟩ => ?_) (fun H' ⟨sm, hD⟩ => ?_)
      · refine ⟨rfl, _, hD, ?_, fun b o h => ?_, ?_⟩
        · rw [List.length_map, List.length_replicate, sizeLine_eq]
          omega
        · rw [upd_ne (ne_of_none h nD)]
          exact sm b o h
        · rw [upd_same, List.replicate_succ', List.map_append]
          rfl
      · exact fin H' D _ (fun b o h => sm b o (del_sub b o h)) (dr1.mono sm) nD hD (ones_amt n) fun x hx => by rw [List.eq_of_mem_replicate hx]; decide
    | false =>
      refine iteF ⟨_, rfl, n, rfl, by omega, by omega, fun D nD => ?_⟩
      have Dd := dr1.ne nD
      rw [Int.toNat_natCast]
      refine lc_range (lo := 0) (n := n) (fun i H' => Same (del H1 d) H' ∧ DrO H' d ∧ ∃ ns, H' D = some (.lst (ns.map V.int)) ∧ Amt i ns ∧ ∀ x ∈ ns, x ≤ 3) ⟨fun b o h => same_upd nD b o (del_sub b o h), dr1.upd Dd, [], upd_same, ⟨rfl, fun x hx => by cases hx⟩, fun x hx => by cases hx⟩ (fun i H' hi ⟨sm, dr', ns, hD, am, le⟩ => ?_) (fun H' ⟨sm, dr', ns, hD, am, le⟩ => ?_)
      · refine ⟨rfl, _, rfl, d, 4, rfl, by decide, dr', fun r2 H2 r20 r24 s2 dr2 => ?_⟩
        have hD2 := s2 _ _ (upd_del_get hD Dd)
        refine ⟨_, hD2, ?_, ?_, dr2.upd Dd, ns ++ [r2], ?_, ⟨by rw [List.length_append, am.len]; rfl, fun x hx => ?_⟩, fun x hx => ?_⟩
        · rw [List.length_map, am.len, sizeLine_eq]
          omega
        · exact sd_upd (fun b o h => s2 b o (same_del sm b o h)) nD Dd
        · rw [upd_same, List.map_append]
          rfl
        · rcases List.mem_append.mp hx with hx | hx
          · exact am.pos x hx
          · rw [List.mem_singleton.mp hx]
            exact r20
        · rcases List.mem_append.mp hx with hx | hx
          · exact le x hx
          · rw [List.mem_singleton.mp hx]
            omega
      · exact fin H' D ns sm dr' nD hD am le
/-- _law_large -/
def spLg : Sp := fun vs H Q _ => ∃ (d a : Addr) (n : Nat) (ns : List Int), vs = [.ref a, .ref d] ∧ n ≤ 16 ∧ DrO H d ∧ LI (del H d) a ns ∧ Amt n ns ∧ (∀ x ∈ ns, x ≤ 3) ∧ ∀ H' b ms, Same (del H d) H' → DrO H' d → LI (del H' d) b ms → Amt n ms → Q (.ref b) H'
abbrev lgN : List Str := ["_law_needs_here", "_law_draws_here", "_law_need"]
theorem sc_lg : FnScope lgN ["_law_needs_here", "_law_draws_here"] (defScope s_lg) := ⟨rfl, rfl, rfl, by decide +kernel, rfl, by decide +kernel, by decide +kernel⟩
theorem ok_lg (F : Fun K "_law_large" "_law_large" s_lg f fd) (TK : Df P w K mg base "_law_take" 1 ["_law_draws_here", "_law_many"] spTk) : FnOk P w K mg base (L2.CX P w) 2 f fd ["_law_needs_here", "_law_draws_here"] spLg := by
  refine F.okX sc_lg (fun vs H Q E h => ?_) (fun cdv A outer s H vs Q E hr h => ?_)
  · obtain ⟨d, a, n, ns, rfl, _⟩ := h
    rfl
  · obtain ⟨d, a, n, ns, rfl, n16, dr, ha, am, le, k⟩ := h
    have nd := sc_lg.nd
    refine ⟨_, pss_one (ps_ret (pe_lc (own := [("_law_need", 2)]) (g := gName 2) (tt := tYes) (te := tOp (rI CMul fun i j => .int (i * j)) (tVar 2) (tOp (rI0 fun i j => .int (i + j)) (tC (.int 1)) (tOp (rI CMul fun i j => .int (i * j)) (tCall spTk [] (fun _ _ _ => False) (tCons (tVar 1) (tCons (tC (.int 3)) tNil))) (tOp (rI CPow fun i j => .int (i ^ j.toNat)) (tC (.int 10)) (tC (.int 9)))))) rfl nd (pi_list (pv 0))
        (blkOk_by (N := lgN) (sc := defScope s_lg) (by decide +kernel)) (fun _ _ _ _ _ => pg_name (i := 2) nd rfl (.inl rfl)) (fun _ _ _ _ _ => pts_nil) (fun _ _ _ _ _ => pe_op op_mul (pv 2) (pe_op op_add pe_int (pe_op op_mul (pe_df TK hr (by rfl) passE0 (pa_cons (pv 1) (pa_cons pe_int pa_nil))) (pe_op op_pow pe_int pe_int)))))), ?_⟩
    have ad : a ≠ d := fun e => by
      unfold LI at ha
      rw [e, del_same] at ha
      cases ha
    have ha0 := del_sub _ _ ha
    refine ⟨_, rfl, a, rfl, ⟨_, SqL.of ha0⟩, fun D nD => ?_⟩
    have Dd := dr.ne nD
    have aN : ∀ {H' : Hp}, Same (del H d) H' → H' a = some (.lst (ns.map V.int)) := fun s => s _ _ ha
    refine lc_it (walk_list (K := K) (a := a) (xs := ns.map V.int)) (fun i H' => Same (del H d) H' ∧ DrO H' d ∧ ∃ ms, H' D = some (.lst (ms.map V.int)) ∧ Amt i ms) ⟨fun b o h => same_upd nD b o (del_sub b o h), dr.upd Dd, [], upd_same, rfl, fun x hx => by cases hx⟩ (fun i H' _ z => SqL.of (aN z.1)) (fun i x H' H2 hi z y => ?_) (fun H' z => ?_)
    · obtain ⟨rfl, hv⟩ := y
      obtain ⟨sm, dr', ms, hD, bm⟩ := z
      rw [List.getElem?_map] at hv
      rw [List.length_map] at hi
      rw [List.getElem?_eq_getElem hi] at hv
      cases hv
      have p0 := am.pos _ (List.getElem_mem hi)
      have p3 := le _ (List.getElem_mem hi)
      refine ⟨rfl, _, rfl, _, rfl, d, 3, rfl, by decide, dr', fun r2 H2 r20 r23 s2 dr2 => ?_⟩
      have hD2 := s2 _ _ (upd_del_get hD Dd)
      refine ⟨_, _, rfl, rfl, ⟨by decide, by decide, by decide⟩, _, _, rfl, rfl, .inl ⟨by omega, by omega⟩, _, _, rfl, rfl, _, _, rfl, rfl, .inl ⟨by omega, by omega⟩, _, hD2, ?_, ?_, dr2.upd Dd, ms ++ [ns[i] * (1 + r2 * 10 ^ ((9 : Int).toNat))], ?_, ⟨by rw [List.length_append, bm.len]; rfl, fun x hx => ?_⟩⟩
      · rw [List.length_map, bm.len, sizeLine_eq]
        have := am.len
        omega
      · exact sd_upd (fun b o h => s2 b o (same_del sm b o h)) nD Dd
      · rw [upd_same, List.map_append]
        rfl
      · rcases List.mem_append.mp hx with hx | hx
        · exact bm.pos x hx
        · rw [List.mem_singleton.mp hx]
          have h1 : (0 : Int) ≤ r2 * 10 ^ ((9 : Int).toNat) := Int.mul_nonneg r20 (by decide)
          exact Int.mul_nonneg p0 (by omega)
    · obtain ⟨sm, dr', ms, hD, bm⟩ := z
      rw [List.length_map, am.len] at bm
      exact k H' D ms sm dr' (upd_del_get hD Dd) bm
end
end K0
set_option Elab.async false
set_option linter.all false
set_option maxRecDepth 100000
set_option maxHeartbeats 4000000
namespace K0
open PySem PySem.Spec PyProof.Rows L2
abbrev s_sp : Stmt := top 71
section
variable {P : Program} {w : World} {K : PySem.W.Frag} {mg : Str → Option Value} {base : Heap} {f : Addr} {fd : FuncData}
/-- _law_spoilt -/
def spSp : Sp := fun vs H Q _ => ∃ (d a : Addr) (n : Nat) (ns : List Int), vs = [.ref d, .ref a] ∧ 1 ≤ n ∧ n ≤ 16 ∧ DrO H d ∧ LI (del H d) a ns ∧ Amt n ns ∧ ∀ H' b v i, Same (del H d) H' → DrO H' d → (del H' d) b = some (.lst [v, .int (i : Nat)]) → NdBad (del H' d) n v i → Q (.ref b) H'
abbrev spN : List Str := ["_law_draws_here", "_law_row_here", "_law_bad", "_law_place", "_law_mode", "_law_two_here", "_law_x"]
theorem sc_sp : FnScope spN ["_law_draws_here", "_law_row_here"] (defScope s_sp) := ⟨rfl, rfl, rfl, by decide +kernel, rfl, by decide +kernel, by decide +kernel⟩
theorem bad_short {n p : Nat} {ns : List Int} (am : Amt n ns) (h : p < n) : BadAt n ((ns.take p).map PyData.int) p := by
  have l : ((ns.take p).map PyData.int).length = p := by rw [List.length_map, List.length_take, am.len]; omega
  refine ⟨fun j hj => ?_, .inr ⟨by rw [l]; omega, by rw [l]; omega⟩⟩
  obtain ⟨d, e, o⟩ := amt_ok am j (by omega)
  refine ⟨d, ?_, o⟩
  rw [List.getElem?_map, List.getElem?_take_of_lt hj, ← List.getElem?_map]
  exact e
theorem bad_long {n : Nat} {ns : List Int} (am : Amt n ns) : BadAt n ((ns ++ [0]).map PyData.int) n := by
  have l : ((ns ++ [0]).map PyData.int).length = n + 1 := by rw [List.length_map, List.length_append, am.len]; rfl
  refine ⟨fun j hj => ?_, .inr ⟨by rw [l]; omega, by rw [l]; omega⟩⟩
  obtain ⟨d, e, o⟩ := amt_ok am j hj
  refine ⟨d, ?_, o⟩
  rw [List.map_append, List.getElem?_append_left (by rw [List.length_map, am.len]; exact hj)]
  exact e
/-- what takes the place of an amount -/
def BadV (H : Hp) (v : V) (d : PyData) : Prop := (v = .int (-1) ∧ d = .int (-1)) ∨ (v = .bl true ∧ d = .bool true) ∨ (v = .non ∧ d = .none)
theorem BadV.dt {H : Hp} {v : V} {d : PyData} (h : BadV H v d) (H' : Hp) : Dt H' v d := by
  rcases h with ⟨rfl, rfl⟩ | ⟨rfl, rfl⟩ | ⟨rfl, rfl⟩
  · exact .int _
  · exact .bl _
  · exact .non
theorem BadV.no {H : Hp} {v : V} {d : PyData} (h : BadV H v d) : okNd d = false := by
  rcases h with ⟨rfl, rfl⟩ | ⟨rfl, rfl⟩ | ⟨rfl, rfl⟩ <;> rfl
def spoV (v : V) (p n : Nat) (two : Bool) (ns : List Int) (x : Nat) : V := if x = p ∨ (two = true ∧ x = n - 1) then v else .int (ns.getD x 0)
def spoD (d : PyData) (p n : Nat) (two : Bool) (ns : List Int) (x : Nat) : PyData := if x = p ∨ (two = true ∧ x = n - 1) then d else .int (ns.getD x 0)
theorem spo_dta {H : Hp} {v : V} {d : PyData} (hv : Dt H v d) (p n : Nat) (two : Bool) (ns : List Int) : ∀ l : List Nat, DtAll H (l.map (spoV v p n two ns)) (l.map (spoD d p n two ns))
  | [] => .nil
  | x :: l => by
    refine .cons ?_ (spo_dta hv p n two ns l)
    unfold spoV spoD
    by_cases c : x = p ∨ (two = true ∧ x = n - 1)
    · rw [if_pos c, if_pos c]; exact hv
    · rw [if_neg c, if_neg c]; exact .int _
theorem bad_spo {n p : Nat} {ns : List Int} (am : Amt n ns) (h : p < n) {d : PyData} (hd : okNd d = false) (two : Bool) : BadAt n ((List.range n).map (spoD d p n two ns)) p := by
  have at_ : ∀ j, j < n → ((List.range n).map (spoD d p n two ns))[j]? = some (spoD d p n two ns j) := fun j hj => by
    rw [List.getElem?_map, List.getElem?_range hj]
    rfl
  refine ⟨fun j hj => ⟨_, at_ j (by omega), ?_⟩, .inl ⟨h, _, at_ p h, ?_⟩⟩
  · unfold spoD
    rw [if_neg (by omega)]
    have hl : j < ns.length := by rw [am.len]; omega
    rw [List.getD_eq_getElem?_getD, List.getElem?_eq_getElem hl]
    exact decide_eq_true (am.pos _ (List.getElem_mem hl))
  · unfold spoD
    rw [if_pos (.inl rfl)]
    exact hd
theorem ok_sp (F : Fun K "_law_spoilt" "_law_spoilt" s_sp f fd) (B : Blt2 mg) (TK : Df P w K mg base "_law_take" 1 ["_law_draws_here", "_law_many"] spTk) : FnOk P w K mg base (L2.CX P w) 2 f fd ["_law_draws_here", "_law_row_here"] spSp := by
  refine F.okX sc_sp (fun vs H Q E h => ?_) (fun cdv A outer s H vs Q E hr h => ?_)
  · obtain ⟨d, a, n, ns, rfl, _⟩ := h
    rfl
  · obtain ⟨d, a, n, ns, rfl, n1, n16, dr, ha, am, k⟩ := h
    have nd := sc_sp.nd
    let ttB : TT := tOr (tTest (tOp rEq (tVar 6) (tVar 3))) (tAnd (tB (tVar 5)) (tTest (tOp rEq (tVar 6) (tOp rSubI (tCB (rLenI K) (tCons (tVar 1) tNil)) (tC (.int 1))))))
    refine ⟨_, pss_cons (ps_set (i := 2) nd rfl (.inr rfl) (pe_ix ix_list (pe_lst (pa_cons (pe_un un_neg pe_int) (pa_cons pe_bl (pa_cons pe_non pa_nil)))) (pe_df TK hr (by rfl) passUp (pa_cons (pv 0) (pa_cons pe_int pa_nil))) (fun _ _ => rfl)))
      (pss_cons (ps_set (i := 3) nd rfl (.inr rfl) (pe_df TK hr (by rfl) passUp (pa_cons (pv 0) (pa_cons (pe_callB c_len (by rfl) B.len PySem.boot_len (pa_cons (pv 1) pa_nil)) pa_nil))))
      (pss_cons (ps_set (i := 4) nd rfl (.inl rfl) (pe_df TK hr (by rfl) passUp (pa_cons (pv 0) (pa_cons pe_int pa_nil))))
      (pss_cons (ps_if (pt_cmpR op_eq (pv 4) pe_int (nomark _)) (pss_one (ps_ret (pe_lst (pa_cons (pe_slice sl_list (pv 1) po_none (po_some (pv 3))) (pa_cons (pv 3) pa_nil))))) pss_nil)
      (pss_cons (ps_if (pt_cmpR op_eq (pv 4) pe_int (nomark _)) (pss_one (ps_ret (pe_lst (pa_cons (pe_op op_cat (pv 1) (pe_lst (pa_cons pe_int pa_nil))) (pa_cons (pe_callB c_len (by rfl) B.len PySem.boot_len (pa_cons (pv 1) pa_nil)) pa_nil))))) pss_nil)
      (pss_cons (ps_set (i := 5) nd rfl (.inr rfl) (pe_cmpR op_eq (pv 4) pe_int (nomark _)))
      (pss_one (ps_ret (pe_lst (pa_cons (pe_lc (own := [("_law_x", 6)]) (g := gName 6) (tt := tYes) (te := tIf ttB (tVar 2) (tOp (rIxL K) (tVar 1) (tVar 6))) rfl nd (pi_range1 (by rfl) B.range (pa_cons (pe_callB c_len (by rfl) B.len PySem.boot_len (pa_cons (pv 1) pa_nil)) pa_nil))
        (blkOk_by (N := spN) (sc := defScope s_sp) (by decide +kernel)) (fun _ _ _ _ _ => pg_name (i := 6) nd rfl (.inl rfl)) (fun _ _ _ _ _ => pts_nil)
        (fun _ _ _ _ _ => pe_ifExp (PW.pt (pw_or (pt_cmpR op_eq (pv 6) (pv 3) (by rfl)) (pw_or1 (PW.pt (pw_and (pt_val (pv 5)) (pw_and1 (pt_cmpR op_eq (pv 6) (pe_op o_sub (pe_callB c_len (by rfl) B.len PySem.boot_len (pa_cons (pv 1) pa_nil)) pe_int) (by rfl)))))))) (pv 2) (pe_ix ix_list (pv 1) (pv 6) (fun _ _ => rfl)))) (pa_cons (pv 3) pa_nil)))))))))), ?_⟩
    refine ⟨_, rfl, by show 3 ≤ sizeLine; decide, fun L nL => ?_⟩
    have sL : Same H (upd H L (.lst [.int (-1), .bl true, .non])) := same_upd nL
    have Ld := dr.ne nL
    refine ⟨_, rfl, d, 3, rfl, by decide, dr.mono sL, fun r H1 r0 r3 s1 dr1 => ?_⟩
    have t1 : Same (del H d) H1 := fun b o h => s1 b o (by
      by_cases hb : b = d
      · rw [hb, del_same] at h
        cases h
      · rw [del_ne hb] at h ⊢
        exact sL b o h)
    have hL1 : H1 L = some (.lst [.int (-1), .bl true, .non]) := s1 L _ (by rw [del_ne Ld]; exact upd_same)
    obtain ⟨v, dv, hv, bv⟩ : ∃ v dv, atI [V.int (-1), V.bl true, V.non] r = some v ∧ BadV H v dv := by
      obtain ⟨m, rfl⟩ := Int.eq_ofNat_of_zero_le r0
      match m, (show m < 3 by omega) with
      | 0, _ => exact ⟨_, _, atI_nat rfl, .inl ⟨rfl, rfl⟩⟩
      | 1, _ => exact ⟨_, _, atI_nat rfl, .inr (.inl ⟨rfl, rfl⟩)⟩
      | 2, _ => exact ⟨_, _, atI_nat rfl, .inr (.inr ⟨rfl, rfl⟩)⟩
    refine ⟨L, _, _, _, rfl, rfl, SqL.of hL1, hv, ?_⟩
    have ln : (ns.map V.int).length = n := by rw [List.length_map, am.len]
    refine ⟨_, rfl, _, rfl, a, _, rfl, .inl (SqL.of (t1 _ _ ha)), ?_⟩
    refine ⟨d, _, rfl, by rw [ln]; omega, dr1, fun pl H2 p0 pn s2 dr2 => ?_⟩
    rw [ln] at pn
    obtain ⟨p, rfl⟩ := Int.eq_ofNat_of_zero_le p0
    have pn' : p < n := by omega
    have t2 : Same (del H d) H2 := fun b o h => s2 b o (same_del t1 b o h)
    refine ⟨_, rfl, d, 4, rfl, by decide, dr2, fun md H3 m0 m4 s3 dr3 => ?_⟩
    have t3 : Same (del H d) H3 := fun b o h => s3 b o (same_del t2 b o h)
    have ha3 : H3 a = some (.lst (ns.map V.int)) := t3 _ _ ha
    have fin : ∀ (H' : Hp) (c : Addr) (xs : List V) (ds : List PyData) (i : Nat) (b : Addr), Same H3 H' → H3 c = none → H' c = some (.lst xs) → (∀ G : Hp, DtAll G xs ds) → ds.length ≤ 1000 → BadAt n ds i → H' b = none → Q (.ref b) (upd H' b (.lst [.ref c, .int (i : Nat)])) := fun H' c xs ds i b sm nc hc hd few bad nb => by
      have t4 : Same H' (upd H' b (.lst [.ref c, .int (i : Nat)])) := same_upd nb
      have cd := dr3.ne nc
      have bd := (dr3.mono sm).ne nb
      refine k _ b (.ref c) i (fun a o h => t4 a o (sm a o (t3 a o h))) ((dr3.mono sm).mono t4) (upd_del_get upd_same bd) ⟨c, ds, rfl, ⟨xs, .inl (upd_del_get (t4 _ _ hc) cd), hd _⟩, few, bad⟩
    refine ⟨_, rfl, rfl, _, rfl, ?_⟩
    rw [dec_int]
    cases e0 : (md == 0) with
    | true =>
      refine iteT ⟨_, rfl, _, rfl, _, rfl, a, _, rfl, SqL.of ha3, fun c nc => ⟨_, rfl, by show 2 ≤ sizeLine; decide, fun b nb => ?_⟩⟩
      rw [cut_take] at nb ⊢
      refine fin _ c ((ns.map V.int).take p) ((ns.take p).map PyData.int) p b (same_upd nc) nc upd_same (fun G => by rw [← List.map_take]; exact .ints G _) ?_ (bad_short am pn') nb
      rw [List.length_map, List.length_take]
      omega
    | false =>
      refine iteF ⟨_, rfl, rfl, _, rfl, ?_⟩
      rw [dec_int]
      cases e1 : (md == 1) with
      | true =>
        refine iteT ⟨_, rfl, by show 1 ≤ sizeLine; decide, fun z nz => ⟨a, z, _, _, rfl, rfl, (same_upd nz) _ _ ha3, upd_same, ?_, fun c nc => ?_⟩⟩
        · rw [ln, sizeLine_eq]
          show n + 1 ≤ _
          omega
        · have t5 := (same_upd (o := .lst [V.int 0]) nz).trans (same_upd (o := .lst (ns.map V.int ++ [.int 0])) nc)
          refine ⟨_, rfl, a, _, rfl, .inl (SqL.of (t5 _ _ ha3)), by show 2 ≤ sizeLine; decide, fun b nb => ?_⟩
          rw [ln]
          refine fin _ c (ns.map V.int ++ [.int 0]) ((ns ++ [0]).map PyData.int) n b t5 ((same_upd nz).free nc) upd_same (fun G => ?_) ?_ (bad_long am) nb
          · have := DtAll.ints G (ns ++ [0])
            rw [List.map_append] at this
            exact this
          · rw [List.length_map, List.length_append, am.len]
            show n + 1 ≤ _
            omega
      | false =>
        refine iteF ⟨_, rfl, rfl, ?_⟩
        rw [dec_int]
        generalize (md == 3) = two
        refine ⟨_, rfl, a, _, rfl, .inl (SqL.of ha3), _, rfl, by rw [ln]; omega, by rw [ln]; omega, fun D nD => ?_⟩
        rw [ln, Int.toNat_natCast]
        refine lc_range (lo := 0) (n := n) (fun i H' => Same H3 H' ∧ H' D = some (.lst ((List.range i).map (spoV v p n two ns)))) ⟨same_upd nD, upd_same⟩ (fun i H' hi ⟨sm, hD⟩ => ?_) (fun H' ⟨sm, hD⟩ => ?_)
        · refine ⟨rfl, ?_⟩
          rw [Int.zero_add]
          have sq : SqL K H' a (ns.map V.int) := SqL.of (sm _ _ ha3)
          have next : ∀ u, u = spoV v p n two ns i → ∃ acc, H' D = some (.lst acc) ∧ acc.length < sizeLine ∧ (Same H3 (upd H' D (.lst (acc ++ [u]))) ∧ (upd H' D (.lst (acc ++ [u]))) D = some (.lst ((List.range (i + 1)).map (spoV v p n two ns)))) := fun u eu => by
            refine ⟨_, hD, ?_, fun b o h => ?_, ?_⟩
            · rw [List.length_map, List.length_range, sizeLine_eq]
              omega
            · rw [upd_ne (ne_of_none h nD)]
              exact sm b o h
            · rw [upd_same, List.range_succ, List.map_append, eu]
              rfl
          refine ⟨_, rfl, _, rfl, rfl, _, rfl, ?_⟩
          rw [dec_int]
          by_cases c : i = p
          · rw [show (((i : Nat) : Int) == ((p : Nat) : Int)) = true from beq_iff_eq.mpr (by omega)]
            refine iteT (iteT ⟨_, rfl, next _ ?_⟩)
            unfold spoV
            rw [if_pos (.inl c)]
          · rw [show (((i : Nat) : Int) == ((p : Nat) : Int)) = false from beq_eq_false_iff_ne.mpr (by omega)]
            refine iteF ⟨_, rfl, _, rfl, ?_⟩
            cases two with
            | true =>
              refine iteT ⟨_, rfl, _, rfl, a, _, rfl, .inl sq, _, _, rfl, rfl, rfl, _, rfl, ?_⟩
              rw [dec_int, ln]
              by_cases c2 : i = n - 1
              · rw [show (((i : Nat) : Int) == ((n : Nat) : Int) - 1) = true from beq_iff_eq.mpr (by omega)]
                refine iteT ⟨_, rfl, next _ ?_⟩
                unfold spoV
                rw [if_pos (.inr ⟨rfl, c2⟩)]
              · rw [show (((i : Nat) : Int) == ((n : Nat) : Int) - 1) = false from beq_eq_false_iff_ne.mpr (by omega)]
                refine iteF ⟨_, rfl, _, rfl, a, _, _, _, rfl, rfl, sq, ints_at (by rw [am.len]; exact hi), next _ ?_⟩
                unfold spoV
                rw [if_neg (fun h => h.elim c fun h => c2 h.2)]
            | false =>
              refine iteF (iteF ⟨_, rfl, _, rfl, a, _, _, _, rfl, rfl, sq, ints_at (by rw [am.len]; exact hi), next _ ?_⟩)
              unfold spoV
              rw [if_neg (fun h => h.elim c fun h => Bool.false_ne_true h.1)]
        · refine ⟨_, rfl, by show 2 ≤ sizeLine; decide, fun b nb => ?_⟩
          refine fin _ D _ ((List.range n).map (spoD dv p n two ns)) p b sm nD hD (fun G => spo_dta (bv.dt G) p n two ns _) ?_ (bad_spo am pn' bv.no two) nb
          rw [List.length_map, List.length_range]
          omega
end
end K0
set_option Elab.async false
set_option linter.all false
set_option maxRecDepth 100000
set_option maxHeartbeats 4000000
namespace K0
open PySem PySem.Spec PyProof.Rows L2
/-! ### raises, as mathematics -/
theorem addI_at {n : Nat} {ns ms : List Int} (am : Amt n ns) (bm : Amt n ms) {x : Nat} (hx : x < n) : (addI ns ms).getD x 0 = ns.getD x 0 + ms.getD x 0 := by
  have h1 : x < ns.length := by rw [am.len]; exact hx
  have h2 : x < ms.length := by rw [bm.len]; exact hx
  unfold addI
  rw [List.getD_eq_getElem?_getD, List.getD_eq_getElem?_getD, List.getD_eq_getElem?_getD, List.getElem?_zipWith, List.getElem?_eq_getElem h1, List.getElem?_eq_getElem h2]
  rfl
theorem Amt.at {n : Nat} {ns : List Int} (am : Amt n ns) (x : Nat) : 0 ≤ ns.getD x 0 := by
  rw [List.getD_eq_getElem?_getD]
  cases e : ns[x]? with
  | none => exact Int.le_refl _
  | some v => exact am.pos v (List.mem_of_getElem? e)
theorem wM_addI {n : Nat} {ns ms : List Int} (am : Amt n ns) (bm : Amt n ms) (m : Nat) : wM n (addI ns ms) m = wM n ns m + wM n ms m := by
  unfold wM
  rw [← sum_add]
  refine sum_eq n fun x hx => ?_
  rw [addI_at am bm hx]
  split <;> omega
theorem bit_in {x m : Nat} (h : SubM (2 ^ x) m) : m.testBit x = true := h x (by rw [two_bit]; exact decide_eq_true rfl)
theorem in_bit {x m : Nat} (h : m.testBit x = true) : SubM (2 ^ x) m := fun y hy => by
  rw [two_bit, decide_eq_true_iff] at hy
  rw [← hy]
  exact h
theorem zero_sub (m : Nat) : SubM 0 m := fun x hx => by
  rw [Nat.zero_testBit] at hx
  cases hx
section
variable {n : Nat} {q : List Pr} {ns ms : List Int}
theorem wM_nn (bm : Amt n ms) (m : Nat) : 0 ≤ wM n ms m := by
  have := wM_mono bm (zero_sub m)
  rw [wM_zero] at this
  exact this
theorem CostOf.uniq {x : Nat} {a b : Int} (h : CostOf n q ns ms x a) (g : CostOf n q ns ms x b) : a = b := by
  obtain ⟨r, s, h1, h2, e⟩ := h
  obtain ⟨r', s', g1, g2, e'⟩ := g
  have := h1.uniq g1
  have := h2.uniq g2
  omega
theorem LotC.half {a b : Int} (h : LotC n q ns ms a) (g : LotC n q ns ms b) : a ≤ b := by
  rcases h.ex with rfl | ⟨x, hx, px, c⟩
  · exact g.nn
  · obtain ⟨c', k, l⟩ := g.le x hx px
    rw [c.uniq k]
    exact l
theorem LotC.uniq {a b : Int} (h : LotC n q ns ms a) (g : LotC n q ns ms b) : a = b := Int.le_antisymm (h.half g) (g.half h)
/-- one thing's raise alone -/
def alone (n x : Nat) (v : Int) : List Int := (List.range n).map fun z => if z = x then v else 0
theorem alone_at {x z : Nat} {v : Int} (hz : z < n) : (alone n x v).getD z 0 = if z = x then v else 0 := by
  unfold alone
  rw [List.getD_eq_getElem?_getD, List.getElem?_map, List.getElem?_range hz]
  rfl
/-- the dues of the raises one by one, of the first i things -/
structure Sing (n : Nat) (q : List Pr) (ns ms : List Int) (i : Nat) (r : Int) : Prop where
  nn : 0 ≤ r
  le : ∀ x, x < i → 0 < ms.getD x 0 → ∃ c, CostOf n q ns ms x c ∧ c ≤ r
  ex : r = 0 ∨ ∃ x, x < n ∧ 0 < ms.getD x 0 ∧ CostOf n q ns ms x r
theorem Sing.start : Sing n q ns ms 0 0 := ⟨Int.le_refl _, fun x hx => absurd hx (Nat.not_lt_zero x), .inl rfl⟩
theorem Sing.skip {i : Nat} {r : Int} (h : Sing n q ns ms i r) (no : ¬ 0 < ms.getD i 0) : Sing n q ns ms (i + 1) r := ⟨h.nn, fun x hx px => by
  rcases Nat.lt_or_eq_of_le (Nat.le_of_lt_succ hx) with l | rfl
  · exact h.le x l px
  · exact absurd px no, h.ex⟩
theorem Sing.step {i : Nat} {r d : Int} (hi : i < n) (h : Sing n q ns ms i r) (p : 0 < ms.getD i 0) (l : LotC n q ns (alone n i (ms.getD i 0)) d) : Sing n q ns ms (i + 1) (if d > r then d else r) := by
  have same : ∀ {x c}, x < n → 0 < (alone n i (ms.getD i 0)).getD x 0 → CostOf n q ns (alone n i (ms.getD i 0)) x c → x = i ∧ CostOf n q ns ms i c := fun {x c} hx px ⟨a, s, h1, h2, e⟩ => by
    rw [alone_at hx] at px e
    by_cases ee : x = i
    · subst ee
      rw [if_pos rfl] at e
      exact ⟨rfl, a, s, h1, h2, e⟩
    · rw [if_neg ee] at px
      exact absurd px (Int.lt_irrefl _)
  have pi : 0 < (alone n i (ms.getD i 0)).getD i 0 := by
    rw [alone_at hi, if_pos rfl]
    exact p
  have g : (if d > r then d else r) ≥ r ∧ (if d > r then d else r) ≥ d := by split <;> omega
  refine ⟨Int.le_trans h.nn g.1, fun x hx px => ?_, ?_⟩
  · rcases Nat.lt_or_eq_of_le (Nat.le_of_lt_succ hx) with lt | rfl
    · obtain ⟨c, co, le⟩ := h.le x lt px
      exact ⟨c, co, by omega⟩
    · obtain ⟨c, co, le⟩ := l.le x hi pi
      exact ⟨c, (same hi pi co).2, by omega⟩
  · by_cases c : d > r
    · rw [if_pos c]
      rcases l.ex with e | ⟨x, hx, px, co⟩
      · exact .inl e
      · exact .inr ⟨i, hi, p, (same hx px co).2⟩
    · rw [if_neg c]
      exact h.ex
end
end K0
set_option Elab.async false
set_option linter.all false
set_option maxRecDepth 100000
set_option maxHeartbeats 4000000
namespace K0
open PySem PySem.Spec PyProof.Rows L2
section
variable {X : Cx} {e : Expr} {es : List Expr} {t : TA} {p pos : Pos}
theorem pe_dfS {x : Str} {k : Nat} {ps : List Str} {sp : Sp} {E : L2.St → XK} (T : Df X.prog X.w X.K X.mg X.base x k ps sp) (hr : Room k X.A) (hg : Gl X x) (hx : ∀ σ, PassesAt (L2.CX X.prog X.w) X σ (E σ)) (ha : PA X (e :: es) t)
    (hdb : (x == ("__debug__" : Str)) = false := by decide) (he : starEach (e :: es) X.env = (false, eval e X.env) :: starEach es X.env := by rfl) (hpl : (backTo pos (starEach es X.env)).any (·.1) = false := by rfl) :
    PE X (.Call (.Name x p) (e :: es) [] pos) (tCallS sp E t) := by
  obtain ⟨f, fd, g, kp, F, b⟩ := T.ex
  refine ⟨fun pins s σ H Q I h => ?_⟩
  refine wpAny_Call_Name_kw (ld_glob I hg g ?_ hdb)
  refine PySem.W.callWith_K (h₀ := X.base) I.ok.mod.kin kp (thn (ha.run pos pins s σ H _ I h) fun us s1 ⟨vs, H1, I1, r, q⟩ => ⟨I1.kIn, ?_⟩) he hpl
  exact run_anyS ⟨hr, rfl⟩ F b (hx σ) I1 r q
end
end K0
set_option Elab.async false
set_option linter.all false
set_option maxRecDepth 100000
set_option maxHeartbeats 4000000
namespace K0
open PySem PySem.Spec PyProof.Rows L2
section
variable {P : Program} {w : World} {K : PySem.W.Frag} {mg : Str → Option Value} {base : Heap} {f : Addr} {fd : FuncData}
/-- slack(web, needs, thing), right or wrong -/
def spSlx (C CND CT : Addr) : Sp := fun vs H Q E => ∃ (p : Addr) (v u : V) (d : PyData) (n : Nat) (q : List Pr), vs = [.ref p, v, u] ∧ WebAt C H p (n : Int) q ∧ 2 ≤ n ∧ n ≤ 8 ∧ Dt H u d ∧
  ((∃ (ns : List Int) (x : Nat), NdOk H n v ns ∧ Amt n ns ∧ u = .int (x : Int) ∧ x < n ∧ ∀ r s, Hv n q ns 0 r → Hv n q ns (2 ^ x) s → Ret (.int (r - s)) H Q) ∨ (∃ i, NdBad H n v i ∧ Rz CND [("place", .int (i : Nat))] H E) ∨ ∃ ns, NdOk H n v ns ∧ Amt n ns ∧ isTh (n : Int) d = false ∧ Rz CT [("thing", u)] H E)
theorem ok_slx {C CND CT e0 : Addr} (F : Fun K "slack" "slack" s_sl f fd) (T : WebC K C) (h0 : ∀ H : Hp, SqT K H e0 []) (CKN : Df P w K mg base "check_needs" 3 ["many", "needs"] (spCkn CND)) (CH : Df P w K mg base "check_thing" 3 ["many", "thing"] (spCt CT)) (HV : DfD P w K mg base "heaviest" 7 ["web", "needs", "holding"] [.ref e0] (spHv K C)) (HV3 : Df P w K mg base "heaviest" 7 ["web", "needs", "holding"] (spHv K C)) : FnOk P w K mg base (L2.CX P w) 8 f fd ["web", "needs", "thing"] (spSlx C CND CT) := by
  refine F.okX sc_sl (fun vs H Q E h => ?_) (fun cdv A outer s H vs Q E hr h => ?_)
  · obtain ⟨p, v, u, d, n, q, rfl, _⟩ := h
    rfl
  · obtain ⟨p, v, u, d, n, q, rfl, W, n2, n8, hu, h⟩ := h
    obtain ⟨⟨ddx, cc, m, l0, h1, h2, h3, h4, h5⟩, cl, n0, n16⟩ := id W
    have nd := sc_sl.nd
    have r3 : Room 3 _ := hr.mono (by decide)
    refine ⟨_, pss_cons (ps_set (i := 3) nd rfl (.inl rfl) (pe_df CKN r3 (by rfl) passUp (pa_cons (pe_fld (pv 0) rfl) (pa_cons (pv 1) pa_nil))))
      (pss_cons (ps_expr (pe_df CH r3 (by rfl) passUp (pa_cons (pe_fld (pv 0) rfl) (pa_cons (pv 2) pa_nil))))
      (pss_one (ps_ret (pe_op op_sub (pe_dfd HV hr (by rfl) passUp (pa_cons (pv 0) (pa_cons (pv 3) pa_nil))) (pe_df HV3 hr (by rfl) passUp (pa_cons (pv 0) (pa_cons (pv 3) (pa_cons (pe_tup (pa_cons (pv 2) pa_nil)) pa_nil)))))))), ?_⟩
    refine ⟨_, rfl, p, C, ddx, _, _, rfl, h1, T.cl, T.nm, wf_many _ _ _, _, rfl, ?_⟩
    dsimp only [tNil, List.append_nil]
    show spCkn CND [V.int (n : Int), v] _ _ _
    rcases h with ⟨ns, x, hv, am, rfl, xn, k⟩ | ⟨i, hb, k⟩ | ⟨ns, hv, am, bad, k⟩
    · refine ckn_ok n2 (by omega) hv am fun H1 told t1 hT => ?_
      have xt : isTh (n : Int) (.int (x : Int)) = true := decide_eq_true (by omega)
      refine ⟨_, rfl, p, C, ddx, _, _, rfl, t1 _ _ h1, T.cl, T.nm, wf_many _ _ _, _, rfl, n, .int (x : Int), .int (x : Int), rfl, .int _, fun _ H2 t2 => ?_, fun bad => by rw [xt] at bad; cases bad⟩
      have t12 := t1.trans t2
      refine ⟨_, rfl, _, rfl, p, told, e0, n, q, ns, [], rfl, W.mono t12, n2, n8, (hT.mono t2).sq, am, HoldAt.none h0, TwoK.none, (fun y hy => by cases hy), fun r hrr H3 t3 => ?_⟩
      refine ⟨_, rfl, _, rfl, _, rfl, by show 1 ≤ sizeLine; decide, fun u nu => ?_⟩
      have t13 := t12.trans (t3.trans (same_upd (o := .tup [.int (x : Int)]) nu))
      refine ⟨p, told, u, n, q, ns, [x], rfl, W.mono t13, n2, n8, (hT.mono (t2.trans (t3.trans (same_upd nu)))).sq, am, HoldAt.one upd_same, TwoK.one, (fun y hy => by rw [List.mem_singleton.mp hy]; exact xn), fun s hss H4 t4 => ?_⟩
      exact ⟨_, _, rfl, rfl, k r s hrr hss H4 (t13.trans t4)⟩
    · exact ckn_bad n2 (by omega) hb k
    · refine ckn_ok n2 (by omega) hv am fun H1 told t1 hT => ?_
      refine ⟨_, rfl, p, C, ddx, _, _, rfl, t1 _ _ h1, T.cl, T.nm, wf_many _ _ _, _, rfl, n, u, d, rfl, hu.mono t1, fun ok => (by rw [bad] at ok; cases ok), fun _ H' e s he => k H' e (t1.trans s) he⟩
end
end K0
set_option Elab.async false
set_option linter.all false
set_option maxRecDepth 100000
set_option maxHeartbeats 4000000
namespace K0
open PySem PySem.Spec PyProof.Rows L2
abbrev s_li : Stmt := top 48
abbrev s_ck : Stmt := top 49
def BadT (n : Nat) (v : V) (d : PyData) : Prop := (v = .int (-1) ∧ d = .int (-1)) ∨ (v = .int (n : Int) ∧ d = .int (n : Int)) ∨ (v = .bl true ∧ d = .bool true) ∨ (v = .non ∧ d = .none) ∨ (v = .str "0" ∧ d = .str "0")
theorem BadT.dt {n : Nat} {v : V} {d : PyData} (h : BadT n v d) (H' : Hp) : Dt H' v d := by
  rcases h with ⟨rfl, rfl⟩ | ⟨rfl, rfl⟩ | ⟨rfl, rfl⟩ | ⟨rfl, rfl⟩ | ⟨rfl, rfl⟩
  · exact .int _
  · exact .int _
  · exact .bl _
  · exact .non
  · exact .str _
theorem BadT.no {n : Nat} {v : V} {d : PyData} (h : BadT n v d) : isTh (n : Int) d = false := by
  rcases h with ⟨rfl, rfl⟩ | ⟨rfl, rfl⟩ | ⟨rfl, rfl⟩ | ⟨rfl, rfl⟩ | ⟨rfl, rfl⟩
  · show decide ((0 : Int) ≤ -1 ∧ (-1 : Int) < (n : Int)) = false
    exact decide_eq_false (by omega)
  · show decide ((0 : Int) ≤ (n : Int) ∧ (n : Int) < (n : Int)) = false
    exact decide_eq_false (by omega)
  · rfl
  · rfl
  · rfl
theorem BadT.lay {n : Nat} {v : V} {d : PyData} (h : BadT n v d) : PyData.canLay0 d = true ∧ PyData.depth d = 0 := by
  rcases h with ⟨rfl, rfl⟩ | ⟨rfl, rfl⟩ | ⟨rfl, rfl⟩ | ⟨rfl, rfl⟩ | ⟨rfl, rfl⟩ <;> simp [PyData.canLay0, PyData.depth] <;> decide +kernel
def kvD (k : Str) (d : PyData) : PyData := .list [.str k, d]
theorem kv_lay {k : Str} {d : PyData} (hk : PyData.strOk k = true) (hd : PyData.canLay0 d = true) : PyData.canLay0 (kvD k d) = true := by
  unfold kvD
  simp [PyData.canLay0, PyData.canLayAll0, hk, hd]
theorem kv_shaped {k : Str} {d : PyData} (hk : PyData.strOk k = true) (hd : PyData.canLay0 d = true) (h0 : PyData.depth d = 0) : SeqAt.shaped (kvD k d) = true := by
  unfold SeqAt.shaped
  rw [Bool.and_eq_true, decide_eq_true_iff]
  refine ⟨kv_lay hk hd, ?_⟩
  unfold kvD
  simp only [PyData.depth, PyData.depthAll, h0]
  decide
theorem kv_dt {H : Hp} {a : Addr} {k : Str} {v : V} {d : PyData} (h : H a = some (.lst [.str k, v])) (hv : Dt H v d) : Dt H (.ref a) (kvD k d) := .lst h (.cons (.str k) (.cons hv .nil))
theorem wM_alone {n x : Nat} (hx : x < n) (e : Int) (m : Nat) : wM n (alone n x e) m = if m.testBit x = true then e else 0 := by
  unfold wM
  have h : ((List.range n).map fun z => if z = x then (if m.testBit x = true then e else 0) else (0 : Int)).sum = if m.testBit x = true then e else 0 := by rw [sum_one, if_pos hx]
  rw [← h]
  refine sum_eq n fun z hz => ?_
  rw [alone_at hz]
  by_cases c : z = x
  · subst c
    rw [if_pos rfl, if_pos rfl]
  · rw [if_neg c, if_neg c]
    split <;> rfl
theorem hv_less {n : Nat} {q : List Pr} {ns : List Int} {h : Nat} {R S : Int} (hR : Hv n q ns 0 R) (hS : Hv n q ns h S) : S ≤ R := by
  obtain ⟨m, c, b, i, e⟩ := hS.ex
  have := hR.le m c b (zero_sub m)
  omega
theorem new_del {H0 H : Hp} {d : Addr} (hd : H0 d ≠ none) : Same (New H0 H) (del H d) := fun b o e => by
  unfold New at e
  cases h : H0 b with
  | none =>
    rw [h] at e
    have ne : b ≠ d := fun z => by
      rw [z] at h
      exact hd h
    rw [del_ne ne]
    exact e
  | some x =>
    rw [h] at e
    cases e
theorem DrO.at {H : Hp} {d : Addr} (h : DrO H d) : H d ≠ none := by
  obtain ⟨ns, h1, _⟩ := h
  rw [h1]
  exact fun z => nomatch z
def OutN (H : Hp) (d : Addr) (N : Nat) (Q : VK) : Prop := ∀ H' a ns, Same (del H d) H' → DrO H' d → LI (del H' d) a ns → Amt N ns → Q (.ref a) H'
theorem ifNd {c : Bool} {A B : Prop} {H : Hp} {d : Addr} {N : Nat} {KK : VK} (rest : OutN H d N KK) (hA : c = true → OutN H d N KK → A) (hB : OutN H d N KK → B) : if c = true then A else B := by
  cases c
  · exact hB rest
  · exact hA rfl rest
def listD (ns : List Int) : PyData := .list (ns.map PyData.int)
theorem ints_lay : ∀ ns : List Int, PyData.canLayAll0 (ns.map PyData.int) = true
  | [] => by simp [PyData.canLayAll0]
  | z :: cs => by
    rw [List.map_cons]
    simp only [PyData.canLayAll0, PyData.canLay0, ints_lay cs]
    rfl
theorem listD_lay (ns : List Int) : PyData.canLay0 (listD ns) = true := by
  unfold listD
  simp only [PyData.canLay0, ints_lay]
theorem listD_shaped (ns : List Int) : SeqAt.shaped (listD ns) = true := by
  unfold SeqAt.shaped
  rw [Bool.and_eq_true, decide_eq_true_iff]
  refine ⟨listD_lay ns, ?_⟩
  unfold listD
  simp only [PyData.depth, depth_ints]
  decide
section
variable {P : Program} {w : World} {K : PySem.W.Frag} {mg : Str → Option Value} {base : Heap} {f : Addr} {fd : FuncData}
theorem same_trd {H H1 H2 : Hp} {d : Addr} (a : Same (del H d) H1) (b : Same (del H1 d) H2) : Same (del H d) H2 := fun x o h => b x o (same_del a x o h)
theorem same_und {H H' : Hp} {d : Addr} (a : Same H H') : Same (del H d) H' := fun x o h => a x o (del_sub x o h)
theorem ne_kv {H : Hp} {Q : VK} {a b : Addr} {k : Str} {v : V} {d : PyData} (ha : H a = some (.lst [.str k, v])) (hb : H b = some (.lst [.str k, v])) (hv : Dt H v d) (hk : PyData.strOk k = true) (hd : PyData.canLay0 d = true) (h0 : PyData.depth d = 0) (q : Q (.bl false) H) : rNeD K (.ref a) (.ref b) H Q :=
  ⟨kvD k d, kvD k d, (kv_dt ha hv).dp, (kv_dt hb hv).dp, kv_shaped hk hd h0, kv_shaped hk hd h0, by rw [PySem.SeqAt.eqv_refl _ (kv_lay hk hd)]; exact q⟩
theorem eq_kv {H : Hp} {Q : VK} {a b : Addr} {k : Str} {v : V} {d : PyData} (ha : H a = some (.lst [.str k, v])) (hb : H b = some (.lst [.str k, v])) (hv : Dt H v d) (hk : PyData.strOk k = true) (hd : PyData.canLay0 d = true) (h0 : PyData.depth d = 0) (q : Q (.bl true) H) : rEqD K (.ref a) (.ref b) H Q :=
  ⟨kvD k d, kvD k d, (kv_dt ha hv).dp, (kv_dt hb hv).dp, kv_shaped hk hd h0, kv_shaped hk hd h0, by rw [PySem.SeqAt.eqv_refl _ (kv_lay hk hd)]; exact q⟩
theorem eq_ints {H : Hp} {Q : VK} {a b : Addr} {ns : List Int} (ha : LI H a ns) (hb : LI H b ns) (q : Q (.bl true) H) : rEqD K (.ref a) (.ref b) H Q :=
  ⟨listD ns, listD ns, (Dt.lst ha (.ints H ns)).dp, (Dt.lst hb (.ints H ns)).dp, listD_shaped ns, listD_shaped ns, by rw [PySem.SeqAt.eqv_refl _ (listD_lay ns)]; exact q⟩
def TwoL (k : Str) (v : V) (H : Hp) (Q : VK) : Prop := ∀ H' t, Same H H' → H' t = some (.lst [.str k, v]) → Q (.ref t) H'
theorem sc_li : FnScope ["_law_value"] ["_law_value"] (defScope s_li) := ⟨rfl, rfl, rfl, by decide +kernel, rfl, by decide +kernel, by decide +kernel⟩
theorem ok_li (F : Fun K "_law_int" "_law_int" s_li f fd) (B : Blt2 mg) : FnOk P w K mg base (L2.CX P w) 1 f fd ["_law_value"] spInt := by
  refine F.okX sc_li (fun vs H Q E h => ?_) (fun cdv A outer s H vs Q E hr h => ?_)
  · obtain ⟨v, d, rfl, _⟩ := h
    rfl
  · obtain ⟨v, d, rfl, hv, q⟩ := h
    refine ⟨_, pss_one (ps_ret (pe_and
      (pe_callB call_isi (by rfl) B.isi (by decide +kernel) (pa_cons (pv 0) (pa_cons (pe_bltn (v := .ty "int") (by rfl) B.int (by decide +kernel) rfl) pa_nil)))
      (pe_one (pe_not (pe_callB call_isi (by rfl) B.isi (by decide +kernel) (pa_cons (pv 0) (pa_cons (pe_bltn (v := .ty "bool") (by rfl) B.bool (by decide +kernel) rfl) pa_nil))))))), ?_⟩
    cases hv with
    | non => exact ⟨_, rfl, _, _, _, _, _, rfl, .ty _, .base .non, kit_ty (r := false) (by decide +kernel), _, rfl, iteF q⟩
    | bl b => exact ⟨_, rfl, _, _, _, _, _, rfl, .ty _, .base (.bl b), kit_ty (r := true) (by decide +kernel), _, rfl, iteT ⟨_, rfl, _, _, _, _, _, rfl, .ty _, .base (.bl b), kit_ty (r := true) (by decide +kernel), _, rfl, q⟩⟩
    | int i => exact ⟨_, rfl, _, _, _, _, _, rfl, .ty _, .base (.int i), kit_ty (r := true) (by decide +kernel), _, rfl, iteT ⟨_, rfl, _, _, _, _, _, rfl, .ty _, .base (.int i), kit_ty (r := false) (by decide +kernel), _, rfl, q⟩⟩
    | str x => exact ⟨_, rfl, _, _, _, _, _, rfl, .ty _, .base (.str x), kit_ty (r := false) (by decide +kernel), _, rfl, iteF q⟩
    | tup e _ => exact ⟨_, rfl, _, _, _, _, _, rfl, .ty _, .base (.tup e), kit_ty (r := false) (by decide +kernel), _, rfl, iteF q⟩
    | lst e _ => exact ⟨_, rfl, _, _, _, _, _, rfl, .ty _, .base (.lst e), kit_ty (r := false) (by decide +kernel), _, rfl, iteF q⟩
theorem sc_ck : FnScope ["_law_pairs", "_law_x", "_law_y"] ["_law_pairs", "_law_x", "_law_y"] (defScope s_ck) := ⟨rfl, rfl, rfl, by decide +kernel, rfl, by decide +kernel, by decide +kernel⟩
theorem ok_ck (F : Fun K "_law_clash" "_law_clash" s_ck f fd) (B : Blt2 mg) : FnOk P w K mg base (L2.CX P w) 2 f fd ["_law_pairs", "_law_x", "_law_y"] spCk := by
  refine F.okX sc_ck (fun vs H Q E h => ?_) (fun cdv A outer s H vs Q E hr h => ?_)
  · obtain ⟨b, n, x, y, q, rfl, _⟩ := h
    rfl
  · obtain ⟨b, n, x, y, q, rfl, cl, hl, k⟩ := h
    have hu : (A.deeper (envOfC "_law_clash" (defScope s_ck) s.heap.objs.size f cdv)).units + 65 < cLine := by have := hr.un; omega
    refine ⟨_, pss_one (ps_ret (pe_cmpR (op_inD hu) (pe_tup (pa_cons (pe_callB (c_min rfl) (by rfl) B.min (by decide +kernel) (pa_cons (pv 1) (pa_cons (pv 2) pa_nil))) (pa_cons (pe_callB (c_max rfl) (by rfl) B.max (by decide +kernel) (pa_cons (pv 1) (pa_cons (pv 2) pa_nil))) pa_nil))) (pv 0) (by rfl))), ?_⟩
    refine ⟨_, rfl, _, rfl, _, _, rfl, _, rfl, _, rfl, _, _, rfl, (by show 2 ≤ sizeLine; decide), fun t nt => ?_⟩
    rw [min2, max2]
    have s2 : Same H (upd H t (.tup [.int (min (x : Int) y), .int (max (x : Int) y)])) := same_upd nt
    refine ⟨_, rfl, prD (min (x : Int) y, max (x : Int) y), _, (dt_pr (p := (min (x : Int) y, max (x : Int) y)) upd_same).dp, (hl.mono s2).dp, prD_shaped _, prsL_shaped _, ?_⟩
    rw [prs_any, hasP_mm cl]
    exact k _ s2
end
end K0
set_option Elab.async false
set_option linter.all false
set_option maxRecDepth 100000
set_option maxHeartbeats 4000000
namespace K0
open PySem PySem.Spec PyProof.Rows L2
abbrev s_c2t : Stmt := top 15
abbrev s_rp : Stmt := top 36
abbrev s_pr : Stmt := top 37
/-- two things told wrong, and which is told -/
def ThBad (n : Nat) (u1 u2 : V) (d1 d2 : PyData) (z : V) : Prop := (isTh (n : Int) d1 = false ∧ z = u1) ∨ (isTh (n : Int) d1 = true ∧ isTh (n : Int) d2 = false ∧ z = u2) ∨ ∃ x : Nat, u1 = .int (x : Int) ∧ u2 = .int (x : Int) ∧ x < n ∧ z = .int (x : Int)
def ThOk (n : Nat) (u1 u2 : V) (x y : Nat) : Prop := u1 = .int (x : Int) ∧ u2 = .int (y : Int) ∧ x < n ∧ y < n ∧ x ≠ y
theorem isTh_nat {n x : Nat} (h : x < n) : isTh (n : Int) (.int (x : Int)) = true := decide_eq_true (by omega)
section
variable {P : Program} {w : World} {K : PySem.W.Frag} {mg : Str → Option Value} {base : Heap} {f : Addr} {fd : FuncData}
/-- check_two_things -/
def spC2t (CT : Addr) : Sp := fun vs H Q E => ∃ (n : Nat) (u1 u2 : V) (d1 d2 : PyData), vs = [.int (n : Int), u1, u2] ∧ Dt H u1 d1 ∧ Dt H u2 d2 ∧ ((∃ x y, ThOk n u1 u2 x y ∧ Ret .non H Q) ∨ ∃ z, ThBad n u1 u2 d1 d2 z ∧ Rz CT [("thing", z)] H E)
theorem sc_c2t : FnScope ["many", "x", "y"] ["many", "x", "y"] (defScope s_c2t) := ⟨rfl, rfl, rfl, by decide +kernel, rfl, by decide +kernel, by decide +kernel⟩
theorem ok_c2t {CT : Addr} (F : Fun K "check_two_things" "check_two_things" s_c2t f fd) (CH : Df P w K mg base "check_thing" 3 ["many", "thing"] (spCt CT)) (T : Er P w K mg base "BadThing" CT ["thing"] ["self", "thing"] (spE1 CT "thing")) : FnOk P w K mg base (L2.CX P w) 4 f fd ["many", "x", "y"] (spC2t CT) := by
  refine F.okX sc_c2t (fun vs H Q E h => ?_) (fun cdv A outer s H vs Q E hr h => ?_)
  · obtain ⟨n, u1, u2, d1, d2, rfl, _⟩ := h
    rfl
  · obtain ⟨n, u1, u2, d1, d2, rfl, hu1, hu2, h⟩ := h
    refine ⟨_, pss_cons (ps_expr (pe_df CH hr (by rfl) passUp (pa_cons (pv 0) (pa_cons (pv 1) pa_nil))))
      (pss_cons (ps_expr (pe_df CH hr (by rfl) passUp (pa_cons (pv 0) (pa_cons (pv 2) pa_nil))))
      (pss_one (ps_if (pt_cmpR op_eq (pv 1) (pv 2) (nomark _)) (pss_one (ps_rz1 rfl (takes_of rfl rfl rfl rfl) T (hr.mono (by decide)) (by rfl) (pv 2) (mono_var 2))) pss_nil))), ?_⟩
    rcases h with ⟨x, y, ⟨rfl, rfl, xn, yn, ne⟩, k⟩ | ⟨z, hz, k⟩
    · refine ⟨_, rfl, _, rfl, n, .int (x : Int), .int (x : Int), rfl, .int _, fun _ H1 t1 => ?_, fun bad => by rw [isTh_nat xn] at bad; cases bad⟩
      refine ⟨_, rfl, _, rfl, n, .int (y : Int), .int (y : Int), rfl, .int _, fun _ H2 t2 => ?_, fun bad => by rw [isTh_nat yn] at bad; cases bad⟩
      refine ⟨_, rfl, _, rfl, rfl, _, rfl, ?_⟩
      rw [dec_int, show (((x : Nat) : Int) == ((y : Nat) : Int)) = false from beq_eq_false_iff_ne.mpr (by omega)]
      exact iteF (k H2 (t1.trans t2))
    · rcases hz with ⟨b1, rfl⟩ | ⟨g1, b2, rfl⟩ | ⟨x, rfl, rfl, xn, rfl⟩
      · exact ⟨_, rfl, _, rfl, n, z, d1, rfl, hu1, fun ok => (by rw [b1] at ok; cases ok), fun _ => k⟩
      · refine ⟨_, rfl, _, rfl, n, u1, d1, rfl, hu1, fun _ H1 t1 => ?_, fun bad => by rw [g1] at bad; cases bad⟩
        exact ⟨_, rfl, _, rfl, n, z, d2, rfl, hu2.mono t1, fun ok => (by rw [b2] at ok; cases ok), fun _ H' e s he => k H' e (t1.trans s) he⟩
      · refine ⟨_, rfl, _, rfl, n, .int (x : Int), .int (x : Int), rfl, .int _, fun _ H1 t1 => ?_, fun bad => by rw [isTh_nat xn] at bad; cases bad⟩
        refine ⟨_, rfl, _, rfl, n, .int (x : Int), .int (x : Int), rfl, .int _, fun _ H2 t2 => ?_, fun bad => by rw [isTh_nat xn] at bad; cases bad⟩
        refine ⟨_, rfl, _, rfl, rfl, _, rfl, ?_⟩
        rw [dec_int, show (((x : Nat) : Int) == ((x : Nat) : Int)) = true from beq_iff_eq.mpr rfl]
        refine iteT ⟨_, rfl, fun dd nd => Rz.at (H := H) k (t1.trans t2) nd⟩
/-- the room of a pair: none for a gap -/
def RoomQ (n : Nat) (q : List Pr) (ns : List Int) (x y : Nat) (H : Hp) (Q : VK) : Prop := (hasP q x y = false → Ret .non H Q) ∧ (hasP q x y = true → ∀ r s, Hv n q ns 0 r → Hv n q ns (2 ^ x ||| 2 ^ y) s → Ret (.int (r - s)) H Q)
theorem RoomQ.mono {n : Nat} {q : List Pr} {ns : List Int} {x y : Nat} {H H' : Hp} {Q : VK} (s : Same H H') (h : RoomQ n q ns x y H Q) : RoomQ n q ns x y H' Q := ⟨fun e H2 t => h.1 e H2 (s.trans t), fun e a b ha hb H2 t => h.2 e a b ha hb H2 (s.trans t)⟩
/-- room_of_pair -/
def spRp (C : Addr) : Sp := fun vs H Q _ => ∃ (p a : Addr) (n x y : Nat) (q : List Pr) (ns : List Int), vs = [.ref p, .ref a, .int (x : Int), .int (y : Int)] ∧ WebAt C H p (n : Int) q ∧ 2 ≤ n ∧ n ≤ 8 ∧ TupI H a ns ∧ Amt n ns ∧ x < n ∧ y < n ∧ x ≠ y ∧ RoomQ n q ns x y H Q
theorem sc_rp : FnScope ["web", "needs", "x", "y"] ["web", "needs", "x", "y"] (defScope s_rp) := ⟨rfl, rfl, rfl, by decide +kernel, rfl, by decide +kernel, by decide +kernel⟩
theorem ok_rp {C CT e0 : Addr} (F : Fun K "room_of_pair" "room_of_pair" s_rp f fd) (h0 : ∀ H : Hp, SqT K H e0 []) (CL : Mt P w K mg base C "clash" 4 ["self", "x", "y"] (spCl C CT)) (HV : DfD P w K mg base "heaviest" 7 ["web", "needs", "holding"] [.ref e0] (spHv K C)) (HV3 : Df P w K mg base "heaviest" 7 ["web", "needs", "holding"] (spHv K C)) : FnOk P w K mg base (L2.CX P w) 8 f fd ["web", "needs", "x", "y"] (spRp C) := by
  refine F.okX sc_rp (fun vs H Q E h => ?_) (fun cdv A outer s H vs Q E hr h => ?_)
  · obtain ⟨p, a, n, x, y, q, ns, rfl, _⟩ := h
    rfl
  · obtain ⟨p, a, n, x, y, q, ns, rfl, W, n2, n8, ha, am, xn, yn, ne, k0, k1⟩ := h
    obtain ⟨⟨ddx, cc, m, l0, h1, h2, h3, h4, h5⟩, cl, n0, n16⟩ := id W
    have r4 : Room 4 _ := hr.mono (by decide)
    refine ⟨_, pss_cons (ps_if (pt_not (pt_val (pe_mt1 CL r4 passUp (pv 0) (pa_cons (pv 2) (pa_cons (pv 3) pa_nil))))) (pss_one (ps_ret pe_non)) pss_nil)
      (pss_one (ps_ret (pe_op op_sub (pe_dfd HV hr (by rfl) passUp (pa_cons (pv 0) (pa_cons (pv 1) pa_nil))) (pe_df HV3 hr (by rfl) passUp (pa_cons (pv 0) (pa_cons (pv 1) (pa_cons (pe_tup (pa_cons (pv 2) (pa_cons (pv 3) pa_nil))) pa_nil))))))), ?_⟩
    refine ⟨_, rfl, p, ddx, _, rfl, h1, wf_no _ _ _ (by decide +kernel) (by decide +kernel) (by decide +kernel), _, rfl, _, rfl, p, _, _, .int (x : Int), .int (y : Int), n, q, rfl, W, .int _, .int _, (fun z => absurd z (th_true (by omega))), (fun _ z => absurd z (th_true (by omega))), fun x' y' ex ey hx' hy' H3 s3 => ?_⟩
    have ex' : x' = x := by have := PyData.int.inj ex; omega
    have ey' : y' = y := by have := PyData.int.inj ey; omega
    subst ex' ey'
    refine ⟨_, rfl, ?_⟩
    cases e : hasP q x' y' with
    | false => exact iteT (k0 e H3 s3)
    | true =>
      refine iteF ⟨_, rfl, _, rfl, p, a, e0, n, q, ns, [], rfl, W.mono s3, n2, n8, (ha.mono s3).sq, am, HoldAt.none h0, TwoK.none, (fun y hy => by cases hy), fun r hrr H4 t4 => ?_⟩
      refine ⟨_, rfl, _, rfl, _, rfl, _, rfl, by show 2 ≤ sizeLine; decide, fun u nu => ?_⟩
      have t5 := s3.trans (t4.trans (same_upd (o := .tup [.int (x' : Int), .int (y' : Int)]) nu))
      refine ⟨p, a, u, n, q, ns, [x', y'], rfl, W.mono t5, n2, n8, (ha.mono t5).sq, am, HoldAt.two upd_same, TwoK.two ne e, (fun z hz => ?_), fun s hss H5 t6 => ?_⟩
      · rcases List.mem_cons.mp hz with rfl | hz
        · exact xn
        · rw [List.mem_singleton.mp hz]
          exact yn
      · exact ⟨_, _, rfl, rfl, k1 e r s hrr hss H5 (t5.trans t6)⟩
/-- pair_room, right or wrong -/
def spPm (C CND CT : Addr) : Sp := fun vs H Q E => ∃ (p : Addr) (v u1 u2 : V) (d1 d2 : PyData) (n : Nat) (q : List Pr), vs = [.ref p, v, u1, u2] ∧ WebAt C H p (n : Int) q ∧ 2 ≤ n ∧ n ≤ 8 ∧ Dt H u1 d1 ∧ Dt H u2 d2 ∧
  ((∃ ns x y, NdOk H n v ns ∧ Amt n ns ∧ ThOk n u1 u2 x y ∧ RoomQ n q ns x y H Q) ∨ (∃ i, NdBad H n v i ∧ Rz CND [("place", .int (i : Nat))] H E) ∨ ∃ ns z, NdOk H n v ns ∧ Amt n ns ∧ ThBad n u1 u2 d1 d2 z ∧ Rz CT [("thing", z)] H E)
theorem sc_pr : FnScope ["web", "needs", "x", "y", "told"] ["web", "needs", "x", "y"] (defScope s_pr) := ⟨rfl, rfl, rfl, by decide +kernel, rfl, by decide +kernel, by decide +kernel⟩
theorem ok_pm {C CND CT : Addr} (F : Fun K "pair_room" "pair_room" s_pr f fd) (T : WebC K C) (CKN : Df P w K mg base "check_needs" 3 ["many", "needs"] (spCkn CND)) (C2 : Df P w K mg base "check_two_things" 4 ["many", "x", "y"] (spC2t CT)) (RP : Df P w K mg base "room_of_pair" 8 ["web", "needs", "x", "y"] (spRp C)) : FnOk P w K mg base (L2.CX P w) 9 f fd ["web", "needs", "x", "y"] (spPm C CND CT) := by
  refine F.okX sc_pr (fun vs H Q E h => ?_) (fun cdv A outer s H vs Q E hr h => ?_)
  · obtain ⟨p, v, u1, u2, d1, d2, n, q, rfl, _⟩ := h
    rfl
  · obtain ⟨p, v, u1, u2, d1, d2, n, q, rfl, W, n2, n8, hu1, hu2, h⟩ := h
    obtain ⟨⟨ddx, cc, m, l0, h1, h2, h3, h4, h5⟩, cl, n0, n16⟩ := id W
    have nd := sc_pr.nd
    have r3 : Room 3 _ := hr.mono (by decide)
    have r4 : Room 4 _ := hr.mono (by decide)
    refine ⟨_, pss_cons (ps_set (i := 4) nd rfl (.inl rfl) (pe_df CKN r3 (by rfl) passUp (pa_cons (pe_fld (pv 0) rfl) (pa_cons (pv 1) pa_nil))))
      (pss_cons (ps_expr (pe_df C2 r4 (by rfl) passUp (pa_cons (pe_fld (pv 0) rfl) (pa_cons (pv 2) (pa_cons (pv 3) pa_nil)))))
      (pss_one (ps_ret (pe_df RP hr (by rfl) passUp (pa_cons (pv 0) (pa_cons (pv 4) (pa_cons (pv 2) (pa_cons (pv 3) pa_nil)))))))), ?_⟩
    refine ⟨_, rfl, p, C, ddx, _, _, rfl, h1, T.cl, T.nm, wf_many _ _ _, _, rfl, ?_⟩
    dsimp only [tNil, List.append_nil]
    show spCkn CND [V.int (n : Int), v] _ _ _
    rcases h with ⟨ns, x, y, hv, am, th, k⟩ | ⟨i, hb, k⟩ | ⟨ns, z, hv, am, bad, k⟩
    · refine ckn_ok n2 (by omega) hv am fun H1 told t1 hT => ?_
      refine ⟨_, rfl, p, C, ddx, _, _, rfl, t1 _ _ h1, T.cl, T.nm, wf_many _ _ _, _, rfl, _, rfl, n, u1, u2, d1, d2, rfl, hu1.mono t1, hu2.mono t1, .inl ⟨x, y, th, fun H2 t2 => ?_⟩⟩
      obtain ⟨rfl, rfl, xn, yn, ne⟩ := th
      exact ⟨_, rfl, _, rfl, _, rfl, _, rfl, p, told, n, x, y, q, ns, rfl, W.mono (t1.trans t2), n2, n8, hT.mono t2, am, xn, yn, ne, k.mono (t1.trans t2)⟩
    · exact ckn_bad n2 (by omega) hb k
    · refine ckn_ok n2 (by omega) hv am fun H1 told t1 hT => ?_
      exact ⟨_, rfl, p, C, ddx, _, _, rfl, t1 _ _ h1, T.cl, T.nm, wf_many _ _ _, _, rfl, _, rfl, n, u1, u2, d1, d2, rfl, hu1.mono t1, hu2.mono t1, .inr ⟨z, bad, fun H' e s he => k H' e (t1.trans s) he⟩⟩
end
end K0
set_option Elab.async false
set_option linter.all false
set_option maxRecDepth 100000
set_option maxHeartbeats 4000000
namespace K0
open PySem PySem.Spec PyProof.Rows L2
abbrev s_ft : Stmt := top 38
/-- both raises leave the heaviest weight -/
def FreeT (n : Nat) (q : List Pr) (ns : List Int) (x y : Nat) (s t : Int) (b : Bool) : Prop := b = true ↔ (∀ R A, Hv n q ns 0 R → Hv n q ns (2 ^ x) A → s ≤ R - A) ∧ (∀ R B, Hv n q ns 0 R → Hv n q ns (2 ^ y) B → t ≤ R - B) ∧ (hasP q x y = true → ∀ R D, Hv n q ns 0 R → Hv n q ns (2 ^ x ||| 2 ^ y) D → s + t ≤ R - D)
theorem FreeT.uniq {n : Nat} {q : List Pr} {ns : List Int} {x y : Nat} {s t : Int} {b c : Bool} (h : FreeT n q ns x y s t b) (g : FreeT n q ns x y s t c) : b = c := by
  rw [Bool.eq_iff_iff]
  exact Iff.trans h (Iff.symm g)
/-- two raises told wrong, and which is told -/
def AmBad (e1 e2 : PyData) (z : Str) : Prop := (okN 0 e1 = false ∧ z = "s") ∨ (okN 0 e1 = true ∧ okN 0 e2 = false ∧ z = "t")
theorem okN_int {i : Int} (h : 0 ≤ i) : okN 0 (.int i) = true := decide_eq_true h
section
variable {P : Program} {w : World} {K : PySem.W.Frag} {mg : Str → Option Value} {base : Heap} {f : Addr} {fd : FuncData}
/-- free_together, right or wrong -/
def spFt (C CND CT CN : Addr) : Sp := fun vs H Q E => ∃ (p : Addr) (v u1 u2 w1 w2 : V) (d1 d2 e1 e2 : PyData) (n : Nat) (q : List Pr), vs = [.ref p, v, u1, u2, w1, w2] ∧ WebAt C H p (n : Int) q ∧ 2 ≤ n ∧ n ≤ 8 ∧ Dt H u1 d1 ∧ Dt H u2 d2 ∧ Dt H w1 e1 ∧ Dt H w2 e2 ∧
  ((∃ ns x y s t, NdOk H n v ns ∧ Amt n ns ∧ ThOk n u1 u2 x y ∧ w1 = .int s ∧ w2 = .int t ∧ 0 ≤ s ∧ 0 ≤ t ∧ ∀ b, FreeT n q ns x y s t b → Ret (.bl b) H Q) ∨ (∃ i, NdBad H n v i ∧ Rz CND [("place", .int (i : Nat))] H E) ∨ (∃ ns z, NdOk H n v ns ∧ Amt n ns ∧ ThBad n u1 u2 d1 d2 z ∧ Rz CT [("thing", z)] H E) ∨ ∃ ns x y z, NdOk H n v ns ∧ Amt n ns ∧ ThOk n u1 u2 x y ∧ AmBad e1 e2 z ∧ Rz CN [("name", .str z)] H E)
abbrev ftN : List Str := ["web", "needs", "x", "y", "s", "t", "told", "both"]
theorem sc_ft : FnScope ftN ["web", "needs", "x", "y", "s", "t"] (defScope s_ft) := ⟨rfl, rfl, rfl, by decide +kernel, rfl, by decide +kernel, by decide +kernel⟩
theorem ok_ft {C CND CT CN : Addr} (F : Fun K "free_together" "free_together" s_ft f fd) (T : WebC K C) (CKN : Df P w K mg base "check_needs" 3 ["many", "needs"] (spCkn CND)) (C2 : Df P w K mg base "check_two_things" 4 ["many", "x", "y"] (spC2t CT)) (CNum : DfD P w K mg base "check_number" 3 ["value", "name", "least"] [.int 0] (spCn CN)) (SL : Df P w K mg base "slack" 8 ["web", "needs", "thing"] (spSlx C CND CT)) (RP : Df P w K mg base "room_of_pair" 8 ["web", "needs", "x", "y"] (spRp C)) : FnOk P w K mg base (L2.CX P w) 9 f fd ["web", "needs", "x", "y", "s", "t"] (spFt C CND CT CN) := by
  refine F.okX sc_ft (fun vs H Q E h => ?_) (fun cdv A outer s H vs Q E hr h => ?_)
  · obtain ⟨p, v, u1, u2, w1, w2, d1, d2, e1, e2, n, q, rfl, _⟩ := h
    rfl
  · obtain ⟨p, v, u1, u2, w1, w2, d1, d2, e1, e2, n, q, rfl, W, n2, n8, hu1, hu2, hw1, hw2, h⟩ := h
    obtain ⟨⟨ddx, cc, m, l0, h1, h2, h3, h4, h5⟩, cl, n0, n16⟩ := id W
    have nd := sc_ft.nd
    have r3 : Room 3 _ := hr.mono (by decide)
    have r4 : Room 4 _ := hr.mono (by decide)
    refine ⟨_, pss_cons (ps_set (i := 6) nd rfl (.inl rfl) (pe_df CKN r3 (by rfl) passUp (pa_cons (pe_fld (pv 0) rfl) (pa_cons (pv 1) pa_nil))))
      (pss_cons (ps_expr (pe_df C2 r4 (by rfl) passUp (pa_cons (pe_fld (pv 0) rfl) (pa_cons (pv 2) (pa_cons (pv 3) pa_nil)))))
      (pss_cons (ps_expr (pe_dfd CNum r3 (by rfl) passUp (pa_cons (pv 4) (pa_cons pe_str pa_nil))))
      (pss_cons (ps_expr (pe_dfd CNum r3 (by rfl) passUp (pa_cons (pv 5) (pa_cons pe_str pa_nil))))
      (pss_cons (ps_if (PW.pt (pw_or (pt_cmpR op_gt (pv 4) (pe_df SL hr (by rfl) passUp (pa_cons (pv 0) (pa_cons (pv 6) (pa_cons (pv 2) pa_nil)))) (nomark _)) (pw_or1 (pt_cmpR op_gt (pv 5) (pe_df SL hr (by rfl) passUp (pa_cons (pv 0) (pa_cons (pv 6) (pa_cons (pv 3) pa_nil)))) (nomark _))))) (pss_one (ps_ret pe_bl)) pss_nil)
      (pss_cons (ps_set (i := 7) nd rfl (.inl rfl) (pe_df RP hr (by rfl) passUp (pa_cons (pv 0) (pa_cons (pv 6) (pa_cons (pv 2) (pa_cons (pv 3) pa_nil))))))
      (pss_one (ps_ret (pe_or (pe_cmpR op_isN (pv 7) pe_non (nomark _)) (pe_one (pe_cmpR op_le (pe_op op_add (pv 4) (pv 5)) (pv 7) (nomark _))))))))))), ?_⟩
    refine ⟨_, rfl, p, C, ddx, _, _, rfl, h1, T.cl, T.nm, wf_many _ _ _, _, rfl, ?_⟩
    dsimp only [tNil, List.append_nil]
    show spCkn CND [V.int (n : Int), v] _ _ _
    rcases h with ⟨ns, x, y, s, t, hv, am, th, rfl, rfl, s0, t0, k⟩ | ⟨i, hb, k⟩ | ⟨ns, z, hv, am, bad, k⟩ | ⟨ns, x, y, z, hv, am, th, bad, k⟩
    · refine ckn_ok n2 (by omega) hv am fun H1 told t1 hT => ?_
      refine ⟨_, rfl, p, C, ddx, _, _, rfl, t1 _ _ h1, T.cl, T.nm, wf_many _ _ _, _, rfl, _, rfl, n, u1, u2, d1, d2, rfl, hu1.mono t1, hu2.mono t1, .inl ⟨x, y, th, fun H2 t2 => ?_⟩⟩
      obtain ⟨rfl, rfl, xn, yn, ne⟩ := th
      refine ⟨_, rfl, .int s, .int s, _, 0, rfl, .int _, fun _ => ?_, fun bad => by rw [okN_int s0] at bad; cases bad⟩
      refine ⟨_, rfl, .int t, .int t, _, 0, rfl, .int _, fun _ => ?_, fun bad => by rw [okN_int t0] at bad; cases bad⟩
      have t12 := t1.trans t2
      refine ⟨_, rfl, _, rfl, _, rfl, _, rfl, p, .ref told, .int (x : Int), .int (x : Int), n, q, rfl, W.mono t12, n2, n8, .int _, .inl ⟨ns, x, .inr ⟨told, rfl, (hT.mono t2).sq⟩, am, rfl, xn, fun R A hR hA H3 t3 => ?_⟩⟩
      have t13 := t12.trans t3
      refine ⟨_, _, rfl, rfl, _, rfl, ?_⟩
      by_cases c1 : s > R - A
      · rw [decide_eq_true c1]
        exact iteT (k false ⟨fun h => (nomatch h), fun h => absurd (h.1 R A hR hA) (by omega)⟩ H3 t13)
      · rw [decide_eq_false c1]
        refine iteF ⟨_, rfl, _, rfl, _, rfl, _, rfl, p, .ref told, .int (y : Int), .int (y : Int), n, q, rfl, W.mono t13, n2, n8, .int _, .inl ⟨ns, y, .inr ⟨told, rfl, ((hT.mono t2).mono t3).sq⟩, am, rfl, yn, fun R' B hR' hB H4 t4 => ?_⟩⟩
        obtain rfl := hR.uniq hR'
        have t14 := t13.trans t4
        refine ⟨_, _, rfl, rfl, _, rfl, ?_⟩
        by_cases c2 : t > R - B
        · rw [decide_eq_true c2]
          exact iteT (k false ⟨fun h => (nomatch h), fun h => absurd (h.2.1 R B hR hB) (by omega)⟩ H4 t14)
        · rw [decide_eq_false c2]
          have f1 : ∀ R' A', Hv n q ns 0 R' → Hv n q ns (2 ^ x) A' → s ≤ R' - A' := fun R' A' g1 g2 => by
            rw [← hR.uniq g1, ← hA.uniq g2]
            omega
          have f2 : ∀ R' B', Hv n q ns 0 R' → Hv n q ns (2 ^ y) B' → t ≤ R' - B' := fun R' A' g1 g2 => by
            rw [← hR.uniq g1, ← hB.uniq g2]
            omega
          refine iteF ⟨_, rfl, _, rfl, _, rfl, _, rfl, p, told, n, x, y, q, ns, rfl, W.mono t14, n2, n8, ((hT.mono t2).mono t3).mono t4, am, xn, yn, ne, fun e H5 t5 => ?_, fun e R2 D hR2 hD H5 t5 => ?_⟩
          · refine ⟨_, rfl, rfl, true, rfl, iteT (k true ⟨fun _ => ⟨f1, f2, fun h => by rw [e] at h; cases h⟩, fun _ => rfl⟩ H5 (t14.trans t5))⟩
          · obtain rfl := hR.uniq hR2
            refine ⟨_, rfl, rfl, false, rfl, iteF ⟨_, rfl, _, rfl, _, _, rfl, rfl, _, rfl, _, _, rfl, rfl, k _ ?_ H5 (t14.trans t5)⟩⟩
            unfold FreeT
            rw [decide_eq_true_iff]
            exact ⟨fun h => ⟨f1, f2, fun _ R' D' g1 g2 => by rw [← hR.uniq g1, ← hD.uniq g2]; exact h⟩, fun h => h.2.2 e R D hR hD⟩
    · exact ckn_bad n2 (by omega) hb k
    · refine ckn_ok n2 (by omega) hv am fun H1 told t1 hT => ?_
      exact ⟨_, rfl, p, C, ddx, _, _, rfl, t1 _ _ h1, T.cl, T.nm, wf_many _ _ _, _, rfl, _, rfl, n, u1, u2, d1, d2, rfl, hu1.mono t1, hu2.mono t1, .inr ⟨z, bad, fun H' e s he => k H' e (t1.trans s) he⟩⟩
    · refine ckn_ok n2 (by omega) hv am fun H1 told t1 hT => ?_
      refine ⟨_, rfl, p, C, ddx, _, _, rfl, t1 _ _ h1, T.cl, T.nm, wf_many _ _ _, _, rfl, _, rfl, n, u1, u2, d1, d2, rfl, hu1.mono t1, hu2.mono t1, .inl ⟨x, y, th, fun H2 t2 => ?_⟩⟩
      have t12 := t1.trans t2
      rcases bad with ⟨b1, rfl⟩ | ⟨g1, b2, rfl⟩
      · exact ⟨_, rfl, w1, e1, _, 0, rfl, hw1.mono t12, fun ok => (by rw [b1] at ok; cases ok), fun _ H' e s he => k H' e (t12.trans s) he⟩
      · refine ⟨_, rfl, w1, e1, _, 0, rfl, hw1.mono t12, fun _ => ?_, fun bad => by rw [g1] at bad; cases bad⟩
        exact ⟨_, rfl, w2, e2, _, 0, rfl, hw2.mono t12, fun ok => (by rw [b2] at ok; cases ok), fun _ H' e s he => k H' e (t12.trans s) he⟩
end
end K0
set_option Elab.async false
set_option linter.all false
set_option maxRecDepth 100000
set_option maxHeartbeats 4000000
namespace K0
open PySem PySem.Spec PyProof.Rows L2
abbrev s_hw : Stmt := top 68
section
variable {P : Program} {w : World} {K : PySem.W.Frag} {mg : Str → Option Value} {base : Heap} {f : Addr} {fd : FuncData}
theorem nat_beq (a b : Nat) : (((a : Nat) : Int) == ((b : Nat) : Int)) = decide (a = b) := by
  rw [Bool.eq_iff_iff, beq_iff_eq, decide_eq_true_iff]
  omega
theorem sub_mask {q : List Pr} {g : List Nat} (h : TwoK q g) {m : Nat} : SubM (maskOf g) m ↔ ∀ x ∈ g, m.testBit x = true := by
  constructor
  · exact fun s x hx => s x (by rw [maskOf_bit h]; exact decide_eq_true hx)
  · intro a x hx
    rw [maskOf_bit h, decide_eq_true_iff] at hx
    exact a x hx
/-- _law_heavy_with -/
def spHw : Sp := fun vs H Q _ => ∃ (D a b : Addr) (n : Nat) (g : List Nat) (q : List Pr) (kn : List (List Nat)) (ns : List Int), vs = [.ref D, .ref a, .ref b] ∧ KnH H D kn ∧ KnS n q kn ∧ LI H a ns ∧ H b = some (.lst (nvs g)) ∧ Amt n ns ∧ n ≤ 8 ∧ TwoK q g ∧ (∀ x ∈ g, x < n) ∧ ∀ r, Hv n q ns (maskOf g) r → Ret (.int r) H Q
abbrev hwN : List Str := ["_law_knots_here", "_law_needs_here", "_law_holding", "_law_best", "_law_knot", "_law_x"]
theorem sc_hw : FnScope hwN ["_law_knots_here", "_law_needs_here", "_law_holding"] (defScope s_hw) := ⟨rfl, rfl, rfl, by decide +kernel, rfl, by decide +kernel, by decide +kernel⟩
theorem ok_hw (F : Fun K "_law_heavy_with" "_law_heavy_with" s_hw f fd) (B : Blt2 mg) (LW : Df P w K mg base "_law_weight" 1 ["_law_needs_here", "_law_things"] spLwt) : FnOk P w K mg base (L2.CX P w) 2 f fd ["_law_knots_here", "_law_needs_here", "_law_holding"] spHw := by
  refine F.okX sc_hw (fun vs H Q E h => ?_) (fun cdv A outer s H vs Q E hr h => ?_)
  · obtain ⟨D, a, b, n, g, q, kn, ns, rfl, _⟩ := h
    rfl
  · obtain ⟨D, a, b, n, g, q, kn, ns, rfl, hD, ks, ha, hb, am, n8, tk, gn, k⟩ := h
    have nd := sc_hw.nd
    obtain ⟨l, hl1, hl2, hl3⟩ := hD
    refine ⟨_, pss_cons (ps_set (i := 3) nd rfl (.inl rfl) pe_int) (pss_cons (ps_for (passes_of rfl) rfl (pi_list (pv 0)) (pg_name (i := 4) nd rfl (.inr rfl))
        (pss_one (ps_if (pt_cmpR op_eq (pe_callB c_len (by rfl) B.len PySem.boot_len (pa_cons (pe_lc (own := [("_law_x", 5)]) (g := gName 5) (tt := tTest (tOp (rIn K false) (tVar 5) (tVar 4))) (te := tVar 5) rfl nd (pi_list (pv 2))
            (blkOk_by (N := hwN) (sc := defScope s_hw) (by decide +kernel)) (fun _ _ _ _ _ => pg_name (i := 5) nd rfl (.inl rfl)) (fun _ _ _ _ _ => pts_one (pt_cmpR op_in_seq (pv 5) (pv 4) (by rfl))) (fun _ _ _ _ _ => pv 5)) pa_nil)) (pe_callB c_len (by rfl) B.len PySem.boot_len (pa_cons (pv 2) pa_nil)) (nomark _))
          (pss_one (ps_set (i := 3) nd rfl (.inl rfl) (pe_callB (c_max rfl) (by rfl) B.max (by decide +kernel) (pa_cons (pv 3) (pa_cons (pe_df LW hr (by rfl) passUp (pa_cons (pv 1) (pa_cons (pv 4) pa_nil))) pa_nil))))) pss_nil))) (pss_one (ps_ret (pv 3)))), ?_⟩
    let Pv : Nat → L2.St → Hp → Prop := fun i σ H' => ∃ o4 best, σ = [some (.ref D), some (.ref a), some (.ref b), some (.int best), o4, none] ∧ Same H H' ∧ 0 ≤ best ∧ (∀ k ∈ kn.take i, (∀ x ∈ g, x ∈ k) → wsum ns k ≤ best) ∧ (best = 0 ∨ ∃ k ∈ kn, (∀ x ∈ g, x ∈ k) ∧ best = wsum ns k)
    refine ⟨_, rfl, D, rfl, ⟨_, SqL.of hl1⟩, for_it (walk_list (K := K) (a := D) (xs := l.map fun z => V.ref z.1)) Pv ⟨none, 0, rfl, .refl _, Int.le_refl _, (fun k hk => by cases hk), .inl rfl⟩ (fun i σ H' _ h => ?_) (fun i v σ Hx H' hi h y => ?_) (fun σ H' h => ?_)⟩
    · obtain ⟨_, _, _, sm, _⟩ := h
      exact SqL.of (sm _ _ hl1)
    · obtain ⟨o4, best, rfl, sm, b0, bl, bx⟩ := h
      obtain ⟨rfl, hv⟩ := y
      rw [List.length_map] at hi
      have hli : l[i]? = some l[i] := List.getElem?_eq_getElem hi
      rw [List.getElem?_map, hli] at hv
      cases hv
      have ki : kn[i]? = some l[i].2 := by rw [← hl2, List.getElem?_map, hli]; rfl
      obtain ⟨m, em, cm, bm⟩ := ks.snd _ (List.mem_of_getElem? ki)
      have hk0 := sm _ _ (hl3 _ (List.getElem_mem hi))
      refine ⟨_, rfl, b, rfl, ⟨_, SqL.of (sm _ _ hb)⟩, fun D3 nD3 => ?_⟩
      refine lc_it (walk_list (K := K) (a := b) (xs := nvs g)) (fun j H2 => Same H' H2 ∧ H2 D3 = some (.lst (nvs ((g.take j).filter fun x => decide (x ∈ l[i].2))))) ⟨same_upd nD3, upd_same⟩ (fun j H2 _ z => SqL.of (z.1 _ _ (sm _ _ hb))) (fun j v H2 H3 hj z y => ?_) (fun H2 z => ?_)
      · obtain ⟨rfl, hv⟩ := y
        obtain ⟨s2, hD3⟩ := z
        obtain ⟨x, hx, rfl⟩ := nvs_get hv
        refine ⟨rfl, _, rfl, _, rfl, l[i].1, _, rfl, .inl (SqL.of (s2 _ _ hk0)), rfl, nvs_flat _, _, rfl, ?_⟩
        rw [if_neg Bool.false_ne_true, inV_nvs]
        by_cases c : x ∈ l[i].2
        · rw [decide_eq_true c]
          refine iteT ⟨_, rfl, _, hD3, ?_, fun b2 o h => ?_, ?_⟩
          · rw [nvs_len, sizeLine_eq]
            have h1 := List.length_filter_le (fun x => decide (x ∈ l[i].2)) (g.take j)
            rw [List.length_take] at h1
            have := tk.len
            omega
          · rw [upd_ne (ne_of_none h nD3)]
            exact s2 b2 o h
          · rw [upd_same, take_at hx, List.filter_append]
            unfold nvs
            rw [List.map_append]
            simp [c]
        · rw [decide_eq_false c]
          refine iteF ⟨s2, ?_⟩
          rw [take_at hx, List.filter_append]
          simp only [List.filter_cons, decide_eq_false c, List.filter_nil, Bool.false_eq_true, if_false, List.append_nil]
          exact hD3
      · obtain ⟨s2, hD3⟩ := z
        rw [nvs_len, List.take_length] at hD3
        refine ⟨D3, _, rfl, .inl (SqL.of hD3), _, rfl, b, _, rfl, .inl (SqL.of (s2 _ _ (sm _ _ hb))), rfl, _, rfl, ?_⟩
        rw [dec_int, nvs_len, nvs_len, nat_beq, all_len]
        by_cases c : ∀ x ∈ g, x ∈ l[i].2
        · rw [show (g.all fun x => decide (x ∈ l[i].2)) = true from List.all_eq_true.mpr fun x hx => decide_eq_true (c x hx)]
          refine iteT ⟨_, rfl, _, rfl, _, rfl, a, l[i].1, ns, l[i].2, rfl, s2 _ _ (sm _ _ ha), s2 _ _ hk0, fun y hy => ?_, fun H3 s3 => ⟨_, _, rfl, ?_⟩⟩
          · rw [em] at hy
            rw [am.len]
            exact (mem_bits.mp hy).1
          · refine ⟨_, _, rfl, sm.trans (s2.trans s3), ?_, fun k hk hx => ?_, ?_⟩
            · split <;> omega
            · rw [take_at ki] at hk
              rcases List.mem_append.mp hk with hk | hk
              · have := bl k hk hx
                split <;> omega
              · rw [List.mem_singleton.mp hk]
                split <;> omega
            · by_cases g' : wsum ns l[i].2 > best
              · rw [if_pos g']
                exact .inr ⟨_, List.mem_of_getElem? ki, c, rfl⟩
              · rw [if_neg g']
                exact bx
        · rw [show (g.all fun x => decide (x ∈ l[i].2)) = false from by
            cases e : g.all fun x => decide (x ∈ l[i].2) with
            | false => rfl
            | true => exact absurd (fun x hx => of_decide_eq_true (List.all_eq_true.mp e x hx)) c]
          refine iteF ⟨_, best, rfl, sm.trans s2, b0, fun k hk hx => ?_, bx⟩
          rw [take_at ki] at hk
          rcases List.mem_append.mp hk with hk | hk
          · exact bl k hk hx
          · rw [List.mem_singleton.mp hk] at hx
            exact absurd hx c
    · obtain ⟨o4, best, rfl, sm, b0, bl, bx⟩ := h
      have ll : l.length = kn.length := by rw [← hl2, List.length_map]
      rw [List.length_map, ll, List.take_length] at bl
      have le : ∀ m, ClqM q m → (∀ y, m.testBit y = true → y < n) → SubM (maskOf g) m → wM n ns m ≤ best := fun m c b i => by
        rw [← wsum_bits]
        exact bl _ (ks.all m c b) fun x hx => mem_bits.mpr ⟨gn x hx, (sub_mask tk).mp i x hx⟩
      refine ⟨_, rfl, k best ⟨?_, le⟩ H' sm⟩
      rcases bx with rfl | ⟨k', hk, hx, e⟩
      · have one : ClqM q (maskOf g) := fun y z hy hz ne => by
          rw [maskOf_bit tk, decide_eq_true_iff] at hy hz
          exact tk.clq hy hz ne
        have bnd : ∀ y, (maskOf g).testBit y = true → y < n := fun y hy => by
          rw [maskOf_bit tk, decide_eq_true_iff] at hy
          exact gn y hy
        have h1 := le _ one bnd (fun y h => h)
        have h2 := wM_nn am (maskOf g)
        exact ⟨maskOf g, one, bnd, fun y h => h, by omega⟩
      · obtain ⟨m, em, cm, bm⟩ := ks.snd k' hk
        refine ⟨m, cm, bm, (sub_mask tk).mpr fun x hxg => ?_, by rw [e, em, wsum_bits]⟩
        have := hx x hxg
        rw [em] at this
        exact (mem_bits.mp this).2
end
end K0
set_option Elab.async false
set_option linter.all false
set_option maxRecDepth 100000
set_option maxHeartbeats 4000000
namespace K0
open PySem PySem.Spec PyProof.Rows L2
abbrev s_rtd : Stmt := top 72
abbrev s_ftd : Stmt := top 73
section
variable {P : Program} {w : World} {K : PySem.W.Frag} {mg : Str → Option Value} {base : Heap} {f : Addr} {fd : FuncData}
/-- _law_room_told -/
def spRtd (C : Addr) : Sp := fun vs H Q _ => ∃ (p : Addr) (v u1 u2 : V) (d1 d2 : PyData) (n : Nat) (q : List Pr), vs = [.ref p, v, u1, u2] ∧ WebAt C H p (n : Int) q ∧ 2 ≤ n ∧ n ≤ 8 ∧ Dt H u1 d1 ∧ Dt H u2 d2 ∧
  ((∃ i, NdBad H n v i ∧ TwoL "needs" (.int (i : Nat)) H Q) ∨ ∃ ns z, NdOk H n v ns ∧ Amt n ns ∧ ThBad n u1 u2 d1 d2 z ∧ TwoL "thing" z H Q)
abbrev rtdN : List Str := ["_law_web", "_law_needs_here", "_law_x", "_law_y", "_law_told", "error"]
theorem sc_rtd : FnScope rtdN ["_law_web", "_law_needs_here", "_law_x", "_law_y"] (defScope s_rtd) := ⟨rfl, rfl, rfl, by decide +kernel, rfl, by decide +kernel, by decide +kernel⟩
theorem ok_rtd {C CND CT : Addr} (F : Fun K "_law_room_told" "_law_room_told" s_rtd f fd) (gD : mg "BadNeeds" = some (.ref CND)) (gT : mg "BadThing" = some (.ref CT)) (mD : PySem.W.exmOne K (.ref CND) (.ref CND) = some true) (mT : PySem.W.exmOne K (.ref CT) (.ref CT) = some true) (mX : PySem.W.exmOne K (.ref CT) (.ref CND) = some false) (xD : XfC K CND) (xT : XfC K CT) (fD : NoAttr K CND "place") (fT : NoAttr K CT "thing") (PM : Df P w K mg base "pair_room" 9 ["web", "needs", "x", "y"] (spPm C CND CT)) : FnOk P w K mg base (L2.CX P w) 10 f fd ["_law_web", "_law_needs_here", "_law_x", "_law_y"] (spRtd C) := by
  refine F.okX sc_rtd (fun vs H Q E h => ?_) (fun cdv A outer s H vs Q E hr h => ?_)
  · obtain ⟨p, v, u1, u2, d1, d2, n, q, rfl, _⟩ := h
    rfl
  · obtain ⟨p, v, u1, u2, d1, d2, n, q, rfl, W, n2, n8, hu1, hu2, h⟩ := h
    have nd := sc_rtd.nd
    refine ⟨_, pss_cons (ps_set (i := 4) nd rfl (.inl rfl) (pe_lst (pa_cons pe_str (pa_cons pe_int pa_nil))))
      (pss_cons (ps_try_any (tb := fun W => tDrop (tCallS (spPm C CND CT) (WE W) (tCons (tVar 0) (tCons (tVar 1) (tCons (tVar 2) (tCons (tVar 3) tNil)))))) rfl rfl (takes_of rfl rfl rfl rfl)
        (fun W pn xe tk _ => pss_one (ps_expr (pe_dfS PM hr (by rfl) (fun σ => passAt tk σ) (pa_cons (pv 0) (pa_cons (pv 1) (pa_cons (pv 2) (pa_cons (pv 3) pa_nil)))))))
        (.as nd (i := 5) rfl rfl ⟨rfl, by decide, .inl gD⟩ (fun a oe cls d pn hz hf => pss_one (ps_set (i := 4) nd rfl (.inl rfl) (pe_lst (pa_cons pe_str (pa_cons (pe_xf xD fD hz hf (pv 5)) pa_nil)))))
        (.as nd (i := 5) rfl rfl ⟨rfl, by decide, .inl gT⟩ (fun a oe cls d pn hz hf => pss_one (ps_set (i := 4) nd rfl (.inl rfl) (pe_lst (pa_cons pe_str (pa_cons (pe_xf xT fT hz hf (pv 5)) pa_nil))))) .nil)))
      (pss_one (ps_ret (pv 4)))), ?_⟩
    refine ⟨by show 2 ≤ sizeLine; decide, fun z nz => ?_⟩
    have s1 : Same H (upd H z (.lst [.str "none", .int 0])) := same_upd nz
    refine ⟨_, rfl, _, rfl, _, rfl, _, rfl, p, v, u1, u2, d1, d2, n, q, rfl, W.mono s1, n2, n8, hu1.mono s1, hu2.mono s1, ?_⟩
    rcases h with ⟨i, hb, k⟩ | ⟨ns, z, hv, am, bad, k⟩
    · refine .inr (.inl ⟨i, hb.mono s1, fun H' e sm he => ?_⟩)
      refine ⟨true, mD, fun _ x nx => ?_, fun z => nomatch z⟩
      refine ⟨_, rfl, rfl, rfl, e, _, _, rfl, he, rfl, by show 2 ≤ sizeLine; decide, fun t nt => ?_⟩
      exact ⟨_, rfl, k _ t (s1.trans (sm.trans (same_upd nt))) upd_same⟩
    · refine .inr (.inr ⟨ns, z, hv.mono s1, am, bad, fun H' e sm he => ?_⟩)
      refine ⟨false, mX, fun z => (nomatch z), fun _ => ⟨true, mT, fun _ x nx => ?_, fun z => nomatch z⟩⟩
      refine ⟨_, rfl, rfl, rfl, e, _, _, rfl, he, rfl, by show 2 ≤ sizeLine; decide, fun t nt => ?_⟩
      exact ⟨_, rfl, k _ t (s1.trans (sm.trans (same_upd nt))) upd_same⟩
/-- _law_free_told -/
def spFtd (C : Addr) : Sp := fun vs H Q _ => ∃ (p : Addr) (v u1 u2 w1 w2 : V) (d1 d2 e1 e2 : PyData) (n : Nat) (q : List Pr), vs = [.ref p, v, u1, u2, w1, w2] ∧ WebAt C H p (n : Int) q ∧ 2 ≤ n ∧ n ≤ 8 ∧ Dt H u1 d1 ∧ Dt H u2 d2 ∧ Dt H w1 e1 ∧ Dt H w2 e2 ∧
  ((∃ ns x y s t, NdOk H n v ns ∧ Amt n ns ∧ ThOk n u1 u2 x y ∧ w1 = .int s ∧ w2 = .int t ∧ 0 ≤ s ∧ 0 ≤ t ∧ TwoL "none" (.int 0) H Q) ∨ (∃ i, NdBad H n v i ∧ TwoL "needs" (.int (i : Nat)) H Q) ∨ (∃ ns z, NdOk H n v ns ∧ Amt n ns ∧ ThBad n u1 u2 d1 d2 z ∧ TwoL "thing" z H Q) ∨ ∃ ns x y z, NdOk H n v ns ∧ Amt n ns ∧ ThOk n u1 u2 x y ∧ AmBad e1 e2 z ∧ TwoL "number" (.str z) H Q)
abbrev ftdN : List Str := ["_law_web", "_law_needs_here", "_law_x", "_law_y", "_law_s", "_law_t", "_law_told", "error"]
theorem sc_ftd : FnScope ftdN ["_law_web", "_law_needs_here", "_law_x", "_law_y", "_law_s", "_law_t"] (defScope s_ftd) := ⟨rfl, rfl, rfl, by decide +kernel, rfl, by decide +kernel, by decide +kernel⟩
theorem ok_ftd {C CND CT CN : Addr} (F : Fun K "_law_free_told" "_law_free_told" s_ftd f fd) (gD : mg "BadNeeds" = some (.ref CND)) (gT : mg "BadThing" = some (.ref CT)) (gN : mg "BadNumber" = some (.ref CN)) (mD : PySem.W.exmOne K (.ref CND) (.ref CND) = some true) (mT : PySem.W.exmOne K (.ref CT) (.ref CT) = some true) (mN : PySem.W.exmOne K (.ref CN) (.ref CN) = some true) (mX : PySem.W.exmOne K (.ref CT) (.ref CND) = some false) (mY : PySem.W.exmOne K (.ref CN) (.ref CND) = some false) (mZ : PySem.W.exmOne K (.ref CN) (.ref CT) = some false) (xD : XfC K CND) (xT : XfC K CT) (xN : XfC K CN) (fD : NoAttr K CND "place") (fT : NoAttr K CT "thing") (fN : NoAttr K CN "name") (FT : Df P w K mg base "free_together" 9 ["web", "needs", "x", "y", "s", "t"] (spFt C CND CT CN)) : FnOk P w K mg base (L2.CX P w) 10 f fd ["_law_web", "_law_needs_here", "_law_x", "_law_y", "_law_s", "_law_t"] (spFtd C) := by
  refine F.okX sc_ftd (fun vs H Q E h => ?_) (fun cdv A outer s H vs Q E hr h => ?_)
  · obtain ⟨p, v, u1, u2, w1, w2, d1, d2, e1, e2, n, q, rfl, _⟩ := h
    rfl
  · obtain ⟨p, v, u1, u2, w1, w2, d1, d2, e1, e2, n, q, rfl, W, n2, n8, hu1, hu2, hw1, hw2, h⟩ := h
    have nd := sc_ftd.nd
    refine ⟨_, pss_cons (ps_set (i := 6) nd rfl (.inl rfl) (pe_lst (pa_cons pe_str (pa_cons pe_int pa_nil))))
      (pss_cons (ps_try_any (tb := fun W => tDrop (tCallS (spFt C CND CT CN) (WE W) (tCons (tVar 0) (tCons (tVar 1) (tCons (tVar 2) (tCons (tVar 3) (tCons (tVar 4) (tCons (tVar 5) tNil)))))))) rfl rfl (takes_of rfl rfl rfl rfl)
        (fun W pn xe tk _ => pss_one (ps_expr (pe_dfS FT hr (by rfl) (fun σ => passAt tk σ) (pa_cons (pv 0) (pa_cons (pv 1) (pa_cons (pv 2) (pa_cons (pv 3) (pa_cons (pv 4) (pa_cons (pv 5) pa_nil)))))))))
        (.as nd (i := 7) rfl rfl ⟨rfl, by decide, .inl gD⟩ (fun a oe cls d pn hz hf => pss_one (ps_set (i := 6) nd rfl (.inl rfl) (pe_lst (pa_cons pe_str (pa_cons (pe_xf xD fD hz hf (pv 7)) pa_nil)))))
        (.as nd (i := 7) rfl rfl ⟨rfl, by decide, .inl gT⟩ (fun a oe cls d pn hz hf => pss_one (ps_set (i := 6) nd rfl (.inl rfl) (pe_lst (pa_cons pe_str (pa_cons (pe_xf xT fT hz hf (pv 7)) pa_nil)))))
        (.as nd (i := 7) rfl rfl ⟨rfl, by decide, .inl gN⟩ (fun a oe cls d pn hz hf => pss_one (ps_set (i := 6) nd rfl (.inl rfl) (pe_lst (pa_cons pe_str (pa_cons (pe_xf xN fN hz hf (pv 7)) pa_nil))))) .nil))))
      (pss_one (ps_ret (pv 6)))), ?_⟩
    refine ⟨by show 2 ≤ sizeLine; decide, fun z nz => ?_⟩
    have s1 : Same H (upd H z (.lst [.str "none", .int 0])) := same_upd nz
    refine ⟨_, rfl, _, rfl, _, rfl, _, rfl, _, rfl, _, rfl, p, v, u1, u2, w1, w2, d1, d2, e1, e2, n, q, rfl, W.mono s1, n2, n8, hu1.mono s1, hu2.mono s1, hw1.mono s1, hw2.mono s1, ?_⟩
    rcases h with ⟨ns, x, y, s, t, hv, am, th, es, et, s0, t0, k⟩ | ⟨i, hb, k⟩ | ⟨ns, z, hv, am, bad, k⟩ | ⟨ns, x, y, z, hv, am, th, bad, k⟩
    · exact .inl ⟨ns, x, y, s, t, hv.mono s1, am, th, es, et, s0, t0, fun b _ H' sm => ⟨_, rfl, k H' z (s1.trans sm) (sm _ _ upd_same)⟩⟩
    · refine .inr (.inl ⟨i, hb.mono s1, fun H' e sm he => ?_⟩)
      refine ⟨true, mD, fun _ x nx => ?_, fun z => nomatch z⟩
      refine ⟨_, rfl, rfl, rfl, e, _, _, rfl, he, rfl, by show 2 ≤ sizeLine; decide, fun t nt => ?_⟩
      exact ⟨_, rfl, k _ t (s1.trans (sm.trans (same_upd nt))) upd_same⟩
    · refine .inr (.inr (.inl ⟨ns, z, hv.mono s1, am, bad, fun H' e sm he => ?_⟩))
      refine ⟨false, mX, fun z => (nomatch z), fun _ => ⟨true, mT, fun _ x nx => ?_, fun z => nomatch z⟩⟩
      refine ⟨_, rfl, rfl, rfl, e, _, _, rfl, he, rfl, by show 2 ≤ sizeLine; decide, fun t nt => ?_⟩
      exact ⟨_, rfl, k _ t (s1.trans (sm.trans (same_upd nt))) upd_same⟩
    · refine .inr (.inr (.inr ⟨ns, x, y, z, hv.mono s1, am, th, bad, fun H' e sm he => ?_⟩))
      refine ⟨false, mY, fun z => (nomatch z), fun _ => ⟨false, mZ, fun z => (nomatch z), fun _ => ⟨true, mN, fun _ x nx => ?_, fun z => nomatch z⟩⟩⟩
      refine ⟨_, rfl, rfl, rfl, e, _, _, rfl, he, rfl, by show 2 ≤ sizeLine; decide, fun t nt => ?_⟩
      exact ⟨_, rfl, k _ t (s1.trans (sm.trans (same_upd nt))) upd_same⟩
end
end K0
set_option Elab.async false
set_option linter.all false
set_option maxRecDepth 100000
set_option maxHeartbeats 4000000
namespace K0
open PySem PySem.Spec PyProof.Rows L2
abbrev s_rfd : Stmt := top 74
theorem BadV.noN {H : Hp} {v : V} {d : PyData} (h : BadV H v d) : okN 0 d = false := by
  rcases h with ⟨rfl, rfl⟩ | ⟨rfl, rfl⟩ | ⟨rfl, rfl⟩ <;> rfl
theorem int_lay (i : Int) : PyData.canLay0 (.int i) = true := by simp [PyData.canLay0]
theorem int_dep (i : Int) : PyData.depth (.int i) = 0 := by simp [PyData.depth]
section
variable {P : Program} {w : World} {K : PySem.W.Frag} {mg : Str → Option Value} {base : Heap} {f : Addr} {fd : FuncData}
/-- _law_refused -/
def spRfd (C : Addr) : Sp := fun vs H Q _ => ∃ (d p a : Addr) (n x y : Nat) (q : List Pr) (ns : List Int), vs = [.ref d, .ref p, .ref a, .int (x : Int), .int (y : Int)] ∧ WebAt C (del H d) p (n : Int) q ∧ 2 ≤ n ∧ n ≤ 8 ∧ DrO H d ∧ LI (del H d) a ns ∧ Amt n ns ∧ x < n ∧ y < n ∧ x ≠ y ∧ ∀ H', Q (.bl true) H'
abbrev rfdN : List Str := ["_law_draws_here", "_law_web", "_law_needs_here", "_law_x", "_law_y", "_law_many", "_law_thing", "_law_bad", "_law_spoilt_here"]
theorem sc_rfd : FnScope rfdN ["_law_draws_here", "_law_web", "_law_needs_here", "_law_x", "_law_y"] (defScope s_rfd) := ⟨rfl, rfl, rfl, by decide +kernel, rfl, by decide +kernel, by decide +kernel⟩
theorem ok_rfd {C : Addr} (F : Fun K "_law_refused" "_law_refused" s_rfd f fd) (B : Blt2 mg) (TK : Df P w K mg base "_law_take" 1 ["_law_draws_here", "_law_many"] spTk) (SP : Df P w K mg base "_law_spoilt" 2 ["_law_draws_here", "_law_row_here"] spSp) (RT : Df P w K mg base "_law_room_told" 10 ["_law_web", "_law_needs_here", "_law_x", "_law_y"] (spRtd C)) (FTD : Df P w K mg base "_law_free_told" 10 ["_law_web", "_law_needs_here", "_law_x", "_law_y", "_law_s", "_law_t"] (spFtd C)) : FnOk P w K mg base (L2.CX P w) 11 f fd ["_law_draws_here", "_law_web", "_law_needs_here", "_law_x", "_law_y"] (spRfd C) := by
  refine F.okX sc_rfd (fun vs H Q E h => ?_) (fun cdv A outer s H vs Q E hr h => ?_)
  · obtain ⟨d, p, a, n, x, y, q, ns, rfl, _⟩ := h
    rfl
  · obtain ⟨d, p, a, n, x, y, q, ns, rfl, W, n2, n8, dr, ha, am, xn, yn, ne, k⟩ := h
    have nd := sc_rfd.nd
    have r1 : Room 1 _ := hr.mono (by decide)
    have r2 : Room 2 _ := hr.mono (by decide)
    have hu : (A.deeper (envOfC "_law_refused" (defScope s_rfd) s.heap.objs.size f cdv)).units + 64 < cLine := by have := hr.un; omega
    refine' ⟨_, pss_cons ?h1 (pss_cons ?h2 (pss_cons ?h3 (pss_cons ?h4 (pss_cons ?h5 (pss_cons ?h6 (pss_cons ?h7 (pss_cons ?h8 (pss_cons ?h9 (pss_cons ?h10 (pss_cons ?h11 (pss_cons ?h12 (pss_cons ?h13 (pss_one ?h14))))))))))))), ?hz⟩
    case h1 => exact ps_set (i := 5) nd rfl (.inl rfl) (pe_callB c_len (by rfl) B.len PySem.boot_len (pa_cons (pv 2) pa_nil))
    case h2 => exact ps_set (i := 6) nd rfl (.inl rfl) (pe_ix ix_list (pe_lst (pa_cons (pe_un un_neg pe_int) (pa_cons (pv 5) (pa_cons pe_bl (pa_cons pe_non (pa_cons pe_str pa_nil)))))) (pe_df TK r1 (by rfl) passUp (pa_cons (pv 0) (pa_cons pe_int pa_nil))) (fun _ _ => rfl))
    case h3 => exact ps_set (i := 7) nd rfl (.inl rfl) (pe_ix ix_list (pe_lst (pa_cons (pe_un un_neg pe_int) (pa_cons pe_bl (pa_cons pe_non pa_nil)))) (pe_df TK r1 (by rfl) passUp (pa_cons (pv 0) (pa_cons pe_int pa_nil))) (fun _ _ => rfl))
    case h4 => exact ps_set (i := 8) nd rfl (.inl rfl) (pe_df SP r2 (by rfl) passUp (pa_cons (pv 0) (pa_cons (pv 2) pa_nil)))
    case h5 => exact ps_if (pt_cmpR (op_neD hu) (pe_df RT hr (by rfl) passUp (pa_cons (pv 1) (pa_cons (pe_ix ix_list (pv 8) pe_int (fun _ _ => rfl)) (pa_cons (pv 6) (pa_cons (pv 4) pa_nil))))) (pe_lst (pa_cons pe_str (pa_cons (pe_ix ix_list (pv 8) pe_int (fun _ _ => rfl)) pa_nil))) (by rfl)) (pss_one (ps_ret pe_bl)) pss_nil
    case h6 => exact ps_if (pt_cmpR (op_neD hu) (pe_df FTD hr (by rfl) passUp (pa_cons (pv 1) (pa_cons (pe_ix ix_list (pv 8) pe_int (fun _ _ => rfl)) (pa_cons (pv 6) (pa_cons (pv 4) (pa_cons (pv 7) (pa_cons pe_int pa_nil))))))) (pe_lst (pa_cons pe_str (pa_cons (pe_ix ix_list (pv 8) pe_int (fun _ _ => rfl)) pa_nil))) (by rfl)) (pss_one (ps_ret pe_bl)) pss_nil
    case h7 => exact ps_if (pt_cmpR (op_neD hu) (pe_df RT hr (by rfl) passUp (pa_cons (pv 1) (pa_cons (pv 2) (pa_cons (pv 6) (pa_cons (pe_un un_neg pe_int) pa_nil))))) (pe_lst (pa_cons pe_str (pa_cons (pv 6) pa_nil))) (by rfl)) (pss_one (ps_ret pe_bl)) pss_nil
    case h8 => exact ps_if (pt_cmpR (op_neD hu) (pe_df RT hr (by rfl) passUp (pa_cons (pv 1) (pa_cons (pv 2) (pa_cons (pv 3) (pa_cons (pv 6) pa_nil))))) (pe_lst (pa_cons pe_str (pa_cons (pv 6) pa_nil))) (by rfl)) (pss_one (ps_ret pe_bl)) pss_nil
    case h9 => exact ps_if (PW.pt (pw_or (pt_cmpR (op_neD hu) (pe_df RT hr (by rfl) passUp (pa_cons (pv 1) (pa_cons (pv 2) (pa_cons (pv 3) (pa_cons (pv 3) pa_nil))))) (pe_lst (pa_cons pe_str (pa_cons (pv 3) pa_nil))) (by rfl)) (pw_or1 (pt_cmpR (op_neD hu) (pe_df FTD hr (by rfl) passUp (pa_cons (pv 1) (pa_cons (pv 2) (pa_cons (pv 4) (pa_cons (pv 4) (pa_cons (pv 7) (pa_cons (pv 7) pa_nil))))))) (pe_lst (pa_cons pe_str (pa_cons (pv 4) pa_nil))) (by rfl))))) (pss_one (ps_ret pe_bl)) pss_nil
    case h10 => exact ps_if (pt_cmpR (op_neD hu) (pe_df FTD hr (by rfl) passUp (pa_cons (pv 1) (pa_cons (pv 2) (pa_cons (pv 6) (pa_cons (pv 6) (pa_cons (pv 7) (pa_cons (pv 7) pa_nil))))))) (pe_lst (pa_cons pe_str (pa_cons (pv 6) pa_nil))) (by rfl)) (pss_one (ps_ret pe_bl)) pss_nil
    case h11 => exact ps_if (pt_cmpR (op_neD hu) (pe_df FTD hr (by rfl) passUp (pa_cons (pv 1) (pa_cons (pv 2) (pa_cons (pv 3) (pa_cons (pv 6) (pa_cons pe_int (pa_cons (pv 7) pa_nil))))))) (pe_lst (pa_cons pe_str (pa_cons (pv 6) pa_nil))) (by rfl)) (pss_one (ps_ret pe_bl)) pss_nil
    case h12 => exact ps_if (pt_cmpR (op_neD hu) (pe_df FTD hr (by rfl) passUp (pa_cons (pv 1) (pa_cons (pv 2) (pa_cons (pv 3) (pa_cons (pv 4) (pa_cons (pv 7) (pa_cons (pv 7) pa_nil))))))) (pe_lst (pa_cons pe_str (pa_cons pe_str pa_nil))) (by rfl)) (pss_one (ps_ret pe_bl)) pss_nil
    case h13 => exact ps_if (pt_cmpR (op_neD hu) (pe_df FTD hr (by rfl) passUp (pa_cons (pv 1) (pa_cons (pv 2) (pa_cons (pv 3) (pa_cons (pv 4) (pa_cons pe_int (pa_cons (pv 7) pa_nil))))))) (pe_lst (pa_cons pe_str (pa_cons pe_str pa_nil))) (by rfl)) (pss_one (ps_ret pe_bl)) pss_nil
    case h14 => exact ps_ret (pe_cmpR (op_eqD hu) (pe_df FTD hr (by rfl) passUp (pa_cons (pv 1) (pa_cons pe_non (pa_cons (pv 3) (pa_cons (pv 4) (pa_cons pe_int (pa_cons pe_int pa_nil))))))) (pe_lst (pa_cons pe_str (pa_cons pe_int pa_nil))) (by rfl))
    case hz =>
    have ha0 := del_sub _ _ ha
    have ln : (ns.map V.int).length = n := by rw [List.length_map, am.len]
    refine ⟨_, rfl, a, _, rfl, .inl (SqL.of ha0), ?_⟩
    rw [ln]
    refine ⟨_, rfl, _, rfl, by show 5 ≤ sizeLine; decide, fun L nL => ?_⟩
    have sL : Same H (upd H L (.lst [.int (-1), .int (n : Int), .bl true, .non, .str "0"])) := same_upd nL
    have Ld := dr.ne nL
    refine ⟨_, rfl, d, 5, rfl, by decide, dr.mono sL, fun r H1 r0 r5 s1 dr1 => ?_⟩
    have t1 : Same (del H d) H1 := fun b o h => s1 b o (by
      by_cases hb : b = d
      · rw [hb, del_same] at h
        cases h
      · rw [del_ne hb] at h ⊢
        exact sL b o h)
    have hL1 : H1 L = some (.lst [.int (-1), .int (n : Int), .bl true, .non, .str "0"]) := s1 L _ (by rw [del_ne Ld]; exact upd_same)
    obtain ⟨v, dv, hv, bt⟩ : ∃ v dv, atI [V.int (-1), V.int (n : Int), V.bl true, V.non, V.str "0"] r = some v ∧ BadT n v dv := by
      obtain ⟨m, rfl⟩ := Int.eq_ofNat_of_zero_le r0
      match m, (show m < 5 by omega) with
      | 0, _ => exact ⟨_, _, atI_nat rfl, .inl ⟨rfl, rfl⟩⟩
      | 1, _ => exact ⟨_, _, atI_nat rfl, .inr (.inl ⟨rfl, rfl⟩)⟩
      | 2, _ => exact ⟨_, _, atI_nat rfl, .inr (.inr (.inl ⟨rfl, rfl⟩))⟩
      | 3, _ => exact ⟨_, _, atI_nat rfl, .inr (.inr (.inr (.inl ⟨rfl, rfl⟩)))⟩
      | 4, _ => exact ⟨_, _, atI_nat rfl, .inr (.inr (.inr (.inr ⟨rfl, rfl⟩)))⟩
    refine ⟨L, _, _, _, rfl, rfl, SqL.of hL1, hv, ?_⟩
    refine ⟨_, rfl, by show 3 ≤ sizeLine; decide, fun M nM => ?_⟩
    have sM : Same H1 (upd H1 M (.lst [.int (-1), .bl true, .non])) := same_upd nM
    have Md := dr1.ne nM
    refine ⟨_, rfl, d, 3, rfl, by decide, dr1.mono sM, fun r' H2 r0' r3 s2 dr2 => ?_⟩
    have u2 : Same (del H1 d) H2 := fun b o h => s2 b o (by
      by_cases hb : b = d
      · rw [hb, del_same] at h
        cases h
      · rw [del_ne hb] at h ⊢
        exact sM b o h)
    have hM2 : H2 M = some (.lst [.int (-1), .bl true, .non]) := s2 M _ (by rw [del_ne Md]; exact upd_same)
    obtain ⟨bv, db, hbv, bb⟩ : ∃ v dv, atI [V.int (-1), V.bl true, V.non] r' = some v ∧ BadV H v dv := by
      obtain ⟨m, rfl⟩ := Int.eq_ofNat_of_zero_le r0'
      match m, (show m < 3 by omega) with
      | 0, _ => exact ⟨_, _, atI_nat rfl, .inl ⟨rfl, rfl⟩⟩
      | 1, _ => exact ⟨_, _, atI_nat rfl, .inr (.inl ⟨rfl, rfl⟩)⟩
      | 2, _ => exact ⟨_, _, atI_nat rfl, .inr (.inr ⟨rfl, rfl⟩)⟩
    refine ⟨M, _, _, _, rfl, rfl, SqL.of hM2, hbv, ?_⟩
    have t2 := same_trd t1 u2
    refine ⟨_, rfl, _, rfl, d, a, n, ns, rfl, by omega, by omega, dr2, (same_del t2) _ _ ha, am, fun H3 sb v1 i1 s3 dr3 hsb bad => ?_⟩
    have t3 : Same (del H d) H3 := same_trd t2 s3
    have hsb0 := del_sub _ _ hsb
    have W3 := W.mono t3
    have a3 : LI H3 a ns := t3 _ _ ha
    have bad3 := bad.mono del_sub
    clear hsb bad
    obtain ⟨ly, d0⟩ := bt.lay
    have il : PyData.canLay0 (.int (i1 : Int)) = true := by simp [PyData.canLay0]
    have i0 : PyData.depth (.int (i1 : Int)) = 0 := by simp [PyData.depth]
    have nt := bt.no
    have na := bb.noN
    have ok3 : NdOk H3 n (.ref a) ns := .inr ⟨a, rfl, a3.sq⟩
    have e3 : Same H3 H3 := .refl _
    refine ⟨_, rfl, _, rfl, sb, _, 0, _, rfl, rfl, SqL.of (e3 _ _ hsb0), rfl, _, rfl, _, rfl, ?_⟩
    dsimp only [tNil, List.append_nil]
    refine ⟨p, v1, v, .int (y : Int), dv, .int (y : Int), n, q, rfl, W3.mono e3, n2, n8, bt.dt _, .int _, .inl ⟨i1, bad3.mono e3, fun H4 x4 s4 h4 => ?_⟩⟩
    have f4 := e3.trans s4
    refine ⟨_, rfl, sb, _, 1, _, rfl, rfl, SqL.of (f4 _ _ hsb0), rfl, by show 2 ≤ sizeLine; decide, fun y4 ny4 => ?_⟩
    have g4 := same_upd (o := .lst [.str "needs", .int (i1 : Int)]) ny4
    refine ne_kv (g4 _ _ h4) upd_same (.int _) (by decide +kernel) il i0 ⟨_, rfl, iteF ?_⟩
    have e4 := f4.trans g4
    clear f4 g4 h4 s4
    refine ⟨_, rfl, _, rfl, sb, _, 0, _, rfl, rfl, SqL.of (e4 _ _ hsb0), rfl, _, rfl, _, rfl, _, rfl, ?_⟩
    dsimp only [tNil, List.append_nil]
    refine ⟨p, v1, v, .int (y : Int), bv, .int 0, dv, .int (y : Int), db, .int 0, n, q, rfl, W3.mono e4, n2, n8, bt.dt _, .int _, bb.dt _, .int _, .inr (.inl ⟨i1, bad3.mono e4, fun H5 x5 s5 h5 => ?_⟩)⟩
    have f5 := e4.trans s5
    refine ⟨_, rfl, sb, _, 1, _, rfl, rfl, SqL.of (f5 _ _ hsb0), rfl, by show 2 ≤ sizeLine; decide, fun y5 ny5 => ?_⟩
    have g5 := same_upd (o := .lst [.str "needs", .int (i1 : Int)]) ny5
    refine ne_kv (g5 _ _ h5) upd_same (.int _) (by decide +kernel) il i0 ⟨_, rfl, iteF ?_⟩
    have e5 := f5.trans g5
    clear f5 g5 h5 s5
    refine ⟨_, rfl, _, rfl, _, rfl, _, rfl, ?_⟩
    dsimp only [tNil, List.append_nil]
    refine ⟨p, .ref a, v, .int (-7), dv, .int (-7), n, q, rfl, W3.mono e5, n2, n8, bt.dt _, .int _, .inr ⟨ns, v, ok3.mono e5, am, .inl ⟨nt, rfl⟩, fun H6 x6 s6 h6 => ?_⟩⟩
    have f6 := e5.trans s6
    refine ⟨_, rfl, by show 2 ≤ sizeLine; decide, fun y6 ny6 => ?_⟩
    have g6 := same_upd (o := .lst [.str "thing", v]) ny6
    refine ne_kv (g6 _ _ h6) upd_same (bt.dt _) (by decide +kernel) ly d0 ⟨_, rfl, iteF ?_⟩
    have e6 := f6.trans g6
    clear f6 g6 h6 s6
    refine ⟨_, rfl, _, rfl, _, rfl, _, rfl, ?_⟩
    dsimp only [tNil, List.append_nil]
    refine ⟨p, .ref a, .int (x : Int), v, .int (x : Int), dv, n, q, rfl, W3.mono e6, n2, n8, .int _, bt.dt _, .inr ⟨ns, v, ok3.mono e6, am, .inr (.inl ⟨isTh_nat xn, nt, rfl⟩), fun H7 x7 s7 h7 => ?_⟩⟩
    have f7 := e6.trans s7
    refine ⟨_, rfl, by show 2 ≤ sizeLine; decide, fun y7 ny7 => ?_⟩
    have g7 := same_upd (o := .lst [.str "thing", v]) ny7
    refine ne_kv (g7 _ _ h7) upd_same (bt.dt _) (by decide +kernel) ly d0 ⟨_, rfl, iteF ?_⟩
    have e7 := f7.trans g7
    clear f7 g7 h7 s7
    refine ⟨_, rfl, _, rfl, _, rfl, _, rfl, ?_⟩
    dsimp only [tNil, List.append_nil]
    refine ⟨p, .ref a, .int (x : Int), .int (x : Int), .int (x : Int), .int (x : Int), n, q, rfl, W3.mono e7, n2, n8, .int _, .int _, .inr ⟨ns, .int (x : Int), ok3.mono e7, am, .inr (.inr ⟨x, rfl, rfl, xn, rfl⟩), fun H8 x8 s8 h8 => ?_⟩⟩
    have f8 := e7.trans s8
    refine ⟨_, rfl, by show 2 ≤ sizeLine; decide, fun y8 ny8 => ?_⟩
    have g8 := same_upd (o := .lst [.str "thing", .int (x : Int)]) ny8
    refine ne_kv (g8 _ _ h8) upd_same (.int _) (by decide +kernel) (int_lay _) (int_dep _) ⟨_, rfl, iteF ?_⟩
    have e8 := f8.trans g8
    clear f8 g8 h8 s8
    refine ⟨_, rfl, _, rfl, _, rfl, _, rfl, _, rfl, _, rfl, ?_⟩
    dsimp only [tNil, List.append_nil]
    refine ⟨p, .ref a, .int (y : Int), .int (y : Int), bv, bv, .int (y : Int), .int (y : Int), db, db, n, q, rfl, W3.mono e8, n2, n8, .int _, .int _, bb.dt _, bb.dt _, .inr (.inr (.inl ⟨ns, .int (y : Int), ok3.mono e8, am, .inr (.inr ⟨y, rfl, rfl, yn, rfl⟩), fun H9 x9 s9 h9 => ?_⟩))⟩
    have f9 := e8.trans s9
    refine ⟨_, rfl, by show 2 ≤ sizeLine; decide, fun y9 ny9 => ?_⟩
    have g9 := same_upd (o := .lst [.str "thing", .int (y : Int)]) ny9
    refine ne_kv (g9 _ _ h9) upd_same (.int _) (by decide +kernel) (int_lay _) (int_dep _) ⟨_, rfl, iteF ?_⟩
    have e9 := f9.trans g9
    clear f9 g9 h9 s9
    refine ⟨_, rfl, _, rfl, _, rfl, _, rfl, _, rfl, _, rfl, ?_⟩
    dsimp only [tNil, List.append_nil]
    refine ⟨p, .ref a, v, v, bv, bv, dv, dv, db, db, n, q, rfl, W3.mono e9, n2, n8, bt.dt _, bt.dt _, bb.dt _, bb.dt _, .inr (.inr (.inl ⟨ns, v, ok3.mono e9, am, .inl ⟨nt, rfl⟩, fun H10 x10 s10 h10 => ?_⟩))⟩
    have f10 := e9.trans s10
    refine ⟨_, rfl, by show 2 ≤ sizeLine; decide, fun y10 ny10 => ?_⟩
    have g10 := same_upd (o := .lst [.str "thing", v]) ny10
    refine ne_kv (g10 _ _ h10) upd_same (bt.dt _) (by decide +kernel) ly d0 ⟨_, rfl, iteF ?_⟩
    have e10 := f10.trans g10
    clear f10 g10 h10 s10
    refine ⟨_, rfl, _, rfl, _, rfl, _, rfl, _, rfl, ?_⟩
    dsimp only [tNil, List.append_nil]
    refine ⟨p, .ref a, .int (x : Int), v, .int 0, bv, .int (x : Int), dv, .int 0, db, n, q, rfl, W3.mono e10, n2, n8, .int _, bt.dt _, .int _, bb.dt _, .inr (.inr (.inl ⟨ns, v, ok3.mono e10, am, .inr (.inl ⟨isTh_nat xn, nt, rfl⟩), fun H11 x11 s11 h11 => ?_⟩))⟩
    have f11 := e10.trans s11
    refine ⟨_, rfl, by show 2 ≤ sizeLine; decide, fun y11 ny11 => ?_⟩
    have g11 := same_upd (o := .lst [.str "thing", v]) ny11
    refine ne_kv (g11 _ _ h11) upd_same (bt.dt _) (by decide +kernel) ly d0 ⟨_, rfl, iteF ?_⟩
    have e11 := f11.trans g11
    clear f11 g11 h11 s11
    refine ⟨_, rfl, _, rfl, _, rfl, _, rfl, _, rfl, _, rfl, ?_⟩
    dsimp only [tNil, List.append_nil]
    refine ⟨p, .ref a, .int (x : Int), .int (y : Int), bv, bv, .int (x : Int), .int (y : Int), db, db, n, q, rfl, W3.mono e11, n2, n8, .int _, .int _, bb.dt _, bb.dt _, .inr (.inr (.inr ⟨ns, x, y, "s", ok3.mono e11, am, ⟨rfl, rfl, xn, yn, ne⟩, .inl ⟨na, rfl⟩, fun H12 x12 s12 h12 => ?_⟩))⟩
    have f12 := e11.trans s12
    refine ⟨by show 2 ≤ sizeLine; decide, fun y12 ny12 => ?_⟩
    have g12 := same_upd (o := .lst [.str "number", .str "s"]) ny12
    refine ne_kv (g12 _ _ h12) upd_same (.str _) (by decide +kernel) (by decide +kernel) (by simp [PyData.depth]) ⟨_, rfl, iteF ?_⟩
    have e12 := f12.trans g12
    clear f12 g12 h12 s12
    refine ⟨_, rfl, _, rfl, _, rfl, _, rfl, _, rfl, ?_⟩
    dsimp only [tNil, List.append_nil]
    refine ⟨p, .ref a, .int (x : Int), .int (y : Int), .int 0, bv, .int (x : Int), .int (y : Int), .int 0, db, n, q, rfl, W3.mono e12, n2, n8, .int _, .int _, .int _, bb.dt _, .inr (.inr (.inr ⟨ns, x, y, "t", ok3.mono e12, am, ⟨rfl, rfl, xn, yn, ne⟩, .inr ⟨rfl, na, rfl⟩, fun H13 x13 s13 h13 => ?_⟩))⟩
    have f13 := e12.trans s13
    refine ⟨by show 2 ≤ sizeLine; decide, fun y13 ny13 => ?_⟩
    have g13 := same_upd (o := .lst [.str "number", .str "t"]) ny13
    refine ne_kv (g13 _ _ h13) upd_same (.str _) (by decide +kernel) (by decide +kernel) (by simp [PyData.depth]) ⟨_, rfl, iteF ?_⟩
    have e13 := f13.trans g13
    clear f13 g13 h13 s13
    refine ⟨_, rfl, _, rfl, _, rfl, ?_⟩
    dsimp only [tNil, List.append_nil]
    refine ⟨p, .non, .int (x : Int), .int (y : Int), .int 0, .int 1, .int (x : Int), .int (y : Int), .int 0, .int 1, n, q, rfl, W3.mono e13, n2, n8, .int _, .int _, .int _, .int _, .inl ⟨_, x, y, 0, 1, .inl ⟨rfl, rfl⟩, ones_amt n, ⟨rfl, rfl, xn, yn, ne⟩, rfl, rfl, by decide, by decide, fun H14 x14 s14 h14 => ?_⟩⟩
    have f14 := e13.trans s14
    refine ⟨by show 2 ≤ sizeLine; decide, fun y14 ny14 => ?_⟩
    have g14 := same_upd (o := .lst [.str "none", .int 0]) ny14
    refine eq_kv (g14 _ _ h14) upd_same (.int _) (by decide +kernel) (int_lay _) (int_dep _) (k _)
end
end K0
set_option Elab.async false
set_option linter.all false
set_option maxRecDepth 100000
set_option maxHeartbeats 4000000
namespace K0
open PySem PySem.Spec PyProof.Rows L2
abbrev s_two : Stmt := top 75
/-! ### two raises, as mathematics -/
def twoR (n x y : Nat) (s t : Int) : List Int := (List.range n).map fun z => if z = x then s else if z = y then t else 0
theorem twoR_len (n x y : Nat) (s t : Int) : (twoR n x y s t).length = n := by
  unfold twoR
  rw [List.length_map, List.length_range]
theorem twoR_at {n x y z : Nat} {s t : Int} (hz : z < n) : (twoR n x y s t).getD z 0 = if z = x then s else if z = y then t else 0 := by
  unfold twoR
  rw [List.getD_eq_getElem?_getD, List.getElem?_map, List.getElem?_range hz]
  rfl
theorem twoR_amt {n x y : Nat} {s t : Int} (s0 : 0 ≤ s) (t0 : 0 ≤ t) : Amt n (twoR n x y s t) := ⟨twoR_len _ _ _ _ _, fun v hv => by
  obtain ⟨z, _, rfl⟩ := List.mem_map.mp hv
  split
  · exact s0
  · split
    · exact t0
    · exact Int.le_refl _⟩
theorem wM_twoR {n x y : Nat} {s t : Int} (hx : x < n) (hy : y < n) (ne : x ≠ y) (m : Nat) : wM n (twoR n x y s t) m = (if m.testBit x = true then s else 0) + if m.testBit y = true then t else 0 := by
  rw [← wM_alone hx s m, ← wM_alone hy t m]
  unfold wM
  rw [← sum_add]
  refine sum_eq n fun z hz => ?_
  rw [twoR_at hz, alone_at hz, alone_at hz]
  by_cases c : z = x
  · subst c
    rw [if_pos rfl, if_pos rfl, if_neg ne]
    split <;> omega
  · rw [if_neg c, if_neg c]
    by_cases d : z = y
    · rw [if_pos d]
      split <;> omega
    · rw [if_neg d]
      split <;> omega
theorem hv_sub {n : Nat} {q : List Pr} {ns : List Int} {h h' : Nat} {R S : Int} (sub : SubM h h') (hR : Hv n q ns h R) (hS : Hv n q ns h' S) : S ≤ R := by
  obtain ⟨m, c, b, i, e⟩ := hS.ex
  have := hR.le m c b fun x hx => i x (sub x hx)
  omega
def Inside (q : List Pr) (x y : Nat) (s t R A B D : Int) : Prop := s ≤ R - A ∧ t ≤ R - B ∧ (hasP q x y = true → s + t ≤ R - D)
section
variable {n : Nat} {q : List Pr} {ns : List Int} {x y : Nat} {s t R A B D : Int}
theorem free_in (hR : Hv n q ns 0 R) (hA : Hv n q ns (2 ^ x) A) (hB : Hv n q ns (2 ^ y) B) (hD : hasP q x y = true → Hv n q ns (2 ^ x ||| 2 ^ y) D) {b : Bool} (h : FreeT n q ns x y s t b) : b = true ↔ Inside q x y s t R A B D := by
  refine Iff.trans h ⟨fun ⟨h1, h2, h3⟩ => ⟨h1 R A hR hA, h2 R B hR hB, fun e => h3 e R D hR (hD e)⟩, fun ⟨h1, h2, h3⟩ => ⟨fun R' A' g1 g2 => ?_, fun R' B' g1 g2 => ?_, fun e R' D' g1 g2 => ?_⟩⟩
  · rw [← hR.uniq g1, ← hA.uniq g2]
    exact h1
  · rw [← hR.uniq g1, ← hB.uniq g2]
    exact h2
  · rw [← hR.uniq g1, ← (hD e).uniq g2]
    exact h3 e
theorem two_in (am : Amt n ns) (hx : x < n) (hy : y < n) (ne : x ≠ y) (s0 : 0 ≤ s) (t0 : 0 ≤ t) (hR : Hv n q ns 0 R) (hA : Hv n q ns (2 ^ x) A) (hB : Hv n q ns (2 ^ y) B) (hD : hasP q x y = true → Hv n q ns (2 ^ x ||| 2 ^ y) D) {T : Int} (hT : Hv n q (addI ns (twoR n x y s t)) 0 T) : T = R ↔ Inside q x y s t R A B D := by
  have w : ∀ m, wM n (addI ns (twoR n x y s t)) m = wM n ns m + ((if m.testBit x = true then s else 0) + if m.testBit y = true then t else 0) := fun m => by
    rw [wM_addI am (twoR_amt s0 t0), wM_twoR hx hy ne]
  constructor
  · intro e
    subst e
    refine ⟨?_, ?_, fun hp => ?_⟩
    · obtain ⟨m, c, b, i, e⟩ := hA.ex
      have h := hT.le m c b (zero_sub m)
      rw [w, if_pos (bit_in i)] at h
      split at h <;> omega
    · obtain ⟨m, c, b, i, e⟩ := hB.ex
      have h := hT.le m c b (zero_sub m)
      rw [w, if_pos (bit_in i)] at h
      split at h <;> omega
    · obtain ⟨m, c, b, i, e⟩ := (hD hp).ex
      have h := hT.le m c b (zero_sub m)
      have bx : m.testBit x = true := i x (by rw [or_two, two_bit, decide_eq_true (rfl : x = x)]; rfl)
      have bY : m.testBit y = true := i y (by rw [or_two, decide_eq_true (rfl : y = y), Bool.or_true])
      rw [w, if_pos bx, if_pos bY] at h
      omega
  · rintro ⟨h1, h2, h3⟩
    have up : R ≤ T := by
      obtain ⟨m, c, b, i, e⟩ := hR.ex
      have h := hT.le m c b (zero_sub m)
      rw [w] at h
      split at h <;> split at h <;> omega
    obtain ⟨m, c, b, i, e⟩ := hT.ex
    rw [w] at e
    have k0 := hR.le m c b (zero_sub m)
    by_cases bx : m.testBit x = true
    · have k1 := hA.le m c b (in_bit bx)
      rw [if_pos bx] at e
      by_cases bY : m.testBit y = true
      · have hp := c x y bx bY ne
        have k2 := (hD hp).le m c b fun z hz => by
          rw [or_two, two_bit, Bool.or_eq_true, decide_eq_true_iff, decide_eq_true_iff] at hz
          rcases hz with rfl | rfl
          · exact bx
          · exact bY
        have := h3 hp
        rw [if_pos bY] at e
        omega
      · rw [if_neg bY] at e
        omega
    · rw [if_neg bx] at e
      by_cases bY : m.testBit y = true
      · have k1 := hB.le m c b (in_bit bY)
        rw [if_pos bY] at e
        omega
      · rw [if_neg bY] at e
        omega
end
section
variable {P : Program} {w : World} {K : PySem.W.Frag} {mg : Str → Option Value} {base : Heap} {f : Addr} {fd : FuncData}
/-- _law_two -/
def spTwo : Sp := fun vs H Q _ => ∃ (n x y : Nat) (s t : Int), vs = [.int (n : Int), .int (x : Int), .int (y : Int), .int s, .int t] ∧ n ≤ 16 ∧ ∀ H' a, Same H H' → H a = none → LI H' a (twoR n x y s t) → Q (.ref a) H'
abbrev twoN : List Str := ["_law_many", "_law_x", "_law_y", "_law_s", "_law_t", "_law_z"]
theorem sc_two : FnScope twoN ["_law_many", "_law_x", "_law_y", "_law_s", "_law_t"] (defScope s_two) := ⟨rfl, rfl, rfl, by decide +kernel, rfl, by decide +kernel, by decide +kernel⟩
theorem ok_two (F : Fun K "_law_two" "_law_two" s_two f fd) (B : Blt2 mg) : FnOk P w K mg base (L2.CX P w) 1 f fd ["_law_many", "_law_x", "_law_y", "_law_s", "_law_t"] spTwo := by
  refine F.okX sc_two (fun vs H Q E h => ?_) (fun cdv A outer s H vs Q E hr h => ?_)
  · obtain ⟨n, x, y, s, t, rfl, _⟩ := h
    rfl
  · obtain ⟨n, x, y, s, t, rfl, n16, k⟩ := h
    have nd := sc_two.nd
    refine ⟨_, pss_one (ps_ret (pe_lc (own := [("_law_z", 5)]) (g := gName 5) (tt := tYes) (te := tIf (tTest (tOp rEq (tVar 5) (tVar 1))) (tVar 3) (tIf (tTest (tOp rEq (tVar 5) (tVar 2))) (tVar 4) (tC (.int 0)))) rfl nd (pi_range1 (by rfl) B.range (pa_cons (pv 0) pa_nil))
        (blkOk_by (N := twoN) (sc := defScope s_two) (by decide +kernel)) (fun _ _ _ _ _ => pg_name (i := 5) nd rfl (.inl rfl)) (fun _ _ _ _ _ => pts_nil) (fun _ _ _ _ _ => pe_ifExp (pt_cmpR op_eq (pv 5) (pv 1) (by rfl)) (pv 3) (pe_ifExp (pt_cmpR op_eq (pv 5) (pv 2) (by rfl)) (pv 4) pe_int)))), ?_⟩
    refine ⟨_, rfl, n, rfl, by omega, by omega, fun L nL => ?_⟩
    rw [Int.toNat_natCast]
    refine lc_range (lo := 0) (n := n) (fun j H' => Same H H' ∧ H' L = some (.lst ((twoR j x y s t).map V.int))) ⟨same_upd nL, upd_same⟩ (fun j H' hj ⟨sm, hL⟩ => ?_) (fun H2 ⟨t2, hL⟩ => k H2 L t2 nL hL)
    refine ⟨rfl, ?_⟩
    rw [Int.zero_add]
    have ej : twoR (j + 1) x y s t = twoR j x y s t ++ [if j = x then s else if j = y then t else 0] := by
      unfold twoR
      rw [List.range_succ, List.map_append]
      rfl
    have next : ∀ z, z = (if j = x then s else if j = y then t else 0) → ∃ acc, H' L = some (.lst acc) ∧ acc.length < sizeLine ∧ (Same H (upd H' L (.lst (acc ++ [.int z]))) ∧ (upd H' L (.lst (acc ++ [V.int z]))) L = some (.lst ((twoR (j + 1) x y s t).map V.int))) := fun z ez => by
      refine ⟨_, hL, ?_, fun b2 o h => ?_, ?_⟩
      · rw [List.length_map, twoR_len, sizeLine_eq]
        omega
      · rw [upd_ne (ne_of_none h nL)]
        exact sm b2 o h
      · rw [upd_same, ej, List.map_append, ez]
        rfl
    refine ⟨_, rfl, _, rfl, rfl, _, rfl, ?_⟩
    rw [dec_int]
    by_cases c : j = x
    · rw [show (((j : Nat) : Int) == ((x : Nat) : Int)) = true from beq_iff_eq.mpr (by omega)]
      exact iteT ⟨_, rfl, next _ (by rw [if_pos c])⟩
    · rw [show (((j : Nat) : Int) == ((x : Nat) : Int)) = false from beq_eq_false_iff_ne.mpr (by omega)]
      refine iteF ⟨_, rfl, _, rfl, rfl, _, rfl, ?_⟩
      rw [dec_int]
      by_cases d : j = y
      · rw [show (((j : Nat) : Int) == ((y : Nat) : Int)) = true from beq_iff_eq.mpr (by omega)]
        exact iteT ⟨_, rfl, next _ (by rw [if_neg c, if_pos d])⟩
      · rw [show (((j : Nat) : Int) == ((y : Nat) : Int)) = false from beq_eq_false_iff_ne.mpr (by omega)]
        exact iteF (next _ (by rw [if_neg c, if_neg d]))
end
end K0
set_option Elab.async false
set_option linter.all false
set_option maxRecDepth 100000
set_option maxHeartbeats 4000000
namespace K0
open PySem PySem.Spec PyProof.Rows L2
abbrev s_lv : Stmt := top 76
theorem take_addI {n : Nat} {ns ms : List Int} (am : Amt n ns) (bm : Amt n ms) {i : Nat} (hi : i < n) : (addI ns ms).take (i + 1) = (addI ns ms).take i ++ [ns.getD i 0 + ms.getD i 0] := by
  have l := (am.add bm).len
  have h : (addI ns ms)[i]? = some (ns.getD i 0 + ms.getD i 0) := by
    rw [← addI_at am bm hi, List.getD_eq_getElem?_getD, List.getElem?_eq_getElem (by omega)]
    rfl
  exact take_at h
/-- the room of a pair as a value -/
def RoomV (q : List Pr) (x y : Nat) (R D : Int) (v : V) : Prop := (hasP q x y = false ∧ v = .non) ∨ (hasP q x y = true ∧ v = .int (R - D))
section
variable {P : Program} {w : World} {K : PySem.W.Frag} {mg : Str → Option Value} {base : Heap} {f : Addr} {fd : FuncData}
/-- _law_leaves -/
def spLv (C : Addr) : Sp := fun vs H Q _ => ∃ (p E a st kl : Addr) (n x y : Nat) (q : List Pr) (kn : List (List Nat)) (ns : List Int) (s t R A B D : Int) (rm : V), vs = [.ref p, .ref E, .ref a, .int (x : Int), .int (y : Int), .ref st, .ref kl] ∧ WebAt C H p (n : Int) q ∧ 2 ≤ n ∧ n ≤ 8 ∧ KnH H E kn ∧ KnS n q kn ∧ LI H a ns ∧ Amt n ns ∧ x < n ∧ y < n ∧ x ≠ y ∧ H st = some (.lst [.int s, .int t]) ∧ 0 ≤ s ∧ 0 ≤ t ∧ H kl = some (.lst [.int R, .int (R - A), .int (R - B), rm]) ∧ Hv n q ns 0 R ∧ Hv n q ns (2 ^ x) A ∧ Hv n q ns (2 ^ y) B ∧ (hasP q x y = true → Hv n q ns (2 ^ x ||| 2 ^ y) D) ∧ RoomV q x y R D rm ∧ Ret (.bl true) H Q
abbrev lvN : List Str := ["_law_web", "_law_knots_here", "_law_needs_here", "_law_x", "_law_y", "_law_step", "_law_known", "_law_many", "_law_raises", "_law_total", "_law_due", "_law_told", "_law_inside", "_law_z"]
theorem sc_lv : FnScope lvN ["_law_web", "_law_knots_here", "_law_needs_here", "_law_x", "_law_y", "_law_step", "_law_known"] (defScope s_lv) := ⟨rfl, rfl, rfl, by decide +kernel, rfl, by decide +kernel, by decide +kernel⟩
theorem ok_lv {C CND CT CN : Addr} (F : Fun K "_law_leaves" "_law_leaves" s_lv f fd) (B : Blt3 mg) (TWO : Df P w K mg base "_law_two" 1 ["_law_many", "_law_x", "_law_y", "_law_s", "_law_t"] spTwo) (HY : Df P w K mg base "_law_heavy" 2 ["_law_knots_here", "_law_needs_here"] spHy) (FT : Df P w K mg base "free_together" 9 ["web", "needs", "x", "y", "s", "t"] (spFt C CND CT CN)) :
    FnOk P w K mg base (L2.CX P w) 10 f fd ["_law_web", "_law_knots_here", "_law_needs_here", "_law_x", "_law_y", "_law_step", "_law_known"] (spLv C) := by
  refine F.okX sc_lv (fun vs H Q E h => ?_) (fun cdv A outer s H vs Q E hr h => ?_)
  · obtain ⟨p, e, a, st, kl, n, x, y, q, kn, ns, s, t, R, A, B', D, rm, rfl, _⟩ := h
    rfl
  · obtain ⟨p, e, a, st, kl, n, x, y, q, kn, ns, s, t, R, LA, LB, D, rm, rfl, W, n2, n8, he, ks, ha, am, xn, yn, ne, hst, s0, t0, hkl, hR, hA, hB, hD, hrm, k⟩ := h
    have nd := sc_lv.nd
    have r1 : Room 1 _ := hr.mono (by decide)
    have r2 : Room 2 _ := hr.mono (by decide)
    refine ⟨_, pss_cons (ps_set (i := 7) nd rfl (.inl rfl) (pe_callB c_len (by rfl) B.len PySem.boot_len (pa_cons (pv 2) pa_nil)))
      (pss_cons (ps_set (i := 8) nd rfl (.inr rfl) (pe_df TWO r1 (by rfl) passUp (pa_cons (pv 7) (pa_cons (pv 3) (pa_cons (pv 4) (pa_cons (pe_ix ix_list (pv 5) pe_int (fun _ _ => rfl)) (pa_cons (pe_ix ix_list (pv 5) pe_int (fun _ _ => rfl)) pa_nil)))))))
      (pss_cons (ps_setLc (i := 9) (own := [("_law_z", 13)]) (g := gName 13) (tt := tYes) (te := tOp rAddI (tOp (rIxL K) (tVar 2) (tVar 13)) (tOp (rIxL K) (tVar 8) (tVar 13))) rfl nd rfl (by rfl) (by rfl) (pi_range1 (by rfl) B.range (pa_cons (pv 7) pa_nil))
            (blkOk_by (N := lvN) (sc := defScope s_lv) (by decide +kernel)) (fun _ _ _ _ _ => pg_name (i := 13) nd rfl (.inl rfl)) (fun _ _ _ _ _ => pts_nil) (fun _ _ _ _ _ => pe_op op_add (pe_ix ix_list (pv 2) (pv 13) (fun _ _ => rfl)) (pe_ix ix_list (pv 8) (pv 13) (fun _ _ => rfl))))
      (pss_cons (ps_set (i := 10) nd rfl (.inl rfl) (pe_cmpR op_eq (pe_df HY r2 (by rfl) passUp (pa_cons (pv 1) (pa_cons (pv 9) pa_nil))) (pe_ix ix_list (pv 6) pe_int (fun _ _ => rfl)) (nomark _)))
      (pss_cons (ps_set (i := 11) nd rfl (.inl rfl) (pe_df FT hr (by rfl) passUp (pa_cons (pv 0) (pa_cons (pe_callTy call_tuple_of (by rfl) B.tuple (by decide +kernel) (pa_cons (pv 2) pa_nil)) (pa_cons (pv 3) (pa_cons (pv 4) (pa_cons (pe_ix ix_list (pv 5) pe_int (fun _ _ => rfl)) (pa_cons (pe_ix ix_list (pv 5) pe_int (fun _ _ => rfl)) pa_nil))))))))
      (pss_cons (ps_if (PW.pt (pw_or (pt_not (pt_val (pe_callB call_isi (by rfl) B.isi (by decide +kernel) (pa_cons (pv 11) (pa_cons (pe_bltn (v := .ty "bool") (by rfl) B.bool (by decide +kernel) rfl) pa_nil))))) (pw_or1 (pt_cmpR op_ne (pv 11) (pv 10) (nomark _))))) (pss_one (ps_ret pe_bl)) pss_nil)
      (pss_cons (ps_set (i := 12) nd rfl (.inl rfl) (pe_and (pe_cmpR op_le (pe_ix ix_list (pv 5) pe_int (fun _ _ => rfl)) (pe_ix ix_list (pv 6) pe_int (fun _ _ => rfl)) (nomark _)) (pe_one (pe_cmpR op_le (pe_ix ix_list (pv 5) pe_int (fun _ _ => rfl)) (pe_ix ix_list (pv 6) pe_int (fun _ _ => rfl)) (nomark _)))))
      (pss_cons (ps_if (PW.pt (pw_and (pt_cmpR op_notN (pe_ix ix_list (pv 6) pe_int (fun _ _ => rfl)) pe_non (nomark _)) (pw_and1 (pt_cmpR op_gt (pe_op op_add (pe_ix ix_list (pv 5) pe_int (fun _ _ => rfl)) (pe_ix ix_list (pv 5) pe_int (fun _ _ => rfl))) (pe_ix ix_list (pv 6) pe_int (fun _ _ => rfl)) (nomark _))))) (pss_one (ps_set (i := 12) nd rfl (.inl rfl) pe_bl)) pss_nil)
      ((pss_one (ps_ret (pe_cmpR op_eq (pv 12) (pv 10) (nomark _)))))))))))), ?_⟩
    have la : (ns.map V.int).length = n := by rw [List.length_map, am.len]
    refine ⟨_, rfl, a, _, rfl, .inl (SqL.of ha), ?_⟩
    rw [la]
    -- the raises
    refine ⟨_, rfl, _, rfl, _, rfl, _, rfl, st, _, 0, _, rfl, rfl, SqL.of hst, rfl, _, rfl, st, _, 1, _, rfl, rfl, SqL.of hst, rfl, ?_⟩
    dsimp only [tNil, List.append_nil]
    refine ⟨n, x, y, s, t, rfl, by omega, fun H1 ra t1 _ hra => ?_⟩
    have bm : Amt n (twoR n x y s t) := twoR_amt s0 t0
    refine ⟨_, rfl, n, rfl, by omega, by omega, fun L nL => ?_⟩
    rw [Int.toNat_natCast]
    refine lc_range (lo := 0) (n := n) (fun j H' => Same H1 H' ∧ H' L = some (.lst (((addI ns (twoR n x y s t)).take j).map V.int))) ⟨same_upd nL, upd_same⟩ (fun j H' hj ⟨sm, hL⟩ => ?_) (fun H2 ⟨t2, hL⟩ => ?_)
    · refine ⟨rfl, ?_⟩
      rw [Int.zero_add]
      refine ⟨_, rfl, _, rfl, a, _, _, _, rfl, rfl, SqL.of (sm _ _ (t1 _ _ ha)), ints_at (by rw [am.len]; exact hj), _, rfl, _, rfl, ra, _, _, _, rfl, rfl, SqL.of (sm _ _ hra), ints_at (by rw [bm.len]; exact hj), _, _, rfl, rfl, _, hL, ?_, fun b2 o h => ?_, ?_⟩
      · rw [List.length_map, List.length_take, sizeLine_eq]
        omega
      · rw [upd_ne (ne_of_none h nL)]
        exact sm b2 o h
      · rw [upd_same, take_addI am bm hj, List.map_append]
        rfl
    have tm := am.add bm
    rw [List.take_of_length_le (by rw [tm.len]; exact Nat.le_refl _)] at hL
    have t12 := t1.trans t2
    -- due
    refine ⟨_, rfl, _, rfl, e, L, n, q, kn, _, rfl, he.mono t12, ks, hL, tm, n8, fun T hT H3 t3 => ?_⟩
    have t13 := t12.trans t3
    refine ⟨_, rfl, kl, _, 0, _, rfl, rfl, SqL.of (t13 _ _ hkl), rfl, rfl, ?_⟩
    rw [dec_int]
    have two := two_in am xn yn ne s0 t0 hR hA hB hD hT
    have two' : (T == R) = true ↔ Inside q x y s t R LA LB D := by rw [beq_iff_eq]; exact two
    generalize (T == R) = due at two' ⊢
    -- free_together
    refine ⟨_, rfl, _, rfl, a, _, rfl, .inl ⟨SqL.of (t13 _ _ ha), fun l nl => ?_⟩⟩
    have t14 := t13.trans (same_upd (o := .tup (ns.map V.int)) nl)
    refine ⟨_, rfl, _, rfl, _, rfl, st, _, 0, _, rfl, rfl, SqL.of (t14 _ _ hst), rfl, _, rfl, st, _, 1, _, rfl, rfl, SqL.of (t14 _ _ hst), rfl, ?_⟩
    dsimp only [tNil, List.append_nil]
    refine ⟨p, .ref l, .int (x : Int), .int (y : Int), .int s, .int t, .int (x : Int), .int (y : Int), .int s, .int t, n, q, rfl, W.mono t14, n2, n8, .int _, .int _, .int _, .int _, .inl ⟨ns, x, y, s, t, .inr ⟨l, rfl, TupI.sq upd_same⟩, am, ⟨rfl, rfl, xn, yn, ne⟩, rfl, rfl, s0, t0, fun b hb H5 t5 => ?_⟩⟩
    have t15 := t14.trans t5
    have eb : b = due := by
      rw [Bool.eq_iff_iff, free_in hR hA hB hD hb, two']
    subst eb
    refine ⟨_, rfl, _, _, _, _, _, rfl, .ty _, .base (.bl b), kit_ty (r := true) (by decide +kernel), _, rfl, iteF ⟨_, rfl, _, rfl, rfl, _, rfl, ?_⟩⟩
    rw [dec_bl, show (!(b == b)) = false by cases b <;> rfl]
    refine iteF ?_
    -- inside
    have hst5 := t15 _ _ hst
    have hkl5 := t15 _ _ hkl
    refine ⟨_, rfl, st, _, 0, _, rfl, rfl, SqL.of hst5, rfl, _, rfl, kl, _, 1, _, rfl, rfl, SqL.of hkl5, rfl, _, _, rfl, rfl, _, rfl, ?_⟩
    by_cases c1 : s ≤ R - LA
    · rw [decide_eq_true c1]
      refine iteT ⟨_, rfl, st, _, 1, _, rfl, rfl, SqL.of hst5, rfl, _, rfl, kl, _, 2, _, rfl, rfl, SqL.of hkl5, rfl, _, _, rfl, rfl, ?_⟩
      have hin : (decide (t ≤ R - LB) = true) ↔ (s ≤ R - LA ∧ t ≤ R - LB) := by rw [decide_eq_true_iff]; exact ⟨fun h => ⟨c1, h⟩, fun h => h.2⟩
      have fin : ∀ z : Bool, (z = true ↔ Inside q x y s t R LA LB D) → (z == b) = true := fun z hz => by
        rw [beq_iff_eq, Bool.eq_iff_iff, hz, two']
      refine ⟨_, rfl, kl, _, 3, _, rfl, rfl, SqL.of hkl5, rfl, rfl, _, rfl, ?_⟩
      rcases hrm with ⟨gap, rfl⟩ | ⟨hp, rfl⟩
      · rw [show (!decide (V.non = V.non)) = false by simp]
        refine iteF ⟨_, rfl, _, rfl, rfl, ?_⟩
        rw [dec_bl, fin _ (hin.trans ⟨fun h => ⟨h.1, h.2, fun e => by rw [gap] at e; cases e⟩, fun h => ⟨h.1, h.2.1⟩⟩)]
        exact k H5 t15
      · rw [show (!decide (V.int (R - D) = V.non)) = true by simp]
        refine iteT ⟨_, rfl, st, _, 0, _, rfl, rfl, SqL.of hst5, rfl, _, rfl, st, _, 1, _, rfl, rfl, SqL.of hst5, rfl, _, _, rfl, rfl, _, rfl, kl, _, 3, _, rfl, rfl, SqL.of hkl5, rfl, _, _, rfl, rfl, _, rfl, ?_⟩
        by_cases c3 : s + t > R - D
        · rw [decide_eq_true c3]
          refine iteT ⟨_, rfl, _, rfl, rfl, ?_⟩
          rw [dec_bl, fin false ⟨fun h => (nomatch h), fun h => absurd (h.2.2 hp) (by omega)⟩]
          exact k H5 t15
        · rw [decide_eq_false c3]
          refine iteF ⟨_, rfl, _, rfl, rfl, ?_⟩
          rw [dec_bl, fin _ (hin.trans ⟨fun h => ⟨h.1, h.2, fun _ => by omega⟩, fun h => ⟨h.1, h.2.1⟩⟩)]
          exact k H5 t15
    · rw [decide_eq_false c1]
      refine iteF ?_
      have hin : (false = true) ↔ (s ≤ R - LA ∧ t ≤ R - LB) := ⟨fun h => (nomatch h), fun h => absurd h.1 c1⟩
      have fin : ∀ z : Bool, (z = true ↔ Inside q x y s t R LA LB D) → (z == b) = true := fun z hz => by
        rw [beq_iff_eq, Bool.eq_iff_iff, hz, two']
      refine ⟨_, rfl, kl, _, 3, _, rfl, rfl, SqL.of hkl5, rfl, rfl, _, rfl, ?_⟩
      rcases hrm with ⟨gap, rfl⟩ | ⟨hp, rfl⟩
      · rw [show (!decide (V.non = V.non)) = false by simp]
        refine iteF ⟨_, rfl, _, rfl, rfl, ?_⟩
        rw [dec_bl, fin _ (hin.trans ⟨fun h => ⟨h.1, h.2, fun e => by rw [gap] at e; cases e⟩, fun h => ⟨h.1, h.2.1⟩⟩)]
        exact k H5 t15
      · rw [show (!decide (V.int (R - D) = V.non)) = true by simp]
        refine iteT ⟨_, rfl, st, _, 0, _, rfl, rfl, SqL.of hst5, rfl, _, rfl, st, _, 1, _, rfl, rfl, SqL.of hst5, rfl, _, _, rfl, rfl, _, rfl, kl, _, 3, _, rfl, rfl, SqL.of hkl5, rfl, _, _, rfl, rfl, _, rfl, ?_⟩
        by_cases c3 : s + t > R - D
        · rw [decide_eq_true c3]
          refine iteT ⟨_, rfl, _, rfl, rfl, ?_⟩
          rw [dec_bl, fin false ⟨fun h => (nomatch h), fun h => absurd (h.2.2 hp) (by omega)⟩]
          exact k H5 t15
        · rw [decide_eq_false c3]
          refine iteF ⟨_, rfl, _, rfl, rfl, ?_⟩
          rw [dec_bl, fin _ (hin.trans ⟨fun h => ⟨h.1, h.2, fun _ => by omega⟩, fun h => ⟨h.1, h.2.1⟩⟩)]
          exact k H5 t15
end
end K0
set_option Elab.async false
set_option linter.all false
set_option maxRecDepth 100000
set_option maxHeartbeats 4000000
namespace K0
open PySem PySem.Spec PyProof.Rows L2
abbrev s_pp : Stmt := top 77
def IsRoom (n : Nat) (q : List Pr) (ns : List Int) (x y : Nat) (rm : V) : Prop := (hasP q x y = false ∧ rm = .non) ∨ (hasP q x y = true ∧ ∃ R D, Hv n q ns 0 R ∧ Hv n q ns (2 ^ x ||| 2 ^ y) D ∧ rm = .int (R - D))
theorem IsRoom.uniq {n : Nat} {q : List Pr} {ns : List Int} {x y : Nat} {a b : V} (h : IsRoom n q ns x y a) (g : IsRoom n q ns x y b) : a = b := by
  rcases h with ⟨e, rfl⟩ | ⟨e, R, D, h1, h2, rfl⟩
  · rcases g with ⟨_, rfl⟩ | ⟨e', _⟩
    · rfl
    · rw [e] at e'
      cases e'
  · rcases g with ⟨e', _⟩ | ⟨_, R', D', g1, g2, rfl⟩
    · rw [e] at e'
      cases e'
    · rw [h1.uniq g1, h2.uniq g2]
theorem IsRoom.sym {n : Nat} {q : List Pr} {ns : List Int} {x y : Nat} {a : V} (h : IsRoom n q ns x y a) : IsRoom n q ns y x a := by
  unfold IsRoom at *
  rw [hasP_sym q y x, Nat.or_comm (2 ^ y)]
  exact h
theorem IsRoom.sc {n : Nat} {q : List Pr} {ns : List Int} {x y : Nat} {a : V} (h : IsRoom n q ns x y a) : scal a a = true := by
  rcases h with ⟨_, rfl⟩ | ⟨_, R, D, _, _, rfl⟩ <;> rfl
theorem roomQ {n : Nat} {q : List Pr} {ns : List Int} {x y : Nat} {H : Hp} {Q : VK} (k : ∀ rm, IsRoom n q ns x y rm → Ret rm H Q) : RoomQ n q ns x y H Q := ⟨fun e => k _ (.inl ⟨e, rfl⟩), fun e r s hr hs => k _ (.inr ⟨e, r, s, hr, hs, rfl⟩)⟩
theorem ite2 {c : Bool} {A B : Prop} {H : Hp} {KK : V → Hp → Prop} (rest : ∀ (M : Int) (H' : Hp), Same H H' → KK (.int M) H') (hA : c = true → (∀ (M : Int) (H' : Hp), Same H H' → KK (.int M) H') → A) (hB : c = false → (∀ (M : Int) (H' : Hp), Same H H' → KK (.int M) H') → B) : if c = true then A else B := by
  cases c
  · exact hB rfl rest
  · exact hA rfl rest
theorem ite3 {c : Bool} {A B : Prop} {H : Hp} {KK : Option V → Hp → Prop} (rest : ∀ (o : Option V) (H' : Hp), Same H H' → KK o H') (hA : c = true → (∀ (o : Option V) (H' : Hp), Same H H' → KK o H') → A) (hB : c = false → (∀ (o : Option V) (H' : Hp), Same H H' → KK o H') → B) : if c = true then A else B := by
  cases c
  · exact hB rfl rest
  · exact hA rfl rest
section
variable {P : Program} {w : World} {K : PySem.W.Frag} {mg : Str → Option Value} {base : Heap} {f : Addr} {fd : FuncData}
/-- _law_pair -/
def spPp (C : Addr) : Sp := fun vs H Q _ => ∃ (p b E a : Addr) (n x y : Nat) (z : Int) (q : List Pr) (kn : List (List Nat)) (ns : List Int), vs = [.ref p, .ref b, .ref E, .ref a, .int (x : Int), .int (y : Int), .int z] ∧ WebAt C H p (n : Int) q ∧ 2 ≤ n ∧ n ≤ 8 ∧ Ls H b q ∧ KnH H E kn ∧ KnS n q kn ∧ LI H a ns ∧ Amt n ns ∧ x < n ∧ y < n ∧ x ≠ y ∧ 0 ≤ z ∧ Ret (.bl true) H Q
abbrev ppN : List Str := ["_law_web", "_law_pairs", "_law_knots_here", "_law_needs_here", "_law_x", "_law_y", "_law_extra", "_law_room", "_law_lax", "_law_other", "_law_heavy_here", "_law_due", "_law_most", "_law_steps", "_law_step", "_law_free_here"]
theorem sc_pp : FnScope ppN ["_law_web", "_law_pairs", "_law_knots_here", "_law_needs_here", "_law_x", "_law_y", "_law_extra"] (defScope s_pp) := ⟨rfl, rfl, rfl, by decide +kernel, rfl, by decide +kernel, by decide +kernel⟩
theorem ok_pp {C CND CT CN : Addr} (F : Fun K "_law_pair" "_law_pair" s_pp f fd) (B : Blt3 mg) (PM : Df P w K mg base "pair_room" 9 ["web", "needs", "x", "y"] (spPm C CND CT)) (SL : Df P w K mg base "slack" 8 ["web", "needs", "thing"] (spSlx C CND CT)) (HY : Df P w K mg base "_law_heavy" 2 ["_law_knots_here", "_law_needs_here"] spHy) (HW : Df P w K mg base "_law_heavy_with" 2 ["_law_knots_here", "_law_needs_here", "_law_holding"] spHw) (CK : Df P w K mg base "_law_clash" 2 ["_law_pairs", "_law_x", "_law_y"] spCk) (LI' : Df P w K mg base "_law_int" 1 ["_law_value"] spInt)
    (LV : Df P w K mg base "_law_leaves" 10 ["_law_web", "_law_knots_here", "_law_needs_here", "_law_x", "_law_y", "_law_step", "_law_known"] (spLv C)) (FT : Df P w K mg base "free_together" 9 ["web", "needs", "x", "y", "s", "t"] (spFt C CND CT CN)) (CO : Df P w K mg base "cost" 9 ["web", "needs", "raises"] (spCst C)) (TWO : Df P w K mg base "_law_two" 1 ["_law_many", "_law_x", "_law_y", "_law_s", "_law_t"] spTwo) :
    FnOk P w K mg base (L2.CX P w) 11 f fd ["_law_web", "_law_pairs", "_law_knots_here", "_law_needs_here", "_law_x", "_law_y", "_law_extra"] (spPp C) := by
  refine F.okX sc_pp (fun vs H Q E h => ?_) (fun cdv A outer sh H vs Q E hr h => ?_)
  · obtain ⟨p, b, e, a, n, x, y, z, q, kn, ns, rfl, _⟩ := h
    rfl
  · obtain ⟨p, b, e, a, n, x, y, z, q, kn, ns, rfl, W, n2, n8, hb, he, ks, ha, am, xn, yn, ne, z0, k⟩ := h
    have nd := sc_pp.nd
    have r1 : Room 1 _ := hr.mono (by decide)
    have r2 : Room 2 _ := hr.mono (by decide)
    have r8 : Room 8 _ := hr.mono (by decide)
    have r9 : Room 9 _ := hr.mono (by decide)
    refine' ⟨_, pss_cons ?h1 (pss_cons ?h2 (pss_cons ?h3 (pss_cons ?h4 (pss_cons ?h5 (pss_cons ?h6 (pss_cons ?h7 (pss_cons ?h8 (pss_cons ?h9 (pss_cons ?h10 (pss_one ?h11)))))))))), ?hz⟩
    case h1 => exact ps_set (i := 7) nd rfl (.inl rfl) (pe_df PM r9 (by rfl) passUp (pa_cons (pv 0) (pa_cons (pe_callTy call_list_of (by rfl) B.list (by decide +kernel) (pa_cons (pv 3) pa_nil)) (pa_cons (pv 4) (pa_cons (pv 5) pa_nil)))))
    case h2 => exact ps_if (pt_cmpR op_ne (pe_df PM r9 (by rfl) passUp (pa_cons (pv 0) (pa_cons (pv 3) (pa_cons (pv 5) (pa_cons (pv 4) pa_nil))))) (pv 7) (nomark _)) (pss_one (ps_ret pe_bl)) pss_nil
    case h3 => exact ps_set (i := 8) nd rfl (.inl rfl) (pe_df SL r8 (by rfl) passUp (pa_cons (pv 0) (pa_cons (pv 3) (pa_cons (pv 4) pa_nil))))
    case h4 => exact ps_set (i := 9) nd rfl (.inl rfl) (pe_df SL r8 (by rfl) passUp (pa_cons (pv 0) (pa_cons (pv 3) (pa_cons (pv 5) pa_nil))))
    case h5 => exact ps_set (i := 10) nd rfl (.inl rfl) (pe_df HY r2 (by rfl) passUp (pa_cons (pv 2) (pa_cons (pv 3) pa_nil)))
    case h6 =>
      refine' ps_if (pt_val (pe_df CK r2 (by rfl) passUp (pa_cons (pv 1) (pa_cons (pv 4) (pa_cons (pv 5) pa_nil))))) (pss_cons ?b1 (pss_one ?b2)) (pss_one ?b3)
      case b1 => exact ps_set (i := 11) nd rfl (.inl rfl) (pe_op op_sub (pv 10) (pe_df HW r2 (by rfl) passUp (pa_cons (pv 2) (pa_cons (pv 3) (pa_cons (pe_lst (pa_cons (pv 4) (pa_cons (pv 5) pa_nil))) pa_nil)))))
      case b2 => exact ps_if (PW.pt (pw_or (pt_not (pt_val (pe_df LI' r1 (by rfl) passUp (pa_cons (pv 7) pa_nil)))) (pw_or (pt_cmpR op_ne (pv 7) (pv 11) (nomark _)) (pw_or1 (pt_cmpR op_lt (pv 7) (pe_callB (c_max rfl) (by rfl) B.max (by decide +kernel) (pa_cons (pv 8) (pa_cons (pv 9) pa_nil))) (nomark _)))))) (pss_one (ps_ret pe_bl)) pss_nil
      case b3 => exact ps_if (pt_cmpR op_notN (pv 7) pe_non (nomark _)) (pss_one (ps_ret pe_bl)) pss_nil
    case h7 => exact ps_set (i := 12) nd rfl (.inl rfl) (pe_ifExp (pt_cmpR op_isN (pv 7) pe_non (nomark _)) (pe_op op_add (pv 8) (pv 9)) (pv 7))
    case h8 => exact ps_set (i := 13) nd rfl (.inl rfl) (pe_lst (pa_cons (pe_lst (pa_cons pe_int (pa_cons pe_int pa_nil))) (pa_cons (pe_lst (pa_cons (pv 8) (pa_cons (pv 9) pa_nil))) (pa_cons (pe_lst (pa_cons (pe_op op_add (pv 8) pe_int) (pa_cons pe_int pa_nil))) (pa_cons (pe_lst (pa_cons pe_int (pa_cons (pe_op op_add (pv 9) pe_int) pa_nil))) (pa_cons (pe_lst (pa_cons (pv 8) (pa_cons (pe_callB (c_max rfl) (by rfl) B.max (by decide +kernel) (pa_cons pe_int (pa_cons (pe_op op_sub (pv 12) (pv 8)) pa_nil))) pa_nil))) (pa_cons (pe_lst (pa_cons (pv 6) (pa_cons (pv 6) pa_nil))) pa_nil)))))))
    case h9 => exact ps_for (passes_of rfl) rfl (pi_list (pv 13)) (pg_name (i := 14) nd rfl (.inl rfl)) (pss_one (ps_if (pt_not (pt_val (pe_df LV hr (by rfl) passUp (pa_cons (pv 0) (pa_cons (pv 2) (pa_cons (pv 3) (pa_cons (pv 4) (pa_cons (pv 5) (pa_cons (pv 14) (pa_cons (pe_lst (pa_cons (pv 10) (pa_cons (pv 8) (pa_cons (pv 9) (pa_cons (pv 7) pa_nil))))) pa_nil)))))))))) (pss_one (ps_ret pe_bl)) pss_nil))
    case h10 => exact ps_set (i := 15) nd rfl (.inl rfl) (pe_df FT r9 (by rfl) passUp (pa_cons (pv 0) (pa_cons (pv 3) (pa_cons (pv 5) (pa_cons (pv 4) (pa_cons (pv 6) (pa_cons (pv 8) pa_nil)))))))
    case h11 => exact ps_ret (pe_cmpR op_eq (pe_cmpR op_eq (pe_df CO r9 (by rfl) passUp (pa_cons (pv 0) (pa_cons (pv 3) (pa_cons (pe_df TWO r1 (by rfl) passUp (pa_cons (pe_callB c_len (by rfl) B.len PySem.boot_len (pa_cons (pv 3) pa_nil)) (pa_cons (pv 4) (pa_cons (pv 5) (pa_cons (pv 8) (pa_cons (pv 6) pa_nil)))))) pa_nil)))) pe_int (nomark _)) (pv 15) (nomark _))
    case hz =>
    have la : (ns.map V.int).length = n := by rw [List.length_map, am.len]
    -- the room
    refine ⟨_, rfl, _, rfl, a, _, rfl, .inl (SqL.of ha), fun l nl => ?_⟩
    have u1 := same_upd (o := .lst (ns.map V.int)) nl
    refine ⟨_, rfl, _, rfl, p, .ref l, .int (x : Int), .int (y : Int), .int (x : Int), .int (y : Int), n, q, rfl, W.mono u1, n2, n8, .int _, .int _, .inl ⟨ns, x, y, .inr ⟨l, rfl, LI.sq upd_same⟩, am, ⟨rfl, rfl, xn, yn, ne⟩, roomQ fun rm hrm H1 s1 => ?_⟩⟩
    have t1 := u1.trans s1
    refine ⟨_, rfl, _, rfl, _, rfl, _, rfl, p, .ref a, .int (y : Int), .int (x : Int), .int (y : Int), .int (x : Int), n, q, rfl, W.mono t1, n2, n8, .int _, .int _, .inl ⟨ns, y, x, .inr ⟨a, rfl, (ha.mono t1).sq⟩, am, ⟨rfl, rfl, yn, xn, Ne.symm ne⟩, roomQ fun rm2 hrm2 H2 s2 => ?_⟩⟩
    obtain rfl := hrm.uniq hrm2.sym
    have t2 := t1.trans s2
    refine ⟨_, rfl, hrm.sc, _, rfl, ?_⟩
    rw [show (!decide (rm = rm)) = false by simp]
    refine iteF ?_
    -- slack, heavy
    refine ⟨_, rfl, _, rfl, _, rfl, p, .ref a, .int (x : Int), .int (x : Int), n, q, rfl, W.mono t2, n2, n8, .int _, .inl ⟨ns, x, .inr ⟨a, rfl, (ha.mono t2).sq⟩, am, rfl, xn, fun R LA hR hA H3 s3 => ?_⟩⟩
    have t3 := t2.trans s3
    refine ⟨_, rfl, _, rfl, _, rfl, p, .ref a, .int (y : Int), .int (y : Int), n, q, rfl, W.mono t3, n2, n8, .int _, .inl ⟨ns, y, .inr ⟨a, rfl, (ha.mono t3).sq⟩, am, rfl, yn, fun R' LB hR' hB H4 s4 => ?_⟩⟩
    obtain rfl := hR.uniq hR'
    have t4 := t3.trans s4
    refine ⟨_, rfl, _, rfl, e, a, n, q, kn, ns, rfl, he.mono t4, ks, ha.mono t4, am, n8, fun R' hR' H5 s5 => ?_⟩
    obtain rfl := hR.uniq hR'
    have t5 := t4.trans s5
    obtain ⟨D, hD, hrv⟩ : ∃ D, (hasP q x y = true → Hv n q ns (2 ^ x ||| 2 ^ y) D) ∧ RoomV q x y R D rm := by
      rcases hrm with ⟨gap, rfl⟩ | ⟨hp, R', D, g1, g2, rfl⟩
      · exact ⟨0, (fun h => by rw [gap] at h; cases h), .inl ⟨gap, rfl⟩⟩
      · obtain rfl := hR.uniq g1
        exact ⟨D, fun _ => g2, .inr ⟨hp, rfl⟩⟩
    have A0 := hv_less hR hA
    have B0 := hv_less hR hB
    -- told by the clash
    refine ⟨_, rfl, _, rfl, _, rfl, b, (n : Int), x, y, q, rfl, W.cl, hb.mono t5, fun H6 s6 => ⟨_, rfl, ?_⟩⟩
    have t6 := t5.trans s6
    show (if (_ : Bool) = true then _ else _)
    refine' ite3 (H := H6) (KK := (fun KD => fun o H => tNext KD [some (V.ref p), some (.ref b), some (.ref e), some (.ref a), some (.int (x : Int)), some (.int (y : Int)), some (.int z), some rm, some (.int (R - LA)), some (.int (R - LB)), some (.int R), o, none, none, none, none] H) _) ?rest (fun hp rest => ?t1) (fun gap rest => ?t2)
    case t1 =>
      rcases id hrv with ⟨gap, _⟩ | ⟨_, erm⟩
      · rw [hp] at gap
        cases gap
      refine ⟨_, rfl, _, rfl, _, rfl, _, rfl, _, rfl, by show 2 ≤ sizeLine; decide, fun L nL => ?_⟩
      have u7 := t6.trans (same_upd (o := .lst [.int (x : Int), .int (y : Int)]) nL)
      refine ⟨e, a, L, n, [x, y], q, kn, ns, rfl, he.mono u7, ks, ha.mono u7, upd_same, am, n8, TwoK.two ne hp, (fun v hv => ?_), fun D' hD' H7 s7 => ?_⟩
      · rcases List.mem_cons.mp hv with rfl | hv
        · exact xn
        · rw [List.mem_singleton.mp hv]
          exact yn
      obtain rfl := (hD hp).uniq hD'
      have mx : SubM (2 ^ x) (2 ^ x ||| 2 ^ y) := fun v hv => by
        rw [or_two, hv]
        rfl
      have my : SubM (2 ^ y) (2 ^ x ||| 2 ^ y) := fun v hv => by
        rw [two_bit] at hv
        rw [or_two, hv, Bool.or_true]
      have l1 := hv_sub mx hA (hD hp)
      have l2 := hv_sub my hB (hD hp)
      refine ⟨_, _, rfl, rfl, ?_⟩
      refine ⟨_, rfl, rm, .int (R - D), rfl, (by rw [erm]; exact .int _), _, rfl, iteF ⟨_, rfl, _, rfl, (by rw [erm]; rfl), _, rfl, ?_⟩⟩
      rw [show (!decide (rm = V.int (R - D))) = false by rw [erm]; simp]
      refine iteF ⟨_, rfl, _, rfl, _, rfl, _, _, rfl, _, _, erm, rfl, _, rfl, ?_⟩
      rw [decide_eq_false (show ¬ R - D < (if R - LB > R - LA then R - LB else R - LA) by split <;> omega)]
      refine iteF ?_
      have zz := rest (some (V.int (R - D))) H7 ((same_upd nL).trans s7)
      dsimp only at zz
      unfold tNext at zz ⊢
      exact zz
    case t2 =>
      rcases id hrv with ⟨_, erm⟩ | ⟨hp, _⟩
      · refine ⟨_, rfl, rfl, _, rfl, ?_⟩
        rw [show (!decide (rm = V.non)) = false by rw [erm]; simp]
        refine iteF ?_
        have zz := rest none H6 (.refl _)
        dsimp only at zz
        unfold tNext at zz ⊢
        exact zz
      · rw [gap] at hp
        cases hp
    intro o11 H7 s7
    have t7 := t6.trans s7
    -- the most
    refine ⟨_, rfl, rfl, _, rfl, ?_⟩
    show (if (_ : Bool) = true then _ else _)
    refine' ite2 (H := H7) (KK := (fun KD => fun v H => tNext KD [some (V.ref p), some (.ref b), some (.ref e), some (.ref a), some (.int (x : Int)), some (.int (y : Int)), some (.int z), some rm, some (.int (R - LA)), some (.int (R - LB)), some (.int R), o11, some v, none, none, none] H) _) ?rest2 (fun _ rest => ?m1) (fun no rest => ?m2)
    case m1 =>
      refine ⟨_, rfl, _, rfl, _, _, rfl, rfl, ?_⟩
      have zz := rest (R - LA + (R - LB)) H7 (.refl _)
      dsimp only at zz
      unfold tNext at zz
      exact zz
    case m2 =>
      rcases id hrv with ⟨_, erm⟩ | ⟨_, erm⟩
      · exact absurd erm (of_decide_eq_false no)
      · refine ⟨_, rfl, ?_⟩
        have zz := rest (R - D) H7 (.refl _)
        dsimp only at zz
        rw [← erm] at zz
        unfold tNext at zz
        exact zz
    intro M H8 s8
    have t8 := t7.trans s8
    have lax0 : 0 ≤ R - LA := by omega
    have oth0 : 0 ≤ R - LB := by omega
    dsimp only
    unfold tNext
    refine ⟨by show 2 ≤ sizeLine; decide, fun p1 w1 => ?_⟩
    have v1 := same_upd (o := .lst [.int 0, .int 0]) w1
    have g1 : (upd H8 p1 (.lst [.int 0, .int 0])) p1 = some (.lst [.int 0, .int 0]) := upd_same
    generalize upd H8 p1 (.lst [.int 0, .int 0]) = G1 at v1 g1 ⊢
    refine ⟨_, rfl, _, rfl, ?_⟩
    refine ⟨by show 2 ≤ sizeLine; decide, fun p2 w2 => ?_⟩
    have v2 := same_upd (o := .lst [.int (R - LA), .int (R - LB)]) w2
    have g2 : (upd G1 p2 (.lst [.int (R - LA), .int (R - LB)])) p2 = some (.lst [.int (R - LA), .int (R - LB)]) := upd_same
    generalize upd G1 p2 (.lst [.int (R - LA), .int (R - LB)]) = G2 at v2 g2 ⊢
    refine ⟨_, rfl, _, _, rfl, rfl, ?_⟩
    refine ⟨by show 2 ≤ sizeLine; decide, fun p3 w3 => ?_⟩
    have v3 := same_upd (o := .lst [.int (R - LA + 1), .int 0]) w3
    have g3 : (upd G2 p3 (.lst [.int (R - LA + 1), .int 0])) p3 = some (.lst [.int (R - LA + 1), .int 0]) := upd_same
    generalize upd G2 p3 (.lst [.int (R - LA + 1), .int 0]) = G3 at v3 g3 ⊢
    refine ⟨_, rfl, _, _, rfl, rfl, ?_⟩
    refine ⟨by show 2 ≤ sizeLine; decide, fun p4 w4 => ?_⟩
    have v4 := same_upd (o := .lst [.int 0, .int (R - LB + 1)]) w4
    have g4 : (upd G3 p4 (.lst [.int 0, .int (R - LB + 1)])) p4 = some (.lst [.int 0, .int (R - LB + 1)]) := upd_same
    generalize upd G3 p4 (.lst [.int 0, .int (R - LB + 1)]) = G4 at v4 g4 ⊢
    refine ⟨_, rfl, _, rfl, _, rfl, _, _, rfl, rfl, _, _, rfl, ?_⟩
    refine ⟨by show 2 ≤ sizeLine; decide, fun p5 w5 => ?_⟩
    have v5 := same_upd (o := .lst [.int (R - LA), .int (if M - (R - LA) > 0 then M - (R - LA) else 0)]) w5
    have g5 : (upd G4 p5 (.lst [.int (R - LA), .int (if M - (R - LA) > 0 then M - (R - LA) else 0)])) p5 = some (.lst [.int (R - LA), .int (if M - (R - LA) > 0 then M - (R - LA) else 0)]) := upd_same
    generalize upd G4 p5 (.lst [.int (R - LA), .int (if M - (R - LA) > 0 then M - (R - LA) else 0)]) = G5 at v5 g5 ⊢
    refine ⟨_, rfl, _, rfl, ?_⟩
    refine ⟨by show 2 ≤ sizeLine; decide, fun p6 w6 => ?_⟩
    have v6 := same_upd (o := .lst [.int z, .int z]) w6
    have g6 : (upd G5 p6 (.lst [.int z, .int z])) p6 = some (.lst [.int z, .int z]) := upd_same
    generalize upd G5 p6 (.lst [.int z, .int z]) = G6 at v6 g6 ⊢
    refine ⟨by show 6 ≤ sizeLine; decide, fun L nL => ?_⟩
    have v7 := same_upd (o := .lst [.ref p1, .ref p2, .ref p3, .ref p4, .ref p5, .ref p6]) nL
    have gL : (upd G6 L (.lst [.ref p1, .ref p2, .ref p3, .ref p4, .ref p5, .ref p6])) L = some (.lst [.ref p1, .ref p2, .ref p3, .ref p4, .ref p5, .ref p6]) := upd_same
    generalize upd G6 L (.lst [.ref p1, .ref p2, .ref p3, .ref p4, .ref p5, .ref p6]) = G7 at v7 gL ⊢
    have c5 := v6.trans v7
    have c4 := v5.trans c5
    have c3 := v4.trans c4
    have c2 := v3.trans c3
    have c1 := v2.trans c2
    have t9 := t8.trans (v1.trans c1)
    have all : ∀ v ∈ [V.ref p1, .ref p2, .ref p3, .ref p4, .ref p5, .ref p6], ∃ st s t, v = V.ref st ∧ G7 st = some (.lst [.int s, .int t]) ∧ 0 ≤ s ∧ 0 ≤ t := fun v hv => by
      simp only [List.mem_cons, List.not_mem_nil, or_false] at hv
      rcases hv with rfl | rfl | rfl | rfl | rfl | rfl
      · exact ⟨_, _, _, rfl, c1 _ _ g1, by decide, by decide⟩
      · exact ⟨_, _, _, rfl, c2 _ _ g2, lax0, oth0⟩
      · exact ⟨_, _, _, rfl, c3 _ _ g3, by omega, by decide⟩
      · exact ⟨_, _, _, rfl, c4 _ _ g4, by decide, by omega⟩
      · exact ⟨_, _, _, rfl, c5 _ _ g5, lax0, by split <;> omega⟩
      · exact ⟨_, _, _, rfl, v7 _ _ g6, z0, z0⟩
    let Pv : Nat → L2.St → Hp → Prop := fun i σ H' => ∃ o14, σ = [some (V.ref p), some (.ref b), some (.ref e), some (.ref a), some (.int (x : Int)), some (.int (y : Int)), some (.int z), some rm, some (.int (R - LA)), some (.int (R - LB)), some (.int R), o11, some (.int M), some (.ref L), o14, none] ∧ Same G7 H'
    refine ⟨_, rfl, L, rfl, ⟨_, SqL.of gL⟩, for_it (walk_list (K := K) (a := L) (xs := [.ref p1, .ref p2, .ref p3, .ref p4, .ref p5, .ref p6])) Pv ⟨none, rfl, .refl _⟩ (fun i σ H' _ h => ?_) (fun i v σ Hx H' hi h y' => ?_) (fun σ H' h => ?_)⟩
    · obtain ⟨_, _, sm⟩ := h
      exact SqL.of (sm _ _ gL)
    · obtain ⟨o14, rfl, sm⟩ := h
      obtain ⟨rfl, hv⟩ := y'
      obtain ⟨st, s, t, rfl, hst, s0, t0⟩ := all v (List.mem_of_getElem? hv)
      have t10 := t9.trans sm
      refine ⟨_, rfl, _, rfl, _, rfl, _, rfl, _, rfl, _, rfl, ?_⟩
      refine ⟨_, rfl, _, rfl, _, rfl, _, rfl, ?_⟩
      refine ⟨by show 4 ≤ sizeLine; decide, fun kl nkl => ?_⟩
      have u10 := t10.trans (same_upd (o := .lst [.int R, .int (R - LA), .int (R - LB), rm]) nkl)
      have s10 := sm.trans (same_upd (o := .lst [.int R, .int (R - LA), .int (R - LB), rm]) nkl)
      exact ⟨p, e, a, st, kl, n, x, y, q, kn, ns, s, t, R, LA, LB, D, rm, rfl, W.mono u10, n2, n8, he.mono u10, ks, ha.mono u10, am, xn, yn, ne, s10 _ _ hst, s0, t0, upd_same, hR, hA, hB, hD, hrv, fun H11 t11 => ⟨_, rfl, iteF ⟨_, rfl, s10.trans t11⟩⟩⟩
    · obtain ⟨o14, rfl, sm⟩ := h
      have t10 := t9.trans sm
      refine ⟨_, rfl, _, rfl, _, rfl, _, rfl, _, rfl, _, rfl, p, .ref a, .int (y : Int), .int (x : Int), .int z, .int (R - LA), .int (y : Int), .int (x : Int), .int z, .int (R - LA), n, q, rfl, W.mono t10, n2, n8, .int _, .int _, .int _, .int _, .inl ⟨ns, y, x, z, R - LA, .inr ⟨a, rfl, (ha.mono t10).sq⟩, am, ⟨rfl, rfl, yn, xn, Ne.symm ne⟩, rfl, rfl, z0, lax0, fun fb hfb H11 t11 => ?_⟩⟩
      have t12 := t10.trans t11
      refine ⟨_, rfl, _, rfl, _, rfl, a, _, rfl, .inl (SqL.of (ha.mono t12)), ?_⟩
      rw [la]
      refine ⟨_, rfl, _, rfl, _, rfl, _, rfl, n, x, y, R - LA, z, rfl, by omega, fun H13 ra t13 _ hra => ?_⟩
      have t14 := t12.trans t13
      refine ⟨p, a, ra, n, q, ns, _, rfl, W.mono t14, n2, n8, (ha.mono t14).sq, hra.sq, am, twoR_amt lax0 z0, fun T R' hT hR' H15 t15 => ?_⟩
      obtain rfl := hR.uniq hR'
      refine ⟨rfl, _, rfl, rfl, ?_⟩
      rw [dec_bl, dec_int]
      have hD' : hasP q y x = true → Hv n q ns (2 ^ y ||| 2 ^ x) D := fun h => by
        rw [Nat.or_comm]
        exact hD (by rw [hasP_sym]; exact h)
      have w1 := free_in hR hB hA hD' hfb
      have w2 := two_in am xn yn ne lax0 z0 hR hA hB hD hT
      have w3 : Inside q y x z (R - LA) R LB LA D ↔ Inside q x y (R - LA) z R LA LB D := by
        unfold Inside
        rw [hasP_sym q y x, Int.add_comm z]
        exact ⟨fun h => ⟨h.2.1, h.1, h.2.2⟩, fun h => ⟨h.2.1, h.1, h.2.2⟩⟩
      have w4 : ((T - R == 0) == fb) = true := by
        rw [beq_iff_eq, Bool.eq_iff_iff, w1, w3, ← w2, beq_iff_eq]
        omega
      rw [w4]
      exact k H15 (t14.trans t15)
end
end K0
set_option Elab.async false
set_option linter.all false
set_option maxRecDepth 100000
set_option maxHeartbeats 4000000
namespace K0
open PySem PySem.Spec PyProof.Rows L2
abbrev s_lw : Stmt := top 78
theorem nxt {n x : Nat} {z : Int} (xn : x < n) (z0 : 0 ≤ z) (zn : z < (n : Int) - 1) : ∃ y : Nat, ((x : Int) + 1 + z) % (n : Int) = (y : Int) ∧ y < n ∧ x ≠ y := by
  by_cases c : (x : Int) + 1 + z < (n : Int)
  · refine ⟨((x : Int) + 1 + z).toNat, ?_, by omega, by omega⟩
    rw [Int.emod_eq_of_lt (by omega) c, Int.toNat_of_nonneg (by omega)]
  · refine ⟨((x : Int) + 1 + z - n).toNat, ?_, by omega, by omega⟩
    rw [show (x : Int) + 1 + z = ((x : Int) + 1 + z - n) + (n : Int) * 1 by omega, Int.add_mul_emod_self_left, Int.emod_eq_of_lt (by omega) (by omega), Int.toNat_of_nonneg (by omega)]
    omega
section
variable {P : Program} {w : World} {K : PySem.W.Frag} {mg : Str → Option Value} {base : Heap} {f : Addr} {fd : FuncData}
def spLw (K : PySem.W.Frag) : Sp := fun vs H Q _ => ∃ (a : Addr) (ns : List Int), vs = [.ref a] ∧ SqL K H a (ns.map V.int) ∧ ∀ H', Q (.bl true) H'
abbrev lwN : List Str := ["_law_script", "_law_draws_here", "_law_case_here", "_law_many", "_law_web", "_law_knots_here", "_law_needs_here", "_law_kept", "_law_turn", "_law_x", "_law_y", "_law_ones", "_law_z"]
theorem sc_lw : FnScope lwN ["_law_script"] (defScope s_lw) := ⟨rfl, rfl, rfl, by decide +kernel, rfl, by decide +kernel, by decide +kernel⟩
theorem ok_lw {C CN CW CND CT : Addr} (F : Fun K "law" "law" s_lw f fd) (B : Blt3 mg) (WK : WebK P w K mg base C CN CW) (DR : Df P w K mg base "_law_draws" 1 ["_law_script"] (spDr K)) (TK : Df P w K mg base "_law_take" 1 ["_law_draws_here", "_law_many"] spTk) (CA : Df P w K mg base "_law_case" 5 ["_law_draws_here", "_law_most"] spMd)
    (KN : Df P w K mg base "_law_knots" 3 ["_law_many", "_law_pairs"] spKn) (ND : Df P w K mg base "_law_needs" 2 ["_law_draws_here", "_law_many"] spNd) (LG : Df P w K mg base "_law_large" 2 ["_law_needs_here", "_law_draws_here"] spLg) (PP : Df P w K mg base "_law_pair" 11 ["_law_web", "_law_pairs", "_law_knots_here", "_law_needs_here", "_law_x", "_law_y", "_law_extra"] (spPp C))
    (PM : Df P w K mg base "pair_room" 9 ["web", "needs", "x", "y"] (spPm C CND CT)) (FT : Df P w K mg base "free_together" 9 ["web", "needs", "x", "y", "s", "t"] (spFt C CND CT CN)) (RF : Df P w K mg base "_law_refused" 11 ["_law_draws_here", "_law_web", "_law_needs_here", "_law_x", "_law_y"] (spRfd C)) :
    FnOk P w K mg base (L2.CX P w) 12 f fd ["_law_script"] (spLw K) := by
  refine F.okX sc_lw (fun vs H Q E h => ?_) (fun cdv A outer s H vs Q E hr h => ?_)
  · obtain ⟨l, ms, rfl, _⟩ := h
    rfl
  · obtain ⟨l, ms, rfl, hs, k⟩ := h
    have nd := sc_lw.nd
    have r1 : Room 1 _ := hr.mono (by decide)
    have r2 : Room 2 _ := hr.mono (by decide)
    have r3 : Room 3 _ := hr.mono (by decide)
    have r5 : Room 5 _ := hr.mono (by decide)
    have r9 : Room 9 _ := hr.mono (by decide)
    have hu : (A.deeper (envOfC "law" (defScope s_lw) s.heap.objs.size f cdv)).units + 64 < cLine := by have := hr.un; omega
    refine' ⟨_, pss_cons ?h1 (pss_cons ?h2 (pss_cons ?h3 (pss_cons ?h4 (pss_cons ?h5 (pss_cons ?h6 (pss_cons ?h7 (pss_cons ?h8 (pss_cons ?h9 (pss_cons ?h10 (pss_cons ?h11 (pss_cons ?h12 (pss_cons ?h13 (pss_cons ?h14 (pss_one ?h15)))))))))))))), ?hz⟩
    case h1 => exact (ps_set (i := 1) nd rfl (.inl rfl) (pe_df DR r1 (by rfl) passUp (pa_cons (pv 0) pa_nil)))
    case h2 => exact (ps_set (i := 2) nd rfl (.inl rfl) (pe_df CA r5 (by rfl) passUp (pa_cons (pv 1) (pa_cons (pe_op op_add pe_int (pe_df TK r1 (by rfl) passUp (pa_cons (pv 1) (pa_cons pe_int pa_nil)))) pa_nil))))
    case h3 => exact (ps_set (i := 3) nd rfl (.inl rfl) (pe_ix ix_list (pv 2) pe_int (fun _ _ => rfl)))
    case h4 => exact (ps_set (i := 4) nd rfl (.inl rfl) (pe_web WK r5 (by rfl) passUp (pa_cons (pv 3) (pa_cons (pe_callTy call_list_of (by rfl) B.list (by decide +kernel) (pa_cons (pe_ix ix_list (pv 2) pe_int (fun _ _ => rfl)) pa_nil)) pa_nil))))
    case h5 => exact (ps_set (i := 5) nd rfl (.inl rfl) (pe_df KN r3 (by rfl) passUp (pa_cons (pv 3) (pa_cons (pe_ix ix_list (pv 2) pe_int (fun _ _ => rfl)) pa_nil))))
    case h6 => exact (ps_set (i := 6) nd rfl (.inl rfl) (pe_df ND r2 (by rfl) passUp (pa_cons (pv 1) (pa_cons (pv 3) pa_nil))))
    case h7 => exact (ps_if (pt_cmpR op_eq (pe_df TK r1 (by rfl) passUp (pa_cons (pv 1) (pa_cons pe_int pa_nil))) pe_int (nomark _)) (pss_one (ps_set (i := 6) nd rfl (.inl rfl) (pe_df LG r2 (by rfl) passUp (pa_cons (pv 6) (pa_cons (pv 1) pa_nil))))) pss_nil)
    case h8 => exact (ps_set (i := 7) nd rfl (.inl rfl) (pe_callTy call_list_of (by rfl) B.list (by decide +kernel) (pa_cons (pv 6) pa_nil)))
    case h9 =>
      refine' (ps_for (passes_of rfl) rfl (pi_range1 (by rfl) B.range (pa_cons pe_int pa_nil)) (pg_name (i := 8) nd rfl (.inl rfl)) (pss_cons ?a1 (pss_cons ?a2 (pss_one ?a3))))
      case a1 => exact ps_set (i := 9) nd rfl (.inl rfl) (pe_df TK r1 (by rfl) passUp (pa_cons (pv 1) (pa_cons (pv 3) pa_nil)))
      case a2 => exact ps_set (i := 10) nd rfl (.inl rfl) (pe_op op_mod (pe_callTy call_int1 (by rfl) B.int (by decide +kernel) (pa_cons (pe_op op_add (pe_op op_add (pv 9) pe_int) (pe_df TK r1 (by rfl) passUp (pa_cons (pv 1) (pa_cons (pe_op op_sub (pv 3) pe_int) pa_nil)))) pa_nil)) (pv 3))
      case a3 => exact ps_if (pt_not (pt_val (pe_df PP hr (by rfl) passUp (pa_cons (pv 4) (pa_cons (pe_ix ix_list (pv 2) pe_int (fun _ _ => rfl)) (pa_cons (pv 5) (pa_cons (pv 6) (pa_cons (pv 9) (pa_cons (pv 10) (pa_cons (pe_df TK r1 (by rfl) passUp (pa_cons (pv 1) (pa_cons pe_int pa_nil))) pa_nil)))))))))) (pss_one (ps_ret pe_bl)) pss_nil
    case h10 => exact ps_set (i := 9) nd rfl (.inl rfl) (pe_df TK r1 (by rfl) passUp (pa_cons (pv 1) (pa_cons (pv 3) pa_nil)))
    case h11 => exact ps_set (i := 10) nd rfl (.inl rfl) (pe_op op_mod (pe_callTy call_int1 (by rfl) B.int (by decide +kernel) (pa_cons (pe_op op_add (pv 9) pe_int) pa_nil)) (pv 3))
    case h12 => exact (ps_setLc (i := 11) (own := [("_law_z", 12)]) (g := gName 12) (tt := tYes) (te := tC (.int 1)) rfl nd rfl (by rfl) (by rfl) (pi_range1 (by rfl) B.range (pa_cons (pv 3) pa_nil))
            (blkOk_by (N := lwN) (sc := defScope s_lw) (by decide +kernel)) (fun _ _ _ _ _ => pg_name (i := 12) nd rfl (.inl rfl)) (fun _ _ _ _ _ => pts_nil) (fun _ _ _ _ _ => pe_int))
    case h13 => exact ps_if (pt_cmpR op_ne (pe_df PM r9 (by rfl) passUp (pa_cons (pv 4) (pa_cons pe_non (pa_cons (pv 9) (pa_cons (pv 10) pa_nil))))) (pe_df PM r9 (by rfl) passUp (pa_cons (pv 4) (pa_cons (pv 11) (pa_cons (pv 9) (pa_cons (pv 10) pa_nil))))) (nomark _)) (pss_one (ps_ret pe_bl)) pss_nil
    case h14 => exact ps_if (pt_cmpR op_ne (pe_df FT r9 (by rfl) passUp (pa_cons (pv 4) (pa_cons pe_non (pa_cons (pv 9) (pa_cons (pv 10) (pa_cons pe_int (pa_cons pe_int pa_nil))))))) (pe_df FT r9 (by rfl) passUp (pa_cons (pv 4) (pa_cons (pv 11) (pa_cons (pv 9) (pa_cons (pv 10) (pa_cons pe_int (pa_cons pe_int pa_nil))))))) (nomark _)) (pss_one (ps_ret pe_bl)) pss_nil
    case h15 => exact (ps_ret (pe_and (pe_cmpR (op_eqD hu) (pv 6) (pv 7) (by rfl)) (pe_one (pe_df RF hr (by rfl) passUp (pa_cons (pv 1) (pa_cons (pv 4) (pa_cons (pv 6) (pa_cons (pv 9) (pa_cons (pv 10) pa_nil)))))))))
    case hz =>
    refine ⟨_, rfl, l, ms, rfl, hs, fun H1 d s1 nd1 dr1 => ?_⟩
    refine ⟨_, rfl, _, rfl, d, 3, rfl, by decide, dr1, fun m H2 m0 m3 s2 dr2 => ⟨_, _, rfl, rfl, ?_⟩⟩
    dsimp only [tNil]
    refine ⟨d, 5 + m, rfl, by omega, by omega, dr2, fun H3 v n q r s3 dr3 cs ck n2 nm => ?_⟩
    obtain ⟨a, b, c, rfl, ha, ⟨ys, hy, dy⟩, _⟩ := id cs
    obtain ⟨N, rfl⟩ := Int.eq_ofNat_of_zero_le (show 0 ≤ n by omega)
    have ha0 := del_sub _ _ ha
    refine ⟨_, rfl, a, _, 0, _, rfl, rfl, SqL.of ha0, rfl, ?_⟩
    -- the web
    refine ⟨_, rfl, _, rfl, a, _, 1, _, rfl, rfl, SqL.of ha0, rfl, b, ys, rfl, .inl (SqL.of (del_sub _ _ hy)), fun c1 nc1 => ?_⟩
    dsimp only [tNil]
    show spMk K C CN CW [.int (N : Int), .ref c1] _ _ _
    have s4 := same_upd (o := .lst ys) nc1
    have q49 := len28 ck.c (by omega)
    refine mk_ls ⟨ys, upd_same, (dy.mono del_sub).mono s4⟩ ck.c.rng (by omega) (by omega) (by omega) fun H5 pw q' s5 npw cq eq' Wn => ?_
    have e0 : q = q' := (cl_eq ck.c cq eq').symm
    subst e0
    have W5 : WebAt C (del H5 d) pw N q := Wn.mono (new_del (dr3.mono s4).at)
    have s35 := s4.trans s5
    have dr5 := dr3.mono s35
    -- its knots
    have hb5 : Ls H5 b q := ⟨ys, s35 _ _ (del_sub _ _ hy), (dy.mono del_sub).mono s35⟩
    refine ⟨_, rfl, _, rfl, a, _, 1, _, rfl, rfl, SqL.of (s35 _ _ ha0), rfl, ?_⟩
    dsimp only [tNil]
    refine ⟨b, N, q, rfl, by omega, ck.c, hb5, fun H6 D kn s6 hDn ks => ?_⟩
    have dr6 := dr5.mono s6
    have delS : ∀ {Ha Hb : Hp}, Same Ha Hb → Same (del Ha d) (del Hb d) := fun s => same_del (same_und s)
    have D6 : KnH (del H6 d) D kn := hDn.mono (new_del dr5.at)
    have W6 := W5.mono (delS s6)
    -- the needs
    refine ⟨_, rfl, _, rfl, d, N, rfl, by omega, dr6, fun H7 na0 ns0 s7 dr7 hn0 am0 le0 => ?_⟩
    refine ⟨_, rfl, d, 3, rfl, by decide, dr7, fun t H8 t0 t3 s8 dr8 => ⟨rfl, _, rfl, ?_⟩⟩
    have s68 := same_trd s7 s8
    show (if (_ : Bool) = true then _ else _)
    refine ifNd (H := H6) (d := d) (N := N) (KK := fun v H => tNext _ ((((((L2.start lwN [V.ref l]).set 1 (some (V.ref d))).set 2 (some (V.ref a))).set 3 (some (V.int (N : Int)))).set 4 (some (V.ref pw))).set 5 (some (V.ref D)) |>.set 6 (some v)) H) ?rest (fun _ rest => ?t1) (fun rest => rest H8 na0 ns0 s68 dr8 (hn0.mono (same_del s8)) am0)
    case t1 => exact ⟨_, rfl, _, rfl, d, na0, N, ns0, rfl, by omega, dr8, hn0.mono (same_del s8), am0, le0, fun H' b' ms' s dr hb' am' => rest H' b' ms' (same_trd s68 s) dr hb' am'⟩
    intro H9 na ns s9 dr9 hn am
    have W9 := W6.mono (same_del s9)
    have b9 : Ls (del H9 d) b q := ⟨ys, (delS (s35.trans s6)) _ _ hy |> (same_del s9 _ _), (dy.mono (delS (s35.trans s6))).mono (same_del s9)⟩
    have a9 := (same_del s9) _ _ ((delS (s35.trans s6)) _ _ ha)
    have D9 := D6.mono (same_del s9)
    have ln : (ns.map V.int).length = N := by rw [List.length_map, am.len]
    -- kept
    refine ⟨_, rfl, na, _, rfl, .inl (SqL.of (del_sub _ _ hn)), fun k1 nk1 => ?_⟩
    have u10 : Same H9 (upd H9 k1 (.lst (ns.map V.int))) := same_upd nk1
    have dr10 := dr9.mono u10
    have k1d := dr9.ne nk1
    have hk10 : LI (del (upd H9 k1 (.lst (ns.map V.int))) d) k1 ns := upd_del_get upd_same k1d
    have e10 : Same (del H9 d) (upd H9 k1 (.lst (ns.map V.int))) := same_und u10
    generalize upd H9 k1 (.lst (ns.map V.int)) = H10 at u10 dr10 hk10 e10 ⊢
    let Pv : Nat → L2.St → Hp → Prop := fun i σ H' => ∃ o8 o9 o10, σ = [some (V.ref l), some (.ref d), some (.ref a), some (.int (N : Int)), some (.ref pw), some (.ref D), some (.ref na), some (.ref k1), o8, o9, o10, none, none] ∧ Same (del H9 d) H' ∧ DrO H' d ∧ LI (del H' d) k1 ns
    refine ⟨2, rfl, by decide, by decide, ?_⟩
    refine for_range (n := 2) Pv ⟨none, none, none, rfl, e10, dr10, hk10⟩ (fun i σ H' hi h => ?_) (fun σ H' h => ?_)
    · obtain ⟨o8, o9, o10, rfl, e, dr, hk⟩ := h
      rw [Int.zero_add]
      refine ⟨_, rfl, _, rfl, d, N, rfl, by omega, dr, fun z1 H11 z10 z1N s11 dr11 => ?_⟩
      obtain ⟨x, rfl⟩ := Int.eq_ofNat_of_zero_le z10
      have e11 := same_trd e s11
      refine ⟨_, rfl, _, _, rfl, rfl, _, rfl, _, rfl, _, _, rfl, rfl, d, (N : Int) - 1, rfl, by omega, dr11, fun z2 H12 z20 z2N s12 dr12 => ⟨_, _, rfl, rfl, .inl ⟨_, rfl, _, rfl, _, _, rfl, rfl, by omega, ?_⟩⟩⟩
      have e12 := same_trd e11 s12
      obtain ⟨y, ey, yN, ne⟩ := nxt (n := N) (x := x) (by omega) z20 z2N
      rw [show (fun i j : Int => V.int (i % j)) ((x : Int) + 1 + z2) (N : Int) = V.int (y : Int) from congrArg V.int ey]
      refine ⟨_, rfl, _, rfl, a, _, 1, _, rfl, rfl, SqL.of (e12 _ _ a9), rfl, _, rfl, _, rfl, _, rfl, _, rfl, _, rfl, d, 5, rfl, by decide, dr12, fun z3 H13 z30 z35 s13 dr13 => ?_⟩
      have e13 := same_trd e12 s13
      have hk13 : LI (del H13 d) k1 ns := (same_del s13) _ _ ((same_del s12) _ _ ((same_del s11) _ _ hk))
      dsimp only [tNil]
      exact ⟨pw, b, D, na, N, x, y, z3, q, kn, ns, rfl, W9.mono e13, by omega, by omega, b9.mono e13, D9.mono e13, ks, e13 _ _ hn, am, by omega, yN, ne, z30, fun H14 t14 => ⟨_, rfl, iteF ⟨_, _, _, rfl, fun x o h => t14 x o (e13 x o h), dr13.mono t14, (same_del (same_und t14)) _ _ hk13⟩⟩⟩
    · obtain ⟨o8, o9, o10, rfl, e, dr, hk⟩ := h
      refine ⟨_, rfl, _, rfl, d, N, rfl, by omega, dr, fun z1 H11 z10 z1N s11 dr11 => ?_⟩
      obtain ⟨x, rfl⟩ := Int.eq_ofNat_of_zero_le z10
      have xN : x < N := by omega
      have e11 := same_trd e s11
      have hk11 : LI (del H11 d) k1 ns := (same_del s11) _ _ hk
      refine ⟨_, rfl, _, _, rfl, rfl, .inl ⟨_, rfl, _, rfl, _, _, rfl, rfl, by omega, ?_⟩⟩
      obtain ⟨y, ey, yN, ne⟩ := nxt (n := N) (x := x) (z := 0) xN (Int.le_refl _) (by omega)
      rw [Int.add_zero] at ey
      rw [show (fun i j : Int => V.int (i % j)) ((x : Int) + 1) (N : Int) = V.int (y : Int) from congrArg V.int ey]
      -- ones
      refine ⟨_, rfl, N, rfl, by omega, by omega, fun L1 nL1 => ?_⟩
      rw [Int.toNat_natCast]
      have am1 := ones_amt N
      refine lc_range (lo := 0) (n := N) (fun i H' => Same H11 H' ∧ H' L1 = some (.lst ((List.replicate i (1 : Int)).map V.int))) ⟨same_upd nL1, upd_same⟩ (fun i H' hi ⟨sm, hD⟩ => ?_) (fun H15 ⟨g15, h15⟩ => ?_)
      · refine ⟨rfl, _, hD, ?_, fun b o h => ?_, ?_⟩
        · rw [List.length_map, List.length_replicate, sizeLine_eq]
          omega
        · rw [upd_ne (ne_of_none h nL1)]
          exact sm b o h
        · rw [upd_same, List.replicate_succ', List.map_append]
          rfl
      have e15 : Same (del H9 d) H15 := fun x o h => g15 x o (e11 x o h)
      refine ⟨_, rfl, _, rfl, _, rfl, pw, .non, .int (x : Int), .int (y : Int), .int (x : Int), .int (y : Int), N, q, rfl, W9.mono e15, by omega, by omega, .int _, .int _, .inl ⟨_, x, y, .inl ⟨rfl, rfl⟩, am1, ⟨rfl, rfl, xN, yN, ne⟩, roomQ fun rm hrm H16 t16 => ?_⟩⟩
      have e16 : Same (del H9 d) H16 := fun x o h => t16 x o (e15 x o h)
      refine ⟨_, rfl, _, rfl, _, rfl, _, rfl, pw, .ref L1, .int (x : Int), .int (y : Int), .int (x : Int), .int (y : Int), N, q, rfl, W9.mono e16, by omega, by omega, .int _, .int _, .inl ⟨_, x, y, .inr ⟨L1, rfl, (LI.mono t16 h15).sq⟩, am1, ⟨rfl, rfl, xN, yN, ne⟩, roomQ fun rm2 hrm2 H17 t17 => ?_⟩⟩
      obtain rfl := hrm.uniq hrm2
      have t157 := t16.trans t17
      have e17 : Same (del H9 d) H17 := fun x o h => t157 x o (e15 x o h)
      refine ⟨hrm.sc, _, rfl, ?_⟩
      rw [show (!decide (rm = rm)) = false by simp]
      refine iteF ⟨_, rfl, _, rfl, _, rfl, pw, .non, .int (x : Int), .int (y : Int), .int 1, .int 1, .int (x : Int), .int (y : Int), .int 1, .int 1, N, q, rfl, W9.mono e17, by omega, by omega, .int _, .int _, .int _, .int _, .inl ⟨_, x, y, 1, 1, .inl ⟨rfl, rfl⟩, am1, ⟨rfl, rfl, xN, yN, ne⟩, rfl, rfl, by decide, by decide, fun b1 hb1 H18 t18 => ?_⟩⟩
      have t158 := t157.trans t18
      have e18 : Same (del H9 d) H18 := fun x o h => t158 x o (e15 x o h)
      refine ⟨_, rfl, _, rfl, _, rfl, _, rfl, pw, .ref L1, .int (x : Int), .int (y : Int), .int 1, .int 1, .int (x : Int), .int (y : Int), .int 1, .int 1, N, q, rfl, W9.mono e18, by omega, by omega, .int _, .int _, .int _, .int _, .inl ⟨_, x, y, 1, 1, .inr ⟨L1, rfl, (LI.mono t158 h15).sq⟩, am1, ⟨rfl, rfl, xN, yN, ne⟩, rfl, rfl, by decide, by decide, fun b2 hb2 H19 t19 => ?_⟩⟩
      obtain rfl := hb1.uniq hb2
      have t119 := g15.trans (t158.trans t19)
      have e19 : Same (del H9 d) H19 := fun x o h => t119 x o (e11 x o h)
      refine ⟨rfl, _, rfl, ?_⟩
      rw [dec_bl, show (!(b1 == b1)) = false by cases b1 <;> rfl]
      refine iteF ?_
      -- the needs are as they were; what is refused
      refine ⟨_, rfl, _, rfl, eq_ints (e19 _ _ hn) (t119 _ _ (del_sub _ _ hk11)) ⟨true, rfl, iteT ?_⟩⟩
      refine ⟨_, rfl, _, rfl, _, rfl, _, rfl, _, rfl, ?_⟩
      dsimp only [tNil]
      exact ⟨d, pw, na, N, x, y, q, ns, rfl, W9.mono (same_del e19), by omega, by omega, dr11.mono t119, (same_del e19) _ _ hn, am, xN, yN, ne, k⟩
end
end K0
set_option Elab.async false
set_option linter.all false
set_option maxRecDepth 100000
set_option maxHeartbeats 2000000
namespace K0
open PySem PySem.Spec PyProof.Rows L2
abbrev s_eP : Stmt := inClass (top 7) 0
abbrev s_eND : Stmt := inClass (top 8) 0
/-- a def with more than one default -/
structure XG2 (K : PySem.W.Frag) (x q : Str) (st : Stmt) (f : Addr) (vs : List V) : Prop where
  ex : ∃ fd : FuncData, FunD K x q (defArgs st) (defBody st) (defScope st) vs [] f fd
theorem xg2_mk {K : PySem.W.Frag} {x q : Str} {st : Stmt} {vs : List V} {oc : Value} {od an : Option Addr} {osl : Array (Option Value)} {kV doc pm cdv ct : Value} {ar : Arguments} {bo : List Stmt} {sc : Scope} {o : Obj} {f : Addr} {dV : Value} {T : Addr} {oT : Obj} {its : List Value} {n : Nat}
  (l : K.lookup f = some o) (e : o = ⟨oc, od, .func (PySem.W.fnOf x q ar bo sc dV kV doc pm an cdv ct), osl⟩) (e1 : ar = defArgs st) (e2 : bo = defBody st) (e3 : sc = defScope st) (c : PySem.W.codeIn K cdv q = true) (k : PySem.W.keepIn K (.ref f) = true) (d : dV = .ref T) (t : K.lookup T = some oT) (y : oT.data = .seq its.toArray n) (r : Vals vs its) (ne : vs ≠ []) : XG2 K x q st f vs := by
  subst e1 e2 e3 e
  exact ⟨_, ⟨oc, od, dV, kV, doc, pm, an, cdv, ct, osl, rfl, l, c, .inr ⟨ne, T, oT, its, n, d, t, y, r⟩, .inl rfl⟩, k⟩
section
variable {P : Program} {w : World} {K : PySem.W.Frag} {mg : Str → Option Value} {base : Heap} {f C : Addr} {fd : FuncData}
theorem sc_eP : FnScope ["self", "place"] ["self", "place"] (defScope s_eP) := ⟨rfl, rfl, rfl, by decide +kernel, rfl, by decide +kernel, by decide +kernel⟩
theorem ok_eP (F : Fun K "__init__" "BadPart.__init__" s_eP f fd) (T : ErrC K C ["place"]) : FnOk P w K mg base CX0 1 f fd ["self", "place"] (spE1 C "place") := by
  refine F.ok sc_eP (fun vs H Q E h => ?_) (fun cdv A outer s H vs Q E hr h => ?_)
  · obtain ⟨a, v, rfl, _⟩ := h
    rfl
  · obtain ⟨a, v, rfl, ha, q⟩ := h
    refine ⟨_, pss_one (ps_stE (fl := ["place"]) (pv 0) (pv 1)), ?_⟩
    exact ⟨_, rfl, _, rfl, a, C, rfl, T, by decide, .inl ⟨ha, fun dx n ne => q dx n ne⟩⟩
theorem sc_eND : FnScope ["self", "place"] ["self", "place"] (defScope s_eND) := ⟨rfl, rfl, rfl, by decide +kernel, rfl, by decide +kernel, by decide +kernel⟩
theorem ok_eND (F : Fun K "__init__" "BadNeeds.__init__" s_eND f fd) (T : ErrC K C ["place"]) : FnOk P w K mg base CX0 1 f fd ["self", "place"] (spE1 C "place") := by
  refine F.ok sc_eND (fun vs H Q E h => ?_) (fun cdv A outer s H vs Q E hr h => ?_)
  · obtain ⟨a, v, rfl, _⟩ := h
    rfl
  · obtain ⟨a, v, rfl, ha, q⟩ := h
    refine ⟨_, pss_one (ps_stE (fl := ["place"]) (pv 0) (pv 1)), ?_⟩
    exact ⟨_, rfl, _, rfl, a, C, rfl, T, by decide, .inl ⟨ha, fun dx n ne => q dx n ne⟩⟩
end
end K0
set_option Elab.async false
set_option linter.all false
set_option maxRecDepth 100000
set_option maxHeartbeats 4000000
namespace K0
open PySem PySem.Spec PyProof.Rows L2
/-! ### what the top has written -/
/-- a def of the top -/
structure DG (K : PySem.W.Frag) (x : Str) (st : Stmt) : Prop where
  ex : ∃ (f : Addr) (fd : FuncData), PySem.W.nsIn K mainGlobals x = some (some (.ref f)) ∧ Fun K x x st f fd
/-- a method of the class at C -/
structure MG (K : PySem.W.Frag) (C : Addr) (m q : Str) (st : Stmt) : Prop where
  ex : ∃ (f : Addr) (fd : FuncData), PySem.W.findIn K (.ref C) m = some (some (.ref f)) ∧ PySem.W.isFn K (.ref f) = true ∧ PySem.W.fnIn K f = true ∧ Fun K m q st f fd
/-- an error class with its own __init__ -/
structure EG (K : PySem.W.Frag) (x : Str) (C : Addr) (fl : List Str) (q : Str) (st : Stmt) : Prop where
  T : ErrC K C fl
  g : PySem.W.nsIn K mainGlobals x = some (some (.ref C))
  ex : ∃ (f : Addr) (fd : FuncData), PySem.W.findIn K (.ref C) "__init__" = some (some (.ref f)) ∧ PySem.W.typeIn K (.ref f) = some (.type "function") ∧ Fun K "__init__" q st f fd
/-- a def with one default, the def's own name x where it is the top's -/
structure XG (K : PySem.W.Frag) (x q : Str) (st : Stmt) (f : Addr) (v : V) : Prop where
  ex : ∃ fd : FuncData, FunD K x q (defArgs st) (defBody st) (defScope st) [v] [] f fd
theorem FnOk.up {P : Program} {w : World} {K : PySem.W.Frag} {mg : Str → Option Value} {base : Heap} {CX : CXT} {k : Nat} {f : Addr} {fd : FuncData} {ps : List Str} {sp : Sp} (F : FnOk P w K mg base CX0 k f fd ps sp) : FnOk P w K mg base CX k f fd ps sp :=
  ⟨F.len, fun A outer s H args us vs Q E hr he hb hv hs Γ p hc hΓ => wpCode_mono (fun r s' h => by
    cases r with
    | ok v => cases v <;> exact h
    | error e => exact h.elim) (F.run A outer s H args us vs Q E hr he hb hv hs Γ p hc hΓ)⟩
section
variable {P : Program} {w : World} {K : PySem.W.Frag} {mg : Str → Option Value} {base h : Heap} {x q m : Str} {st : Stmt} {k : Nat} {ps : List Str} {sp : Sp} {C : Addr}
theorem DG.df (g : DG K x st) (X : K.In h) (G : h.Ns mainGlobals mg) (ok : ∀ f fd, Fun K x x st f fd → FnOk P w K mg base (L2.CX P w) k f fd ps sp)
    (hb : ∀ (kV doc pm : Value) (an : Option Addr) (cdv ct : Value) (us : List Value), us.length = ps.length → bindArgs (PySem.W.fnOf x x (defArgs st) (defBody st) (defScope st) .none kV doc pm an cdv ct) ⟨us, []⟩ = pure (ps.zip us)) : Df P w K mg base x k ps sp := by
  obtain ⟨f, fd, e, F⟩ := g.ex
  exact ⟨f, fd, PySem.W.mg_of X G e, F.kp, ok f fd F, F.binds hb⟩
theorem MG.mt (g : MG K C m q st) (c : Cls K C) (ok : ∀ f fd, Fun K m q st f fd → FnOk P w K mg base (L2.CX P w) k f fd ps sp)
    (hb : ∀ (kV doc pm : Value) (an : Option Addr) (cdv ct : Value) (us : List Value), us.length = ps.length → bindArgs (PySem.W.fnOf m q (defArgs st) (defBody st) (defScope st) .none kV doc pm an cdv ct) ⟨us, []⟩ = pure (ps.zip us)) : Mt P w K mg base C m k ps sp := by
  obtain ⟨f, fd, e, i, n, F⟩ := g.ex
  exact ⟨f, fd, c, ⟨e, i, F.kp⟩, i, n, e, ok f fd F, F.binds hb⟩
theorem EG.er {fl : List Str} (g : EG K x C fl q st) (X : K.In h) (G : h.Ns mainGlobals mg) (ok : ∀ f fd, Fun K "__init__" q st f fd → FnOk P w K mg base CX0 1 f fd ps sp)
    (hb : ∀ (kV doc pm : Value) (an : Option Addr) (cdv ct : Value) (us : List Value), us.length = ps.length → bindArgs (PySem.W.fnOf "__init__" q (defArgs st) (defBody st) (defScope st) .none kV doc pm an cdv ct) ⟨us, []⟩ = pure (ps.zip us)) : Er P w K mg base x C fl ps sp := by
  obtain ⟨f, fd, e, i, F⟩ := g.ex
  exact ⟨g.T, PySem.W.mg_of X G g.g, f, fd, e, i, ok f fd F, F.binds hb⟩
end
/-- a def at f -/
structure PG (K : PySem.W.Frag) (x q : Str) (st : Stmt) (f : Addr) : Prop where
  ex : ∃ fd : FuncData, Fun K x q st f fd
/-- the empty tuple that the top has made -/
structure EmT (K : PySem.W.Frag) (e : Addr) : Prop where
  ex : ∃ (o : Obj) (its : Array Value) (n : Nat), K.lookup e = some o ∧ o.cls = .type "tuple" ∧ o.data = .seq its n ∧ its = #[]
theorem em_mk {K : PySem.W.Frag} {e : Addr} {o : Obj} {its : Array Value} {n : Nat} (l : K.lookup e = some o) (x : o.cls = .type "tuple") (y : o.data = .seq its n) (z : its = #[]) : EmT K e := ⟨o, its, n, l, x, y, z⟩
theorem EmT.sq {K : PySem.W.Frag} {e : Addr} (h : EmT K e) (H : Hp) : SqT K H e [] := by
  obtain ⟨o, its, n, h1, h2, h3, rfl⟩ := h.ex
  exact .inr ⟨o, #[], n, h1, h2, h3, Nat.zero_le _, .nil⟩
theorem ErrC.xf {K : PySem.W.Frag} {C : Addr} {fl : List Str} (T : ErrC K C fl) : XfC K C := ⟨T.ga, T.gg, T.exC, T.hd⟩
theorem ErrC.exm {K : PySem.W.Frag} {C : Addr} {fl : List Str} (T : ErrC K C fl) {cls : Value} {b : Bool} (h : PySem.W.subIn K cls (.ref C) = some b) : PySem.W.exmOne K cls (.ref C) = some b := PySem.W.exm_ref T.exC T.hd T.tyC h
theorem fun_of {K : PySem.W.Frag} {x q : Str} {st : Stmt} {oc : Value} {od an : Option Addr} {osl : Array (Option Value)} {kV doc pm cdv ct : Value} {ar : Arguments} {bo : List Stmt} {sc : Scope} {o : Obj} {f : Addr}
  (l : K.lookup f = some o) (e : o = ⟨oc, od, .func (PySem.W.fnOf x q ar bo sc .none kV doc pm an cdv ct), osl⟩) (e1 : ar = defArgs st) (e2 : bo = defBody st) (e3 : sc = defScope st) (c : PySem.W.codeIn K cdv q = true) (k : PySem.W.keepIn K (.ref f) = true) : ∃ fd, Fun K x q st f fd := by
  subst e1 e2 e3 e
  exact ⟨_, ⟨oc, od, kV, doc, pm, an, cdv, ct, osl, rfl, l, c⟩, k⟩
theorem dg_mk {K : PySem.W.Frag} {q : Str} {st : Stmt} {oc : Value} {od an : Option Addr} {osl : Array (Option Value)} {kV doc pm cdv ct : Value} {ar : Arguments} {bo : List Stmt} {sc : Scope} {o : Obj} {f : Addr}
  (a : PySem.W.nsIn K mainGlobals q = some (some (.ref f))) (l : K.lookup f = some o) (e : o = ⟨oc, od, .func (PySem.W.fnOf q q ar bo sc .none kV doc pm an cdv ct), osl⟩) (e1 : ar = defArgs st) (e2 : bo = defBody st) (e3 : sc = defScope st) (c : PySem.W.codeIn K cdv q = true) (k : PySem.W.keepIn K (.ref f) = true) : DG K q st := by
  obtain ⟨fd, F⟩ := fun_of l e e1 e2 e3 c k
  exact ⟨f, fd, a, F⟩
theorem mg_mk {K : PySem.W.Frag} {C : Addr} {m q : Str} {st : Stmt} {oc : Value} {od an : Option Addr} {osl : Array (Option Value)} {kV doc pm cdv ct : Value} {ar : Arguments} {bo : List Stmt} {sc : Scope} {o : Obj} {f : Addr}
  (a : PySem.W.findIn K (.ref C) m = some (some (.ref f))) (i : PySem.W.isFn K (.ref f) = true) (n : PySem.W.fnIn K f = true) (l : K.lookup f = some o) (e : o = ⟨oc, od, .func (PySem.W.fnOf m q ar bo sc .none kV doc pm an cdv ct), osl⟩) (e1 : ar = defArgs st) (e2 : bo = defBody st) (e3 : sc = defScope st) (c : PySem.W.codeIn K cdv q = true) (k : PySem.W.keepIn K (.ref f) = true) : MG K C m q st := by
  obtain ⟨fd, F⟩ := fun_of l e e1 e2 e3 c k
  exact ⟨f, fd, a, i, n, F⟩
theorem eg_mk {K : PySem.W.Frag} {x : Str} {C : Addr} {fl : List Str} {q : Str} {st : Stmt} {oc : Value} {od an : Option Addr} {osl : Array (Option Value)} {kV doc pm cdv ct : Value} {ar : Arguments} {bo : List Stmt} {sc : Scope} {o : Obj} {f : Addr} {oC : Obj} {nm qn : Str} {N : Addr} {bs bm : List Value} {sn : List Str} {sub : List Value} {ab : Bool} {col : Option Bool} {dd : Option Addr} {m0 m1 m2 m3 m5 : Option Value}
  (g : PySem.W.nsIn K mainGlobals x = some (some (.ref C))) (xl : K.lookup C = some oC) (xe : oC = excClassObj nm qn C N bs bm true sn sub ab col dd m0 m1 m2 m3 m5 "Exception.__new__") (xb : (tailOf bm == exT) = true)
  (sa : PySem.W.findIn K (.ref C) "__setattr__" = some (some (.builtin "object.__setattr__"))) (ga : PySem.W.findIn K (.ref C) "__getattribute__" = some (some (.builtin "BaseException.__getattribute__"))) (gg : PySem.W.findIn K (.ref C) "__getattr__" = some none)
  (ex : PySem.W.subIn K (.ref C) (.type "BaseException") = some true) (ty : PySem.W.typeIn K (.ref C) = some (.type "type")) (kc : PySem.W.keepIn K (.ref C) = true) (hd : PySem.W.hasDictIn K C = true) (no : ∀ z ∈ fl, PySem.W.findIn K (.ref C) z = some none)
  (i : PySem.W.findIn K (.ref C) "__init__" = some (some (.ref f))) (t : PySem.W.typeIn K (.ref f) = some (.type "function")) (l : K.lookup f = some o) (e : o = ⟨oc, od, .func (PySem.W.fnOf "__init__" q ar bo sc .none kV doc pm an cdv ct), osl⟩) (e1 : ar = defArgs st) (e2 : bo = defBody st) (e3 : sc = defScope st) (c : PySem.W.codeIn K cdv q = true) (k : PySem.W.keepIn K (.ref f) = true) : EG K x C fl q st := by
  obtain ⟨fd, F⟩ := fun_of l e e1 e2 e3 c k
  subst xe
  exact ⟨⟨⟨nm, qn, N, bs, bm, sn, sub, ab, col, dd, m0, m1, m2, m3, m5, xl, xb⟩, sa, ga, gg, ex, ty, kc, hd, no⟩, g, f, fd, i, t, F⟩
theorem xg_mk {K : PySem.W.Frag} {x q : Str} {st : Stmt} {v : V} {oc : Value} {od an : Option Addr} {osl : Array (Option Value)} {kV doc pm cdv ct : Value} {ar : Arguments} {bo : List Stmt} {sc : Scope} {o : Obj} {f : Addr} {dV : Value} {T : Addr} {oT : Obj} {its : List Value} {n : Nat}
  (l : K.lookup f = some o) (e : o = ⟨oc, od, .func (PySem.W.fnOf x q ar bo sc dV kV doc pm an cdv ct), osl⟩) (e1 : ar = defArgs st) (e2 : bo = defBody st) (e3 : sc = defScope st) (c : PySem.W.codeIn K cdv q = true) (k : PySem.W.keepIn K (.ref f) = true) (d : dV = .ref T) (t : K.lookup T = some oT) (y : oT.data = .seq its.toArray n) (r : Vals [v] its) : XG K x q st f v := by
  subst e1 e2 e3 e
  exact ⟨_, ⟨oc, od, dV, kV, doc, pm, an, cdv, ct, osl, rfl, l, c, .inr ⟨by simp, T, oT, its, n, d, t, y, r⟩, .inl rfl⟩, k⟩
theorem all_mk {P : Program} {w : World} {K : PySem.W.Frag} {h : Heap} {mg : Str → Option Value} {fa fh eh CN CW CND CT CP C fi e0 f0 : Addr} (X : K.In h) (G : h.Ns mainGlobals mg) (hfa : mg "law" = some (.ref fa))
    (eBadNumber : EG K "BadNumber" CN ["name"] "BadNumber.__init__" s_e1)
    (eBadWeb : EG K "BadWeb" CW ["x", "y"] "BadWeb.__init__" s_eW)
    (eBadNeeds : EG K "BadNeeds" CND ["place"] "BadNeeds.__init__" s_eND)
    (eBadThing : EG K "BadThing" CT ["thing"] "BadThing.__init__" s_eT)
    (eBadPart : EG K "BadPart" CP ["place"] "BadPart.__init__" s_eP)
    (aC : PySem.W.nsIn K mainGlobals "Web" = some (some (.ref C)))
    (pgC : PySem.W.plainGet K C Str.empty = true)
    (hdC : PySem.W.hasDictIn K C = true)
    (poC : PySem.W.plainOver K C = true)
    (saC : PySem.W.findIn K (.ref C) "__setattr__" = some (some (.builtin "object.__setattr__")))
    (mkC : PySem.W.makesIn K C = true)
    (kCC : PySem.W.keepIn K (.ref C) = true)
    (c1C : PySem.W.readsIn K C (.type "type") = true)
    (c2C : PySem.W.specialIn K (.ref C) "__getattribute__" = some (some (.builtin "type.__getattribute__")))
    (nm : PySem.W.findIn K (.ref C) "many" = some none)
    (nc : PySem.W.findIn K (.ref C) "clashes" = some none)
    (nk : PySem.W.findIn K (.ref C) "masks" = some none)
    (i1 : PySem.W.findIn K (.ref C) "__init__" = some (some (.ref fi)))
    (i2 : PySem.W.isFn K (.ref fi) = true)
    (i3 : XG K "__init__" "Web.__init__" s_wi fi (.ref e0))
    (i4 : EmT K e0)
    (n1 : PySem.W.nsIn K mainGlobals "check_number" = some (some (.ref f0)))
    (n3 : XG K "check_number" "check_number" s_check_number f0 (.int 0))
    (k1_heaviest : PySem.W.nsIn K mainGlobals "heaviest" = some (some (.ref fh)))
    (k3_heaviest : XG2 K "heaviest" "heaviest" s_hv fh [.non, .ref eh])
    (k4_heaviest : EmT K eh)
    (xBadNeedsBadNeeds : PySem.W.subIn K (.ref CND) (.ref CND) = some true)
    (xBadThingBadThing : PySem.W.subIn K (.ref CT) (.ref CT) = some true)
    (xBadThingBadNeeds : PySem.W.subIn K (.ref CT) (.ref CND) = some false)
    (xBadNumberBadNumber : PySem.W.subIn K (.ref CN) (.ref CN) = some true)
    (xBadNumberBadNeeds : PySem.W.subIn K (.ref CN) (.ref CND) = some false)
    (xBadNumberBadThing : PySem.W.subIn K (.ref CN) (.ref CT) = some false)
    (mWeb_clash : MG K C "clash" "Web.clash" ((s_w 2)))
    (z0 : PySem.W.nsIn K mainGlobals "isinstance" = some none)
    (z1 : PySem.W.nsIn K mainGlobals "int" = some none)
    (z2 : PySem.W.nsIn K mainGlobals "bool" = some none)
    (z3 : PySem.W.nsIn K mainGlobals "list" = some none)
    (z4 : PySem.W.nsIn K mainGlobals "tuple" = some none)
    (z5 : PySem.W.nsIn K mainGlobals "len" = some none)
    (z6 : PySem.W.nsIn K mainGlobals "set" = some none)
    (z7 : PySem.W.nsIn K mainGlobals "min" = some none)
    (z8 : PySem.W.nsIn K mainGlobals "max" = some none)
    (z9 : PySem.W.nsIn K mainGlobals "sorted" = some none)
    (z10 : PySem.W.nsIn K mainGlobals "range" = some none)
    (z11 : PySem.W.nsIn K mainGlobals "enumerate" = some none)
    (z12 : PySem.W.nsIn K mainGlobals "repr" = some none)
    (z13 : PySem.W.nsIn K mainGlobals "iter" = some none)
    (z14 : PySem.W.nsIn K mainGlobals "sum" = some none)
    (z15 : PySem.W.nsIn K mainGlobals "zip" = some none)
    (d_is_int : DG K "is_int" s_is_int)
    (d_is_pair : DG K "is_pair" s_is_pair)
    (d_is_thing : DG K "is_thing" s_is_thing)
    (d_checked_clashes : DG K "checked_clashes" s_cc)
    (d_near_masks : DG K "near_masks" s_nm)
    (d_law_draws : DG K "_law_draws" s_dr)
    (d_law_take : DG K "_law_take" s_tk)
    (d_law_line : DG K "_law_line" s_ln')
    (d_law_ring : DG K "_law_ring" s_rg)
    (d_law_ring_row : DG K "_law_ring_row" s_rr')
    (d_law_contrary : DG K "_law_contrary" s_co)
    (d_law_stretches : DG K "_law_stretches" s_st')
    (d_law_row : DG K "_law_row" s_ro)
    (d_law_falling : DG K "_law_falling" s_fa)
    (d_law_free : DG K "_law_free" s_fr)
    (d_law_small : DG K "_law_small" s_sm)
    (d_law_sides : DG K "_law_sides" s_sd)
    (d_law_near : DG K "_law_near" s_ne)
    (d_law_twins : DG K "_law_twins" s_tw)
    (d_law_made : DG K "_law_made" s_md)
    (d_law_moved : DG K "_law_moved" s_mv)
    (d_law_case : DG K "_law_case" s_ca)
    (d_law_knots : DG K "_law_knots" s_kn)
    (d_law_needs : DG K "_law_needs" s_nd)
    (d_law_large : DG K "_law_large" s_lg)
    (d_check_needs : DG K "check_needs" s_ckn)
    (d_check_thing : DG K "check_thing" s_check_thing)
    (d_check_two_things : DG K "check_two_things" s_c2t)
    (d_first_unfit : DG K "first_unfit" s_fw)
    (d_check_things : DG K "check_things" s_cs)
    (d_first_pair : DG K "first_pair" s_fp)
    (d_is_knot : DG K "is_knot" s_ik)
    (d_whole_mask : DG K "whole_mask" s_wh)
    (d_weight : DG K "weight" s_wt)
    (d_things_in : DG K "things_in" s_ti)
    (d_least_in : DG K "least_in" s_le)
    (d_full_masks : DG K "full_masks" s_fm)
    (d_room_of_pair : DG K "room_of_pair" s_rp)
    (d_pair_room : DG K "pair_room" s_pr)
    (d_slack : DG K "slack" s_sl)
    (d_law_weight : DG K "_law_weight" s_lwt)
    (d_law_heavy : DG K "_law_heavy" s_hy)
    (d_law_heavy_with : DG K "_law_heavy_with" s_hw)
    (d_law_clash : DG K "_law_clash" s_ck)
    (d_law_int : DG K "_law_int" s_li)
    (d_law_two : DG K "_law_two" s_two)
    (d_free_together : DG K "free_together" s_ft)
    (d_law_leaves : DG K "_law_leaves" s_lv)
    (d_sum_needs : DG K "sum_needs" s_sn)
    (d_raised : DG K "raised" s_rd)
    (d_raised_heaviest : DG K "raised_heaviest" s_rh)
    (d_cost : DG K "cost" s_cst)
    (d_law_pair : DG K "_law_pair" s_pp)
    (d_law_spoilt : DG K "_law_spoilt" s_sp)
    (d_law_room_told : DG K "_law_room_told" s_rtd)
    (d_law_free_told : DG K "_law_free_told" s_ftd)
    (d_law_refused : DG K "_law_refused" s_rfd)
    (dLW : DG K "law" s_lw) :
    ∃ fd : FuncData, (∀ (s : Shared) (v : Value), BindsTo s fd ⟨[v], []⟩ [("_law_script", v)]) ∧ ∀ base : Heap, K.In base → base.Ns mainGlobals mg → FnOk P w K mg base (L2.CX P w) 12 fa fd ["_law_script"] (spLw K) := by
  have B3 : Blt3 mg := ⟨⟨⟨PySem.W.mg_none_of X G z0, PySem.W.mg_none_of X G z1, PySem.W.mg_none_of X G z2, PySem.W.mg_none_of X G z3, PySem.W.mg_none_of X G z4, PySem.W.mg_none_of X G z5⟩, PySem.W.mg_none_of X G z6, PySem.W.mg_none_of X G z7, PySem.W.mg_none_of X G z8, PySem.W.mg_none_of X G z9, PySem.W.mg_none_of X G z10, PySem.W.mg_none_of X G z11, PySem.W.mg_none_of X G z12, PySem.W.mg_none_of X G z13⟩, PySem.W.mg_none_of X G z14, PySem.W.mg_none_of X G z15⟩
  have B : Blt2 mg := B3.toBlt2
  have cC : Cls K C := ⟨pgC, hdC, poC, saC⟩
  have TW : WebC K C := ⟨cC, nm, nc, nk⟩
  have gWeb : mg "Web" = some (.ref C) := PySem.W.mg_of X G aC
  obtain ⟨fl, fdl, el, Fl⟩ := dLW.ex
  have el' := hfa.symm.trans (PySem.W.mg_of X G el)
  cases el'
  refine ⟨fdl, fun s v => ?_, fun base _ _ => ?_⟩
  · obtain ⟨oc, od, kV, doc, pm, an, cdv, ct, osl, rfl, _, _⟩ := Fl.ex
    exact .of_eq rfl
  have h_int : Df P w K mg base "is_int" 1 ["value"] (spInt) := d_is_int.df X G (fun f fd F => FnOk.up (ok_int F B.toBlt)) (fun _ _ _ _ _ _ us hl => match us, hl with | [_], _ => rfl)
  have eBadNumberR : Er P w K mg base "BadNumber" CN ["name"] ["self", "name"] (spE1 CN "name") := eBadNumber.er X G (fun f fd F => ok_e1 F eBadNumber.T) (fun _ _ _ _ _ _ us hl => match us, hl with | [_, _], _ => rfl)
  have CNum : DfD P w K mg base "check_number" 3 ["value", "name", "least"] [.int 0] (spCn CN) := by
    obtain ⟨fd, F⟩ := n3.ex
    obtain ⟨ds, v, b⟩ := F.binds1 (ps := ["value", "name", "least"]) 2 0 (by simp) rfl fun _ _ _ _ _ _ _ us its l1 l2 => match us, its, l1, l2 with | [_, _], [_], _, _ => ⟨_, rfl, rfl⟩
    exact ⟨f0, fd, ds, PySem.W.mg_of X G n1, F.kp, ok_cn F h_int eBadNumberR, v, b⟩
  have CN3 : Df P w K mg base "check_number" 3 ["value", "name", "least"] (spCn CN) := by
    obtain ⟨fd, F⟩ := n3.ex
    obtain ⟨ds2, v2, b2⟩ := F.binds1 (ps := ["value", "name", "least"]) 3 1 (by simp) rfl fun _ _ _ _ _ _ _ us its l1 l2 => match us, its, l1, l2 with | [_, _, _], [_], _, _ => ⟨_, rfl, rfl⟩
    have w2 : Vals [] ds2 := v2
    cases w2
    exact ⟨f0, fd, PySem.W.mg_of X G n1, F.kp, ok_cn F h_int eBadNumberR, b2⟩
  have h_pair : Df P w K mg base "is_pair" 1 ["value"] (spPair) := d_is_pair.df X G (fun f fd F => FnOk.up (ok_pair F B.toBlt)) (fun _ _ _ _ _ _ us hl => match us, hl with | [_], _ => rfl)
  have h_th : Df P w K mg base "is_thing" 2 ["many", "value"] (spTh) := d_is_thing.df X G (fun f fd F => ok_th F h_int) (fun _ _ _ _ _ _ us hl => match us, hl with | [_, _], _ => rfl)
  have eBadWebR : Er P w K mg base "BadWeb" CW ["x", "y"] ["self", "x", "y"] (spE2 CW "x" "y") := eBadWeb.er X G (fun f fd F => ok_eW F eBadWeb.T) (fun _ _ _ _ _ _ us hl => match us, hl with | [_, _, _], _ => rfl)
  have h_cc : Df P w K mg base "checked_clashes" 3 ["many", "clashes"] (spCC K CW) := d_checked_clashes.df X G (fun f fd F => ok_cc F B h_pair h_th eBadWebR) (fun _ _ _ _ _ _ us hl => match us, hl with | [_, _], _ => rfl)
  have h_nm : Df P w K mg base "near_masks" 1 ["many", "clashes"] (spNm) := d_near_masks.df X G (fun f fd F => ok_nm F B) (fun _ _ _ _ _ _ us hl => match us, hl with | [_, _], _ => rfl)
  have WK : WebK P w K mg base C CN CW := by
    obtain ⟨fd, F⟩ := i3.ex
    obtain ⟨ds, v, b⟩ := F.binds1 (ps := ["self", "many", "clashes"]) 2 0 (by simp) rfl fun _ _ _ _ _ _ _ us its l1 l2 => match us, its, l1, l2 with | [_, _], [_], _, _ => ⟨_, rfl, rfl⟩
    obtain ⟨ds2, v2, b2⟩ := F.binds1 (ps := ["self", "many", "clashes"]) 3 1 (by simp) rfl fun _ _ _ _ _ _ _ us its l1 l2 => match us, its, l1, l2 with | [_, _, _], [_], _, _ => ⟨_, rfl, rfl⟩
    have w1 : Vals [V.ref e0] ds := v
    have w2 : Vals [] ds2 := v2
    cases w2
    cases w1 with
    | cons r1 r2 =>
      cases r2
      cases r1
      exact ⟨gWeb, fi, fd, ⟨mkC, i1, i2, kCC⟩, ok_wi F TW CNum h_cc h_nm, b2, e0, i4.sq, b⟩
  have h_dr : Df P w K mg base "_law_draws" 1 ["_law_script"] (spDr K) := d_law_draws.df X G (fun f fd F => ok_dr F B) (fun _ _ _ _ _ _ us hl => match us, hl with | [_], _ => rfl)
  have h_tk : Df P w K mg base "_law_take" 1 ["_law_draws_here", "_law_many"] (spTk) := d_law_take.df X G (fun f fd F => ok_tk F B) (fun _ _ _ _ _ _ us hl => match us, hl with | [_, _], _ => rfl)
  have h_ln_p : Df P w K mg base "_law_line" 1 ["_law_many"] (spLine) := d_law_line.df X G (fun f fd F => ok_ln' F B) (fun _ _ _ _ _ _ us hl => match us, hl with | [_], _ => rfl)
  have h_rgN : Df P w K mg base "_law_ring" 1 ["_law_many"] (spRg) := d_law_ring.df X G (fun f fd F => ok_rgN F B) (fun _ _ _ _ _ _ us hl => match us, hl with | [_], _ => rfl)
  have h_rrw : Df P w K mg base "_law_ring_row" 1 ["_law_many"] (spRrw) := d_law_ring_row.df X G (fun f fd F => ok_rrw F B) (fun _ _ _ _ _ _ us hl => match us, hl with | [_], _ => rfl)
  have h_co : Df P w K mg base "_law_contrary" 1 ["_law_many", "_law_pairs"] (spCo) := d_law_contrary.df X G (fun f fd F => ok_co F B) (fun _ _ _ _ _ _ us hl => match us, hl with | [_, _], _ => rfl)
  have h_str : Df P w K mg base "_law_stretches" 2 ["_law_draws_here", "_law_many"] (spStr) := d_law_stretches.df X G (fun f fd F => ok_str F B h_tk) (fun _ _ _ _ _ _ us hl => match us, hl with | [_, _], _ => rfl)
  have h_ro : Df P w K mg base "_law_row" 2 ["_law_draws_here", "_law_many"] (spRo) := d_law_row.df X G (fun f fd F => ok_ro F B h_tk) (fun _ _ _ _ _ _ us hl => match us, hl with | [_, _], _ => rfl)
  have h_fa : Df P w K mg base "_law_falling" 3 ["_law_draws_here", "_law_many"] (spFa) := d_law_falling.df X G (fun f fd F => ok_fa F B h_ro) (fun _ _ _ _ _ _ us hl => match us, hl with | [_, _], _ => rfl)
  have h_fr : Df P w K mg base "_law_free" 2 ["_law_draws_here", "_law_many", "_law_left"] (spFr) := d_law_free.df X G (fun f fd F => ok_fr F B h_tk) (fun _ _ _ _ _ _ us hl => match us, hl with | [_, _, _], _ => rfl)
  have h_sm : Df P w K mg base "_law_small" 2 ["_law_draws_here"] (spSm) := d_law_small.df X G (fun f fd F => ok_sm F B h_tk h_ln_p) (fun _ _ _ _ _ _ us hl => match us, hl with | [_], _ => rfl)
  have h_sd : Df P w K mg base "_law_sides" 1 ["_law_one", "_law_other", "_law_joined"] (spSd) := d_law_sides.df X G (fun f fd F => ok_sd F B) (fun _ _ _ _ _ _ us hl => match us, hl with | [_, _, _], _ => rfl)
  have h_nu : Df P w K mg base "_law_near" 2 ["_law_many", "_law_pairs", "_law_x"] (spNu) := d_law_near.df X G (fun f fd F => ok_nu F B) (fun _ _ _ _ _ _ us hl => match us, hl with | [_, _, _], _ => rfl)
  have h_tw : Df P w K mg base "_law_twins" 3 ["_law_draws_here", "_law_case_here", "_law_most"] (spTwn) := d_law_twins.df X G (fun f fd F => ok_tw F B h_tk h_nu) (fun _ _ _ _ _ _ us hl => match us, hl with | [_, _, _], _ => rfl)
  have M : Mks P w K mg base := ⟨h_tk, h_ln_p, h_rgN, h_rrw, h_co, h_str, h_fa, h_fr, h_sm, h_sd, h_tw⟩
  have h_md : Df P w K mg base "_law_made" 4 ["_law_draws_here", "_law_most"] (spMd) := d_law_made.df X G (fun f fd F => ok_md F B M) (fun _ _ _ _ _ _ us hl => match us, hl with | [_, _], _ => rfl)
  have h_mv : Df P w K mg base "_law_moved" 1 ["_law_row_here", "_law_which", "_law_place"] (spMv) := d_law_moved.df X G (fun f fd F => ok_mv F B) (fun _ _ _ _ _ _ us hl => match us, hl with | [_, _, _], _ => rfl)
  have h_ca : Df P w K mg base "_law_case" 5 ["_law_draws_here", "_law_most"] (spMd) := d_law_case.df X G (fun f fd F => ok_ca F B h_tk h_md h_mv h_ro) (fun _ _ _ _ _ _ us hl => match us, hl with | [_, _], _ => rfl)
  have h_ne : Df P w K mg base "_law_near" 2 ["_law_many", "_law_pairs", "_law_x"] (spNe) := d_law_near.df X G (fun f fd F => ok_ne F B) (fun _ _ _ _ _ _ us hl => match us, hl with | [_, _, _], _ => rfl)
  have h_kn : Df P w K mg base "_law_knots" 3 ["_law_many", "_law_pairs"] (spKn) := d_law_knots.df X G (fun f fd F => ok_kn F B h_ne) (fun _ _ _ _ _ _ us hl => match us, hl with | [_, _], _ => rfl)
  have h_nd : Df P w K mg base "_law_needs" 2 ["_law_draws_here", "_law_many"] (spNd) := d_law_needs.df X G (fun f fd F => ok_nd F B h_tk) (fun _ _ _ _ _ _ us hl => match us, hl with | [_, _], _ => rfl)
  have h_lg : Df P w K mg base "_law_large" 2 ["_law_needs_here", "_law_draws_here"] (spLg) := d_law_large.df X G (fun f fd F => ok_lg F h_tk) (fun _ _ _ _ _ _ us hl => match us, hl with | [_, _], _ => rfl)
  have eBadNeedsR : Er P w K mg base "BadNeeds" CND ["place"] ["self", "place"] (spE1 CND "place") := eBadNeeds.er X G (fun f fd F => ok_eND F eBadNeeds.T) (fun _ _ _ _ _ _ us hl => match us, hl with | [_, _], _ => rfl)
  have h_ckn : Df P w K mg base "check_needs" 3 ["many", "needs"] (spCkn CND) := d_check_needs.df X G (fun f fd F => ok_ckn F B3 h_int eBadNeedsR) (fun _ _ _ _ _ _ us hl => match us, hl with | [_, _], _ => rfl)
  have eBadThingR : Er P w K mg base "BadThing" CT ["thing"] ["self", "thing"] (spE1 CT "thing") := eBadThing.er X G (fun f fd F => ok_eT F eBadThing.T) (fun _ _ _ _ _ _ us hl => match us, hl with | [_, _], _ => rfl)
  have h_ct : Df P w K mg base "check_thing" 3 ["many", "thing"] (spCt CT) := d_check_thing.df X G (fun f fd F => ok_ct F h_th eBadThingR) (fun _ _ _ _ _ _ us hl => match us, hl with | [_, _], _ => rfl)
  have h_c2t : Df P w K mg base "check_two_things" 4 ["many", "x", "y"] (spC2t CT) := d_check_two_things.df X G (fun f fd F => ok_c2t F h_ct eBadThingR) (fun _ _ _ _ _ _ us hl => match us, hl with | [_, _, _], _ => rfl)
  have h_cl : Mt P w K mg base C "clash" 4 ["self", "x", "y"] (spCl C CT) := mWeb_clash.mt cC (fun f fd F => ok_cl F TW h_ct) (fun _ _ _ _ _ _ us hl => match us, hl with | [_, _, _], _ => rfl)
  have h_fw : Df P w K mg base "first_unfit" 3 ["things", "row"] (spFw K) := d_first_unfit.df X G (fun f fd F => ok_fw F B h_int) (fun _ _ _ _ _ _ us hl => match us, hl with | [_, _], _ => rfl)
  have eBadPartR : Er P w K mg base "BadPart" CP ["place"] ["self", "place"] (spE1 CP "place") := eBadPart.er X G (fun f fd F => ok_eP F eBadPart.T) (fun _ _ _ _ _ _ us hl => match us, hl with | [_, _], _ => rfl)
  have h_cs : Df P w K mg base "check_things" 4 ["many", "things"] (spCs K CP) := d_check_things.df X G (fun f fd F => ok_cs F B h_fw eBadPartR) (fun _ _ _ _ _ _ us hl => match us, hl with | [_, _], _ => rfl)
  have h_fp : Df P w K mg base "first_pair" 5 ["web", "things", "clashing"] (spFp K C) := d_first_pair.df X G (fun f fd F => ok_fp F h_cl) (fun _ _ _ _ _ _ us hl => match us, hl with | [_, _, _], _ => rfl)
  have h_ik : Df P w K mg base "is_knot" 6 ["web", "things"] (spIk K C) := d_is_knot.df X G (fun f fd F => ok_ik F TW h_cs h_fp) (fun _ _ _ _ _ _ us hl => match us, hl with | [_, _], _ => rfl)
  have h_wh : Df P w K mg base "whole_mask" 1 ["many"] (spWh) := d_whole_mask.df X G (fun f fd F => ok_wh F ) (fun _ _ _ _ _ _ us hl => match us, hl with | [_], _ => rfl)
  have h_wt : Df P w K mg base "weight" 1 ["needs", "things"] (spWt K) := d_weight.df X G (fun f fd F => ok_wt F B3) (fun _ _ _ _ _ _ us hl => match us, hl with | [_, _], _ => rfl)
  have h_ti : Df P w K mg base "things_in" 1 ["mask"] (spTi) := d_things_in.df X G (fun f fd F => ok_ti F B) (fun _ _ _ _ _ _ us hl => match us, hl with | [_], _ => rfl)
  have h_le : Df P w K mg base "least_in" 1 ["mask"] (spLe) := d_least_in.df X G (fun f fd F => ok_le F ) (fun _ _ _ _ _ _ us hl => match us, hl with | [_], _ => rfl)
  have h_fm : Df P w K mg base "full_masks" 3 ["masks", "part"] (spFm) := d_full_masks.df X G (fun f fd F => ok_fm F B h_le h_ti) (fun _ _ _ _ _ _ us hl => match us, hl with | [_, _], _ => rfl)
  have D2_heaviest : DfD P w K mg base "heaviest" 7 ["web", "needs", "holding"] [.ref eh] (spHv K C) := by
    obtain ⟨fd, F⟩ := k3_heaviest.ex
    obtain ⟨ds, v, b⟩ := F.binds1 (ps := ["web", "needs", "holding"]) 2 1 (by simp) rfl fun _ _ _ _ _ _ _ us its l1 l2 => match us, its, l1, l2 with | [_, _], [_, _], _, _ => ⟨_, rfl, rfl⟩
    exact ⟨fh, fd, ds, PySem.W.mg_of X G k1_heaviest, F.kp, ok_hv F B3 TW h_ckn h_cs h_ik h_wh h_wt h_ti h_fm, v, b⟩
  have D3_heaviest : Df P w K mg base "heaviest" 7 ["web", "needs", "holding"] (spHv K C) := by
    obtain ⟨fd, F⟩ := k3_heaviest.ex
    obtain ⟨ds2, v2, b2⟩ := F.binds1 (ps := ["web", "needs", "holding"]) 3 2 (by simp) rfl fun _ _ _ _ _ _ _ us its l1 l2 => match us, its, l1, l2 with | [_, _, _], [_, _], _, _ => ⟨_, rfl, rfl⟩
    have w2 : Vals [] ds2 := v2
    cases w2
    exact ⟨fh, fd, PySem.W.mg_of X G k1_heaviest, F.kp, ok_hv F B3 TW h_ckn h_cs h_ik h_wh h_wt h_ti h_fm, b2⟩
  have h_rp : Df P w K mg base "room_of_pair" 8 ["web", "needs", "x", "y"] (spRp C) := d_room_of_pair.df X G (fun f fd F => ok_rp F k4_heaviest.sq h_cl D2_heaviest D3_heaviest) (fun _ _ _ _ _ _ us hl => match us, hl with | [_, _, _, _], _ => rfl)
  have h_pm : Df P w K mg base "pair_room" 9 ["web", "needs", "x", "y"] (spPm C CND CT) := d_pair_room.df X G (fun f fd F => ok_pm F TW h_ckn h_c2t h_rp) (fun _ _ _ _ _ _ us hl => match us, hl with | [_, _, _, _], _ => rfl)
  have h_slx : Df P w K mg base "slack" 8 ["web", "needs", "thing"] (spSlx C CND CT) := d_slack.df X G (fun f fd F => ok_slx F TW k4_heaviest.sq h_ckn h_ct D2_heaviest D3_heaviest) (fun _ _ _ _ _ _ us hl => match us, hl with | [_, _, _], _ => rfl)
  have h_lwt : Df P w K mg base "_law_weight" 1 ["_law_needs_here", "_law_things"] (spLwt) := d_law_weight.df X G (fun f fd F => ok_lwt F ) (fun _ _ _ _ _ _ us hl => match us, hl with | [_, _], _ => rfl)
  have h_hy : Df P w K mg base "_law_heavy" 2 ["_law_knots_here", "_law_needs_here"] (spHy) := d_law_heavy.df X G (fun f fd F => ok_hy F B h_lwt) (fun _ _ _ _ _ _ us hl => match us, hl with | [_, _], _ => rfl)
  have h_hw : Df P w K mg base "_law_heavy_with" 2 ["_law_knots_here", "_law_needs_here", "_law_holding"] (spHw) := d_law_heavy_with.df X G (fun f fd F => ok_hw F B h_lwt) (fun _ _ _ _ _ _ us hl => match us, hl with | [_, _, _], _ => rfl)
  have h_ck : Df P w K mg base "_law_clash" 2 ["_law_pairs", "_law_x", "_law_y"] (spCk) := d_law_clash.df X G (fun f fd F => ok_ck F B) (fun _ _ _ _ _ _ us hl => match us, hl with | [_, _, _], _ => rfl)
  have h_li : Df P w K mg base "_law_int" 1 ["_law_value"] (spInt) := d_law_int.df X G (fun f fd F => ok_li F B) (fun _ _ _ _ _ _ us hl => match us, hl with | [_], _ => rfl)
  have h_two : Df P w K mg base "_law_two" 1 ["_law_many", "_law_x", "_law_y", "_law_s", "_law_t"] (spTwo) := d_law_two.df X G (fun f fd F => ok_two F B) (fun _ _ _ _ _ _ us hl => match us, hl with | [_, _, _, _, _], _ => rfl)
  have h_ft : Df P w K mg base "free_together" 9 ["web", "needs", "x", "y", "s", "t"] (spFt C CND CT CN) := d_free_together.df X G (fun f fd F => ok_ft F TW h_ckn h_c2t CNum h_slx h_rp) (fun _ _ _ _ _ _ us hl => match us, hl with | [_, _, _, _, _, _], _ => rfl)
  have h_lv : Df P w K mg base "_law_leaves" 10 ["_law_web", "_law_knots_here", "_law_needs_here", "_law_x", "_law_y", "_law_step", "_law_known"] (spLv C) := d_law_leaves.df X G (fun f fd F => ok_lv F B3 h_two h_hy h_ft) (fun _ _ _ _ _ _ us hl => match us, hl with | [_, _, _, _, _, _, _], _ => rfl)
  have h_sn : Df P w K mg base "sum_needs" 4 ["needs", "other"] (spSn) := d_sum_needs.df X G (fun f fd F => ok_sn F B3 h_ckn) (fun _ _ _ _ _ _ us hl => match us, hl with | [_, _], _ => rfl)
  have h_rd : Df P w K mg base "raised" 5 ["needs", "raises"] (spSn) := d_raised.df X G (fun f fd F => ok_rd F h_sn) (fun _ _ _ _ _ _ us hl => match us, hl with | [_, _], _ => rfl)
  have h_rh : Df P w K mg base "raised_heaviest" 8 ["web", "needs", "raises"] (spRh C) := d_raised_heaviest.df X G (fun f fd F => ok_rh F TW k4_heaviest.sq h_ckn h_rd D2_heaviest) (fun _ _ _ _ _ _ us hl => match us, hl with | [_, _, _], _ => rfl)
  have h_cst : Df P w K mg base "cost" 9 ["web", "needs", "raises"] (spCst C) := d_cost.df X G (fun f fd F => ok_cst F TW k4_heaviest.sq h_ckn h_rh D2_heaviest) (fun _ _ _ _ _ _ us hl => match us, hl with | [_, _, _], _ => rfl)
  have h_pp : Df P w K mg base "_law_pair" 11 ["_law_web", "_law_pairs", "_law_knots_here", "_law_needs_here", "_law_x", "_law_y", "_law_extra"] (spPp C) := d_law_pair.df X G (fun f fd F => ok_pp F B3 h_pm h_slx h_hy h_hw h_ck h_li h_lv h_ft h_cst h_two) (fun _ _ _ _ _ _ us hl => match us, hl with | [_, _, _, _, _, _, _], _ => rfl)
  have h_sp : Df P w K mg base "_law_spoilt" 2 ["_law_draws_here", "_law_row_here"] (spSp) := d_law_spoilt.df X G (fun f fd F => ok_sp F B h_tk) (fun _ _ _ _ _ _ us hl => match us, hl with | [_, _], _ => rfl)
  have h_rtd : Df P w K mg base "_law_room_told" 10 ["_law_web", "_law_needs_here", "_law_x", "_law_y"] (spRtd C) := d_law_room_told.df X G (fun f fd F => ok_rtd F (PySem.W.mg_of X G eBadNeeds.g) (PySem.W.mg_of X G eBadThing.g) (eBadNeeds.T.exm xBadNeedsBadNeeds) (eBadThing.T.exm xBadThingBadThing) (eBadNeeds.T.exm xBadThingBadNeeds) eBadNeeds.T.xf eBadThing.T.xf (eBadNeeds.T.no _ (by simp)) (eBadThing.T.no _ (by simp)) h_pm) (fun _ _ _ _ _ _ us hl => match us, hl with | [_, _, _, _], _ => rfl)
  have h_ftd : Df P w K mg base "_law_free_told" 10 ["_law_web", "_law_needs_here", "_law_x", "_law_y", "_law_s", "_law_t"] (spFtd C) := d_law_free_told.df X G (fun f fd F => ok_ftd F (PySem.W.mg_of X G eBadNeeds.g) (PySem.W.mg_of X G eBadThing.g) (PySem.W.mg_of X G eBadNumber.g) (eBadNeeds.T.exm xBadNeedsBadNeeds) (eBadThing.T.exm xBadThingBadThing) (eBadNumber.T.exm xBadNumberBadNumber) (eBadNeeds.T.exm xBadThingBadNeeds) (eBadNeeds.T.exm xBadNumberBadNeeds) (eBadThing.T.exm xBadNumberBadThing) eBadNeeds.T.xf eBadThing.T.xf eBadNumber.T.xf (eBadNeeds.T.no _ (by simp)) (eBadThing.T.no _ (by simp)) (eBadNumber.T.no _ (by simp)) h_ft) (fun _ _ _ _ _ _ us hl => match us, hl with | [_, _, _, _, _, _], _ => rfl)
  have h_rfd : Df P w K mg base "_law_refused" 11 ["_law_draws_here", "_law_web", "_law_needs_here", "_law_x", "_law_y"] (spRfd C) := d_law_refused.df X G (fun f fd F => ok_rfd F B h_tk h_sp h_rtd h_ftd) (fun _ _ _ _ _ _ us hl => match us, hl with | [_, _, _, _, _], _ => rfl)
  exact ok_lw  Fl B3 WK h_dr h_tk h_ca h_kn h_nd h_lg h_pp h_pm h_ft h_rfd
theorem walk {l : PySem.W.OpenLaw} {q : Program} {loose : List Str} {XP : (Str → Option Value) → Heap → Prop} {YP : World → Heap → Prop} {d : DefRec} {K : Params → PySem.W.Frag} (hn : l.most = some 63) (hdf : d.params.defaults = [])
    (hY : ∀ (w : World) (h : Heap), YP w h → (K w.params).In h)
    (F : ∀ (w : World) (mg : Str → Option Value) (fa : Addr) (h : Heap), (K w.params).In h → h.Ns mainGlobals mg → mg d.name = some (.ref fa) →
      ∃ fd : FuncData, (∀ (s : Shared) (u : Value), BindsTo s fd ⟨[u], []⟩ [("_law_script", u)]) ∧ ∀ base : Heap, (K w.params).In base → base.Ns mainGlobals mg → FnOk l.prog w (K w.params) mg base (L2.CX l.prog w) 12 fa fd ["_law_script"] (spLw (K w.params))) :
    PySem.W.WalkO q loose XP YP l.row.toRowW d [] (fun f vs => PySem.call f vs) :=
  L2.walk_of (n := 63) (k := 12) (x := "_law_script") (CX := fun w => L2.CX l.prog w) (sp := fun w => spLw (K w.params)) hn (by decide) hdf ⟨rfl, by decide, by decide⟩ hY F (fun _ _ a ns _ _ hS => ⟨a, ns, rfl, hS, fun _ => rfl⟩)
    fun _ _ _ _ _ z => by
      obtain ⟨_, _, _, _, _, _, _, _, _, _, _, _, z⟩ := z
      exact z
end K0
set_option Elab.async false
set_option maxRecDepth 100000
open PySem PySem.W PyProof.Rows
set_option maxRecDepth 100000 in
set_option maxHeartbeats 0 in
theorem PySem.Challenge.cw_perfectorders_k33_two_needs_holds : PySem.Challenge.rw_perfectorders_k33_two_needs.Holds := by
  w_on; o_law; k_head; (case hw => w_witness2)
  k_fill
  refine K0.walk (l := PySem.Challenge.rw_perfectorders_k33_two_needs) rfl rfl (fun w h Y => PySem.W.kIn_of Y) ?F
  case F =>
    intro w mg fa h KX G hmg
    refine' K0.all_mk KX G hmg ?eBadNumber ?eBadWeb ?eBadNeeds ?eBadThing ?eBadPart ?aC ?pgC ?hdC ?poC ?saC ?mkC ?kCC ?c1C ?c2C ?nm ?nc ?nk ?i1 ?i2 ?i3 ?i4 ?n1 ?n3 ?k1_heaviest ?k3_heaviest ?k4_heaviest ?xBadNeedsBadNeeds ?xBadThingBadThing ?xBadThingBadNeeds ?xBadNumberBadNumber ?xBadNumberBadNeeds ?xBadNumberBadThing ?mWeb_clash ?z0 ?z1 ?z2 ?z3 ?z4 ?z5 ?z6 ?z7 ?z8 ?z9 ?z10 ?z11 ?z12 ?z13 ?z14 ?z15 ?d_is_int ?d_is_pair ?d_is_thing ?d_checked_clashes ?d_near_masks ?d_law_draws ?d_law_take ?d_law_line ?d_law_ring ?d_law_ring_row ?d_law_contrary ?d_law_stretches ?d_law_row ?d_law_falling ?d_law_free ?d_law_small ?d_law_sides ?d_law_near ?d_law_twins ?d_law_made ?d_law_moved ?d_law_case ?d_law_knots ?d_law_needs ?d_law_large ?d_check_needs ?d_check_thing ?d_check_two_things ?d_first_unfit ?d_check_things ?d_first_pair ?d_is_knot ?d_whole_mask ?d_weight ?d_things_in ?d_least_in ?d_full_masks ?d_room_of_pair ?d_pair_room ?d_slack ?d_law_weight ?d_law_heavy ?d_law_heavy_with ?d_law_clash ?d_law_int ?d_law_two ?d_free_together ?d_law_leaves ?d_sum_needs ?d_raised ?d_raised_heaviest ?d_cost ?d_law_pair ?d_law_spoilt ?d_law_room_told ?d_law_free_told ?d_law_refused ?dLW
    (case eBadNumber => (refine' K0.eg_mk ?eBadNumber_g ?eBadNumber_xl ?eBadNumber_xe ?eBadNumber_xb ?eBadNumber_sa ?eBadNumber_ga ?eBadNumber_gg ?eBadNumber_ex ?eBadNumber_ty ?eBadNumber_kc ?eBadNumber_hd ?eBadNumber_no ?eBadNumber_i ?eBadNumber_t ?eBadNumber_l ?eBadNumber_e ?eBadNumber_e1 ?eBadNumber_e2 ?eBadNumber_e3 ?eBadNumber_c ?eBadNumber_k; (case eBadNumber_g => k_is); (case eBadNumber_xl => k_is); (case eBadNumber_xe => exact rfl); (case eBadNumber_xb => decide +kernel); (case eBadNumber_sa => k_is); (case eBadNumber_ga => k_is); (case eBadNumber_gg => k_is); (case eBadNumber_ex => k_is); (case eBadNumber_ty => k_is); (case eBadNumber_kc => k_is); (case eBadNumber_hd => k_is); (case eBadNumber_no => (intro f hf; (repeat (first | (cases hf; done) | (rcases List.mem_cons.mp hf with rfl | hf; k_is))))); (case eBadNumber_i => k_is); (case eBadNumber_t => k_is); (case eBadNumber_l => k_is); (case eBadNumber_e => exact rfl); (case eBadNumber_e1 => exact rfl); (case eBadNumber_e2 => exact rfl); (case eBadNumber_e3 => exact rfl); (case eBadNumber_c => k_is); (case eBadNumber_k => k_is)))
    (case eBadWeb => (refine' K0.eg_mk ?eBadWeb_g ?eBadWeb_xl ?eBadWeb_xe ?eBadWeb_xb ?eBadWeb_sa ?eBadWeb_ga ?eBadWeb_gg ?eBadWeb_ex ?eBadWeb_ty ?eBadWeb_kc ?eBadWeb_hd ?eBadWeb_no ?eBadWeb_i ?eBadWeb_t ?eBadWeb_l ?eBadWeb_e ?eBadWeb_e1 ?eBadWeb_e2 ?eBadWeb_e3 ?eBadWeb_c ?eBadWeb_k; (case eBadWeb_g => k_is); (case eBadWeb_xl => k_is); (case eBadWeb_xe => exact rfl); (case eBadWeb_xb => decide +kernel); (case eBadWeb_sa => k_is); (case eBadWeb_ga => k_is); (case eBadWeb_gg => k_is); (case eBadWeb_ex => k_is); (case eBadWeb_ty => k_is); (case eBadWeb_kc => k_is); (case eBadWeb_hd => k_is); (case eBadWeb_no => (intro f hf; (repeat (first | (cases hf; done) | (rcases List.mem_cons.mp hf with rfl | hf; k_is))))); (case eBadWeb_i => k_is); (case eBadWeb_t => k_is); (case eBadWeb_l => k_is); (case eBadWeb_e => exact rfl); (case eBadWeb_e1 => exact rfl); (case eBadWeb_e2 => exact rfl); (case eBadWeb_e3 => exact rfl); (case eBadWeb_c => k_is); (case eBadWeb_k => k_is)))
    (case eBadNeeds => (refine' K0.eg_mk ?eBadNeeds_g ?eBadNeeds_xl ?eBadNeeds_xe ?eBadNeeds_xb ?eBadNeeds_sa ?eBadNeeds_ga ?eBadNeeds_gg ?eBadNeeds_ex ?eBadNeeds_ty ?eBadNeeds_kc ?eBadNeeds_hd ?eBadNeeds_no ?eBadNeeds_i ?eBadNeeds_t ?eBadNeeds_l ?eBadNeeds_e ?eBadNeeds_e1 ?eBadNeeds_e2 ?eBadNeeds_e3 ?eBadNeeds_c ?eBadNeeds_k; (case eBadNeeds_g => k_is); (case eBadNeeds_xl => k_is); (case eBadNeeds_xe => exact rfl); (case eBadNeeds_xb => decide +kernel); (case eBadNeeds_sa => k_is); (case eBadNeeds_ga => k_is); (case eBadNeeds_gg => k_is); (case eBadNeeds_ex => k_is); (case eBadNeeds_ty => k_is); (case eBadNeeds_kc => k_is); (case eBadNeeds_hd => k_is); (case eBadNeeds_no => (intro f hf; (repeat (first | (cases hf; done) | (rcases List.mem_cons.mp hf with rfl | hf; k_is))))); (case eBadNeeds_i => k_is); (case eBadNeeds_t => k_is); (case eBadNeeds_l => k_is); (case eBadNeeds_e => exact rfl); (case eBadNeeds_e1 => exact rfl); (case eBadNeeds_e2 => exact rfl); (case eBadNeeds_e3 => exact rfl); (case eBadNeeds_c => k_is); (case eBadNeeds_k => k_is)))
    (case eBadThing => (refine' K0.eg_mk ?eBadThing_g ?eBadThing_xl ?eBadThing_xe ?eBadThing_xb ?eBadThing_sa ?eBadThing_ga ?eBadThing_gg ?eBadThing_ex ?eBadThing_ty ?eBadThing_kc ?eBadThing_hd ?eBadThing_no ?eBadThing_i ?eBadThing_t ?eBadThing_l ?eBadThing_e ?eBadThing_e1 ?eBadThing_e2 ?eBadThing_e3 ?eBadThing_c ?eBadThing_k; (case eBadThing_g => k_is); (case eBadThing_xl => k_is); (case eBadThing_xe => exact rfl); (case eBadThing_xb => decide +kernel); (case eBadThing_sa => k_is); (case eBadThing_ga => k_is); (case eBadThing_gg => k_is); (case eBadThing_ex => k_is); (case eBadThing_ty => k_is); (case eBadThing_kc => k_is); (case eBadThing_hd => k_is); (case eBadThing_no => (intro f hf; (repeat (first | (cases hf; done) | (rcases List.mem_cons.mp hf with rfl | hf; k_is))))); (case eBadThing_i => k_is); (case eBadThing_t => k_is); (case eBadThing_l => k_is); (case eBadThing_e => exact rfl); (case eBadThing_e1 => exact rfl); (case eBadThing_e2 => exact rfl); (case eBadThing_e3 => exact rfl); (case eBadThing_c => k_is); (case eBadThing_k => k_is)))
    (case eBadPart => (refine' K0.eg_mk ?eBadPart_g ?eBadPart_xl ?eBadPart_xe ?eBadPart_xb ?eBadPart_sa ?eBadPart_ga ?eBadPart_gg ?eBadPart_ex ?eBadPart_ty ?eBadPart_kc ?eBadPart_hd ?eBadPart_no ?eBadPart_i ?eBadPart_t ?eBadPart_l ?eBadPart_e ?eBadPart_e1 ?eBadPart_e2 ?eBadPart_e3 ?eBadPart_c ?eBadPart_k; (case eBadPart_g => k_is); (case eBadPart_xl => k_is); (case eBadPart_xe => exact rfl); (case eBadPart_xb => decide +kernel); (case eBadPart_sa => k_is); (case eBadPart_ga => k_is); (case eBadPart_gg => k_is); (case eBadPart_ex => k_is); (case eBadPart_ty => k_is); (case eBadPart_kc => k_is); (case eBadPart_hd => k_is); (case eBadPart_no => (intro f hf; (repeat (first | (cases hf; done) | (rcases List.mem_cons.mp hf with rfl | hf; k_is))))); (case eBadPart_i => k_is); (case eBadPart_t => k_is); (case eBadPart_l => k_is); (case eBadPart_e => exact rfl); (case eBadPart_e1 => exact rfl); (case eBadPart_e2 => exact rfl); (case eBadPart_e3 => exact rfl); (case eBadPart_c => k_is); (case eBadPart_k => k_is)))
    (case aC => k_is)
    (case pgC => k_is)
    (case hdC => k_is)
    (case poC => k_is)
    (case saC => k_is)
    (case mkC => k_is)
    (case kCC => k_is)
    (case c1C => k_is)
    (case c2C => k_is)
    (case nm => k_is)
    (case nc => k_is)
    (case nk => k_is)
    (case i1 => k_is)
    (case i2 => k_is)
    (case i3 => (refine' K0.xg_mk ?i3_l ?i3_e ?i3_e1 ?i3_e2 ?i3_e3 ?i3_c ?i3_k ?i3_d ?i3_t ?i3_y ?i3_r; (case i3_l => k_is); (case i3_e => exact rfl); (case i3_e1 => exact rfl); (case i3_e2 => exact rfl); (case i3_e3 => exact rfl); (case i3_c => k_is); (case i3_k => k_is); (case i3_d => exact rfl); (case i3_t => k_is); (case i3_y => exact rfl); (case i3_r => first | exact .cons rfl .nil | exact .cons ⟨_, rfl⟩ .nil)))
    (case i4 => (refine' K0.em_mk ?i4_l ?i4_x ?i4_y ?i4_z; (case i4_l => k_is); (case i4_x => exact rfl); (case i4_y => exact rfl); (case i4_z => exact rfl)))
    (case n1 => k_is)
    (case n3 => (refine' K0.xg_mk ?n3_l ?n3_e ?n3_e1 ?n3_e2 ?n3_e3 ?n3_c ?n3_k ?n3_d ?n3_t ?n3_y ?n3_r; (case n3_l => k_is); (case n3_e => exact rfl); (case n3_e1 => exact rfl); (case n3_e2 => exact rfl); (case n3_e3 => exact rfl); (case n3_c => k_is); (case n3_k => k_is); (case n3_d => exact rfl); (case n3_t => k_is); (case n3_y => exact rfl); (case n3_r => first | exact .cons rfl .nil | exact .cons ⟨_, rfl⟩ .nil)))
    (case k1_heaviest => k_is)
    (case k3_heaviest => (refine' K0.xg2_mk ?k3_heaviest_l ?k3_heaviest_e ?k3_heaviest_e1 ?k3_heaviest_e2 ?k3_heaviest_e3 ?k3_heaviest_c ?k3_heaviest_k ?k3_heaviest_d ?k3_heaviest_t ?k3_heaviest_y ?k3_heaviest_r ?k3_heaviest_ne; (case k3_heaviest_l => k_is); (case k3_heaviest_e => exact rfl); (case k3_heaviest_e1 => exact rfl); (case k3_heaviest_e2 => exact rfl); (case k3_heaviest_e3 => exact rfl); (case k3_heaviest_c => k_is); (case k3_heaviest_k => k_is); (case k3_heaviest_d => exact rfl); (case k3_heaviest_t => k_is); (case k3_heaviest_y => exact rfl); (case k3_heaviest_r => exact .cons rfl (.cons rfl .nil)); (case k3_heaviest_ne => exact fun h => nomatch h)))
    (case k4_heaviest => (refine' K0.em_mk ?k4_heaviest_l ?k4_heaviest_x ?k4_heaviest_y ?k4_heaviest_z; (case k4_heaviest_l => k_is); (case k4_heaviest_x => exact rfl); (case k4_heaviest_y => exact rfl); (case k4_heaviest_z => exact rfl)))
    (case xBadNeedsBadNeeds => k_is)
    (case xBadThingBadThing => k_is)
    (case xBadThingBadNeeds => k_is)
    (case xBadNumberBadNumber => k_is)
    (case xBadNumberBadNeeds => k_is)
    (case xBadNumberBadThing => k_is)
    (case mWeb_clash => (refine' K0.mg_mk ?mWeb_clash_a ?mWeb_clash_i ?mWeb_clash_n ?mWeb_clash_l ?mWeb_clash_e ?mWeb_clash_e1 ?mWeb_clash_e2 ?mWeb_clash_e3 ?mWeb_clash_c ?mWeb_clash_k; (case mWeb_clash_a => k_is); (case mWeb_clash_i => k_is); (case mWeb_clash_n => k_is); (case mWeb_clash_l => k_is); (case mWeb_clash_e => exact rfl); (case mWeb_clash_e1 => exact rfl); (case mWeb_clash_e2 => exact rfl); (case mWeb_clash_e3 => exact rfl); (case mWeb_clash_c => k_is); (case mWeb_clash_k => k_is)))
    (case z0 => k_is)
    (case z1 => k_is)
    (case z2 => k_is)
    (case z3 => k_is)
    (case z4 => k_is)
    (case z5 => k_is)
    (case z6 => k_is)
    (case z7 => k_is)
    (case z8 => k_is)
    (case z9 => k_is)
    (case z10 => k_is)
    (case z11 => k_is)
    (case z12 => k_is)
    (case z13 => k_is)
    (case z14 => k_is)
    (case z15 => k_is)
    (case d_is_int => (refine' K0.dg_mk ?d_is_int_a ?d_is_int_l ?d_is_int_e ?d_is_int_e1 ?d_is_int_e2 ?d_is_int_e3 ?d_is_int_c ?d_is_int_k; (case d_is_int_a => k_is); (case d_is_int_l => k_is); (case d_is_int_e => exact rfl); (case d_is_int_e1 => exact rfl); (case d_is_int_e2 => exact rfl); (case d_is_int_e3 => exact rfl); (case d_is_int_c => k_is); (case d_is_int_k => k_is)))
    (case d_is_pair => (refine' K0.dg_mk ?d_is_pair_a ?d_is_pair_l ?d_is_pair_e ?d_is_pair_e1 ?d_is_pair_e2 ?d_is_pair_e3 ?d_is_pair_c ?d_is_pair_k; (case d_is_pair_a => k_is); (case d_is_pair_l => k_is); (case d_is_pair_e => exact rfl); (case d_is_pair_e1 => exact rfl); (case d_is_pair_e2 => exact rfl); (case d_is_pair_e3 => exact rfl); (case d_is_pair_c => k_is); (case d_is_pair_k => k_is)))
    (case d_is_thing => (refine' K0.dg_mk ?d_is_thing_a ?d_is_thing_l ?d_is_thing_e ?d_is_thing_e1 ?d_is_thing_e2 ?d_is_thing_e3 ?d_is_thing_c ?d_is_thing_k; (case d_is_thing_a => k_is); (case d_is_thing_l => k_is); (case d_is_thing_e => exact rfl); (case d_is_thing_e1 => exact rfl); (case d_is_thing_e2 => exact rfl); (case d_is_thing_e3 => exact rfl); (case d_is_thing_c => k_is); (case d_is_thing_k => k_is)))
    (case d_checked_clashes => (refine' K0.dg_mk ?d_checked_clashes_a ?d_checked_clashes_l ?d_checked_clashes_e ?d_checked_clashes_e1 ?d_checked_clashes_e2 ?d_checked_clashes_e3 ?d_checked_clashes_c ?d_checked_clashes_k; (case d_checked_clashes_a => k_is); (case d_checked_clashes_l => k_is); (case d_checked_clashes_e => exact rfl); (case d_checked_clashes_e1 => exact rfl); (case d_checked_clashes_e2 => exact rfl); (case d_checked_clashes_e3 => exact rfl); (case d_checked_clashes_c => k_is); (case d_checked_clashes_k => k_is)))
    (case d_near_masks => (refine' K0.dg_mk ?d_near_masks_a ?d_near_masks_l ?d_near_masks_e ?d_near_masks_e1 ?d_near_masks_e2 ?d_near_masks_e3 ?d_near_masks_c ?d_near_masks_k; (case d_near_masks_a => k_is); (case d_near_masks_l => k_is); (case d_near_masks_e => exact rfl); (case d_near_masks_e1 => exact rfl); (case d_near_masks_e2 => exact rfl); (case d_near_masks_e3 => exact rfl); (case d_near_masks_c => k_is); (case d_near_masks_k => k_is)))
    (case d_law_draws => (refine' K0.dg_mk ?d_law_draws_a ?d_law_draws_l ?d_law_draws_e ?d_law_draws_e1 ?d_law_draws_e2 ?d_law_draws_e3 ?d_law_draws_c ?d_law_draws_k; (case d_law_draws_a => k_is); (case d_law_draws_l => k_is); (case d_law_draws_e => exact rfl); (case d_law_draws_e1 => exact rfl); (case d_law_draws_e2 => exact rfl); (case d_law_draws_e3 => exact rfl); (case d_law_draws_c => k_is); (case d_law_draws_k => k_is)))
    (case d_law_take => (refine' K0.dg_mk ?d_law_take_a ?d_law_take_l ?d_law_take_e ?d_law_take_e1 ?d_law_take_e2 ?d_law_take_e3 ?d_law_take_c ?d_law_take_k; (case d_law_take_a => k_is); (case d_law_take_l => k_is); (case d_law_take_e => exact rfl); (case d_law_take_e1 => exact rfl); (case d_law_take_e2 => exact rfl); (case d_law_take_e3 => exact rfl); (case d_law_take_c => k_is); (case d_law_take_k => k_is)))
    (case d_law_line => (refine' K0.dg_mk ?d_law_line_a ?d_law_line_l ?d_law_line_e ?d_law_line_e1 ?d_law_line_e2 ?d_law_line_e3 ?d_law_line_c ?d_law_line_k; (case d_law_line_a => k_is); (case d_law_line_l => k_is); (case d_law_line_e => exact rfl); (case d_law_line_e1 => exact rfl); (case d_law_line_e2 => exact rfl); (case d_law_line_e3 => exact rfl); (case d_law_line_c => k_is); (case d_law_line_k => k_is)))
    (case d_law_ring => (refine' K0.dg_mk ?d_law_ring_a ?d_law_ring_l ?d_law_ring_e ?d_law_ring_e1 ?d_law_ring_e2 ?d_law_ring_e3 ?d_law_ring_c ?d_law_ring_k; (case d_law_ring_a => k_is); (case d_law_ring_l => k_is); (case d_law_ring_e => exact rfl); (case d_law_ring_e1 => exact rfl); (case d_law_ring_e2 => exact rfl); (case d_law_ring_e3 => exact rfl); (case d_law_ring_c => k_is); (case d_law_ring_k => k_is)))
    (case d_law_ring_row => (refine' K0.dg_mk ?d_law_ring_row_a ?d_law_ring_row_l ?d_law_ring_row_e ?d_law_ring_row_e1 ?d_law_ring_row_e2 ?d_law_ring_row_e3 ?d_law_ring_row_c ?d_law_ring_row_k; (case d_law_ring_row_a => k_is); (case d_law_ring_row_l => k_is); (case d_law_ring_row_e => exact rfl); (case d_law_ring_row_e1 => exact rfl); (case d_law_ring_row_e2 => exact rfl); (case d_law_ring_row_e3 => exact rfl); (case d_law_ring_row_c => k_is); (case d_law_ring_row_k => k_is)))
    (case d_law_contrary => (refine' K0.dg_mk ?d_law_contrary_a ?d_law_contrary_l ?d_law_contrary_e ?d_law_contrary_e1 ?d_law_contrary_e2 ?d_law_contrary_e3 ?d_law_contrary_c ?d_law_contrary_k; (case d_law_contrary_a => k_is); (case d_law_contrary_l => k_is); (case d_law_contrary_e => exact rfl); (case d_law_contrary_e1 => exact rfl); (case d_law_contrary_e2 => exact rfl); (case d_law_contrary_e3 => exact rfl); (case d_law_contrary_c => k_is); (case d_law_contrary_k => k_is)))
    (case d_law_stretches => (refine' K0.dg_mk ?d_law_stretches_a ?d_law_stretches_l ?d_law_stretches_e ?d_law_stretches_e1 ?d_law_stretches_e2 ?d_law_stretches_e3 ?d_law_stretches_c ?d_law_stretches_k; (case d_law_stretches_a => k_is); (case d_law_stretches_l => k_is); (case d_law_stretches_e => exact rfl); (case d_law_stretches_e1 => exact rfl); (case d_law_stretches_e2 => exact rfl); (case d_law_stretches_e3 => exact rfl); (case d_law_stretches_c => k_is); (case d_law_stretches_k => k_is)))
    (case d_law_row => (refine' K0.dg_mk ?d_law_row_a ?d_law_row_l ?d_law_row_e ?d_law_row_e1 ?d_law_row_e2 ?d_law_row_e3 ?d_law_row_c ?d_law_row_k; (case d_law_row_a => k_is); (case d_law_row_l => k_is); (case d_law_row_e => exact rfl); (case d_law_row_e1 => exact rfl); (case d_law_row_e2 => exact rfl); (case d_law_row_e3 => exact rfl); (case d_law_row_c => k_is); (case d_law_row_k => k_is)))
    (case d_law_falling => (refine' K0.dg_mk ?d_law_falling_a ?d_law_falling_l ?d_law_falling_e ?d_law_falling_e1 ?d_law_falling_e2 ?d_law_falling_e3 ?d_law_falling_c ?d_law_falling_k; (case d_law_falling_a => k_is); (case d_law_falling_l => k_is); (case d_law_falling_e => exact rfl); (case d_law_falling_e1 => exact rfl); (case d_law_falling_e2 => exact rfl); (case d_law_falling_e3 => exact rfl); (case d_law_falling_c => k_is); (case d_law_falling_k => k_is)))
    (case d_law_free => (refine' K0.dg_mk ?d_law_free_a ?d_law_free_l ?d_law_free_e ?d_law_free_e1 ?d_law_free_e2 ?d_law_free_e3 ?d_law_free_c ?d_law_free_k; (case d_law_free_a => k_is); (case d_law_free_l => k_is); (case d_law_free_e => exact rfl); (case d_law_free_e1 => exact rfl); (case d_law_free_e2 => exact rfl); (case d_law_free_e3 => exact rfl); (case d_law_free_c => k_is); (case d_law_free_k => k_is)))
    (case d_law_small => (refine' K0.dg_mk ?d_law_small_a ?d_law_small_l ?d_law_small_e ?d_law_small_e1 ?d_law_small_e2 ?d_law_small_e3 ?d_law_small_c ?d_law_small_k; (case d_law_small_a => k_is); (case d_law_small_l => k_is); (case d_law_small_e => exact rfl); (case d_law_small_e1 => exact rfl); (case d_law_small_e2 => exact rfl); (case d_law_small_e3 => exact rfl); (case d_law_small_c => k_is); (case d_law_small_k => k_is)))
    (case d_law_sides => (refine' K0.dg_mk ?d_law_sides_a ?d_law_sides_l ?d_law_sides_e ?d_law_sides_e1 ?d_law_sides_e2 ?d_law_sides_e3 ?d_law_sides_c ?d_law_sides_k; (case d_law_sides_a => k_is); (case d_law_sides_l => k_is); (case d_law_sides_e => exact rfl); (case d_law_sides_e1 => exact rfl); (case d_law_sides_e2 => exact rfl); (case d_law_sides_e3 => exact rfl); (case d_law_sides_c => k_is); (case d_law_sides_k => k_is)))
    (case d_law_near => (refine' K0.dg_mk ?d_law_near_a ?d_law_near_l ?d_law_near_e ?d_law_near_e1 ?d_law_near_e2 ?d_law_near_e3 ?d_law_near_c ?d_law_near_k; (case d_law_near_a => k_is); (case d_law_near_l => k_is); (case d_law_near_e => exact rfl); (case d_law_near_e1 => exact rfl); (case d_law_near_e2 => exact rfl); (case d_law_near_e3 => exact rfl); (case d_law_near_c => k_is); (case d_law_near_k => k_is)))
    (case d_law_twins => (refine' K0.dg_mk ?d_law_twins_a ?d_law_twins_l ?d_law_twins_e ?d_law_twins_e1 ?d_law_twins_e2 ?d_law_twins_e3 ?d_law_twins_c ?d_law_twins_k; (case d_law_twins_a => k_is); (case d_law_twins_l => k_is); (case d_law_twins_e => exact rfl); (case d_law_twins_e1 => exact rfl); (case d_law_twins_e2 => exact rfl); (case d_law_twins_e3 => exact rfl); (case d_law_twins_c => k_is); (case d_law_twins_k => k_is)))
    (case d_law_made => (refine' K0.dg_mk ?d_law_made_a ?d_law_made_l ?d_law_made_e ?d_law_made_e1 ?d_law_made_e2 ?d_law_made_e3 ?d_law_made_c ?d_law_made_k; (case d_law_made_a => k_is); (case d_law_made_l => k_is); (case d_law_made_e => exact rfl); (case d_law_made_e1 => exact rfl); (case d_law_made_e2 => exact rfl); (case d_law_made_e3 => exact rfl); (case d_law_made_c => k_is); (case d_law_made_k => k_is)))
    (case d_law_moved => (refine' K0.dg_mk ?d_law_moved_a ?d_law_moved_l ?d_law_moved_e ?d_law_moved_e1 ?d_law_moved_e2 ?d_law_moved_e3 ?d_law_moved_c ?d_law_moved_k; (case d_law_moved_a => k_is); (case d_law_moved_l => k_is); (case d_law_moved_e => exact rfl); (case d_law_moved_e1 => exact rfl); (case d_law_moved_e2 => exact rfl); (case d_law_moved_e3 => exact rfl); (case d_law_moved_c => k_is); (case d_law_moved_k => k_is)))
    (case d_law_case => (refine' K0.dg_mk ?d_law_case_a ?d_law_case_l ?d_law_case_e ?d_law_case_e1 ?d_law_case_e2 ?d_law_case_e3 ?d_law_case_c ?d_law_case_k; (case d_law_case_a => k_is); (case d_law_case_l => k_is); (case d_law_case_e => exact rfl); (case d_law_case_e1 => exact rfl); (case d_law_case_e2 => exact rfl); (case d_law_case_e3 => exact rfl); (case d_law_case_c => k_is); (case d_law_case_k => k_is)))
    (case d_law_knots => (refine' K0.dg_mk ?d_law_knots_a ?d_law_knots_l ?d_law_knots_e ?d_law_knots_e1 ?d_law_knots_e2 ?d_law_knots_e3 ?d_law_knots_c ?d_law_knots_k; (case d_law_knots_a => k_is); (case d_law_knots_l => k_is); (case d_law_knots_e => exact rfl); (case d_law_knots_e1 => exact rfl); (case d_law_knots_e2 => exact rfl); (case d_law_knots_e3 => exact rfl); (case d_law_knots_c => k_is); (case d_law_knots_k => k_is)))
    (case d_law_needs => (refine' K0.dg_mk ?d_law_needs_a ?d_law_needs_l ?d_law_needs_e ?d_law_needs_e1 ?d_law_needs_e2 ?d_law_needs_e3 ?d_law_needs_c ?d_law_needs_k; (case d_law_needs_a => k_is); (case d_law_needs_l => k_is); (case d_law_needs_e => exact rfl); (case d_law_needs_e1 => exact rfl); (case d_law_needs_e2 => exact rfl); (case d_law_needs_e3 => exact rfl); (case d_law_needs_c => k_is); (case d_law_needs_k => k_is)))
    (case d_law_large => (refine' K0.dg_mk ?d_law_large_a ?d_law_large_l ?d_law_large_e ?d_law_large_e1 ?d_law_large_e2 ?d_law_large_e3 ?d_law_large_c ?d_law_large_k; (case d_law_large_a => k_is); (case d_law_large_l => k_is); (case d_law_large_e => exact rfl); (case d_law_large_e1 => exact rfl); (case d_law_large_e2 => exact rfl); (case d_law_large_e3 => exact rfl); (case d_law_large_c => k_is); (case d_law_large_k => k_is)))
    (case d_check_needs => (refine' K0.dg_mk ?d_check_needs_a ?d_check_needs_l ?d_check_needs_e ?d_check_needs_e1 ?d_check_needs_e2 ?d_check_needs_e3 ?d_check_needs_c ?d_check_needs_k; (case d_check_needs_a => k_is); (case d_check_needs_l => k_is); (case d_check_needs_e => exact rfl); (case d_check_needs_e1 => exact rfl); (case d_check_needs_e2 => exact rfl); (case d_check_needs_e3 => exact rfl); (case d_check_needs_c => k_is); (case d_check_needs_k => k_is)))
    (case d_check_thing => (refine' K0.dg_mk ?d_check_thing_a ?d_check_thing_l ?d_check_thing_e ?d_check_thing_e1 ?d_check_thing_e2 ?d_check_thing_e3 ?d_check_thing_c ?d_check_thing_k; (case d_check_thing_a => k_is); (case d_check_thing_l => k_is); (case d_check_thing_e => exact rfl); (case d_check_thing_e1 => exact rfl); (case d_check_thing_e2 => exact rfl); (case d_check_thing_e3 => exact rfl); (case d_check_thing_c => k_is); (case d_check_thing_k => k_is)))
    (case d_check_two_things => (refine' K0.dg_mk ?d_check_two_things_a ?d_check_two_things_l ?d_check_two_things_e ?d_check_two_things_e1 ?d_check_two_things_e2 ?d_check_two_things_e3 ?d_check_two_things_c ?d_check_two_things_k; (case d_check_two_things_a => k_is); (case d_check_two_things_l => k_is); (case d_check_two_things_e => exact rfl); (case d_check_two_things_e1 => exact rfl); (case d_check_two_things_e2 => exact rfl); (case d_check_two_things_e3 => exact rfl); (case d_check_two_things_c => k_is); (case d_check_two_things_k => k_is)))
    (case d_first_unfit => (refine' K0.dg_mk ?d_first_unfit_a ?d_first_unfit_l ?d_first_unfit_e ?d_first_unfit_e1 ?d_first_unfit_e2 ?d_first_unfit_e3 ?d_first_unfit_c ?d_first_unfit_k; (case d_first_unfit_a => k_is); (case d_first_unfit_l => k_is); (case d_first_unfit_e => exact rfl); (case d_first_unfit_e1 => exact rfl); (case d_first_unfit_e2 => exact rfl); (case d_first_unfit_e3 => exact rfl); (case d_first_unfit_c => k_is); (case d_first_unfit_k => k_is)))
    (case d_check_things => (refine' K0.dg_mk ?d_check_things_a ?d_check_things_l ?d_check_things_e ?d_check_things_e1 ?d_check_things_e2 ?d_check_things_e3 ?d_check_things_c ?d_check_things_k; (case d_check_things_a => k_is); (case d_check_things_l => k_is); (case d_check_things_e => exact rfl); (case d_check_things_e1 => exact rfl); (case d_check_things_e2 => exact rfl); (case d_check_things_e3 => exact rfl); (case d_check_things_c => k_is); (case d_check_things_k => k_is)))
    (case d_first_pair => (refine' K0.dg_mk ?d_first_pair_a ?d_first_pair_l ?d_first_pair_e ?d_first_pair_e1 ?d_first_pair_e2 ?d_first_pair_e3 ?d_first_pair_c ?d_first_pair_k; (case d_first_pair_a => k_is); (case d_first_pair_l => k_is); (case d_first_pair_e => exact rfl); (case d_first_pair_e1 => exact rfl); (case d_first_pair_e2 => exact rfl); (case d_first_pair_e3 => exact rfl); (case d_first_pair_c => k_is); (case d_first_pair_k => k_is)))
    (case d_is_knot => (refine' K0.dg_mk ?d_is_knot_a ?d_is_knot_l ?d_is_knot_e ?d_is_knot_e1 ?d_is_knot_e2 ?d_is_knot_e3 ?d_is_knot_c ?d_is_knot_k; (case d_is_knot_a => k_is); (case d_is_knot_l => k_is); (case d_is_knot_e => exact rfl); (case d_is_knot_e1 => exact rfl); (case d_is_knot_e2 => exact rfl); (case d_is_knot_e3 => exact rfl); (case d_is_knot_c => k_is); (case d_is_knot_k => k_is)))
    (case d_whole_mask => (refine' K0.dg_mk ?d_whole_mask_a ?d_whole_mask_l ?d_whole_mask_e ?d_whole_mask_e1 ?d_whole_mask_e2 ?d_whole_mask_e3 ?d_whole_mask_c ?d_whole_mask_k; (case d_whole_mask_a => k_is); (case d_whole_mask_l => k_is); (case d_whole_mask_e => exact rfl); (case d_whole_mask_e1 => exact rfl); (case d_whole_mask_e2 => exact rfl); (case d_whole_mask_e3 => exact rfl); (case d_whole_mask_c => k_is); (case d_whole_mask_k => k_is)))
    (case d_weight => (refine' K0.dg_mk ?d_weight_a ?d_weight_l ?d_weight_e ?d_weight_e1 ?d_weight_e2 ?d_weight_e3 ?d_weight_c ?d_weight_k; (case d_weight_a => k_is); (case d_weight_l => k_is); (case d_weight_e => exact rfl); (case d_weight_e1 => exact rfl); (case d_weight_e2 => exact rfl); (case d_weight_e3 => exact rfl); (case d_weight_c => k_is); (case d_weight_k => k_is)))
    (case d_things_in => (refine' K0.dg_mk ?d_things_in_a ?d_things_in_l ?d_things_in_e ?d_things_in_e1 ?d_things_in_e2 ?d_things_in_e3 ?d_things_in_c ?d_things_in_k; (case d_things_in_a => k_is); (case d_things_in_l => k_is); (case d_things_in_e => exact rfl); (case d_things_in_e1 => exact rfl); (case d_things_in_e2 => exact rfl); (case d_things_in_e3 => exact rfl); (case d_things_in_c => k_is); (case d_things_in_k => k_is)))
    (case d_least_in => (refine' K0.dg_mk ?d_least_in_a ?d_least_in_l ?d_least_in_e ?d_least_in_e1 ?d_least_in_e2 ?d_least_in_e3 ?d_least_in_c ?d_least_in_k; (case d_least_in_a => k_is); (case d_least_in_l => k_is); (case d_least_in_e => exact rfl); (case d_least_in_e1 => exact rfl); (case d_least_in_e2 => exact rfl); (case d_least_in_e3 => exact rfl); (case d_least_in_c => k_is); (case d_least_in_k => k_is)))
    (case d_full_masks => (refine' K0.dg_mk ?d_full_masks_a ?d_full_masks_l ?d_full_masks_e ?d_full_masks_e1 ?d_full_masks_e2 ?d_full_masks_e3 ?d_full_masks_c ?d_full_masks_k; (case d_full_masks_a => k_is); (case d_full_masks_l => k_is); (case d_full_masks_e => exact rfl); (case d_full_masks_e1 => exact rfl); (case d_full_masks_e2 => exact rfl); (case d_full_masks_e3 => exact rfl); (case d_full_masks_c => k_is); (case d_full_masks_k => k_is)))
    (case d_room_of_pair => (refine' K0.dg_mk ?d_room_of_pair_a ?d_room_of_pair_l ?d_room_of_pair_e ?d_room_of_pair_e1 ?d_room_of_pair_e2 ?d_room_of_pair_e3 ?d_room_of_pair_c ?d_room_of_pair_k; (case d_room_of_pair_a => k_is); (case d_room_of_pair_l => k_is); (case d_room_of_pair_e => exact rfl); (case d_room_of_pair_e1 => exact rfl); (case d_room_of_pair_e2 => exact rfl); (case d_room_of_pair_e3 => exact rfl); (case d_room_of_pair_c => k_is); (case d_room_of_pair_k => k_is)))
    (case d_pair_room => (refine' K0.dg_mk ?d_pair_room_a ?d_pair_room_l ?d_pair_room_e ?d_pair_room_e1 ?d_pair_room_e2 ?d_pair_room_e3 ?d_pair_room_c ?d_pair_room_k; (case d_pair_room_a => k_is); (case d_pair_room_l => k_is); (case d_pair_room_e => exact rfl); (case d_pair_room_e1 => exact rfl); (case d_pair_room_e2 => exact rfl); (case d_pair_room_e3 => exact rfl); (case d_pair_room_c => k_is); (case d_pair_room_k => k_is)))
    (case d_slack => (refine' K0.dg_mk ?d_slack_a ?d_slack_l ?d_slack_e ?d_slack_e1 ?d_slack_e2 ?d_slack_e3 ?d_slack_c ?d_slack_k; (case d_slack_a => k_is); (case d_slack_l => k_is); (case d_slack_e => exact rfl); (case d_slack_e1 => exact rfl); (case d_slack_e2 => exact rfl); (case d_slack_e3 => exact rfl); (case d_slack_c => k_is); (case d_slack_k => k_is)))
    (case d_law_weight => (refine' K0.dg_mk ?d_law_weight_a ?d_law_weight_l ?d_law_weight_e ?d_law_weight_e1 ?d_law_weight_e2 ?d_law_weight_e3 ?d_law_weight_c ?d_law_weight_k; (case d_law_weight_a => k_is); (case d_law_weight_l => k_is); (case d_law_weight_e => exact rfl); (case d_law_weight_e1 => exact rfl); (case d_law_weight_e2 => exact rfl); (case d_law_weight_e3 => exact rfl); (case d_law_weight_c => k_is); (case d_law_weight_k => k_is)))
    (case d_law_heavy => (refine' K0.dg_mk ?d_law_heavy_a ?d_law_heavy_l ?d_law_heavy_e ?d_law_heavy_e1 ?d_law_heavy_e2 ?d_law_heavy_e3 ?d_law_heavy_c ?d_law_heavy_k; (case d_law_heavy_a => k_is); (case d_law_heavy_l => k_is); (case d_law_heavy_e => exact rfl); (case d_law_heavy_e1 => exact rfl); (case d_law_heavy_e2 => exact rfl); (case d_law_heavy_e3 => exact rfl); (case d_law_heavy_c => k_is); (case d_law_heavy_k => k_is)))
    (case d_law_heavy_with => (refine' K0.dg_mk ?d_law_heavy_with_a ?d_law_heavy_with_l ?d_law_heavy_with_e ?d_law_heavy_with_e1 ?d_law_heavy_with_e2 ?d_law_heavy_with_e3 ?d_law_heavy_with_c ?d_law_heavy_with_k; (case d_law_heavy_with_a => k_is); (case d_law_heavy_with_l => k_is); (case d_law_heavy_with_e => exact rfl); (case d_law_heavy_with_e1 => exact rfl); (case d_law_heavy_with_e2 => exact rfl); (case d_law_heavy_with_e3 => exact rfl); (case d_law_heavy_with_c => k_is); (case d_law_heavy_with_k => k_is)))
    (case d_law_clash => (refine' K0.dg_mk ?d_law_clash_a ?d_law_clash_l ?d_law_clash_e ?d_law_clash_e1 ?d_law_clash_e2 ?d_law_clash_e3 ?d_law_clash_c ?d_law_clash_k; (case d_law_clash_a => k_is); (case d_law_clash_l => k_is); (case d_law_clash_e => exact rfl); (case d_law_clash_e1 => exact rfl); (case d_law_clash_e2 => exact rfl); (case d_law_clash_e3 => exact rfl); (case d_law_clash_c => k_is); (case d_law_clash_k => k_is)))
    (case d_law_int => (refine' K0.dg_mk ?d_law_int_a ?d_law_int_l ?d_law_int_e ?d_law_int_e1 ?d_law_int_e2 ?d_law_int_e3 ?d_law_int_c ?d_law_int_k; (case d_law_int_a => k_is); (case d_law_int_l => k_is); (case d_law_int_e => exact rfl); (case d_law_int_e1 => exact rfl); (case d_law_int_e2 => exact rfl); (case d_law_int_e3 => exact rfl); (case d_law_int_c => k_is); (case d_law_int_k => k_is)))
    (case d_law_two => (refine' K0.dg_mk ?d_law_two_a ?d_law_two_l ?d_law_two_e ?d_law_two_e1 ?d_law_two_e2 ?d_law_two_e3 ?d_law_two_c ?d_law_two_k; (case d_law_two_a => k_is); (case d_law_two_l => k_is); (case d_law_two_e => exact rfl); (case d_law_two_e1 => exact rfl); (case d_law_two_e2 => exact rfl); (case d_law_two_e3 => exact rfl); (case d_law_two_c => k_is); (case d_law_two_k => k_is)))
    (case d_free_together => (refine' K0.dg_mk ?d_free_together_a ?d_free_together_l ?d_free_together_e ?d_free_together_e1 ?d_free_together_e2 ?d_free_together_e3 ?d_free_together_c ?d_free_together_k; (case d_free_together_a => k_is); (case d_free_together_l => k_is); (case d_free_together_e => exact rfl); (case d_free_together_e1 => exact rfl); (case d_free_together_e2 => exact rfl); (case d_free_together_e3 => exact rfl); (case d_free_together_c => k_is); (case d_free_together_k => k_is)))
    (case d_law_leaves => (refine' K0.dg_mk ?d_law_leaves_a ?d_law_leaves_l ?d_law_leaves_e ?d_law_leaves_e1 ?d_law_leaves_e2 ?d_law_leaves_e3 ?d_law_leaves_c ?d_law_leaves_k; (case d_law_leaves_a => k_is); (case d_law_leaves_l => k_is); (case d_law_leaves_e => exact rfl); (case d_law_leaves_e1 => exact rfl); (case d_law_leaves_e2 => exact rfl); (case d_law_leaves_e3 => exact rfl); (case d_law_leaves_c => k_is); (case d_law_leaves_k => k_is)))
    (case d_sum_needs => (refine' K0.dg_mk ?d_sum_needs_a ?d_sum_needs_l ?d_sum_needs_e ?d_sum_needs_e1 ?d_sum_needs_e2 ?d_sum_needs_e3 ?d_sum_needs_c ?d_sum_needs_k; (case d_sum_needs_a => k_is); (case d_sum_needs_l => k_is); (case d_sum_needs_e => exact rfl); (case d_sum_needs_e1 => exact rfl); (case d_sum_needs_e2 => exact rfl); (case d_sum_needs_e3 => exact rfl); (case d_sum_needs_c => k_is); (case d_sum_needs_k => k_is)))
    (case d_raised => (refine' K0.dg_mk ?d_raised_a ?d_raised_l ?d_raised_e ?d_raised_e1 ?d_raised_e2 ?d_raised_e3 ?d_raised_c ?d_raised_k; (case d_raised_a => k_is); (case d_raised_l => k_is); (case d_raised_e => exact rfl); (case d_raised_e1 => exact rfl); (case d_raised_e2 => exact rfl); (case d_raised_e3 => exact rfl); (case d_raised_c => k_is); (case d_raised_k => k_is)))
    (case d_raised_heaviest => (refine' K0.dg_mk ?d_raised_heaviest_a ?d_raised_heaviest_l ?d_raised_heaviest_e ?d_raised_heaviest_e1 ?d_raised_heaviest_e2 ?d_raised_heaviest_e3 ?d_raised_heaviest_c ?d_raised_heaviest_k; (case d_raised_heaviest_a => k_is); (case d_raised_heaviest_l => k_is); (case d_raised_heaviest_e => exact rfl); (case d_raised_heaviest_e1 => exact rfl); (case d_raised_heaviest_e2 => exact rfl); (case d_raised_heaviest_e3 => exact rfl); (case d_raised_heaviest_c => k_is); (case d_raised_heaviest_k => k_is)))
    (case d_cost => (refine' K0.dg_mk ?d_cost_a ?d_cost_l ?d_cost_e ?d_cost_e1 ?d_cost_e2 ?d_cost_e3 ?d_cost_c ?d_cost_k; (case d_cost_a => k_is); (case d_cost_l => k_is); (case d_cost_e => exact rfl); (case d_cost_e1 => exact rfl); (case d_cost_e2 => exact rfl); (case d_cost_e3 => exact rfl); (case d_cost_c => k_is); (case d_cost_k => k_is)))
    (case d_law_pair => (refine' K0.dg_mk ?d_law_pair_a ?d_law_pair_l ?d_law_pair_e ?d_law_pair_e1 ?d_law_pair_e2 ?d_law_pair_e3 ?d_law_pair_c ?d_law_pair_k; (case d_law_pair_a => k_is); (case d_law_pair_l => k_is); (case d_law_pair_e => exact rfl); (case d_law_pair_e1 => exact rfl); (case d_law_pair_e2 => exact rfl); (case d_law_pair_e3 => exact rfl); (case d_law_pair_c => k_is); (case d_law_pair_k => k_is)))
    (case d_law_spoilt => (refine' K0.dg_mk ?d_law_spoilt_a ?d_law_spoilt_l ?d_law_spoilt_e ?d_law_spoilt_e1 ?d_law_spoilt_e2 ?d_law_spoilt_e3 ?d_law_spoilt_c ?d_law_spoilt_k; (case d_law_spoilt_a => k_is); (case d_law_spoilt_l => k_is); (case d_law_spoilt_e => exact rfl); (case d_law_spoilt_e1 => exact rfl); (case d_law_spoilt_e2 => exact rfl); (case d_law_spoilt_e3 => exact rfl); (case d_law_spoilt_c => k_is); (case d_law_spoilt_k => k_is)))
    (case d_law_room_told => (refine' K0.dg_mk ?d_law_room_told_a ?d_law_room_told_l ?d_law_room_told_e ?d_law_room_told_e1 ?d_law_room_told_e2 ?d_law_room_told_e3 ?d_law_room_told_c ?d_law_room_told_k; (case d_law_room_told_a => k_is); (case d_law_room_told_l => k_is); (case d_law_room_told_e => exact rfl); (case d_law_room_told_e1 => exact rfl); (case d_law_room_told_e2 => exact rfl); (case d_law_room_told_e3 => exact rfl); (case d_law_room_told_c => k_is); (case d_law_room_told_k => k_is)))
    (case d_law_free_told => (refine' K0.dg_mk ?d_law_free_told_a ?d_law_free_told_l ?d_law_free_told_e ?d_law_free_told_e1 ?d_law_free_told_e2 ?d_law_free_told_e3 ?d_law_free_told_c ?d_law_free_told_k; (case d_law_free_told_a => k_is); (case d_law_free_told_l => k_is); (case d_law_free_told_e => exact rfl); (case d_law_free_told_e1 => exact rfl); (case d_law_free_told_e2 => exact rfl); (case d_law_free_told_e3 => exact rfl); (case d_law_free_told_c => k_is); (case d_law_free_told_k => k_is)))
    (case d_law_refused => (refine' K0.dg_mk ?d_law_refused_a ?d_law_refused_l ?d_law_refused_e ?d_law_refused_e1 ?d_law_refused_e2 ?d_law_refused_e3 ?d_law_refused_c ?d_law_refused_k; (case d_law_refused_a => k_is); (case d_law_refused_l => k_is); (case d_law_refused_e => exact rfl); (case d_law_refused_e1 => exact rfl); (case d_law_refused_e2 => exact rfl); (case d_law_refused_e3 => exact rfl); (case d_law_refused_c => k_is); (case d_law_refused_k => k_is)))
    (case dLW => (refine' K0.dg_mk ?dLW_a ?dLW_l ?dLW_e ?dLW_e1 ?dLW_e2 ?dLW_e3 ?dLW_c ?dLW_k; (case dLW_a => k_is); (case dLW_l => k_is); (case dLW_e => exact rfl); (case dLW_e1 => exact rfl); (case dLW_e2 => exact rfl); (case dLW_e3 => exact rfl); (case dLW_c => k_is); (case dLW_k => k_is)))
#print axioms PySem.Challenge.cw_perfectorders_k33_two_needs_holds
