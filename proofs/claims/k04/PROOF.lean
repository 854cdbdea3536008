import PyProof.Rows.All
import Wide.All
import OpenK.AllK
import Wide.FinOn
import HandS.ForMost
import HandS.ForExc
import HandS.IsInst
import HandS.Strs
import HandS.TupSets
import HandS.TryMany
import HandS.ExcInit
import HandS.NoneIn
import HandS.Property
import HandS.ExcField
import HandS.Defaults
import KE.BitLaws
import HandS.WideBits
import HandS.Steps
import HandS.Walk
import KE.GoesMore
import HandS.OwnEq
import KE.Datum
import HandS.Star
import HandS.RaiseMore
import HandS.Deep
import HandS.SortRule
import HandS.Zip
import HandS.ClsMeth
import HandS.ExcIs
import PySem.Challenge.RW_perfectorders_k04_webs_put_in
set_option Elab.async false
set_option linter.all false
set_option maxRecDepth 100000
set_option maxHeartbeats 2000000
namespace K0
open PySem PySem.Spec PyProof.Rows L2
def top (i : Nat) : Stmt := PySem.Challenge.pw_perfectorders_k04_webs_put_in.main.body.getD i (.Pass ⟨0, 0, 0, 0⟩)
abbrev s_is_int : Stmt := top 10
abbrev s_is_pair : Stmt := top 11
abbrev s_is_thing : Stmt := top 12
/-- the built-in names that the top leaves as they are -/
structure Blt (mg : Str → Option Value) : Prop where
  isi : mg "isinstance" = none
  int : mg "int" = none
  bool : mg "bool" = none
  list : mg "list" = none
  tuple : mg "tuple" = none
  len : mg "len" = none
section
variable {P : Program} {w : World} {K : PySem.W.Frag} {mg : Str → Option Value} {base : Heap}
/-- the answer of is_int by the type -/
def intT (t : Value) : Bool := t == .type "int"
inductive Plain (K : PySem.W.Frag) (H : Hp) : V → Bool → Prop where
  | non : Plain K H .non false
  | bl (b : Bool) : Plain K H (.bl b) false
  | int (i : Int) : Plain K H (.int i) true
  | str (x : Str) : Plain K H (.str x) false
  | tup {a : Addr} {xs : List V} (e : H a = some (.tup xs)) : Plain K H (.ref a) false
  | lst {a : Addr} {xs : List V} (e : H a = some (.lst xs)) : Plain K H (.ref a) false
def spIsInt (K : PySem.W.Frag) : Sp := fun vs H Q _ => ∃ v b, vs = [v] ∧ Plain K H v b ∧ Q (.bl b) H
theorem sc_is_int : FnScope ["value"] ["value"] (defScope s_is_int) := ⟨rfl, rfl, rfl, by decide +kernel, rfl, by decide +kernel, by decide +kernel⟩
theorem ok_is_int {f : Addr} {fd : FuncData} (F : Fun K "is_int" "is_int" s_is_int f fd) (B : Blt mg) : FnOk P w K mg base CX0 1 f fd ["value"] (spIsInt K) := by
  refine F.ok sc_is_int (fun vs H Q E h => ?_) (fun cdv A outer s H vs Q E hr h => ?_)
  · obtain ⟨v, b, rfl, _⟩ := h
    rfl
  · obtain ⟨v, b, rfl, hv, q⟩ := h
    refine ⟨_, pss_one (ps_ret (pe_and
      (pe_callB call_isi (by rfl) B.isi (by decide +kernel) (pa_cons (pv 0) (pa_cons (pe_bltn (v := .ty "int") (by rfl) B.int (by decide +kernel) rfl) pa_nil)))
      (pe_one (pe_not (pe_callB call_isi (by rfl) B.isi (by decide +kernel) (pa_cons (pv 0) (pa_cons (pe_bltn (v := .ty "bool") (by rfl) B.bool (by decide +kernel) rfl) pa_nil))))))), ?_⟩
    cases hv with
    | non =>
      exact ⟨_, rfl, _, _, _, _, _, rfl, .ty _, .base .non, kit_ty (r := false) (by decide +kernel), _, rfl, iteF q⟩
    | bl b =>
      exact ⟨_, rfl, _, _, _, _, _, rfl, .ty _, .base (.bl b), kit_ty (r := true) (by decide +kernel), _, rfl, iteT ⟨_, rfl, _, _, _, _, _, rfl, .ty _, .base (.bl b), kit_ty (r := true) (by decide +kernel), _, rfl, q⟩⟩
    | int i =>
      exact ⟨_, rfl, _, _, _, _, _, rfl, .ty _, .base (.int i), kit_ty (r := true) (by decide +kernel), _, rfl, iteT ⟨_, rfl, _, _, _, _, _, rfl, .ty _, .base (.int i), kit_ty (r := false) (by decide +kernel), _, rfl, q⟩⟩
    | str x =>
      exact ⟨_, rfl, _, _, _, _, _, rfl, .ty _, .base (.str x), kit_ty (r := false) (by decide +kernel), _, rfl, iteF q⟩
    | tup e =>
      exact ⟨_, rfl, _, _, _, _, _, rfl, .ty _, .base (.tup e), kit_ty (r := false) (by decide +kernel), _, rfl, iteF q⟩
    | lst e =>
      exact ⟨_, rfl, _, _, _, _, _, rfl, .ty _, .base (.lst e), kit_ty (r := false) (by decide +kernel), _, rfl, iteF q⟩
end
end K0
set_option Elab.async false
set_option linter.all false
set_option maxRecDepth 100000
set_option maxHeartbeats 2000000
namespace K0
open PySem PySem.Spec PyProof.Rows L2
/-! ### data that stands in the heap -/
mutual
inductive Dt (H : Hp) : V → PyData → Prop
  | non : Dt H .non .none
  | bl (b : Bool) : Dt H (.bl b) (.bool b)
  | int (i : Int) : Dt H (.int i) (.int i)
  | str (x : Str) : Dt H (.str x) (.str x)
  | lst {a : Addr} {xs : List V} {ds : List PyData} : H a = some (.lst xs) → DtAll H xs ds → Dt H (.ref a) (.list ds)
  | tup {a : Addr} {xs : List V} {ds : List PyData} : H a = some (.tup xs) → DtAll H xs ds → Dt H (.ref a) (.tuple ds)
inductive DtAll (H : Hp) : List V → List PyData → Prop
  | nil : DtAll H [] []
  | cons {v : V} {vs : List V} {d : PyData} {ds : List PyData} : Dt H v d → DtAll H vs ds → DtAll H (v :: vs) (d :: ds)
end
mutual
theorem Dt.mono {H H' : Hp} (s : Same H H') : ∀ {v : V} {d : PyData}, Dt H v d → Dt H' v d
  | _, _, .non => .non
  | _, _, .bl b => .bl b
  | _, _, .int i => .int i
  | _, _, .str x => .str x
  | _, _, .lst e h => .lst (s _ _ e) (DtAll.mono s h)
  | _, _, .tup e h => .tup (s _ _ e) (DtAll.mono s h)
theorem DtAll.mono {H H' : Hp} (s : Same H H') : ∀ {v : List V} {d : List PyData}, DtAll H v d → DtAll H' v d
  | _, _, .nil => .nil
  | _, _, .cons h t => .cons (Dt.mono s h) (DtAll.mono s t)
end
mutual
theorem Dt.dp {K : PySem.W.Frag} {H : Hp} : ∀ {v : V} {d : PyData}, Dt H v d → Dp K H v d
  | _, _, .non => .non
  | _, _, .bl b => .bl b
  | _, _, .int i => .int i
  | _, _, .str x => .str x
  | _, _, .lst e h => .lst (SqL.of e) (DtAll.dp h)
  | _, _, .tup e h => .tup (SqT.of e) (DtAll.dp h)
theorem DtAll.dp {K : PySem.W.Frag} {H : Hp} : ∀ {v : List V} {d : List PyData}, DtAll H v d → DpAll K H v d
  | _, _, .nil => .nil
  | _, _, .cons h t => .cons (Dt.dp h) (DtAll.dp t)
end
theorem DtAll.len {H : Hp} : ∀ {vs : List V} {ds : List PyData}, DtAll H vs ds → vs.length = ds.length
  | _, _, .nil => rfl
  | _, _, .cons _ t => congrArg (· + 1) t.len
theorem DtAll.at {H : Hp} : ∀ {vs : List V} {ds : List PyData} {i : Nat} {v : V}, DtAll H vs ds → vs[i]? = some v → ∃ d, ds[i]? = some d ∧ Dt H v d
  | _, _, _, _, .nil, e => by simp at e
  | _, _, 0, _, .cons h _, e => by
    have z := Option.some.inj e
    subst z
    exact ⟨_, rfl, h⟩
  | _, _, i + 1, _, .cons _ t, e => DtAll.at (i := i) t e
theorem DtAll.at' {H : Hp} : ∀ {vs : List V} {ds : List PyData} {i : Nat} {d : PyData}, DtAll H vs ds → ds[i]? = some d → ∃ v, vs[i]? = some v ∧ Dt H v d
  | _, _, _, _, .nil, e => by simp at e
  | _, _, 0, _, .cons h _, e => by
    have z := Option.some.inj e
    subst z
    exact ⟨_, rfl, h⟩
  | _, _, i + 1, _, .cons _ t, e => DtAll.at' (i := i) t e
theorem DtAll.app {H : Hp} : ∀ {vs ws : List V} {ds es : List PyData}, DtAll H vs ds → DtAll H ws es → DtAll H (vs ++ ws) (ds ++ es)
  | _, _, _, _, .nil, h => h
  | _, _, _, _, .cons a t, h => .cons a (t.app h)
theorem DtAll.take {H : Hp} : ∀ {vs : List V} {ds : List PyData} (n : Nat), DtAll H vs ds → DtAll H (vs.take n) (ds.take n)
  | _, _, 0, _ => .nil
  | _, _, _ + 1, .nil => .nil
  | _, _, n + 1, .cons h t => .cons h (t.take n)
theorem DtAll.drop {H : Hp} : ∀ {vs : List V} {ds : List PyData} (n : Nat), DtAll H vs ds → DtAll H (vs.drop n) (ds.drop n)
  | _, _, 0, h => h
  | _, _, _ + 1, .nil => .nil
  | _, _, n + 1, .cons _ t => t.drop n
theorem DtAll.ints (H : Hp) : ∀ ns : List Int, DtAll H (ns.map V.int) (ns.map PyData.int)
  | [] => .nil
  | n :: r => .cons (.int n) (DtAll.ints H r)
theorem same_upd {H : Hp} {p : Addr} {o : HO} (h : H p = none) : Same H (upd H p o) := fun b u e => by
  rw [upd_ne (ne_of_none e h)]
  exact e
theorem Dt.one {H : Hp} {v w : V} {d : PyData} (h : Dt H v d) : Dt H v d := h
/-- is a whole number, and no truth value -/
def isI : PyData → Bool
  | .int _ => true
  | _ => false
def tyD : PyData → String
  | .none => "NoneType"
  | .bool _ => "bool"
  | .int _ => "int"
  | .str _ => "str"
  | .list _ => "list"
  | .tuple _ => "tuple"
  | .dict _ => "dict"
theorem Dt.ty {K : PySem.W.Frag} {H : Hp} {v : V} {d : PyData} (h : Dt H v d) : TyX K H v (.type (tyD d)) := by
  cases h with
  | non => exact .base .non
  | bl b => exact .base (.bl b)
  | int i => exact .base (.int i)
  | str x => exact .base (.str x)
  | lst e _ => exact .base (.lst e)
  | tup e _ => exact .base (.tup e)
/-! ### is_int and its like -/
section
variable {P : Program} {w : World} {K : PySem.W.Frag} {mg : Str → Option Value} {base : Heap}
def spInt : Sp := fun vs H Q _ => ∃ v d, vs = [v] ∧ Dt H v d ∧ Q (.bl (isI d)) H
theorem plain_dt {H : Hp} {v : V} {d : PyData} (h : Dt H v d) : Plain K H v (isI d) := by
  cases h with
  | non => exact .non
  | bl b => exact .bl b
  | int i => exact .int i
  | str x => exact .str x
  | lst e _ => exact .lst e
  | tup e _ => exact .tup e
theorem ok_int {f : Addr} {fd : FuncData} (F : Fun K "is_int" "is_int" s_is_int f fd) (B : Blt mg) : FnOk P w K mg base CX0 1 f fd ["value"] spInt :=
  (ok_is_int F B).imp fun vs H Q E h => by
    obtain ⟨v, d, e, hv, q⟩ := h
    exact ⟨v, isI d, e, plain_dt hv, q⟩
def isPairD : PyData → Bool
  | .list xs => xs.length == 2
  | .tuple xs => xs.length == 2
  | _ => false
theorem len_two (ds : List PyData) : ((ds.length : Int) == 2) = (ds.length == 2) := by
  rw [Bool.eq_iff_iff, beq_iff_eq, beq_iff_eq]
  omega
/-- what leaves all that was tracked -/
def Ret (v : V) (H : Hp) (Q : VK) : Prop := ∀ H', Same H H' → Q v H'
theorem Ret.now {v : V} {H : Hp} {Q : VK} (h : Ret v H Q) : Q v H := h H (Same.refl H)
def spPair : Sp := fun vs H Q _ => ∃ v d, vs = [v] ∧ Dt H v d ∧ Ret (.bl (isPairD d)) H Q
theorem sc_is_pair : FnScope ["value"] ["value"] (defScope s_is_pair) := ⟨rfl, rfl, rfl, by decide +kernel, rfl, by decide +kernel, by decide +kernel⟩
theorem kit2 {K : PySem.W.Frag} {t : String} {b1 b2 : Bool} (h1 : kitB t "list" = some b1) (h2 : kitB t "tuple" = some b2) : PySem.W.kitAny K (.type t) [.type "list", .type "tuple"] = some (b1 || b2) := by
  refine kitAny_cons (kit_ty h1) (fun e => ?_) (fun e => by rw [e]; rfl)
  refine kitAny_cons (kit_ty h2) (fun e2 => ?_) (fun e2 => by rw [e, e2]; rfl)
  rw [e, e2]
  exact kitAny_nil
theorem ok_pair {f : Addr} {fd : FuncData} (F : Fun K "is_pair" "is_pair" s_is_pair f fd) (B : Blt mg) : FnOk P w K mg base CX0 1 f fd ["value"] spPair := by
  refine F.ok sc_is_pair (fun vs H Q E h => ?_) (fun cdv A outer s H vs Q E hr h => ?_)
  · obtain ⟨v, d, rfl, _⟩ := h
    rfl
  · obtain ⟨v, d, rfl, hv, q⟩ := h
    refine ⟨_, pss_one (ps_ret (pe_and
      (pe_callB call_isiT (by rfl) B.isi (by decide +kernel) (pa_cons (pv 0) (pa_cons (pe_tup (pa_cons (pe_bltn (v := .ty "list") (by rfl) B.list (by decide +kernel) rfl) (pa_cons (pe_bltn (v := .ty "tuple") (by rfl) B.tuple (by decide +kernel) rfl) pa_nil))) pa_nil)))
      (pe_one (pe_cmpR op_eq (pe_callB call_len_seq (by rfl) B.len PySem.boot_len (pa_cons (pv 0) pa_nil)) pe_int (nomark _))))), ?_⟩
    refine ⟨_, rfl, by show 2 ≤ sizeLine; decide, fun t ht => ?_⟩
    have sm : Same H (upd H t (.tup [.ty "list", .ty "tuple"])) := same_upd ht
    have cl : Paired ClsV [V.ty "list", V.ty "tuple"] [Value.type "list", Value.type "tuple"] := .cons (.ty _) (.cons (.ty _) .nil)
    have ty : TyX K _ v _ := (hv.mono sm).ty
    cases hv with
    | non => exact ⟨_, _, _, _, _, _, rfl, upd_same, cl, ty, kit2 (b1 := false) (b2 := false) (by decide +kernel) (by decide +kernel), _, rfl, iteF (q _ sm)⟩
    | bl b => exact ⟨_, _, _, _, _, _, rfl, upd_same, cl, ty, kit2 (t := "bool") (b1 := false) (b2 := false) (by decide +kernel) (by decide +kernel), _, rfl, iteF (q _ sm)⟩
    | int b => exact ⟨_, _, _, _, _, _, rfl, upd_same, cl, ty, kit2 (t := "int") (b1 := false) (b2 := false) (by decide +kernel) (by decide +kernel), _, rfl, iteF (q _ sm)⟩
    | str b => exact ⟨_, _, _, _, _, _, rfl, upd_same, cl, ty, kit2 (t := "str") (b1 := false) (b2 := false) (by decide +kernel) (by decide +kernel), _, rfl, iteF (q _ sm)⟩
    | @lst a xs ds e h =>
      refine ⟨_, _, _, _, _, _, rfl, upd_same, cl, ty, kit2 (t := "list") (b1 := true) (b2 := false) (by decide +kernel) (by decide +kernel), _, rfl, iteT ⟨_, rfl, _, xs, rfl, .inl (SqL.of (sm _ _ e)), rfl, ?_⟩⟩
      rw [dec_int, h.len, show ((ds.length : Int) == 2) = isPairD (.list ds) from len_two ds]
      exact q _ sm
    | @tup a xs ds e h =>
      refine ⟨_, _, _, _, _, _, rfl, upd_same, cl, ty, kit2 (t := "tuple") (b1 := false) (b2 := true) (by decide +kernel) (by decide +kernel), _, rfl, iteT ⟨_, rfl, _, xs, rfl, .inr (SqT.of (sm _ _ e)), rfl, ?_⟩⟩
      rw [dec_int, h.len, show ((ds.length : Int) == 2) = isPairD (.tuple ds) from len_two ds]
      exact q _ sm
end
end K0
set_option Elab.async false
set_option linter.all false
set_option maxRecDepth 100000
set_option maxHeartbeats 2000000
/-! own error classes below Exception that store their arguments -/
namespace K0
open PySem PySem.Spec PyProof.Rows L2
/-- the classes behind the own ones -/
def tailOf : List Value → List Value
  | .ref _ :: r => tailOf r
  | l => l
abbrev exT : List Value := [.type "Exception", .type "BaseException", .type "object"]
theorem tail_refuse (self : Value) (wh : Str) : ∀ l : List Value, refuseLoop self wh l = refuseLoop self wh (tailOf l)
  | .ref C :: r => (refuseLoop_ref self wh C r).trans (tail_refuse self wh r)
  | [] => rfl
  | .none :: _ | .ellipsis :: _ | .notImplemented :: _ | .bool _ :: _ | .int _ _ :: _ | .float _ _ :: _ | .str _ _ :: _ | .bytes _ _ :: _ | .type _ :: _ | .builtin _ :: _ => rfl
theorem tail_has (Y : String) : ∀ l : List Value, l.contains (.type Y) = (tailOf l).contains (.type Y)
  | .ref C :: r => by
    rw [List.contains_cons, tail_has Y r]
    rfl
  | [] => rfl
  | .none :: _ | .ellipsis :: _ | .notImplemented :: _ | .bool _ :: _ | .int _ _ :: _ | .float _ _ :: _ | .str _ _ :: _ | .bytes _ _ :: _ | .type _ :: _ | .builtin _ :: _ => rfl
theorem tail_ne : ∀ l : List Value, tailOf l = exT → l.isEmpty = false
  | [], e => by cases e
  | _ :: _, _ => rfl
section
open Builtin Builtin.ObjectAttr PySem.HandSPX PySem.OEX
variable {prog : Program} {w : World} {A : Around} {R : Result → Shared → Prop} {hp : Heap} {g : Array GenState} {d : Drawn} {t : Nat} {os : OsState} {K : PySem.W.Frag} {name : Str} {tk : Tok} {v : Value} {x C : Addr} {fv : Array Value} {cd : ClassData}
/-- what is looked up ahead of a store to an exception of the class at C -/
structure Sto (prog : Program) (w : World) (K : PySem.W.Frag) (hp : Heap) (x C : Addr) (name : Str) (cd : ClassData) : Prop where
  ty : PySem.W.Looks (model prog w) hp (typeOf (.ref x)) (.ref C)
  sub : PySem.W.Looks (model prog w) hp (isInstance (.ref x) (.type "object")) true
  mro : PySem.W.Looks (model prog w) hp (mroOf (.ref C)) cd.mro
  cls : PySem.W.Looks (model prog w) hp (classData C) cd
  fnd : PySem.W.Looks (model prog w) hp (typeLookup (.ref C) name) none
  ref : ∀ self : Value, refuseLoop self "__setattr__" cd.mro = pure ()
theorem sto_of (X : K.In hp) {ox : Obj} {od : Option Obj} (I : PySem.W.InstAt hp x ox C od) (hcd : PySem.W.clsIn K C = some cd) (hm : tailOf cd.mro = exT) (ha : PySem.W.findIn K (.ref C) name = some none) : Sto prog w K hp x C name cd where
  ty := I.type
  sub := I.type.andThen (PySem.W.looks_mroIn X (by
    have h1 : cd.mro.contains (.type "object") = true := by rw [tail_has, hm]; decide +kernel
    unfold PySem.W.mroIn
    rw [hcd, Option.bind_some, if_neg (by rw [tail_ne _ hm]; decide), h1]))
  mro := (PySem.W.looks_clsIn X hcd).andThen .now
  cls := PySem.W.looks_clsIn X hcd
  fnd := PySem.W.looks_findIn X ha
  ref := fun self => by rw [tail_refuse, hm]; exact PySem.F.store_Exception.passes self
theorem osaE (S : Sto prog w K hp x C name cd) (hq : wpAny (model prog w) (A.in1) (storeInOwnDict (.ref x) (.ref C) (.str name tk) name v false) (fun fin s' => match fin with | .done f => R (.ok f) s' | .again c => c.quiet = true ∧ codeAny (model prog w) A c R s') (fun e s' => R (.error e) s') ⟨hp, g, d, t, os⟩) :
    codeAny (model prog w) A (.call (.builtin "object.__setattr__") ⟨[.ref x, .str name tk, v], []⟩) R ⟨hp, g, d, t, os⟩ := by
  have SF := PySem.F.store_object
  refine codeAny_call_builtin SF.slot.plain SF.entry (@PySem.W.check_slot (model prog w) _ _ ⟨hp, g, d, t, os⟩ "object.__setattr__" "object" "__setattr__" (.ref x) [.str name tk, v] [] _ SF.kind SF.split S.sub (SF.args (.ref x) (.str name tk) v) ?_)
  rw [PySem.W.osa_eq, refuse_eq]
  refine wpAny_bind (wpAny_bind (S.ty.at (wpAny_bind (S.mro.at ?_))))
  rw [S.ref]
  refine wpAny_pure (wpAny_bind (S.ty.at (wpAny_bind (S.fnd.at (wpAny_bind ((show PySem.W.Looks (model prog w) hp (storeTaker? none) none from .now).at ?_))))))
  exact hq
theorem osaE_new (X : K.In hp) (hx : hp.get? x = some { cls := .ref C, data := .fields fv }) (hcd : PySem.W.clsIn K C = some cd) (hm : tailOf cd.mro = exT) (hh : cd.hasDict = true) (ha : PySem.W.findIn K (.ref C) name = some none)
    (hq : ∀ h' tk' dx, (∀ b o, b ≠ x → hp.get? b = some o → h'.get? b = some o) → hp.objs.size ≤ dx → dx ≠ x → h'.get? x = some { cls := .ref C, dict := some dx, data := .fields fv } →
      h'.Ns1 dx (fun y => if y = name then some v else none) → R (.ok (.ret .none)) ⟨h', g, d, tk', os⟩) :
    codeAny (model prog w) A (.call (.builtin "object.__setattr__") ⟨[.ref x, .str name tk, v], []⟩) R ⟨hp, g, d, t, os⟩ := by
  have hxs : x ≠ hp.objs.size := Nat.ne_of_lt (Heap.lt_size hx)
  have S : Sto prog w K hp x C name cd := sto_of X (od := none) ⟨hx, rfl, rfl, trivial⟩ hcd hm ha
  refine osaE S ?_
  have hcls := S.cls
  obtain ⟨nm, bs, mro, ns, qn, hd, sn, sb, ab, col, del⟩ := cd
  dsimp only at hh
  subst hh
  unfold storeInOwnDict ownDictForStores
  repeat (first | with_reducible refine store_in_new ?_ ?_ | with_reducible refine wpAny_loadPart_at hx ?_ | with_reducible refine hcls.at ?_ | wp_step)
  · exact ⟨_, #[], _, (Heap.get?_update_ne _ _ _ _ hxs.symm).trans (Heap.get?_push_at rfl rfl), rfl, fun e he => absurd he (by simp), fun _ => rfl⟩
  · intro h' tk' hn' hs
    have hx1 : (hp.push { cls := .type "dict", data := .dict #[] }).get? x = some { cls := .ref C, data := .fields fv } := Heap.get?_push_of_some _ hx
    have old : ∀ b o, b ≠ x → hp.get? b = some o → h'.get? b = some o := fun b o hb ho =>
      (hs.2 b (Nat.ne_of_lt (Heap.lt_size ho))).trans ((Heap.get?_update_ne _ _ _ _ hb).trans (Heap.get?_push_of_some _ ho))
    exact hq h' tk' hp.objs.size old (Nat.le_refl _) hxs.symm ((hs.2 x hxs).trans (Heap.get?_update_self _ hx1 rfl)) hn'
theorem osaE_old {dx : Addr} {m0 : Str → Option Value} {nl : List Str} (X : K.In hp) (hx : hp.get? x = some { cls := .ref C, dict := some dx, data := .fields fv }) (hns : hp.Ns1 dx m0) (hw : Within m0 nl) (hz : nl.length ≤ 1000)
    (hcd : PySem.W.clsIn K C = some cd) (hm : tailOf cd.mro = exT) (hh : cd.hasDict = true) (ha : PySem.W.findIn K (.ref C) name = some none)
    (hq : ∀ h' tk', (∀ b o, b ≠ dx → hp.get? b = some o → h'.get? b = some o) → h'.Ns1 dx (fun y => if y = name then some v else m0 y) → R (.ok (.ret .none)) ⟨h', g, d, tk', os⟩) :
    codeAny (model prog w) A (.call (.builtin "object.__setattr__") ⟨[.ref x, .str name tk, v], []⟩) R ⟨hp, g, d, t, os⟩ := by
  obtain ⟨oD, esD, epD, hoD, hdD, _⟩ := hns.count hw
  have S : Sto prog w K hp x C name cd := sto_of X (od := some oD) ⟨hx, rfl, rfl, hoD⟩ hcd hm ha
  refine osaE S ?_
  have hcls := S.cls
  obtain ⟨nm, bs, mro, ns, qn, hd, sn, sb, ab, col, del⟩ := cd
  dsimp only at hh
  subst hh
  unfold storeInOwnDict ownDictForStores
  repeat (first | with_reducible refine store_in_old hns hw hz ?_ | with_reducible refine wpAny_loadPart_at hx ?_ | with_reducible refine hcls.at ?_ | wp_step)
  exact fun h' tk' hn' hs => hq h' tk' (fun b o hb ho => (hs.2 b hb).trans ho) hn'
end
/-! ### over the abstract heap -/
/-- what the written part says of such a class at C: its own names are not among fs -/
structure ErrC (K : PySem.W.Frag) (C : Addr) (fs : List Str) : Prop where
  cls : ∃ nm q N bs bm sn sub ab col dd k0 k1 k2 k3 k5, K.lookup C = some (excClassObj nm q C N bs bm true sn sub ab col dd k0 k1 k2 k3 k5 "Exception.__new__") ∧ (tailOf bm == exT) = true
  sa : PySem.W.findIn K (.ref C) "__setattr__" = some (some (.builtin "object.__setattr__"))
  ga : PySem.W.findIn K (.ref C) "__getattribute__" = some (some (.builtin "BaseException.__getattribute__"))
  gg : PySem.W.findIn K (.ref C) "__getattr__" = some none
  exC : PySem.W.subIn K (.ref C) (.type "BaseException") = some true
  tyC : PySem.W.typeIn K (.ref C) = some (.type "type")
  kC : PySem.W.keepIn K (.ref C) = true
  hd : PySem.W.hasDictIn K C = true
  no : ∀ f ∈ fs, PySem.W.findIn K (.ref C) f = some none
theorem ErrC.data {K : PySem.W.Frag} {C : Addr} {fs : List Str} (T : ErrC K C fs) : ∃ cd, PySem.W.clsIn K C = some cd ∧ tailOf cd.mro = exT ∧ cd.hasDict = true := by
  obtain ⟨nm, q, N, bs, bm, sn, sub, ab, col, dd, k0, k1, k2, k3, k5, hC, hbm⟩ := T.cls
  refine ⟨{ name := nm, bases := bs, mro := .ref C :: bm, ns := N, qualname := q, hasDict := true, slotNames := sn, subclasses := sub, abstract := ab, collection := col, hasDel := false }, ?_, beq_iff_eq.mp hbm, rfl⟩
  unfold PySem.W.clsIn
  rw [hC]
section
variable {X : Cx} {pins : List (Addr × Obj)} {σ : L2.St} {H : Hp} {s : Shared} {a C dx : Addr} {f : Str} {y : V} {u : Value} {fl : List Str} {fs : List (Str × V)} {Q : Unit → Shared → Prop} {E : Value → Shared → Prop} {A : Around}
/-- the first store: the exception gets its dict -/
theorem stE_new (T : ErrC X.K C fl) (I : Inv X pins σ H s) (e : H a = some (exo a C none)) (hno : f ∈ fl) (ry : RelV y u)
    (h : ∀ dx s', H dx = none → dx ≠ a → Inv X pins σ (upd (upd H dx (exd dx [(f, y)])) a (exo a C (some dx))) s' → Q () s') : wpAny (model X.prog X.w) A (setAttr (.ref a) f u) Q E s := by
  obtain ⟨cd, hcl, hm, hdd⟩ := T.data
  obtain ⟨t1, ho⟩ := exo_at I.hok e
  obtain ⟨hp, g, d, t, os⟩ := s
  refine PySem.W.set_plain I.kIn (ox := { cls := .ref C, dict := none, data := .fields #[.ref t1, .none, .none, .none, .bool false, .none] }) (od := none) ⟨ho, rfl, rfl, trivial⟩ T.sa ?_
  refine osaE_new I.kIn ho hcl hm hdd (T.no f hno) (fun h' tk' dx k dn dne hx hn => ?_)
  have hnd : H dx = none := I.hok.fresh dn
  have lt : ∀ {b : Addr} {o : Obj}, hp.get? b = some o → b ≠ dx := fun q => Nat.ne_of_lt (Nat.lt_of_lt_of_le (Heap.lt_size q) dn)
  have na : ∀ {b : Addr}, H b = none → b ≠ a := fun {b} n z => by rw [z, e] at n; cases n
  refine h dx _ hnd dne (I.un (t' := tk') { keep := fun b o q n _ _ => k b o (na n) q, slot := fun b o q n _ _ => ⟨o.slots, k b o (na n) q⟩, free := fun b o q n _ => ?_, there := fun b o q _ => ?_, tups := fun b xs q => ?_, frzs := fun b o v q => ?_, tbls := fun b ps q => ⟨#[], ?_⟩ } fun b o q => ?_)
  · rw [upd_ne (na n), upd_ne (lt q)]
    exact n
  · rcases Nat.decEq b a with hb | hb
    · exact ⟨o, k b o hb q⟩
    · exact ⟨_, by rw [hb]; exact hx⟩
  · rw [upd_ne (at_ne e q exo_tup), upd_ne (ne_of_none q hnd)]
    exact q
  · rw [upd_ne (at_ne e q exo_frz), upd_ne (ne_of_none q hnd)]
    exact q
  · rw [upd_ne (at_ne e q exo_tbl), upd_ne (ne_of_none q hnd), q]
    simp
  · by_cases hb : b = a
    · subst hb
      rw [upd_same] at q
      cases q
      exact exo_ok hx
    rw [upd_ne hb] at q
    by_cases hdx : b = dx
    · subst hdx
      rw [upd_same] at q
      cases q
      exact exd_ok hn (relO_put (fs := []) ry fun g => True.intro)
    rw [upd_ne hdx] at q
    refine (I.hok b o q).stay (fun c v hc z => k c v ?_ z) (fun c hc => ?_) (fun c xs hc => ?_)
    · rcases hc with hc | hc
      · rw [hc]; exact hb
      · exact at_ne e hc exo_own
    · rw [upd_ne (at_ne e hc exo_own), upd_ne (ne_of_none hc hnd)]
      exact hc
    · rw [upd_ne (at_ne e hc exo_tup), upd_ne (ne_of_none hc hnd)]
      exact hc
/-- a further store -/
theorem stE_old (T : ErrC X.K C fl) (I : Inv X pins σ H s) (e : H a = some (exo a C (some dx))) (ed : H dx = some (exd dx fs)) (hl : fs.length ≤ 900) (hno : f ∈ fl) (ry : RelV y u)
    (h : ∀ s', Inv X pins σ (upd H dx (exd dx ((f, y) :: fs))) s' → Q () s') : wpAny (model X.prog X.w) A (setAttr (.ref a) f u) Q E s := by
  obtain ⟨cd, hcl, hm, hdd⟩ := T.data
  obtain ⟨t1, ho⟩ := exo_at I.hok e
  obtain ⟨mA, hns, rel⟩ := exd_at I.hok ed
  have hw := within_of rel
  obtain ⟨hp, g, d, t, os⟩ := s
  obtain ⟨oD, _, _, hoD, _, _⟩ := hns.count hw
  refine PySem.W.set_plain I.kIn (ox := { cls := .ref C, dict := some dx, data := .fields #[.ref t1, .none, .none, .none, .bool false, .none] }) (od := some oD) ⟨ho, rfl, rfl, hoD⟩ T.sa ?_
  refine osaE_old I.kIn ho hns hw (by rw [List.length_map]; omega) hcl hm hdd (T.no f hno) (fun h' tk' k hn => ?_)
  have there : ∃ o, h'.get? dx = some o := by
    obtain ⟨o, _, _, e', _⟩ := hn
    exact ⟨o, e'⟩
  exact h _ (I.write (t' := tk') (x := dx) (e := dx) (o := exd dx ((f, y) :: fs)) (by rw [ed]; trivial) (.inl rfl) k there (exd_ok hn (relO_put ry rel)))
end
/-- self.f = e in the __init__ of such a class -/
def tStE (K : PySem.W.Frag) (fl : List Str) (f : Str) (to te : TE) : TS := fun D σ H => te σ H fun y H1 => to σ H1 fun x H2 => ∃ a C : Addr, x = .ref a ∧ ErrC K C fl ∧ f ∈ fl ∧
  ((H2 a = some (exo a C none) ∧ ∀ dx, H2 dx = none → dx ≠ a → D.nx σ (upd (upd H2 dx (exd dx [(f, y)])) a (exo a C (some dx)))) ∨
    ∃ (dx : Addr) (fs : List (Str × V)), H2 a = some (exo a C (some dx)) ∧ H2 dx = some (exd dx fs) ∧ fs.length ≤ 900 ∧ D.nx σ (upd H2 dx (exd dx ((f, y) :: fs))))
/-- C(e, ..): a new exception; behind it stand its class, its dict -/
def tMkE (C : Addr) (sp : Sp) (ta : TA) : L2.St → Hp → XK → Prop := fun σ H Q => ta σ H fun vs H1 => vs.length ≤ 1000 ∧ ∀ a, H1 a = none → sp (.ref a :: vs) (upd H1 a (exo a C none))
  (fun v H2 => v = .non ∧ ∃ (d : Addr) (fs : List (Str × V)), H2 a = some (exo a C (some d)) ∧ H2 d = some (exd d fs) ∧ H1 d = none ∧ Q (.ref C) (some d) (upd (del H2 a) d (.xd fs))) (fun _ _ _ => False)
section
variable {X : Cx} {o e : Expr} {es : List Expr} {to te : TE} {ta : TA} {f : Str} {p p' pos : Pos} {fl : List Str}
theorem ps_stE (ho : PE X o to) (he : PE X e te) (hs : swapsWith e (some (.Attribute o f p')) pos.line X.env = pure false := by rfl) : PS X (.Assign [.Attribute o f p'] e pos) (tStE X.K fl f to te) := by
  refine ⟨fun pins s σ H D I h => ?_⟩
  refine plainObj_wpAny_Assign_Attribute (thn (he.run pins s σ H _ I h) fun v s1 ⟨y, H1, I1, r1, q1⟩ => thn (ho.run pins s1 σ H1 _ I1 q1) fun u s2 ⟨x, H2, I2, r2, a, C, ex, T, hno, q⟩ => ?_) hs
  subst ex
  cases (show u = Value.ref a from r2)
  rcases q with ⟨ea, q⟩ | ⟨dx, fs, ea, ed, hl, q⟩
  · exact stE_new T I2 ea hno r1 fun dx s' n ne J => ⟨σ, _, J, q dx n ne⟩
  · exact stE_old T I2 ea ed hl hno r1 fun s' J => ⟨σ, _, J, q⟩
theorem pmk_E {CX : CXT} {x : Str} {C fI : Addr} {k : Nat} {fd : FuncData} {ps : List Str} {sp : Sp} (T : ErrC X.K C fl) (iC : PySem.W.findIn X.K (.ref C) "__init__" = some (some (.ref fI))) (tI : PySem.W.typeIn X.K (.ref fI) = some (.type "function"))
    (F1 : FnOk X.prog X.w X.K X.mg X.base CX k fI fd ps sp) (hr : Room (k + 1) X.A) (hb : Binds X.K fd ps []) (hx : Passes CX X (fun _ _ _ => False)) (hg : Gl X x) (hm : X.mg x = some (.ref C)) (ha : PA X (e :: es) ta)
    (hdb : (x == ("__debug__" : Str)) = false := by decide) (he : starEach (e :: es) X.env = (false, eval e X.env) :: starEach es X.env := by rfl) (hpl : (backTo pos (starEach es X.env)).any (·.1) = false := by rfl) :
    PMk X (.Call (.Name x p) (e :: es) [] pos) (tMkE C sp ta) := by
  intro pins s σ H Q I h
  obtain ⟨nm, q, N, bs, bm, sn, sub, ab, col, dd, k0, k1, k2, k3, k5, hC, hbm⟩ := T.cls
  have hbm' : tailOf bm = exT := beq_iff_eq.mp hbm
  refine wpAny_Call_Name_kw (ld_glob I hg hm ?_ hdb)
  refine PySem.W.callWith_K (h₀ := X.base) I.ok.mod.kin T.kC (thn (ha.run pos pins s σ H _ I h) fun us s1 ⟨vs, H1, I1, r1, hz, q1⟩ => ⟨I1.kIn, ?_⟩) he hpl
  show wpAny _ _ (call (.ref C) us) _ _ _
  obtain ⟨hp, g, dr, tk, os⟩ := s1
  have big : hp.objs.size ≤ hp.objs.size + 1 := Nat.le_succ _
  have hq := q1 (hp.objs.size + 1) (I1.hok.fresh big)
  have kk : ∀ b o, hp.get? b = some o → ((hp.push (PySem.W.kdv_tup us)).push (PySem.HandSPX.excO C hp.objs.size)).get? b = some o := fun b o e => Heap.get?_push_of_some _ (Heap.get?_push_of_some _ e)
  have hget : ((hp.push (PySem.W.kdv_tup us)).push (PySem.HandSPX.excO C hp.objs.size)).get? (hp.objs.size + 1) = some (PySem.HandSPX.excO C hp.objs.size) := by heap_get
  have I2 := I1.laid (t' := tk) (a := hp.objs.size + 1) (o := exo (hp.objs.size + 1) C none) (h' := (hp.push (PySem.W.kdv_tup us)).push (PySem.HandSPX.excO C hp.objs.size)) kk big (exo_ok hget)
  have r2 : Vals (V.ref (hp.objs.size + 1) :: vs) (Value.ref (hp.objs.size + 1) :: us) := .cons rfl r1
  have hl : (Value.ref (hp.objs.size + 1) :: us ++ []).length = ps.length := by
    rw [List.append_nil, ← r2.length]
    exact F1.len _ _ _ _ hq
  have hus : us.length ≤ sizeLine := by
    rw [← Paired.length r1, sizeLine_eq]
    omega
  have bnd := hb _ (Value.ref (hp.objs.size + 1) :: us) I2.kIn hl
  rw [List.append_nil] at bnd
  refine wpAny_call (PySem.HandSPX.call_own PySem.F.excBase_Exception (fun Y => (tail_has Y bm).trans (by rw [hbm'])) (I1.kIn _ _ hC) (PySem.W.looks_findIn I1.kIn iC) (fun self => PySem.W.bind_fn I1.kIn self tI) hus
    (codeAny_mono (F1.run _ X.stack _ _ ⟨Value.ref (hp.objs.size + 1) :: us, []⟩ (Value.ref (hp.objs.size + 1) :: us) _ _ (fun _ _ _ => False) (hr.make C us []) (I2.env0.make C us []) bnd r2 hq) fun r s' hq' => ?_))
  rcases r with er | fl'
  · exact hx pins σ _ _ er s' I2 hq'
  · cases fl' with
    | ret u =>
      obtain ⟨v, H2, os2, bare2, un2, hok2, rv, ev, d, fs, ea, ed, hd1, q2⟩ := hq'
      subst ev
      obtain ⟨h2, g2, d2, t2, os'⟩ := s'
      exact ⟨rv, mk_end (raises_own T.exC T.tyC) I1 big kk un2 hok2 os2 bare2 ea ed hd1 q2⟩
    | next => exact hq'.elim
    | brk => exact hq'.elim
    | cont => exact hq'.elim
/-- raise C(e, ..) -/
theorem ps_raiseE {CX : CXT} {W : WX} {x : Str} {C fI : Addr} {k : Nat} {fd : FuncData} {ps : List Str} {sp : Sp} {pos2 : Pos} (hc : X.calm = true) (tk : Takes X W) (T : ErrC X.K C fl) (iC : PySem.W.findIn X.K (.ref C) "__init__" = some (some (.ref fI))) (tI : PySem.W.typeIn X.K (.ref fI) = some (.type "function"))
    (F1 : FnOk X.prog X.w X.K X.mg X.base CX k fI fd ps sp) (hr : Room (k + 1) X.A) (hb : Binds X.K fd ps []) (hx : Passes CX X (fun _ _ _ => False)) (hg : Gl X x) (hm : X.mg x = some (.ref C)) (ha : PA X (e :: es) ta)
    (hdb : (x == ("__debug__" : Str)) = false := by decide) (he : starEach (e :: es) X.env = (false, eval e X.env) :: starEach es X.env := by rfl) (hpl : (backTo pos (starEach es X.env)).any (·.1) = false := by rfl) :
    PS X (.Raise (some (.Call (.Name x p) (e :: es) [] pos)) none pos2) (fun _ σ H => tMkE C sp ta σ H fun cls d H' => W cls d σ H') := ps_raise hc tk (pmk_E T iC tI F1 hr hb hx hg hm ha hdb he hpl)
end
end K0
set_option Elab.async false
set_option linter.all false
set_option maxRecDepth 100000
set_option maxHeartbeats 2000000
namespace K0
open PySem PySem.Spec PyProof.Rows L2
theorem PS_imp {X : Cx} {st : Stmt} {t t' : TS} (h : PS X st t) (i : ∀ D σ H, t' D σ H → t D σ H) : PS X st t' := ⟨fun pins s σ H D I q => h.run pins s σ H D I (i D σ H q)⟩
/-- a def that lets nothing out is one that may -/
theorem up0 {P : Program} {w : World} {K : PySem.W.Frag} {mg : Str → Option Value} {base : Heap} {CX : CXT} {k : Nat} {f : Addr} {fd : FuncData} {ps : List Str} {sp : Sp} (F : FnOk P w K mg base CX0 k f fd ps sp) : FnOk P w K mg base CX k f fd ps sp :=
  ⟨F.len, fun A outer s H args us vs Q E hr he hb hv hs => codeAny_mono (F.run A outer s H args us vs Q E hr he hb hv hs) fun r s' h => by
    cases r with
    | error e => exact False.elim h
    | ok fl => cases fl <;> exact h⟩
theorem passN {X : Cx} : Passes CX0 X (fun _ _ _ => False) := fun _ _ _ _ _ _ _ h => h.elim
theorem passUp {P : Program} {w : World} {K : PySem.W.Frag} {mg : Str → Option Value} {base : Heap} {N : List Str} {qual : Str} {sc : Scope} {f : Addr} {cd : Value} {A : Around} {outer : List Env} {s : Shared} {H : Hp} {E : XK} :
    Passes (L2.CX P w) (cxOf (L2.CX P w) P w K mg base N qual sc f cd A outer s H E) E := passes_call (takes_of rfl rfl rfl rfl) fun _ _ _ _ h => h
/-! ### the __init__ of an error with one, with two fields -/
abbrev s_e1 : Stmt := inClass (top 4) 0
abbrev s_eW : Stmt := inClass (top 5) 0
abbrev s_eT : Stmt := inClass (top 6) 0
def spE1 (C : Addr) (f : Str) : Sp := fun vs H Q _ => ∃ (a : Addr) (v : V), vs = [.ref a, v] ∧ H a = some (exo a C none) ∧ ∀ dx, H dx = none → dx ≠ a → Q .non (upd (upd H dx (exd dx [(f, v)])) a (exo a C (some dx)))
def spE2 (C : Addr) (f g : Str) : Sp := fun vs H Q _ => ∃ (a : Addr) (v u : V), vs = [.ref a, v, u] ∧ H a = some (exo a C none) ∧ ∀ dx, H dx = none → dx ≠ a → Q .non (upd (upd (upd H dx (exd dx [(f, v)])) a (exo a C (some dx))) dx (exd dx [(g, u), (f, v)]))
section
variable {P : Program} {w : World} {K : PySem.W.Frag} {mg : Str → Option Value} {base : Heap} {f C : Addr} {fd : FuncData}
theorem sc_e1 : FnScope ["self", "name"] ["self", "name"] (defScope s_e1) := ⟨rfl, rfl, rfl, by decide +kernel, rfl, by decide +kernel, by decide +kernel⟩
theorem ok_e1 (F : Fun K "__init__" "BadNumber.__init__" s_e1 f fd) (T : ErrC K C ["name"]) : FnOk P w K mg base CX0 1 f fd ["self", "name"] (spE1 C "name") := by
  refine F.ok sc_e1 (fun vs H Q E h => ?_) (fun cdv A outer s H vs Q E hr h => ?_)
  · obtain ⟨a, v, rfl, _⟩ := h
    rfl
  · obtain ⟨a, v, rfl, ha, q⟩ := h
    refine ⟨_, pss_one (ps_stE (fl := ["name"]) (pv 0) (pv 1)), ?_⟩
    exact ⟨_, rfl, _, rfl, a, C, rfl, T, by decide, .inl ⟨ha, fun dx n ne => q dx n ne⟩⟩
theorem sc_eT : FnScope ["self", "thing"] ["self", "thing"] (defScope s_eT) := ⟨rfl, rfl, rfl, by decide +kernel, rfl, by decide +kernel, by decide +kernel⟩
theorem ok_eT (F : Fun K "__init__" "BadThing.__init__" s_eT f fd) (T : ErrC K C ["thing"]) : FnOk P w K mg base CX0 1 f fd ["self", "thing"] (spE1 C "thing") := by
  refine F.ok sc_eT (fun vs H Q E h => ?_) (fun cdv A outer s H vs Q E hr h => ?_)
  · obtain ⟨a, v, rfl, _⟩ := h
    rfl
  · obtain ⟨a, v, rfl, ha, q⟩ := h
    refine ⟨_, pss_one (ps_stE (fl := ["thing"]) (pv 0) (pv 1)), ?_⟩
    exact ⟨_, rfl, _, rfl, a, C, rfl, T, by decide, .inl ⟨ha, fun dx n ne => q dx n ne⟩⟩
theorem sc_eW : FnScope ["self", "x", "y"] ["self", "x", "y"] (defScope s_eW) := ⟨rfl, rfl, rfl, by decide +kernel, rfl, by decide +kernel, by decide +kernel⟩
theorem ok_eW (F : Fun K "__init__" "BadWeb.__init__" s_eW f fd) (T : ErrC K C ["x", "y"]) : FnOk P w K mg base CX0 1 f fd ["self", "x", "y"] (spE2 C "x" "y") := by
  refine F.ok sc_eW (fun vs H Q E h => ?_) (fun cdv A outer s H vs Q E hr h => ?_)
  · obtain ⟨a, v, u, rfl, _⟩ := h
    rfl
  · obtain ⟨a, v, u, rfl, ha, q⟩ := h
    refine ⟨_, pss_cons (ps_stE (fl := ["x", "y"]) (pv 0) (pv 1)) (pss_one (ps_stE (fl := ["x", "y"]) (pv 0) (pv 2))), ?_⟩
    refine ⟨_, rfl, _, rfl, a, C, rfl, T, by decide, .inl ⟨ha, fun dx n ne => ?_⟩⟩
    exact ⟨_, rfl, _, rfl, a, C, rfl, T, by decide, .inr ⟨dx, _, upd_same, (by rw [upd_ne ne, upd_same]), (by show 1 ≤ 900; decide), q dx n ne⟩⟩
end
/-! ### raising them -/
/-- an error class with its __init__, as it stands behind the top -/
structure Er (P : Program) (w : World) (K : PySem.W.Frag) (mg : Str → Option Value) (base : Heap) (x : Str) (C : Addr) (fl ps : List Str) (sp : Sp) : Prop where
  T : ErrC K C fl
  g : mg x = some (.ref C)
  ex : ∃ (fI : Addr) (fd : FuncData), PySem.W.findIn K (.ref C) "__init__" = some (some (.ref fI)) ∧ PySem.W.typeIn K (.ref fI) = some (.type "function") ∧ FnOk P w K mg base CX0 1 fI fd ps sp ∧ Binds K fd ps []
section
variable {X : Cx} {e e2 : Expr} {te te2 : TE} {x f g : Str} {C : Addr} {W : WX} {p pos pos2 : Pos}
def tRz1 (C : Addr) (f : Str) (W : WX) (te : TE) : TS := fun _ σ H => te σ H fun v H1 => ∀ d, H1 d = none → W (.ref C) (some d) σ (upd H1 d (.xd [(f, v)]))
theorem ps_rz1 (hc : X.calm = true) (tk : Takes X W) (T : Er X.prog X.w X.K X.mg X.base x C [f] ["self", f] (spE1 C f)) (hr : Room 2 X.A) (hg : Gl X x) (he : PE X e te)
    (mono : ∀ σ H (Q Q' : VK), (∀ v H', Q v H' → Q' v H') → te σ H Q → te σ H Q')
    (hdb : (x == ("__debug__" : Str)) = false := by decide) (hs : starEach [e] X.env = (false, eval e X.env) :: starEach [] X.env := by rfl) (hpl : (backTo pos (starEach [] X.env)).any (·.1) = false := by rfl) :
    PS X (.Raise (some (.Call (.Name x p) [e] [] pos)) none pos2) (tRz1 C f W te) := by
  obtain ⟨fI, fd, i1, i2, F, b⟩ := T.ex
  refine PS_imp (ps_raiseE hc tk T.T i1 i2 F hr b passN hg T.g (pa_cons he pa_nil hs) hdb hs hpl) fun D σ H q => ?_
  refine mono σ H _ _ (fun v H1 q1 => ?_) q
  refine ⟨by show 1 ≤ 1000; decide, fun a ha => ⟨a, v, rfl, upd_same, fun dx n ne => ⟨rfl, dx, [(f, v)], upd_same, ?_, ?_, ?_⟩⟩⟩
  · rw [upd_ne ne, upd_same]
  · rw [upd_ne ne] at n
    exact n
  · have n' : H1 dx = none := by rw [upd_ne ne] at n; exact n
    have z := q1 dx n'
    have eq : upd (del (upd (upd (upd H1 a (exo a C none)) dx (exd dx [(f, v)])) a (exo a C (some dx))) a) dx (HO.xd [(f, v)]) = upd H1 dx (.xd [(f, v)]) := by
      funext b
      by_cases hb : b = dx
      · rw [hb, upd_same, upd_same]
      · rw [upd_ne hb, upd_ne hb]
        by_cases hba : b = a
        · rw [hba, del_same, ha]
        · rw [del_ne hba, upd_ne hba, upd_ne hb, upd_ne hba]
    rw [eq]
    exact z
def tRz2 (C : Addr) (f g : Str) (W : WX) (te te2 : TE) : TS := fun _ σ H => te σ H fun v H0 => te2 σ H0 fun u H1 => ∀ d, H1 d = none → W (.ref C) (some d) σ (upd H1 d (.xd [(g, u), (f, v)]))
theorem ps_rz2 (hc : X.calm = true) (tk : Takes X W) (T : Er X.prog X.w X.K X.mg X.base x C [f, g] ["self", f, g] (spE2 C f g)) (hr : Room 2 X.A) (hg : Gl X x) (he : PE X e te) (he2 : PE X e2 te2)
    (mono : ∀ σ H (Q Q' : VK), (∀ v H', Q v H' → Q' v H') → te σ H Q → te σ H Q') (mono2 : ∀ σ H (Q Q' : VK), (∀ v H', Q v H' → Q' v H') → te2 σ H Q → te2 σ H Q')
    (hdb : (x == ("__debug__" : Str)) = false := by decide) (hs : starEach [e, e2] X.env = (false, eval e X.env) :: starEach [e2] X.env := by rfl) (hs2 : starEach [e2] X.env = (false, eval e2 X.env) :: starEach [] X.env := by rfl) (hpl : (backTo pos (starEach [e2] X.env)).any (·.1) = false := by rfl) :
    PS X (.Raise (some (.Call (.Name x p) [e, e2] [] pos)) none pos2) (tRz2 C f g W te te2) := by
  obtain ⟨fI, fd, i1, i2, F, b⟩ := T.ex
  refine PS_imp (ps_raiseE hc tk T.T i1 i2 F hr b passN hg T.g (pa_cons he (pa_cons he2 pa_nil hs2) hs) hdb hs hpl) fun D σ H q => ?_
  refine mono σ H _ _ (fun v H0 q0 => mono2 σ H0 _ _ (fun u H1 q1 => ?_) q0) q
  refine ⟨by show 2 ≤ 1000; decide, fun a ha => ⟨a, v, u, rfl, upd_same, fun dx n ne => ⟨rfl, dx, [(g, u), (f, v)], ?_, upd_same, ?_, ?_⟩⟩⟩
  · rw [upd_ne ne.symm, upd_same]
  · rw [upd_ne ne] at n
    exact n
  · have n' : H1 dx = none := by rw [upd_ne ne] at n; exact n
    have z := q1 dx n'
    have eq : upd (del (upd (upd (upd (upd H1 a (exo a C none)) dx (exd dx [(f, v)])) a (exo a C (some dx))) dx (exd dx [(g, u), (f, v)])) a) dx (HO.xd [(g, u), (f, v)]) = upd H1 dx (.xd [(g, u), (f, v)]) := by
      funext b
      by_cases hb : b = dx
      · rw [hb, upd_same, upd_same]
      · rw [upd_ne hb, upd_ne hb]
        by_cases hba : b = a
        · rw [hba, del_same, ha]
        · rw [del_ne hba, upd_ne hb, upd_ne hba, upd_ne hb, upd_ne hba]
    rw [eq]
    exact z
end
theorem mono_var (i : Nat) : ∀ (σ : L2.St) (H : Hp) (Q Q' : VK), (∀ v H', Q v H' → Q' v H') → tVar i σ H Q → tVar i σ H Q' := fun _ _ _ _ h ⟨v, e, q⟩ => ⟨v, e, h _ _ q⟩
theorem mono_c (v : V) : ∀ (σ : L2.St) (H : Hp) (Q Q' : VK), (∀ v H', Q v H' → Q' v H') → tC v σ H Q → tC v σ H Q' := fun _ _ _ _ h q => h _ _ q
end K0
set_option Elab.async false
set_option linter.all false
set_option maxRecDepth 100000
set_option maxHeartbeats 2000000
namespace K0
open PySem PySem.Spec PyProof.Rows L2
abbrev s_check_number : Stmt := top 13
abbrev s_check_thing : Stmt := top 14
/-- a def of the program as it stands: its name, its promise -/
structure Df (P : Program) (w : World) (K : PySem.W.Frag) (mg : Str → Option Value) (base : Heap) (x : Str) (k : Nat) (ps : List Str) (sp : Sp) : Prop where
  ex : ∃ (f : Addr) (fd : FuncData), mg x = some (.ref f) ∧ PySem.W.keepIn K (.ref f) = true ∧ FnOk P w K mg base (L2.CX P w) k f fd ps sp ∧ Binds K fd ps []
/-- the call of such a def -/
theorem pe_df {X : Cx} {x : Str} {k : Nat} {ps : List Str} {sp : Sp} {E : XK} {e : Expr} {es : List Expr} {t : TA} {p pos : Pos} (T : Df X.prog X.w X.K X.mg X.base x k ps sp) (hr : Room k X.A) (hg : Gl X x) (hx : Passes (L2.CX X.prog X.w) X E) (ha : PA X (e :: es) t)
    (hdb : (x == ("__debug__" : Str)) = false := by decide) (he : starEach (e :: es) X.env = (false, eval e X.env) :: starEach es X.env := by rfl) (hpl : (backTo pos (starEach es X.env)).any (·.1) = false := by rfl) :
    PE X (.Call (.Name x p) (e :: es) [] pos) (tCall sp [] E t) := by
  obtain ⟨f, fd, g, kp, F, b⟩ := T.ex
  exact pe_call F hr hg g kp b .nil hx ha hdb he hpl
section
variable {P : Program} {w : World} {K : PySem.W.Frag} {mg : Str → Option Value} {base : Heap} {f : Addr} {fd : FuncData}
/-- a raise of the error at C, with these fields -/
def Rz (C : Addr) (fs : List (Str × V)) (H : Hp) (E : XK) : Prop := ∀ H' d, Same H H' → H' d = some (.xd fs) → E (.ref C) (some d) H'
theorem Rz.at {C : Addr} {fs : List (Str × V)} {H H1 : Hp} {E : XK} (r : Rz C fs H E) (s : Same H H1) {d : Addr} (n : H1 d = none) : E (.ref C) (some d) (upd H1 d (.xd fs)) := r _ d (s.trans (same_upd n)) upd_same
def isTh (n : Int) : PyData → Bool
  | .int i => decide (0 ≤ i ∧ i < n)
  | _ => false
def spTh : Sp := fun vs H Q _ => ∃ n v d, vs = [.int n, v] ∧ Dt H v d ∧ Ret (.bl (isTh n d)) H Q
theorem sc_th : FnScope ["many", "value"] ["many", "value"] (defScope s_is_thing) := ⟨rfl, rfl, rfl, by decide +kernel, rfl, by decide +kernel, by decide +kernel⟩
theorem ok_th (F : Fun K "is_thing" "is_thing" s_is_thing f fd) (I : Df P w K mg base "is_int" 1 ["value"] spInt) : FnOk P w K mg base (L2.CX P w) 2 f fd ["many", "value"] spTh := by
  refine F.okX sc_th (fun vs H Q E h => ?_) (fun cdv A outer s H vs Q E hr h => ?_)
  · obtain ⟨n, v, d, rfl, _⟩ := h
    rfl
  · obtain ⟨n, v, d, rfl, hv, q⟩ := h
    refine ⟨_, pss_one (ps_ret (pe_and (pe_df I hr (by rfl) passUp (pa_cons (pv 1) pa_nil)) (pe_one (pe_chain op_le op_lt pe_int (pv 1) (pv 0))))), ?_⟩
    refine ⟨_, rfl, v, d, rfl, hv, ?_⟩
    cases hv with
    | int i =>
      refine ⟨_, rfl, iteT ⟨_, rfl, _, _, rfl, rfl, _, rfl, ?_⟩⟩
      by_cases h0 : 0 ≤ i
      · rw [decide_eq_true h0]
        refine iteT ⟨_, rfl, _, _, rfl, rfl, ?_⟩
        have e : isTh n (.int i) = decide (i < n) := by
          show decide (0 ≤ i ∧ i < n) = decide (i < n)
          simp [h0]
        rw [e] at q
        exact q.now
      · rw [decide_eq_false h0]
        have e : isTh n (.int i) = false := by
          show decide (0 ≤ i ∧ i < n) = false
          simp [h0]
        rw [e] at q
        exact iteF q.now
    | non => exact ⟨_, rfl, iteF q.now⟩
    | bl b => exact ⟨_, rfl, iteF q.now⟩
    | str b => exact ⟨_, rfl, iteF q.now⟩
    | lst e h => exact ⟨_, rfl, iteF q.now⟩
    | tup e h => exact ⟨_, rfl, iteF q.now⟩
/-- check_thing: the thing itself, or BadThing of it -/
def spCt (C : Addr) : Sp := fun vs H Q E => ∃ n v d, vs = [.int n, v] ∧ Dt H v d ∧ (isTh n d = true → Ret v H Q) ∧ (isTh n d = false → Rz C [("thing", v)] H E)
theorem sc_ct : FnScope ["many", "thing"] ["many", "thing"] (defScope s_check_thing) := ⟨rfl, rfl, rfl, by decide +kernel, rfl, by decide +kernel, by decide +kernel⟩
theorem ok_ct {C : Addr} (F : Fun K "check_thing" "check_thing" s_check_thing f fd) (I : Df P w K mg base "is_thing" 2 ["many", "value"] spTh) (T : Er P w K mg base "BadThing" C ["thing"] ["self", "thing"] (spE1 C "thing")) :
    FnOk P w K mg base (L2.CX P w) 3 f fd ["many", "thing"] (spCt C) := by
  refine F.okX sc_ct (fun vs H Q E h => ?_) (fun cdv A outer s H vs Q E hr h => ?_)
  · obtain ⟨n, v, d, rfl, _⟩ := h
    rfl
  · obtain ⟨n, v, d, rfl, hv, q1, q2⟩ := h
    refine ⟨_, pss_cons (ps_if (pt_not (pt_val (pe_df I hr (by rfl) passUp (pa_cons (pv 0) (pa_cons (pv 1) pa_nil)))))
      (pss_one (ps_rz1 rfl (takes_of rfl rfl rfl rfl) T hr (by rfl) (pv 1) (mono_var 1))) pss_nil) (pss_one (ps_ret (pv 1))), ?_⟩
    refine ⟨_, rfl, _, rfl, n, v, d, rfl, hv, fun H' sm => ⟨_, rfl, ?_⟩⟩
    cases e : isTh n d with
    | true => exact iteF ⟨_, rfl, q1 e H' sm⟩
    | false => exact iteT ⟨_, rfl, fun dd nd => (q2 e).at sm nd⟩
end
end K0
set_option Elab.async false
set_option linter.all false
set_option maxRecDepth 100000
set_option maxHeartbeats 2000000
namespace K0
open PySem PySem.Spec PyProof.Rows L2
section
variable {P : Program} {w : World} {K : PySem.W.Frag} {mg : Str → Option Value} {base : Heap} {f : Addr} {fd : FuncData}
/-- check_number(value, name, least): the value, or BadNumber of the name -/
def okN (l : Int) : PyData → Bool
  | .int i => decide (l ≤ i)
  | _ => false
def spCn (C : Addr) : Sp := fun vs H Q E => ∃ (v : V) (d : PyData) (x : Str) (l : Int), vs = [v, .str x, .int l] ∧ Dt H v d ∧ (okN l d = true → Q v H) ∧ (okN l d = false → Rz C [("name", .str x)] H E)
theorem sc_cn : FnScope ["value", "name", "least"] ["value", "name", "least"] (defScope s_check_number) := ⟨rfl, rfl, rfl, by decide +kernel, rfl, by decide +kernel, by decide +kernel⟩
theorem ok_cn {C : Addr} (F : FunD K "check_number" "check_number" (defArgs s_check_number) (defBody s_check_number) (defScope s_check_number) [.int 0] [] f fd) (I : Df P w K mg base "is_int" 1 ["value"] spInt) (T : Er P w K mg base "BadNumber" C ["name"] ["self", "name"] (spE1 C "name")) :
    FnOk P w K mg base (L2.CX P w) 3 f fd ["value", "name", "least"] (spCn C) := by
  refine F.ok sc_cn (fun vs H Q E h => ?_) (fun cdv A outer s H vs Q E hr h => ?_)
  · obtain ⟨v, d, x, l, rfl, _⟩ := h
    rfl
  · obtain ⟨v, d, x, l, rfl, hv, q1, q2⟩ := h
    have hr1 : Room 1 _ := hr.mono (by decide)
    refine ⟨_, pss_cons (ps_if (PW.pt (pw_or (pt_not (pt_val (pe_df I hr1 (by rfl) passUp (pa_cons (pv 0) pa_nil)))) (pw_or1 (pt_cmpR op_lt (pv 0) (pv 2) (nomark _)))))
      (pss_one (ps_rz1 rfl (takes_of rfl rfl rfl rfl) T hr (by rfl) (pv 1) (mono_var 1))) pss_nil) (pss_one (ps_ret (pv 0))), ?_⟩
    refine ⟨_, rfl, v, d, rfl, hv, _, rfl, ?_⟩
    cases hv with
    | int i =>
      refine iteF ⟨_, rfl, _, rfl, _, _, rfl, rfl, _, rfl, ?_⟩
      by_cases c : i < l
      · rw [decide_eq_true c]
        have e : okN l (.int i) = false := by
          show decide (l ≤ i) = false
          simp [c]
        exact iteT ⟨_, rfl, fun dd nd => (q2 e).at (Same.refl _) nd⟩
      · rw [decide_eq_false c]
        have e : okN l (.int i) = true := by
          show decide (l ≤ i) = true
          simp
          omega
        exact iteF ⟨_, rfl, q1 e⟩
    | non => exact iteT ⟨_, rfl, fun dd nd => (q2 rfl).at (Same.refl _) nd⟩
    | bl b => exact iteT ⟨_, rfl, fun dd nd => (q2 rfl).at (Same.refl _) nd⟩
    | str b => exact iteT ⟨_, rfl, fun dd nd => (q2 rfl).at (Same.refl _) nd⟩
    | lst e h => exact iteT ⟨_, rfl, fun dd nd => (q2 rfl).at (Same.refl _) nd⟩
    | tup e h => exact iteT ⟨_, rfl, fun dd nd => (q2 rfl).at (Same.refl _) nd⟩
/-- the default of least -/
theorem cn_binds (F : FunD K "check_number" "check_number" (defArgs s_check_number) (defBody s_check_number) (defScope s_check_number) [.int 0] [] f fd) : ∃ ds, Vals [V.int 0] ds ∧ Binds K fd ["value", "name", "least"] ds :=
  F.binds1 2 0 (by simp) (by rfl) fun T kV doc pm an cdv ct us its hu hi => match us, hu, its, hi with | [_, _], _, [_], _ => ⟨_, rfl, rfl⟩
theorem th_int {n : Int} {H : Hp} {v : V} {d : PyData} (h : Dt H v d) (t : isTh n d = true) : ∃ i, v = .int i ∧ d = .int i ∧ 0 ≤ i ∧ i < n := by
  cases h with
  | int i =>
    have z : 0 ≤ i ∧ i < n := of_decide_eq_true t
    exact ⟨i, rfl, rfl, z⟩
  | non => cases t
  | bl b => cases t
  | str b => cases t
  | lst e h => cases t
  | tup e h => cases t
end
end K0
set_option Elab.async false
set_option linter.all false
set_option maxRecDepth 100000
set_option maxHeartbeats 2000000
/-! a set of tuples of ints that grows item by item -/
namespace K0
open PySem PySem.Spec PyProof.Rows L2
section
variable {X : Cx}
theorem cr_setT0 : CallR X (.type "set") (fun xs H Q => xs = [] ∧ ∀ p, H p = none → Q (.ref p) (upd H p (SetTO X.prog X.w p []))) := by
  intro pins s σ H xs us Q I r h
  obtain ⟨rfl, q⟩ := h
  cases r
  refine setR_new fun _ => ?_
  have get : (s.heap.push { cls := .type "set", dict := none, data := .set #[] 0 (.fresh 0 0 (!X.w.params.followText "set-order")) }).get? s.heap.objs.size = some { cls := .type "set", dict := none, data := .set #[] 0 (.fresh 0 0 (!X.w.params.followText "set-order")) } := Heap.get?_push_size _ rfl
  have R := setTR_fresh (P := X.prog) (w := X.w) get
  exact ⟨.ref _, _, I.laid (t' := s.toks) (fun b u e => Heap.get?_push_of_some _ e) (Nat.le_refl _) (setTO_new R.t0), rfl, q _ (I.hok.fresh (Nat.le_refl _))⟩
/-- what is asked ahead of found.add(t) -/
def rTAdd (K : PySem.W.Frag) (P : Program) (w : World) : V → List V → Hp → VK → Prop := fun x xs H Q => ∃ (a b : Addr) (k : List Int) (L : List (Addr × List Int)), x = V.ref a ∧ xs = [V.ref b] ∧ H a = some (SetTO P w a L) ∧
  (∀ p ∈ L, SqT K H p.1 (p.2.map V.int)) ∧ SqT K H b (k.map V.int) ∧ L.length + 1 < 64 ∧
  ∀ L', (k ∈ L.map (·.2) → L' = L) → (k ∉ L.map (·.2) → L'.Perm ((b, k) :: L)) → Q .non (upd H a (SetTO P w a L'))
theorem mt_tadd (hu : X.A.units + 64 < cLine) : MtR X "set.add" (rTAdd X.K X.prog X.w) := by
  intro pins s σ H x xs v us Q I rx rxs h
  obtain ⟨a, b, k, L, rfl, rfl, ha, hL, hb, few, q⟩ := h
  cases rx
  rw [Vals.ref1 rxs]
  have R0 : SetT0 X.prog X.w s.heap a L := (I.hok a _ ha).1
  obtain ⟨es, ep, t, R⟩ := R0.full fun p hp => I.isT (hL p hp)
  obtain ⟨o, ho, hex, hd⟩ := R.ob
  have tid : s.TypeIs (.ref a) "set" := ⟨o, ho, hex.1⟩
  refine wpAny_call_entry PySem.F.slot_set_add tid PySem.F.entry_set_add ?_ (PySem.F.args_set_add_2 _ _)
  unfold Builtin.«set.add» Builtin.Frozenset.oneOther
  simp only [List.isEmpty_nil, bind_assoc]
  unfold Builtin.Frozenset.addrOf setAdd
  refine wpAny_bind (wpAny_pure ?_)
  try dsimp only
  refine wpAny_bind (wpAny_pure ?_)
  try dsimp only
  refine wpAny_bind ?_
  refine wpAny_holding ?_
  have hx := I.isT hb
  have hin : ∀ B : Around, B.units ≤ X.A.units + 8 → B.units < cLine := fun B h => by omega
  refine wpAny_bind (wpAny_pyHash_tuple (ks := k) (hin _ ?_) hx ?_)
  · first | exact Nat.le_add_right _ 8 | (show X.A.units + 1 ≤ X.A.units + 8; omega)
  refine add_at (s := { s with toks := s.toks + (k.length + 1) }) R hx (hin _ ?_) few fun bb h' L' es' ep' t' hsb hS2 c1 c2 => ?_
  case _ => first | exact Nat.le_add_right _ 8 | (show X.A.units + 1 ≤ X.A.units + 8; omega)
  show wpAny _ _ (ret Value.none) _ _ _
  have he : ∃ u, h'.get? a = some u := by
    obtain ⟨o2, ho2, _⟩ := hS2.ob
    exact ⟨o2, ho2⟩
  exact wpAny_pure ⟨_, rfl, .non, _, I.write (e := a) (t' := s.toks + (k.length + 1)) (by rw [ha]; trivial) (.inl rfl) (fun b u hb hu => (hsb.2 b hb).trans hu) he (setTO_new hS2.t0), rfl, q L' c1 c2⟩
def tTAdd (K : PySem.W.Frag) (P : Program) (w : World) (to : TE) (t : TA) : TE := fun σ H Q => to σ H fun x H1 => (∃ a L, x = V.ref a ∧ H1 a = some (SetTO P w a L)) ∧ t σ H1 fun xs H2 => rTAdd K P w x xs H2 Q
variable {o e : Expr} {es : List Expr} {to : TE} {t : TA} {apos cpos : Pos}
theorem pe_tadd (hu : X.A.units + 64 < cLine) (ho : PE X o to) (ha : PA X (e :: es) t)
    (hbase : attributeBase o "add" X.env (eval o X.env) = eval o X.env := by rfl)
    (hfew : ((backTo cpos (starEach (e :: es) X.env)).all (fun x => !x.1) && (backToKw cpos (keywordEach [] X.env)).all (fun x => x.1.isSome) && decide ((e :: es).length + ([] : List Keyword).length + (if ([] : List Keyword).isEmpty then 0 else 1) < 30)) = true := by rfl)
    (hline : (apos.endLine == cpos.line) = true := by rfl) (hs : starEach (e :: es) X.env = (false, eval e X.env) :: starEach es X.env := by rfl) (hplain : (backTo cpos (starEach es X.env)).any (·.1) = false := by rfl) :
    PE X (.Call (.Attribute o "add" apos) (e :: es) [] cpos) (tTAdd X.K X.prog X.w to t) := by
  refine ⟨fun pins s σ H Q I h => ?_⟩
  refine wpAny_Call_method_late hbase hfew hline rfl (thn (ho.run pins s σ H _ I h) fun v s1 ⟨x, H1, I1, r1, ty, q1⟩ => ?_)
  obtain ⟨a, L, rfl, hka⟩ := ty
  obtain ⟨es', ep', t', ⟨ob, hob, hex, hdd⟩, _⟩ := SetT0.ex (I1.hok a _ hka).1
  cases r1
  refine ⟨"set", "set.add", PySem.F.plainAttrs_set, PySem.F.slot_set_add, PySem.F.type_set_add, ⟨ob, hob, hex.1⟩, (fun z hz => by cases hz; exact ⟨ob, hob, hex.2.1⟩), ?_⟩
  have hA := ha.run cpos pins s1 σ H1 _ I1 q1
  rw [hs] at hA ⊢
  refine Calls.callWith_builtin (by show (false || (backTo cpos (starEach es X.env)).any (·.1)) = false; rw [hplain]; rfl) (Calls.evalArgs_plain ?_)
  exact thn hA fun us s2 ⟨vs, H2, I2, r2, q2⟩ => mt_tadd hu pins s2 σ H2 (.ref a) vs (.ref a) us Q I2 rfl r2 q2
end
end K0
set_option Elab.async false
set_option linter.all false
set_option maxRecDepth 100000
set_option maxHeartbeats 2000000
namespace K0
open PySem PySem.Spec PyProof.Rows L2
/-! ### plain facts -/
theorem bor_nat (a b : Nat) : Builtin.bitOr (a : Int) (b : Int) = ((a ||| b : Nat) : Int) := by
  have h1 : ¬ 0 ≤ Builtin.bitNot (a : Int) := by unfold Builtin.bitNot; omega
  have h2 : ¬ 0 ≤ Builtin.bitNot (b : Int) := by unfold Builtin.bitNot; omega
  have n : ∀ c : Nat, Builtin.bitNot (Builtin.bitNot (c : Int)) = (c : Int) := fun c => by unfold Builtin.bitNot; omega
  unfold Builtin.bitOr
  rw [bitAnd_nn h1 h2, n, n, n, Int.toNat_natCast, Int.toNat_natCast]
theorem len_sub {α : Type} [DecidableEq α] : ∀ (l m : List α), l.Nodup → (∀ x ∈ l, x ∈ m) → l.length ≤ m.length
  | [], _, _, _ => Nat.zero_le _
  | a :: l, m, hn, hs => by
    have ha : a ∈ m := hs a List.mem_cons_self
    obtain ⟨hna, hnl⟩ := List.nodup_cons.mp hn
    have ih := len_sub l (m.erase a) hnl fun x hx => (List.mem_erase_of_ne (fun e => hna (by rw [← e]; exact hx))).mpr (hs x (List.mem_cons_of_mem _ hx))
    rw [List.length_erase_of_mem ha] at ih
    have := List.length_pos_of_mem ha
    rw [List.length_cons]
    omega
/-! ### pairs -/
abbrev Pr := Int × Int
/-- below, as tuples are -/
def plt (p q : Pr) : Prop := p.1 < q.1 ∨ (p.1 = q.1 ∧ p.2 < q.2)
theorem plt_trans {p q r : Pr} (h : plt p q) (h' : plt q r) : plt p r := by unfold plt at *; omega
theorem plt_irrefl {p : Pr} : ¬ plt p p := by unfold plt; omega
theorem plt_asymm {p q : Pr} (h : plt p q) : ¬ plt q p := by unfold plt at *; omega
theorem srt_unique : ∀ {l m : List Pr}, l.Pairwise plt → m.Pairwise plt → (∀ x, x ∈ l ↔ x ∈ m) → l = m
  | [], [], _, _, _ => rfl
  | [], b :: m, _, _, h => by cases (h b).mpr List.mem_cons_self
  | a :: l, [], _, _, h => by cases (h a).mp List.mem_cons_self
  | a :: l, b :: m, hl, hm, h => by
    obtain ⟨al, ll⟩ := List.pairwise_cons.mp hl
    obtain ⟨bm, mm⟩ := List.pairwise_cons.mp hm
    have e : a = b := by
      rcases List.mem_cons.mp ((h a).mp List.mem_cons_self) with e | e
      · exact e
      rcases List.mem_cons.mp ((h b).mpr List.mem_cons_self) with e2 | e2
      · exact e2.symm
      exact absurd (al b e2) (plt_asymm (bm a e))
    subst e
    rw [srt_unique ll mm fun x => ⟨fun hx => ?_, fun hx => ?_⟩]
    · rcases List.mem_cons.mp ((h x).mp (List.mem_cons_of_mem _ hx)) with e | e
      · rw [e] at hx
        exact absurd (al a hx) plt_irrefl
      · exact e
    · rcases List.mem_cons.mp ((h x).mpr (List.mem_cons_of_mem _ hx)) with e | e
      · rw [e] at hx
        exact absurd (bm a hx) plt_irrefl
      · exact e
/-- all pairs x < y < n stand among these -/
def code8 : List Pr := (List.range 16).flatMap fun (x : Nat) => ((List.range 16).filter fun (y : Nat) => decide (x < y)).map fun (y : Nat) => ((x : Int), (y : Int))
theorem code8_len : code8.length = 120 := by decide +kernel
theorem mem_code8 {p : Pr} (h : 0 ≤ p.1 ∧ p.1 < p.2 ∧ p.2 < 16) : p ∈ code8 := by
  obtain ⟨x, y⟩ := p
  obtain ⟨h1, h2, h3⟩ := h
  obtain ⟨a, rfl⟩ := Int.eq_ofNat_of_zero_le h1
  obtain ⟨b, rfl⟩ := Int.eq_ofNat_of_zero_le (show (0 : Int) ≤ y by omega)
  unfold code8
  refine List.mem_flatMap.mpr ⟨a, List.mem_range.mpr (by omega), List.mem_map.mpr ⟨b, List.mem_filter.mpr ⟨List.mem_range.mpr (by omega), decide_eq_true (by omega)⟩, rfl⟩⟩
/-- a row of clashes as a web holds it -/
structure Cl (n : Int) (q : List Pr) : Prop where
  srt : q.Pairwise plt
  rng : ∀ p ∈ q, 0 ≤ p.1 ∧ p.1 < p.2 ∧ p.2 < n
theorem pairwise_nodup {l : List Pr} (h : l.Pairwise plt) : l.Nodup := List.Pairwise.imp (R := plt) (S := fun a b => a ≠ b) (fun {a b} hab e => plt_irrefl (p := b) (by rw [e] at hab; exact hab)) h
theorem few28 {n : Int} {q : List Pr} (hn : n ≤ 16) (nd : q.Nodup) (rng : ∀ p ∈ q, 0 ≤ p.1 ∧ p.1 < p.2 ∧ p.2 < n) : q.length ≤ 120 := by
  rw [← code8_len]
  exact len_sub q code8 nd fun p hp => mem_code8 ⟨(rng p hp).1, (rng p hp).2.1, Int.lt_of_lt_of_le (rng p hp).2.2 hn⟩
theorem Cl.few {n : Int} {q : List Pr} (h : Cl n q) (hn : n ≤ 16) : q.length ≤ 120 := few28 hn (pairwise_nodup h.srt) h.rng
/-! ### what an entry of clashes is worth -/
def pairOf : PyData → Option (PyData × PyData)
  | .list [x, y] => some (x, y)
  | .tuple [x, y] => some (x, y)
  | _ => none
def entOf (n : Int) (d : PyData) : Except (PyData × PyData) Pr :=
  match pairOf d with
  | none => .error (.none, .none)
  | some (.int x, .int y) => if 0 ≤ x ∧ x < n ∧ 0 ≤ y ∧ y < n ∧ x ≠ y then .ok (min x y, max x y) else .error (.int x, .int y)
  | some (x, y) => .error (x, y)
/-- all entries, or the first bad one -/
def entsOf (n : Int) : List PyData → Except (PyData × PyData) (List Pr)
  | [] => .ok []
  | d :: r => match entOf n d with
    | .error e => .error e
    | .ok p => match entsOf n r with
      | .error e => .error e
      | .ok ps => .ok (p :: ps)
theorem entsOf_app {n : Int} : ∀ {ds es : List PyData} {ps : List Pr}, entsOf n ds = .ok ps → entsOf n (ds ++ es) = (match entsOf n es with | .error e => .error e | .ok qs => .ok (ps ++ qs))
  | [], es, ps, h => by
    cases h
    show entsOf n es = _
    cases entsOf n es <;> rfl
  | d :: r, es, ps, h => by
    rw [entsOf] at h
    rw [List.cons_append, entsOf]
    cases e : entOf n d with
    | error x => rw [e] at h; cases h
    | ok p =>
      rw [e] at h
      dsimp only at h ⊢
      cases e2 : entsOf n r with
      | error x => rw [e2] at h; cases h
      | ok qs =>
        rw [e2] at h
        cases h
        rw [entsOf_app e2]
        cases entsOf n es <;> rfl
theorem entOf_rng {n : Int} {d : PyData} {p : Pr} (h : entOf n d = .ok p) : 0 ≤ p.1 ∧ p.1 < p.2 ∧ p.2 < n := by
  unfold entOf at h
  split at h
  · cases h
  · split at h
    · cases h
      dsimp only
      omega
    · cases h
  · cases h
theorem pairOf_is (d : PyData) : isPairD d = (pairOf d).isSome := by
  unfold isPairD pairOf
  cases d with
  | list xs =>
    match xs with
    | [] => rfl
    | [_] => rfl
    | [_, _] => rfl
    | _ :: _ :: _ :: r => simp
  | tuple xs =>
    match xs with
    | [] => rfl
    | [_] => rfl
    | [_, _] => rfl
    | _ :: _ :: _ :: r => simp
  | _ => rfl
end K0
set_option Elab.async false
set_option linter.all false
set_option maxRecDepth 100000
set_option maxHeartbeats 2000000
namespace K0
open PySem PySem.Spec PyProof.Rows L2
abbrev s_cc : Stmt := top 19
theorem pi_or {X : Cx} {tg it : Expr} {w1 w2 : TI} (h1 : PI X tg it w1) (h2 : PI X tg it w2) : PI X tg it (fun σ H R => w1 σ H R ∨ w2 σ H R) := ⟨fun pins s σ H R I h => h.elim (h1.run pins s σ H R I) (h2.run pins s σ H R I)⟩
theorem pg_or {X : Cx} {tg : Expr} {w1 w2 : TG} (h1 : PG X tg w1) (h2 : PG X tg w2) : PG X tg (fun v σ H Q => w1 v σ H Q ∨ w2 v σ H Q) := ⟨fun pins s σ H v u Q I r h => h.elim (h1.run pins s σ H v u Q I r) (h2.run pins s σ H v u Q I r)⟩
/-- a list or tuple of data, or the () that the program was loaded with -/
inductive Sq (K : PySem.W.Frag) (H : Hp) (a : Addr) (ds : List PyData) : Prop where
  | lst {xs : List V} (e : H a = some (.lst xs)) (h : DtAll H xs ds)
  | tup {xs : List V} (e : H a = some (.tup xs)) (h : DtAll H xs ds)
  | kon (e : ∀ H' : Hp, SqT K H' a []) (z : ds = [])
theorem Sq.mono {K : PySem.W.Frag} {H H' : Hp} (s : Same H H') {a : Addr} {ds : List PyData} : Sq K H a ds → Sq K H' a ds
  | .lst e h => .lst (s _ _ e) (h.mono s)
  | .tup e h => .tup (s _ _ e) (h.mono s)
  | .kon e z => .kon e z
def prD (p : Pr) : PyData := .tuple [.int p.1, .int p.2]
theorem dt_pr {H : Hp} {t : Addr} {p : Pr} (h : H t = some (.tup [.int p.1, .int p.2])) : Dt H (.ref t) (prD p) := .tup h (.cons (.int _) (.cons (.int _) .nil))
theorem dtAll_prs {H : Hp} : ∀ {l : List (Addr × Pr)}, (∀ z ∈ l, H z.1 = some (.tup [.int z.2.1, .int z.2.2])) → DtAll H (l.map fun z => V.ref z.1) (l.map fun z => prD z.2)
  | [], _ => .nil
  | z :: r, h => .cons (dt_pr (h z List.mem_cons_self)) (dtAll_prs fun y hy => h y (List.mem_cons_of_mem _ hy))
section
variable {P : Program} {w : World} {K : PySem.W.Frag} {mg : Str → Option Value} {base : Heap} {f : Addr} {fd : FuncData}
structure Blt2 (mg : Str → Option Value) : Prop extends Blt mg where
  set : mg "set" = none
  min : mg "min" = none
  max : mg "max" = none
  sorted : mg "sorted" = none
  range : mg "range" = none
  enum : mg "enumerate" = none
  repr : mg "repr" = none
  iter : mg "iter" = none
/-- a new tuple of the pairs q -/
def NewQ (q : List Pr) (H : Hp) (Q : VK) : Prop := ∀ H' a xs, Same H H' → H a = none → H' a = some (.tup xs) → (∃ l : List (Addr × Pr), xs = l.map (fun z => V.ref z.1) ∧ q = l.map (·.2) ∧ ∀ z ∈ l, H z.1 = none ∧ H' z.1 = some (.tup [.int z.2.1, .int z.2.2])) → Q (.ref a) H'
/-- checked_clashes: the clashes as a web holds them, or BadWeb of the first bad entry -/
def spCC (K : PySem.W.Frag) (C : Addr) : Sp := fun vs H Q E => ∃ n a ds, vs = [.int n, .ref a] ∧ n ≤ 16 ∧ ds.length ≤ 62 ∧ Sq K H a ds ∧
  (∀ ps, entsOf n ds = .ok ps → ∀ q, Cl n q → (∀ p, p ∈ q ↔ p ∈ ps) → NewQ q H Q) ∧
  (∀ x y, entsOf n ds = .error (x, y) → ∀ H' d vx vy, Same H H' → Dt H' vx x → Dt H' vy y → H' d = some (.xd [("y", vy), ("x", vx)]) → E (.ref C) (some d) H')
/-- behind some items: the set at s holds the pairs ps, its tuples at their places -/
structure Sofar (P : Program) (w : World) (H0 H : Hp) (s : Addr) (n : Int) (ps : List Pr) : Prop where
  same : Same H0 H
  new : H0 s = none
  set : ∃ L : List (Addr × List Int), H s = some (SetTO P w s L) ∧ (L.map (·.2)).Nodup ∧ (∀ z ∈ L, H0 z.1 = none ∧ H z.1 = some (.tup (z.2.map V.int)) ∧ ∃ p ∈ ps, z.2 = [p.1, p.2]) ∧ ∀ p ∈ ps, ([p.1, p.2] : List Int) ∈ L.map (·.2)
theorem pair_at {H : Hp} {v : V} {d dx dy : PyData} (h : Dt H v d) (e : pairOf d = some (dx, dy)) : ∃ a vx vy, v = .ref a ∧ (H a = some (.tup [vx, vy]) ∨ H a = some (.lst [vx, vy])) ∧ Dt H vx dx ∧ Dt H vy dy := by
  cases h with
  | @lst a xs ds ea h =>
    match ds, h, e with
    | [_, _], .cons h1 (.cons h2 .nil), e =>
      cases e
      exact ⟨a, _, _, rfl, .inr ea, h1, h2⟩
  | @tup a xs ds ea h =>
    match ds, h, e with
    | [_, _], .cons h1 (.cons h2 .nil), e =>
      cases e
      exact ⟨a, _, _, rfl, .inl ea, h1, h2⟩
  | non => cases e
  | bl b => cases e
  | int i => cases e
  | str x => cases e
theorem Sofar.start {H : Hp} {s : Addr} {n : Int} (ns : H s = none) : Sofar P w H (upd H s (SetTO P w s [])) s n [] :=
  ⟨same_upd ns, ns, [], upd_same, List.nodup_nil, fun z hz => (by cases hz), fun p hp => (by cases hp)⟩
theorem Sofar.far {H0 H H1 : Hp} {s : Addr} {n : Int} {ps : List Pr} (h : Sofar P w H0 H s n ps) (e : Same H H1) : Sofar P w H0 H1 s n ps := by
  obtain ⟨L, h1, h2, h3, h4⟩ := h.set
  exact ⟨h.same.trans e, h.new, L, e _ _ h1, h2, fun z hz => ⟨(h3 z hz).1, e _ _ (h3 z hz).2.1, (h3 z hz).2.2⟩, h4⟩
/-- the set holds few -/
theorem Sofar.few {H0 H : Hp} {s : Addr} {n : Int} {ps : List Pr} {L : List (Addr × List Int)} (nd : (L.map (·.2)).Nodup) (hL : ∀ z ∈ L, ∃ p ∈ ps, z.2 = [p.1, p.2]) : L.length ≤ ps.length := by
  let g : Addr × List Int → Pr := fun z => (z.2.getD 0 0, z.2.getD 1 0)
  have hg : ∀ z ∈ L, g z ∈ ps ∧ z.2 = [(g z).1, (g z).2] := fun z hz => by
    obtain ⟨p, hp, e⟩ := hL z hz
    have eg : g z = p := by
      show (z.2.getD 0 0, z.2.getD 1 0) = p
      rw [e]
      rfl
    rw [eg]
    exact ⟨hp, e⟩
  have nd2 : (L.map g).Nodup := by
    refine List.pairwise_map.mpr ?_
    refine List.Pairwise.imp_of_mem (fun {a b} ha hb hne e => ?_) (List.pairwise_map.mp nd)
    refine hne ?_
    rw [(hg a ha).2, (hg b hb).2, e]
  have := len_sub (L.map g) ps nd2 fun p hp => by
    obtain ⟨z, hz, e⟩ := List.mem_map.mp hp
    rw [← e]
    exact (hg z hz).1
  rw [List.length_map] at this
  exact this
theorem Sofar.add {H0 H : Hp} {s b : Addr} {n : Int} {ps : List Pr} {p : Pr} {L L' : List (Addr × List Int)} (hS : H0 s = none) (sm : Same H0 H) (h1 : H s = some (SetTO P w s L)) (h2 : (L.map (·.2)).Nodup)
    (h3 : ∀ z ∈ L, H0 z.1 = none ∧ H z.1 = some (.tup (z.2.map V.int)) ∧ ∃ p ∈ ps, z.2 = [p.1, p.2]) (h4 : ∀ p ∈ ps, ([p.1, p.2] : List Int) ∈ L.map (·.2)) (hb : H0 b = none) (hbt : H b = some (.tup [.int p.1, .int p.2]))
    (c1 : ([p.1, p.2] : List Int) ∈ L.map (·.2) → L' = L) (c2 : ([p.1, p.2] : List Int) ∉ L.map (·.2) → L'.Perm ((b, [p.1, p.2]) :: L)) : Sofar P w H0 (upd H s (SetTO P w s L')) s n (ps ++ [p]) := by
  have sm2 : Same H0 (upd H s (SetTO P w s L')) := fun c o e => by
    rw [upd_ne (ne_of_none e hS)]
    exact sm c o e
  have tup_ne : ∀ {c : Addr} {xs : List V}, H c = some (.tup xs) → c ≠ s := fun {c xs} e z => by
    rw [z, h1] at e
    cases e
  by_cases m : ([p.1, p.2] : List Int) ∈ L.map (·.2)
  · have e := c1 m
    subst e
    refine ⟨sm2, hS, _, upd_same, h2, fun z hz => ?_, fun q hq => ?_⟩
    · obtain ⟨a1, a2, q, hq, a3⟩ := h3 z hz
      exact ⟨a1, by rw [upd_ne (tup_ne a2)]; exact a2, q, List.mem_append_left _ hq, a3⟩
    · rcases List.mem_append.mp hq with hq | hq
      · exact h4 q hq
      · rw [List.mem_singleton.mp hq]
        exact m
  · have pm := c2 m
    refine ⟨sm2, hS, _, upd_same, ?_, fun z hz => ?_, fun q hq => ?_⟩
    · refine (pm.map (·.2)).nodup_iff.mpr ?_
      rw [List.map_cons]
      exact List.nodup_cons.mpr ⟨m, h2⟩
    · rcases List.mem_cons.mp (pm.mem_iff.mp hz) with e | hz
      · rw [e]
        exact ⟨hb, by rw [upd_ne (tup_ne hbt)]; exact hbt, p, List.mem_append_right _ (List.mem_singleton.mpr rfl), rfl⟩
      · obtain ⟨a1, a2, q, hq, a3⟩ := h3 z hz
        exact ⟨a1, by rw [upd_ne (tup_ne a2)]; exact a2, q, List.mem_append_left _ hq, a3⟩
    · rw [(pm.map (·.2)).mem_iff, List.map_cons]
      rcases List.mem_append.mp hq with hq | hq
      · exact List.mem_cons_of_mem _ (h4 q hq)
      · rw [List.mem_singleton.mp hq]
        exact List.mem_cons_self
/-- what is sorted at the end -/
theorem Sofar.fin {n : Int} {ps : List Pr} {L L' : List (Addr × List Int)} (hn : n ≤ 16) (rng : ∀ p ∈ ps, 0 ≤ p.1 ∧ p.1 < p.2 ∧ p.2 < n) (hL : ∀ z ∈ L, ∃ p ∈ ps, z.2 = [p.1, p.2]) (all : ∀ p ∈ ps, ([p.1, p.2] : List Int) ∈ L.map (·.2)) (pm : L'.Perm L)
    (nd : (L'.map (·.2)).Nodup) (ord : L'.Pairwise fun q r => TS.code 64 q.2 ≤ TS.code 64 r.2) :
    ∃ l : List (Addr × Pr), L' = l.map (fun z => (z.1, [z.2.1, z.2.2])) ∧ Cl n (l.map (·.2)) ∧ ∀ p, p ∈ l.map (·.2) ↔ p ∈ ps := by
  let g : Addr × List Int → Addr × Pr := fun z => (z.1, z.2.getD 0 0, z.2.getD 1 0)
  have hg : ∀ z ∈ L', (g z).2 ∈ ps ∧ z = ((g z).1, [(g z).2.1, (g z).2.2]) := fun z hz => by
    obtain ⟨p, hp, e⟩ := hL z (pm.mem_iff.mp hz)
    have eg : (g z).2 = p := by
      show (z.2.getD 0 0, z.2.getD 1 0) = p
      rw [e]
      rfl
    refine ⟨by rw [eg]; exact hp, ?_⟩
    rw [eg, ← e]
  have mem : ∀ p, p ∈ (L'.map g).map (·.2) ↔ p ∈ ps := fun p => by
    rw [List.map_map]
    constructor
    · intro hp
      obtain ⟨z, hz, e⟩ := List.mem_map.mp hp
      rw [← e]
      exact (hg z hz).1
    · intro hp
      obtain ⟨z, hz, e⟩ := List.mem_map.mp (all p hp)
      refine List.mem_map.mpr ⟨z, pm.mem_iff.mpr hz, ?_⟩
      show (z.2.getD 0 0, z.2.getD 1 0) = p
      rw [e]
      rfl
  refine ⟨L'.map g, ?_, ⟨?_, fun p hp => rng p ((mem p).mp hp)⟩, mem⟩
  · rw [List.map_map]
    refine (List.map_congr_left fun z hz => ?_).trans (List.map_id _) |>.symm
    exact ((hg z hz).2).symm
  · rw [List.map_map]
    refine List.pairwise_map.mpr ?_
    have both := ord.and (List.pairwise_map.mp nd)
    refine List.Pairwise.imp_of_mem (fun {a b} ha hb hab => ?_) both
    obtain ⟨h1, h2⟩ := hab
    obtain ⟨ra, ea⟩ := hg a ha
    obtain ⟨rb, eb⟩ := hg b hb
    have r1 := rng _ ra
    have r2 := rng _ rb
    rw [ea, eb] at h1 h2
    have z := pair_lt h1 h2 (by omega) (by omega) (by omega) (by omega)
    exact z
end
end K0
set_option Elab.async false
set_option linter.all false
set_option maxRecDepth 100000
set_option maxHeartbeats 4000000
namespace K0
open PySem PySem.Spec PyProof.Rows L2
section
variable {P : Program} {w : World} {K : PySem.W.Frag} {mg : Str → Option Value} {base : Heap} {f : Addr} {fd : FuncData}
theorem sc_cc : FnScope ["many", "clashes", "pairs", "pair", "x", "y"] ["many", "clashes"] (defScope s_cc) := ⟨rfl, rfl, rfl, by decide +kernel, rfl, by decide +kernel, by decide +kernel⟩
theorem take_at {α : Type} {l : List α} {i : Nat} {x : α} (h : l[i]? = some x) : l.take (i + 1) = l.take i ++ [x] := by
  rw [List.take_succ, h]
  rfl
theorem drop_at {α : Type} {l : List α} {i : Nat} {x : α} (h : l[i]? = some x) : l = l.take i ++ x :: l.drop (i + 1) := by
  obtain ⟨hi, e⟩ := List.getElem?_eq_some_iff.mp h
  rw [← e, ← List.drop_eq_getElem_cons hi, List.take_append_drop]
theorem ents_bad {n : Int} {ds : List PyData} {i : Nat} {d : PyData} {ps : List Pr} {x y : PyData} (h1 : entsOf n (ds.take i) = .ok ps) (hd : ds[i]? = some d) (e : entOf n d = .error (x, y)) : entsOf n ds = .error (x, y) := by
  rw [drop_at hd, entsOf_app h1, entsOf, e]
theorem ents_good {n : Int} {ds : List PyData} {i : Nat} {d : PyData} {ps : List Pr} {p : Pr} (h1 : entsOf n (ds.take i) = .ok ps) (hd : ds[i]? = some d) (e : entOf n d = .ok p) : entsOf n (ds.take (i + 1)) = .ok (ps ++ [p]) := by
  rw [take_at hd, entsOf_app h1, entsOf, e]
  rfl
theorem ents_rng {n : Int} : ∀ {ds : List PyData} {ps : List Pr}, entsOf n ds = .ok ps → ∀ p ∈ ps, 0 ≤ p.1 ∧ p.1 < p.2 ∧ p.2 < n
  | [], ps, h => by
    cases h
    exact fun p hp => by cases hp
  | d :: r, ps, h => by
    rw [entsOf] at h
    cases e : entOf n d with
    | error x => rw [e] at h; cases h
    | ok q =>
      rw [e] at h
      dsimp only at h
      cases e2 : entsOf n r with
      | error x => rw [e2] at h; cases h
      | ok qs =>
        rw [e2] at h
        cases h
        intro p hp
        rcases List.mem_cons.mp hp with hp | hp
        · rw [hp]; exact entOf_rng e
        · exact ents_rng e2 p hp
/-- a loop over a list or tuple of data that the body leaves as it is -/
theorem ents_len {n : Int} : ∀ {ds : List PyData} {ps : List Pr}, entsOf n ds = .ok ps → ps.length = ds.length
  | [], ps, h => by
    cases h
    rfl
  | d :: r, ps, h => by
    rw [entsOf] at h
    cases e : entOf n d with
    | error x => rw [e] at h; cases h
    | ok q =>
      rw [e] at h
      dsimp only at h
      cases e2 : entsOf n r with
      | error x => rw [e2] at h; cases h
      | ok qs =>
        rw [e2] at h
        cases h
        rw [List.length_cons, List.length_cons, ents_len e2]
theorem tfor_sq {K : PySem.W.Frag} {i : Nat} {a : Addr} {ds : List PyData} {g : TG} {tb : TS} {D : Ends} {σ : L2.St} {H H0 : Hp} (hv : σ[i]? = some (some (.ref a))) (h : Sq K H0 a ds) (Pv : Nat → L2.St → Hp → Prop) (h0 : Pv 0 σ H)
    (hl : ∀ j σ H', Pv j σ H' → ∀ o, H0 a = some o → H' a = some o)
    (hs : ∀ j v d σ H', ds[j]? = some d → Dt H0 v d → Pv j σ H' → g v σ H' fun σ2 H2 => tb { D with nx := Pv (j + 1), ct := Pv (j + 1), bk := D.nx } σ2 H2) (hd : ∀ σ H', Pv ds.length σ H' → D.nx σ H') :
    tFor (fun σ H R => iList K (tVar i) σ H R ∨ iTup K (tVar i) σ H R) g tb D σ H := by
  cases h with
  | @lst xs e h =>
    refine .inl ⟨_, hv, a, rfl, ⟨xs, SqL.of (hl 0 _ _ h0 _ e)⟩, for_list (K := K) (a := a) (xs := xs) Pv h0 (fun j σ H' _ p => SqL.of (hl j σ H' p _ e)) (fun j v σ H' hj p => ?_) (fun σ H' p => ?_)⟩
    · obtain ⟨d, hd, hdt⟩ := h.at hj
      exact hs j v d σ H' hd hdt p
    · rw [h.len] at p
      exact hd σ H' p
  | @tup xs e h =>
    refine .inr ⟨_, hv, a, rfl, ⟨xs, SqT.of (hl 0 _ _ h0 _ e)⟩, for_tup (K := K) (a := a) (xs := xs) Pv h0 (fun j σ H' _ p => SqT.of (hl j σ H' p _ e)) (fun j v σ H' hj p => ?_) (fun σ H' p => ?_)⟩
    · obtain ⟨d, hd, hdt⟩ := h.at hj
      exact hs j v d σ H' hd hdt p
    · rw [h.len] at p
      exact hd σ H' p
  | kon e z =>
    refine .inr ⟨_, hv, a, rfl, ⟨[], e _⟩, for_tup (K := K) (a := a) (xs := []) Pv h0 (fun j σ H' _ p => e _) (fun j v σ H' hj p => ?_) (fun σ H' p => ?_)⟩
    · cases hj
    · rw [z] at hd
      exact hd σ H' p
theorem entOf_ok {n : Int} {d : PyData} {p : Pr} (h : entOf n d = .ok p) : ∃ i k, pairOf d = some (.int i, .int k) ∧ (0 ≤ i ∧ i < n) ∧ (0 ≤ k ∧ k < n) ∧ i ≠ k := by
  unfold entOf at h
  split at h
  · cases h
  · rename_i x y e
    split at h
    · rename_i c
      exact ⟨x, y, e, ⟨c.1, c.2.1⟩, ⟨c.2.2.1, c.2.2.2.1⟩, c.2.2.2.2⟩
    · cases h
  · cases h
theorem entOf_err {n : Int} {d x y : PyData} (e : pairOf d = some (x, y)) (no : ∀ p, entOf n d ≠ .ok p) : entOf n d = .error (x, y) := by
  cases q : entOf n d with
  | ok p => exact absurd q (no p)
  | error z =>
    unfold entOf at q
    rw [e] at q
    split at q
    · rename_i w; cases w
    · rename_i w
      cases w
      split at q
      · cases q
      · exact q.symm
    · rename_i w
      cases w
      exact q.symm
theorem min2 (x y : Int) : (if y < x then y else x) = min x y := by omega
theorem max2 (x y : Int) : (if y > x then y else x) = max x y := by omega
theorem ok_cc {C : Addr} (F : Fun K "checked_clashes" "checked_clashes" s_cc f fd) (B : Blt2 mg) (IP : Df P w K mg base "is_pair" 1 ["value"] spPair) (TH : Df P w K mg base "is_thing" 2 ["many", "value"] spTh)
    (T : Er P w K mg base "BadWeb" C ["x", "y"] ["self", "x", "y"] (spE2 C "x" "y")) : FnOk P w K mg base (L2.CX P w) 3 f fd ["many", "clashes"] (spCC K C) := by
  refine F.okX sc_cc (fun vs H Q E h => ?_) (fun cdv A outer s H vs Q E hr h => ?_)
  · obtain ⟨n, a, ds, rfl, _⟩ := h
    rfl
  · obtain ⟨n, a, ds, rfl, hn, h62, hs, kq, ke⟩ := h
    have hr1 : Room 1 _ := hr.mono (by decide)
    have hu := hr.units
    have nd := sc_cc.nd
    refine ⟨_, pss_cons (ps_set (i := 2) nd rfl (.inl rfl) (pe_callTy0 cr_setT0 (by rfl) B.set (by decide +kernel)))
      (pss_cons (ps_for (passes_of rfl) rfl (pi_or (pi_list (pv 1)) (pi_tup (pv 1))) (pg_name (i := 3) nd rfl (.inl rfl))
        (pss_cons (ps_if (pt_not (pt_val (pe_df IP hr1 (by rfl) passUp (pa_cons (pv 3) pa_nil)))) (pss_one (ps_rz2 rfl (takes_of rfl rfl rfl rfl) T hr (by rfl) pe_non pe_non (mono_c .non) (mono_c .non))) pss_nil)
        (pss_cons (ps_asg (pv 3) (pg_or (pg_tup rfl (pgs_cons (pg_name (i := 4) nd rfl (.inl rfl)) (pgs_cons (pg_name (i := 5) nd rfl (.inl rfl)) pgs_nil))) (pg_unl rfl (pgs_cons (pg_name (i := 4) nd rfl (.inl rfl)) (pgs_cons (pg_name (i := 5) nd rfl (.inl rfl)) pgs_nil)))))
        (pss_cons (ps_if (PW.pt (pw_or (pt_not (pt_val (pe_df TH hr (by rfl) passUp (pa_cons (pv 0) (pa_cons (pv 4) pa_nil))))) (pw_or (pt_not (pt_val (pe_df TH hr (by rfl) passUp (pa_cons (pv 0) (pa_cons (pv 5) pa_nil))))) (pw_or1 (pt_cmpR op_eq (pv 4) (pv 5) (nomark _))))))
            (pss_one (ps_rz2 rfl (takes_of rfl rfl rfl rfl) T hr (by rfl) (pv 4) (pv 5) (mono_var 4) (mono_var 5))) pss_nil)
        (pss_one (ps_expr (pe_tadd hu (pv 2) (pa_cons (pe_tup (pa_cons (pe_callB (call_min2 rfl) (by rfl) B.min (by decide +kernel) (pa_cons (pv 4) (pa_cons (pv 5) pa_nil))) (pa_cons (pe_callB (call_max2 rfl) (by rfl) B.max (by decide +kernel) (pa_cons (pv 4) (pa_cons (pv 5) pa_nil))) pa_nil))) pa_nil))))))))
      (pss_one (ps_ret (pe_callTy call_tuple_of (by rfl) B.tuple (by decide +kernel) (pa_cons (pe_callB (cr_sortedT rfl) (by rfl) B.sorted (by decide +kernel) (pa_cons (pv 2) pa_nil)) pa_nil))))), ?_⟩
    refine ⟨rfl, fun s0 ns => ?_⟩
    -- the loop's word
    let Pv : Nat → L2.St → Hp → Prop := fun i σ H' => ∃ o3 o4 o5 ps, σ = [some (.int n), some (.ref a), some (.ref s0), o3, o4, o5] ∧ entsOf n (ds.take i) = .ok ps ∧ Sofar P w H H' s0 n ps
    have h0 : Pv 0 [some (.int n), some (.ref a), some (.ref s0), none, none, none] (upd H s0 (SetTO P w s0 [])) := ⟨none, none, none, [], rfl, rfl, Sofar.start ns⟩
    have sm0 : Same H (upd H s0 (SetTO P w s0 [])) := same_upd ns
    refine tfor_sq rfl hs Pv h0 (fun j σ H' p o e => ?_) (fun j v d σ H' hj hv p => ?_) (fun σ H' p => ?_)
    · obtain ⟨_, _, _, ps, _, _, S⟩ := p
      exact S.same _ _ e
    · obtain ⟨o3, o4, o5, ps, rfl, hps, S⟩ := p
      have hvH : Dt H' v d := hv.mono S.same
      refine ⟨_, rfl, v, d, rfl, hvH, fun H1 s1 => ⟨_, rfl, ?_⟩⟩
      cases ep : pairOf d with
      | none =>
        rw [pairOf_is, ep]
        refine iteT fun dd nd' => ?_
        have eb : entOf n d = .error (.none, .none) := by unfold entOf; rw [ep]
        exact ke .none .none (ents_bad hps hj eb) _ dd .non .non ((S.same.trans s1).trans (same_upd nd')) .non .non upd_same
      | some xy =>
        obtain ⟨dx, dy⟩ := xy
        rw [pairOf_is, ep]
        refine iteF ?_
        have S1 := S.far s1
        obtain ⟨b, vx, vy, rfl, hb, hx, hy⟩ := pair_at (hvH.mono s1) ep
        refine ⟨_, rfl, ?_⟩
        have un : ∀ (Q : L2.St → Hp → Prop), Q [some (.int n), some (.ref a), some (.ref s0), some (.ref b), some vx, some vy] H1 → (gTup K 2 (gCons (gName 4) (gCons (gName 5) gNil)) (.ref b) [some (.int n), some (.ref a), some (.ref s0), some (.ref b), o4, o5] H1 Q ∨ gUnl K 2 (gCons (gName 4) (gCons (gName 5) gNil)) (.ref b) [some (.int n), some (.ref a), some (.ref s0), some (.ref b), o4, o5] H1 Q) := fun Q q => by
          rcases hb with hb | hb
          · exact .inl ⟨b, _, rfl, SqT.of hb, rfl, vx, _, rfl, vy, _, rfl, rfl, q⟩
          · exact .inr ⟨b, _, rfl, SqL.of hb, rfl, vx, _, rfl, vy, _, rfl, rfl, q⟩
        refine un _ ?_
        -- the first is a thing?
        have bad : (∀ p, entOf n d ≠ .ok p) → ∀ H2 dd, Same H1 H2 → H2 dd = none → E (.ref C) (some dd) (upd H2 dd (.xd [("y", vy), ("x", vx)])) := fun no H2 dd s2 nd' => by
          have eb := entOf_err ep no
          have s3 := s2.trans (same_upd (o := .xd [("y", vy), ("x", vx)]) nd')
          exact ke dx dy (ents_bad hps hj eb) _ dd vx vy (S1.same.trans s3) (hx.mono s3) (hy.mono s3) upd_same
        refine ⟨_, rfl, _, rfl, n, vx, dx, rfl, hx, fun H2 s2 => ⟨_, rfl, ?_⟩⟩
        cases tx : isTh n dx with
        | false =>
          refine iteT ⟨_, rfl, _, rfl, fun dd nd' => bad (fun p e => ?_) _ dd s2 nd'⟩
          obtain ⟨i, k, e1, c1, c2, c3⟩ := entOf_ok e
          rw [ep] at e1
          cases e1
          rw [show isTh n (.int i) = true from decide_eq_true c1] at tx
          cases tx
        | true =>
          obtain ⟨i, rfl, rfl, hi⟩ := th_int hx tx
          refine iteF ⟨_, rfl, _, rfl, n, vy, dy, rfl, hy.mono s2, fun H3 s3 => ⟨_, rfl, ?_⟩⟩
          have s23 := s2.trans s3
          cases ty : isTh n dy with
          | false =>
            refine iteT ⟨_, rfl, _, rfl, fun dd nd' => bad (fun p e => ?_) _ dd s23 nd'⟩
            obtain ⟨i', k, e1, c1, c2, c3⟩ := entOf_ok e
            rw [ep] at e1
            cases e1
            rw [show isTh n (.int k) = true from decide_eq_true c2] at ty
            cases ty
          | true =>
            obtain ⟨k, rfl, rfl, hk⟩ := th_int hy ty
            refine iteF ⟨_, rfl, _, rfl, rfl, _, rfl, ?_⟩
            rw [dec_int]
            cases eq : (i == k) with
            | true =>
              refine iteT ⟨_, rfl, _, rfl, fun dd nd' => bad (fun p e => ?_) _ dd s23 nd'⟩
              obtain ⟨i', k', e1, c1, c2, c3⟩ := entOf_ok e
              rw [ep] at e1
              cases e1
              exact c3 (beq_iff_eq.mp eq)
            | false =>
              have ne : i ≠ k := fun z => by rw [z] at eq; simp at eq
              have eo : entOf n d = .ok (min i k, max i k) := by
                unfold entOf
                rw [ep]
                dsimp only
                rw [if_pos ⟨hi.1, hi.2, hk.1, hk.2, ne⟩]
              have S3 := S1.far s23
              obtain ⟨L, l1, l2, l3, l4⟩ := S3.set
              refine iteF ⟨_, rfl, ⟨s0, L, rfl, l1⟩, ?_⟩
              refine ⟨_, rfl, _, rfl, _, _, rfl, _, rfl, _, rfl, _, _, rfl, (by show 2 ≤ sizeLine; decide), fun t nt => ?_⟩
              rw [min2, max2]
              have s4 : Same H3 (upd H3 t (.tup [.int (min i k), .int (max i k)])) := same_upd nt
              have rng := ents_rng hps
              have few := Sofar.few (H0 := H) (H := H3) (s := s0) (n := n) l2 (fun z hz => (l3 z hz).2.2)
              have elen := ents_len hps
              rw [List.length_take] at elen
              refine ⟨s0, t, [min i k, max i k], L, rfl, rfl, s4 _ _ l1, fun z hz => SqT.of (s4 _ _ (l3 z hz).2.1), SqT.of upd_same, by omega, fun L' c1 c2 => ?_⟩
              refine ⟨_, _, _, ps ++ [(min i k, max i k)], rfl, ents_good hps hj eo, ?_⟩
              exact Sofar.add (p := (min i k, max i k)) S3.new (S3.same.trans s4) (s4 _ _ l1) l2 (fun z hz => ⟨(l3 z hz).1, s4 _ _ (l3 z hz).2.1, (l3 z hz).2.2⟩) l4 ((S3.same).free nt) upd_same c1 c2
    · obtain ⟨o3, o4, o5, ps, rfl, hps, S⟩ := p
      rw [List.take_length] at hps
      obtain ⟨L, l1, l2, l3, l4⟩ := S.set
      have rng := ents_rng hps
      refine ⟨_, rfl, s0, L, 2, 64, rfl, l1, fun z hz => SqT.of (l3 z hz).2.1, by decide, fun z hz => ?_, fun L' p pm nd' _ ord np => ?_⟩
      · obtain ⟨p, hp, e⟩ := (l3 z hz).2.2
        have := rng p hp
        rw [e]
        refine ⟨rfl, fun m hm => ?_⟩
        simp only [List.mem_cons, List.not_mem_nil, or_false] at hm
        omega
      · refine ⟨p, _, rfl, .inl ⟨SqL.of upd_same, fun l nl => ?_⟩⟩
        obtain ⟨ll, e1, hq, hmem⟩ := Sofar.fin hn rng (fun z hz => (l3 z hz).2.2) l4 pm nd' ord
        have s5 : Same H' (upd H' p (.lst (L'.map fun q => V.ref q.1))) := same_upd np
        have s6 := s5.trans (same_upd (o := .tup (L'.map fun q => V.ref q.1)) nl)
        refine kq ps hps _ hq hmem _ l (L'.map fun q => V.ref q.1) (S.same.trans s6) ((S.same.trans s5).free nl) upd_same ⟨ll, ?_, rfl, fun z hz => ?_⟩
        · rw [e1, List.map_map]
          rfl
        · have hz' : (z.1, [z.2.1, z.2.2]) ∈ L := pm.mem_iff.mp (by rw [e1]; exact List.mem_map.mpr ⟨z, hz, rfl⟩)
          have := l3 _ hz'
          exact ⟨this.1, s6 _ _ this.2.1⟩
end
end K0
set_option Elab.async false
set_option linter.all false
set_option maxRecDepth 100000
set_option maxHeartbeats 4000000
namespace K0
open PySem PySem.Spec PyProof.Rows L2
/-! ### masks -/
def mStep (ms : List Nat) (p : Pr) : List Nat :=
  let ms1 := ms.set p.1.toNat (ms.getD p.1.toNat 0 ||| 2 ^ p.2.toNat)
  ms1.set p.2.toNat (ms1.getD p.2.toNat 0 ||| 2 ^ p.1.toNat)
def mOf (n : Nat) (q : List Pr) : List Nat := q.foldl mStep (List.replicate n 0)
theorem mStep_len (ms : List Nat) (p : Pr) : (mStep ms p).length = ms.length := by simp [mStep]
theorem mFold_len : ∀ (q : List Pr) (ms : List Nat), (q.foldl mStep ms).length = ms.length
  | [], _ => rfl
  | p :: q, ms => by rw [List.foldl_cons, mFold_len q, mStep_len]
theorem mOf_len (n : Nat) (q : List Pr) : (mOf n q).length = n := by unfold mOf; rw [mFold_len, List.length_replicate]
theorem getD_set {l : List Nat} {i j v : Nat} (hi : i < l.length) : (l.set i v).getD j 0 = if j = i then v else l.getD j 0 := by
  rw [List.getD_eq_getElem?_getD, List.getElem?_set, List.getD_eq_getElem?_getD]
  by_cases e : i = j
  · subst e
    simp [hi]
  · rw [if_neg e, if_neg (fun z => e z.symm)]
/-- do x and y clash by the row q? -/
def hasP (q : List Pr) (x y : Nat) : Bool := decide (((x : Int), (y : Int)) ∈ q) || decide (((y : Int), (x : Int)) ∈ q)
theorem mStep_bit {ms : List Nat} {p : Pr} (h1 : 0 ≤ p.1) (h2 : p.1 < p.2) (h3 : p.2.toNat < ms.length) (x y : Nat) :
    ((mStep ms p).getD x 0).testBit y = ((ms.getD x 0).testBit y || (decide (x = p.1.toNat ∧ y = p.2.toNat) || decide (x = p.2.toNat ∧ y = p.1.toNat))) := by
  have a : p.1.toNat < ms.length := by omega
  have ne : p.1.toNat ≠ p.2.toNat := by omega
  unfold mStep
  dsimp only
  rw [getD_set (by rw [List.length_set]; exact h3), getD_set a, getD_set a]
  by_cases e2 : x = p.2.toNat
  · subst e2
    rw [if_pos rfl, if_neg (Ne.symm ne), Nat.testBit_or, Nat.testBit_two_pow]
    have : decide (p.2.toNat = p.1.toNat ∧ y = p.2.toNat) = false := decide_eq_false (fun z => ne z.1.symm)
    rw [this, Bool.false_or]
    congr 1
    simp only [true_and]
    exact decide_eq_decide.mpr ⟨fun h => h.symm, fun h => h.symm⟩
  · rw [if_neg e2]
    have z2 : decide (x = p.2.toNat ∧ y = p.1.toNat) = false := decide_eq_false (fun z => e2 z.1)
    rw [z2, Bool.or_false]
    by_cases e1 : x = p.1.toNat
    · subst e1
      rw [if_pos rfl, Nat.testBit_or, Nat.testBit_two_pow]
      congr 1
      simp only [true_and]
      exact decide_eq_decide.mpr ⟨fun h => h.symm, fun h => h.symm⟩
    · rw [if_neg e1, decide_eq_false (fun z : x = p.1.toNat ∧ y = p.2.toNat => e1 z.1), Bool.or_false]
theorem mFold_bit {n : Nat} : ∀ (q : List Pr) (ms : List Nat), ms.length = n → (∀ p ∈ q, 0 ≤ p.1 ∧ p.1 < p.2 ∧ p.2 < n) → ∀ x y, ((q.foldl mStep ms).getD x 0).testBit y = ((ms.getD x 0).testBit y || hasP q x y)
  | [], ms, _, _, x, y => by simp [hasP]
  | p :: q, ms, hl, h, x, y => by
    obtain ⟨a, b, c⟩ := h p List.mem_cons_self
    rw [List.foldl_cons, mFold_bit q (mStep ms p) (by rw [mStep_len]; exact hl) (fun r hr => h r (List.mem_cons_of_mem _ hr)) x y, mStep_bit a b (by omega)]
    rw [Bool.or_assoc]
    congr 1
    unfold hasP
    obtain ⟨p1, p2⟩ := p
    dsimp only at a b c ⊢
    have e1 : decide ((((x : Int), (y : Int)) : Pr) ∈ (p1, p2) :: q) = (decide (x = p1.toNat ∧ y = p2.toNat) || decide (((x : Int), (y : Int)) ∈ q)) := by
      rw [Bool.eq_iff_iff, Bool.or_eq_true, decide_eq_true_iff, decide_eq_true_iff, decide_eq_true_iff, List.mem_cons, Prod.mk.injEq]
      constructor
      · rintro (⟨h1, h2⟩ | h)
        · exact .inl ⟨by omega, by omega⟩
        · exact .inr h
      · rintro (⟨h1, h2⟩ | h)
        · exact .inl ⟨by omega, by omega⟩
        · exact .inr h
    have e2 : decide ((((y : Int), (x : Int)) : Pr) ∈ (p1, p2) :: q) = (decide (x = p2.toNat ∧ y = p1.toNat) || decide (((y : Int), (x : Int)) ∈ q)) := by
      rw [Bool.eq_iff_iff, Bool.or_eq_true, decide_eq_true_iff, decide_eq_true_iff, decide_eq_true_iff, List.mem_cons, Prod.mk.injEq]
      constructor
      · rintro (⟨h1, h2⟩ | h)
        · exact .inl ⟨by omega, by omega⟩
        · exact .inr h
      · rintro (⟨h1, h2⟩ | h)
        · exact .inl ⟨by omega, by omega⟩
        · exact .inr h
    rw [e1, e2]
    generalize decide (x = p1.toNat ∧ y = p2.toNat) = b1
    generalize decide (x = p2.toNat ∧ y = p1.toNat) = b2
    generalize decide (((x : Int), (y : Int)) ∈ q) = b3
    generalize decide (((y : Int), (x : Int)) ∈ q) = b4
    cases b1 <;> cases b2 <;> cases b3 <;> cases b4 <;> rfl
theorem mOf_bit {n : Nat} {q : List Pr} (h : Cl n q) (x y : Nat) : ((mOf n q).getD x 0).testBit y = hasP q x y := by
  unfold mOf
  rw [mFold_bit (n := n) q _ (by simp) h.rng x y]
  rw [List.getD_eq_getElem?_getD, List.getElem?_replicate]
  split <;> simp
end K0
set_option Elab.async false
set_option linter.all false
set_option maxRecDepth 100000
set_option maxHeartbeats 4000000
namespace K0
open PySem PySem.Spec PyProof.Rows L2
abbrev s_nm : Stmt := top 17
theorem dta_map {H : Hp} : ∀ {xs : List V} {q : List Pr} {i : Nat} {v : V}, DtAll H xs (q.map prD) → xs[i]? = some v → ∃ p a, q[i]? = some p ∧ v = .ref a ∧ H a = some (.tup [.int p.1, .int p.2]) := by
  intro xs q i v h e
  obtain ⟨d, hd, hv⟩ := h.at e
  rw [List.getElem?_map] at hd
  cases hq : q[i]? with
  | none => rw [hq] at hd; cases hd
  | some p =>
    rw [hq] at hd
    cases hd
    cases hv with
    | tup ea h2 =>
      cases h2 with
      | cons h3 h4 =>
        cases h4 with
        | cons h5 h6 =>
          cases h6
          cases h3
          cases h5
          exact ⟨p, _, rfl, rfl, ea⟩
section
variable {P : Program} {w : World} {K : PySem.W.Frag} {mg : Str → Option Value} {base : Heap} {f : Addr} {fd : FuncData}
def nvs (ms : List Nat) : List V := ms.map fun (k : Nat) => V.int (k : Int)
def spNm : Sp := fun vs H Q _ => ∃ (n : Int) (c : Addr) (xs : List V) (q : List Pr), vs = [.int n, .ref c] ∧ 0 ≤ n ∧ n ≤ 16 ∧ Cl n q ∧ H c = some (.tup xs) ∧ DtAll H xs (q.map prD) ∧
  ∀ H' m, Same H H' → H m = none → H' m = some (.tup (nvs (mOf n.toNat q))) → Q (.ref m) H'
theorem sc_nm : FnScope ["many", "clashes", "masks", "x", "y"] ["many", "clashes"] (defScope s_nm) := ⟨rfl, rfl, rfl, by decide +kernel, rfl, by decide +kernel, by decide +kernel⟩
theorem ixN_nat {n k : Nat} (h : k < n) : ixN n (k : Int) = some k := by
  unfold ixN
  rw [if_pos (Int.natCast_nonneg k), if_pos (by omega), Int.toNat_natCast]
theorem nvs_at {ms : List Nat} {k : Nat} (h : k < ms.length) : atI (nvs ms) (k : Int) = some (V.int ((ms.getD k 0 : Nat) : Int)) := by
  refine atI_nat ?_
  unfold nvs
  rw [List.getElem?_map, List.getElem?_eq_getElem h, List.getD_eq_getElem?_getD, List.getElem?_eq_getElem h]
  rfl
theorem nvs_set (ms : List Nat) (k v : Nat) : (nvs ms).set k (V.int (v : Int)) = nvs (ms.set k v) := by
  unfold nvs
  rw [List.map_set]
theorem nvs_len (ms : List Nat) : (nvs ms).length = ms.length := by unfold nvs; rw [List.length_map]
theorem rep_nvs (n : Nat) : (List.replicate n [V.int 0]).flatten = nvs (List.replicate n 0) := by
  unfold nvs
  rw [List.map_replicate]
  induction n with
  | zero => rfl
  | succ n ih => rw [List.replicate_succ, List.flatten_cons, ih, List.replicate_succ]; rfl
theorem shl1 (y : Nat) : (1 : Int) * 2 ^ ((y : Int).toNat) = ((2 ^ y : Nat) : Int) := by
  rw [Int.one_mul, Int.toNat_natCast]
  exact (Int.natCast_pow 2 y).symm
theorem OpR_imp {X : Cx} {f : Value → Value → Sem Value} {r r' : R2} (h : OpR X f r) (i : ∀ x y H Q, r' x y H Q → r x y H Q) : OpR X f r' := fun pins s σ H x y u v Q I rx ry q => h pins s σ H x y u v Q I rx ry (i _ _ _ _ q)
theorem op_orN {X : Cx} : OpR X (binaryOp .BitOr) (fun x y H Q => ∃ a b : Nat, x = .int (a : Int) ∧ y = .int (b : Int) ∧ Q (.int ((a ||| b : Nat) : Int)) H) := OpR_imp op_or fun x y H Q ⟨a, b, ex, ey, q⟩ => ⟨_, _, ex, ey, by show Q (.int (Builtin.bitOr (a : Int) (b : Int))) H; rw [bor_nat]; exact q⟩
theorem op_shl1 {X : Cx} : OpR X (binaryOp .LShift) (fun x y H Q => ∃ k : Nat, x = .int 1 ∧ y = .int (k : Int) ∧ k ≤ 1000 ∧ Q (.int ((2 ^ k : Nat) : Int)) H) := OpR_imp op_shl fun x y H Q ⟨k, ex, ey, hk, q⟩ => ⟨_, _, ex, ey, ⟨by omega, by omega, by decide⟩, by show Q (.int (1 * 2 ^ ((k : Int).toNat))) H; rw [shl1]; exact q⟩
theorem ok_nm (F : Fun K "near_masks" "near_masks" s_nm f fd) (B : Blt2 mg) : FnOk P w K mg base (L2.CX P w) 1 f fd ["many", "clashes"] spNm := by
  refine up0 (F.ok sc_nm (fun vs H Q E h => ?_) (fun cdv A outer s H vs Q E hr h => ?_))
  · obtain ⟨n, c, xs, q, rfl, _⟩ := h
    rfl
  · obtain ⟨n, c, xs, q, rfl, h0, h8, hq, hc, hx, kq⟩ := h
    have nd := sc_nm.nd
    obtain ⟨m, rfl⟩ := Int.eq_ofNat_of_zero_le h0
    rw [Int.toNat_natCast] at kq
    refine ⟨_, pss_cons (ps_set (i := 2) nd rfl (.inl rfl) (pe_op op_rep (pe_lst (pa_cons pe_int pa_nil)) (pv 0)))
      (pss_cons (ps_for PassesOwn.never rfl (pi_tup (pv 1)) (pg_tup rfl (pgs_cons (pg_name (i := 3) nd rfl (.inl rfl)) (pgs_cons (pg_name (i := 4) nd rfl (.inl rfl)) pgs_nil)))
        (pss_cons (ps_asg (pe_op op_orN (pe_ix ix_list (pv 2) (pv 3) (fun _ _ => rfl)) (pe_op op_shl1 pe_int (pv 4))) (pg_sub (pv 2) (pv 3) set_list))
        (pss_one (ps_asg (pe_op op_orN (pe_ix ix_list (pv 2) (pv 4) (fun _ _ => rfl)) (pe_op op_shl1 pe_int (pv 3))) (pg_sub (pv 2) (pv 4) set_list)))))
      (pss_one (ps_ret (pe_callTy call_tuple_of (by rfl) B.tuple (by decide +kernel) (pa_cons (pv 2) pa_nil))))), ?_⟩
    refine ⟨by show 1 ≤ sizeLine; decide, fun l nl => ?_⟩
    refine ⟨_, rfl, l, (m : Int), _, rfl, rfl, upd_same, by omega, by omega, ?_, fun t nt => ?_⟩
    · rw [Int.toNat_natCast, sizeLine_eq]
      show 1 * m ≤ _
      omega
    rw [Int.toNat_natCast, rep_nvs]
    have s1 : Same H (upd H l (.lst [V.int 0])) := same_upd nl
    have s2 := s1.trans (same_upd (o := .lst (nvs (List.replicate m 0))) nt)
    have ht : H t = none := s1.free nt
    let Pv : Nat → L2.St → Hp → Prop := fun i σ H' => ∃ o3 o4, σ = [some (.int (m : Int)), some (.ref c), some (.ref t), o3, o4] ∧ Same H H' ∧ H' t = some (.lst (nvs (mOf m (q.take i))))
    refine ⟨_, rfl, c, rfl, ⟨xs, SqT.of (s2 _ _ hc)⟩, for_tup (K := K) (a := c) (xs := xs) Pv ⟨none, none, rfl, s2, upd_same⟩ (fun i σ H' _ ⟨_, _, _, sm, _⟩ => SqT.of (sm _ _ hc)) ?_ ?_⟩
    · rintro i v σ H' hi ⟨o3, o4, rfl, sm, hl⟩
      obtain ⟨p, b, hp, rfl, hb⟩ := dta_map hx hi
      obtain ⟨r1, r2, r3⟩ := hq.rng p (List.mem_of_getElem? hp)
      obtain ⟨p1, p2⟩ := p
      dsimp only at r1 r2 r3 hb
      obtain ⟨x, rfl⟩ := Int.eq_ofNat_of_zero_le r1
      obtain ⟨y, rfl⟩ := Int.eq_ofNat_of_zero_le (show (0 : Int) ≤ p2 by omega)
      have hml : (mOf m (q.take i)).length = m := mOf_len _ _
      have hx8 : x < (mOf m (q.take i)).length := by omega
      have hy8 : y < (mOf m (q.take i)).length := by omega
      refine ⟨b, _, rfl, SqT.of (sm _ _ hb), rfl, _, _, rfl, _, _, rfl, rfl, ?_⟩
      refine ⟨_, rfl, _, rfl, t, _, _, _, rfl, rfl, SqL.of hl, nvs_at hx8, _, rfl, y, rfl, rfl, by omega, _, _, rfl, rfl, ?_⟩
      refine ⟨_, rfl, _, rfl, t, _, _, _, rfl, rfl, hl, (by rw [nvs_len]; exact ixN_nat hx8), ?_⟩
      rw [nvs_set]
      have hy9 : y < ((mOf m (q.take i)).set x ((mOf m (q.take i)).getD x 0 ||| 2 ^ y)).length := by rw [List.length_set]; exact hy8
      refine ⟨_, rfl, _, rfl, t, _, _, _, rfl, rfl, SqL.of upd_same, nvs_at hy9, _, rfl, x, rfl, rfl, by omega, _, _, rfl, rfl, ?_⟩
      refine ⟨_, rfl, _, rfl, t, _, _, _, rfl, rfl, upd_same, (by rw [nvs_len]; exact ixN_nat hy9), ?_⟩
      rw [nvs_set, upd_upd]
      refine ⟨_, _, rfl, fun a o e => ?_, ?_⟩
      · rw [upd_ne (ne_of_none e ht)]
        exact sm a o e
      · rw [upd_same, take_at hp]
        unfold mOf
        rw [List.foldl_append]
        rfl
    · rintro σ H' ⟨o3, o4, rfl, sm, hl⟩
      have el : xs.length = q.length := by rw [hx.len, List.length_map]
      rw [el, List.take_length] at hl
      refine ⟨_, rfl, t, _, rfl, .inl ⟨SqL.of hl, fun r nr => ?_⟩⟩
      exact kq _ r (sm.trans (same_upd nr)) (sm.free nr) upd_same
end
end K0
set_option Elab.async false
set_option linter.all false
set_option maxRecDepth 100000
set_option maxHeartbeats 4000000
namespace K0
open PySem PySem.Spec PyProof.Rows L2
abbrev s_wi : Stmt := inClass (top 22) 0
/-! ### what a web looks like -/
theorem k_mc : ¬ (("many" : Str) = "clashes") := by decide +kernel
theorem k_mm : ¬ (("many" : Str) = "masks") := by decide +kernel
theorem k_cm : ¬ (("clashes" : Str) = "masks") := by decide +kernel
def wf (n : Int) (c m : Addr) : List (Str × V) := putF "masks" (.ref m) (putF "clashes" (.ref c) (putF "many" (.int n) []))
theorem wf_many (n : Int) (c m : Addr) : (wf n c m).lookup ("many" : Str) = some (.int n) := by
  unfold wf
  rw [lookup_putF, if_neg k_mm, lookup_putF, if_neg k_mc, lookup_putF, if_pos rfl]
theorem wf_clashes (n : Int) (c m : Addr) : (wf n c m).lookup ("clashes" : Str) = some (.ref c) := by
  unfold wf
  rw [lookup_putF, if_neg k_cm, lookup_putF, if_pos rfl]
theorem wf_masks (n : Int) (c m : Addr) : (wf n c m).lookup ("masks" : Str) = some (.ref m) := by
  unfold wf
  rw [lookup_putF, if_pos rfl]
theorem wf_no (n : Int) (c m : Addr) {x : Str} (h1 : ¬ x = "many") (h2 : ¬ x = "clashes") (h3 : ¬ x = "masks") : (wf n c m).lookup x = none := by
  unfold wf
  rw [lookup_putF, if_neg h3, lookup_putF, if_neg h2, lookup_putF, if_neg h1]
  rfl
theorem wf_len1 (n : Int) : (putF ("many" : Str) (.int n) []).length < 1000 := by have := length_putF ("many" : Str) (.int n) []; simp at this; omega
theorem wf_len2 (n : Int) (c : Addr) : (putF ("clashes" : Str) (.ref c) (putF ("many" : Str) (.int n) [])).length < 1000 := by
  have h1 := length_putF ("clashes" : Str) (.ref c) (putF ("many" : Str) (.int n) [])
  have h2 := length_putF ("many" : Str) (.int n) []
  simp at h2
  omega
/-- the web of n things with the clashes q stands at p -/
structure WebAt (C : Addr) (H : Hp) (p : Addr) (n : Int) (q : List Pr) : Prop where
  ex : ∃ (dx c m : Addr) (l : List (Addr × Pr)), H p = some (.ins C dx (wf n c m)) ∧ H c = some (.tup (l.map fun z => V.ref z.1)) ∧ q = l.map (·.2) ∧ (∀ z ∈ l, H z.1 = some (.tup [.int z.2.1, .int z.2.2])) ∧ H m = some (.tup (nvs (mOf n.toNat q)))
  cl : Cl n q
  n0 : 0 ≤ n
  n8 : n ≤ 16
theorem WebAt.mono {C : Addr} {H H' : Hp} {p : Addr} {n : Int} {q : List Pr} (W : WebAt C H p n q) (s : Same H H') : WebAt C H' p n q := by
  obtain ⟨⟨dx, c, m, l, h1, h2, h3, h4, h5⟩, cl, n0, n8⟩ := W
  exact ⟨⟨dx, c, m, l, s _ _ h1, s _ _ h2, h3, fun z hz => s _ _ (h4 z hz), s _ _ h5⟩, cl, n0, n8⟩
/-- what is new in H' -/
def New (H H' : Hp) : Hp := fun b => match H b with
  | none => H' b
  | some _ => none
theorem new_at {H H' : Hp} {b : Addr} (h : H b = none) : New H H' b = H' b := by unfold New; rw [h]
theorem same_new {H H' : Hp} : Same (New H H') H' := fun b o e => by
  unfold New at e
  cases h : H b with
  | none => rw [h] at e; exact e
  | some _ => rw [h] at e; cases e
theorem new_mono {H H1 H' H2 : Hp} (a : ∀ b, H b = none → H' b ≠ none → H1 b = none) (s : Same H' H2) : Same (New H H') (New H1 H2) := fun b o e => by
  unfold New at e
  cases h : H b with
  | none =>
    rw [h] at e
    have e' : H' b = some o := e
    rw [new_at (a b h (by rw [e']; simp))]
    exact s _ _ e'
  | some _ => rw [h] at e; cases e
/-- all stays but the object at p -/
def SameX (p : Addr) (H H' : Hp) : Prop := ∀ b o, H b = some o → b ≠ p → H' b = some o
theorem SameX.trans {p : Addr} {H H1 H2 : Hp} (a : SameX p H H1) (b : SameX p H1 H2) : SameX p H H2 := fun c o e n => b c o (a c o e n) n
theorem sx {p : Addr} {H H' : Hp} (s : Same H H') : SameX p H H' := fun b o e _ => s b o e
theorem samex_upd {p : Addr} {H : Hp} {o : HO} : SameX p H (upd H p o) := fun b u e n => by rw [upd_ne n]; exact e
/-- lists and tuples alone -/
def seqs (H : Hp) : Hp := fun b => match H b with
  | some (.lst xs) => some (.lst xs)
  | some (.tup xs) => some (.tup xs)
  | _ => none
theorem seqs_lst {H : Hp} {b : Addr} {xs : List V} (e : H b = some (.lst xs)) : seqs H b = some (.lst xs) := by unfold seqs; rw [e]
theorem seqs_tup {H : Hp} {b : Addr} {xs : List V} (e : H b = some (.tup xs)) : seqs H b = some (.tup xs) := by unfold seqs; rw [e]
theorem seqs_of {H : Hp} {b : Addr} {o : HO} (e : seqs H b = some o) : H b = some o ∧ ∀ C dx fs, o ≠ .ins C dx fs := by
  unfold seqs at e
  split at e
  · rename_i h
    cases e
    exact ⟨h, fun _ _ _ z => by cases z⟩
  · rename_i h
    cases e
    exact ⟨h, fun _ _ _ z => by cases z⟩
  · cases e
mutual
theorem Dt.seqs {H : Hp} : ∀ {v : V} {d : PyData}, Dt H v d → Dt (seqs H) v d
  | _, _, .non => .non
  | _, _, .bl b => .bl b
  | _, _, .int i => .int i
  | _, _, .str x => .str x
  | _, _, .lst e h => .lst (seqs_lst e) (DtAll.seqs h)
  | _, _, .tup e h => .tup (seqs_tup e) (DtAll.seqs h)
theorem DtAll.seqs {H : Hp} : ∀ {v : List V} {d : List PyData}, DtAll H v d → DtAll (seqs H) v d
  | _, _, .nil => .nil
  | _, _, .cons h t => .cons (Dt.seqs h) (DtAll.seqs t)
end
theorem same_seqs {p C dx : Addr} {fs : List (Str × V)} {H H' : Hp} (hp : H p = some (.ins C dx fs)) (s : SameX p H H') : Same (seqs H) H' := fun b o e => by
  obtain ⟨h, no⟩ := seqs_of e
  exact s b o h fun z => by
    rw [z, hp] at h
    exact no C dx fs (Option.some.inj h).symm
theorem Dt.monoX {p C dx : Addr} {fs : List (Str × V)} {H H' : Hp} (hp : H p = some (.ins C dx fs)) (s : SameX p H H') {v : V} {d : PyData} (h : Dt H v d) : Dt H' v d := h.seqs.mono (same_seqs hp s)
theorem Sq.monoX {K : PySem.W.Frag} {p C dx : Addr} {fs : List (Str × V)} {H H' : Hp} (hp : H p = some (.ins C dx fs)) (s : SameX p H H') {a : Addr} {ds : List PyData} (h : Sq K H a ds) : Sq K H' a ds := by
  cases h with
  | lst e h => exact .lst (same_seqs hp s _ _ (seqs_lst e)) (h.seqs.mono (same_seqs hp s))
  | tup e h => exact .tup (same_seqs hp s _ _ (seqs_tup e)) (h.seqs.mono (same_seqs hp s))
  | kon e z => exact .kon e z
section
variable {P : Program} {w : World} {K : PySem.W.Frag} {mg : Str → Option Value} {base : Heap} {f : Addr} {fd : FuncData}
/-- the class of webs as the top has made it -/
structure WebC (K : PySem.W.Frag) (C : Addr) : Prop where
  cl : Cls K C
  nm : NoAttr K C "many"
  nc : NoAttr K C "clashes"
  nk : NoAttr K C "masks"
/-- Web.__init__ -/
def spWi (K : PySem.W.Frag) (C CN CW : Addr) : Sp := fun vs H Q E => ∃ (p dx a : Addr) (v : V) (d : PyData) (ds : List PyData), vs = [.ref p, v, .ref a] ∧ H p = some (.ins C dx []) ∧ Dt H v d ∧ Sq K H a ds ∧
  (okN 0 d = false → ∀ H' e, SameX p H H' → H' e = some (.xd [("name", .str "many")]) → E (.ref CN) (some e) H') ∧
  (∀ n, d = .int n → 0 ≤ n → n ≤ 16 ∧ ds.length ≤ 62 ∧
    (∀ ps, entsOf n ds = .ok ps → ∀ q, Cl n q → (∀ z, z ∈ q ↔ z ∈ ps) → ∀ H', SameX p H H' → WebAt C (New (del H p) H') p n q → Q .non H') ∧
    (∀ x y, entsOf n ds = .error (x, y) → ∀ H' e vx vy, SameX p H H' → Dt H' vx x → Dt H' vy y → H' e = some (.xd [("y", vy), ("x", vx)]) → E (.ref CW) (some e) H'))
theorem sc_wi : FnScope ["self", "many", "clashes"] ["self", "many", "clashes"] (defScope s_wi) := ⟨rfl, rfl, rfl, by decide +kernel, rfl, by decide +kernel, by decide +kernel⟩
end
end K0
set_option Elab.async false
set_option linter.all false
set_option maxRecDepth 100000
set_option maxHeartbeats 4000000
namespace K0
open PySem PySem.Spec PyProof.Rows L2
/-- a def whose last parameters have defaults -/
structure DfD (P : Program) (w : World) (K : PySem.W.Frag) (mg : Str → Option Value) (base : Heap) (x : Str) (k : Nat) (ps : List Str) (dvs : List V) (sp : Sp) : Prop where
  ex : ∃ (f : Addr) (fd : FuncData) (ds : List Value), mg x = some (.ref f) ∧ PySem.W.keepIn K (.ref f) = true ∧ FnOk P w K mg base (L2.CX P w) k f fd ps sp ∧ Vals dvs ds ∧ Binds K fd ps ds
theorem pe_dfd {X : Cx} {x : Str} {k : Nat} {ps : List Str} {dvs : List V} {sp : Sp} {E : XK} {e : Expr} {es : List Expr} {t : TA} {p pos : Pos} (T : DfD X.prog X.w X.K X.mg X.base x k ps dvs sp) (hr : Room k X.A) (hg : Gl X x) (hx : Passes (L2.CX X.prog X.w) X E) (ha : PA X (e :: es) t)
    (hdb : (x == ("__debug__" : Str)) = false := by decide) (he : starEach (e :: es) X.env = (false, eval e X.env) :: starEach es X.env := by rfl) (hpl : (backTo pos (starEach es X.env)).any (·.1) = false := by rfl) :
    PE X (.Call (.Name x p) (e :: es) [] pos) (tCall sp dvs E t) := by
  obtain ⟨f, fd, ds, g, kp, F, v, b⟩ := T.ex
  exact pe_call F hr hg g kp b v hx ha hdb he hpl
section
variable {P : Program} {w : World} {K : PySem.W.Frag} {mg : Str → Option Value} {base : Heap} {f : Addr} {fd : FuncData}
theorem ok_wi {dvs : List V} {C CN CW : Addr} (F : FunD K "__init__" "Web.__init__" (defArgs s_wi) (defBody s_wi) (defScope s_wi) dvs [] f fd) (T : WebC K C) (CNum : DfD P w K mg base "check_number" 3 ["value", "name", "least"] [.int 0] (spCn CN))
    (CC : Df P w K mg base "checked_clashes" 3 ["many", "clashes"] (spCC K CW)) (NM : Df P w K mg base "near_masks" 1 ["many", "clashes"] spNm) : FnOk P w K mg base (L2.CX P w) 4 f fd ["self", "many", "clashes"] (spWi K C CN CW) := by
  refine F.ok sc_wi (fun vs H Q E h => ?_) (fun cdv A outer s H vs Q E hr h => ?_)
  · obtain ⟨p, dx, a, v, d, ds, rfl, _⟩ := h
    rfl
  · obtain ⟨p, dx, a, v, d, ds, rfl, hp, hv, hs, kn, kw⟩ := h
    have hr1 : Room 1 _ := hr.mono (by decide)
    refine ⟨_, pss_cons (ps_expr (pe_dfd CNum hr (by rfl) passUp (pa_cons (pv 1) (pa_cons pe_str pa_nil))))
      (pss_cons (ps_fld (pv 0) (pv 1) rfl)
      (pss_cons (ps_fld (pv 0) (pe_df CC hr (by rfl) passUp (pa_cons (pv 1) (pa_cons (pv 2) pa_nil))) rfl)
      (pss_one (ps_fld (pv 0) (pe_df NM hr1 (by rfl) passUp (pa_cons (pv 1) (pa_cons (pe_fld (pv 0) rfl) pa_nil))) rfl)))), ?_⟩
    refine ⟨_, rfl, v, d, _, 0, rfl, hv, fun ok => ?_, fun bad H' e sm he => kn bad H' e (sx sm) he⟩
    obtain ⟨n, rfl, rfl, h0⟩ : ∃ n, v = .int n ∧ d = .int n ∧ 0 ≤ n := by
      cases hv with
      | int i => exact ⟨i, rfl, rfl, of_decide_eq_true ok⟩
      | non => cases ok
      | bl b => cases ok
      | str b => cases ok
      | lst e h => cases ok
      | tup e h => cases ok
    obtain ⟨n8, n62, kq, ke⟩ := kw n rfl h0
    -- self.many = many
    refine ⟨_, rfl, _, rfl, p, C, dx, [], rfl, hp, T.cl, T.nm, (by show 0 < 1000; decide), ?_⟩
    have x1 : SameX p H (upd H p (.ins C dx (putF "many" (.int n) []))) := samex_upd
    have hs1 := hs.monoX hp x1
    -- self.clashes = checked_clashes(many, clashes)
    refine ⟨_, rfl, _, rfl, n, a, ds, rfl, n8, n62, hs1, fun ps hps q hq hm H2 c xs s2 nc hc hl => ?_, fun x y hxy H' e vx vy sm hx hy he => ke x y hxy H' e vx vy (x1.trans (sx sm)) hx hy he⟩
    have hp2 : H2 p = some (.ins C dx (putF "many" (.int n) [])) := s2 _ _ upd_same
    have cp : c ≠ p := fun z => by rw [z, upd_same] at nc; cases nc
    have nc' : H c = none := by rw [upd_ne cp] at nc; exact nc
    refine ⟨_, rfl, p, C, dx, _, rfl, hp2, T.cl, T.nc, wf_len1 n, ?_⟩
    obtain ⟨l, rfl, eq, hz⟩ := hl
    have x3 : SameX p H2 (upd H2 p (.ins C dx (putF "clashes" (.ref c) (putF "many" (.int n) [])))) := samex_upd
    have hc3 := x3 _ _ hc cp
    have zp : ∀ z ∈ l, z.1 ≠ p := fun z hz' e => by
      have := (hz z hz').1
      rw [e, upd_same] at this
      cases this
    have hz3 : ∀ z ∈ l, (upd H2 p (.ins C dx (putF "clashes" (.ref c) (putF "many" (.int n) [])))) z.1 = some (.tup [.int z.2.1, .int z.2.2]) := fun z hz' => x3 _ _ (hz z hz').2 (zp z hz')
    -- self.masks = near_masks(many, self.clashes)
    refine ⟨_, rfl, _, rfl, p, C, dx, _, .ref c, rfl, upd_same, T.cl, T.nc, (by rw [lookup_putF, if_pos rfl]), n, c, _, q, rfl, h0, n8, hq, hc3, (by rw [eq, List.map_map]; exact dtAll_prs hz3), fun H4 m s4 nm hm4 => ?_⟩
    have hp4 := s4 p _ upd_same
    have mp : m ≠ p := fun z => by rw [z, upd_same] at nm; cases nm
    have nm2 : H2 m = none := by rw [upd_ne mp] at nm; exact nm
    have nm' : H m = none := by
      have := s2.free nm2
      rw [upd_ne mp] at this
      exact this
    refine ⟨_, rfl, p, C, dx, _, rfl, hp4, T.cl, T.nk, wf_len2 n c, ?_⟩
    have x5 : SameX p H4 (upd H4 p (.ins C dx (wf n c m))) := samex_upd
    have xAll : SameX p H (upd H4 p (.ins C dx (wf n c m))) := x1.trans ((sx s2).trans (x3.trans ((sx s4).trans x5)))
    have dl : ∀ {b : Addr}, H b = none → (del H p) b = none := fun {b} h => by
      by_cases e : b = p
      · rw [e, del_same]
      · rw [del_ne e]; exact h
    refine kq ps hps q hq hm _ xAll ⟨⟨dx, c, m, l, ?_, ?_, eq, fun z hz' => ?_, ?_⟩, hq, h0, n8⟩
    · rw [new_at del_same]
      exact upd_same
    · rw [new_at (dl nc')]
      exact x5 _ _ (s4 _ _ hc3) cp
    · have n1 : H z.1 = none := by
        have := (hz z hz').1
        rw [upd_ne (zp z hz')] at this
        exact this
      rw [new_at (dl n1)]
      exact x5 _ _ (s4 _ _ (hz3 z hz')) (zp z hz')
    · rw [new_at (dl nm')]
      exact x5 _ _ hm4 mp
end
end K0
set_option Elab.async false
set_option linter.all false
set_option maxRecDepth 100000
set_option maxHeartbeats 4000000
namespace K0
open PySem PySem.Spec PyProof.Rows L2
abbrev s_ti : Stmt := top 16
def rS : R2 := fun x y H Q => ∃ a b : Nat, x = .int (a : Int) ∧ y = .int (b : Int) ∧ Q (.int ((a / 2 ^ b : Nat) : Int)) H
def rA : R2 := fun x y H Q => ∃ a : Nat, x = .int (a : Int) ∧ y = .int 1 ∧ Q (.int ((a % 2 : Nat) : Int)) H
theorem op_shr2 {X : Cx} : OpR X (binaryOp .RShift) rS := OpR_imp op_shr fun x y H Q ⟨a, b, ex, ey, q⟩ => ⟨_, _, ex, ey, Int.natCast_nonneg b, by
  show Q (.int ((a : Int) / 2 ^ ((b : Int).toNat))) H
  rw [Int.toNat_natCast, show (2 : Int) ^ b = ((2 ^ b : Nat) : Int) from (Int.natCast_pow 2 b).symm, ← Int.natCast_ediv]
  exact q⟩
theorem op_and1 {X : Cx} : OpR X (binaryOp .BitAnd) rA := OpR_imp op_and fun x y H Q ⟨a, ex, ey, q⟩ => ⟨_, _, ex, ey, by
  show Q (.int (Builtin.bitAnd (a : Int) 1)) H
  rw [bitAnd_m1, show ((a : Int) % 2) = ((a % 2 : Nat) : Int) from by omega]
  exact q⟩
theorem bit_val (m k : Nat) : ((((m / 2 ^ k % 2 : Nat) : Int)) != 0) = m.testBit k := by
  rw [Nat.testBit_eq_decide_div_mod_eq]
  rcases Nat.mod_two_eq_zero_or_one (m / 2 ^ k) with e | e <;> rw [e] <;> rfl
theorem bit_one (m k : Nat) : ((((m / 2 ^ k % 2 : Nat) : Int)) == 1) = m.testBit k := by
  rw [Nat.testBit_eq_decide_div_mod_eq]
  rcases Nat.mod_two_eq_zero_or_one (m / 2 ^ k) with e | e <;> rw [e] <;> rfl
theorem range_cut {p : Nat → Bool} {a : Nat} (h : ∀ j, a ≤ j → p j = false) : ∀ d, (List.range (a + d)).filter p = (List.range a).filter p := fun d => by
  rw [List.range_add, List.filter_append]
  have : ((List.range d).map (a + ·)).filter p = [] := by
    rw [List.filter_eq_nil_iff]
    intro x hx
    obtain ⟨y, _, rfl⟩ := List.mem_map.mp hx
    rw [h _ (Nat.le_add_right a y)]
    simp
  rw [this, List.append_nil]
theorem range_same {p : Nat → Bool} {a b : Nat} (ha : ∀ j, a ≤ j → p j = false) (hb : ∀ j, b ≤ j → p j = false) : (List.range a).filter p = (List.range b).filter p := by
  rcases Nat.le_total a b with h | h
  · obtain ⟨d, rfl⟩ := Nat.exists_eq_add_of_le h
    exact (range_cut ha d).symm
  · obtain ⟨d, rfl⟩ := Nat.exists_eq_add_of_le h
    exact range_cut hb d
def bitsN (m : Nat) : Nat := Builtin.Int.intBits (m : Int)
theorem bits_out {m j : Nat} (h : bitsN m ≤ j) : m.testBit j = false := by
  refine Nat.testBit_lt_two_pow ?_
  unfold bitsN Builtin.Int.intBits at h
  by_cases e : m = 0
  · rw [e]
    exact Nat.two_pow_pos j
  · rw [if_neg (by simpa using e), Int.natAbs_natCast] at h
    exact Nat.lt_of_lt_of_le Nat.lt_log2_self (Nat.pow_le_pow_right (by decide) h)
/-- the places of the bits -/
def bitsOf (n m : Nat) : List Nat := (List.range n).filter m.testBit
theorem bitsOf_eq {n m : Nat} (h : ∀ j, n ≤ j → m.testBit j = false) : (List.range (bitsN m)).filter m.testBit = bitsOf n m := range_same (fun j => bits_out) h
section
variable {P : Program} {w : World} {K : PySem.W.Frag} {mg : Str → Option Value} {base : Heap} {f : Addr} {fd : FuncData}
def spTi : Sp := fun vs H Q _ => ∃ (m : Nat), vs = [.int (m : Int)] ∧ bitsN m ≤ 1000 ∧ ∀ H' t, Same H H' → H t = none → H' t = some (.tup (nvs ((List.range (bitsN m)).filter m.testBit))) → Q (.ref t) H'
theorem sc_ti : FnScope ["mask", "thing"] ["mask"] (defScope s_ti) := ⟨rfl, rfl, rfl, by decide +kernel, rfl, by decide +kernel, by decide +kernel⟩
theorem filter_take {p : Nat → Bool} (n i : Nat) (h : i < n) : ((List.range n).take (i + 1)).filter p = ((List.range n).take i).filter p ++ (if p i = true then [i] else []) := by
  rw [List.take_range, List.take_range, Nat.min_eq_left (by omega), Nat.min_eq_left (by omega), List.range_succ, List.filter_append]
  congr 1
  cases e : p i <;> simp [e]
theorem ok_ti (F : Fun K "things_in" "things_in" s_ti f fd) (B : Blt2 mg) : FnOk P w K mg base (L2.CX P w) 1 f fd ["mask"] spTi := by
  refine up0 (F.ok sc_ti (fun vs H Q E h => ?_) (fun cdv A outer s H vs Q E hr h => ?_))
  · obtain ⟨m, rfl, _⟩ := h
    rfl
  · obtain ⟨m, rfl, hb, q⟩ := h
    have nd := sc_ti.nd
    refine ⟨_, pss_one (ps_ret (pe_callTy call_tuple_of (by rfl) B.tuple (by decide +kernel) (pa_cons (pe_lc (tt := tTru K (tOp rA (tOp rS (tVar 0) (tVar 1)) (tC (.int 1)))) (te := tVar 1) (own := [("thing", 1)]) (g := gName 1) rfl nd (pi_range1 (by rfl) B.range (pa_cons (pe_bits (pv 0)) pa_nil))
      (blkOk_by (N := ["mask", "thing"]) (sc := defScope s_ti) (by decide +kernel)) (fun _ _ _ _ _ => pg_name (i := 1) nd rfl (.inl rfl))
      (fun _ _ _ _ _ => pts_one (pt_truth (pe_op op_and1 (pe_op op_shr2 (pv 0) (pv 1)) pe_int) (by intro _; rfl))) (fun _ _ _ _ _ => pv 1)) pa_nil))), ?_⟩
    refine ⟨_, rfl, _, rfl, _, rfl, by omega, by have : bitsN m < 2 ^ 62 := (by omega); exact Int.ofNat_lt.mpr this, fun D nD => ?_⟩
    have eN : ((Builtin.Int.intBits (m : Int) : Nat) : Int).toNat = bitsN m := Int.toNat_natCast _
    rw [eN]
    refine lc_range (lo := 0) (n := bitsN m) (fun i H' => Same H H' ∧ H' D = some (.lst (nvs (((List.range (bitsN m)).take i).filter m.testBit)))) ⟨same_upd nD, upd_same⟩ (fun i H' hi ⟨sm, hD⟩ => ?_) (fun H' ⟨sm, hD⟩ => ?_)
    · refine ⟨rfl, ?_⟩
      rw [Int.zero_add]
      refine ⟨_, rfl, _, rfl, m, i, rfl, rfl, _, rfl, rfl, _, rfl, ?_⟩
      rw [bit_val]
      cases e : m.testBit i with
      | false =>
        refine iteF ⟨sm, ?_⟩
        rw [filter_take _ _ hi, e]
        simpa using hD
      | true =>
        refine iteT ⟨_, rfl, _, hD, ?_, ?_, ?_⟩
        · rw [nvs_len, sizeLine_eq]
          have h1 := List.length_filter_le m.testBit ((List.range (bitsN m)).take i)
          rw [List.length_take, List.length_range] at h1
          omega
        · intro b o e2
          rw [upd_ne (ne_of_none e2 nD)]
          exact sm b o e2
        · rw [upd_same, filter_take _ _ hi, e]
          unfold nvs
          rw [List.map_append]
          rfl
    · rw [List.take_of_length_le (by rw [List.length_range]; exact Nat.le_refl _)] at hD
      exact ⟨D, _, rfl, .inl ⟨SqL.of hD, fun t nt => q _ t (sm.trans (same_upd nt)) (sm.free nt) upd_same⟩⟩
end
end K0
set_option Elab.async false
set_option linter.all false
set_option maxRecDepth 100000
set_option maxHeartbeats 4000000
/-! enumerate(tuple) -/
namespace K0
open PySem PySem.Spec PyProof.Rows L2
open AutoSeq1 (wpAny_loadPart')
theorem enumNewT (l : Addr) (items : Array Value) (n : Nat) (dct : Option Addr) (sl : Array (Option Value)) :
    Meets (Builtin.«enumerate.__new__» ⟨[.type "enumerate", .ref l], []⟩) (fun _ R s => s.heap.get? l = some { cls := .type "tuple", dict := dct, data := .seq items n, slots := sl } ∧
      R (.ok (.ret (.ref (s.heap.push { cls := .type "tuple_iterator", data := .fields #[.ref l, .int 0 0] }).objs.size)))
        { s with heap := (s.heap.push { cls := .type "tuple_iterator", data := .fields #[.ref l, .int 0 0] }).push { cls := .type "enumerate", data := .fields #[.none, .bool false, .ref s.heap.objs.size, rawInt 0, .none, .none] } }) :=
  .of_wp fun prog w A R s h => by
    obtain ⟨hp, g, d, tk, os⟩ := s
    obtain ⟨hl, h⟩ := h
    have hsub := sub_enumerate
    have hT : Heap.IsTuple (Shared.heap ⟨hp, g, d, tk, os⟩) l items := ⟨_, hl, rfl, n, rfl⟩
    wp_walk using wpAny_loadPart' hl
    refine wpAny_stack_any fun st => wpAny_pure ?_
    split
    · rename_i c _ _ _ _ _
      cases (c == Value.type "enumerate")
      · wp_walk using wpAny_loadPart' hl, wpAny_pyIter_tuple hT
        exact ⟨_, rfl, h⟩
      · wp_walk using wpAny_loadPart' hl, wpAny_pyIter_tuple hT
        exact ⟨_, rfl, h⟩
    · wp_walk using wpAny_loadPart' hl, wpAny_pyIter_tuple hT
      exact ⟨_, rfl, h⟩
section
variable {prog : Program} {w : World} {A : Around} {E : Value → Shared → Prop} {s : Shared}
theorem callEnumT {l : Addr} {items : Array Value} {Q : Value → Shared → Prop} (hL : s.heap.IsTuple l items)
    (h : ∀ h', IsEnum h' (s.heap.objs.size + 1) s.heap.objs.size 0 .none → h'.IsTupleIter s.heap.objs.size l 0 → h'.objs.size = s.heap.objs.size + 2 →
      (∀ b o, s.heap.get? b = some o → h'.get? b = some o) → Q (.ref (s.heap.objs.size + 1)) { s with heap := h' }) :
    wpAny (model prog w) A (call (.type "enumerate") [.ref l]) Q E s := by
  obtain ⟨⟨c, dct, dt, sl⟩, hl, hc, n, hd⟩ := hL
  replace hc : c = .type "tuple" := hc
  replace hd : dt = .seq items n := hd
  subst hc hd
  refine callType_new F.called_enumerate (by decide) (F.typeCall_enumerate_1 _) (F.newCall_enumerate_1 _) (fun obj => F.args_object_init_2 obj _) F.entry_enumerate_new
    (enumNewT l items n dct sl) ⟨hl, ?_⟩
  have hz : (s.heap.push { cls := .type "tuple_iterator", data := .fields #[.ref l, .int 0 0] }).objs.size = s.heap.objs.size + 1 := Heap.size_push ..
  show _ ∧ _
  rw [hz]
  have he : IsEnum ((s.heap.push { cls := .type "tuple_iterator", data := .fields #[.ref l, .int 0 0] }).push
      { cls := .type "enumerate", data := .fields #[.none, .bool false, .ref s.heap.objs.size, rawInt 0, .none, .none] }) (s.heap.objs.size + 1) s.heap.objs.size 0 .none := by
    have := Heap.get?_push_size (s.heap.push { cls := .type "tuple_iterator", data := .fields #[.ref l, .int 0 0] })
      (o := { cls := .type "enumerate", data := .fields #[.none, .bool false, .ref s.heap.objs.size, rawInt 0, .none, .none] }) rfl
    rw [hz] at this
    exact this
  refine ⟨⟨_, he, rfl⟩, h _ he ⟨_, Heap.get?_push_of_some _ (Heap.get?_push_size _ rfl), rfl, rfl⟩ (by rw [Heap.size_push, hz]) fun b o x => Heap.get?_push_of_some _ (Heap.get?_push_of_some _ x)⟩
end
/-- the tuple at a, each item in a new pair with its place -/
def IteT (K : PySem.W.Frag) (a : Addr) : It :=
  ⟨fun i H => ∃ (xs : List V) (x : V), SqT K H a xs ∧ xs[i]? = some x, fun i H v H' => ∃ T x, v = .ref T ∧ H T = none ∧ H' = upd H T (.tup [.int (i : Nat), x]) ∧ ∀ xs, SqT K H a xs → xs[i]? = some x, fun i H => ∃ xs : List V, SqT K H a xs ∧ xs.length ≤ i⟩
theorem turn_enumT {P : Program} {w : World} {K : PySem.W.Frag} {elts : List Expr} {kk : Nat} {tpos : Pos} (a e it : Addr) :
    Turn P w K (.Tuple elts kk tpos) (IteT K a) [e, it] e (fun i h => (∃ old, IsEnum h e it ((i : Nat) : Int) old) ∧ h.IsTupleIter it a i ∧ e ≠ it ∧ e ≠ a ∧ a ≠ it) where
  mem := by simp
  obj := fun i h st b hb => by
    obtain ⟨⟨old, he⟩, ⟨o, ho, hc, hd⟩, _⟩ := st
    have e' : b = e ∨ b = it := by simpa using hb
    rcases e' with z | z
    · rw [z]; exact ⟨_, he, fun v q => nomatch q⟩
    · rw [z]; exact ⟨o, ho, fun v q => by rw [hd] at q; cases q⟩
  keep := fun i h h' st k => let ⟨⟨old, he⟩, hi, hne⟩ := st; ⟨⟨old, k e (by simp) _ he⟩, hi.at fun o q => k it (by simp) o q, hne⟩
  item := by
    intro X hP hw hK hc i pins s σ H E I hf st hg
    subst hP hw hK
    obtain ⟨⟨old, he⟩, hit, hne, hea, hai⟩ := st
    obtain ⟨xs, x, hq, hx⟩ := hg
    obtain ⟨its, rv, p, hz⟩ := I.tuple hq
    obtain ⟨u, hu, ru⟩ := rv.get hx
    have hel : e < s.heap.objs.size := Heap.lt_size he
    have hil : it < s.heap.objs.size := by obtain ⟨_, q, _⟩ := hit; exact Heap.lt_size q
    have hT : s.heap.IsTuple a its.toArray := p
    have lt : i < its.toArray.size := by
      have := (List.getElem?_eq_some_iff.mp hu).1
      simpa using this
    refine wpAny_pyNext_enum_itemD (Draws.tuple (A := X.A.in1) (show X.A.in1.handled = none from I.ok.hd hc) it a hai its.toArray) he ⟨hit, hT⟩ lt hne (by simp [hne, hea]) fun y h' tk hy ho hst hTt hsz hk => ?_
    have ey : y = u := by
      rw [show its.toArray[i]? = some u by simpa using hu] at hy
      exact (Option.some.inj hy).symm
    subst ey
    refine ⟨_, rfl, wpAny_letOwnedTupleGo_enum (s := { s with heap := h', toks := tk + 1 }) ho fun h'' he' sb => ?_⟩
    have hT2 : h''.get? s.heap.objs.size = some { cls := .type "tuple", data := .seq #[.int i tk, y] } := (sb.2 _ (Nat.ne_of_gt hel)).trans hTt
    have new : ObjOk X.prog X.w (upd H s.heap.objs.size (.tup [.int (i : Nat), x])) h'' s.heap.objs.size (.tup [.int (i : Nat), x]) :=
      ⟨by show 2 ≤ sizeLine; decide, [.int i tk, y], .cons ⟨_, rfl⟩ (.cons ru .nil), ⟨_, hT2, rfl, _, rfl⟩⟩
    have I1 : Inv X pins σ (upd H s.heap.objs.size (.tup [.int (i : Nat), x])) { s with heap := h'', toks := tk + 1 } :=
      I.turnedNew (ch := [e, it]) (fun b ob hb q => (sb.2 b (fun z => hb (by simp [z]))).trans (hk b ob (fun z => hb (by simp [z])) (fun z => hb (by simp [z])) q)) hf (Nat.le_refl _) new
    refine ⟨.ref s.heap.objs.size, _, I1, rfl, ⟨_, x, rfl, I.hok.fresh (Nat.le_refl _), rfl, fun ys hy => by rw [I.tuple_inj hy hq]; exact hx⟩, ⟨⟨y, ?_⟩, hst.1.at fun o q => (sb.2 it (Ne.symm hne)).trans q, hne, hea, hai⟩, fun b hb => ?_⟩
    · have e1 : ((i + 1 : Nat) : Int) = (i : Int) + 1 := by omega
      rw [e1]; exact he'
    · have hb' : b < s.heap.objs.size := by
        have e' : b = e ∨ b = it := by simpa using hb
        rcases e' with z | z
        · rw [z]; exact hel
        · rw [z]; exact hil
      rw [upd_ne (Nat.ne_of_lt hb')]
      exact (hf b hb).1
  done := by
    intro X hP hw hK hc i pins s σ H E I hf st hg
    subst hP hw hK
    obtain ⟨⟨old, he⟩, hit, hne, hea, hai⟩ := st
    obtain ⟨xs, hq, hx⟩ := hg
    obtain ⟨its, rv, p, hz⟩ := I.tuple hq
    obtain ⟨f0, f1, f2, f3, f4, f5⟩ := hf it (by simp)
    have hl := rv.length
    have hT : s.heap.IsTuple a its.toArray := p
    have hTy : s.TypeIs (.ref e) "enumerate" := ⟨_, he, rfl⟩
    unfold pyNext
    refine wpAny_bind (wpAny_attempt (wpAny_callSpecial?_slot (name := Str.ofString "__next__") hTy F.slot_enumerate_next
      (wpAny_call_entry F.slot_enumerate_next hTy F.entry_enumerate_next ?_ (F.args_enumerate_next_1 _))))
    show wpAny _ _ (field (.ref e) 2 >>= _) _ _ _
    refine wpAny_bind (wpAny_field he rfl (x := .ref it) rfl ?_)
    refine wpAny_bind (wpAny_nextOf_tuple_end (A := X.A.in1) (show X.A.in1.handled = none from I.ok.hd hc) hit hT (by simp; omega) fun h' x he' hx' => ?_)
    obtain ⟨o, ho, hc⟩ := hx'
    refine wpAny_bind (wpAny_isInstance (T := "StopIteration") (b := true) ⟨o, ho, hc⟩ isSubtype_stop ?_)
    exact wpAny_pure ⟨rfl, I.turned (t' := s.toks) (fun b o hb q => he' b o hb q) f0 f1 f3 f4 f5⟩
  self := fun A i s Q E st h => let ⟨⟨_, he⟩, _⟩ := st; wpAny_pyIter_enum he h
def iEnumT (K : PySem.W.Frag) (ta : TA) : TI := fun σ H R => ta σ H fun vs H1 => ∃ a xs, vs = [.ref a] ∧ SqT K H1 a xs ∧ R (IteT K a) H1
theorem pi_enumT {X : Cx} {e : Expr} {ta : TA} {p pos tpos : Pos} {elts : List Expr} {kk : Nat} (hg : Gl X "enumerate") (hm : X.mg "enumerate" = none) (ha : PA X [e] ta) (hs : starEach [e] X.env = [(false, eval e X.env)] := by rfl) :
    PI X (.Tuple elts kk tpos) (.Call (.Name "enumerate" p) [e] [] pos) (iEnumT X.K ta) := by
  refine ⟨fun pins s σ H R I h => ?_⟩
  refine Call_ (ld_blt I hg hm boot_enumerate (PyProof.Rows.callWith_type1 (thn (ha.run pos pins s σ H _ I h) fun us s1 ⟨vs, H1, I1, r1, q1⟩ => ?_) hs rfl))
  obtain ⟨a, xs, ex, hq, q⟩ := q1
  subst ex
  cases r1 with
  | cons r rr =>
    cases rr
    cases r
    obtain ⟨its, rv, p', hz⟩ := I1.tuple hq
    have hT : s1.heap.IsTuple a its.toArray := p'
    have hal : a < s1.heap.objs.size := by obtain ⟨o, ho, _⟩ := hT; exact Heap.lt_size ho
    refine callEnumT hT fun h' he hit hsz hk => wpAny_pyIter_enum he ?_
    have I2 : Inv X pins σ H1 { s1 with heap := h' } := I1.kept (t' := s1.toks) hk
    refine ⟨s1.heap.objs.size + 1, [s1.heap.objs.size + 1, s1.heap.objs.size], _, _, H1, rfl, I2, turn_enumT a (s1.heap.objs.size + 1) s1.heap.objs.size, ⟨⟨.none, he⟩, hit, Nat.succ_ne_self _, Nat.ne_of_gt (Nat.lt_succ_of_lt hal), Nat.ne_of_lt hal⟩, fun b hb => ?_, q⟩
    have e' : b = s1.heap.objs.size + 1 ∨ b = s1.heap.objs.size := by simpa using hb
    have hle : s1.heap.objs.size ≤ b := by
      rcases e' with z | z
      · rw [z]; exact Nat.le_add_right _ _
      · rw [z]; exact Nat.le_refl _
    exact I1.fpOk hle (I1.hok.fresh hle)
theorem walk_enumT {K : PySem.W.Frag} {a : Addr} {xs : List V} : Walk (IteT K a) xs.length (fun H => SqT K H a xs) (YPair (fun i => some (.int (i : Nat))) (fun i => xs[i]?)) := by
  refine ⟨fun i _ hi q => ⟨xs, xs[i], q, by simp [hi]⟩, fun _ q => ⟨xs, q, Nat.le_refl _⟩, fun i H v H' _ q y => ?_⟩
  obtain ⟨T, x, h1, h2, h3, h4⟩ := y
  exact ⟨T, .int (i : Nat), x, h1, h2, h3, rfl, h4 xs q⟩
end K0
set_option Elab.async false
set_option linter.all false
set_option maxRecDepth 100000
set_option maxHeartbeats 4000000
namespace K0
open PySem PySem.Spec PyProof.Rows L2
/-- a loop over enumerate of a list or tuple of data -/
theorem tfor_en {K : PySem.W.Frag} {i : Nat} {a : Addr} {ds : List PyData} {g : TG} {tb : TS} {D : Ends} {σ : L2.St} {H H0 : Hp} (hv : σ[i]? = some (some (.ref a))) (h : Sq K H0 a ds) (Pv : Nat → L2.St → Hp → Prop) (h0 : Pv 0 σ H)
    (hl : ∀ j σ H', Pv j σ H' → ∀ o, H0 a = some o → H' a = some o)
    (hs : ∀ j v d σ H' T, ds[j]? = some d → Dt H0 v d → Pv j σ H' → H' T = none → g (.ref T) σ (upd H' T (.tup [.int (j : Nat), v])) fun σ2 H2 => tb { D with nx := Pv (j + 1), ct := Pv (j + 1), bk := D.nx } σ2 H2) (hd : ∀ σ H', Pv ds.length σ H' → D.nx σ H') :
    tFor (fun σ H R => iEnum K (tCons (tVar i) tNil) σ H R ∨ iEnumT K (tCons (tVar i) tNil) σ H R) g tb D σ H := by
  cases h with
  | @lst xs e h =>
    refine .inl ⟨_, hv, a, xs, rfl, SqL.of (hl 0 _ _ h0 _ e), for_it (walk_enum (K := K) (a := a) (xs := xs)) Pv h0 (fun j σ H' _ p => SqL.of (hl j σ H' p _ e)) (fun j v σ H' H2 hj p y => ?_) (fun σ H' p => ?_)⟩
    · obtain ⟨T, x, y, rfl, nT, rfl, e1, e2⟩ := y
      cases e1
      obtain ⟨d, hd, hdt⟩ := h.at e2
      exact hs j y d σ H' T hd hdt p nT
    · rw [h.len] at p
      exact hd σ H' p
  | @tup xs e h =>
    refine .inr ⟨_, hv, a, xs, rfl, SqT.of (hl 0 _ _ h0 _ e), for_it (walk_enumT (K := K) (a := a) (xs := xs)) Pv h0 (fun j σ H' _ p => SqT.of (hl j σ H' p _ e)) (fun j v σ H' H2 hj p y => ?_) (fun σ H' p => ?_)⟩
    · obtain ⟨T, x, y, rfl, nT, rfl, e1, e2⟩ := y
      cases e1
      obtain ⟨d, hd, hdt⟩ := h.at e2
      exact hs j y d σ H' T hd hdt p nT
    · rw [h.len] at p
      exact hd σ H' p
  | kon e z =>
    refine .inr ⟨_, hv, a, [], rfl, e _, for_it (walk_enumT (K := K) (a := a) (xs := [])) Pv h0 (fun j σ H' _ p => e _) (fun j v σ H' H2 hj p y => ?_) (fun σ H' p => ?_)⟩
    · cases hj
    · rw [z] at hd
      exact hd σ H' p
section
variable {P : Program} {w : World} {K : PySem.W.Frag} {mg : Str → Option Value} {base : Heap} {f : Addr} {fd : FuncData}
end
end K0
set_option Elab.async false
set_option linter.all false
set_option maxRecDepth 100000
set_option maxHeartbeats 4000000
/-! methods and operators of an own class that may raise -/
namespace K0
open PySem PySem.Spec PyProof.Rows L2
section
variable {X : Cx} {pins : List (Addr × Obj)} {σ : L2.St} {H : Hp} {s : Shared}
/-- a def of the text is called somewhere below -/
theorem run_any {A : Around} {n : Nat} {f : Addr} {fd : FuncData} {ps : List Str} {sp : Sp} {E : XK} {Q : VK} {vs : List V} {us : List Value} {CX : CXT} (sb : Sub X n A) (F : FnOk X.prog X.w X.K X.mg X.base CX n f fd ps sp) (hb : Binds X.K fd ps []) (hx : Passes CX X E)
    (I : Inv X pins σ H s) (r : Vals vs us) (h : sp vs H Q E) : wpAny (model X.prog X.w) A (call (.ref f) us) (EP X pins σ Q) X.xe s := by
  have e0 : Env0 X.prog X.w X.K X.mg X.base A X.stack s H := by
    have e := I.env0
    exact ⟨by rw [sb.fr]; exact e.frames, e.mod, e.bs, e.bsz, e.funs, e.frf, e.hok, e.bare⟩
  have hl := F.len _ _ _ _ h
  have hl2 : us.length = ps.length := by rw [← hl, r.length]
  refine wpAny_call (codeAny_mono (F.run A X.stack s H ⟨us, []⟩ us vs Q E sb.room e0 (by
    have := hb s us I.kIn (by simpa using hl2)
    simpa using this) r h) fun r s' hq => ?_)
  cases r with
  | error e => exact hx pins σ H s e s' I hq
  | ok fl =>
    cases fl with
    | ret w => exact I.after hq
    | next => exact False.elim hq
    | brk => exact False.elim hq
    | cont => exact False.elim hq
/-- a method of the class at C by its name, its promise -/
structure Mt (P : Program) (w : World) (K : PySem.W.Frag) (mg : Str → Option Value) (base : Heap) (C : Addr) (m : Str) (k : Nat) (ps : List Str) (sp : Sp) : Prop where
  ex : ∃ (f : Addr) (fd : FuncData), Cls K C ∧ Meth K C m f ∧ PySem.W.isFn K (.ref f) = true ∧ PySem.W.fnIn K f = true ∧ PySem.W.findIn K (.ref C) m = some (some (.ref f)) ∧ FnOk P w K mg base (L2.CX P w) k f fd ps sp ∧ Binds K fd ps []
variable {C : Addr} {m : Str} {k : Nat} {ps : List Str} {sp : Sp} {E : XK} {o e : Expr} {es : List Expr} {ta : TE} {t : TA} {apos pos : Pos}
theorem pe_mt1 {pl : Sem Bool} (T : Mt X.prog X.w X.K X.mg X.base C m k ps sp) (hr : Room k X.A) (hx : Passes (L2.CX X.prog X.w) X E) (he : PE X o ta) (ha : PA X (e :: es) t)
    (hst : starEach (e :: es) X.env = (false, eval e X.env) :: starEach es X.env := by rfl) (hpl : (backTo pos (starEach es X.env)).any (·.1) = false := by rfl)
    (ht : eval (.Call (.Attribute o m apos) (e :: es) [] pos) X.env = (do
      let ov ← eval o X.env
      standAt apos.atName
      let (f, first) ← holding [ov] (getMethod ov m pl)
      callWith pos f first (backTo pos (starEach (e :: es) X.env)) (backToKw pos (keywordEach [] X.env))) := by rfl) : PE X (.Call (.Attribute o m apos) (e :: es) [] pos) (tMeth C m sp [] E ta t) := by
  obtain ⟨f, fd, c, hm, _, _, _, F, b⟩ := T.ex
  exact pe_meth (pl := pl) he c hm F hr b .nil hx ha hst hpl ht
/-- x in o -/
def rInO (C : Addr) (sp : Sp) (E : XK) : R2 := fun x y H Q => ∃ a dx fs, y = .ref a ∧ H a = some (.ins C dx fs) ∧ sp [.ref a, x] H (fun v H2 => ∃ b, v = .bl b ∧ Q (.bl b) H2) E
theorem op_inO (T : Mt X.prog X.w X.K X.mg X.base C "__contains__" k ps sp) (hr : Room k X.A) (hx : Passes (L2.CX X.prog X.w) X E) : OpR X (compareOp .In) (rInO C sp E) := by
  intro pins s σ H x y v u Q I rx ry h
  obtain ⟨a, dx, fs, rfl, ha, h⟩ := h
  obtain ⟨f, fd, c, hm, hfn, _, hs, F, b⟩ := T.ex
  cases ry
  obtain ⟨mA, J, _⟩ := ins_get I.hok ha
  obtain ⟨od, J, _⟩ := J.look
  obtain ⟨m, hF⟩ := I.fr
  refine PySem.W.in_K hF I.ok.mod.kin J hs hfn (wpAny_mono (run_any (vs := [.ref a, x]) ⟨hr, rfl⟩ F b hx I (.cons rfl (.cons rx .nil)) h) (fun r s' z => ?_) fun _ _ x => x)
  obtain ⟨w, H', I', rw', bb, ew, q⟩ := z
  subst ew
  cases rw'
  exact wpAny_truthy_bool ⟨.bl bb, H', I', rfl, q⟩
/-- what type the right side is of -/
inductive TyE (H : Hp) : V → Value → Prop where
  | ins {b C dx : Addr} {fs : List (Str × V)} (e : H b = some (.ins C dx fs)) : TyE H (.ref b) (.ref C)
  | lst {b : Addr} {xs : List V} (e : H b = some (.lst xs)) : TyE H (.ref b) (.type "list")
  | int (i : Int) : TyE H (.int i) (.type "int")
theorem TyE.looks {y : V} {u tb : Value} (I : Inv X pins σ H s) (r : RelV y u) (h : TyE H y tb) : PySem.W.Looks (model X.prog X.w) s.heap (typeOf u) tb := by
  cases h with
  | ins e =>
    cases r
    obtain ⟨mA, J, _⟩ := ins_get I.hok e
    obtain ⟨od, J, _⟩ := J.look
    exact J.type
  | lst e =>
    cases r
    obtain ⟨its, rv, p, hz⟩ := I.list (SqL.of (K := X.K) e)
    obtain ⟨o, ho, hc, _⟩ := p.isList
    exact fun A Q E s k q => wpAny_typeOf_ref (k _ _ ho) (by rw [hc]; exact q)
  | int i =>
    obtain ⟨t, rfl⟩ := r
    exact PySem.W.Looks.of_pure rfl
/-- o == y -/
def rEqO (K : PySem.W.Frag) (C : Addr) (sp : Sp) (E : XK) : R2 := fun x y H Q => ∃ a dx fs tb, x = .ref a ∧ H a = some (.ins C dx fs) ∧ TyE H y tb ∧ PySem.W.notFirst K C tb = true ∧ sp [.ref a, y] H (fun v H2 => ∃ b, v = .bl b ∧ Q (.bl b) H2) E
theorem op_eqO (T : Mt X.prog X.w X.K X.mg X.base C "__eq__" k ps sp) (hr : Room k X.A) (hx : Passes (L2.CX X.prog X.w) X E) : OpR X (compareOp .Eq) (rEqO X.K C sp E) := by
  intro pins s σ H x y v u Q I rx ry h
  obtain ⟨a, dx, fs, tb, rfl, ha, ty, nf, h⟩ := h
  obtain ⟨f, fd, c, hm, hfn, _, hs, F, b⟩ := T.ex
  cases rx
  obtain ⟨mA, J, _⟩ := ins_get I.hok ha
  obtain ⟨od, J, _⟩ := J.look
  obtain ⟨m, hF⟩ := I.fr
  show wpAny (model X.prog X.w) X.A (richCompare .Eq (.ref a) u) (EP X pins σ Q) X.xe s
  refine PySem.W.cmp_K (op := .Eq) hr.units0 hF I.ok.mod.kin J (ty.looks I ry) nf hs hfn (wpAny_mono (run_any (vs := [.ref a, y]) ⟨hr, rfl⟩ F b hx I (.cons rfl (.cons ry .nil)) h) (fun r s' z => ?_) fun _ _ x => x)
  obtain ⟨w, H', I', rw', bb, ew, q⟩ := z
  subst ew
  cases rw'
  exact ⟨.bl bb, H', I', rfl, q⟩
/-- len(o) -/
theorem cr_lenO (T : Mt X.prog X.w X.K X.mg X.base C "__len__" k ps sp) (hr : Room (k + 1) X.A) (hx : Passes (L2.CX X.prog X.w) X E) :
    CallR X (.builtin "len") (fun xs H Q => ∃ a dx fs, xs = [.ref a] ∧ H a = some (.ins C dx fs) ∧ sp [.ref a] H (fun v H2 => ∃ n : Nat, v = .int n ∧ n < 2 ^ 63 ∧ Q (.int n) H2) E) := by
  intro pins s σ H xs us Q I r h
  obtain ⟨a, dx, fs, rfl, ha, h⟩ := h
  obtain ⟨f, fd, c, hm, hfn, _, hs, F, b⟩ := T.ex
  obtain rfl := Vals.ref1 r
  obtain ⟨mA, J, _⟩ := ins_get I.hok ha
  obtain ⟨od, J, _⟩ := J.look
  obtain ⟨m, hF⟩ := I.fr
  refine PySem.W.len_K hF I.ok.mod.kin J hs hfn (wpAny_mono (run_any (vs := [.ref a]) (A := X.A.in1) ⟨hr.in1, rfl⟩ F b hx I (.cons rfl .nil) h) (fun r s' z => ?_) fun _ _ x => x)
  obtain ⟨w, H', I', rw', n, ew, hn, q⟩ := z
  subst ew
  obtain ⟨t, rfl⟩ := rw'
  exact ⟨⟨by omega, by omega⟩, .int n, H', I'.tok _, ⟨_, rfl⟩, q⟩
/-- o[e] -/
def rIxO (C : Addr) (sp : Sp) (E : XK) : R2 := fun x y H Q => ∃ a dx fs, x = .ref a ∧ H a = some (.ins C dx fs) ∧ sp [.ref a, y] H Q E
theorem pe_ixO {a b : Expr} {ta tb : TE} {pos : Pos} (T : Mt X.prog X.w X.K X.mg X.base C "__getitem__" k ps sp) (hr : Room (k + 1) X.A) (hx : Passes (L2.CX X.prog X.w) X E) (ha : PE X a ta) (hb : PE X b tb)
    (hsl : ∀ (x : Addr) (i : Value), subscripted b true (.ref x) i = runValue (.builtin "lifetime.subscript" ⟨[.ref x, i], []⟩) := by intro _ _; with_unfolding_all rfl) : PE X (.Subscript a b pos) (tOp (rIxO C sp E) ta tb) := by
  refine ⟨fun pins s σ H Q I h => ?_⟩
  refine Subscript_ (binT ha hb I h fun v u s2 x y H2 I2 rx ry q => ?_)
  obtain ⟨p, dx, fs, rfl, hp, q⟩ := q
  obtain ⟨f, fd, c, hm, hfn, hf, hs, F, bb⟩ := T.ex
  cases rx
  obtain ⟨mA, J, _⟩ := ins_get I2.hok hp
  obtain ⟨od, J, _⟩ := J.look
  obtain ⟨m, hF⟩ := I2.fr
  exact PySem.W.sub_K hF I2.ok.mod.kin J hs hf hfn (run_any (vs := [.ref p, y]) (A := X.A.in1) ⟨hr.in1, rfl⟩ F bb hx I2 (.cons rfl (.cons ry .nil)) q) (hsl p u)
end
end K0
set_option Elab.async false
set_option linter.all false
set_option maxRecDepth 100000
set_option maxHeartbeats 4000000
namespace K0
open PySem PySem.Spec PyProof.Rows L2
section
variable {P : Program} {w : World} {K : PySem.W.Frag} {mg : Str → Option Value} {base : Heap}
/-- Web(many, clashes) -/
def spMk (K : PySem.W.Frag) (C CN CW : Addr) : Sp := fun vs H Q E => ∃ (a : Addr) (v : V) (d : PyData) (ds : List PyData), vs = [v, .ref a] ∧ Dt H v d ∧ Sq K H a ds ∧
  (okN 0 d = false → Rz CN [("name", .str "many")] H E) ∧
  (∀ n, d = .int n → 0 ≤ n → n ≤ 16 ∧ ds.length ≤ 62 ∧
    (∀ ps, entsOf n ds = .ok ps → ∀ q, Cl n q → (∀ z, z ∈ q ↔ z ∈ ps) → ∀ H' p, Same H H' → H p = none → WebAt C (New H H') p n q → Q (.ref p) H') ∧
    (∀ x y, entsOf n ds = .error (x, y) → ∀ H' e vx vy, Same H H' → Dt H' vx x → Dt H' vy y → H' e = some (.xd [("y", vy), ("x", vx)]) → E (.ref CW) (some e) H'))
/-- the class as it is called -/
structure WebK (P : Program) (w : World) (K : PySem.W.Frag) (mg : Str → Option Value) (base : Heap) (C CN CW : Addr) : Prop where
  g : mg "Web" = some (.ref C)
  ex : ∃ (f : Addr) (fd : FuncData), Mk K C f ∧ FnOk P w K mg base (L2.CX P w) 4 f fd ["self", "many", "clashes"] (spWi K C CN CW) ∧ Binds K fd ["self", "many", "clashes"] [] ∧
    ∃ e0 : Addr, (∀ H : Hp, SqT K H e0 []) ∧ Binds K fd ["self", "many", "clashes"] [.ref e0]
theorem spMk_in {C CN CW : Addr} {vs : List V} {H : Hp} {Q : VK} {E : XK} (h : spMk K C CN CW vs H Q E) (x dx : Addr) (nx : H x = none) (ndx : H dx = none) (ne : dx ≠ x) :
    spWi K C CN CW (.ref x :: vs) (upd (upd H dx (.own x)) x (.ins C dx [])) (fun v H2 => v = .non ∧ Q (.ref x) H2) E := by
  obtain ⟨a, v, d, ds, rfl, hv, hs, kn, kw⟩ := h
  have s1 : Same H (upd (upd H dx (.own x)) x (.ins C dx [])) := fun b o e => by
    rw [upd_ne (ne_of_none e nx), upd_ne (ne_of_none e ndx)]
    exact e
  have sX : ∀ {H'}, SameX x (upd (upd H dx (.own x)) x (.ins C dx [])) H' → Same H H' := fun {H'} z b o e => z b o (s1 b o e) (ne_of_none e nx)
  refine ⟨x, dx, a, v, d, ds, rfl, upd_same, hv.mono s1, hs.mono s1, fun bad H' e z he => kn bad H' e (sX z) he, fun n en h0 => ?_⟩
  obtain ⟨n8, n62, kq, ke⟩ := kw n en h0
  refine ⟨n8, n62, fun ps hps q hq hm H' z W => ⟨rfl, kq ps hps q hq hm H' x (sX z) nx (W.mono (new_mono (fun b e1 e2 => ?_) (Same.refl _)))⟩, fun y1 y2 he H' e vx vy z hx hy hd => ke y1 y2 he H' e vx vy (sX z) hx hy hd⟩
  by_cases eb : b = x
  · rw [eb]; exact nx
  · rw [del_ne eb, upd_ne eb] at e1
    by_cases ed : b = dx
    · rw [ed]; exact ndx
    · rw [upd_ne ed] at e1
      exact e1
section
variable {X : Cx} {C CN CW : Addr} {E : XK} {e : Expr} {es : List Expr} {t : TA} {p pos : Pos}
theorem pe_web (T : WebK X.prog X.w X.K X.mg X.base C CN CW) (hr : Room 5 X.A) (hg : Gl X "Web") (hx : Passes (L2.CX X.prog X.w) X E) (ha : PA X (e :: es) t)
    (he : starEach (e :: es) X.env = (false, eval e X.env) :: starEach es X.env := by rfl) (hpl : (backTo pos (starEach es X.env)).any (·.1) = false := by rfl) :
    PE X (.Call (.Name "Web" p) (e :: es) [] pos) (tCall (spMk X.K C CN CW) [] E t) := by
  obtain ⟨f, fd, M, F, b, _⟩ := T.ex
  refine ⟨fun pins s σ H Q I h => ?_⟩
  refine wpAny_Call_Name_kw (ld_glob I hg T.g ?_ (by decide))
  refine PySem.W.callWith_K (h₀ := X.base) I.ok.mod.kin M.kp (thn (ha.run pos pins s σ H _ I h) fun us s1 ⟨vs, H1, I1, r, q⟩ => ⟨I1.kIn, ?_⟩) he hpl
  refine run_make (dvs := []) M F hr b .nil hx I1 r fun x dx nx ndx ne => ?_
  rw [List.append_nil]
  have q : spMk X.K C CN CW (vs ++ []) H1 Q E := q
  rw [List.append_nil] at q
  exact spMk_in q x dx nx ndx ne
/-- Web(many) -/
def spM1 (K : PySem.W.Frag) (C CN CW : Addr) : Sp := fun vs H Q E => ∀ e0 : Addr, (∀ H : Hp, SqT K H e0 []) → spMk K C CN CW (vs ++ [.ref e0]) H Q E
theorem pe_web1 (T : WebK X.prog X.w X.K X.mg X.base C CN CW) (hr : Room 5 X.A) (hg : Gl X "Web") (hx : Passes (L2.CX X.prog X.w) X E) (ha : PA X (e :: es) t)
    (he : starEach (e :: es) X.env = (false, eval e X.env) :: starEach es X.env := by rfl) (hpl : (backTo pos (starEach es X.env)).any (·.1) = false := by rfl) :
    PE X (.Call (.Name "Web" p) (e :: es) [] pos) (tCall (spM1 X.K C CN CW) [] E t) := by
  obtain ⟨f, fd, M, F, _, e0, h0, b⟩ := T.ex
  refine ⟨fun pins s σ H Q I h => ?_⟩
  refine wpAny_Call_Name_kw (ld_glob I hg T.g ?_ (by decide))
  refine PySem.W.callWith_K (h₀ := X.base) I.ok.mod.kin M.kp (thn (ha.run pos pins s σ H _ I h) fun us s1 ⟨vs, H1, I1, r, q⟩ => ⟨I1.kIn, ?_⟩) he hpl
  refine run_make (dvs := [.ref e0]) M F hr b (.cons rfl .nil) hx I1 r fun x dx nx ndx ne => ?_
  have q : spM1 X.K C CN CW (vs ++ []) H1 Q E := q
  rw [List.append_nil] at q
  exact spMk_in (q e0 h0) x dx nx ndx ne
end
/-! ### what a web answers -/
variable {f : Addr} {fd : FuncData}
abbrev s_w (i : Nat) : Stmt := inClass (top 22) i
theorem sc_cl : FnScope ["self", "x", "y"] ["self", "x", "y"] (defScope (s_w 2)) := ⟨rfl, rfl, rfl, by decide +kernel, rfl, by decide +kernel, by decide +kernel⟩
/-- clash -/
def spCl (C CT : Addr) : Sp := fun vs H Q E => ∃ (p : Addr) (vx vy : V) (dx dy : PyData) (n : Int) (q : List Pr), vs = [.ref p, vx, vy] ∧ WebAt C H p n q ∧ Dt H vx dx ∧ Dt H vy dy ∧
  (isTh n dx = false → Rz CT [("thing", vx)] H E) ∧ (isTh n dx = true → isTh n dy = false → Rz CT [("thing", vy)] H E) ∧
  ∀ x y : Nat, dx = .int x → dy = .int y → (x : Int) < n → (y : Int) < n → Ret (.bl (hasP q x y)) H Q
theorem hasP_out {n : Int} {q : List Pr} (h : Cl n q) {x y : Nat} (hy : n ≤ (y : Int)) : hasP q x y = false := by
  unfold hasP
  rw [Bool.or_eq_false_iff]
  refine ⟨decide_eq_false fun m => ?_, decide_eq_false fun m => ?_⟩
  · have := h.rng _ m
    dsimp only at this
    omega
  · have := h.rng _ m
    dsimp only at this
    omega
theorem mask_at {C : Addr} {H : Hp} {p : Addr} {n : Int} {q : List Pr} (W : WebAt C H p n q) (x : Nat) (hx : (x : Int) < n) : x < (mOf n.toNat q).length := by
  rw [mOf_len]
  have := W.n0
  omega
theorem mask_bits {C : Addr} {H : Hp} {p : Addr} {n : Int} {q : List Pr} (W : WebAt C H p n q) (x y : Nat) : ((mOf n.toNat q).getD x 0).testBit y = hasP q x y := by
  have := mOf_bit (n := n.toNat) (q := q) (by rw [Int.toNat_of_nonneg W.n0]; exact W.cl) x y
  exact this
theorem mask_small {C : Addr} {H : Hp} {p : Addr} {n : Int} {q : List Pr} (W : WebAt C H p n q) (x : Nat) : bitsN ((mOf n.toNat q).getD x 0) ≤ 16 := by
  have lt : (mOf n.toNat q).getD x 0 < 2 ^ 16 := Nat.lt_pow_two_of_testBit _ fun i hi => by
    rw [mask_bits W]
    exact hasP_out W.cl (by have := W.n8; omega)
  unfold bitsN Builtin.Int.intBits
  split
  · exact Nat.zero_le _
  · rename_i z
    rw [Int.natAbs_natCast]
    have nz : (mOf n.toNat q).getD x 0 ≠ 0 := by simpa using z
    have := (Nat.log2_lt nz).mpr lt
    omega
theorem ok_cl {C CT : Addr} (F : Fun K "clash" "Web.clash" (s_w 2) f fd) (T : WebC K C) (CH : Df P w K mg base "check_thing" 3 ["many", "thing"] (spCt CT)) : FnOk P w K mg base (L2.CX P w) 4 f fd ["self", "x", "y"] (spCl C CT) := by
  refine F.okX sc_cl (fun vs H Q E h => ?_) (fun cdv A outer s H vs Q E hr h => ?_)
  · obtain ⟨p, vx, vy, dx, dy, n, q, rfl, _⟩ := h
    rfl
  · obtain ⟨p, vx, vy, dx, dy, n, q, rfl, W, hx, hy, q1, q2, q3⟩ := h
    obtain ⟨⟨ddx, c, m, l, h1, h2, h3, h4, h5⟩, cl, n0, n8⟩ := id W
    refine ⟨_, pss_cons (ps_expr (pe_df CH hr (by rfl) passUp (pa_cons (pe_fld (pv 0) rfl) (pa_cons (pv 1) pa_nil))))
      (pss_cons (ps_expr (pe_df CH hr (by rfl) passUp (pa_cons (pe_fld (pv 0) rfl) (pa_cons (pv 2) pa_nil))))
      (pss_one (ps_ret (pe_cmpR op_eq (pe_op op_and1 (pe_op op_shr2 (pe_ix ix_tup (pe_fld (pv 0) rfl) (pv 1) (fun _ _ => rfl)) (pv 2)) pe_int) pe_int (nomark _))))), ?_⟩
    refine ⟨_, rfl, p, C, ddx, _, _, rfl, h1, T.cl, T.nm, wf_many _ _ _, _, rfl, n, vx, dx, rfl, hx, fun t1 H1 s1 => ?_, q1⟩
    refine ⟨_, rfl, p, C, ddx, _, _, rfl, s1 _ _ h1, T.cl, T.nm, wf_many _ _ _, _, rfl, n, vy, dy, rfl, hy.mono s1, fun t2 H2 s2 => ?_, fun t2 H' d s' hd => q2 t1 t2 H' d (s1.trans s') hd⟩
    have s12 := s1.trans s2
    obtain ⟨i, rfl, rfl, i0, iN⟩ := th_int hx t1
    obtain ⟨j, rfl, rfl, j0, jN⟩ := th_int hy t2
    obtain ⟨x, rfl⟩ := Int.eq_ofNat_of_zero_le i0
    obtain ⟨y, rfl⟩ := Int.eq_ofNat_of_zero_le j0
    refine ⟨_, rfl, p, C, ddx, _, _, rfl, s12 _ _ h1, T.cl, T.nk, wf_masks _ _ _, _, rfl, m, _, (x : Int), _, rfl, rfl, SqT.of (s12 _ _ h5), nvs_at (mask_at W x iN), _, rfl, _, y, rfl, rfl, _, rfl, rfl, rfl, ?_⟩
    rw [dec_int, bit_one, mask_bits W]
    exact q3 x y rfl rfl iN jN _ s12
end
end K0
set_option Elab.async false
set_option linter.all false
set_option maxRecDepth 100000
set_option maxHeartbeats 4000000
namespace K0
open PySem PySem.Spec PyProof.Rows L2
section
variable {P : Program} {w : World} {K : PySem.W.Frag} {mg : Str → Option Value} {base : Heap} {f : Addr} {fd : FuncData}
/-- near -/
def nearOf (n : Int) (q : List Pr) (x : Nat) : List Nat := (List.range n.toNat).filter (hasP q x)
def spNr (C CT : Addr) : Sp := fun vs H Q E => ∃ (p : Addr) (vx : V) (dx : PyData) (n : Int) (q : List Pr), vs = [.ref p, vx] ∧ WebAt C H p n q ∧ Dt H vx dx ∧
  (isTh n dx = false → Rz CT [("thing", vx)] H E) ∧
  ∀ x : Nat, dx = .int x → (x : Int) < n → ∀ H' t, Same H H' → H t = none → H' t = some (.tup (nvs (nearOf n q x))) → Q (.ref t) H'
theorem sc_nr : FnScope ["self", "x"] ["self", "x"] (defScope (s_w 3)) := ⟨rfl, rfl, rfl, by decide +kernel, rfl, by decide +kernel, by decide +kernel⟩
theorem ok_nr {C CT : Addr} (F : Fun K "near" "Web.near" (s_w 3) f fd) (T : WebC K C) (CH : Df P w K mg base "check_thing" 3 ["many", "thing"] (spCt CT)) (TI : Df P w K mg base "things_in" 1 ["mask"] spTi) :
    FnOk P w K mg base (L2.CX P w) 4 f fd ["self", "x"] (spNr C CT) := by
  refine F.okX sc_nr (fun vs H Q E h => ?_) (fun cdv A outer s H vs Q E hr h => ?_)
  · obtain ⟨p, vx, dx, n, q, rfl, _⟩ := h
    rfl
  · obtain ⟨p, vx, dx, n, q, rfl, W, hx, q1, q2⟩ := h
    obtain ⟨⟨ddx, c, m, l, h1, h2, h3, h4, h5⟩, cl, n0, n8⟩ := id W
    have hr1 : Room 1 _ := hr.mono (by decide)
    refine ⟨_, pss_cons (ps_expr (pe_df CH hr (by rfl) passUp (pa_cons (pe_fld (pv 0) rfl) (pa_cons (pv 1) pa_nil))))
      (pss_one (ps_ret (pe_df TI hr1 (by rfl) passUp (pa_cons (pe_ix ix_tup (pe_fld (pv 0) rfl) (pv 1) (fun _ _ => rfl)) pa_nil)))), ?_⟩
    refine ⟨_, rfl, p, C, ddx, _, _, rfl, h1, T.cl, T.nm, wf_many _ _ _, _, rfl, n, vx, dx, rfl, hx, fun t1 H1 s1 => ?_, q1⟩
    obtain ⟨i, rfl, rfl, i0, iN⟩ := th_int hx t1
    obtain ⟨x, rfl⟩ := Int.eq_ofNat_of_zero_le i0
    refine ⟨_, rfl, p, C, ddx, _, _, rfl, s1 _ _ h1, T.cl, T.nk, wf_masks _ _ _, _, rfl, m, _, (x : Int), _, rfl, rfl, SqT.of (s1 _ _ h5), nvs_at (mask_at W x iN), _, rfl, by have := mask_small W x; omega, fun H2 t s2 nt ht => ?_⟩
    have eb : (List.range (bitsN ((mOf n.toNat q).getD x 0))).filter ((mOf n.toNat q).getD x 0).testBit = nearOf n q x := by
      rw [bitsOf_eq (n := n.toNat) (fun j hj => by rw [mask_bits W]; exact hasP_out W.cl (by omega))]
      unfold bitsOf nearOf
      congr 1
      funext y
      exact mask_bits W x y
    rw [eb] at ht
    exact q2 x rfl iN H2 t (s1.trans s2) (s1.free nt) ht
/-- len -/
def spLn (C : Addr) : Sp := fun vs H Q _ => ∃ (p : Addr) (n : Int) (q : List Pr), vs = [.ref p] ∧ WebAt C H p n q ∧ Ret (.int ((n.toNat : Nat) : Int)) H Q
theorem sc_ln : FnScope ["self"] ["self"] (defScope (s_w 12)) := ⟨rfl, rfl, rfl, by decide +kernel, rfl, by decide +kernel, by decide +kernel⟩
theorem ok_ln {C : Addr} (F : Fun K "__len__" "Web.__len__" (s_w 12) f fd) (B : Blt2 mg) (T : WebC K C) : FnOk P w K mg base (L2.CX P w) 1 f fd ["self"] (spLn C) := by
  refine F.okX sc_ln (fun vs H Q E h => ?_) (fun cdv A outer s H vs Q E hr h => ?_)
  · obtain ⟨p, n, q, rfl, _⟩ := h
    rfl
  · obtain ⟨p, n, q, rfl, W, k⟩ := h
    obtain ⟨⟨ddx, c, m, l, h1, h2, h3, h4, h5⟩, cl, n0, n8⟩ := id W
    refine ⟨_, pss_one (ps_ret (pe_callB call_len_seq (by rfl) B.len PySem.boot_len (pa_cons (pe_fld (pv 0) rfl) pa_nil))), ?_⟩
    refine ⟨_, rfl, p, C, ddx, _, _, rfl, h1, T.cl, T.nk, wf_masks _ _ _, m, _, rfl, .inr (SqT.of h5), ?_⟩
    rw [nvs_len, mOf_len]
    exact k.now
/-- what `in` says of a value -/
def inW (n : Int) (q : List Pr) : PyData → Bool
  | .tuple [.int x, .int y] => decide (0 ≤ x ∧ x < n ∧ 0 ≤ y ∧ y < n) && hasP q x.toNat y.toNat
  | _ => false
def spIn (C : Addr) : Sp := fun vs H Q _ => ∃ (p : Addr) (v : V) (d : PyData) (n : Int) (q : List Pr), vs = [.ref p, v] ∧ WebAt C H p n q ∧ Dt H v d ∧ Ret (.bl (inW n q d)) H Q
theorem sc_in : FnScope ["self", "x", "first", "second"] ["self", "x"] (defScope (s_w 13)) := ⟨rfl, rfl, rfl, by decide +kernel, rfl, by decide +kernel, by decide +kernel⟩
theorem inW_two {n : Int} {q : List Pr} {a b : PyData} : inW n q (.tuple [a, b]) = true → isTh n a = true ∧ isTh n b = true := fun h => by
  unfold inW at h
  split at h
  · rename_i x y e
    cases e
    have := (Bool.and_eq_true_iff.mp h).1
    have z : 0 ≤ x ∧ x < n ∧ 0 ≤ y ∧ y < n := of_decide_eq_true this
    exact ⟨decide_eq_true ⟨z.1, z.2.1⟩, decide_eq_true ⟨z.2.2.1, z.2.2.2⟩⟩
  · cases h
theorem ok_in {C CT : Addr} (F : Fun K "__contains__" "Web.__contains__" (s_w 13) f fd) (B : Blt2 mg) (T : WebC K C) (TH : Df P w K mg base "is_thing" 2 ["many", "value"] spTh) (CL : Mt P w K mg base C "clash" 4 ["self", "x", "y"] (spCl C CT))
    (ncl : NoAttr K C "many") : FnOk P w K mg base (L2.CX P w) 5 f fd ["self", "x"] (spIn C) := by
  refine F.okX sc_in (fun vs H Q E h => ?_) (fun cdv A outer s H vs Q E hr h => ?_)
  · obtain ⟨p, v, d, n, q, rfl, _⟩ := h
    rfl
  · obtain ⟨p, v, d, n, q, rfl, W, hv, k⟩ := h
    obtain ⟨⟨ddx, c, m, l, h1, h2, h3, h4, h5⟩, cl, n0, n8⟩ := id W
    have nd := sc_in.nd
    have hr2 : Room 2 _ := hr.mono (by decide)
    refine ⟨_, pss_cons (ps_if (PW.pt (pw_or (pt_not (pt_val (pe_callB call_isi (by rfl) B.isi (by decide +kernel) (pa_cons (pv 1) (pa_cons (pe_bltn (v := .ty "tuple") (by rfl) B.tuple (by decide +kernel) rfl) pa_nil)))))
        (pw_or1 (pt_cmpR op_ne (pe_callB call_len_seq (by rfl) B.len PySem.boot_len (pa_cons (pv 1) pa_nil)) pe_int (nomark _))))) (pss_one (ps_ret pe_bl)) pss_nil)
      (pss_cons (ps_asg (pv 1) (pg_tup rfl (pgs_cons (pg_name (i := 2) nd rfl (.inl rfl)) (pgs_cons (pg_name (i := 3) nd rfl (.inl rfl)) pgs_nil))))
      (pss_cons (ps_if (PW.pt (pw_or (pt_not (pt_val (pe_df TH hr2 (by rfl) passUp (pa_cons (pe_fld (pv 0) rfl) (pa_cons (pv 2) pa_nil)))))
        (pw_or1 (pt_not (pt_val (pe_df TH hr2 (by rfl) passUp (pa_cons (pe_fld (pv 0) rfl) (pa_cons (pv 3) pa_nil)))))))) (pss_one (ps_ret pe_bl)) pss_nil)
      (pss_one (ps_ret (pe_mt1 CL hr passUp (pv 0) (pa_cons (pv 2) (pa_cons (pv 3) pa_nil))))))), ?_⟩
    have no : ∀ {H'}, Same H H' → inW n q d = false → Q (.bl false) H' := fun {H'} sm e => by
      have := k H' sm
      rw [e] at this
      exact this
    cases hv with
    | non => exact ⟨_, rfl, _, _, _, _, _, rfl, .ty _, .base .non, kit_ty (r := false) (by decide +kernel), _, rfl, iteT (no (Same.refl _) rfl)⟩
    | bl b => exact ⟨_, rfl, _, _, _, _, _, rfl, .ty _, .base (.bl b), kit_ty (r := false) (by decide +kernel), _, rfl, iteT (no (Same.refl _) rfl)⟩
    | int b => exact ⟨_, rfl, _, _, _, _, _, rfl, .ty _, .base (.int b), kit_ty (r := false) (by decide +kernel), _, rfl, iteT (no (Same.refl _) rfl)⟩
    | str b => exact ⟨_, rfl, _, _, _, _, _, rfl, .ty _, .base (.str b), kit_ty (r := false) (by decide +kernel), _, rfl, iteT (no (Same.refl _) rfl)⟩
    | lst e h => exact ⟨_, rfl, _, _, _, _, _, rfl, .ty _, .base (.lst e), kit_ty (r := false) (by decide +kernel), _, rfl, iteT (no (Same.refl _) rfl)⟩
    | @tup a xs ds e h =>
      refine ⟨_, rfl, _, _, _, _, _, rfl, .ty _, .base (.tup e), kit_ty (r := true) (by decide +kernel), _, rfl, iteF ⟨_, rfl, _, xs, rfl, .inr (SqT.of e), rfl, _, rfl, ?_⟩⟩
      by_cases l2 : ds.length = 2
      · match ds, l2, h with
        | [d1, d2], _, .cons (v := v1) g1 (.cons (v := v2) g2 .nil) =>
          refine iteF ⟨_, rfl, a, _, rfl, SqT.of e, rfl, _, _, rfl, _, _, rfl, rfl, ?_⟩
          refine ⟨_, rfl, p, C, ddx, _, _, rfl, h1, T.cl, T.nm, wf_many _ _ _, _, rfl, n, v1, d1, rfl, g1, fun H1 s1 => ⟨_, rfl, ?_⟩⟩
          cases t1 : isTh n d1 with
          | false =>
            refine iteT (no s1 ?_)
            cases z : inW n q (.tuple [d1, d2]) with
            | false => rfl
            | true => rw [(inW_two z).1] at t1; cases t1
          | true =>
            refine iteF ⟨_, rfl, p, C, ddx, _, _, rfl, s1 _ _ h1, T.cl, T.nm, wf_many _ _ _, _, rfl, n, v2, d2, rfl, g2.mono s1, fun H2 s2 => ⟨_, rfl, ?_⟩⟩
            have s12 := s1.trans s2
            cases t2 : isTh n d2 with
            | false =>
              refine iteT (no s12 ?_)
              cases z : inW n q (.tuple [d1, d2]) with
              | false => rfl
              | true => rw [(inW_two z).2] at t2; cases t2
            | true =>
              obtain ⟨i, rfl, rfl, i0, iN⟩ := th_int g1 t1
              obtain ⟨j, rfl, rfl, j0, jN⟩ := th_int g2 t2
              obtain ⟨x, rfl⟩ := Int.eq_ofNat_of_zero_le i0
              obtain ⟨y, rfl⟩ := Int.eq_ofNat_of_zero_le j0
              refine iteF ⟨_, rfl, p, ddx, _, rfl, s12 _ _ h1, wf_no _ _ _ (by decide +kernel) (by decide +kernel) (by decide +kernel), _, rfl, _, rfl, p, _, _, _, _, n, q, rfl, W.mono s12, .int _, .int _, (fun z => by rw [t1] at z; cases z), (fun _ z => by rw [t2] at z; cases z), fun x' y' ex ey _ _ H3 s3 => ?_⟩
              cases ex
              cases ey
              have := k H3 (s12.trans s3)
              have ev : inW n q (.tuple [.int (x : Int), .int (y : Int)]) = hasP q x y := by
                show (decide _ && hasP q ((x : Int).toNat) ((y : Int).toNat)) = _
                rw [decide_eq_true ⟨i0, iN, j0, jN⟩, Int.toNat_natCast, Int.toNat_natCast]
                rfl
              rw [ev] at this
              exact this
      · have ne : (!decide (V.int ((xs.length : Nat) : Int) = V.int 2)) = true := by
          rw [h.len]
          simp
          omega
        rw [ne]
        refine iteT (no (Same.refl _) ?_)
        cases z : inW n q (.tuple ds) with
        | false => rfl
        | true =>
          unfold inW at z
          split at z
          · rename_i x y e
            cases e
            exact absurd rfl l2
          · cases z
end
end K0
set_option Elab.async false
set_option linter.all false
set_option maxRecDepth 100000
set_option maxHeartbeats 4000000
namespace K0
open PySem PySem.Spec PyProof.Rows L2
theorem prD_lay (z : Pr) : (prD z).canLay0 = true := by simp [prD, PyData.canLay0, PyData.canLayAll0]
theorem prs_lay : ∀ zs : List Pr, PyData.canLayAll0 (zs.map prD) = true
  | [] => by simp [PyData.canLayAll0]
  | z :: zs => by rw [List.map_cons]; simp only [PyData.canLayAll0]; rw [prD_lay, prs_lay zs]; rfl
theorem prD_depth (z : Pr) : (prD z).depth ≤ 1 := by simp [prD, PyData.depth, PyData.depthAll]
theorem prs_depth : ∀ zs : List Pr, PyData.depthAll (zs.map prD) ≤ 1
  | [] => by simp [PyData.depthAll]
  | z :: zs => by rw [List.map_cons]; simp only [PyData.depthAll]; exact Nat.max_le.mpr ⟨prD_depth z, prs_depth zs⟩
theorem prsT_shaped (zs : List Pr) : SeqAt.shaped (.tuple (zs.map prD)) = true := by
  unfold SeqAt.shaped
  rw [Bool.and_eq_true, decide_eq_true_iff]
  refine ⟨by simp only [PyData.canLay0]; exact prs_lay zs, ?_⟩
  simp only [PyData.depth]
  have := prs_depth zs
  omega
theorem prsL_shaped (zs : List Pr) : SeqAt.shaped (.list (zs.map prD)) = true := by
  unfold SeqAt.shaped
  rw [Bool.and_eq_true, decide_eq_true_iff]
  refine ⟨by simp only [PyData.canLay0]; exact prs_lay zs, ?_⟩
  simp only [PyData.depth]
  have := prs_depth zs
  omega
theorem prs_eqv (a b : List Pr) : PyData.eqvAll (a.map prD) (b.map prD) = decide (a = b) := PySem.W.eqvAll_map a b
theorem prsT_eqv (a b : List Pr) : PyData.eqv (.tuple (a.map prD)) (.tuple (b.map prD)) = decide (a = b) := by
  rw [PyData.eqv]
  exact prs_eqv a b
theorem prsL_eqv (a b : List Pr) : PyData.eqv (.list (a.map prD)) (.list (b.map prD)) = decide (a = b) := by
  rw [PyData.eqv]
  exact prs_eqv a b
section
variable {P : Program} {w : World} {K : PySem.W.Frag} {mg : Str → Option Value} {base : Heap} {f : Addr} {fd : FuncData}
/-- what isinstance and == ask of the class -/
structure WebI (K : PySem.W.Frag) (C : Addr) : Prop extends WebC K C where
  ha : PySem.W.findIn K (.ref C) "__class__" = some (some (.builtin "object.__class__"))
  hn : PySem.W.specialIn K (.builtin "object.__class__") "__get__" = some (some (.builtin "getset_descriptor.__get__"))
  tk : PySem.W.takesIn K (.builtin "object.__class__") = some true
  hm : PySem.W.mroIn K C (.type "object") = some true
  yes : PySem.W.kitOne K (.ref C) (.ref C) = some true
  no : ∀ T ∈ ["NoneType", "bool", "int", "str", "list", "tuple"], PySem.W.kitOne K (.type T) (.ref C) = some false
  nf : ∀ T ∈ ["int", "list"], PySem.W.notFirst K C (.type T) = true
theorem WebI.ty {C : Addr} (T : WebI K C) {H : Hp} {p : Addr} {n : Int} {q : List Pr} (W : WebAt C H p n q) : TyX K H (.ref p) (.ref C) := by
  obtain ⟨⟨ddx, c, m, l, h1, _⟩, _⟩ := W
  exact .base (.ins h1 T.cl T.ha T.hn T.tk T.hm)
theorem dt_noweb {C : Addr} (T : WebI K C) {H : Hp} {v : V} {d : PyData} (h : Dt H v d) : PySem.W.kitOne K (.type (tyD d)) (.ref C) = some false := T.no _ (by cases h <;> simp [tyD])
/-- isinstance(v, Web) of a web or of data -/
def WebOr (C : Addr) (H : Hp) (v : V) (b : Bool) : Prop := (b = true ∧ ∃ p n q, v = .ref p ∧ WebAt C H p n q) ∨ (b = false ∧ ∃ d, Dt H v d)
theorem isi_web {C : Addr} (T : WebI K C) {H : Hp} {v : V} {b : Bool} {Q : VK} (h : WebOr C H v b) (q : Q (.bl b) H) : rIsi K [v, .ref C] H Q := by
  rcases h with ⟨rfl, p, n, qq, rfl, W⟩ | ⟨rfl, d, h⟩
  · exact ⟨_, _, _, _, _, rfl, .own C, T.ty W, T.yes, q⟩
  · exact ⟨_, _, _, _, _, rfl, .own C, h.ty, dt_noweb T h, q⟩
theorem WebAt.tuple {C : Addr} {H : Hp} {p : Addr} {n : Int} {q : List Pr} (W : WebAt C H p n q) : ∃ (dx c m : Addr) (xs : List V), H p = some (.ins C dx (wf n c m)) ∧ H c = some (.tup xs) ∧ DtAll H xs (q.map prD) := by
  obtain ⟨⟨dx, c, m, l, h1, h2, h3, h4, h5⟩, _⟩ := W
  exact ⟨dx, c, m, _, h1, h2, by rw [h3, List.map_map]; exact dtAll_prs h4⟩
/-- web == other -/
def spEqW (C : Addr) : Sp := fun vs H Q _ => ∃ (p : Addr) (v : V) (n : Int) (q : List Pr), vs = [.ref p, v] ∧ WebAt C H p n q ∧
  ((∃ p' n' q', v = .ref p' ∧ WebAt C H p' n' q' ∧ Ret (.bl (decide (n = n') && decide (q = q'))) H Q) ∨ (∃ d, Dt H v d ∧ Ret (.bl false) H Q))
theorem sc_eqw : FnScope ["self", "other"] ["self", "other"] (defScope (s_w 11)) := ⟨rfl, rfl, rfl, by decide +kernel, rfl, by decide +kernel, by decide +kernel⟩
theorem ok_eqw {C : Addr} (F : Fun K "__eq__" "Web.__eq__" (s_w 11) f fd) (B : Blt2 mg) (T : WebI K C) (g : mg "Web" = some (.ref C)) : FnOk P w K mg base (L2.CX P w) 1 f fd ["self", "other"] (spEqW C) := by
  refine F.okX sc_eqw (fun vs H Q E h => ?_) (fun cdv A outer s H vs Q E hr h => ?_)
  · obtain ⟨p, v, n, q, rfl, _⟩ := h
    rfl
  · obtain ⟨p, v, n, q, rfl, W, k⟩ := h
    obtain ⟨ddx, c, m, xs, h1, h2, h3⟩ := W.tuple
    have hu := hr.units
    refine ⟨_, pss_one (ps_ret (pe_and (pe_callB call_isi (by rfl) B.isi (by decide +kernel) (pa_cons (pv 1) (pa_cons (pe_glob (v := .ref C) (by rfl) g rfl) pa_nil)))
      (pe_and (pe_cmpR op_eq (pe_fld (pv 0) rfl) (pe_fld (pv 1) rfl) (nomark _)) (pe_one (pe_cmpR (op_eqD hu) (pe_fld (pv 0) rfl) (pe_fld (pv 1) rfl) (nomark _)))))), ?_⟩
    refine ⟨_, rfl, ?_⟩
    rcases k with ⟨p', n', q', rfl, W', k⟩ | ⟨d, hd, k⟩
    · obtain ⟨ddx', c', m', xs', h1', h2', h3'⟩ := W'.tuple
      dsimp only [tCons, tC, tNil]
      refine isi_web T (.inl ⟨rfl, p', n', q', rfl, W'⟩) ?_
      refine ⟨_, rfl, iteT ?_⟩
      refine ⟨_, rfl, p, C, ddx, _, _, rfl, h1, T.cl, T.nm, wf_many _ _ _, _, rfl, p', C, ddx', _, _, rfl, h1', T.cl, T.nm, wf_many _ _ _, rfl, _, rfl, ?_⟩
      by_cases en : n = n'
      · subst en
        rw [decide_eq_true rfl]
        refine iteT ⟨_, rfl, p, C, ddx, _, _, rfl, h1, T.cl, T.nc, wf_clashes _ _ _, _, rfl, p', C, ddx', _, _, rfl, h1', T.cl, T.nc, wf_clashes _ _ _, .tuple (q.map prD), .tuple (q'.map prD), (Dt.tup h2 h3).dp, (Dt.tup h2' h3').dp, prsT_shaped _, prsT_shaped _, ?_⟩
        rw [prsT_eqv]
        have := k.now
        rw [decide_eq_true rfl, Bool.true_and] at this
        exact this
      · have : decide (V.int n = V.int n') = false := decide_eq_false fun e => en (by cases e; rfl)
        rw [this]
        have := k.now
        rw [decide_eq_false en, Bool.false_and] at this
        exact iteF this
    · dsimp only [tCons, tC, tNil]
      refine isi_web T (.inr ⟨rfl, d, hd⟩) ?_
      exact ⟨_, rfl, iteF k.now⟩
/-- web[x] -/
theorem sc_gi : FnScope ["self", "at"] ["self", "at"] (defScope (s_w 14)) := ⟨rfl, rfl, rfl, by decide +kernel, rfl, by decide +kernel, by decide +kernel⟩
theorem ok_gi {C CT : Addr} (F : Fun K "__getitem__" "Web.__getitem__" (s_w 14) f fd) (NR : Mt P w K mg base C "near" 4 ["self", "x"] (spNr C CT)) : FnOk P w K mg base (L2.CX P w) 5 f fd ["self", "at"] (spNr C CT) := by
  refine F.okX sc_gi (fun vs H Q E h => ?_) (fun cdv A outer s H vs Q E hr h => ?_)
  · obtain ⟨p, vx, dx, n, q, rfl, _⟩ := h
    rfl
  · have h' := h
    obtain ⟨p, vx, dx, n, q, rfl, W, hx, q1, q2⟩ := h
    obtain ⟨⟨ddx, c, m, l, h1, h2, h3, h4, h5⟩, cl, n0, n8⟩ := id W
    refine ⟨_, pss_one (ps_ret (pe_mt1 NR hr passUp (pv 0) (pa_cons (pv 1) pa_nil))), ?_⟩
    exact ⟨_, rfl, p, ddx, _, rfl, h1, wf_no _ _ _ (by decide +kernel) (by decide +kernel) (by decide +kernel), _, rfl, h'⟩
end
end K0
set_option Elab.async false
set_option linter.all false
set_option maxRecDepth 100000
set_option maxHeartbeats 4000000
namespace K0
open PySem PySem.Spec PyProof.Rows L2
theorem entsOf_prs {n : Int} : ∀ {zs : List Pr}, (∀ z ∈ zs, 0 ≤ z.1 ∧ z.1 < z.2 ∧ z.2 < n) → entsOf n (zs.map prD) = .ok zs
  | [], _ => rfl
  | z :: zs, h => by
    have ih := entsOf_prs (zs := zs) fun y hy => h y (List.mem_cons_of_mem _ hy)
    obtain ⟨x, y⟩ := z
    obtain ⟨a, b, c⟩ := h (x, y) List.mem_cons_self
    dsimp only at a b c
    have e : entOf n (prD (x, y)) = .ok (x, y) := by
      unfold entOf prD pairOf
      dsimp only
      rw [if_pos ⟨a, by omega, by omega, c, by omega⟩]
      congr 2
      · omega
      · omega
    rw [List.map_cons, entsOf, e, ih]
/-- what fresh tuples of pairs stand for -/
def PrsAt (H : Hp) (l : List (Addr × Pr)) : Prop := ∀ z ∈ l, H z.1 = some (.tup [.int z.2.1, .int z.2.2])
theorem PrsAt.mono {H H' : Hp} (s : Same H H') {l : List (Addr × Pr)} (h : PrsAt H l) : PrsAt H' l := fun z hz => s _ _ (h z hz)
section
variable {P : Program} {w : World} {K : PySem.W.Frag} {mg : Str → Option Value} {base : Heap} {f : Addr} {fd : FuncData}
end
end K0
set_option Elab.async false
set_option linter.all false
set_option maxRecDepth 100000
set_option maxHeartbeats 4000000
namespace K0
open PySem PySem.Spec PyProof.Rows L2
theorem prD_shaped (z : Pr) : SeqAt.shaped (prD z) = true := by
  unfold SeqAt.shaped
  rw [Bool.and_eq_true, decide_eq_true_iff]
  exact ⟨prD_lay z, by have := prD_depth z; omega⟩
theorem prD_eqv (a b : Pr) : PyData.eqv (prD a) (prD b) = decide (a = b) := PySem.W.Datum.eqv a b
section
variable {X : Cx} {o e : Expr} {es : List Expr} {to : TE} {t : TA} {apos cpos : Pos}
/-- o.append(e) -/
theorem pe_lapp (ho : PE X o to) (ha : PA X (e :: es) t)
    (hbase : attributeBase o "append" X.env (eval o X.env) = eval o X.env := by rfl)
    (hfew : ((backTo cpos (starEach (e :: es) X.env)).all (fun x => !x.1) && (backToKw cpos (keywordEach [] X.env)).all (fun x => x.1.isSome)
      && decide ((e :: es).length + ([] : List Keyword).length + (if ([] : List Keyword).isEmpty then 0 else 1) < 30)) = true := by rfl)
    (hline : (apos.endLine == cpos.line) = true := by rfl) (hs : starEach (e :: es) X.env = (false, eval e X.env) :: starEach es X.env := by rfl) (hplain : (backTo cpos (starEach es X.env)).any (·.1) = false := by rfl) :
    PE X (.Call (.Attribute o "append" apos) (e :: es) [] cpos) (tBM X.K "list" rAppend to t) :=
  pe_bm PySem.F.plainAttrs_list PySem.F.slot_list_append PySem.F.type_list_append mt_append ho ha hbase hfew hline hs hplain
end
section
variable {P : Program} {w : World} {K : PySem.W.Frag} {mg : Str → Option Value} {base : Heap} {f : Addr} {fd : FuncData}
def rNeT (K : PySem.W.Frag) : R2 := rNeD K
end
end K0
set_option Elab.async false
set_option linter.all false
set_option maxRecDepth 100000
set_option maxHeartbeats 4000000
/-! several clauses, each with or without a name -/
namespace K0
open PySem PySem.Spec PyProof.Rows L2
abbrev Clause := Value × Option Nat × (Addr → Value → Option Addr → TS)
/-- how a clause's suite ends where its name's slot is i -/
def gone (i : Nat) (D : Ends) : Ends := { nx := fun σ' H' => D.nx (σ'.set i none) H', rt := D.rt, bk := fun σ' H' => D.bk (σ'.set i none) H', ct := fun σ' H' => D.ct (σ'.set i none) H' }
def wCl (K : PySem.W.Frag) (Wout : WX) (D : Ends) : List Clause → WX
  | [] => Wout
  | (c, none, ts) :: r => fun cls d σ H => ∃ b, PySem.W.exmOne K cls c = some b ∧ (b = true → ∀ a, H a = none → ts a cls d D σ H) ∧ (b = false → wCl K Wout D r cls d σ H)
  | (c, some i, ts) :: r => fun cls d σ H => ∃ b, PySem.W.exmOne K cls c = some b ∧ (b = true → ∀ a, H a = none → ts a cls d (gone i D) (σ.set i (some (.ref a))) H) ∧ (b = false → wCl K Wout D r cls d σ H)
inductive ClsOk (X : Cx) : List ExceptHandler → List Clause → Prop
  | nil : ClsOk X [] []
  | cons {x : Str} {c : Value} {ts : Addr → Value → Option Addr → TS} {b₀ : Stmt} {suite : List Stmt} {np pos' : Pos} {hds : List ExceptHandler} {l : List Clause} (hc : Names X x c)
      (hsu : ∀ (a : Addr) (oe : Obj) (cls : Value) (d : Option Addr) (pn : List (Addr × Obj)), Zc cls d oe → (∃ vs, oe.data = .fields vs) → PSs (X.suite a ((a, oe) :: pn)) (b₀ :: suite) (ts a cls d)) (r : ClsOk X hds l) :
      ClsOk X (.ExceptHandler (some (.Name x np)) none (b₀ :: suite) pos' :: hds) ((c, none, ts) :: l)
  | as {x n : Str} {c : Value} {i : Nat} {ts : Addr → Value → Option Addr → TS} {b₀ : Stmt} {suite : List Stmt} {np pos' : Pos} {hds : List ExceptHandler} {l : List Clause} (hN : X.N.Nodup) (hi : X.N[i]? = some n) (hln : X.env.kindOf n = some .local) (hc : Names X x c)
      (hsu : ∀ (a : Addr) (oe : Obj) (cls : Value) (d : Option Addr) (pn : List (Addr × Obj)), Zc cls d oe → (∃ vs, oe.data = .fields vs) → PSs (X.suite a ((a, oe) :: pn)) (b₀ :: suite) (ts a cls d)) (r : ClsOk X hds l) :
      ClsOk X (.ExceptHandler (some (.Name x np)) (some n) (b₀ :: suite) pos' :: hds) ((c, some i, ts) :: l)
section
variable {X : Cx} {body : List Stmt} {h₀ : ExceptHandler} {hds : List ExceptHandler} {l : List Clause} {pos : Pos} {tb : WX → TS} {Wout : WX}
theorem ps_try_any (hs : X.stack = X.env :: X.outer) (hf : X.env.frame = some X.env.locals) (tk : Takes X Wout)
    (hb : ∀ (W : WX) (pn : List (Addr × Obj)) (xe : Value → Shared → Prop), Takes (X.tr pn xe) W → PassesOwn (model X.prog X.w) X.A X.env xe → PSs (X.tr pn xe) body (tb W))
    (hh : ClsOk X (h₀ :: hds) l) : PS X (.Try body (h₀ :: hds) [] [] pos) (fun D σ H => tb (wCl X.K Wout D l) D σ H) := by
  refine ⟨fun pins s σ H D I h => ?_⟩
  have ok := I.ok
  have hfr : X.A.frames = some (X.env :: X.outer) := by rw [ok.frames, hs]
  refine wpAny_Try_except ?_
  refine wpAny_mono ((hb (wCl X.K Wout D l) (X.pn ++ pins) (fun e s₁ => wpAny (model X.prog X.w) X.A (noteFrame e X.env) (fun _ s₂ => wpAny (model X.prog X.w) X.A (setFlight e none) (fun _ s₃ =>
    wpAny (model X.prog X.w) X.A (handleBy e X.env (h₀ :: hds)) (SP X pins D) X.xe s₃) X.xe s₂) X.xe s₁) (fun u s' xx => ?_) PassesOwn.looking).run [] s σ H D (I.toTry _) h) (fun f s1 hsp => ?_) (fun e s1 he => he)
  · obtain ⟨a, B, sI, pins', σ', H', cls, d, rfl, J', nb, up, sky, na, os, ag, w⟩ := xx
    have J : Inv X pins σ' H' sI := J'.ofTry ok
    have sky' : Sky B (X.env :: X.outer) a (Zc cls d) X.env.locals s'.heap := by rw [← hs]; exact sky
    show wpAny (model X.prog X.w) X.A (noteFrame (.ref a) X.env) _ _ _
    refine Sky.land Zc.steady hfr hf sky' fun h3 fl3 up3 => ?_
    have J3 : Inv X pins σ' H' { s' with heap := h3 } := J.landed nb fl3.1 (up.trans up3) os ag
    obtain ⟨oe3, vs3, he3, hz3, hd3⟩ := fl3.there
    have notFr : ∀ {h : Heap} {o : Obj} {vs : Array Value}, h.FunFrames B (X.env :: X.outer) → h.get? a = some o → o.data = .fields vs → a ∉ frs (X.env :: X.outer) := fun {h o vs} ff e dd hm => by
      obtain ⟨_, o', e', hnf⟩ := ff.mem hm
      rw [e] at e'
      cases e'
      exact hnf _ dd
    have nfr := notFr fl3.2.2.1 he3 hd3
    have nL : a ≠ X.env.locals := fun z => nfr (List.mem_filterMap.mpr ⟨X.env, List.mem_cons_self, by rw [hf, z]⟩)
    have nF : a ∉ X.fs := fun hm => by
      obtain ⟨e, he, q⟩ := List.mem_filterMap.mp hm
      exact nfr (List.mem_filterMap.mpr ⟨e, List.mem_cons_of_mem _ he, q⟩)
    have S3 := J3.suite he3 hd3 na nL nF
    have LT : PySem.W.Looks (model X.prog X.w) h3 (typeOf (.ref a)) cls := fun A Q E s k q => wpAny_typeOf_ref (k _ _ he3) (by rw [hz3.1]; exact q)
    have test : ∀ {x : Str} {np : Pos} {c : Value} {Q : Value → Shared → Prop} {E : Value → Shared → Prop}, Names X x c → Q c { s' with heap := h3 } → wpAny (model X.prog X.w) (X.A.mark (some (.ref a))) (eval (.Name x np) X.env) Q E { s' with heap := h3 } := fun {x np c Q E} hc q => by
      obtain ⟨hg, hdbg, hm | ⟨hm, hv, hnn⟩⟩ := hc
      · exact ld_glob (X := X.suite a ((a, oe3) :: (X.pn ++ pins))) S3 hg hm q hdbg
      · exact ld_blt (X := X.suite a ((a, oe3) :: (X.pn ++ pins))) S3 hg hm hv q hnn hdbg
    have go : ∀ {hds' : List ExceptHandler} {l' : List Clause}, ClsOk X hds' l' → wCl X.K Wout D l' cls d σ' H' → wpAny (model X.prog X.w) X.A (handleBy (.ref a) X.env hds') (SP X pins D) X.xe { s' with heap := h3 } := by
      intro hds' l' hk
      induction hk with
      | nil =>
        intro w
        refine wpAny_handleBy_nil ?_
        obtain ⟨k1, k2, k3, oe, vs, T, oT, ts', he, hz, hd, h1, hr⟩ := id fl3
        unfold PySem.passOn
        refine wpAny_bind (wpAny_field he hd h1 ?_)
        rw [if_neg (show ¬ ((Value.ref T == Value.none) = true) from by simp)]
        have fin : wpAny (model X.prog X.w) X.A (setFlight (.ref a) X.env.frame) (fun _ s4 => wpAny (model X.prog X.w) X.A (throw (.ref a) : Sem Flow) (SP X pins D) X.xe s4) X.xe { s' with heap := h3 } := by
          rw [hf]
          refine HandSPX.setFlight_upZ fl3 fun h4 hh4 up4 => wpAny_throw (tk _ _ ?_)
          exact ⟨a, B, sI, pins, σ', H', cls, d, rfl, J, nb, (up.trans up3).trans up4, .inr (.inr (by rw [hs]; exact hh4)), na, os, ag, w⟩
        first
          | exact wpAny_bind (wpAny_pure (wpAny_bind fin))
          | exact wpAny_bind fin
      | @cons x c ts b₀ suite np pos' hds2 l2 hc hsu r ih =>
        intro w
        obtain ⟨b, hb1, hyes, hno⟩ := w
        refine wpAny_handleBy_cons (codeAny_handlers_test ?_) (by intro q; cases q)
        have LM := PySem.W.exm_one (M := model X.prog X.w) (J3.kIn) LT hb1
        refine test hc (LM.here ?_)
        cases b with
        | true =>
          refine codeAny_handlers_suite ?_
          refine HandSPX.lands_againZ fl3 fun h4 fl4 up4 => ?_
          have J4 : Inv X pins σ' H' { s' with heap := h4 } := J.landed nb fl4.1 ((up.trans up3).trans up4) os ag
          obtain ⟨oe4, vs4, he4, hz4, hd4⟩ := fl4.there
          have S4 := J4.suite he4 hd4 na nL nF
          refine wpAny_mono ((hsu a oe4 cls d (X.pn ++ pins) hz4 ⟨_, hd4⟩).run [] _ _ H' _ S4 (hyes rfl a na)) (fun f s6 hsp => ?_) (fun _ _ z => False.elim z)
          cases f with
          | next =>
            obtain ⟨σ6, H6, S6, q6⟩ := hsp
            exact ⟨_, _, S6.unsuite ok, q6⟩
          | brk =>
            obtain ⟨σ6, H6, S6, q6⟩ := hsp
            exact ⟨_, _, S6.unsuite ok, q6⟩
          | cont =>
            obtain ⟨σ6, H6, S6, q6⟩ := hsp
            exact ⟨_, _, S6.unsuite ok, q6⟩
          | ret u =>
            obtain ⟨v6, σ6, H6, S6, r6, q6⟩ := hsp
            exact ⟨_, _, _, S6.unsuite ok, r6, q6⟩
        | false =>
          show wpAny _ X.A (handleBy (.ref a) X.env hds2) _ _ _
          exact ih (hno rfl)
      | @as x n c i ts b₀ suite np pos' hds2 l2 hN hi hln hc hsu r ih =>
        intro w
        obtain ⟨b, hb1, hyes, hno⟩ := w
        refine wpAny_handleBy_cons (codeAny_handlers_test ?_) (by intro q; cases q)
        have LM := PySem.W.exm_one (M := model X.prog X.w) (J3.kIn) LT hb1
        refine test hc (LM.here ?_)
        cases b with
        | true =>
          refine codeAny_handlers_suite_as ?_
          refine HandSPX.lands_againZ fl3 fun h4 fl4 up4 => ?_
          have J4 : Inv X pins σ' H' { s' with heap := h4 } := J.landed nb fl4.1 ((up.trans up3).trans up4) os ag
          obtain ⟨oe4, vs4, he4, hz4, hd4⟩ := fl4.there
          have S4 := J4.suite he4 hd4 na nL nF
          refine store_ok (X := X.suite a ((a, oe4) :: (X.pn ++ pins))) (v := .ref a) S4 hN hi (.inl hln) rfl (fun s5 S5 => ?_) (.inr hln)
          refine wpAny_mono ((hsu a oe4 cls d (X.pn ++ pins) hz4 ⟨_, hd4⟩).run [] s5 _ H' _ S5 (hyes rfl a na)) (fun f s6 hsp => ?_) (fun _ _ z => False.elim z)
          have end_ : ∀ {σ6 : L2.St} {H6 : Hp} {Q : Shared → Prop}, Inv (X.suite a ((a, oe4) :: (X.pn ++ pins))) [] σ6 H6 s6 → (∀ s7, Inv X pins (σ6.set i none) H6 s7 → Q s7) →
              wpAny (model X.prog X.w) X.A (do bindName X.env n .none; unbindBehindTheSuite X.env n pos') (fun _ s7 => Q s7) X.xe s6 := fun {σ6 H6 Q} S6 hq => gone_ok (S6.unsuite ok) hN hi hln hq
          cases f with
          | next =>
            obtain ⟨σ6, H6, S6, q6⟩ := hsp
            exact end_ S6 fun s7 J7 => ⟨_, _, J7, q6⟩
          | brk =>
            obtain ⟨σ6, H6, S6, q6⟩ := hsp
            exact end_ S6 fun s7 J7 => ⟨_, _, J7, q6⟩
          | cont =>
            obtain ⟨σ6, H6, S6, q6⟩ := hsp
            exact end_ S6 fun s7 J7 => ⟨_, _, J7, q6⟩
          | ret u =>
            obtain ⟨v6, σ6, H6, S6, r6, q6⟩ := hsp
            exact end_ S6 fun s7 J7 => ⟨_, _, _, J7, r6, q6⟩
        | false =>
          show wpAny _ X.A (handleBy (.ref a) X.env hds2) _ _ _
          exact ih (hno rfl)
    exact go hh w
  · cases f with
    | next =>
      obtain ⟨σ', H', J', q⟩ := hsp
      exact wpAny_execs_nil ⟨σ', H', J'.ofTry ok, q⟩
    | brk =>
      obtain ⟨σ', H', J', q⟩ := hsp
      exact ⟨σ', H', J'.ofTry ok, q⟩
    | cont =>
      obtain ⟨σ', H', J', q⟩ := hsp
      exact ⟨σ', H', J'.ofTry ok, q⟩
    | ret u =>
      obtain ⟨v, σ', H', J', r, q⟩ := hsp
      exact ⟨v, σ', H', J'.ofTry ok, r, q⟩
end
end K0
set_option Elab.async false
set_option linter.all false
set_option maxRecDepth 100000
set_option maxHeartbeats 4000000
namespace K0
open PySem PySem.Spec PyProof.Rows L2
/-! ### the law's small helpers -/
theorem passE0 {X : Cx} : Passes (L2.CX X.prog X.w) X (fun _ _ _ => False) := fun _ _ _ _ _ _ _ hq => by
  obtain ⟨_, _, _, _, _, _, _, _, _, _, _, _, z⟩ := hq
  exact z.elim
theorem pe_sel {X : Cx} {e : Expr} {t : L2.St → TE} (h : ∀ σ0, PE X e (t σ0)) : PE X e (fun σ H Q => t σ σ H Q) := ⟨fun pins s σ H Q I hq => (h σ).run pins s σ H Q I hq⟩
def reprD : PyData → Option Str
  | .none => some "None"
  | .bool b => some (if b then "True" else "False")
  | .int i => if i.natAbs < 1000 then some (Str.ofString (toString i)) else none
  | _ => none
theorem cr_repr {X : Cx} : CallR X (.builtin "repr") (fun xs H Q => ∃ v d x, xs = [v] ∧ Dt H v d ∧ reprD d = some x ∧ Q (.str x) H) := by
  intro pins s σ H xs us Q I r h
  obtain ⟨v, d, x, rfl, hv, e, q⟩ := h
  obtain ⟨u, rfl, ru⟩ := vals1 r
  cases hv with
  | non =>
    cases e
    cases ru
    exact PySem.P.repr_of_none ⟨.str _, H, I.tok _, ⟨_, rfl⟩, q⟩
  | bl b =>
    cases e
    cases ru
    exact PySem.P.repr_of_bool ⟨.str _, H, I.tok _, ⟨_, rfl⟩, q⟩
  | int i =>
    have e' : (if i.natAbs < 1000 then some (Str.ofString (toString i)) else none) = some x := e
    by_cases hi : i.natAbs < 1000
    · rw [if_pos hi] at e'
      cases e'
      obtain ⟨t, rfl⟩ := ru
      refine PySem.P.repr_of_int ?_ ⟨.str _, H, I.tok _, ⟨_, rfl⟩, q⟩
      by_cases z : i.natAbs = 0
      · rw [z]
        decide
      · exact Nat.lt_of_lt_of_le ((Nat.log2_lt z).mpr (Nat.lt_of_lt_of_le hi (by decide : 1000 ≤ 2 ^ 10))) (by decide)
    · rw [if_neg hi] at e'
      cases e'
  | str x => cases e
  | lst _ _ => cases e
  | tup _ _ => cases e
section
variable {P : Program} {w : World} {K : PySem.W.Frag} {mg : Str → Option Value} {base : Heap} {f : Addr} {fd : FuncData}
abbrev s_li : Stmt := top 35
abbrev s_ri : Stmt := top 41
abbrev s_du : Stmt := top 44
abbrev s_sy : Stmt := top 45
theorem sc_li : FnScope ["_law_value"] ["_law_value"] (defScope s_li) := ⟨rfl, rfl, rfl, by decide +kernel, rfl, by decide +kernel, by decide +kernel⟩
theorem ok_li (F : Fun K "_law_int" "_law_int" s_li f fd) (B : Blt2 mg) : FnOk P w K mg base (L2.CX P w) 1 f fd ["_law_value"] spInt := by
  refine F.okX sc_li (fun vs H Q E h => ?_) (fun cdv A outer s H vs Q E hr h => ?_)
  · obtain ⟨v, d, rfl, _⟩ := h
    rfl
  · obtain ⟨v, d, rfl, hv, q⟩ := h
    refine ⟨_, pss_one (ps_ret (pe_and
      (pe_callB call_isi (by rfl) B.isi (by decide +kernel) (pa_cons (pv 0) (pa_cons (pe_bltn (v := .ty "int") (by rfl) B.int (by decide +kernel) rfl) pa_nil)))
      (pe_one (pe_not (pe_callB call_isi (by rfl) B.isi (by decide +kernel) (pa_cons (pv 0) (pa_cons (pe_bltn (v := .ty "bool") (by rfl) B.bool (by decide +kernel) rfl) pa_nil))))))), ?_⟩
    cases hv with
    | non => exact ⟨_, rfl, _, _, _, _, _, rfl, .ty _, .base .non, kit_ty (r := false) (by decide +kernel), _, rfl, iteF q⟩
    | bl b => exact ⟨_, rfl, _, _, _, _, _, rfl, .ty _, .base (.bl b), kit_ty (r := true) (by decide +kernel), _, rfl, iteT ⟨_, rfl, _, _, _, _, _, rfl, .ty _, .base (.bl b), kit_ty (r := true) (by decide +kernel), _, rfl, q⟩⟩
    | int i => exact ⟨_, rfl, _, _, _, _, _, rfl, .ty _, .base (.int i), kit_ty (r := true) (by decide +kernel), _, rfl, iteT ⟨_, rfl, _, _, _, _, _, rfl, .ty _, .base (.int i), kit_ty (r := false) (by decide +kernel), _, rfl, q⟩⟩
    | str x => exact ⟨_, rfl, _, _, _, _, _, rfl, .ty _, .base (.str x), kit_ty (r := false) (by decide +kernel), _, rfl, iteF q⟩
    | tup e _ => exact ⟨_, rfl, _, _, _, _, _, rfl, .ty _, .base (.tup e), kit_ty (r := false) (by decide +kernel), _, rfl, iteF q⟩
    | lst e _ => exact ⟨_, rfl, _, _, _, _, _, rfl, .ty _, .base (.lst e), kit_ty (r := false) (by decide +kernel), _, rfl, iteF q⟩
/-- _law_is_due -/
def spDu : Sp := fun vs H Q _ => ∃ i k, vs = [.int i, .int k] ∧ Ret (.bl (i == k)) H Q
theorem sc_du : FnScope ["_law_told", "_law_due"] ["_law_told", "_law_due"] (defScope s_du) := ⟨rfl, rfl, rfl, by decide +kernel, rfl, by decide +kernel, by decide +kernel⟩
theorem ok_du (F : Fun K "_law_is_due" "_law_is_due" s_du f fd) (LI : Df P w K mg base "_law_int" 1 ["_law_value"] spInt) : FnOk P w K mg base (L2.CX P w) 2 f fd ["_law_told", "_law_due"] spDu := by
  refine F.okX sc_du (fun vs H Q E h => ?_) (fun cdv A outer s H vs Q E hr h => ?_)
  · obtain ⟨i, k, rfl, _⟩ := h
    rfl
  · obtain ⟨i, k, rfl, q⟩ := h
    refine ⟨_, pss_one (ps_ret (pe_and (pe_df LI hr (by rfl) passUp (pa_cons (pv 0) pa_nil)) (pe_one (pe_cmpR op_eq (pv 0) (pv 1) (nomark _))))), ?_⟩
    refine ⟨_, rfl, .int i, .int i, rfl, .int i, _, rfl, iteT ⟨_, rfl, _, rfl, rfl, ?_⟩⟩
    rw [dec_int]
    exact q.now
/-- _law_says -/
def spSy : Sp := fun vs H Q _ => ∃ a b, vs = [.bl a, .bl b] ∧ Ret (.bl (a == b)) H Q
theorem sc_sy : FnScope ["_law_told", "_law_due"] ["_law_told", "_law_due"] (defScope s_sy) := ⟨rfl, rfl, rfl, by decide +kernel, rfl, by decide +kernel, by decide +kernel⟩
theorem ok_sy (F : Fun K "_law_says" "_law_says" s_sy f fd) (B : Blt2 mg) : FnOk P w K mg base (L2.CX P w) 1 f fd ["_law_told", "_law_due"] spSy := by
  refine F.okX sc_sy (fun vs H Q E h => ?_) (fun cdv A outer s H vs Q E hr h => ?_)
  · obtain ⟨i, k, rfl, _⟩ := h
    rfl
  · obtain ⟨a, b, rfl, q⟩ := h
    refine ⟨_, pss_one (ps_ret (pe_and (pe_callB call_isi (by rfl) B.isi (by decide +kernel) (pa_cons (pv 0) (pa_cons (pe_bltn (v := .ty "bool") (by rfl) B.bool (by decide +kernel) rfl) pa_nil))) (pe_one (pe_cmpR op_eq (pv 0) (pv 1) (nomark _))))), ?_⟩
    refine ⟨_, rfl, _, _, _, _, _, rfl, .ty _, .base (.bl a), kit_ty (r := true) (by decide +kernel), _, rfl, iteT ⟨_, rfl, _, rfl, rfl, ?_⟩⟩
    have e : decide (V.bl a = V.bl b) = (a == b) := by cases a <;> cases b <;> rfl
    rw [e]
    exact q.now
end
theorem intsT_lay : ∀ ns : List Int, PyData.canLayAll0 (ns.map PyData.int) = true
  | [] => by simp [PyData.canLayAll0]
  | n :: r => by rw [List.map_cons]; simp only [PyData.canLayAll0, PyData.canLay0]; rw [intsT_lay r]; rfl
theorem intsT_depth : ∀ ns : List Int, PyData.depthAll (ns.map PyData.int) ≤ 0
  | [] => by simp [PyData.depthAll]
  | n :: r => by rw [List.map_cons]; simp only [PyData.depthAll, PyData.depth]; exact Nat.max_le.mpr ⟨Nat.le_refl _, intsT_depth r⟩
theorem intsT_shaped (ns : List Int) : SeqAt.shaped (.tuple (ns.map PyData.int)) = true := by
  unfold SeqAt.shaped
  rw [Bool.and_eq_true, decide_eq_true_iff]
  refine ⟨by simp only [PyData.canLay0]; exact intsT_lay ns, ?_⟩
  simp only [PyData.depth]
  have := intsT_depth ns
  omega
theorem intsL_shaped (ns : List Int) : SeqAt.shaped (.list (ns.map PyData.int)) = true := by
  unfold SeqAt.shaped
  rw [Bool.and_eq_true, decide_eq_true_iff]
  refine ⟨by simp only [PyData.canLay0]; exact intsT_lay ns, ?_⟩
  simp only [PyData.depth]
  have := intsT_depth ns
  omega
theorem ints_eqv (a b : List Int) : PyData.eqvAll (a.map PyData.int) (b.map PyData.int) = decide (a = b) := PySem.W.eqvAll_map a b
theorem intsT_eqv (a b : List Int) : PyData.eqv (.tuple (a.map PyData.int)) (.tuple (b.map PyData.int)) = decide (a = b) := by
  rw [PyData.eqv]
  exact ints_eqv a b
theorem intsL_eqv (a b : List Int) : PyData.eqv (.list (a.map PyData.int)) (.list (b.map PyData.int)) = decide (a = b) := by
  rw [PyData.eqv]
  exact ints_eqv a b
section
variable {P : Program} {w : World} {K : PySem.W.Frag} {mg : Str → Option Value} {base : Heap} {f : Addr} {fd : FuncData}
/-- _law_row_is -/
def spRi : Sp := fun vs H Q _ => ∃ (a b : Addr) (ms ns : List Int), vs = [.ref a, .ref b] ∧ H a = some (.tup (ms.map V.int)) ∧ (H b = some (.lst (ns.map V.int)) ∨ H b = some (.tup (ns.map V.int))) ∧ Ret (.bl (decide (ms = ns))) H Q
theorem sc_ri : FnScope ["_law_told", "_law_due", "_law_x"] ["_law_told", "_law_due"] (defScope s_ri) := ⟨rfl, rfl, rfl, by decide +kernel, rfl, by decide +kernel, by decide +kernel⟩
theorem ok_ri (F : Fun K "_law_row_is" "_law_row_is" s_ri f fd) (B : Blt2 mg) (LI : Df P w K mg base "_law_int" 1 ["_law_value"] spInt) : FnOk P w K mg base (L2.CX P w) 2 f fd ["_law_told", "_law_due"] spRi := by
  refine F.okX sc_ri (fun vs H Q E h => ?_) (fun cdv A outer s H vs Q E hr h => ?_)
  · obtain ⟨a, b, ms, ns, rfl, _⟩ := h
    rfl
  · obtain ⟨a, b, ms, ns, rfl, ha, hb, q⟩ := h
    have nd := sc_ri.nd
    have hu := hr.units
    refine ⟨_, pss_cons (ps_if (PW.pt (pw_or (pt_not (pt_val (pe_callB call_isi (by rfl) B.isi (by decide +kernel) (pa_cons (pv 0) (pa_cons (pe_bltn (v := .ty "tuple") (by rfl) B.tuple (by decide +kernel) rfl) pa_nil)))))
        (pw_or1 (pt_cmpR (op_neD hu) (pv 0) (pe_callTy call_tuple_of (by rfl) B.tuple (by decide +kernel) (pa_cons (pv 1) pa_nil)) (by rfl))))) (pss_one (ps_ret pe_bl)) pss_nil)
      (pss_one (ps_ret (pe_cmpR op_eq (pe_callB call_len_seq (by rfl) B.len PySem.boot_len (pa_cons (pe_lc (own := [("_law_x", 2)]) (g := gName 2) (tt := tNot (tTest (tCall spInt [] (fun _ _ _ => False) (tCons (tVar 2) tNil)))) (te := tVar 2) rfl nd (pi_tup (pv 0))
        (blkOk_by (N := ["_law_told", "_law_due", "_law_x"]) (sc := defScope s_ri) (by decide +kernel)) (fun _ _ _ _ _ => pg_name (i := 2) nd rfl (.inl rfl)) (fun _ _ _ _ _ => pts_one (pt_not (pt_val (pe_df LI hr (by rfl) passE0 (pa_cons (pv 2) pa_nil))))) (fun _ _ _ _ _ => pv 2)) pa_nil)) pe_int (nomark _)))), ?_⟩
    have ty : TyX K H (.ref a) (.type "tuple") := .base (.tup ha)
    refine ⟨_, rfl, _, _, _, _, _, rfl, .ty _, ty, kit_ty (r := true) (by decide +kernel), _, rfl, iteF ⟨_, rfl, _, rfl, b, ns.map V.int, rfl, ?_⟩⟩
    rcases hb with hb | hb
    · refine .inl ⟨SqL.of hb, fun c nc => ?_⟩
      have s1 : Same H (upd H c (.tup (ns.map V.int))) := same_upd nc
      refine ⟨.tuple (ms.map .int), .tuple (ns.map .int), (Dt.tup (s1 _ _ ha) (DtAll.ints _ ms)).dp, (Dt.tup upd_same (DtAll.ints _ ns)).dp, intsT_shaped _, intsT_shaped _, _, rfl, ?_⟩
      rw [intsT_eqv]
      by_cases e : ms = ns
      · rw [decide_eq_true e]
        refine iteF ⟨_, rfl, a, rfl, ⟨_, SqT.of (s1 _ _ ha)⟩, fun D nD => ?_⟩
        refine lc_it (walk_tup (K := K) (a := a) (xs := ms.map V.int)) (fun i H' => Same (upd H c (.tup (ns.map V.int))) H' ∧ H' D = some (.lst [])) ⟨same_upd nD, upd_same⟩ (fun i H' _ z => SqT.of (z.1 _ _ (s1 _ _ ha))) (fun i v H' H2 hi z y => ?_) (fun H' z => ?_)
        · obtain ⟨rfl, hv⟩ := y
          rw [List.getElem?_map] at hv
          obtain ⟨k, hk, rfl⟩ := Option.map_eq_some_iff.mp hv
          exact ⟨rfl, _, rfl, .int k, .int k, rfl, .int k, _, rfl, iteF z⟩
        · refine ⟨D, _, rfl, .inl (SqL.of z.2), rfl, ?_⟩
          have := q H' ((s1).trans z.1)
          rw [decide_eq_true e] at this
          exact this
      · rw [decide_eq_false e]
        have := q (upd H c (.tup (ns.map V.int))) s1
        rw [decide_eq_false e] at this
        exact iteT this
    · refine .inr ⟨SqT.of hb, ?_⟩
      refine ⟨.tuple (ms.map .int), .tuple (ns.map .int), (Dt.tup ((Same.refl H) _ _ ha) (DtAll.ints _ ms)).dp, (Dt.tup hb (DtAll.ints _ ns)).dp, intsT_shaped _, intsT_shaped _, _, rfl, ?_⟩
      rw [intsT_eqv]
      by_cases e : ms = ns
      · rw [decide_eq_true e]
        refine iteF ⟨_, rfl, a, rfl, ⟨_, SqT.of ((Same.refl H) _ _ ha)⟩, fun D nD => ?_⟩
        refine lc_it (walk_tup (K := K) (a := a) (xs := ms.map V.int)) (fun i H' => Same H H' ∧ H' D = some (.lst [])) ⟨same_upd nD, upd_same⟩ (fun i H' _ z => SqT.of (z.1 _ _ ((Same.refl H) _ _ ha))) (fun i v H' H2 hi z y => ?_) (fun H' z => ?_)
        · obtain ⟨rfl, hv⟩ := y
          rw [List.getElem?_map] at hv
          obtain ⟨k, hk, rfl⟩ := Option.map_eq_some_iff.mp hv
          exact ⟨rfl, _, rfl, .int k, .int k, rfl, .int k, _, rfl, iteF z⟩
        · refine ⟨D, _, rfl, .inl (SqL.of z.2), rfl, ?_⟩
          have := q H' (((Same.refl H)).trans z.1)
          rw [decide_eq_true e] at this
          exact this
      · rw [decide_eq_false e]
        have := q H (Same.refl H)
        rw [decide_eq_false e] at this
        exact iteT this
end
end K0
set_option Elab.async false
set_option linter.all false
set_option maxRecDepth 100000
set_option maxHeartbeats 4000000
namespace K0
open PySem PySem.Spec PyProof.Rows L2
/-! ### rows of ints -/
abbrev Rw := List Int
def rwD (r : Rw) : PyData := .tuple (r.map PyData.int)
theorem prD_rwD (p : Pr) : prD p = rwD [p.1, p.2] := rfl
theorem prs_rws (ps : List Pr) : ps.map prD = (ps.map fun p => [p.1, p.2]).map rwD := by
  rw [List.map_map]
  rfl
theorem dta_ints {H : Hp} : ∀ {xs : List V} {r : List Int}, DtAll H xs (r.map PyData.int) → xs = r.map V.int
  | [], [], _ => rfl
  | _ :: _, [], h => by cases h
  | [], _ :: _, h => by cases h
  | x :: xs, n :: r, h => by
    cases h with
    | cons a b =>
      cases a
      rw [dta_ints b, List.map_cons]
theorem dt_row {H : Hp} {v : V} {r : Rw} (h : Dt H v (rwD r)) : ∃ a, v = .ref a ∧ H a = some (.tup (r.map V.int)) := by
  cases h with
  | tup e h => exact ⟨_, rfl, by rw [e, dta_ints h]⟩
theorem dta_row {H : Hp} {xs : List V} {rs : List Rw} {i : Nat} {v : V} (h : DtAll H xs (rs.map rwD)) (e : xs[i]? = some v) : ∃ r a, rs[i]? = some r ∧ v = .ref a ∧ H a = some (.tup (r.map V.int)) := by
  obtain ⟨d, hd, h⟩ := h.at e
  rw [List.getElem?_map] at hd
  obtain ⟨r, hr, rfl⟩ := Option.map_eq_some_iff.mp hd
  obtain ⟨a, ea, ha⟩ := dt_row h
  exact ⟨r, a, hr, ea, ha⟩
def sameRw (ps qs : List Rw) (k : Nat) : Bool := decide (ps.getD k [] = qs.getD k [])
theorem sameRw_all {ps qs : List Rw} (hl : ps.length = qs.length) : (((((List.range qs.length).filter fun k => !sameRw ps qs k).length : Nat) : Int) == 0) = decide (ps = qs) := by
  rw [Bool.eq_iff_iff, beq_iff_eq, decide_eq_true_iff]
  have e1 : ((((List.range qs.length).filter fun k => !sameRw ps qs k).length : Nat) : Int) = 0 ↔ (List.range qs.length).filter (fun k => !sameRw ps qs k) = [] := by
    rw [← List.length_eq_zero_iff]
    omega
  rw [e1, List.filter_eq_nil_iff]
  constructor
  · intro h
    refine List.ext_getElem hl fun i h1 h2 => ?_
    have := h i (List.mem_range.mpr h2)
    have e : sameRw ps qs i = true := by
      cases z : sameRw ps qs i with
      | true => rfl
      | false => rw [z] at this; exact absurd rfl this
    have e := of_decide_eq_true e
    rw [List.getD_eq_getElem?_getD, List.getD_eq_getElem?_getD, List.getElem?_eq_getElem h1, List.getElem?_eq_getElem h2] at e
    exact e
  · intro h k _
    subst h
    unfold sameRw
    simp
section
variable {P : Program} {w : World} {K : PySem.W.Frag} {mg : Str → Option Value} {base : Heap} {f : Addr} {fd : FuncData}
abbrev s_rr : Stmt := top 42
/-- a list or tuple of rows -/
def SqW (H : Hp) (b : Addr) (qs : List Rw) : Prop := ∃ ys, (H b = some (.lst ys) ∨ H b = some (.tup ys)) ∧ DtAll H ys (qs.map rwD)
/-- _law_rows_are -/
def spRw : Sp := fun vs H Q _ => ∃ (a b : Addr) (xs : List V) (ps qs : List Rw), vs = [.ref a, .ref b] ∧ H a = some (.tup xs) ∧ DtAll H xs (ps.map rwD) ∧ SqW H b qs ∧ qs.length ≤ 1000000 ∧ Ret (.bl (decide (ps = qs))) H Q
theorem sc_rr : FnScope ["_law_told", "_law_due", "_law_k"] ["_law_told", "_law_due"] (defScope s_rr) := ⟨rfl, rfl, rfl, by decide +kernel, rfl, by decide +kernel, by decide +kernel⟩
theorem ok_rw (F : Fun K "_law_rows_are" "_law_rows_are" s_rr f fd) (B : Blt2 mg) (RI : Df P w K mg base "_law_row_is" 2 ["_law_told", "_law_due"] spRi) : FnOk P w K mg base (L2.CX P w) 3 f fd ["_law_told", "_law_due"] spRw := by
  refine F.okX sc_rr (fun vs H Q E h => ?_) (fun cdv A outer s H vs Q E hr h => ?_)
  · obtain ⟨a, b, xs, ps, qs, rfl, _⟩ := h
    rfl
  · obtain ⟨a, b, xs, ps, qs, rfl, ha, hx, ⟨ys, hb, hy⟩, few, k⟩ := h
    have nd := sc_rr.nd
    have lx := hx.len
    have ly := hy.len
    rw [List.length_map] at lx ly
    have hbS : ∀ {H'}, Same H H' → SqL K H' b ys ∨ SqT K H' b ys := fun {H'} sm => hb.elim (fun z => .inl (SqL.of (sm _ _ z))) fun z => .inr (SqT.of (sm _ _ z))
    refine ⟨_, pss_cons (ps_if (PW.pt (pw_or (pt_not (pt_val (pe_callB call_isi (by rfl) B.isi (by decide +kernel) (pa_cons (pv 0) (pa_cons (pe_bltn (v := .ty "tuple") (by rfl) B.tuple (by decide +kernel) rfl) pa_nil)))))
        (pw_or1 (pt_cmpR op_ne (pe_callB call_len_seq (by rfl) B.len PySem.boot_len (pa_cons (pv 0) pa_nil)) (pe_callB call_len_seq (by rfl) B.len PySem.boot_len (pa_cons (pv 1) pa_nil)) (by rfl))))) (pss_one (ps_ret pe_bl)) pss_nil)
      (pss_one (ps_ret (pe_cmpR op_eq (pe_callB call_len_seq (by rfl) B.len PySem.boot_len (pa_cons (pe_lc (own := [("_law_k", 2)]) (g := gName 2)
        (tt := tNot (tTest (tCall spRi [] (fun _ _ _ => False) (tCons (tOp (rIxT K) (tVar 0) (tVar 2)) (tCons (tOp (fun x y H Q => rIxL K x y H Q ∨ rIxT K x y H Q) (tVar 1) (tVar 2)) tNil))))) (te := tVar 2) rfl nd
        (pi_range1 (by rfl) B.range (pa_cons (pe_callB call_len_seq (by rfl) B.len PySem.boot_len (pa_cons (pv 1) pa_nil)) pa_nil))
        (blkOk_by (N := ["_law_told", "_law_due", "_law_k"]) (sc := defScope s_rr) (by decide +kernel)) (fun _ _ _ _ _ => pg_name (i := 2) nd rfl (.inl rfl))
        (fun _ _ _ _ _ => pts_one (pt_not (pt_val (pe_df RI hr (by rfl) passE0 (pa_cons (pe_ix ix_tup (pv 0) (pv 2) (fun _ _ => rfl)) (pa_cons (pe_ix (IxR.or ix_list ix_tup) (pv 1) (pv 2) (fun _ _ => rfl)) pa_nil)))))) (fun _ _ _ _ _ => pv 2)) pa_nil)) pe_int (nomark _)))), ?_⟩
    refine ⟨_, rfl, _, _, _, _, _, rfl, .ty _, .base (.tup ha), kit_ty (r := true) (by decide +kernel), _, rfl, iteF ⟨_, rfl, a, xs, rfl, .inr (SqT.of ha), _, rfl, b, ys, rfl, hbS (Same.refl H), rfl, _, rfl, ?_⟩⟩
    rw [dec_int, lx, ly]
    by_cases el : ps.length = qs.length
    · rw [show (!(((ps.length : Nat) : Int) == ((qs.length : Nat) : Int))) = false by simp [el]]
      refine iteF ⟨_, rfl, b, ys, rfl, hbS (Same.refl H), _, rfl, by omega, by omega, fun D nD => ?_⟩
      rw [ly]
      refine lc_range (lo := 0) (n := qs.length) (fun i H' => Same H H' ∧ H' D = some (.lst (nvs (((List.range qs.length).take i).filter fun k => !sameRw ps qs k)))) ⟨same_upd nD, upd_same⟩ (fun i H' hi ⟨sm, hD⟩ => ?_) (fun H' ⟨sm, hD⟩ => ?_)
      · refine ⟨rfl, ?_⟩
        rw [Int.zero_add]
        have hi1 : i < xs.length := by omega
        have hi2 : i < ys.length := by omega
        obtain ⟨p, pa, ep, e1, hp⟩ := dta_row (hx.mono sm) (List.getElem?_eq_getElem hi1)
        obtain ⟨q, qa, eq, e2, hq⟩ := dta_row (hy.mono sm) (List.getElem?_eq_getElem hi2)
        refine ⟨_, rfl, _, rfl, a, xs, (i : Int), _, rfl, rfl, SqT.of (sm _ _ ha), atI_nat (List.getElem?_eq_getElem hi1), _, rfl, _, rfl, ?_⟩
        have go : ∀ {Q : VK}, Q ys[i] H' → (rIxL K (.ref b) (.int (i : Int)) H' Q ∨ rIxT K (.ref b) (.int (i : Int)) H' Q) := fun {Q} q => (hbS sm).elim (fun z => .inl ⟨b, ys, _, _, rfl, rfl, z, atI_nat (List.getElem?_eq_getElem hi2), q⟩) fun z => .inr ⟨b, ys, _, _, rfl, rfl, z, atI_nat (List.getElem?_eq_getElem hi2), q⟩
        refine go ?_
        rw [e1, e2]
        refine ⟨pa, qa, p, q, rfl, hp, .inr hq, fun H2 s2 => ⟨_, rfl, ?_⟩⟩
        have es : decide (p = q) = sameRw ps qs i := by
          unfold sameRw
          rw [List.getD_eq_getElem?_getD, List.getD_eq_getElem?_getD, ep, eq]
          rfl
        rw [es]
        have hD2 := s2 _ _ hD
        have sm2 := sm.trans s2
        cases z : sameRw ps qs i with
        | true =>
          refine iteF ⟨sm2, ?_⟩
          rw [filter_take _ _ hi, z]
          simpa using hD2
        | false =>
          refine iteT ⟨_, rfl, _, hD2, ?_, fun c o ec => ?_, ?_⟩
          · rw [nvs_len, sizeLine_eq]
            have g1 := List.length_filter_le (fun k => !sameRw ps qs k) ((List.range qs.length).take i)
            rw [List.length_take, List.length_range] at g1
            omega
          · rw [upd_ne (ne_of_none ec nD)]
            exact sm2 _ _ ec
          · rw [upd_same, filter_take _ _ hi, z]
            unfold nvs
            rw [List.map_append]
            rfl
      · rw [List.take_of_length_le (by rw [List.length_range]; exact Nat.le_refl _)] at hD
        refine ⟨D, _, rfl, .inl (SqL.of hD), rfl, ?_⟩
        rw [dec_int, nvs_len, sameRw_all el]
        exact k H' sm
    · rw [show (!(((ps.length : Nat) : Int) == ((qs.length : Nat) : Int))) = true by simp; omega]
      have := k.now
      rw [decide_eq_false (fun e => el (by rw [e]))] at this
      exact iteT this
end
end K0
set_option Elab.async false
set_option linter.all false
set_option maxRecDepth 100000
set_option maxHeartbeats 4000000
namespace K0
open PySem PySem.Spec PyProof.Rows L2
section
variable {P : Program} {w : World} {K : PySem.W.Frag} {mg : Str → Option Value} {base : Heap} {f : Addr} {fd : FuncData}
abbrev s_wis : Stmt := top 43
def SqP (H : Hp) (b : Addr) (qs : List Pr) : Prop := ∃ ys, (H b = some (.lst ys) ∨ H b = some (.tup ys)) ∧ DtAll H ys (qs.map prD)
def spRr : Sp := fun vs H Q _ => ∃ (a b : Addr) (xs : List V) (ps qs : List Pr), vs = [.ref a, .ref b] ∧ H a = some (.tup xs) ∧ DtAll H xs (ps.map prD) ∧ SqP H b qs ∧ qs.length ≤ 1000 ∧ Ret (.bl (decide (ps = qs))) H Q
theorem pair_inj : ∀ {p q : Pr}, ([p.1, p.2] : Rw) = [q.1, q.2] → p = q := fun {p q} e => by
  simp only [List.cons.injEq, and_true] at e
  exact Prod.ext e.1 e.2
theorem prs_inj {ps qs : List Pr} : ((ps.map fun p => ([p.1, p.2] : Rw)) = qs.map fun p => [p.1, p.2]) ↔ ps = qs := ⟨fun e => by
  induction ps generalizing qs with
  | nil => cases qs with
    | nil => rfl
    | cons q qs => cases e
  | cons p ps ih => cases qs with
    | nil => cases e
    | cons q qs =>
      rw [List.map_cons, List.map_cons] at e
      injection e with e1 e2
      rw [pair_inj e1, ih e2], fun e => by rw [e]⟩
theorem ok_rr (h : FnOk P w K mg base (L2.CX P w) 3 f fd ["_law_told", "_law_due"] spRw) : FnOk P w K mg base (L2.CX P w) 3 f fd ["_law_told", "_law_due"] spRr :=
  h.imp fun vs H Q E z => by
    obtain ⟨a, b, xs, ps, qs, rfl, ha, hx, ⟨ys, hb, hy⟩, few, k⟩ := z
    rw [prs_rws] at hx hy
    refine ⟨a, b, xs, _, _, rfl, ha, hx, ⟨ys, hb, hy⟩, by rw [List.length_map]; omega, ?_⟩
    rw [decide_eq_decide.mpr prs_inj]
    exact k
/-- _law_web_is -/
def spWis (C : Addr) : Sp := fun vs H Q _ => ∃ (p b : Addr) (n m : Int) (q qs : List Pr), vs = [.ref p, .int m, .ref b] ∧ WebAt C H p n q ∧ SqP H b qs ∧ qs.length ≤ 1000 ∧ Ret (.bl (decide (n = m) && decide (q = qs))) H Q
theorem sc_wis : FnScope ["_law_web", "_law_many", "_law_pairs"] ["_law_web", "_law_many", "_law_pairs"] (defScope s_wis) := ⟨rfl, rfl, rfl, by decide +kernel, rfl, by decide +kernel, by decide +kernel⟩
theorem SqP.mono {H H' : Hp} (s : Same H H') {b : Addr} {qs : List Pr} : SqP H b qs → SqP H' b qs := fun ⟨ys, h, d⟩ => ⟨ys, h.elim (fun z => .inl (s _ _ z)) fun z => .inr (s _ _ z), d.mono s⟩
theorem ok_wis {C : Addr} (F : Fun K "_law_web_is" "_law_web_is" s_wis f fd) (B : Blt2 mg) (T : WebI K C) (g : mg "Web" = some (.ref C)) (LI : Df P w K mg base "_law_int" 1 ["_law_value"] spInt) (RR : Df P w K mg base "_law_rows_are" 3 ["_law_told", "_law_due"] spRr)
    (LN : Mt P w K mg base C "__len__" 1 ["self"] (spLn C)) : FnOk P w K mg base (L2.CX P w) 4 f fd ["_law_web", "_law_many", "_law_pairs"] (spWis C) := by
  refine F.okX sc_wis (fun vs H Q E h => ?_) (fun cdv A outer s H vs Q E hr h => ?_)
  · obtain ⟨p, b, n, m, q, qs, rfl, _⟩ := h
    rfl
  · obtain ⟨p, b, n, m, q, qs, rfl, W, hs, few, k⟩ := h
    obtain ⟨ddx, c, mm, xs, h1, h2, h3⟩ := W.tuple
    have hr1 : Room 1 _ := hr.mono (by decide)
    have hr2 : Room 2 _ := hr.mono (by decide)
    refine ⟨_, pss_cons (ps_if (PW.pt (pw_or (pt_not (pt_val (pe_callB call_isi (by rfl) B.isi (by decide +kernel) (pa_cons (pv 0) (pa_cons (pe_glob (v := .ref C) (by rfl) g rfl) pa_nil)))))
        (pw_or (pt_not (pt_val (pe_df LI hr1 (by rfl) passUp (pa_cons (pe_fld (pv 0) rfl) pa_nil)))) (pw_or1 (pt_cmpR op_ne (pe_fld (pv 0) rfl) (pv 1) (by rfl)))))) (pss_one (ps_ret pe_bl)) pss_nil)
      (pss_one (ps_ret (pe_and (pe_df RR hr (by rfl) passUp (pa_cons (pe_fld (pv 0) rfl) (pa_cons (pv 2) pa_nil))) (pe_one (pe_cmpR op_eq (pe_callB (cr_lenO LN hr2 passUp) (by rfl) B.len PySem.boot_len (pa_cons (pv 0) pa_nil)) (pv 1) (nomark _)))))), ?_⟩
    refine ⟨_, rfl, ?_⟩
    dsimp only [tCons, tC, tNil]
    refine isi_web T (.inl ⟨rfl, p, n, q, rfl, W⟩) ?_
    refine ⟨_, rfl, iteF ⟨_, rfl, p, C, ddx, _, _, rfl, h1, T.cl, T.nm, wf_many _ _ _, .int n, .int n, rfl, .int n, _, rfl, iteF ⟨_, rfl, p, C, ddx, _, _, rfl, h1, T.cl, T.nm, wf_many _ _ _, _, rfl, rfl, _, rfl, ?_⟩⟩⟩
    rw [dec_int]
    by_cases en : n = m
    · subst en
      rw [show (!(n == n)) = false by simp]
      refine iteF ⟨_, rfl, p, C, ddx, _, _, rfl, h1, T.cl, T.nc, wf_clashes _ _ _, _, rfl, c, b, xs, q, qs, rfl, h2, h3, hs, few, fun H1 s1 => ⟨_, rfl, ?_⟩⟩
      by_cases eq : q = qs
      · rw [decide_eq_true eq]
        refine iteT ⟨_, rfl, p, ddx, _, rfl, s1 _ _ h1, p, n, q, rfl, W.mono s1, fun H2 s2 => ⟨n.toNat, rfl, by have := W.n8; omega, _, rfl, rfl, ?_⟩⟩
        rw [dec_int, show (((n.toNat : Nat) : Int) == n) = true by rw [beq_iff_eq]; have := W.n0; omega]
        have := k H2 (s1.trans s2)
        rw [decide_eq_true rfl, decide_eq_true eq] at this
        exact this
      · rw [decide_eq_false eq]
        have := k H1 s1
        rw [decide_eq_true rfl, decide_eq_false eq] at this
        exact iteF this
    · rw [show (!(n == m)) = true by simp [en]]
      have := k.now
      rw [decide_eq_false en, Bool.false_and] at this
      exact iteT this
end
end K0
set_option Elab.async false
set_option linter.all false
set_option maxRecDepth 100000
set_option maxHeartbeats 4000000
namespace K0
open PySem PySem.Spec PyProof.Rows L2
/-! ### rows of pairs that grow in their order -/
structure Lx (n : Int) (P : Pr → Prop) (i c : Int) (rs : List Pr) : Prop where
  srt : rs.Pairwise plt
  mem : ∀ z, z ∈ rs ↔ (0 ≤ z.1 ∧ z.1 < z.2 ∧ z.2 < n) ∧ (z.1 < i ∨ (z.1 = i ∧ z.2 < c)) ∧ P z
theorem Lx.start {n : Int} {P : Pr → Prop} : Lx n P 0 1 [] := ⟨.nil, fun z => ⟨fun h => (by cases h), fun ⟨h1, h2, _⟩ => (by omega)⟩⟩
theorem Lx.row {n : Int} {P : Pr → Prop} {i : Int} {rs : List Pr} (h : Lx n P i n rs) : Lx n P (i + 1) (i + 2) rs := ⟨h.srt, fun z => by
  rw [h.mem]
  constructor
  · rintro ⟨h1, h2, h3⟩
    exact ⟨h1, by omega, h3⟩
  · rintro ⟨h1, h2, h3⟩
    exact ⟨h1, by omega, h3⟩⟩
theorem Lx.skip {n : Int} {P : Pr → Prop} {i c : Int} {rs : List Pr} (h : Lx n P i c rs) (no : ¬ P (i, c)) : Lx n P i (c + 1) rs := ⟨h.srt, fun z => by
  rw [h.mem]
  constructor
  · rintro ⟨h1, h2, h3⟩
    exact ⟨h1, by omega, h3⟩
  · rintro ⟨h1, h2, h3⟩
    refine ⟨h1, ?_, h3⟩
    rcases h2 with h2 | ⟨h2, h4⟩
    · exact .inl h2
    · refine .inr ⟨h2, ?_⟩
      rcases Int.lt_or_le z.2 c with h5 | h5
      · exact h5
      · exact absurd h3 (by rw [show z = (i, c) from Prod.ext h2 (by omega)]; exact no)⟩
theorem Lx.add {n : Int} {P : Pr → Prop} {i c : Int} {rs : List Pr} (h : Lx n P i c rs) (yes : P (i, c)) (r : 0 ≤ i ∧ i < c ∧ c < n) : Lx n P i (c + 1) (rs ++ [(i, c)]) := ⟨by
  rw [List.pairwise_append]
  refine ⟨h.srt, by simp, fun a ha b hb => ?_⟩
  rw [List.mem_singleton.mp hb]
  have := ((h.mem a).mp ha).2.1
  exact this, fun z => by
  rw [List.mem_append, h.mem, List.mem_singleton]
  constructor
  · rintro (⟨h1, h2, h3⟩ | e)
    · exact ⟨h1, by omega, h3⟩
    · rw [e]
      exact ⟨r, .inr ⟨rfl, by dsimp only; omega⟩, yes⟩
  · rintro ⟨h1, h2, h3⟩
    by_cases e : z = (i, c)
    · exact .inr e
    · refine .inl ⟨h1, ?_, h3⟩
      rcases h2 with h2 | ⟨h2, h4⟩
      · exact .inl h2
      · refine .inr ⟨h2, ?_⟩
        rcases Int.lt_or_le z.2 c with h5 | h5
        · exact h5
        · exact absurd (Prod.ext h2 (by omega)) e⟩
theorem Lx.change {n : Int} {P P' : Pr → Prop} {i c : Int} {rs : List Pr} (h : Lx n P i c rs) (e : ∀ z, (z.1 < i ∨ (z.1 = i ∧ z.2 < c)) → (P z ↔ P' z)) : Lx n P' i c rs := ⟨h.srt, fun z => by
  rw [h.mem]
  exact and_congr Iff.rfl (and_congr_right fun b => e z b)⟩
theorem Lx.fin {n : Int} {P : Pr → Prop} {c : Int} {rs : List Pr} (h : Lx n P n c rs) : ∀ z, z ∈ rs ↔ (0 ≤ z.1 ∧ z.1 < z.2 ∧ z.2 < n) ∧ P z := fun z => by
  rw [h.mem]
  constructor
  · rintro ⟨h1, _, h3⟩
    exact ⟨h1, h3⟩
  · rintro ⟨h1, h3⟩
    exact ⟨h1, .inl (by omega), h3⟩
theorem Lx.cl {n : Int} {P : Pr → Prop} {i c : Int} {rs : List Pr} (h : Lx n P i c rs) : Cl n rs := ⟨h.srt, fun z hz => ((h.mem z).mp hz).1⟩
/-- the list at D holds the new pairs rs -/
def Grow (H : Hp) (D : Addr) (rs : List Pr) : Prop := ∃ l : List (Addr × Pr), H D = some (.lst (l.map fun z => V.ref z.1)) ∧ l.map (·.2) = rs ∧ PrsAt H l
theorem Grow.mono {H H' : Hp} {D : Addr} {rs : List Pr} (s : Same H H') : Grow H D rs → Grow H' D rs := fun ⟨l, h, e, p⟩ => ⟨l, s _ _ h, e, p.mono s⟩
theorem Grow.push {H : Hp} {D u : Addr} {rs : List Pr} {x y : Int} (g : Grow H D rs) (nu : H u = none) {xs : List V} (hx : H D = some (.lst xs)) : Grow (upd (upd H u (.tup [.int x, .int y])) D (.lst (xs ++ [.ref u]))) D (rs ++ [(x, y)]) := by
  obtain ⟨l, h, e, p⟩ := g
  rw [h] at hx
  cases hx
  refine ⟨l ++ [(u, (x, y))], by rw [upd_same, List.map_append]; rfl, by rw [List.map_append, e]; rfl, fun z hz => ?_⟩
  have s2 : Same H (upd H u (.tup [.int x, .int y])) := same_upd nu
  have hz2 : (upd H u (.tup [.int x, .int y])) z.1 = some (.tup [.int z.2.1, .int z.2.2]) := by
    rcases List.mem_append.mp hz with hz | hz
    · exact s2 _ _ (p z hz)
    · rw [List.mem_singleton.mp hz]
      exact upd_same
  have zD : z.1 ≠ D := fun e => by
    rw [e, s2 _ _ h] at hz2
    cases hz2
  rw [upd_ne zD]
  exact hz2
theorem Grow.at {H : Hp} {D : Addr} {rs : List Pr} (g : Grow H D rs) : ∃ xs, H D = some (.lst xs) ∧ xs.length = rs.length ∧ DtAll H xs (rs.map prD) := by
  obtain ⟨l, h, e, p⟩ := g
  refine ⟨_, h, by rw [← e, List.length_map, List.length_map], ?_⟩
  rw [← e, List.map_map]
  exact dtAll_prs p
theorem prs_any {q : List Pr} {p : Pr} : ((q.map prD).any fun z => PyData.eqv z (prD p)) = decide (p ∈ q) := by
  induction q with
  | nil => rfl
  | cons a q ih =>
    rw [List.map_cons, List.any_cons, ih, prD_eqv]
    by_cases e : a = p
    · subst e; simp
    · have : ¬ p = a := fun z => e z.symm
      simp [e, this]
/-- a list of pairs -/
def Ls (H : Hp) (b : Addr) (q : List Pr) : Prop := ∃ ys, H b = some (.lst ys) ∧ DtAll H ys (q.map prD)
theorem Ls.mono {H H' : Hp} (s : Same H H') {b : Addr} {q : List Pr} : Ls H b q → Ls H' b q := fun ⟨ys, h, d⟩ => ⟨ys, s _ _ h, d.mono s⟩
theorem Ls.dp {K : PySem.W.Frag} {H : Hp} {b : Addr} {q : List Pr} : Ls H b q → Dp K H (.ref b) (.list (q.map prD)) := fun ⟨ys, h, d⟩ => (Dt.lst h d).dp
theorem Ls.sqp {H : Hp} {b : Addr} {q : List Pr} : Ls H b q → SqP H b q := fun ⟨ys, h, d⟩ => ⟨ys, .inl h, d⟩
theorem Ls.sq {K : PySem.W.Frag} {H : Hp} {b : Addr} {q : List Pr} : Ls H b q → Sq K H b (q.map prD) := fun ⟨ys, h, d⟩ => .lst h d
theorem Grow.ls {H : Hp} {D : Addr} {rs : List Pr} (g : Grow H D rs) : Ls H D rs := let ⟨xs, h, _, d⟩ := g.at; ⟨xs, h, d⟩
end K0
set_option Elab.async false
set_option linter.all false
set_option maxRecDepth 100000
set_option maxHeartbeats 4000000
namespace K0
open PySem PySem.Spec PyProof.Rows L2
theorem hasP_mm {n : Int} {q : List Pr} (h : Cl n q) (x y : Nat) : decide (((min (x : Int) y, max (x : Int) y) : Pr) ∈ q) = hasP q x y := by
  unfold hasP
  rw [Bool.eq_iff_iff, Bool.or_eq_true, decide_eq_true_iff, decide_eq_true_iff, decide_eq_true_iff]
  rcases Nat.lt_trichotomy x y with c | c | c
  · rw [show min (x : Int) y = x by omega, show max (x : Int) y = y by omega]
    refine ⟨.inl, fun z => z.elim (fun z => z) fun z => ?_⟩
    have := h.rng _ z
    dsimp only at this
    omega
  · subst c
    rw [show min (x : Int) x = x by omega, show max (x : Int) x = x by omega]
    exact ⟨.inl, fun z => z.elim (fun z => z) fun z => z⟩
  · rw [show min (x : Int) y = y by omega, show max (x : Int) y = x by omega]
    refine ⟨.inr, fun z => z.elim (fun z => ?_) fun z => z⟩
    have := h.rng _ z
    dsimp only at this
    omega
def rMinI : List V → Hp → VK → Prop := fun xs H Q => ∃ i j : Int, xs = [.int i, .int j] ∧ Q (.int (if j < i then j else i)) H
def rMaxI : List V → Hp → VK → Prop := fun xs H Q => ∃ i j : Int, xs = [.int i, .int j] ∧ Q (.int (if j > i then j else i)) H
theorem c_min {X : Cx} (hc : X.calm = true) : CallR X (.builtin "min") rMinI := call_min2 hc
theorem c_max {X : Cx} (hc : X.calm = true) : CallR X (.builtin "max") rMaxI := call_max2 hc
section
variable {P : Program} {w : World} {K : PySem.W.Frag} {mg : Str → Option Value} {base : Heap} {f : Addr} {fd : FuncData}
abbrev s_ne : Stmt := top 37
/-- _law_near -/
def spNe : Sp := fun vs H Q _ => ∃ (b : Addr) (n : Int) (x : Nat) (q : List Pr), vs = [.int n, .ref b, .int (x : Int)] ∧ 0 ≤ n ∧ n ≤ 16 ∧ Cl n q ∧ Ls H b q ∧ ∀ H' a, Same H H' → H a = none → H' a = some (.lst (nvs (nearOf n q x))) → Q (.ref a) H'
theorem sc_ne : FnScope ["_law_many", "_law_pairs", "_law_x", "_law_y"] ["_law_many", "_law_pairs", "_law_x"] (defScope s_ne) := ⟨rfl, rfl, rfl, by decide +kernel, rfl, by decide +kernel, by decide +kernel⟩
theorem ok_ne (F : Fun K "_law_near" "_law_near" s_ne f fd) (B : Blt2 mg) : FnOk P w K mg base (L2.CX P w) 2 f fd ["_law_many", "_law_pairs", "_law_x"] spNe := by
  refine F.okX sc_ne (fun vs H Q E h => ?_) (fun cdv A outer s H vs Q E hr h => ?_)
  · obtain ⟨b, n, x, q, rfl, _⟩ := h
    rfl
  · obtain ⟨b, n, x, q, rfl, n0, n8, cl, hl, k⟩ := h
    have nd := sc_ne.nd
    have hu : (A.deeper (envOfC "_law_near" (defScope s_ne) s.heap.objs.size f cdv)).units + 65 < cLine := by have := hr.un; omega
    refine ⟨_, pss_one (ps_ret (pe_lc (own := [("_law_y", 3)]) (g := gName 3)
      (tt := tTest (tOp (rInD K) (tTup (tCons (tCB rMinI (tCons (tVar 2) (tCons (tVar 3) tNil))) (tCons (tCB rMaxI (tCons (tVar 2) (tCons (tVar 3) tNil))) tNil))) (tVar 1)))
      (te := tVar 3) rfl nd (pi_range1 (by rfl) B.range (pa_cons (pv 0) pa_nil))
        (blkOk_by (N := ["_law_many", "_law_pairs", "_law_x", "_law_y"]) (sc := defScope s_ne) (by decide +kernel)) (fun _ _ _ _ _ => pg_name (i := 3) nd rfl (.inl rfl))
        (fun _ _ _ _ _ => pts_one (pt_cmpR (op_inD hu) (pe_tup (pa_cons (pe_callB (c_min rfl) (by rfl) B.min (by decide +kernel) (pa_cons (pv 2) (pa_cons (pv 3) pa_nil))) (pa_cons (pe_callB (c_max rfl) (by rfl) B.max (by decide +kernel) (pa_cons (pv 2) (pa_cons (pv 3) pa_nil))) pa_nil))) (pv 1) (by rfl))) (fun _ _ _ _ _ => pv 3))), ?_⟩
    refine ⟨_, rfl, n, rfl, by omega, by omega, fun D nD => ?_⟩
    refine lc_range (lo := 0) (n := n.toNat) (fun i H' => Same H H' ∧ H' D = some (.lst (nvs (((List.range n.toNat).take i).filter (hasP q x))))) ⟨same_upd nD, upd_same⟩ (fun i H' hi ⟨sm, hD⟩ => ?_) (fun H' ⟨sm, hD⟩ => ?_)
    · refine ⟨rfl, ?_⟩
      rw [Int.zero_add]
      refine ⟨_, rfl, _, rfl, _, _, rfl, _, rfl, _, rfl, _, _, rfl, (by show 2 ≤ sizeLine; decide), fun t nt => ?_⟩
      rw [min2, max2]
      have s2 : Same H' (upd H' t (.tup [.int (min (x : Int) i), .int (max (x : Int) i)])) := same_upd nt
      refine ⟨_, rfl, prD (min (x : Int) i, max (x : Int) i), _, (dt_pr (p := (min (x : Int) i, max (x : Int) i)) upd_same).dp, (hl.mono (sm.trans s2)).dp, prD_shaped _, prsL_shaped _, _, rfl, ?_⟩
      rw [prs_any, hasP_mm cl]
      cases e : hasP q x i with
      | false =>
        refine iteF ⟨sm.trans s2, ?_⟩
        rw [filter_take _ _ hi, e, s2 _ _ hD]
        simp
      | true =>
        refine iteT ⟨_, rfl, _, s2 _ _ hD, ?_, fun b o eb => ?_, ?_⟩
        · rw [nvs_len, sizeLine_eq]
          have g1 := List.length_filter_le (hasP q x) ((List.range n.toNat).take i)
          rw [List.length_take, List.length_range] at g1
          omega
        · rw [upd_ne (ne_of_none eb nD)]
          exact s2 _ _ (sm _ _ eb)
        · rw [upd_same, filter_take _ _ hi, e]
          unfold nvs
          rw [List.map_append]
          rfl
    · rw [List.take_of_length_le (by rw [List.length_range]; exact Nat.le_refl _)] at hD
      exact k H' D sm nD hD
def rLenI (K : PySem.W.Frag) : List V → Hp → VK → Prop := fun xs H Q => ∃ p ys, xs = [.ref p] ∧ (SqL K H p ys ∨ SqT K H p ys) ∧ Q (.int ys.length) H
theorem c_len {X : Cx} : CallR X (.builtin "len") (rLenI X.K) := call_len_seq
def rSubI : R2 := rI0 fun i j => .int (i - j)
theorem o_sub {X : Cx} : OpR X (binaryOp .Sub) rSubI := op_sub
end
end K0
set_option Elab.async false
set_option linter.all false
set_option maxRecDepth 100000
set_option maxHeartbeats 4000000
namespace K0
open PySem PySem.Spec PyProof.Rows L2
section
variable {P : Program} {w : World} {K : PySem.W.Frag} {mg : Str → Option Value} {base : Heap} {f : Addr} {fd : FuncData}
theorem same_keep {H H' : Hp} {D : Addr} {o : HO} (n : H D = none) (s : Same H H') : Same H (upd H' D o) := fun b u e => by
  rw [upd_ne (ne_of_none e n)]
  exact s b u e
end
end K0
set_option Elab.async false
set_option linter.all false
set_option maxRecDepth 100000
set_option maxHeartbeats 4000000
namespace K0
open PySem PySem.Spec PyProof.Rows L2
/-- draws that are left -/
def DrO (H : Hp) (d : Addr) : Prop := ∃ ns : List Int, H d = some (.lst (ns.map V.int)) ∧ ∀ k ∈ ns, 0 ≤ k
def DrN (H : Hp) (d : Addr) (n : Nat) : Prop := ∃ ns : List Int, H d = some (.lst (ns.map V.int)) ∧ (∀ k ∈ ns, 0 ≤ k) ∧ ns.length ≤ n
theorem same_del {H H' : Hp} {d : Addr} (s : Same (del H d) H') : Same (del H d) (del H' d) := fun b o e => by
  by_cases hb : b = d
  · rw [hb, del_same] at e
    cases e
  · rw [del_ne hb]
    exact s b o e
theorem del_sub {H : Hp} {d : Addr} : Same (del H d) H := fun b o e => by
  by_cases hb : b = d
  · rw [hb, del_same] at e
    cases e
  · rw [del_ne hb] at e
    exact e
theorem del_upd {H : Hp} {d : Addr} {o : HO} : Same (del H d) (upd H d o) := fun b u e => by
  by_cases hb : b = d
  · rw [hb, del_same] at e
    cases e
  · rw [del_ne hb] at e
    rw [upd_ne hb]
    exact e
section
variable {X : Cx} {o e : Expr} {to : TE} {apos cpos : Pos}
theorem pe_lpop (ho : PE X o to) (hbase : attributeBase o "pop" X.env (eval o X.env) = eval o X.env := by rfl) (hline : (apos.endLine == cpos.line) = true := by rfl) :
    PE X (.Call (.Attribute o "pop" apos) [] [] cpos) (tBM0 X.K "list" rPop to) := pe_bm0 PySem.F.plainAttrs_list PySem.F.slot_list_pop PySem.F.type_list_pop mt_pop ho hbase hline
theorem pe_lrev (ho : PE X o to) (hbase : attributeBase o "reverse" X.env (eval o X.env) = eval o X.env := by rfl) (hline : (apos.endLine == cpos.line) = true := by rfl) :
    PE X (.Call (.Attribute o "reverse" apos) [] [] cpos) (tBM0 X.K "list" rReverse to) := pe_bm0 PySem.F.plainAttrs_list PySem.F.slot_list_reverse PySem.F.type_list_reverse mt_reverse ho hbase hline
end
section
variable {P : Program} {w : World} {K : PySem.W.Frag} {mg : Str → Option Value} {base : Heap} {f : Addr} {fd : FuncData}
abbrev s_tk : Stmt := top 34
abbrev s_dr : Stmt := top 33
/-- _law_take -/
def spTk : Sp := fun vs H Q _ => ∃ (d : Addr) (m : Int), vs = [.ref d, .int m] ∧ 0 < m ∧ DrO H d ∧ ∀ r H', 0 ≤ r → r < m → Same (del H d) H' → DrO H' d → Q (.int r) H'
theorem sc_tk : FnScope ["_law_draws_here", "_law_many"] ["_law_draws_here", "_law_many"] (defScope s_tk) := ⟨rfl, rfl, rfl, by decide +kernel, rfl, by decide +kernel, by decide +kernel⟩
theorem ok_tk (F : Fun K "_law_take" "_law_take" s_tk f fd) (B : Blt2 mg) : FnOk P w K mg base (L2.CX P w) 1 f fd ["_law_draws_here", "_law_many"] spTk := by
  refine F.okX sc_tk (fun vs H Q E h => ?_) (fun cdv A outer s H vs Q E hr h => ?_)
  · obtain ⟨d, m, rfl, _⟩ := h
    rfl
  · obtain ⟨d, m, rfl, m0, ⟨ns, hd, nn⟩, k⟩ := h
    refine ⟨_, pss_cons (ps_if (pt_cmpR op_eq (pe_callB call_len_seq (by rfl) B.len PySem.boot_len (pa_cons (pv 0) pa_nil)) pe_int (nomark _)) (pss_one (ps_ret pe_int)) pss_nil)
      (pss_one (ps_ret (pe_op op_mod (pe_callTy call_int1 (by rfl) B.int (by decide +kernel) (pa_cons (pe_lpop (pv 0)) pa_nil)) (pv 1)))), ?_⟩
    refine ⟨_, rfl, d, _, rfl, .inl (SqL.of hd), rfl, _, rfl, ?_⟩
    rw [dec_int, List.length_map]
    by_cases e : ns = []
    · subst e
      exact iteT (k 0 H (Int.le_refl _) m0 del_sub ⟨[], hd, nn⟩)
    · have l0 : 0 < ns.length := List.length_pos_iff.mpr e
      rw [show (((ns.length : Nat) : Int) == 0) = false by rw [beq_eq_false_iff_ne]; omega]
      have hlt : ns.length - 1 < ns.length := by omega
      refine iteF ⟨_, rfl, .inl ⟨rfl, _, SqL.of hd⟩, d, _, .int ns[ns.length - 1], rfl, rfl, hd, by rw [List.length_map, List.getElem?_map, List.getElem?_eq_getElem hlt]; rfl, ?_⟩
      refine .inl ⟨_, rfl, _, rfl, _, _, rfl, rfl, m0, ?_⟩
      refine k _ _ (Int.emod_nonneg _ (by omega)) (Int.emod_lt_of_pos _ m0) del_upd ⟨ns.dropLast, by rw [upd_same, List.map_dropLast], fun j hj => nn j (List.dropLast_subset _ hj)⟩
/-- _law_draws -/
def spDr (K : PySem.W.Frag) : Sp := fun vs H Q _ => ∃ (l : Addr) (ms : List Int), vs = [.ref l] ∧ SqL K H l (ms.map V.int) ∧ ∀ H' d, Same H H' → H d = none → DrO H' d → Q (.ref d) H'
theorem sc_dr : FnScope ["_law_script", "_law_draws_here", "_law_at", "_law_cell", "_law_k", "_law_number"] ["_law_script"] (defScope s_dr) := ⟨rfl, rfl, rfl, by decide +kernel, rfl, by decide +kernel, by decide +kernel⟩
theorem DrN.push {H : Hp} {d : Addr} {n : Nat} {x : Int} (h : DrN H d n) (hx : 0 ≤ x) {xs : List V} (e : H d = some (.lst xs)) : DrN (upd H d (.lst (xs ++ [.int x]))) d (n + 1) := by
  obtain ⟨ns, h1, h2, h3⟩ := h
  rw [h1] at e
  cases e
  refine ⟨ns ++ [x], by rw [upd_same, List.map_append]; rfl, fun k hk => ?_, by rw [List.length_append]; exact Nat.add_le_add_right h3 1⟩
  rcases List.mem_append.mp hk with hk | hk
  · exact h2 k hk
  · rw [List.mem_singleton.mp hk]
    exact hx
theorem DrN.at {H : Hp} {d : Addr} {n : Nat} (h : DrN H d n) : ∃ xs, H d = some (.lst xs) ∧ xs.length ≤ n := by
  obtain ⟨ns, h1, h2, h3⟩ := h
  exact ⟨_, h1, by rw [List.length_map]; exact h3⟩
theorem DrN.up {H : Hp} {d : Addr} {n m : Nat} (h : DrN H d n) (l : n ≤ m) : DrN H d m := by
  obtain ⟨ns, h1, h2, h3⟩ := h
  exact ⟨ns, h1, h2, Nat.le_trans h3 l⟩
theorem SqL.sm {K : PySem.W.Frag} {H H' : Hp} {a : Addr} {xs : List V} (h : SqL K H a xs) (s : Same H H') : SqL K H' a xs := h.ext fun b o e => s b o e
theorem ok_dr (F : Fun K "_law_draws" "_law_draws" s_dr f fd) (B : Blt2 mg) : FnOk P w K mg base (L2.CX P w) 1 f fd ["_law_script"] (spDr K) := by
  refine F.okX sc_dr (fun vs H Q E h => ?_) (fun cdv A outer s H vs Q E hr h => ?_)
  · obtain ⟨l, ms, rfl, _⟩ := h
    rfl
  · obtain ⟨l, ms, rfl, hl, k⟩ := h
    have nd := sc_dr.nd
    refine ⟨_, pss_cons (ps_set (i := 1) nd rfl (.inl rfl) (pe_lst pa_nil))
      (pss_cons (ps_for (passes_of rfl) rfl (pi_range1 (by rfl) B.range (pa_cons (pe_callB (c_min rfl) (by rfl) B.min (by decide +kernel) (pa_cons (pe_callB c_len (by rfl) B.len PySem.boot_len (pa_cons (pv 0) pa_nil)) (pa_cons pe_int pa_nil))) pa_nil)) (pg_name (i := 2) nd rfl (.inl rfl))
        (pss_cons (ps_set (i := 3) nd rfl (.inl rfl) (pe_callTy call_int1 (by rfl) B.int (by decide +kernel) (pa_cons (pe_ix ix_list (pv 0) (pv 2) (fun _ _ => rfl)) pa_nil)))
        (pss_cons (ps_if (pt_cmpR op_lt (pv 3) pe_int (nomark _)) (pss_one (ps_set (i := 3) nd rfl (.inl rfl) (pe_op op_sub pe_int (pv 3)))) pss_nil)
        (pss_one (ps_if (pt_cmpR op_ge (pv 3) (pe_op op_pow pe_int pe_int) (nomark _))
          (pss_one (ps_for (passes_of rfl) rfl (pi_range1 (by rfl) B.range (pa_cons pe_int pa_nil)) (pg_name (i := 4) nd rfl (.inl rfl))
            (pss_one (ps_if (pt_cmpR op_gt (pv 3) pe_int (nomark _))
              (pss_cons (ps_expr (pe_lapp (pv 1) (pa_cons (pe_op op_mod (pe_callTy call_int1 (by rfl) B.int (by decide +kernel) (pa_cons (pv 3) pa_nil)) pe_int) pa_nil)))
              (pss_one (ps_set (i := 3) nd rfl (.inl rfl) (pe_op op_fdiv (pv 3) pe_int)))) pss_nil))))
          (pss_cons (ps_set (i := 5) nd rfl (.inl rfl) (pe_op op_mod (pe_callTy call_int1 (by rfl) B.int (by decide +kernel) (pa_cons (pe_op op_add (pe_op op_add (pe_op op_mul (pv 3) pe_int) (pe_op op_mul (pv 2) pe_int)) pe_int) pa_nil)) pe_int))
          (pss_one (ps_for (passes_of rfl) rfl (pi_range1 (by rfl) B.range (pa_cons pe_int pa_nil)) (pg_name (i := 4) nd rfl (.inl rfl))
            (pss_cons (ps_set (i := 5) nd rfl (.inl rfl) (pe_op op_mod (pe_callTy call_int1 (by rfl) B.int (by decide +kernel) (pa_cons (pe_op op_add (pe_op op_add (pe_op op_add (pe_op op_mul (pv 5) (pv 5)) (pe_op op_mul (pv 4) pe_int)) (pv 2)) pe_int) pa_nil)) pe_int))
            (pss_one (ps_expr (pe_lapp (pv 1) (pa_cons (pv 5) pa_nil)))))))))))))
      (pss_cons (ps_expr (pe_lrev (pv 1)))
      (pss_one (ps_ret (pv 1))))), ?_⟩
    refine ⟨by show 0 ≤ sizeLine; exact Nat.zero_le _, fun D nD => ?_⟩
    have s0 : Same H (upd H D (.lst [])) := same_upd nD
    have eL : (ms.map V.int).length = ms.length := List.length_map _
    refine ⟨_, rfl, l, _, rfl, .inl (SqL.sm hl s0), _, _, rfl, ?_⟩
    rw [eL]
    obtain ⟨J, eJ⟩ : ∃ J : Int, J = if (63 : Int) < ((ms.length : Nat) : Int) then 63 else ((ms.length : Nat) : Int) := ⟨_, rfl⟩
    rw [← eJ]
    have hJ : 0 ≤ J ∧ J ≤ 63 ∧ J ≤ ((ms.length : Nat) : Int) := by
      rw [eJ]
      split <;> omega
    let P1 : Nat → L2.St → Hp → Prop := fun i σ H' => ∃ o2 o3 o4 o5, σ = [some (.ref l), some (.ref D), o2, o3, o4, o5] ∧ Same H H' ∧ DrN H' D (60 * i)
    refine ⟨J, rfl, by omega, by omega, for_range (n := J.toNat) P1 ⟨none, none, none, none, rfl, s0, [], upd_same, (fun k hk => by cases hk), Nat.zero_le _⟩ (fun i σ H' hi h => ?_) (fun σ H' h => ?_)⟩
    · obtain ⟨o2, o3, o4, o5, rfl, sm, dn⟩ := h
      rw [Int.zero_add]
      have hi2 : i < ms.length := by omega
      have at0 : atI (ms.map V.int) (i : Int) = some (V.int ms[i]) := atI_nat (by rw [List.getElem?_map, List.getElem?_eq_getElem hi2]; rfl)
      refine ⟨_, rfl, _, rfl, l, _, (i : Int), _, rfl, rfl, SqL.sm hl sm, at0, .inl ⟨_, rfl, ?_⟩⟩
      generalize ms[i] = c
      refine ⟨_, rfl, _, _, rfl, rfl, _, rfl, ?_⟩
      by_cases c0 : c < 0
      · rw [decide_eq_true c0]
        refine iteT ⟨_, rfl, _, _, rfl, rfl, ?_⟩
        have c1 : 0 ≤ 1 - c := by omega
        refine ⟨_, rfl, _, _, rfl, rfl, ⟨by decide, by decide, by decide⟩, _, _, rfl, rfl, decide ((1000000000000000000 : Int) ≤ (1 - c)), rfl, ?_⟩
        by_cases big : (1000000000000000000 : Int) ≤ (1 - c)
        · rw [decide_eq_true big]
          refine iteT ?_
          let P2 : Nat → L2.St → Hp → Prop := fun t σ H' => ∃ o4 c, σ = [some (.ref l), some (.ref D), some (.int (i : Int)), some (.int c), o4, o5] ∧ 0 ≤ c ∧ Same H H' ∧ DrN H' D (60 * i + t)
          refine ⟨60, rfl, by decide, by decide, for_range (n := 60) P2 ⟨o4, (1 - c), rfl, c1, sm, dn⟩ (fun t σ H2 ht h => ?_) (fun σ H2 h => ?_)⟩
          · obtain ⟨o4, c, rfl, c1, sm, dn⟩ := h
            refine ⟨_, rfl, _, _, rfl, rfl, _, rfl, ?_⟩
            by_cases g0 : 0 < c
            · rw [decide_eq_true g0]
              obtain ⟨xs, hx, lx⟩ := dn.at
              refine iteT ⟨_, rfl, .inl ⟨rfl, xs, SqL.of hx⟩, _, rfl, .inl ⟨_, rfl, _, _, rfl, rfl, (by show (0 : Int) < 24; decide), D, xs, _, rfl, rfl, hx, by rw [sizeLine_eq]; omega, ?_⟩⟩
              refine ⟨_, rfl, _, _, rfl, rfl, ⟨by decide, by decide⟩, _, c / 24, rfl, Int.ediv_nonneg c1 (by decide), same_keep nD sm, dn.push (Int.emod_nonneg _ (by decide)) hx⟩
            · rw [decide_eq_false g0]
              exact iteF ⟨_, c, rfl, c1, sm, dn.up (by omega)⟩
          · obtain ⟨o4, c, rfl, c1, sm, dn⟩ := h
            exact ⟨_, _, _, _, rfl, sm, dn.up (by omega)⟩
        · rw [decide_eq_false big]
          have cl : (1 - c) < 1000000000000000000 := Int.not_le.mp big
          refine iteF ⟨_, rfl, _, _, rfl, rfl, .inl ⟨by omega, by omega⟩, _, rfl, _, _, rfl, rfl, .inl ⟨by omega, by omega⟩, _, _, rfl, rfl, _, _, rfl, rfl, .inl ⟨_, rfl, _, _, rfl, rfl, (by show (0 : Int) < 2147483647; decide), ?_⟩⟩
          have v1 : 0 ≤ ((1 - c) * 48947 + (i : Int) * 60493 + 7) % 2147483647 ∧ ((1 - c) * 48947 + (i : Int) * 60493 + 7) % 2147483647 < 2147483647 := ⟨Int.emod_nonneg _ (by decide), Int.emod_lt_of_pos _ (by decide)⟩
          let P3 : Nat → L2.St → Hp → Prop := fun t σ H' => ∃ o4 v, σ = [some (.ref l), some (.ref D), some (.int (i : Int)), some (.int (1 - c)), o4, some (.int v)] ∧ (0 ≤ v ∧ v < 2147483647) ∧ Same H H' ∧ DrN H' D (60 * i + t)
          refine ⟨6, rfl, by decide, by decide, for_range (n := 6) P3 ⟨o4, ((1 - c) * 48947 + (i : Int) * 60493 + 7) % 2147483647, rfl, v1, sm, dn⟩ (fun t σ H2 ht h => ?_) (fun σ H2 h => ?_)⟩
          · obtain ⟨o4, v, rfl, v1, sm, dn⟩ := h
            refine ⟨_, rfl, _, rfl, _, _, rfl, rfl, .inl ⟨by omega, by omega⟩, _, rfl, _, _, rfl, rfl, .inl ⟨by omega, by omega⟩, _, _, rfl, rfl, _, rfl, _, _, rfl, rfl, _, _, rfl, rfl, .inl ⟨_, rfl, _, _, rfl, rfl, (by show (0 : Int) < 2147483587; decide), ?_⟩⟩
            have w1 : 0 ≤ (v * v + (0 + (t : Int)) * 38447 + (i : Int) + 11) % 2147483587 ∧ (v * v + (0 + (t : Int)) * 38447 + (i : Int) + 11) % 2147483587 < 2147483587 := ⟨Int.emod_nonneg _ (by decide), Int.emod_lt_of_pos _ (by decide)⟩
            obtain ⟨xs, hx, lx⟩ := dn.at
            refine ⟨_, rfl, .inl ⟨rfl, xs, SqL.of hx⟩, _, rfl, D, xs, _, rfl, rfl, hx, by rw [sizeLine_eq]; omega, ?_⟩
            exact ⟨_, (v * v + (0 + (t : Int)) * 38447 + (i : Int) + 11) % 2147483587, rfl, ⟨w1.1, Int.lt_trans w1.2 (by decide)⟩, same_keep nD sm, dn.push w1.1 hx⟩
          · obtain ⟨o4, v, rfl, v1, sm, dn⟩ := h
            exact ⟨_, _, _, _, rfl, sm, dn.up (by omega)⟩
      · rw [decide_eq_false c0]
        refine iteF ?_
        have c1 : 0 ≤ c := by omega
        refine ⟨_, rfl, _, _, rfl, rfl, ⟨by decide, by decide, by decide⟩, _, _, rfl, rfl, decide ((1000000000000000000 : Int) ≤ c), rfl, ?_⟩
        by_cases big : (1000000000000000000 : Int) ≤ c
        · rw [decide_eq_true big]
          refine iteT ?_
          let P2 : Nat → L2.St → Hp → Prop := fun t σ H' => ∃ o4 c, σ = [some (.ref l), some (.ref D), some (.int (i : Int)), some (.int c), o4, o5] ∧ 0 ≤ c ∧ Same H H' ∧ DrN H' D (60 * i + t)
          refine ⟨60, rfl, by decide, by decide, for_range (n := 60) P2 ⟨o4, c, rfl, c1, sm, dn⟩ (fun t σ H2 ht h => ?_) (fun σ H2 h => ?_)⟩
          · obtain ⟨o4, c, rfl, c1, sm, dn⟩ := h
            refine ⟨_, rfl, _, _, rfl, rfl, _, rfl, ?_⟩
            by_cases g0 : 0 < c
            · rw [decide_eq_true g0]
              obtain ⟨xs, hx, lx⟩ := dn.at
              refine iteT ⟨_, rfl, .inl ⟨rfl, xs, SqL.of hx⟩, _, rfl, .inl ⟨_, rfl, _, _, rfl, rfl, (by show (0 : Int) < 24; decide), D, xs, _, rfl, rfl, hx, by rw [sizeLine_eq]; omega, ?_⟩⟩
              refine ⟨_, rfl, _, _, rfl, rfl, ⟨by decide, by decide⟩, _, c / 24, rfl, Int.ediv_nonneg c1 (by decide), same_keep nD sm, dn.push (Int.emod_nonneg _ (by decide)) hx⟩
            · rw [decide_eq_false g0]
              exact iteF ⟨_, c, rfl, c1, sm, dn.up (by omega)⟩
          · obtain ⟨o4, c, rfl, c1, sm, dn⟩ := h
            exact ⟨_, _, _, _, rfl, sm, dn.up (by omega)⟩
        · rw [decide_eq_false big]
          have cl : c < 1000000000000000000 := Int.not_le.mp big
          refine iteF ⟨_, rfl, _, _, rfl, rfl, .inl ⟨by omega, by omega⟩, _, rfl, _, _, rfl, rfl, .inl ⟨by omega, by omega⟩, _, _, rfl, rfl, _, _, rfl, rfl, .inl ⟨_, rfl, _, _, rfl, rfl, (by show (0 : Int) < 2147483647; decide), ?_⟩⟩
          have v1 : 0 ≤ (c * 48947 + (i : Int) * 60493 + 7) % 2147483647 ∧ (c * 48947 + (i : Int) * 60493 + 7) % 2147483647 < 2147483647 := ⟨Int.emod_nonneg _ (by decide), Int.emod_lt_of_pos _ (by decide)⟩
          let P3 : Nat → L2.St → Hp → Prop := fun t σ H' => ∃ o4 v, σ = [some (.ref l), some (.ref D), some (.int (i : Int)), some (.int c), o4, some (.int v)] ∧ (0 ≤ v ∧ v < 2147483647) ∧ Same H H' ∧ DrN H' D (60 * i + t)
          refine ⟨6, rfl, by decide, by decide, for_range (n := 6) P3 ⟨o4, (c * 48947 + (i : Int) * 60493 + 7) % 2147483647, rfl, v1, sm, dn⟩ (fun t σ H2 ht h => ?_) (fun σ H2 h => ?_)⟩
          · obtain ⟨o4, v, rfl, v1, sm, dn⟩ := h
            refine ⟨_, rfl, _, rfl, _, _, rfl, rfl, .inl ⟨by omega, by omega⟩, _, rfl, _, _, rfl, rfl, .inl ⟨by omega, by omega⟩, _, _, rfl, rfl, _, rfl, _, _, rfl, rfl, _, _, rfl, rfl, .inl ⟨_, rfl, _, _, rfl, rfl, (by show (0 : Int) < 2147483587; decide), ?_⟩⟩
            have w1 : 0 ≤ (v * v + (0 + (t : Int)) * 38447 + (i : Int) + 11) % 2147483587 ∧ (v * v + (0 + (t : Int)) * 38447 + (i : Int) + 11) % 2147483587 < 2147483587 := ⟨Int.emod_nonneg _ (by decide), Int.emod_lt_of_pos _ (by decide)⟩
            obtain ⟨xs, hx, lx⟩ := dn.at
            refine ⟨_, rfl, .inl ⟨rfl, xs, SqL.of hx⟩, _, rfl, D, xs, _, rfl, rfl, hx, by rw [sizeLine_eq]; omega, ?_⟩
            exact ⟨_, (v * v + (0 + (t : Int)) * 38447 + (i : Int) + 11) % 2147483587, rfl, ⟨w1.1, Int.lt_trans w1.2 (by decide)⟩, same_keep nD sm, dn.push w1.1 hx⟩
          · obtain ⟨o4, v, rfl, v1, sm, dn⟩ := h
            exact ⟨_, _, _, _, rfl, sm, dn.up (by omega)⟩
    · obtain ⟨o2, o3, o4, o5, rfl, sm, dn⟩ := h
      obtain ⟨ns, h1, h2, h3⟩ := dn
      refine ⟨_, rfl, .inl ⟨rfl, _, SqL.of h1⟩, D, _, rfl, rfl, h1, _, rfl, ?_⟩
      exact k _ D (same_keep nD sm) nD ⟨ns.reverse, by rw [upd_same, List.map_reverse], fun j hj => h2 j (List.mem_reverse.mp hj)⟩
end
end K0
set_option Elab.async false
set_option linter.all false
set_option maxRecDepth 100000
set_option maxHeartbeats 4000000
namespace K0
open PySem PySem.Spec PyProof.Rows L2
theorem del_upd_ne {H : Hp} {a d : Addr} {o : HO} (h : a ≠ d) : del (upd H a o) d = upd (del H d) a o := by
  funext b
  by_cases hb : b = d
  · rw [hb, del_same, upd_ne h.symm, del_same]
  · rw [del_ne hb]
    by_cases ha : b = a
    · rw [ha, upd_same, upd_same]
    · rw [upd_ne ha, upd_ne ha, del_ne hb]
theorem DrO.ne {H : Hp} {d u : Addr} (h : DrO H d) (n : H u = none) : u ≠ d := fun e => by
  obtain ⟨ns, h1, _⟩ := h
  rw [e, h1] at n
  cases n
theorem DrO.upd {H : Hp} {d u : Addr} {o : HO} (h : DrO H d) (n : u ≠ d) : DrO (upd H u o) d := by
  obtain ⟨ns, h1, h2⟩ := h
  exact ⟨ns, by rw [upd_ne n.symm]; exact h1, h2⟩
/-- new things, the draws apart -/
theorem sd_upd {H H' : Hp} {d u : Addr} {o : HO} (s : Same (del H d) H') (n : H u = none) (ne : u ≠ d) : Same (del H d) (upd H' u o) := fun b v e => by
  have : b ≠ u := fun z => by
    rw [z, del_ne ne, n] at e
    cases e
  rw [upd_ne this]
  exact s b v e
theorem sd_trans {H H1 H2 : Hp} {d : Addr} (a : Same (del H d) H1) (b : Same (del H1 d) H2) : Same (del H d) H2 := (same_del a).trans b
theorem sd_none {H H' : Hp} {d a : Addr} (s : Same (del H d) H') (n : H' a = none) (ne : a ≠ d) : H a = none := by
  cases e : H a with
  | none => rfl
  | some o =>
    have := s a o (by rw [del_ne ne]; exact e)
    rw [this] at n
    cases n
section
variable {P : Program} {w : World} {K : PySem.W.Frag} {mg : Str → Option Value} {base : Heap} {f : Addr} {fd : FuncData}
abbrev s_wd : Stmt := top 46
/-- _law_web_drawn, of at most m things -/
def spWd : Sp := fun vs H Q _ => ∃ (d : Addr) (m : Int), vs = [.ref d, .int m] ∧ 2 ≤ m ∧ m ≤ 7 ∧ DrO H d ∧
  ∀ H' a b (n : Int) (q : List Pr), Same (del H d) H' → DrO H' d → H a = none → H b = none → H' a = some (.lst [.int n, .ref b]) → Grow (del H' d) b q → 2 ≤ n → n ≤ m → Cl n q → Q (.ref a) H'
theorem sc_wd : FnScope ["_law_draws_here", "_law_most", "_law_many", "_law_share", "_law_pairs", "_law_x", "_law_y"] ["_law_draws_here", "_law_most"] (defScope s_wd) := ⟨rfl, rfl, rfl, by decide +kernel, rfl, by decide +kernel, by decide +kernel⟩
theorem ok_wd (F : Fun K "_law_web_drawn" "_law_web_drawn" s_wd f fd) (B : Blt2 mg) (TK : Df P w K mg base "_law_take" 1 ["_law_draws_here", "_law_many"] spTk) : FnOk P w K mg base (L2.CX P w) 2 f fd ["_law_draws_here", "_law_most"] spWd := by
  refine F.okX sc_wd (fun vs H Q E h => ?_) (fun cdv A outer s H vs Q E hr h => ?_)
  · obtain ⟨d, m, rfl, _⟩ := h
    rfl
  · obtain ⟨d, m, rfl, m2, m7, dr, k⟩ := h
    have nd := sc_wd.nd
    refine ⟨_, pss_cons (ps_set (i := 2) nd rfl (.inl rfl) (pe_op op_add pe_int (pe_op op_mod (pe_callTy call_int1 (by rfl) B.int (by decide +kernel) (pa_cons (pe_op op_add pe_int (pe_df TK hr (by rfl) passUp (pa_cons (pv 0) (pa_cons pe_int pa_nil)))) pa_nil)) (pe_op op_sub (pv 1) pe_int))))
      (pss_cons (ps_set (i := 3) nd rfl (.inl rfl) (pe_op op_add pe_int (pe_df TK hr (by rfl) passUp (pa_cons (pv 0) (pa_cons pe_int pa_nil)))))
      (pss_cons (ps_set (i := 4) nd rfl (.inl rfl) (pe_lst pa_nil))
      (pss_cons (ps_for (passes_of rfl) rfl (pi_range1 (by rfl) B.range (pa_cons (pv 2) pa_nil)) (pg_name (i := 5) nd rfl (.inl rfl))
        (pss_one (ps_for (passes_of rfl) rfl (pi_range2 (by rfl) B.range (pa_cons (pe_op op_add (pv 5) pe_int) (pa_cons (pv 2) pa_nil))) (pg_name (i := 6) nd rfl (.inl rfl))
          (pss_one (ps_if (pt_cmpR op_eq (pe_op op_mod (pe_callTy call_int1 (by rfl) B.int (by decide +kernel) (pa_cons (pe_op op_add (pe_op op_sub (pv 6) (pv 5)) (pe_df TK hr (by rfl) passUp (pa_cons (pv 0) (pa_cons pe_int pa_nil)))) pa_nil)) (pv 3)) pe_int (nomark _))
            (pss_one (ps_expr (pe_lapp (pv 4) (pa_cons (pe_tup (pa_cons (pv 5) (pa_cons (pv 6) pa_nil))) pa_nil)))) pss_nil)))))
      (pss_one (ps_ret (pe_lst (pa_cons (pv 2) (pa_cons (pv 4) pa_nil)))))))), ?_⟩
    refine ⟨_, rfl, d, 24, rfl, by decide, dr, fun r1 H1 a1 b1 s1 dr1 => ?_⟩
    refine ⟨_, _, rfl, rfl, .inl ⟨_, rfl, _, rfl, _, _, rfl, rfl, _, _, rfl, rfl, (by show (0 : Int) < m - 1; omega), _, _, rfl, rfl, ?_⟩⟩
    obtain ⟨N, eN⟩ : ∃ N : Int, N = 2 + (2 + r1) % (m - 1) := ⟨_, rfl⟩
    have hN : 2 ≤ N ∧ N ≤ m := by
      have h1 : 0 ≤ (2 + r1) % (m - 1) := Int.emod_nonneg _ (by omega)
      have h2 : (2 + r1) % (m - 1) < m - 1 := Int.emod_lt_of_pos _ (by omega)
      omega
    refine ⟨_, rfl, d, 2, rfl, by decide, dr1, fun r2 H2 a2 b2 s2 dr2 => ⟨_, _, rfl, rfl, ?_⟩⟩
    refine ⟨by show 0 ≤ sizeLine; exact Nat.zero_le _, fun D nD => ?_⟩
    have Dd := dr2.ne nD
    have s12 := sd_trans s1 s2
    have hD : H D = none := sd_none s12 nD Dd
    let P1 : Nat → L2.St → Hp → Prop := fun i σ H' => ∃ o5 o6 rs P, σ = [some (.ref d), some (.int m), some (.int N), some (.int (2 + r2)), some (.ref D), o5, o6] ∧ Same (del H d) H' ∧ DrO H' d ∧ Grow (del H' d) D rs ∧ Lx N P i (i + 1) rs
    refine ⟨_, rfl, N, by rw [eN], by omega, by omega, for_range (n := N.toNat) P1 ⟨none, none, [], fun _ => True, by rw [eN]; rfl, sd_upd s12 hD Dd, dr2.upd Dd, ⟨[], by rw [del_ne Dd, upd_same]; rfl, rfl, fun z hz => by cases hz⟩, by simpa using Lx.start⟩ (fun i σ H' hi h => ?_) (fun σ H' h => ?_)⟩
    · obtain ⟨o5, o6, rs, PP, rfl, sm, dr', g, lx⟩ := h
      rw [Int.zero_add]
      let P2 : Nat → L2.St → Hp → Prop := fun t σ H' => ∃ o6 rs P, σ = [some (.ref d), some (.int m), some (.int N), some (.int (2 + r2)), some (.ref D), some (.int (i : Int)), o6] ∧ Same (del H d) H' ∧ DrO H' d ∧ Grow (del H' d) D rs ∧ Lx N P i ((i : Int) + 1 + t) rs
      refine ⟨_, rfl, _, _, rfl, rfl, _, rfl, _, _, rfl, ⟨by omega, by omega, by omega, by omega⟩, for_range (n := (N - ((i : Int) + 1)).toNat) P2 ⟨o6, rs, PP, rfl, sm, dr', g, by simpa using lx⟩ (fun t σ H2 ht h => ?_) (fun σ H2 h => ?_)⟩
      · obtain ⟨o6, rs, PP, rfl, sm, dr', g, lx⟩ := h
        refine ⟨_, rfl, _, rfl, _, _, rfl, rfl, _, rfl, d, 6, rfl, by decide, dr', fun r H3 r0 r6 s3 dr3 => ?_⟩
        refine ⟨_, _, rfl, rfl, .inl ⟨_, rfl, _, rfl, _, _, rfl, rfl, (by show 0 < 2 + r2; omega), rfl, _, rfl, ?_⟩⟩
        have sm3 := sd_trans sm s3
        have g3 := g.mono (same_del s3)
        have r' : 0 ≤ (i : Int) ∧ (i : Int) < (i : Int) + 1 + t ∧ (i : Int) + 1 + t < N := by omega
        have e1 : (i : Int) + 1 + t + 1 = (i : Int) + 1 + ((t + 1 : Nat) : Int) := by omega
        refine ite2 (fun _ => ?_) (fun _ => ?_)
        case refine_1 =>
          obtain ⟨xs, hx, lxs, _⟩ := g3.at
          have hx3 : H3 D = some (.lst xs) := by rw [del_ne Dd] at hx; exact hx
          have few := lx.cl.few (by omega)
          refine ⟨_, rfl, .inl ⟨rfl, xs, SqL.of hx3⟩, _, rfl, _, rfl, (by show 2 ≤ sizeLine; decide), fun u nu => ?_⟩
          have ud := dr3.ne nu
          have s4 : Same H3 (upd H3 u (.tup [.int (i : Int), .int ((i : Int) + 1 + t)])) := same_upd nu
          refine ⟨D, xs, _, rfl, rfl, s4 _ _ hx3, by rw [sizeLine_eq]; omega, ?_⟩
          refine ⟨_, rs ++ [((i : Int), (i : Int) + 1 + t)], fun z => PP z ∨ z = ((i : Int), (i : Int) + 1 + t), rfl, sd_upd (sd_upd sm3 (sd_none sm3 nu ud) ud) hD Dd, (dr3.upd ud).upd Dd, ?_, ?_⟩
          · rw [del_upd_ne Dd, del_upd_ne ud]
            exact g3.push (by rw [del_ne ud]; exact nu) hx
          · have lx' : Lx N (fun z => PP z ∨ z = ((i : Int), (i : Int) + 1 + t)) i ((i : Int) + 1 + t) rs := lx.change fun z hz => ⟨.inl, fun h => h.elim (fun h => h) fun h => by rw [h] at hz; dsimp only at hz; omega⟩
            have := lx'.add (.inr rfl) r'
            rw [e1] at this
            exact this
        case refine_2 =>
          refine ⟨_, rs, fun z => PP z ∧ z ≠ ((i : Int), (i : Int) + 1 + t), rfl, sm3, dr3, g3, ?_⟩
          have lx' : Lx N (fun z => PP z ∧ z ≠ ((i : Int), (i : Int) + 1 + t)) i ((i : Int) + 1 + t) rs := lx.change fun z hz => ⟨fun h => ⟨h, fun h => by rw [h] at hz; dsimp only at hz; omega⟩, fun h => h.1⟩
          have := lx'.skip (fun z => z.2 rfl)
          rw [e1] at this
          exact this
      · obtain ⟨o6, rs, PP, rfl, sm, dr', g, lx⟩ := h
        rw [show (i : Int) + 1 + ((N - ((i : Int) + 1)).toNat : Int) = N by omega] at lx
        refine ⟨_, _, rs, PP, rfl, sm, dr', g, ?_⟩
        have := lx.row
        rw [show (i : Int) + 2 = (i : Int) + 1 + 1 by omega] at this
        exact_mod_cast this
    · obtain ⟨o5, o6, rs, PP, rfl, sm, dr', g, lx⟩ := h
      refine ⟨_, rfl, _, rfl, (by show 2 ≤ sizeLine; decide), fun a na => ?_⟩
      have ad := dr'.ne na
      have hA : H a = none := sd_none sm na ad
      refine k _ a D N rs (sd_upd sm hA ad) (dr'.upd ad) hA hD upd_same ?_ hN.1 hN.2 lx.cl
      rw [del_upd_ne ad]
      exact g.mono (same_upd (by rw [del_ne ad]; exact na))
end
end K0
set_option Elab.async false
set_option linter.all false
set_option maxRecDepth 100000
set_option maxHeartbeats 4000000
namespace K0
open PySem PySem.Spec PyProof.Rows L2
/-! ### calls whose exceptions are caught here -/
section
variable {X : Cx} {pins : List (Addr × Obj)} {σ : L2.St} {H : Hp} {s : Shared}
theorem run_anyS {A : Around} {n : Nat} {f : Addr} {fd : FuncData} {ps : List Str} {sp : Sp} {E : XK} {Q : VK} {vs : List V} {us : List Value} {CX : CXT} (sb : Sub X n A) (F : FnOk X.prog X.w X.K X.mg X.base CX n f fd ps sp) (hb : Binds X.K fd ps []) (hx : PassesAt CX X σ E)
    (I : Inv X pins σ H s) (r : Vals vs us) (h : sp vs H Q E) : wpAny (model X.prog X.w) A (call (.ref f) us) (EP X pins σ Q) X.xe s := by
  have e0 : Env0 X.prog X.w X.K X.mg X.base A X.stack s H := by
    have e := I.env0
    exact ⟨by rw [sb.fr]; exact e.frames, e.mod, e.bs, e.bsz, e.funs, e.frf, e.hok, e.bare⟩
  have hl := F.len _ _ _ _ h
  have hl2 : us.length = ps.length := by rw [← hl, r.length]
  refine wpAny_call (codeAny_mono (F.run A X.stack s H ⟨us, []⟩ us vs Q E sb.room e0 (by
    have := hb s us I.kIn (by simpa using hl2)
    simpa using this) r h) fun r s' hq => ?_)
  cases r with
  | error e => exact hx pins H s e s' I hq
  | ok fl =>
    cases fl with
    | ret w => exact I.after hq
    | next => exact False.elim hq
    | brk => exact False.elim hq
    | cont => exact False.elim hq
theorem run_makeS {CX : CXT} {k : Nat} {C f : Addr} {fd : FuncData} {ps : List Str} {sp : Sp} {E : XK} {Q : VK} {us : List Value} {vs : List V} (M : Mk X.K C f) (F : FnOk X.prog X.w X.K X.mg X.base CX k f fd ps sp) (hr : Room (k + 1) X.A) (hb : Binds X.K fd ps [])
    (hx : PassesAt CX X σ E) (I : Inv X pins σ H s) (r : Vals vs us)
    (h : ∀ x dx, H x = none → H dx = none → dx ≠ x → sp (.ref x :: vs) (upd (upd H dx (.own x)) x (.ins C dx [])) (fun v H2 => v = .non ∧ Q (.ref x) H2) E) :
    wpAny (model X.prog X.w) X.A (call (.ref C) us) (EP X pins σ Q) X.xe s := by
  have hq := h (s.heap.objs.size + 1) s.heap.objs.size (I.hok.fresh (Nat.le_succ _)) (I.hok.fresh (Nat.le_refl _)) (Nat.ne_of_lt (Nat.lt_succ_self _))
  have I2 := Inv.made (C := C) I
  have r2 : Vals (V.ref (s.heap.objs.size + 1) :: vs) (Value.ref (s.heap.objs.size + 1) :: us) := .cons rfl r
  have hl : (Value.ref (s.heap.objs.size + 1) :: us).length = ps.length := by
    have e := r2.length
    rw [F.len _ _ _ _ hq] at e
    exact e.symm
  have b2 := hb { s with heap := (s.heap.push PySem.W.emptyDict).push (PySem.W.instObj C s.heap.objs.size) } (Value.ref (s.heap.objs.size + 1) :: us) I2.kIn (by simpa using hl)
  rw [List.append_nil] at b2
  refine wpAny_call (make_map (f := f) I.kIn M.makes M.init (beq_iff_eq.mp M.fn) (codeAny_mono (F.run _ X.stack _ _ ⟨Value.ref (s.heap.objs.size + 1) :: us, []⟩ (Value.ref (s.heap.objs.size + 1) :: us) _ _ E (hr.make C us [])
    (I2.env0.make C us []) b2 r2 hq) fun r s' hq' => ?_))
  cases r with
  | error e => exact hx pins _ _ e s' I2 hq'
  | ok fl =>
    cases fl with
    | ret u =>
      obtain ⟨v, H', I3, rv, ev, q3⟩ := I2.after hq'
      subst ev
      exact ⟨rv, ⟨V.ref (s.heap.objs.size + 1), H', I3, rfl, q3⟩⟩
    | next => exact False.elim hq'
    | brk => exact False.elim hq'
    | cont => exact False.elim hq'
variable {C CN CW : Addr} {m : Str} {k : Nat} {ps : List Str} {sp : Sp} {E : L2.St → XK} {o e : Expr} {es : List Expr} {ta tb : TE} {t : TA} {p apos pos : Pos}
theorem pe_webS (T : WebK X.prog X.w X.K X.mg X.base C CN CW) (hr : Room 5 X.A) (hg : Gl X "Web") (hx : ∀ σ, PassesAt (L2.CX X.prog X.w) X σ (E σ)) (ha : PA X (e :: es) t)
    (he : starEach (e :: es) X.env = (false, eval e X.env) :: starEach es X.env := by rfl) (hpl : (backTo pos (starEach es X.env)).any (·.1) = false := by rfl) :
    PE X (.Call (.Name "Web" p) (e :: es) [] pos) (tCallS (spMk X.K C CN CW) E t) := by
  obtain ⟨f, fd, M, F, b, _⟩ := T.ex
  refine ⟨fun pins s σ H Q I h => ?_⟩
  refine wpAny_Call_Name_kw (ld_glob I hg T.g ?_ (by decide))
  refine PySem.W.callWith_K (h₀ := X.base) I.ok.mod.kin M.kp (thn (ha.run pos pins s σ H _ I h) fun us s1 ⟨vs, H1, I1, r, q⟩ => ⟨I1.kIn, ?_⟩) he hpl
  exact run_makeS M F hr b (hx σ) I1 r fun x dx nx ndx ne => spMk_in q x dx nx ndx ne
def tMethS (C : Addr) (m : Str) (sp : Sp) (E : L2.St → XK) (ta : TE) (t : TA) : TE := fun σ H Q => ta σ H fun x H1 => ∃ a dx fs, x = .ref a ∧ H1 a = some (.ins C dx fs) ∧ fs.lookup m = none ∧ t σ H1 fun vs H2 => sp (x :: vs) H2 Q (E σ)
theorem pe_mtS {pl : Sem Bool} (T : Mt X.prog X.w X.K X.mg X.base C m k ps sp) (hr : Room k X.A) (hx : ∀ σ, PassesAt (L2.CX X.prog X.w) X σ (E σ)) (he : PE X o ta) (ha : PA X (e :: es) t)
    (hst : starEach (e :: es) X.env = (false, eval e X.env) :: starEach es X.env := by rfl) (hpl : (backTo pos (starEach es X.env)).any (·.1) = false := by rfl)
    (ht : eval (.Call (.Attribute o m apos) (e :: es) [] pos) X.env = (do
      let ov ← eval o X.env
      standAt apos.atName
      let (f, first) ← holding [ov] (getMethod ov m pl)
      callWith pos f first (backTo pos (starEach (e :: es) X.env)) (backToKw pos (keywordEach [] X.env))) := by rfl) : PE X (.Call (.Attribute o m apos) (e :: es) [] pos) (tMethS C m sp E ta t) := by
  obtain ⟨f, fd, c, hm, _, _, _, F, b⟩ := T.ex
  refine ⟨fun pins s σ H Q I h => ?_⟩
  refine PySem.W.methodCall_KW (pl := pl) (thn (he.run pins s σ H _ I h) fun u s1 ⟨x, H1, I1, rx, a, dx, fs, ex, ea, l, q⟩ => ?_) ht
  subst ex
  obtain rfl : u = Value.ref a := rx
  refine getmeth_ok I1 ea c hm l ?_
  refine PySem.W.callWith_K (first := [.ref a]) (h₀ := X.base) I.ok.mod.kin hm.kp (thn (ha.run pos pins s1 σ H1 _ I1 q) fun us s2 ⟨vs, H2, I2, r, q2⟩ => ⟨I2.kIn, ?_⟩) hst hpl
  exact run_anyS (vs := .ref a :: vs) (us := .ref a :: us) ⟨hr, rfl⟩ F b (hx σ) I2 (.cons rfl r) q2
def rIxOS (C : Addr) (sp : Sp) (E : L2.St → XK) (σ : L2.St) : R2 := fun x y H Q => ∃ a dx fs, x = .ref a ∧ H a = some (.ins C dx fs) ∧ sp [.ref a, y] H Q (E σ)
theorem pe_ixOS {a b : Expr} (T : Mt X.prog X.w X.K X.mg X.base C "__getitem__" k ps sp) (hr : Room (k + 1) X.A) (hx : ∀ σ, PassesAt (L2.CX X.prog X.w) X σ (E σ)) (ha : PE X a ta) (hb : PE X b tb)
    (hsl : ∀ (x : Addr) (i : Value), subscripted b true (.ref x) i = runValue (.builtin "lifetime.subscript" ⟨[.ref x, i], []⟩) := by intro _ _; with_unfolding_all rfl) : PE X (.Subscript a b pos) (fun σ => tOp (rIxOS C sp E σ) ta tb σ) := by
  refine ⟨fun pins s σ H Q I h => ?_⟩
  refine Subscript_ (binT ha hb I h fun v u s2 x y H2 I2 rx ry q => ?_)
  obtain ⟨p, dx, fs, rfl, hp, q⟩ := q
  obtain ⟨f, fd, c, hm, hfn, hf, hs, F, bb⟩ := T.ex
  cases rx
  obtain ⟨mA, J, _⟩ := ins_get I2.hok hp
  obtain ⟨od, J, _⟩ := J.look
  obtain ⟨m, hF⟩ := I2.fr
  exact PySem.W.sub_K hF I2.ok.mod.kin J hs hf hfn (run_anyS (vs := [.ref p, y]) (A := X.A.in1) ⟨hr.in1, rfl⟩ F bb (hx σ) I2 (.cons rfl (.cons ry .nil)) q) (hsl p u)
end
def NewS (ss : List Str) (H : Hp) (Q : VK) : Prop := ∀ H' t, Same H H' → H t = none → H' t = some (.tup (ss.map V.str)) → Q (.ref t) H'
section
variable {P : Program} {w : World} {K : PySem.W.Frag} {mg : Str → Option Value} {base : Heap} {f : Addr} {fd : FuncData}
end
end K0
set_option Elab.async false
set_option linter.all false
set_option maxRecDepth 100000
set_option maxHeartbeats 4000000
namespace K0
open PySem PySem.Spec PyProof.Rows L2
abbrev heapOf {H H' : Hp} (_ : Same H H') : Hp := H'
theorem nvs_int (l : List Nat) : nvs l = (l.map fun (k : Nat) => (k : Int)).map V.int := by
  unfold nvs
  rw [List.map_map]
  rfl
theorem cut_take (xs : List V) (k : Nat) : cutV xs none (some (k : Int)) = xs.take k := by
  unfold cutV HT.sIx
  simp only [Nat.sub_zero, List.drop_zero]
  by_cases h : xs.length ≤ k
  · rw [List.take_of_length_le h]
    refine List.take_of_length_le ?_
    split <;> omega
  · congr 1
    split <;> omega
theorem cut_drop (xs : List V) (k : Nat) (h : k ≤ xs.length) : cutV xs (some (k : Int)) none = xs.drop k := by
  have e : HT.sIx xs.length 0 (some (k : Int)) = k := by
    unfold HT.sIx
    simp only
    split <;> omega
  have e2 : HT.sIx xs.length xs.length none = xs.length := rfl
  unfold cutV
  rw [e, e2]
  refine List.take_of_length_le ?_
  rw [List.length_drop]
  exact Nat.le_refl _
theorem cl_eq {n m : Int} {q q' : List Pr} (h : Cl n q) (h' : Cl m q') (e : ∀ z, z ∈ q' ↔ z ∈ q) : q' = q := srt_unique h'.srt h.srt e
theorem Cl.up {n m : Int} {q : List Pr} (h : Cl n q) (l : n ≤ m) : Cl m q := ⟨h.srt, fun p hp => by have := h.rng p hp; omega⟩
/-- Web(n, ..) on a list of pairs that holds just those of r, once or more -/
theorem mk_ls {K : PySem.W.Frag} {C CN CW : Addr} {H : Hp} {b : Addr} {n : Int} {ps : List Pr} {Q : VK} {E : XK} (hl : Ls H b ps) (rng : ∀ z ∈ ps, 0 ≤ z.1 ∧ z.1 < z.2 ∧ z.2 < n) (h0 : 0 ≤ n) (h8 : n ≤ 16) (h62 : ps.length ≤ 62)
    (k : ∀ H' p q, Same H H' → H p = none → Cl n q → (∀ z, z ∈ q ↔ z ∈ ps) → WebAt C (New H H') p n q → Q (.ref p) H') : spMk K C CN CW [.int n, .ref b] H Q E := by
  refine ⟨b, .int n, .int n, ps.map prD, rfl, .int n, hl.sq, fun z => ?_, fun m e _ => ?_⟩
  · have z' : ¬ (0 ≤ n) := of_decide_eq_false z
    exact absurd h0 z'
  · cases e
    refine ⟨h8, by rw [List.length_map]; exact h62, fun ps' hps q cq hm H' p sm np W => ?_, fun x y hxy => ?_⟩
    · rw [entsOf_prs rng] at hps
      cases hps
      exact k H' p q sm np cq hm W
    · rw [entsOf_prs rng] at hxy
      cases hxy
end K0
set_option Elab.async false
set_option linter.all false
set_option maxRecDepth 100000
set_option maxHeartbeats 4000000
namespace K0
open PySem PySem.Spec PyProof.Rows L2
theorem DtAll.rev {H : Hp} : ∀ {vs : List V} {ds : List PyData}, DtAll H vs ds → DtAll H vs.reverse ds.reverse
  | _, _, .nil => .nil
  | _, _, .cons h t => by
    rw [List.reverse_cons, List.reverse_cons]
    exact t.rev.app (.cons h .nil)
section
variable {K : PySem.W.Frag} {C : Addr} {H : Hp} {p p1 b : Addr} {n m : Int} {q q1 : List Pr} {Q : VK} {E : XK}
theorem eqO_web (T : WebI K C) (W : WebAt C H p n q) (W1 : WebAt C H p1 m q1) (k : Ret (.bl (decide (n = m) && decide (q = q1))) H Q) : rEqO K C (spEqW C) E (.ref p) (.ref p1) H Q := by
  obtain ⟨dx, c, mm, xs, h1, _⟩ := W.tuple
  obtain ⟨dx', c', mm', xs', h1', _⟩ := W1.tuple
  exact ⟨p, dx, _, _, rfl, h1, .ins h1', by simp [PySem.W.notFirst], p, _, n, q, rfl, W, .inl ⟨p1, m, q1, rfl, W1, fun H2 s2 => ⟨_, rfl, k H2 s2⟩⟩⟩
theorem eqO_lst (T : WebI K C) (W : WebAt C H p n q) (hl : Ls H b q1) (k : Ret (.bl false) H Q) : rEqO K C (spEqW C) E (.ref p) (.ref b) H Q := by
  obtain ⟨dx, c, mm, xs, h1, _⟩ := W.tuple
  obtain ⟨ys, hb, hy⟩ := hl
  exact ⟨p, dx, _, _, rfl, h1, .lst hb, T.nf "list" (by simp), p, _, n, q, rfl, W, .inr ⟨_, .lst hb hy, fun H2 s2 => ⟨_, rfl, k H2 s2⟩⟩⟩
theorem eqO_int (T : WebI K C) (W : WebAt C H p n q) (k : Ret (.bl false) H Q) : rEqO K C (spEqW C) E (.ref p) (.int m) H Q := by
  obtain ⟨dx, c, mm, xs, h1, _⟩ := W.tuple
  exact ⟨p, dx, _, _, rfl, h1, .int m, T.nf "int" (by simp), p, _, n, q, rfl, W, .inr ⟨_, .int m, fun H2 s2 => ⟨_, rfl, k H2 s2⟩⟩⟩
end
section
variable {P : Program} {w : World} {K : PySem.W.Frag} {mg : Str → Option Value} {base : Heap} {f : Addr} {fd : FuncData}
end
end K0
set_option Elab.async false
set_option linter.all false
set_option maxRecDepth 100000
set_option maxHeartbeats 4000000
namespace K0
open PySem PySem.Spec PyProof.Rows L2
/-! ### sorted pairs -/
def kH (H : Hp) : V → Int × Int
  | .ref a => match H a with
    | some (.tup [.int x, .int y]) => (x, y)
    | _ => (0, 0)
  | _ => (0, 0)
theorem kH_at {H : Hp} {a : Addr} {p : Pr} (h : H a = some (.tup [.int p.1, .int p.2])) : kH H (.ref a) = p := by
  show (match H a with | some (.tup [.int x, .int y]) => (x, y) | _ => (0, 0)) = p
  rw [h]
theorem dta_kH {H : Hp} : ∀ {xs : List V} {ps : List Pr}, DtAll H xs (ps.map prD) → xs.map (kH H) = ps ∧ ∀ x ∈ xs, ∃ t, x = V.ref t ∧ H t = some (.tup [.int (kH H x).1, .int (kH H x).2])
  | xs, [], h => by
    cases h
    exact ⟨rfl, fun x hx => by cases hx⟩
  | xs, p :: ps, h => by
    cases h with
    | cons h1 h2 =>
      obtain ⟨e, hh⟩ := dta_kH h2
      cases h1 with
      | tup ea h =>
        cases h with
        | cons a b =>
          cases b with
          | cons c d =>
            cases a
            cases c
            cases d
            have ek := kH_at ea
            refine ⟨by rw [List.map_cons, ek, e], fun x hx => ?_⟩
            rcases List.mem_cons.mp hx with hx | hx
            · rw [hx, ek]
              exact ⟨_, rfl, ea⟩
            · exact hh x hx
theorem dta_of {H : Hp} {k : V → Int × Int} : ∀ {ys : List V}, (∀ y ∈ ys, ∃ t, y = V.ref t ∧ H t = some (.tup [.int (k y).1, .int (k y).2])) → DtAll H ys ((ys.map k).map prD)
  | [], _ => .nil
  | y :: ys, h => by
    obtain ⟨t, e, ht⟩ := h y List.mem_cons_self
    subst e
    exact .cons (dt_pr ht) (dta_of fun z hz => h z (List.mem_cons_of_mem _ hz))
theorem cr_srtP {X : Cx} : CallR X (.builtin "sorted") (fun xs H Q => ∃ a ps, xs = [.ref a] ∧ Ls H a ps ∧ ps.Nodup ∧ ∀ H' p rs, Same H H' → H p = none → Ls H' p rs → rs.Pairwise plt → (∀ z, z ∈ rs ↔ z ∈ ps) → rs.length = ps.length → Q (.ref p) H') := by
  intro pins s σ H xs us Q I r h
  obtain ⟨a, ps, rfl, ⟨ys, ha, hy⟩, nd, k⟩ := h
  obtain ⟨e, hh⟩ := dta_kH hy
  refine cr_sortedPO pins s σ H _ us Q I r ⟨a, ys, kH H, rfl, SqL.of ha, hh, fun zs p srt stb np => ?_⟩
  have sm : Same H (upd H p (.lst zs)) := same_upd np
  have pm : (zs.map (kH H)).Perm ps := by
    rw [← e]
    exact stb.perm.map _
  have nd2 : (zs.map (kH H)).Nodup := pm.nodup_iff.mpr nd
  refine k _ p (zs.map (kH H)) sm np ⟨zs, upd_same, dta_of fun y hy' => ?_⟩ ?_ (fun z => pm.mem_iff) pm.length_eq
  · obtain ⟨t, e1, e2⟩ := hh y (stb.perm.mem_iff.mp hy')
    exact ⟨t, e1, sm _ _ e2⟩
  · have s2 : (zs.map (kH H)).Pairwise fun x y => SrtO.lexB y x = false := List.pairwise_map.mpr srt
    refine List.Pairwise.imp₂ (fun x y h1 h2 => ?_) s2 nd2
    have := SrtO.lexB_no.mp h1
    have ne : x.1 ≠ y.1 ∨ x.2 ≠ y.2 := by
      by_cases e1 : x.1 = y.1
      · exact .inr fun e2 => h2 (Prod.ext e1 e2)
      · exact .inl e1
    unfold plt
    omega
end K0
set_option Elab.async false
set_option linter.all false
set_option maxRecDepth 100000
set_option maxHeartbeats 4000000
/-! ### rows of ints, sorted, any number of them -/
namespace RowS
open PySem PySem.Spec PyProof.Rows L2
abbrev cd (r : List Int) : Int := TS.code 64 r
/-- sorted rows, each once -/
abbrev Up (rs : List (List Int)) : Prop := rs.Pairwise fun a b => cd a < cd b
theorem up_unique : ∀ {l m : List (List Int)}, Up l → Up m → (∀ x, x ∈ l ↔ x ∈ m) → l = m
  | [], [], _, _, _ => rfl
  | [], b :: m, _, _, h => by cases (h b).mpr List.mem_cons_self
  | a :: l, [], _, _, h => by cases (h a).mp List.mem_cons_self
  | a :: l, b :: m, hl, hm, h => by
    obtain ⟨al, ll⟩ := List.pairwise_cons.mp hl
    obtain ⟨bm, mm⟩ := List.pairwise_cons.mp hm
    have e : a = b := by
      rcases List.mem_cons.mp ((h a).mp List.mem_cons_self) with e | e
      · exact e
      rcases List.mem_cons.mp ((h b).mpr List.mem_cons_self) with e2 | e2
      · exact e2.symm
      have p := bm a e
      have q := al b e2
      omega
    subst e
    have no : ∀ {k : List (List Int)}, (∀ x ∈ k, cd a < cd x) → a ∉ k := fun hk hx => Int.lt_irrefl _ (hk a hx)
    rw [up_unique ll mm fun x => ⟨fun hx => ?_, fun hx => ?_⟩]
    · rcases List.mem_cons.mp ((h x).mp (List.mem_cons_of_mem _ hx)) with e | e
      · exact absurd hx (by rw [e]; exact no al)
      · exact e
    · rcases List.mem_cons.mp ((h x).mpr (List.mem_cons_of_mem _ hx)) with e | e
      · exact absurd hx (by rw [e]; exact no bm)
      · exact e
section
variable {prog : Program} {w : World} {A : Around} {E : Value → Shared → Prop} {s : Shared}
theorem swo_cd {α : Type} (k : α → Int) : SrtO.Swo fun v u => decide (k v < k u) := by
  refine ⟨fun x y h => ?_, fun x y z h1 h2 => ?_⟩
  · have := of_decide_eq_true h
    exact decide_eq_false (by omega)
  · have := of_decide_eq_false h1
    have := of_decide_eq_false h2
    exact decide_eq_false (by omega)
theorem rows_cmp {d : Nat} {vs : List Value} {h0 : Heap} (hp : TS.TupsOk s.heap d 64 vs) (same : ∀ v ∈ vs, TS.intsOf h0 v = TS.intsOf s.heap v) :
    SrtO.Cmp prog w A s (tuples' true) (fun p => p.1 ∈ vs) (SrtO.lt2 fun v u => decide (cd (TS.intsOf h0 v) < cd (TS.intsOf h0 u))) := by
  intro p q hm hm'
  obtain ⟨ns, t1, l1, b1⟩ := hp _ hm
  obtain ⟨ms, t2, l2, b2⟩ := hp _ hm'
  show wpAny (model prog w) A (keyLt' (tuples' true) p.1 q.1) (fun r s' => s' = s ∧ r = decide (cd (TS.intsOf h0 p.1) < cd (TS.intsOf h0 q.1))) (fun _ _ => False) s
  rw [same _ hm, same _ hm', t1.ints, t2.ints]
  obtain ⟨a, xs, e, ⟨o, ho, hc, n, hd⟩, i⟩ := t1
  obtain ⟨a', xs', e', ⟨o', ho', hc', n', hd'⟩, i'⟩ := t2
  rw [e, e']
  refine PySem.W.kat_lt ho hd ho' hd' ?_
  have ez : decide (xs.size < xs'.size) = false := by
    have z1 := i.length
    have z2 := i'.length
    rw [Array.length_toList] at z1 z2
    exact decide_eq_false (by omega)
  rw [ez]
  exact TS.lex_ints 0 i i' (by omega) b1 b2 ⟨rfl, rfl⟩
theorem rows_sortable {d : Nat} {a : Addr} {vs : List Value} (hd : 1 ≤ d) (hz : 0 < vs.length) (hp : TS.TupsOk s.heap d 64 vs) (ha : ∀ o, s.heap.get? a = some o → o.cls ≠ .type "tuple") (h0 : Heap) (same : ∀ v ∈ vs, TS.intsOf h0 v = TS.intsOf s.heap v) :
    SrtO.SortableO prog w A s a vs fun v u => decide (cd (TS.intsOf h0 v) < cd (TS.intsOf h0 u)) := by
  intro h' keep
  have kp : ∀ b o, s.heap.get? b = some o → o.cls = .type "tuple" → h'.get? b = some o := fun b o e c => keep b o (fun z => by subst z; exact ha o e c) e
  have hp' : TS.TupsOk h' d 64 vs := hp.keeps kp
  have same' : ∀ v ∈ vs, TS.intsOf h0 v = TS.intsOf h' v := fun v hv => by
    obtain ⟨ns, t, _⟩ := hp v hv
    rw [same v hv, t.ints, (t.keeps kp).ints]
  obtain ⟨fs, h1, h2, h3⟩ := TS.firsts_of hd vs hp'
  refine ⟨tuples' true, fun Q E hq => ?_, rows_cmp (s := { s with heap := h' }) hp' same'⟩
  refine PySem.W.kat_kind (T := .type "int") h1 (by omega) (fun f hm => ?_) (by rfl) ?_
  · obtain ⟨x, t, rfl⟩ := h3 f hm
    exact PySem.W.Looks.now
  · have e : (Value.type "int" != Value.type "tuple") = true := by first | decide +kernel | rfl | decide
    rw [e]
    exact hq
theorem sorted_rows {l : Addr} {vs : List Value} {d : Nat} {Q : Value → Shared → Prop} (hl : s.heap.IsList l vs.toArray) (hz : vs.length ≤ sizeLine) (hd : 1 ≤ d) (hp : TS.TupsOk s.heap d 64 vs)
    (h : ∀ (h' : Heap) (p : Addr) (out : List Value), out.Perm vs → out.Pairwise (fun v u => cd (TS.intsOf s.heap v) ≤ cd (TS.intsOf s.heap u)) → (∀ b o, s.heap.get? b = some o → h'.get? b = some o) → s.heap.objs.size ≤ p → (∃ n, h'.get? p = some (seqObj "list" out.toArray n)) → Q (.ref p) { s with heap := h' }) :
    wpAny (model prog w) A (call (.builtin "sorted") [.ref l]) Q E s := by
  refine SrtO.sorted_ord (swo_cd fun v => cd (TS.intsOf s.heap v)) hl hz (fun h2 h₁ a ha kk => ?_) fun out hs hb => ?_
  · have kp : ∀ b o, s.heap.get? b = some o → o.cls = .type "tuple" → h₁.get? b = some o := fun b o e _ => (kk b o e).2
    refine rows_sortable (s := { s with heap := h₁ }) hd (by omega) (hp.keeps kp) (fun o e => ?_) s.heap fun v hv => ?_
    · have e' : some o = some (seqObj "list" vs.toArray 0) := e.symm.trans ha
      cases e'
      intro c
      exact absurd (Value.type.inj c) (by decide)
    · obtain ⟨ns, t, _⟩ := hp v hv
      rw [t.ints]
      exact (t.keeps kp).ints.symm
  · refine h _ _ out hb.perm (List.Pairwise.imp (fun {v u} z => ?_) hs) (fun b o e => sortedAll_old e) (Nat.le_succ _) (sortedAll_at s.heap vs out.toArray)
    have := of_decide_eq_false z
    omega
end
end RowS
namespace L2
open PySem PySem.Spec PyProof.Rows
/-- sorted(xs), xs a list of tuples of d ints in [0, 64): a new list of the same, by their codes -/
def rSortV (K : PySem.W.Frag) (d : Nat) : List V → Hp → VK → Prop := fun vs H Q => ∃ (a : Addr) (xs : List V), vs = [V.ref a] ∧ SqL K H a xs ∧ (∀ x ∈ xs, ∃ ns, TupI K H x ns ∧ ns.length = d ∧ TS.Bd 64 ns) ∧
  ∀ (ys : List V) (p : Addr), ys.Perm xs → ys.Pairwise (fun x y => ∀ n m, TupI K H x n → TupI K H y m → TS.code 64 n ≤ TS.code 64 m) → H p = none → Q (.ref p) (upd H p (.lst ys))
theorem cr_sortV {X : Cx} {d : Nat} (hd : 1 ≤ d) : CallR X (.builtin "sorted") (rSortV X.K d) := by
  intro pins s σ H vs us Q I r h
  obtain ⟨a, xs, rfl, hs, hx, q⟩ := h
  obtain ⟨its, rv, hl, hz⟩ := I.list hs
  rw [Vals.ref1 r]
  obtain ⟨e1, e2⟩ := bkV_refs rv fun x m => by
    obtain ⟨ns, ⟨t, e, _⟩, _⟩ := hx x m
    exact ⟨t, e⟩
  refine RowS.sorted_rows (d := d) hl.isList (by rw [← rv.length]; exact hz) hd (fun v hv => ?_) fun h' p out h1 h2 kp hp hn => ?_
  · obtain ⟨t, rfl⟩ := e2 v hv
    have hm : V.ref t ∈ xs := by
      rw [e1]
      exact List.mem_map.mpr ⟨_, hv, rfl⟩
    obtain ⟨ns, ⟨t', e, ht⟩, hn, hb⟩ := hx _ hm
    cases e
    exact ⟨ns, tupI_raw I ht, hn, hb⟩
  · have h3 : ∀ u ∈ out, ∃ a, u = Value.ref a := fun u hu => e2 u (h1.mem_iff.mp hu)
    obtain ⟨n, hn⟩ := hn
    have hp' : (out.map bkV).Perm xs := by
      rw [e1]
      exact h1.map bkV
    have hlen : (out.map bkV).length ≤ sizeLine := by
      rw [hp'.length_eq]
      exact hz
    refine ⟨.ref p, upd H p (.lst (out.map bkV)), I.laid (t' := s.toks) kp hp ⟨hlen, out, n, bkV_vals h3, hn⟩, rfl, q _ p hp' ?_ (I.hok.fresh hp)⟩
    rw [List.pairwise_map]
    refine List.Pairwise.imp (fun {u v} huv n m hn hm => ?_) h2
    obtain ⟨t, et, ht⟩ := hn
    obtain ⟨t', et', ht'⟩ := hm
    have eu := bkV_ref et
    have ev := bkV_ref et'
    have i1 : TS.intsOf s.heap u = n := by
      rw [eu]
      exact (tupI_raw I ht).ints
    have i2 : TS.intsOf s.heap v = m := by
      rw [ev]
      exact (tupI_raw I ht').ints
    have z := huv
    rw [i1, i2] at z
    exact z
end L2
set_option Elab.async false
set_option linter.all false
set_option maxRecDepth 100000
set_option maxHeartbeats 4000000
namespace K0
open PySem PySem.Spec PyProof.Rows L2
/-! ### rows of four, as sorted rows of ints -/
/-- x and y clash by the row q -/
def cl (q : List Pr) (x y : Int) : Prop := (x, y) ∈ q ∨ (y, x) ∈ q
theorem cl_symm {q : List Pr} {x y : Int} : cl q x y ↔ cl q y x := ⟨fun h => h.symm, fun h => h.symm⟩
theorem cl_ne {n : Int} {q : List Pr} (h : Cl n q) {x y : Int} (c : cl q x y) : x ≠ y := by
  rintro rfl
  rcases c with c | c <;> have := h.rng _ c <;> dsimp only at this <;> omega
theorem cl_rng {n : Int} {q : List Pr} (h : Cl n q) {x y : Int} (c : cl q x y) : (0 ≤ x ∧ x < n) ∧ 0 ≤ y ∧ y < n := by
  rcases c with c | c <;> have := h.rng _ c <;> dsimp only at this <;> omega
theorem hasP_cl {q : List Pr} {x y : Nat} : hasP q x y = true ↔ cl q x y := by
  unfold hasP cl
  rw [Bool.or_eq_true, decide_eq_true_iff, decide_eq_true_iff]
theorem cl_nat {n : Int} {q : List Pr} (h : Cl n q) {x y : Int} (c : cl q x y) : hasP q x.toNat y.toNat = true := by
  obtain ⟨⟨a, _⟩, b, _⟩ := cl_rng h c
  rw [hasP_cl, Int.toNat_of_nonneg a, Int.toNat_of_nonneg b]
  exact c
/-- a row of four -/
structure RQ (q : List Pr) (a b c d : Int) : Prop where
  ab : cl q a b
  bc : cl q b c
  cd : cl q c d
  ac : ¬ cl q a c
  bd : ¬ cl q b d
  ad : ¬ cl q a d
  nac : a ≠ c
  nbd : b ≠ d
  nad : a ≠ d
/-- the rows of four of a web, sorted -/
structure IsRows (n : Int) (q : List Pr) (rs : List Rw) : Prop where
  up : RowS.Up rs
  mem : ∀ r, r ∈ rs ↔ ∃ a b c d, r = [a, b, c, d] ∧ a < d ∧ RQ q a b c d
theorem IsRows.uniq {n m : Int} {q : List Pr} {rs ss : List Rw} (h : IsRows n q rs) (g : IsRows m q ss) : rs = ss := RowS.up_unique h.up g.up fun x => by rw [h.mem, g.mem]
theorem RQ.rng {n : Int} {q : List Pr} (h : Cl n q) {a b c d : Int} (r : RQ q a b c d) : (0 ≤ a ∧ a < n) ∧ (0 ≤ b ∧ b < n) ∧ (0 ≤ c ∧ c < n) ∧ 0 ≤ d ∧ d < n := ⟨(cl_rng h r.ab).1, (cl_rng h r.ab).2, (cl_rng h r.cd).1, (cl_rng h r.cd).2⟩
theorem bd_row {n : Int} (hn : n ≤ 64) {a b c d : Int} (h : (0 ≤ a ∧ a < n) ∧ (0 ≤ b ∧ b < n) ∧ (0 ≤ c ∧ c < n) ∧ 0 ≤ d ∧ d < n) : TS.Bd 64 [a, b, c, d] := fun m hm => by
  simp only [List.mem_cons, List.not_mem_nil, or_false] at hm
  omega
theorem code_inj : ∀ {r q : List Int}, r.length = q.length → TS.Bd 64 r → TS.Bd 64 q → TS.code 64 r = TS.code 64 q → r = q
  | [], [], _, _, _, _ => rfl
  | [], _ :: _, l, _, _, _ => by simp at l
  | _ :: _, [], l, _, _, _ => by simp at l
  | x :: r, y :: q, l, hr, hq, e => by
    have l' : r.length = q.length := by simpa using l
    rcases Int.lt_trichotomy x y with z | z | z
    · have := TS.code_lt l' hr.tail hq.tail z
      omega
    · subst z
      have c : TS.code 64 r = TS.code 64 q := by
        rcases Int.lt_trichotomy (TS.code 64 r) (TS.code 64 q) with w | w | w
        · have := (TS.code_same (d := x) (B := 64) l').mpr w
          omega
        · exact w
        · have := (TS.code_same (d := x) (B := 64) l'.symm).mpr w
          omega
      rw [code_inj l' hr.tail hq.tail c]
    · have := TS.code_lt l'.symm hq.tail hr.tail z
      omega
/-- sorted and each once -/
theorem up_of {rs : List Rw} (le : rs.Pairwise fun a b => TS.code 64 a ≤ TS.code 64 b) (nd : rs.Nodup) (b : ∀ r ∈ rs, r.length = 4 ∧ TS.Bd 64 r) : RowS.Up rs := by
  refine List.Pairwise.imp_of_mem (fun {x y} hx hy h => ?_) (le.and nd)
  obtain ⟨h1, h2⟩ := h
  have : TS.code 64 x ≠ TS.code 64 y := fun e => h2 (code_inj ((b x hx).1.trans (b y hy).1.symm) (b x hx).2 (b y hy).2 e)
  show TS.code 64 x < TS.code 64 y
  omega
theorem up_nodup {rs : List Rw} (h : RowS.Up rs) : rs.Nodup := List.Pairwise.imp (fun {a b} hab e => by rw [e] at hab; exact Int.lt_irrefl _ hab) h
theorem nodup_fm {α β : Type} {l : List α} {f : α → List β} (nl : l.Nodup) (nf : ∀ a ∈ l, (f a).Nodup) (ap : ∀ a ∈ l, ∀ b ∈ l, ∀ x, x ∈ f a → x ∈ f b → a = b) : (l.flatMap f).Nodup := by
  refine List.pairwise_flatMap.mpr ⟨nf, List.Pairwise.imp_of_mem (fun {a b} ha hb ne x hx y hy e => ?_) nl⟩
  subst e
  exact ne (ap a ha b hb x hx hy)
/-! ### what the program finds -/
abbrev near (n : Nat) (q : List Pr) (x : Nat) : List Nat := (List.range n).filter (hasP q x)
def fstN (n : Nat) (q : List Pr) (b c : Nat) : List Nat := (List.range n).filter fun a => hasP q b a && !hasP q c a && !decide (a = c)
def fthN (n : Nat) (q : List Pr) (a b c : Nat) : List Nat := (List.range n).filter fun d => hasP q c d && !hasP q b d && !hasP q a d && !decide (d = b)
def row4 (a b c d : Nat) : Rw := [(a : Int), (b : Int), (c : Int), (d : Int)]
def pf3 (n : Nat) (q : List Pr) (b c a : Nat) : List Rw := ((fthN n q a b c).filter fun d => decide (a < d)).map (row4 a b c)
def pf2 (n : Nat) (q : List Pr) (b c : Nat) : List Rw := (fstN n q b c).flatMap (pf3 n q b c)
def pf1 (n : Nat) (q : List Pr) (b : Nat) : List Rw := (near n q b).flatMap (pf2 n q b)
def pf (n : Nat) (q : List Pr) : List Rw := (List.range n).flatMap (pf1 n q)
theorem row4_inj {a b c d a' b' c' d' : Nat} (h : row4 a b c d = row4 a' b' c' d') : a = a' ∧ b = b' ∧ c = c' ∧ d = d' := by
  unfold row4 at h
  simp only [List.cons.injEq, and_true] at h
  omega
theorem nodup_filter_range {n : Nat} {p : Nat → Bool} : ((List.range n).filter p).Nodup := List.nodup_range.filter _
theorem mem_pf3 {n : Nat} {q : List Pr} {b c a : Nat} {x : Rw} : x ∈ pf3 n q b c a ↔ ∃ d, d ∈ fthN n q a b c ∧ a < d ∧ x = row4 a b c d := by
  unfold pf3
  rw [List.mem_map]
  constructor
  · rintro ⟨d, hd, rfl⟩
    obtain ⟨h1, h2⟩ := List.mem_filter.mp hd
    exact ⟨d, h1, of_decide_eq_true h2, rfl⟩
  · rintro ⟨d, h1, h2, rfl⟩
    exact ⟨d, List.mem_filter.mpr ⟨h1, decide_eq_true h2⟩, rfl⟩
theorem pf_nodup (n : Nat) (q : List Pr) : (pf n q).Nodup := by
  have k3 : ∀ {b c a x}, x ∈ pf3 n q b c a → ∃ d, x = row4 a b c d := fun h => by
    obtain ⟨d, _, _, e⟩ := mem_pf3.mp h
    exact ⟨d, e⟩
  have k2 : ∀ {b c x}, x ∈ pf2 n q b c → ∃ a d, x = row4 a b c d := fun {b c x} h => by
    obtain ⟨a, _, h⟩ := List.mem_flatMap.mp h
    obtain ⟨d, e⟩ := k3 h
    exact ⟨a, d, e⟩
  have k1 : ∀ {b x}, x ∈ pf1 n q b → ∃ a c d, x = row4 a b c d := fun {b x} h => by
    obtain ⟨c, _, h⟩ := List.mem_flatMap.mp h
    obtain ⟨a, d, e⟩ := k2 h
    exact ⟨a, c, d, e⟩
  refine nodup_fm List.nodup_range (fun b _ => nodup_fm nodup_filter_range (fun c _ => nodup_fm nodup_filter_range (fun a _ => ?_) fun a _ a' _ x h h' => ?_) fun c _ c' _ x h h' => ?_) fun b _ b' _ x h h' => ?_
  · refine List.pairwise_map.mpr (List.Pairwise.imp (fun {d d'} ne e => ne (row4_inj e).2.2.2) (nodup_filter_range.filter _))
  · obtain ⟨d, e⟩ := k3 h
    obtain ⟨d', e'⟩ := k3 h'
    exact (row4_inj (e.symm.trans e')).1
  · obtain ⟨a, d, e⟩ := k2 h
    obtain ⟨a', d', e'⟩ := k2 h'
    exact (row4_inj (e.symm.trans e')).2.2.1
  · obtain ⟨a, c, d, e⟩ := k1 h
    obtain ⟨a', c', d', e'⟩ := k1 h'
    exact (row4_inj (e.symm.trans e')).2.1
theorem nh {q : List Pr} {x y : Nat} : hasP q x y = false ↔ ¬ cl q x y := by
  rw [← hasP_cl]
  simp
theorem pf_mem {n : Nat} {q : List Pr} (h : Cl n q) (r : Rw) : r ∈ pf n q ↔ ∃ a b c d, r = [a, b, c, d] ∧ a < d ∧ RQ q a b c d := by
  unfold pf pf1 pf2
  simp only [List.mem_flatMap, mem_pf3, fstN, fthN, List.mem_filter, List.mem_range, Bool.and_eq_true, Bool.not_eq_true', decide_eq_false_iff_not, hasP_cl, nh]
  constructor
  · rintro ⟨b, hb, c, ⟨hc, bc⟩, a, ⟨ha, ⟨ba, nca⟩, nac⟩, d, ⟨hd, ⟨⟨cd, nbd⟩, nad⟩, ndb⟩, lt, rfl⟩
    refine ⟨a, b, c, d, rfl, by omega, cl_symm.mp ba, bc, cd, fun z => nca (cl_symm.mp z), nbd, nad, by omega, by omega, by omega⟩
  · rintro ⟨a, b, c, d, rfl, lt, R⟩
    obtain ⟨⟨a0, a1⟩, ⟨b0, b1⟩, ⟨c0, c1⟩, d0, d1⟩ := R.rng h
    obtain ⟨a, rfl⟩ := Int.eq_ofNat_of_zero_le a0
    obtain ⟨b, rfl⟩ := Int.eq_ofNat_of_zero_le b0
    obtain ⟨c, rfl⟩ := Int.eq_ofNat_of_zero_le c0
    obtain ⟨d, rfl⟩ := Int.eq_ofNat_of_zero_le d0
    have := R.nac
    have := R.nbd
    exact ⟨b, by omega, c, ⟨by omega, R.bc⟩, a, ⟨by omega, ⟨cl_symm.mp R.ab, fun z => R.ac (cl_symm.mp z)⟩, by omega⟩, d, ⟨by omega, ⟨⟨R.cd, R.bd⟩, R.ad⟩, by omega⟩, by omega, rfl⟩
/-- what the program sorts -/
theorem pf_rows {n : Nat} {q : List Pr} (h : Cl n q) (hn : n ≤ 64) {rs : List Rw} (pm : rs.Perm (pf n q)) (le : rs.Pairwise fun a b => TS.code 64 a ≤ TS.code 64 b) : IsRows n q rs := by
  have mem : ∀ r, r ∈ rs ↔ ∃ a b c d, r = [a, b, c, d] ∧ a < d ∧ RQ q a b c d := fun r => pm.mem_iff.trans (pf_mem h r)
  refine ⟨up_of le (pm.nodup_iff.mpr (pf_nodup n q)) fun r hr => ?_, mem⟩
  obtain ⟨a, b, c, d, rfl, _, R⟩ := (mem r).mp hr
  exact ⟨rfl, bd_row (n := n) (by omega) (R.rng h)⟩
/-! ### what the law finds -/
def lq3 (n : Nat) (q : List Pr) (a b c : Nat) : List Rw := ((near n q c).filter fun d => decide (a < d) && (!decide (d = b) && (!hasP q b d && !hasP q a d))).map (row4 a b c)
def lq2 (n : Nat) (q : List Pr) (a b : Nat) : List Rw := ((near n q b).filter fun c => !decide (c = a) && !hasP q a c).flatMap (lq3 n q a b)
def lq1 (n : Nat) (q : List Pr) (a : Nat) : List Rw := (near n q a).flatMap (lq2 n q a)
def lq (n : Nat) (q : List Pr) : List Rw := (List.range n).flatMap (lq1 n q)
theorem mem_lq3 {n : Nat} {q : List Pr} {b c a : Nat} {x : Rw} : x ∈ lq3 n q a b c ↔ ∃ d, ((d < n ∧ hasP q c d = true) ∧ a < d ∧ ¬ d = b ∧ hasP q b d = false ∧ hasP q a d = false) ∧ x = row4 a b c d := by
  unfold lq3 near
  simp only [List.mem_map, List.mem_filter, List.mem_range, Bool.and_eq_true, Bool.not_eq_true', decide_eq_true_iff, decide_eq_false_iff_not]
  constructor
  · rintro ⟨d, h, rfl⟩
    exact ⟨d, h, rfl⟩
  · rintro ⟨d, h, rfl⟩
    exact ⟨d, h, rfl⟩
theorem lq_nodup (n : Nat) (q : List Pr) : (lq n q).Nodup := by
  have k3 : ∀ {b c a x}, x ∈ lq3 n q a b c → ∃ d, x = row4 a b c d := fun h => by
    obtain ⟨d, _, e⟩ := mem_lq3.mp h
    exact ⟨d, e⟩
  have k2 : ∀ {a b x}, x ∈ lq2 n q a b → ∃ c d, x = row4 a b c d := fun {b c x} h => by
    obtain ⟨a, _, h⟩ := List.mem_flatMap.mp h
    obtain ⟨d, e⟩ := k3 h
    exact ⟨a, d, e⟩
  have k1 : ∀ {a x}, x ∈ lq1 n q a → ∃ b c d, x = row4 a b c d := fun {b x} h => by
    obtain ⟨c, _, h⟩ := List.mem_flatMap.mp h
    obtain ⟨a, d, e⟩ := k2 h
    exact ⟨c, a, d, e⟩
  refine nodup_fm List.nodup_range (fun b _ => nodup_fm nodup_filter_range (fun c _ => nodup_fm (nodup_filter_range.filter _) (fun a _ => ?_) fun a _ a' _ x h h' => ?_) fun c _ c' _ x h h' => ?_) fun b _ b' _ x h h' => ?_
  · refine List.pairwise_map.mpr (List.Pairwise.imp (fun {d d'} ne e => ne (row4_inj e).2.2.2) (nodup_filter_range.filter _))
  · obtain ⟨d, e⟩ := k3 h
    obtain ⟨d', e'⟩ := k3 h'
    exact (row4_inj (e.symm.trans e')).2.2.1
  · obtain ⟨a, d, e⟩ := k2 h
    obtain ⟨a', d', e'⟩ := k2 h'
    exact (row4_inj (e.symm.trans e')).2.1
  · obtain ⟨a, c, d, e⟩ := k1 h
    obtain ⟨a', c', d', e'⟩ := k1 h'
    exact (row4_inj (e.symm.trans e')).1
theorem lq_mem {n : Nat} {q : List Pr} (h : Cl n q) (r : Rw) : r ∈ lq n q ↔ ∃ a b c d, r = [a, b, c, d] ∧ a < d ∧ RQ q a b c d := by
  unfold lq lq1 lq2
  simp only [List.mem_flatMap, mem_lq3, near, List.mem_filter, List.mem_range, Bool.and_eq_true, Bool.not_eq_true', decide_eq_false_iff_not, hasP_cl, nh]
  constructor
  · rintro ⟨a, ha, b, ⟨hb, ab⟩, c, ⟨⟨hc, bc⟩, nca, nac⟩, d, ⟨⟨hd, cd⟩, lt, ndb, nbd, nad⟩, rfl⟩
    exact ⟨a, b, c, d, rfl, by omega, ab, bc, cd, nac, nbd, nad, by omega, by omega, by omega⟩
  · rintro ⟨a, b, c, d, rfl, lt, R⟩
    obtain ⟨⟨a0, a1⟩, ⟨b0, b1⟩, ⟨c0, c1⟩, d0, d1⟩ := R.rng h
    obtain ⟨a, rfl⟩ := Int.eq_ofNat_of_zero_le a0
    obtain ⟨b, rfl⟩ := Int.eq_ofNat_of_zero_le b0
    obtain ⟨c, rfl⟩ := Int.eq_ofNat_of_zero_le c0
    obtain ⟨d, rfl⟩ := Int.eq_ofNat_of_zero_le d0
    have := R.nac
    have := R.nbd
    exact ⟨a, by omega, b, ⟨by omega, R.ab⟩, c, ⟨⟨by omega, R.bc⟩, by omega, R.ac⟩, d, ⟨⟨by omega, R.cd⟩, by omega, by omega, R.bd, R.ad⟩, rfl⟩
theorem lq_rows {n : Nat} {q : List Pr} (h : Cl n q) (hn : n ≤ 64) {rs : List Rw} (pm : rs.Perm (lq n q)) (le : rs.Pairwise fun a b => TS.code 64 a ≤ TS.code 64 b) : IsRows n q rs := by
  have mem : ∀ r, r ∈ rs ↔ ∃ a b c d, r = [a, b, c, d] ∧ a < d ∧ RQ q a b c d := fun r => pm.mem_iff.trans (lq_mem h r)
  refine ⟨up_of le (pm.nodup_iff.mpr (lq_nodup n q)) fun r hr => ?_, mem⟩
  obtain ⟨a, b, c, d, rfl, _, R⟩ := (mem r).mp hr
  exact ⟨rfl, bd_row (n := n) (by omega) (R.rng h)⟩
end K0
set_option Elab.async false
set_option linter.all false
set_option maxRecDepth 100000
set_option maxHeartbeats 4000000
namespace K0
open PySem PySem.Spec PyProof.Rows L2
/-! ### webs put in -/
abbrev Wb := Int × List Pr
def nW (ws : List Wb) (v : Nat) : Int := (ws.getD v (0, [])).1
def qW (ws : List Wb) (v : Nat) : List Pr := (ws.getD v (0, [])).2
def fW (ws : List Wb) (v : Nat) : Int := ((ws.take v).map (·.1)).sum
structure Wbs (ws : List Wb) : Prop where
  n0 : ∀ w ∈ ws, 0 ≤ w.1
  cl : ∀ w ∈ ws, Cl w.1 w.2
theorem getD_mem {α : Type} {l : List α} {i : Nat} {d : α} (h : i < l.length) : l.getD i d ∈ l := by
  rw [List.getD_eq_getElem?_getD, List.getElem?_eq_getElem h]
  exact List.getElem_mem h
theorem Wbs.nn {ws : List Wb} (W : Wbs ws) (v : Nat) : 0 ≤ nW ws v := by
  unfold nW
  by_cases h : v < ws.length
  · exact W.n0 _ (getD_mem h)
  · rw [List.getD_eq_getElem?_getD, List.getElem?_eq_none (by omega)]
    exact Int.le_refl _
theorem Wbs.cw {ws : List Wb} (W : Wbs ws) (v : Nat) : Cl (nW ws v) (qW ws v) := by
  unfold nW qW
  by_cases h : v < ws.length
  · exact W.cl _ (getD_mem h)
  · rw [List.getD_eq_getElem?_getD, List.getElem?_eq_none (by omega)]
    exact ⟨.nil, fun p hp => by cases hp⟩
theorem sum_snoc (l : List Int) (x : Int) : (l ++ [x]).sum = l.sum + x := by
  induction l with
  | nil => simp
  | cons a l ih => rw [List.cons_append, List.sum_cons, List.sum_cons, ih]; omega
theorem fW_zero (ws : List Wb) : fW ws 0 = 0 := rfl
theorem fW_succ (ws : List Wb) (v : Nat) : fW ws (v + 1) = fW ws v + nW ws v := by
  unfold fW nW
  by_cases h : v < ws.length
  · rw [List.take_succ, List.getElem?_eq_getElem h, List.getD_eq_getElem?_getD, List.getElem?_eq_getElem h]
    show ((ws.take v ++ [ws[v]]).map (·.1)).sum = _
    rw [List.map_append]
    exact sum_snoc _ _
  · rw [List.take_of_length_le (by omega), List.take_of_length_le (by omega), List.getD_eq_getElem?_getD, List.getElem?_eq_none (by omega)]
    simp
theorem fW_mono {ws : List Wb} (W : Wbs ws) {u v : Nat} (h : u ≤ v) : fW ws u ≤ fW ws v := by
  induction v with
  | zero => rw [Nat.le_zero.mp h]; exact Int.le_refl _
  | succ v ih =>
    rcases Nat.lt_or_ge u (v + 1) with l | l
    · have := ih (by omega)
      have := W.nn v
      rw [fW_succ]
      omega
    · rw [show u = v + 1 by omega]
      exact Int.le_refl _
theorem fW_nonneg {ws : List Wb} (W : Wbs ws) (v : Nat) : 0 ≤ fW ws v := fW_mono W (Nat.zero_le v)
theorem fW_lt {ws : List Wb} (W : Wbs ws) {u v : Nat} (h : u < v) : fW ws u + nW ws u ≤ fW ws v := by
  rw [← fW_succ]
  exact fW_mono W h
/-- the thing t is the thing x of the web v -/
structure Loc (ws : List Wb) (t : Int) (k : Nat) (x : Int) : Prop where
  v : k < ws.length
  x0 : 0 ≤ x
  x1 : x < nW ws k
  e : t = fW ws k + x
theorem Loc.uniq {ws : List Wb} (W : Wbs ws) {t : Int} {u v : Nat} {x y : Int} (a : Loc ws t u x) (b : Loc ws t v y) : u = v ∧ x = y := by
  have e := a.e.symm.trans b.e
  have := a.x0; have := a.x1; have := b.x0; have := b.x1
  rcases Nat.lt_trichotomy u v with h | h | h
  · have := fW_lt W h
    omega
  · subst h
    exact ⟨rfl, by omega⟩
  · have := fW_lt W h
    omega
theorem Loc.ex {ws : List Wb} {t : Int} : ∀ {k : Nat}, k ≤ ws.length → 0 ≤ t → t < fW ws k → ∃ v x, Loc ws t v x
  | 0, _, h0, h1 => by rw [fW_zero] at h1; omega
  | k + 1, hk, h0, h1 => by
    rcases Int.lt_or_le t (fW ws k) with h | h
    · exact Loc.ex (k := k) (by omega) h0 h
    · rw [fW_succ] at h1
      exact ⟨k, t - fW ws k, by omega, by omega, by omega, by omega⟩
abbrev tot (ws : List Wb) : Int := fW ws ws.length
theorem Loc.rng {ws : List Wb} (W : Wbs ws) {t : Int} {v : Nat} {x : Int} (a : Loc ws t v x) : 0 ≤ t ∧ t < tot ws := by
  have := fW_nonneg W v
  have := fW_lt W a.v
  have := a.x0; have := a.x1; have := a.e
  show 0 ≤ t ∧ t < fW ws ws.length
  omega
theorem Loc.lt {ws : List Wb} (W : Wbs ws) {t t' : Int} {u v : Nat} {x y : Int} (a : Loc ws t u x) (b : Loc ws t' v y) : t < t' ↔ u < v ∨ (u = v ∧ x < y) := by
  have := a.x0; have := a.x1; have := b.x0; have := b.x1; have := a.e; have := b.e
  rcases Nat.lt_trichotomy u v with h | h | h
  · have := fW_lt W h
    omega
  · subst h
    omega
  · have := fW_lt W h
    omega
/-! ### the pairs -/
def shf (q : List Pr) (s : Int) : List Pr := q.map fun p => (p.1 + s, p.2 + s)
def grid (a m b k : Int) : List Pr := (List.range m.toNat).flatMap fun (x : Nat) => (List.range k.toNat).map fun (y : Nat) => (a + (x : Int), b + (y : Int))
def inL (ws : List Wb) (k : Nat) : List Pr := (List.range k).flatMap fun v => shf (qW ws v) (fW ws v)
def gr (ws : List Wb) (e : Pr) : List Pr := grid (fW ws e.1.toNat) (nW ws e.1.toNat) (fW ws e.2.toNat) (nW ws e.2.toNat)
def acL (Q : List Pr) (ws : List Wb) : List Pr := Q.flatMap (gr ws)
def putL (Q : List Pr) (ws : List Wb) : List Pr := inL ws ws.length ++ acL Q ws
theorem mem_shf {q : List Pr} {s : Int} {z : Pr} : z ∈ shf q s ↔ (z.1 - s, z.2 - s) ∈ q := by
  unfold shf
  rw [List.mem_map]
  constructor
  · rintro ⟨p, hp, rfl⟩
    rw [show ((p.1 + s, p.2 + s) : Pr).1 - s = p.1 from by show p.1 + s - s = p.1; omega, show ((p.1 + s, p.2 + s) : Pr).2 - s = p.2 from by show p.2 + s - s = p.2; omega]
    exact hp
  · intro h
    exact ⟨_, h, Prod.ext (by show z.1 - s + s = z.1; omega) (by show z.2 - s + s = z.2; omega)⟩
theorem mem_grid {a m b k : Int} {z : Pr} : z ∈ grid a m b k ↔ (a ≤ z.1 ∧ z.1 < a + m) ∧ b ≤ z.2 ∧ z.2 < b + k := by
  unfold grid
  simp only [List.mem_flatMap, List.mem_map, List.mem_range]
  constructor
  · rintro ⟨x, hx, y, hy, rfl⟩
    dsimp only
    omega
  · rintro ⟨⟨h1, h2⟩, h3, h4⟩
    exact ⟨(z.1 - a).toNat, by omega, (z.2 - b).toNat, by omega, Prod.ext (by dsimp only; omega) (by dsimp only; omega)⟩
theorem sum_const (n k : Nat) : ((List.range n).map fun _ => k).sum = n * k := by
  induction n with
  | zero => simp
  | succ n ih => rw [List.range_succ, List.map_append, List.sum_append_nat, ih, Nat.succ_mul]; simp
theorem grid_len {a m b k : Int} : (grid a m b k).length = m.toNat * k.toNat := by
  unfold grid
  rw [List.length_flatMap]
  simp only [List.length_map, List.length_range]
  exact sum_const _ _
theorem mem_put {Q : List Pr} {ws : List Wb} (W : Wbs ws) (hQ : Cl ws.length Q) {t t' : Int} {u v : Nat} {x y : Int} (a : Loc ws t u x) (b : Loc ws t' v y) :
    (t, t') ∈ putL Q ws ↔ (u = v ∧ (x, y) ∈ qW ws u) ∨ (((u : Int), (v : Int)) : Pr) ∈ Q := by
  unfold putL inL acL
  simp only [List.mem_append, List.mem_flatMap, List.mem_range, mem_shf, gr, mem_grid]
  constructor
  · rintro (⟨w, hw, h⟩ | ⟨e, he, ⟨h1, h2⟩, h3, h4⟩)
    · have c := (W.cw w).rng _ h
      dsimp only at c
      obtain ⟨rfl, rfl⟩ := a.uniq W (v := w) (y := t - fW ws w) ⟨hw, by omega, by omega, by omega⟩
      obtain ⟨rfl, rfl⟩ := b.uniq W (v := u) (y := t' - fW ws u) ⟨hw, by omega, by omega, by omega⟩
      exact .inl ⟨rfl, h⟩
    · obtain ⟨c1, c2, c3⟩ := hQ.rng e he
      obtain ⟨e1, e2⟩ := a.uniq W (v := e.1.toNat) (y := t - fW ws e.1.toNat) ⟨by omega, by omega, by omega, by omega⟩
      obtain ⟨e3, e4⟩ := b.uniq W (v := e.2.toNat) (y := t' - fW ws e.2.toNat) ⟨by omega, by omega, by omega, by omega⟩
      refine .inr ?_
      rw [show (((u : Int), (v : Int)) : Pr) = e from Prod.ext (by dsimp only; omega) (by dsimp only; omega)]
      exact he
  · have := a.x0; have := a.x1; have := b.x0; have := b.x1; have ea := a.e; have eb := b.e
    rintro (⟨rfl, h⟩ | h)
    · refine .inl ⟨u, a.v, ?_⟩
      rw [show t - fW ws u = x by omega, show t' - fW ws u = y by omega]
      exact h
    · refine .inr ⟨_, h, ?_⟩
      dsimp only
      rw [Int.toNat_natCast, Int.toNat_natCast]
      omega
theorem put_loc {Q : List Pr} {ws : List Wb} (W : Wbs ws) (hQ : Cl ws.length Q) {z : Pr} (h : z ∈ putL Q ws) : ∃ u x v y, Loc ws z.1 u x ∧ Loc ws z.2 v y := by
  unfold putL inL acL at h
  simp only [List.mem_append, List.mem_flatMap, List.mem_range, mem_shf, gr, mem_grid] at h
  rcases h with ⟨w, hw, h⟩ | ⟨e, he, ⟨h1, h2⟩, h3, h4⟩
  · have c := (W.cw w).rng _ h
    dsimp only at c
    exact ⟨w, _, w, _, ⟨hw, by omega, by omega, (by omega : z.1 = fW ws w + (z.1 - fW ws w))⟩, ⟨hw, by omega, by omega, (by omega : z.2 = fW ws w + (z.2 - fW ws w))⟩⟩
  · obtain ⟨c1, c2, c3⟩ := hQ.rng e he
    exact ⟨e.1.toNat, _, e.2.toNat, _, ⟨by omega, by omega, by omega, (by omega : z.1 = fW ws e.1.toNat + (z.1 - fW ws e.1.toNat))⟩, ⟨by omega, by omega, by omega, (by omega : z.2 = fW ws e.2.toNat + (z.2 - fW ws e.2.toNat))⟩⟩
theorem put_rng {Q : List Pr} {ws : List Wb} (W : Wbs ws) (hQ : Cl ws.length Q) {z : Pr} (h : z ∈ putL Q ws) : 0 ≤ z.1 ∧ z.1 < z.2 ∧ z.2 < tot ws := by
  obtain ⟨u, x, v, y, a, b⟩ := put_loc W hQ h
  refine ⟨(a.rng W).1, (a.lt W b).mpr ?_, (b.rng W).2⟩
  rcases (mem_put W hQ a b).mp h with ⟨rfl, h⟩ | h
  · exact .inr ⟨rfl, ((W.cw u).rng _ h).2.1⟩
  · have := (hQ.rng _ h).2.1
    dsimp only at this
    exact .inl (by omega)
/-- the web put in: its clashes, sorted -/
structure IsPut (Q : List Pr) (ws : List Wb) (p : List Pr) : Prop where
  c : Cl (tot ws) p
  m : ∀ z, z ∈ p ↔ z ∈ putL Q ws
theorem IsPut.uniq {Q : List Pr} {ws : List Wb} {p p' : List Pr} (h : IsPut Q ws p) (g : IsPut Q ws p') : p = p' := srt_unique h.c.srt g.c.srt fun z => by rw [h.m, g.m]
theorem cl_put {Q : List Pr} {ws : List Wb} {p : List Pr} (W : Wbs ws) (hQ : Cl ws.length Q) (h : IsPut Q ws p) {t t' : Int} {u v : Nat} {x y : Int} (a : Loc ws t u x) (b : Loc ws t' v y) : cl p t t' ↔ (u = v ∧ cl (qW ws u) x y) ∨ cl Q u v := by
  unfold cl
  rw [h.m, h.m, mem_put W hQ a b, mem_put W hQ b a]
  constructor
  · rintro ((⟨rfl, h⟩ | h) | ⟨rfl, h⟩ | h)
    · exact .inl ⟨rfl, .inl h⟩
    · exact .inr (.inl h)
    · exact .inl ⟨rfl, .inr h⟩
    · exact .inr (.inr h)
  · rintro (⟨rfl, h | h⟩ | h | h)
    · exact .inl (.inl ⟨rfl, h⟩)
    · exact .inr (.inl ⟨rfl, h⟩)
    · exact .inl (.inr h)
    · exact .inr (.inr h)
theorem rq_put {Q : List Pr} {ws : List Wb} {p : List Pr} (W : Wbs ws) (hQ : Cl ws.length Q) (h : IsPut Q ws p) {t1 t2 t3 t4 : Int} {u1 u2 u3 u4 : Nat} {x1 x2 x3 x4 : Int} (a : Loc ws t1 u1 x1) (b : Loc ws t2 u2 x2) (c : Loc ws t3 u3 x3) (d : Loc ws t4 u4 x4) :
    RQ p t1 t2 t3 t4 ↔ (u1 = u2 ∧ u2 = u3 ∧ u3 = u4 ∧ RQ (qW ws u1) x1 x2 x3 x4) ∨ RQ Q u1 u2 u3 u4 := by
  have irr : ∀ {u : Nat}, ¬ cl Q u u := fun {u} z => cl_ne hQ z rfl
  have eab := cl_put W hQ h a b
  have ebc := cl_put W hQ h b c
  have ecd := cl_put W hQ h c d
  have eac := cl_put W hQ h a c
  have ebd := cl_put W hQ h b d
  have ead := cl_put W hQ h a d
  constructor
  · intro R
    have r1 := eab.mp R.ab
    have r2 := ebc.mp R.bc
    have r3 := ecd.mp R.cd
    have n1 := fun z => R.ac (eac.mpr z)
    have n2 := fun z => R.bd (ebd.mpr z)
    have n3 := fun z => R.ad (ead.mpr z)
    rcases r1 with ⟨rfl, k1⟩ | k1
    · rcases r2 with ⟨rfl, k2⟩ | k2
      · rcases r3 with ⟨rfl, k3⟩ | k3
        · refine .inl ⟨rfl, rfl, rfl, k1, k2, k3, fun z => n1 (.inl ⟨rfl, z⟩), fun z => n2 (.inl ⟨rfl, z⟩), fun z => n3 (.inl ⟨rfl, z⟩), fun e => R.nac ?_, fun e => R.nbd ?_, fun e => R.nad ?_⟩
          · rw [a.e, c.e, e]
          · rw [b.e, d.e, e]
          · rw [a.e, d.e, e]
        · exact absurd (.inr k3) n3
      · exact absurd (.inr k2) n1
    · rcases r2 with ⟨rfl, k2⟩ | k2
      · exact absurd (.inr k1) n1
      · rcases r3 with ⟨rfl, k3⟩ | k3
        · exact absurd (.inr k2) n2
        · refine .inr ⟨k1, k2, k3, fun z => n1 (.inr z), fun z => n2 (.inr z), fun z => n3 (.inr z), fun e => ?_, fun e => ?_, fun e => ?_⟩
          · have : u1 = u3 := by omega
            subst this
            exact n3 (.inr k3)
          · have : u2 = u4 := by omega
            subst this
            exact n3 (.inr k1)
          · have : u1 = u4 := by omega
            subst this
            exact n2 (.inr (cl_symm.mp k1))
  · rintro (⟨rfl, rfl, rfl, R⟩ | R)
    · have no : ∀ {x y}, ¬ cl (qW ws u1) x y → ¬ ((u1 = u1 ∧ cl (qW ws u1) x y) ∨ cl Q u1 u1) := fun n z => z.elim (fun z => n z.2) irr
      refine ⟨eab.mpr (.inl ⟨rfl, R.ab⟩), ebc.mpr (.inl ⟨rfl, R.bc⟩), ecd.mpr (.inl ⟨rfl, R.cd⟩), fun z => no R.ac (eac.mp z), fun z => no R.bd (ebd.mp z), fun z => no R.ad (ead.mp z), fun e => R.nac ?_, fun e => R.nbd ?_, fun e => R.nad ?_⟩
      · have := a.e; have := c.e; omega
      · have := b.e; have := d.e; omega
      · have := a.e; have := d.e; omega
    · have no : ∀ {u v : Nat} {P : Prop}, (u : Int) ≠ v → ¬ cl Q u v → ¬ ((u = v ∧ P) ∨ cl Q u v) := fun ne n z => z.elim (fun z => ne (by rw [z.1])) n
      refine ⟨eab.mpr (.inr R.ab), ebc.mpr (.inr R.bc), ecd.mpr (.inr R.cd), fun z => no R.nac R.ac (eac.mp z), fun z => no R.nbd R.bd (ebd.mp z), fun z => no R.nad R.ad (ead.mp z), fun e => R.nac ?_, fun e => R.nbd ?_, fun e => R.nad ?_⟩
      · rw [e] at a; have := (a.uniq W c).1; omega
      · rw [e] at b; have := (b.uniq W d).1; omega
      · rw [e] at a; have := (a.uniq W d).1; omega
/-! ### its rows of four -/
def shR (s : Int) (r : Rw) : Rw := r.map fun x => s + x
def insR (ws : List Wb) (rI : Nat → List Rw) (k : Nat) : List Rw := (List.range k).flatMap fun v => (rI v).map (shR (fW ws v))
def prt (ws : List Wb) (u : Int) : List Int := (List.range (nW ws u.toNat).toNat).map fun (x : Nat) => fW ws u.toNat + (x : Int)
def prod4 (A B C D : List Int) : List Rw := A.flatMap fun a => B.flatMap fun b => C.flatMap fun c => D.map fun d => [a, b, c, d]
def prodR (ws : List Wb) (u : Rw) : List Rw := prod4 (prt ws (u.getD 0 0)) (prt ws (u.getD 1 0)) (prt ws (u.getD 2 0)) (prt ws (u.getD 3 0))
def allR (ws : List Wb) (rI : Nat → List Rw) (rO : List Rw) : List Rw := insR ws rI ws.length ++ rO.flatMap (prodR ws)
theorem mem_prod4 {A B C D : List Int} {r : Rw} : r ∈ prod4 A B C D ↔ ∃ a b c d, a ∈ A ∧ b ∈ B ∧ c ∈ C ∧ d ∈ D ∧ r = [a, b, c, d] := by
  unfold prod4
  simp only [List.mem_flatMap, List.mem_map]
  constructor
  · rintro ⟨a, ha, b, hb, c, hc, d, hd, rfl⟩
    exact ⟨a, b, c, d, ha, hb, hc, hd, rfl⟩
  · rintro ⟨a, b, c, d, ha, hb, hc, hd, rfl⟩
    exact ⟨a, ha, b, hb, c, hc, d, hd, rfl⟩
theorem prod4_nodup {A B C D : List Int} (hA : A.Nodup) (hB : B.Nodup) (hC : C.Nodup) (hD : D.Nodup) : (prod4 A B C D).Nodup := by
  refine nodup_fm hA (fun a _ => nodup_fm hB (fun b _ => nodup_fm hC (fun c _ => ?_) fun c _ c' _ x h h' => ?_) fun b _ b' _ x h h' => ?_) fun a _ a' _ x h h' => ?_
  · refine List.pairwise_map.mpr (List.Pairwise.imp (fun {d d'} ne e => ne ?_) hD)
    simp only [List.cons.injEq, and_true, true_and] at e
    exact e
  · obtain ⟨d, _, e⟩ := List.mem_map.mp h
    obtain ⟨d', _, e'⟩ := List.mem_map.mp h'
    have := e.trans e'.symm
    simp only [List.cons.injEq, and_true, true_and] at this
    exact this.1
  · simp only [List.mem_flatMap, List.mem_map] at h h'
    obtain ⟨c, _, d, _, e⟩ := h
    obtain ⟨c', _, d', _, e'⟩ := h'
    have := e.trans e'.symm
    simp only [List.cons.injEq, and_true, true_and] at this
    exact this.1
  · simp only [List.mem_flatMap, List.mem_map] at h h'
    obtain ⟨b, _, c, _, d, _, e⟩ := h
    obtain ⟨b', _, c', _, d', _, e'⟩ := h'
    have := e.trans e'.symm
    simp only [List.cons.injEq, and_true, true_and] at this
    exact this.1
theorem mem_prt {ws : List Wb} {u : Nat} (hu : u < ws.length) {t : Int} : t ∈ prt ws u ↔ ∃ x, Loc ws t u x := by
  unfold prt
  simp only [List.mem_map, List.mem_range, Int.toNat_natCast]
  constructor
  · rintro ⟨x, hx, rfl⟩
    exact ⟨x, hu, by omega, by omega, rfl⟩
  · rintro ⟨x, L⟩
    have := L.x0; have := L.x1; have := L.e
    exact ⟨x.toNat, by omega, by omega⟩
theorem prt_nodup (ws : List Wb) (u : Int) : (prt ws u).Nodup := by
  refine List.pairwise_map.mpr (List.Pairwise.imp (fun {d d'} ne e => ne (by omega)) List.nodup_range)
/-- what the law has gathered: all rows of four, each once -/
theorem all_rows {Q : List Pr} {ws : List Wb} {p : List Pr} (W : Wbs ws) (hQ : Cl ws.length Q) (h : IsPut Q ws p) {rI : Nat → List Rw} {rO : List Rw} (hI : ∀ v, v < ws.length → IsRows (nW ws v) (qW ws v) (rI v)) (hO : IsRows ws.length Q rO) :
    (allR ws rI rO).Nodup ∧ ∀ r, r ∈ allR ws rI rO ↔ ∃ a b c d, r = [a, b, c, d] ∧ a < d ∧ RQ p a b c d := by
  have mI : ∀ {v r}, v < ws.length → r ∈ (rI v).map (shR (fW ws v)) → ∃ a b c d x1 x2 x3 x4, r = [a, b, c, d] ∧ Loc ws a v x1 ∧ Loc ws b v x2 ∧ Loc ws c v x3 ∧ Loc ws d v x4 ∧ x1 < x4 ∧ RQ (qW ws v) x1 x2 x3 x4 := fun {v r} hv hr => by
    obtain ⟨s, hs, rfl⟩ := List.mem_map.mp hr
    obtain ⟨x1, x2, x3, x4, rfl, lt, R⟩ := ((hI v hv).mem s).mp hs
    obtain ⟨c1, c2, c3, c4⟩ := R.rng (W.cw v)
    exact ⟨_, _, _, _, x1, x2, x3, x4, rfl, ⟨hv, c1.1, c1.2, rfl⟩, ⟨hv, c2.1, c2.2, rfl⟩, ⟨hv, c3.1, c3.2, rfl⟩, ⟨hv, c4.1, c4.2, rfl⟩, lt, R⟩
  have mO : ∀ {u r}, u ∈ rO → r ∈ prodR ws u → ∃ a b c d, ∃ (u1 u2 u3 u4 : Nat), ∃ x1 x2 x3 x4, u = [(u1 : Int), (u2 : Int), (u3 : Int), (u4 : Int)] ∧ r = [a, b, c, d] ∧ Loc ws a u1 x1 ∧ Loc ws b u2 x2 ∧ Loc ws c u3 x3 ∧ Loc ws d u4 x4 ∧ u1 < u4 ∧ RQ Q u1 u2 u3 u4 := fun {u r} hu hr => by
    obtain ⟨v1, v2, v3, v4, rfl, lt, R⟩ := (hO.mem u).mp hu
    obtain ⟨c1, c2, c3, c4⟩ := R.rng hQ
    obtain ⟨u1, rfl⟩ := Int.eq_ofNat_of_zero_le c1.1
    obtain ⟨u2, rfl⟩ := Int.eq_ofNat_of_zero_le c2.1
    obtain ⟨u3, rfl⟩ := Int.eq_ofNat_of_zero_le c3.1
    obtain ⟨u4, rfl⟩ := Int.eq_ofNat_of_zero_le c4.1
    obtain ⟨a, b, c, d, ha, hb, hc, hd, rfl⟩ := mem_prod4.mp hr
    obtain ⟨x1, l1⟩ := (mem_prt (by omega)).mp ha
    obtain ⟨x2, l2⟩ := (mem_prt (by omega)).mp hb
    obtain ⟨x3, l3⟩ := (mem_prt (by omega)).mp hc
    obtain ⟨x4, l4⟩ := (mem_prt (by omega)).mp hd
    exact ⟨a, b, c, d, u1, u2, u3, u4, x1, x2, x3, x4, rfl, rfl, l1, l2, l3, l4, by omega, R⟩
  have inj : ∀ {a b c d a' b' c' d' : Int}, ([a, b, c, d] : Rw) = [a', b', c', d'] → a = a' ∧ b = b' ∧ c = c' ∧ d = d' := fun e => by
    simp only [List.cons.injEq, and_true] at e
    exact e
  refine ⟨?_, fun r => ?_⟩
  · unfold allR insR
    refine List.nodup_append.mpr ⟨nodup_fm List.nodup_range (fun v hv => ?_) (fun v hv v' hv' x hx hx' => ?_), nodup_fm (up_nodup hO.up) (fun u hu => prod4_nodup (prt_nodup _ _) (prt_nodup _ _) (prt_nodup _ _) (prt_nodup _ _)) (fun u hu u' hu' x hx hx' => ?_), fun x hx y hy e => ?_⟩
    · refine List.pairwise_map.mpr (List.Pairwise.imp_of_mem (fun {s s'} hs hs' ne e => ne ?_) (up_nodup (hI v (List.mem_range.mp hv)).up))
      obtain ⟨x1, x2, x3, x4, rfl, _⟩ := ((hI v (List.mem_range.mp hv)).mem s).mp hs
      obtain ⟨y1, y2, y3, y4, rfl, _⟩ := ((hI v (List.mem_range.mp hv)).mem s').mp hs'
      obtain ⟨e1, e2, e3, e4⟩ := inj e
      have e1 : fW ws v + x1 = fW ws v + y1 := e1
      have e2 : fW ws v + x2 = fW ws v + y2 := e2
      have e3 : fW ws v + x3 = fW ws v + y3 := e3
      have e4 : fW ws v + x4 = fW ws v + y4 := e4
      have f1 : x1 = y1 := by omega
      have f2 : x2 = y2 := by omega
      have f3 : x3 = y3 := by omega
      have f4 : x4 = y4 := by omega
      rw [f1, f2, f3, f4]
    · obtain ⟨a, b, c, d, x1, x2, x3, x4, e, l1, _⟩ := mI (List.mem_range.mp hv) hx
      obtain ⟨a', b', c', d', y1, y2, y3, y4, e', l1', _⟩ := mI (List.mem_range.mp hv') hx'
      have := (inj (e.symm.trans e')).1
      subst this
      exact (l1.uniq W l1').1
    · obtain ⟨a, b, c, d, u1, u2, u3, u4, x1, x2, x3, x4, rfl, e, l1, l2, l3, l4, _⟩ := mO hu hx
      obtain ⟨a', b', c', d', v1, v2, v3, v4, y1, y2, y3, y4, rfl, e', k1, k2, k3, k4, _⟩ := mO hu' hx'
      obtain ⟨rfl, rfl, rfl, rfl⟩ := inj (e.symm.trans e')
      rw [(l1.uniq W k1).1, (l2.uniq W k2).1, (l3.uniq W k3).1, (l4.uniq W k4).1]
    · subst e
      obtain ⟨v, hv, hx⟩ := List.mem_flatMap.mp hx
      obtain ⟨u, hu, hy⟩ := List.mem_flatMap.mp hy
      obtain ⟨a, b, c, d, x1, x2, x3, x4, e, l1, l2, _⟩ := mI (List.mem_range.mp hv) hx
      obtain ⟨a', b', c', d', u1, u2, u3, u4, y1, y2, y3, y4, rfl, e', k1, k2, _, _, _, R⟩ := mO hu hy
      obtain ⟨rfl, rfl, rfl, rfl⟩ := inj (e.symm.trans e')
      have := cl_ne hQ R.ab
      rw [← (l1.uniq W k1).1, ← (l2.uniq W k2).1] at this
      exact this rfl
  · unfold allR insR
    rw [List.mem_append, List.mem_flatMap, List.mem_flatMap]
    constructor
    · rintro (⟨v, hv, hx⟩ | ⟨u, hu, hx⟩)
      · obtain ⟨a, b, c, d, x1, x2, x3, x4, e, l1, l2, l3, l4, lt, R⟩ := mI (List.mem_range.mp hv) hx
        exact ⟨a, b, c, d, e, (l1.lt W l4).mpr (.inr ⟨rfl, lt⟩), (rq_put W hQ h l1 l2 l3 l4).mpr (.inl ⟨rfl, rfl, rfl, R⟩)⟩
      · obtain ⟨a, b, c, d, u1, u2, u3, u4, x1, x2, x3, x4, rfl, e, l1, l2, l3, l4, lt, R⟩ := mO hu hx
        exact ⟨a, b, c, d, e, (l1.lt W l4).mpr (.inl lt), (rq_put W hQ h l1 l2 l3 l4).mpr (.inr R)⟩
    · rintro ⟨a, b, c, d, rfl, lt, R⟩
      obtain ⟨c1, c2, c3, c4⟩ := R.rng h.c
      obtain ⟨u1, x1, l1⟩ := Loc.ex (Nat.le_refl _) c1.1 c1.2
      obtain ⟨u2, x2, l2⟩ := Loc.ex (Nat.le_refl _) c2.1 c2.2
      obtain ⟨u3, x3, l3⟩ := Loc.ex (Nat.le_refl _) c3.1 c3.2
      obtain ⟨u4, x4, l4⟩ := Loc.ex (Nat.le_refl _) c4.1 c4.2
      have lt' := (l1.lt W l4).mp lt
      rcases (rq_put W hQ h l1 l2 l3 l4).mp R with ⟨rfl, rfl, rfl, R'⟩ | R'
      · refine .inl ⟨u1, List.mem_range.mpr l1.v, List.mem_map.mpr ⟨[x1, x2, x3, x4], ((hI u1 l1.v).mem _).mpr ⟨x1, x2, x3, x4, rfl, by omega, R'⟩, ?_⟩⟩
        rw [l1.e, l2.e, l3.e, l4.e]
        rfl
      · have ne := R'.nad
        refine .inr ⟨[(u1 : Int), (u2 : Int), (u3 : Int), (u4 : Int)], (hO.mem _).mpr ⟨_, _, _, _, rfl, by omega, R'⟩, mem_prod4.mpr ⟨a, b, c, d, (mem_prt l1.v).mpr ⟨_, l1⟩, (mem_prt l2.v).mpr ⟨_, l2⟩, (mem_prt l3.v).mpr ⟨_, l3⟩, (mem_prt l4.v).mpr ⟨_, l4⟩, rfl⟩⟩
theorem sort_rows {n : Int} {p : List Pr} (h : Cl n p) (hn : n ≤ 64) {l rs : List Rw} (nd : l.Nodup) (m : ∀ r, r ∈ l ↔ ∃ a b c d, r = [a, b, c, d] ∧ a < d ∧ RQ p a b c d) (pm : rs.Perm l) (le : rs.Pairwise fun a b => TS.code 64 a ≤ TS.code 64 b) : IsRows n p rs := by
  have mem : ∀ r, r ∈ rs ↔ ∃ a b c d, r = [a, b, c, d] ∧ a < d ∧ RQ p a b c d := fun r => pm.mem_iff.trans (m r)
  refine ⟨up_of le (pm.nodup_iff.mpr nd) fun r hr => ?_, mem⟩
  obtain ⟨a, b, c, d, rfl, _, R⟩ := (mem r).mp hr
  exact ⟨rfl, bd_row hn (R.rng h)⟩
/-! ### contraries -/
/-- the contrary of a web of n things -/
structure IsCo (n : Int) (q r : List Pr) : Prop where
  c : Cl n r
  m : ∀ z, z ∈ r ↔ (0 ≤ z.1 ∧ z.1 < z.2 ∧ z.2 < n) ∧ z ∉ q
theorem co_put {Q Q' : List Pr} {ws ws' : List Wb} {p p' r : List Pr} (W : Wbs ws) (W' : Wbs ws') (hQ : Cl ws.length Q) (hl : ws'.length = ws.length) (hn : ∀ v, nW ws' v = nW ws v) (hq : ∀ v, v < ws.length → IsCo (nW ws v) (qW ws v) (qW ws' v)) (hO : IsCo ws.length Q Q')
    (h : IsPut Q ws p) (h' : IsPut Q' ws' p') (co : IsCo (tot ws) p r) : r = p' := by
  have hf : ∀ v, fW ws' v = fW ws v := fun v => by
    induction v with
    | zero => rfl
    | succ v ih => rw [fW_succ, fW_succ, ih, hn]
  have loc' : ∀ {t v x}, Loc ws t v x → Loc ws' t v x := fun {t v x} L => ⟨by rw [hl]; exact L.v, L.x0, by rw [hn]; exact L.x1, by rw [hf]; exact L.e⟩
  have hQ' : Cl ws'.length Q' := by rw [hl]; exact hO.c
  have ht : tot ws' = tot ws := by show fW ws' ws'.length = fW ws ws.length; rw [hl, hf]
  refine srt_unique co.c.srt h'.c.srt fun z => ?_
  have core : ∀ {u v : Nat} {x y : Int}, Loc ws z.1 u x → Loc ws z.2 v y → z.1 < z.2 → (z ∉ p ↔ z ∈ p') := fun {u v x y} a b lt => by
    have e1 : z ∈ p ↔ (u = v ∧ (x, y) ∈ qW ws u) ∨ (((u : Int), (v : Int)) : Pr) ∈ Q := (h.m z).trans (mem_put W hQ a b)
    have e2 : z ∈ p' ↔ (u = v ∧ (x, y) ∈ qW ws' u) ∨ (((u : Int), (v : Int)) : Pr) ∈ Q' := (h'.m z).trans (mem_put W' hQ' (loc' a) (loc' b))
    have hu := a.v; have hv := b.v
    rw [e1, e2]
    rcases (a.lt W b).mp lt with l | ⟨rfl, l⟩
    · have m := hO.m ((u : Int), (v : Int))
      dsimp only at m
      rw [m]
      constructor
      · intro n
        exact .inr ⟨by omega, fun z => n (.inr z)⟩
      · rintro (⟨e, _⟩ | ⟨_, n⟩)
        · omega
        · rintro (⟨e, _⟩ | k)
          · omega
          · exact n k
    · have m := (hq u hu).m (x, y)
      dsimp only at m
      have := a.x0; have := b.x1
      rw [m]
      constructor
      · intro n
        exact .inl ⟨rfl, by omega, fun z => n (.inl ⟨rfl, z⟩)⟩
      · rintro (⟨_, _, n⟩ | k)
        · rintro (⟨_, k⟩ | k)
          · exact n k
          · have := (hQ.rng _ k).2.1
            dsimp only at this
            omega
        · have := (hO.c.rng _ k).2.1
          dsimp only at this
          omega
  rw [co.m]
  constructor
  · rintro ⟨⟨h1, h2, h3⟩, n⟩
    obtain ⟨u, x, a⟩ := Loc.ex (ws := ws) (t := z.1) (Nat.le_refl _) h1 (by show z.1 < tot ws; omega)
    obtain ⟨v, y, b⟩ := Loc.ex (ws := ws) (t := z.2) (Nat.le_refl _) (by omega) h3
    exact (core a b h2).mp n
  · intro k
    obtain ⟨h1, h2, h3⟩ := h'.c.rng z k
    rw [ht] at h3
    refine ⟨⟨h1, h2, h3⟩, ?_⟩
    obtain ⟨u, x, a⟩ := Loc.ex (ws := ws) (t := z.1) (Nat.le_refl _) h1 (by show z.1 < tot ws; omega)
    obtain ⟨v, y, b⟩ := Loc.ex (ws := ws) (t := z.2) (Nat.le_refl _) (by omega) h3
    exact (core a b h2).mpr k
end K0
set_option Elab.async false
set_option linter.all false
set_option maxRecDepth 100000
set_option maxHeartbeats 4000000
namespace K0
open PySem PySem.Spec PyProof.Rows L2
/-! ### loops over a range, whatever is done in a turn -/
theorem itr_loop {lo : Int} {n : Nat} {B : (Hp → Prop) → V → Hp → Prop} {H0 : Hp} {Qd : Hp → Prop} (Pv : Nat → Hp → Prop) (h0 : Pv 0 H0) (hs : ∀ i H, i < n → Pv i H → B (Pv (i + 1)) (.int (lo + i)) H) (hd : ∀ H, Pv n H → Qd H) :
    ∃ W : Nat → Nat → Hp → Prop, (∃ m, W 0 m H0) ∧ ∀ i m H, W i m H →
      ((Itr lo n).stop i H ∧ Qd H) ∨ ((Itr lo n).go i H ∧ ∃ Nx : Hp → Prop, (∀ H', Nx H' → ∃ m', m' < m ∧ W (i + 1) m' H') ∧ ∀ x H', (Itr lo n).yld i H x H' → B Nx x H') := by
  refine ⟨fun i m H => m = n - i ∧ i ≤ n ∧ Pv i H, ⟨n, by simp, Nat.zero_le _, h0⟩, ?_⟩
  rintro i m H ⟨rfl, hi, p⟩
  by_cases hlt : i < n
  · refine .inr ⟨hlt, Pv (i + 1), fun H' p' => ⟨n - (i + 1), by omega, rfl, hlt, p'⟩, fun x H' y => ?_⟩
    obtain ⟨e, y⟩ := y
    subst e y
    exact hs i _ hlt p
  · have e : i = n := by omega
    subst e
    exact .inl ⟨Nat.le_refl _, hd H p⟩
theorem it_loop {J : It} {n : Nat} {G : Hp → Prop} {Y : Nat → Hp → V → Hp → Prop} (w : Walk J n G Y) {B : (Hp → Prop) → V → Hp → Prop} {H0 : Hp} {Qd : Hp → Prop} (Pv : Nat → Hp → Prop) (h0 : Pv 0 H0) (hG : ∀ i H, i ≤ n → Pv i H → G H)
    (hs : ∀ i x H H', i < n → Pv i H → Y i H x H' → B (Pv (i + 1)) x H') (hd : ∀ H, Pv n H → Qd H) :
    ∃ W : Nat → Nat → Hp → Prop, (∃ m, W 0 m H0) ∧ ∀ i m H, W i m H →
      (J.stop i H ∧ Qd H) ∨ (J.go i H ∧ ∃ Nx : Hp → Prop, (∀ H', Nx H' → ∃ m', m' < m ∧ W (i + 1) m' H') ∧ ∀ x H', J.yld i H x H' → B Nx x H') := by
  refine ⟨fun i m H => m = n - i ∧ i ≤ n ∧ Pv i H, ⟨n, by simp, Nat.zero_le _, h0⟩, ?_⟩
  rintro i m H ⟨rfl, hi, p⟩
  have q := hG i H hi p
  by_cases hlt : i < n
  · refine .inr ⟨w.goes i H hlt q, Pv (i + 1), fun H' p' => ⟨n - (i + 1), by omega, rfl, hlt, p'⟩, fun x H' y => hs i x H H' hlt p (w.yields i H x H' hlt q y)⟩
  · have e : i = n := by omega
    subst e
    exact .inl ⟨w.stops H q, hd H p⟩
theorem pss_never {X : Cx} {b : List Stmt} : PSs X b (fun _ _ _ => False) := ⟨fun _ _ _ _ _ _ h => False.elim h⟩
section
variable {P : Program} {w : World} {K : PySem.W.Frag} {mg : Str → Option Value} {base : Heap} {f : Addr} {fd : FuncData}
abbrev s_ap : Stmt := top 20
abbrev s_shf : Stmt := top 21
/-- all_pairs -/
def spAp : Sp := fun vs H Q _ => ∃ (n : Int), vs = [.int n] ∧ 0 ≤ n ∧ n ≤ 16 ∧ ∀ H' a rs, Same H H' → H a = none → Grow H' a rs → Lx n (fun _ => True) n (n + 1) rs → Q (.ref a) H'
theorem sc_ap : FnScope ["many", "x", "y"] ["many"] (defScope s_ap) := ⟨rfl, rfl, rfl, by decide +kernel, rfl, by decide +kernel, by decide +kernel⟩
theorem ok_ap (F : Fun K "all_pairs" "all_pairs" s_ap f fd) (B : Blt2 mg) : FnOk P w K mg base (L2.CX P w) 1 f fd ["many"] spAp := by
  refine F.okX sc_ap (fun vs H Q E h => ?_) (fun cdv A outer s H vs Q E hr h => ?_)
  · obtain ⟨n, rfl, _⟩ := h
    rfl
  · obtain ⟨n, rfl, n0, n16, k⟩ := h
    have nd := sc_ap.nd
    refine ⟨_, pss_one (ps_ret (pe_lc2 (own := [("x", 1), ("y", 2)]) (vs1 := [2]) (g := gName 1) (g1 := gName 2) (tt := tYes) (tt1 := tYes) (wi1 := iRng2 (tCons (tOp (rI0 fun i j => .int (i + j)) (tVar 1) (tC (.int 1))) (tCons (tVar 0) tNil))) (te := tTup (tCons (tVar 1) (tCons (tVar 2) tNil))) rfl nd
      (pi_range1 (by rfl) B.range (pa_cons (pv 0) pa_nil)) (blkOk_by (N := ["many", "x", "y"]) (sc := defScope s_ap) (by decide +kernel)) (by decide)
      (fun _ _ _ _ _ => pg_name (i := 1) nd rfl (.inl rfl)) (fun _ _ _ _ _ => pts_nil)
      (fun _ _ _ _ _ => pi_range2 (by rfl) B.range (pa_cons (pe_op op_add (pv 1) pe_int) (pa_cons (pv 0) pa_nil))) (fun _ _ _ _ _ => pg_name (i := 2) nd rfl (.inl rfl)) (fun _ _ _ _ _ => pts_nil)
      (fun _ _ _ _ _ => pe_tup (pa_cons (pv 1) (pa_cons (pv 2) pa_nil))))), ?_⟩
    refine ⟨_, rfl, n, rfl, by omega, by omega, fun D nD => ?_⟩
    refine itr_loop (fun i H' => ∃ rs, Same H H' ∧ Grow H' D rs ∧ Lx n (fun _ => True) i (i + 1) rs) ⟨[], same_upd nD, ⟨[], upd_same, rfl, fun z hz => by cases hz⟩, by simpa using Lx.start⟩ (fun i H' hi h => ?_) (fun H' h => ?_)
    · obtain ⟨rs, sm, g, lx⟩ := h
      rw [Int.zero_add]
      refine ⟨rfl, ?_⟩
      refine ⟨_, rfl, _, _, rfl, rfl, _, rfl, _, _, rfl, ⟨by omega, by omega, by omega, by omega⟩, ?_⟩
      refine itr_loop (fun t H' => ∃ rs, Same H H' ∧ Grow H' D rs ∧ Lx n (fun _ => True) i ((i : Int) + 1 + t) rs) ⟨rs, sm, g, by simpa using lx⟩ (fun t H2 ht h => ?_) (fun H2 h => ?_)
      · obtain ⟨rs, sm, g, lx⟩ := h
        refine ⟨rfl, ?_⟩
        refine ⟨_, rfl, _, rfl, (by show 2 ≤ sizeLine; decide), fun u nu => ?_⟩
        obtain ⟨xs, hx, lxs, _⟩ := g.at
        have s2 : Same H2 (upd H2 u (.tup [.int (i : Int), .int ((i : Int) + 1 + t)])) := same_upd nu
        have few := lx.cl.few n16
        refine ⟨xs, s2 _ _ hx, by rw [sizeLine_eq]; omega, rs ++ [((i : Int), (i : Int) + 1 + t)], same_keep nD (sm.trans s2), g.push nu hx, ?_⟩
        have := lx.add trivial (by omega)
        rw [Int.add_assoc] at this
        exact_mod_cast this
      · obtain ⟨rs, sm, g, lx⟩ := h
        rw [show (i : Int) + 1 + ((n - ((i : Int) + 1)).toNat : Int) = n by omega] at lx
        refine ⟨rs, sm, g, ?_⟩
        have := lx.row
        rw [show (i : Int) + 2 = (i : Int) + 1 + 1 by omega] at this
        exact_mod_cast this
    · obtain ⟨rs, sm, g, lx⟩ := h
      rw [show ((n.toNat : Nat) : Int) = n by omega] at lx
      exact k H' D rs sm nD g lx
end
end K0
set_option Elab.async false
set_option linter.all false
set_option maxRecDepth 100000
set_option maxHeartbeats 4000000
namespace K0
open PySem PySem.Spec PyProof.Rows L2
section
variable {P : Program} {w : World} {K : PySem.W.Frag} {mg : Str → Option Value} {base : Heap} {f : Addr} {fd : FuncData}
/-- a tuple of pairs -/
def TqP (H : Hp) (c : Addr) (q : List Pr) : Prop := ∃ xs, H c = some (.tup xs) ∧ DtAll H xs (q.map prD)
theorem TqP.mono {H H' : Hp} (s : Same H H') {c : Addr} {q : List Pr} : TqP H c q → TqP H' c q := fun ⟨xs, h, d⟩ => ⟨xs, s _ _ h, d.mono s⟩
/-- shifted -/
def spShf : Sp := fun vs H Q _ => ∃ (c : Addr) (s : Int) (q : List Pr), vs = [.ref c, .int s] ∧ TqP H c q ∧ q.length ≤ 1000 ∧ ∀ H' a, Same H H' → H a = none → Grow H' a (shf q s) → Q (.ref a) H'
theorem sc_shf : FnScope ["pairs", "step", "x", "y"] ["pairs", "step"] (defScope s_shf) := ⟨rfl, rfl, rfl, by decide +kernel, rfl, by decide +kernel, by decide +kernel⟩
abbrev rAddI : R2 := rI0 fun i j => .int (i + j)
theorem ok_shf (F : Fun K "shifted" "shifted" s_shf f fd) : FnOk P w K mg base (L2.CX P w) 1 f fd ["pairs", "step"] spShf := by
  refine F.okX sc_shf (fun vs H Q E h => ?_) (fun cdv A outer s H vs Q E hr h => ?_)
  · obtain ⟨c, s, q, rfl, _⟩ := h
    rfl
  · obtain ⟨c, st, q, rfl, ⟨xs, hc, hx⟩, few, k⟩ := h
    have nd := sc_shf.nd
    have lx := hx.len
    rw [List.length_map] at lx
    refine ⟨_, pss_one (ps_ret (pe_lc (own := [("x", 2), ("y", 3)]) (g := gTup K 2 (gCons (gName 2) (gCons (gName 3) gNil))) (tt := tYes) (te := tTup (tCons (tOp rAddI (tVar 2) (tVar 1)) (tCons (tOp rAddI (tVar 3) (tVar 1)) tNil))) rfl nd (pi_tup (pv 0))
      (blkOk_by (N := ["pairs", "step", "x", "y"]) (sc := defScope s_shf) (by decide +kernel)) (fun _ _ _ _ _ => pg_tup rfl (pgs_cons (pg_name (i := 2) nd rfl (.inl rfl)) (pgs_cons (pg_name (i := 3) nd rfl (.inl rfl)) pgs_nil))) (fun _ _ _ _ _ => pts_nil)
      (fun _ _ _ _ _ => pe_tup (pa_cons (pe_op op_add (pv 2) (pv 1)) (pa_cons (pe_op op_add (pv 3) (pv 1)) pa_nil))))), ?_⟩
    refine ⟨_, rfl, c, rfl, ⟨_, SqT.of hc⟩, fun D nD => ?_⟩
    refine lc_it (walk_tup (K := K) (a := c) (xs := xs)) (fun i H' => Same H H' ∧ Grow H' D (shf (q.take i) st)) ⟨same_upd nD, [], upd_same, rfl, fun z hz => by cases hz⟩ (fun i H' _ z => SqT.of (z.1 _ _ hc)) (fun i x H' H2 hi z y => ?_) (fun H' z => ?_)
    · obtain ⟨rfl, hv⟩ := y
      obtain ⟨sm, g⟩ := z
      obtain ⟨p, b, hp, rfl, hb⟩ := dta_map (hx.mono sm) hv
      refine ⟨b, _, rfl, SqT.of hb, rfl, _, _, rfl, _, _, rfl, rfl, rfl, ?_⟩
      refine ⟨_, rfl, _, rfl, _, _, rfl, rfl, _, rfl, _, rfl, _, _, rfl, rfl, (by show 2 ≤ sizeLine; decide), fun u nu => ?_⟩
      obtain ⟨ys, hy, ly, _⟩ := g.at
      have s2 : Same H2 (upd H2 u (.tup [.int (p.1 + st), .int (p.2 + st)])) := same_upd nu
      refine ⟨ys, s2 _ _ hy, ?_, same_keep nD (sm.trans s2), ?_⟩
      · rw [ly, sizeLine_eq]
        unfold shf
        rw [List.length_map, List.length_take]
        omega
      · have := g.push (x := p.1 + st) (y := p.2 + st) nu hy
        rw [take_at hp]
        unfold shf at this ⊢
        rw [List.map_append]
        exact this
    · obtain ⟨sm, g⟩ := z
      rw [lx, List.take_length] at g
      exact k H' D sm nD g
/-! ### Web on a list of pairs -/
abbrev s_iv : Stmt := s_w 8
/-- ~web -/
def spIv (K : PySem.W.Frag) (C : Addr) : Sp := fun vs H Q _ => ∃ (p : Addr) (n : Int) (q : List Pr), vs = [.ref p] ∧ WebAt C H p n q ∧ (∀ r, IsCo n q r → r.length ≤ 62) ∧ ∀ H' r q', Same H H' → H r = none → IsCo n q q' → WebAt C (New H H') r n q' → Q (.ref r) H'
theorem sc_iv : FnScope ["self", "gaps", "x", "y"] ["self"] (defScope s_iv) := ⟨rfl, rfl, rfl, by decide +kernel, rfl, by decide +kernel, by decide +kernel⟩
theorem co_of {n : Int} {q rs : List Pr} (cl' : Cl n q) (lx : Lx n (fun _ => True) n (n + 1) rs) : IsCo n q (rs.filter fun z => !hasP q z.1.toNat z.2.toNat) := by
  refine ⟨⟨lx.srt.filter _, fun p hp => ((lx.fin p).mp (List.mem_filter.mp hp).1).1⟩, fun z => ?_⟩
  rw [List.mem_filter, lx.fin]
  constructor
  · rintro ⟨⟨r, _⟩, h⟩
    refine ⟨r, fun m => ?_⟩
    have : hasP q z.1.toNat z.2.toNat = true := cl_nat cl' (.inl m)
    rw [this] at h
    cases h
  · rintro ⟨r, h⟩
    refine ⟨⟨r, trivial⟩, ?_⟩
    cases e : hasP q z.1.toNat z.2.toNat with
    | false => rfl
    | true =>
      have := hasP_cl.mp e
      rw [Int.toNat_of_nonneg r.1, Int.toNat_of_nonneg (show 0 ≤ z.2 by omega)] at this
      rcases this with m | m
      · exact absurd m h
      · have := cl'.rng _ m
        dsimp only at this
        omega
theorem ok_iv {C CN CW CT : Addr} (F : Fun K "__invert__" "Web.__invert__" s_iv f fd) (B : Blt2 mg) (T : WebC K C) (WK : WebK P w K mg base C CN CW) (AP : Df P w K mg base "all_pairs" 1 ["many"] spAp) (CL : Mt P w K mg base C "clash" 4 ["self", "x", "y"] (spCl C CT)) :
    FnOk P w K mg base (L2.CX P w) 6 f fd ["self"] (spIv K C) := by
  refine F.okX sc_iv (fun vs H Q E h => ?_) (fun cdv A outer s H vs Q E hr h => ?_)
  · obtain ⟨p, n, q, rfl, _⟩ := h
    rfl
  · obtain ⟨p, n, q, rfl, W, h62, k⟩ := h
    obtain ⟨⟨ddx, c, m, l0, h1, h2, h3, h4, h5⟩, cl', n0, n16⟩ := id W
    have nd := sc_iv.nd
    have r1 : Room 1 _ := hr.mono (by decide)
    have r4 : Room 4 _ := hr.mono (by decide)
    refine ⟨_, pss_cons (ps_setLc (i := 1) (own := [("x", 2), ("y", 3)]) (g := gTup K 2 (gCons (gName 2) (gCons (gName 3) gNil))) (tt := tNot (tTest (tMeth C "clash" (spCl C CT) [] (fun _ _ _ => False) (tVar 0) (tCons (tVar 2) (tCons (tVar 3) tNil))))) (te := tTup (tCons (tVar 2) (tCons (tVar 3) tNil))) rfl nd rfl (by rfl) (by rfl)
        (pi_list (pe_df AP r1 (by rfl) passUp (pa_cons (pe_fld (pv 0) rfl) pa_nil)))
        (blkOk_by (N := ["self", "gaps", "x", "y"]) (sc := defScope s_iv) (by decide +kernel)) (fun _ _ _ _ _ => pg_tup rfl (pgs_cons (pg_name (i := 2) nd rfl (.inl rfl)) (pgs_cons (pg_name (i := 3) nd rfl (.inl rfl)) pgs_nil)))
        (fun _ _ _ _ _ => pts_one (pt_not (pt_val (pe_mt1 CL r4 passE0 (pv 0) (pa_cons (pv 2) (pa_cons (pv 3) pa_nil)))))) (fun _ _ _ _ _ => pe_tup (pa_cons (pv 2) (pa_cons (pv 3) pa_nil))))
      (pss_one (ps_ret (pe_web WK (hr.mono (by decide)) (by rfl) passUp (pa_cons (pe_fld (pv 0) rfl) (pa_cons (pv 1) pa_nil))))), ?_⟩
    refine ⟨_, rfl, p, C, ddx, _, _, rfl, h1, T.cl, T.nm, wf_many _ _ _, n, rfl, n0, n16, fun H1 a rs s1 na g0 lx => ?_⟩
    obtain ⟨xs, hx, lxs, dx⟩ := g0.at
    refine ⟨a, rfl, ⟨_, SqL.of hx⟩, fun D nD => ?_⟩
    have aD : ∀ {H' : Hp}, Same H1 H' → SqL K H' a xs := fun s => SqL.of (s _ _ hx)
    refine lc_it (walk_list (K := K) (a := a) (xs := xs)) (fun i H' => Same H1 H' ∧ Grow H' D ((rs.take i).filter fun z => !hasP q z.1.toNat z.2.toNat)) ⟨same_upd nD, [], upd_same, rfl, fun z hz => by cases hz⟩ (fun i H' _ z => aD z.1) (fun i x H' H2 hi z y => ?_) (fun H' z => ?_)
    · obtain ⟨rfl, hv⟩ := y
      obtain ⟨sm, g⟩ := z
      obtain ⟨pr, b, hp, rfl, hb⟩ := dta_map (dx.mono sm) hv
      have rg := ((lx.fin pr).mp (List.mem_of_getElem? hp)).1
      refine ⟨b, _, rfl, SqT.of hb, rfl, _, _, rfl, _, _, rfl, rfl, rfl, ?_⟩
      have e1 : pr.1 = ((pr.1.toNat : Nat) : Int) := by omega
      have e2 : pr.2 = ((pr.2.toNat : Nat) : Int) := by omega
      refine ⟨_, rfl, p, ddx, _, rfl, s1.trans sm |> fun z => z _ _ h1, wf_no _ _ _ (by decide +kernel) (by decide +kernel) (by decide +kernel), _, rfl, _, rfl, p, _, _, .int pr.1, .int pr.2, n, q, rfl, W.mono (s1.trans sm), .int _, .int _, (fun z => ?_), (fun _ z => ?_), fun x y ex ey hx' hy' H3 s3 => ?_⟩
      · have : isTh n (.int pr.1) = true := decide_eq_true (by omega)
        rw [this] at z
        cases z
      · have : isTh n (.int pr.2) = true := decide_eq_true (by omega)
        rw [this] at z
        cases z
      · have ex' : x = pr.1.toNat := by have := PyData.int.inj ex; omega
        have ey' : y = pr.2.toNat := by have := PyData.int.inj ey; omega
        subst ex' ey'
        have sm3 := sm.trans s3
        have g3 := g.mono s3
        refine ⟨_, rfl, ?_⟩
        cases e : hasP q pr.1.toNat pr.2.toNat with
        | true =>
          refine iteF ⟨sm3, ?_⟩
          rw [take_at hp, List.filter_append]
          simpa [e] using g3
        | false =>
          refine iteT ⟨_, rfl, _, rfl, (by show 2 ≤ sizeLine; decide), fun u nu => ?_⟩
          obtain ⟨ys, hy, ly, _⟩ := g3.at
          have s4 : Same H3 (upd H3 u (.tup [.int pr.1, .int pr.2])) := same_upd nu
          refine ⟨ys, s4 _ _ hy, ?_, same_keep nD (sm3.trans s4), ?_⟩
          · have := List.length_filter_le (fun z : Pr => !hasP q z.1.toNat z.2.toNat) (rs.take i)
            rw [List.length_take] at this
            have := lx.cl.few n16
            rw [ly, sizeLine_eq]
            omega
          · have := g3.push (x := pr.1) (y := pr.2) nu hy
            rw [take_at hp, List.filter_append]
            simpa [e] using this
    · obtain ⟨sm, g⟩ := z
      rw [lxs, List.take_length] at g
      have co := co_of cl' lx
      have s13 := s1.trans sm
      refine ⟨_, rfl, p, C, ddx, _, _, rfl, s13 _ _ h1, T.cl, T.nm, wf_many _ _ _, _, rfl, ?_⟩
      refine mk_ls g.ls co.c.rng n0 n16 (h62 _ co) fun H5 r q5 s5 nr c5 e5 W5 => ?_
      have eq := cl_eq co.c c5 e5
      subst eq
      exact k H5 r _ (s13.trans s5) (s13.free nr) co (W5.mono (new_mono (fun b e1 _ => s13.free e1) (Same.refl _)))
end
end K0
set_option Elab.async false
set_option linter.all false
set_option maxRecDepth 100000
set_option maxHeartbeats 4000000
namespace K0
open PySem PySem.Spec PyProof.Rows L2
section
variable {P : Program} {w : World} {K : PySem.W.Frag} {mg : Str → Option Value} {base : Heap} {f : Addr} {fd : FuncData}
abbrev s_ad : Stmt := s_w 9
abbrev s_mu : Stmt := s_w 10
theorem shf_rng {n m : Int} {q : List Pr} (h : Cl m q) (n0 : 0 ≤ n) : ∀ z ∈ shf q n, 0 ≤ z.1 ∧ z.1 < z.2 ∧ z.2 < n + m := fun z hz => by
  have := h.rng _ (mem_shf.mp hz)
  dsimp only at this
  omega
theorem shf_len (q : List Pr) (n : Int) : (shf q n).length = q.length := by unfold shf; rw [List.length_map]
theorem Grow.ys {H : Hp} {D : Addr} {rs : List Pr} (g : Grow H D rs) : ∃ ys, H D = some (.lst ys) ∧ ys.length = rs.length ∧ DtAll H ys (rs.map prD) := g.at
/-- web + other -/
def spAd (K : PySem.W.Frag) (C : Addr) : Sp := fun vs H Q _ => ∃ (p p' : Addr) (n n' : Int) (q q' : List Pr), vs = [.ref p, .ref p'] ∧ WebAt C H p n q ∧ WebAt C H p' n' q' ∧ n + n' ≤ 16 ∧ q.length + q'.length ≤ 62 ∧
  ∀ H' r q2, Same H H' → H r = none → Cl (n + n') q2 → (∀ z, z ∈ q2 ↔ z ∈ q ++ shf q' n) → WebAt C (New H H') r (n + n') q2 → Q (.ref r) H'
theorem sc_ad : FnScope ["self", "other", "behind"] ["self", "other"] (defScope s_ad) := ⟨rfl, rfl, rfl, by decide +kernel, rfl, by decide +kernel, by decide +kernel⟩
theorem ok_ad {C CN CW : Addr} (F : Fun K "__add__" "Web.__add__" s_ad f fd) (B : Blt2 mg) (T : WebI K C) (g : mg "Web" = some (.ref C)) (WK : WebK P w K mg base C CN CW) (SH : Df P w K mg base "shifted" 1 ["pairs", "step"] spShf) :
    FnOk P w K mg base (L2.CX P w) 6 f fd ["self", "other"] (spAd K C) := by
  refine F.okX sc_ad (fun vs H Q E h => ?_) (fun cdv A outer s H vs Q E hr h => ?_)
  · obtain ⟨p, p', n, n', q, q', rfl, _⟩ := h
    rfl
  · obtain ⟨p, p', n, n', q, q', rfl, W, W', nn, len, k⟩ := h
    obtain ⟨ddx, c, m, xs, h1, h2, h3⟩ := W.tuple
    obtain ⟨ddx', c', m', xs', h1', h2', h3'⟩ := W'.tuple
    have nd := sc_ad.nd
    have r1 : Room 1 _ := hr.mono (by decide)
    refine ⟨_, pss_cons (ps_if (pt_not (pt_val (pe_callB call_isi (by rfl) B.isi (by decide +kernel) (pa_cons (pv 1) (pa_cons (pe_glob (v := .ref C) (by rfl) g rfl) pa_nil))))) pss_never pss_nil)
      (pss_cons (ps_set (i := 2) nd rfl (.inl rfl) (pe_df SH r1 (by rfl) passUp (pa_cons (pe_fld (pv 1) rfl) (pa_cons (pe_fld (pv 0) rfl) pa_nil))))
      (pss_one (ps_ret (pe_web WK (hr.mono (by decide)) (by rfl) passUp (pa_cons (pe_op op_add (pe_fld (pv 0) rfl) (pe_fld (pv 1) rfl)) (pa_cons (pe_lst (StX.pa_star (pe_fld (pv 0) rfl) (StX.pa_star (pv 2) pa_nil))) pa_nil)))))), ?_⟩
    refine ⟨_, rfl, ?_⟩
    dsimp only [tCons, tC, tNil]
    refine isi_web T (.inl ⟨rfl, p', n', q', rfl, W'⟩) ?_
    refine ⟨_, rfl, iteF ?_⟩
    refine ⟨_, rfl, p', C, ddx', _, _, rfl, h1', T.cl, T.nc, wf_clashes _ _ _, _, rfl, p, C, ddx, _, _, rfl, h1, T.cl, T.nm, wf_many _ _ _, c', n, q', rfl, ⟨xs', h2', h3'⟩, by omega, fun H1 a s1 na g1 => ?_⟩
    obtain ⟨ys, hy, ly, dy⟩ := g1.at
    refine ⟨_, rfl, p, C, ddx, _, _, rfl, s1 _ _ h1, T.cl, T.nm, wf_many _ _ _, _, rfl, p', C, ddx', _, _, rfl, s1 _ _ h1', T.cl, T.nm, wf_many _ _ _, _, _, rfl, rfl, ?_⟩
    refine ⟨_, rfl, p, C, ddx, _, _, rfl, s1 _ _ h1, T.cl, T.nc, wf_clashes _ _ _, c, xs, rfl, .inl (SqT.of (s1 _ _ h2)), _, rfl, a, ys, rfl, .inr (SqL.of hy), ?_, fun u nu => ?_⟩
    · have l3 := h3.len
      rw [List.length_map] at l3
      rw [shf_len] at ly
      rw [List.append_nil, List.length_append, sizeLine_eq]
      omega
    rw [List.append_nil]
    have s2 : Same H1 (upd H1 u (.lst (xs ++ ys))) := same_upd nu
    have s12 := s1.trans s2
    refine mk_ls (ps := q ++ shf q' n) ⟨_, upd_same, ?_⟩ (fun z hz => ?_) (by have := W.n0; have := W'.n0; omega) nn (by rw [List.length_append, shf_len]; exact len) fun H3 r q2 s3 nr c3 e3 W3 => ?_
    · rw [List.map_append]
      exact DtAll.app (h3.mono s12) (dy.mono s2)
    · rcases List.mem_append.mp hz with hz | hz
      · have := W.cl.rng z hz
        have := W'.n0
        omega
      · exact shf_rng W'.cl W.n0 z hz
    · exact k H3 r q2 (s12.trans s3) (s12.free nr) c3 e3 (W3.mono (new_mono (fun b e1 _ => s12.free e1) (Same.refl _)))
/-- web * other -/
def spMu (K : PySem.W.Frag) (C : Addr) : Sp := fun vs H Q _ => ∃ (p p' : Addr) (n n' : Int) (q q' : List Pr), vs = [.ref p, .ref p'] ∧ WebAt C H p n q ∧ WebAt C H p' n' q' ∧ n + n' ≤ 16 ∧ (q ++ shf q' n ++ grid 0 n n n').length ≤ 62 ∧
  ∀ H' r q2, Same H H' → H r = none → Cl (n + n') q2 → (∀ z, z ∈ q2 ↔ z ∈ q ++ shf q' n ++ grid 0 n n n') → WebAt C (New H H') r (n + n') q2 → Q (.ref r) H'
theorem sc_mu : FnScope ["self", "other", "behind", "between", "x", "y"] ["self", "other"] (defScope s_mu) := ⟨rfl, rfl, rfl, by decide +kernel, rfl, by decide +kernel, by decide +kernel⟩
theorem grid_row {a b : Int} {m k i t : Nat} : (List.range i).flatMap (fun (x : Nat) => (List.range k).map fun (y : Nat) => ((a + (x : Int), b + (y : Int)) : Pr)) ++ (List.range k).map (fun (y : Nat) => (a + (i : Int), b + (y : Int))) = (List.range (i + 1)).flatMap (fun (x : Nat) => (List.range k).map fun (y : Nat) => ((a + (x : Int), b + (y : Int)) : Pr)) := by
  rw [List.range_succ, List.flatMap_append]
  simp
theorem ok_mu {C CN CW : Addr} (F : Fun K "__mul__" "Web.__mul__" s_mu f fd) (B : Blt2 mg) (T : WebI K C) (g : mg "Web" = some (.ref C)) (WK : WebK P w K mg base C CN CW) (SH : Df P w K mg base "shifted" 1 ["pairs", "step"] spShf) :
    FnOk P w K mg base (L2.CX P w) 6 f fd ["self", "other"] (spMu K C) := by
  refine F.okX sc_mu (fun vs H Q E h => ?_) (fun cdv A outer s H vs Q E hr h => ?_)
  · obtain ⟨p, p', n, n', q, q', rfl, _⟩ := h
    rfl
  · obtain ⟨p, p', n, n', q, q', rfl, W, W', nn, len, k⟩ := h
    obtain ⟨ddx, c, m, xs, h1, h2, h3⟩ := W.tuple
    obtain ⟨ddx', c', m', xs', h1', h2', h3'⟩ := W'.tuple
    have nd := sc_mu.nd
    have r1 : Room 1 _ := hr.mono (by decide)
    have n0 := W.n0
    have n0' := W'.n0
    have lens := len
    rw [List.length_append, List.length_append, shf_len, grid_len] at lens
    refine ⟨_, pss_cons (ps_if (pt_not (pt_val (pe_callB call_isi (by rfl) B.isi (by decide +kernel) (pa_cons (pv 1) (pa_cons (pe_glob (v := .ref C) (by rfl) g rfl) pa_nil))))) pss_never pss_nil)
      (pss_cons (ps_set (i := 2) nd rfl (.inl rfl) (pe_df SH r1 (by rfl) passUp (pa_cons (pe_fld (pv 1) rfl) (pa_cons (pe_fld (pv 0) rfl) pa_nil))))
      (pss_cons (ps_setLc2 (i := 3) (own := [("x", 4), ("y", 5)]) (vs1 := [5]) (g := gName 4) (g1 := gName 5) (tt := tYes) (tt1 := tYes) (wi1 := iRng1 (tCons (tFld K (tVar 1) "many") tNil)) (te := tTup (tCons (tVar 4) (tCons (tOp rAddI (tFld K (tVar 0) "many") (tVar 5)) tNil))) rfl nd rfl (by rfl) (by rfl)
        (pi_range1 (by rfl) B.range (pa_cons (pe_fld (pv 0) rfl) pa_nil)) (blkOk_by (N := ["self", "other", "behind", "between", "x", "y"]) (sc := defScope s_mu) (by decide +kernel)) (by decide)
        (fun _ _ _ _ _ => pg_name (i := 4) nd rfl (.inl rfl)) (fun _ _ _ _ _ => pts_nil)
        (fun _ _ _ _ _ => pi_range1 (by rfl) B.range (pa_cons (pe_fld (pv 1) rfl) pa_nil)) (fun _ _ _ _ _ => pg_name (i := 5) nd rfl (.inl rfl)) (fun _ _ _ _ _ => pts_nil)
        (fun _ _ _ _ _ => pe_tup (pa_cons (pv 4) (pa_cons (pe_op op_add (pe_fld (pv 0) rfl) (pv 5)) pa_nil))))
      (pss_one (ps_ret (pe_web WK (hr.mono (by decide)) (by rfl) passUp (pa_cons (pe_op op_add (pe_fld (pv 0) rfl) (pe_fld (pv 1) rfl)) (pa_cons (pe_lst (StX.pa_star (pe_fld (pv 0) rfl) (StX.pa_star (pv 2) (StX.pa_star (pv 3) pa_nil)))) pa_nil))))))), ?_⟩
    refine ⟨_, rfl, ?_⟩
    dsimp only [tCons, tC, tNil]
    refine isi_web T (.inl ⟨rfl, p', n', q', rfl, W'⟩) ?_
    refine ⟨_, rfl, iteF ?_⟩
    refine ⟨_, rfl, p', C, ddx', _, _, rfl, h1', T.cl, T.nc, wf_clashes _ _ _, _, rfl, p, C, ddx, _, _, rfl, h1, T.cl, T.nm, wf_many _ _ _, c', n, q', rfl, ⟨xs', h2', h3'⟩, by omega, fun H1 a s1 na g1 => ?_⟩
    obtain ⟨ys, hy, ly, dy⟩ := g1.at
    refine ⟨_, rfl, p, C, ddx, _, _, rfl, s1 _ _ h1, T.cl, T.nm, wf_many _ _ _, n, rfl, by omega, by omega, fun D nD => ?_⟩
    let row : Nat → List Pr := fun i => (List.range n'.toNat).map fun (y : Nat) => (0 + (i : Int), n + (y : Int))
    let G : Nat → List Pr := fun i => (List.range i).flatMap row
    have gl : ∀ {i t : Nat}, i < n.toNat → t < n'.toNat → (G i ++ (row i).take t).length < 63 := fun {i t} hi ht => by
      have e1 : (G i).length = i * n'.toNat := by
        show ((List.range i).flatMap row).length = _
        rw [List.length_flatMap]
        have : (List.range i).map (fun x => (row x).length) = (List.range i).map fun _ => n'.toNat := List.map_congr_left fun x _ => by show (List.map _ _).length = _; rw [List.length_map, List.length_range]
        rw [this]
        exact sum_const _ _
      have e2 : (row i).length = n'.toNat := by show (List.map _ _).length = _; rw [List.length_map, List.length_range]
      rw [List.length_append, List.length_take, e1, e2]
      have : (i + 1) * n'.toNat ≤ n.toNat * n'.toNat := Nat.mul_le_mul_right _ hi
      rw [Nat.succ_mul] at this
      omega
    refine itr_loop (fun i H' => Same H1 H' ∧ Grow H' D (G i)) ⟨same_upd nD, [], upd_same, rfl, fun z hz => by cases hz⟩ (fun i H' hi h => ?_) (fun H' h => ?_)
    · obtain ⟨sm, g⟩ := h
      rw [Int.zero_add]
      refine ⟨rfl, ?_⟩
      refine ⟨_, rfl, p', C, ddx', _, _, rfl, (s1.trans sm) _ _ h1', T.cl, T.nm, wf_many _ _ _, n', rfl, by omega, by omega, ?_⟩
      refine itr_loop (fun t H' => Same H1 H' ∧ Grow H' D (G i ++ (row i).take t)) ⟨sm, by simpa using g⟩ (fun t H2 ht h => ?_) (fun H2 h => ?_)
      · obtain ⟨sm, g⟩ := h
        refine ⟨rfl, ?_⟩
        refine ⟨_, rfl, _, rfl, p, C, ddx, _, _, rfl, (s1.trans sm) _ _ h1, T.cl, T.nm, wf_many _ _ _, _, rfl, _, _, rfl, rfl, (by show 2 ≤ sizeLine; decide), fun u nu => ?_⟩
        rw [Int.zero_add]
        obtain ⟨zs, hz, lz, _⟩ := g.at
        have s2 : Same H2 (upd H2 u (.tup [.int (i : Int), .int (n + (t : Int))])) := same_upd nu
        refine ⟨zs, s2 _ _ hz, ?_, same_keep nD (sm.trans s2), ?_⟩
        · rw [lz, sizeLine_eq]
          have := gl hi ht
          omega
        · have := g.push (x := (i : Int)) (y := n + (t : Int)) nu hz
          have e : (row i)[t]? = some ((i : Int), n + (t : Int)) := by
            show ((List.range n'.toNat).map _)[t]? = _
            rw [List.getElem?_map, List.getElem?_range ht]
            show some ((0 + (i : Int), n + (t : Int)) : Pr) = _
            rw [Int.zero_add]
          rw [take_at e, ← List.append_assoc]
          exact this
      · obtain ⟨sm, g⟩ := h
        refine ⟨sm, ?_⟩
        rw [List.take_of_length_le (by show (List.map _ _).length ≤ _; rw [List.length_map, List.length_range]; exact Nat.le_refl _)] at g
        have e : G (i + 1) = G i ++ row i := by
          show (List.range (i + 1)).flatMap row = _
          rw [List.range_succ, List.flatMap_append]
          simp [G]
        rw [e]
        exact g
    · obtain ⟨sm, g⟩ := h
      have eG : G n.toNat = grid 0 n n n' := rfl
      rw [eG] at g
      obtain ⟨zs, hz, lz, dz⟩ := g.at
      have s1m := s1.trans sm
      refine ⟨_, rfl, p, C, ddx, _, _, rfl, s1m _ _ h1, T.cl, T.nm, wf_many _ _ _, _, rfl, p', C, ddx', _, _, rfl, s1m _ _ h1', T.cl, T.nm, wf_many _ _ _, _, _, rfl, rfl, ?_⟩
      refine ⟨_, rfl, p, C, ddx, _, _, rfl, s1m _ _ h1, T.cl, T.nc, wf_clashes _ _ _, c, xs, rfl, .inl (SqT.of (s1m _ _ h2)), _, rfl, a, ys, rfl, .inr (SqL.of (sm _ _ hy)), _, rfl, D, zs, rfl, .inr (SqL.of hz), ?_, fun u nu => ?_⟩
      · have l3 := h3.len
        rw [List.length_map] at l3
        rw [shf_len] at ly
        rw [grid_len] at lz
        rw [List.append_nil, List.length_append, List.length_append, sizeLine_eq]
        omega
      rw [List.append_nil]
      have s2 : Same H' (upd H' u (.lst (xs ++ (ys ++ zs)))) := same_upd nu
      have s12 := s1m.trans s2
      refine mk_ls (ps := q ++ shf q' n ++ grid 0 n n n') ⟨_, upd_same, ?_⟩ (fun z hz => ?_) (by omega) nn len fun H3 r q2 s3 nr c3 e3 W3 => ?_
      · rw [List.append_assoc, List.map_append, List.map_append]
        exact DtAll.app (h3.mono s12) (DtAll.app (dy.mono (sm.trans s2)) (dz.mono s2))
      · rcases List.mem_append.mp hz with hz | hz
        · rcases List.mem_append.mp hz with hz | hz
          · have := W.cl.rng z hz
            omega
          · exact shf_rng W'.cl W.n0 z hz
        · have := mem_grid.mp hz
          omega
      · exact k H3 r q2 (s12.trans s3) (s12.free nr) c3 e3 (W3.mono (new_mono (fun b e1 _ => s12.free e1) (Same.refl _)))
end
end K0
set_option Elab.async false
set_option linter.all false
set_option maxRecDepth 100000
set_option maxHeartbeats 4000000
namespace K0
open PySem PySem.Spec PyProof.Rows L2 ClX
/-! ### own operators -/
section
variable {X : Cx} {C : Addr} {m : Str} {k : Nat} {ps : List Str} {sp : Sp} {E : XK}
/-- o + u of one own class, and its like -/
def rBinO (C : Addr) (sp : Sp) (E : XK) : R2 := fun x y H Q => ∃ a dx fs b dx' fs', x = .ref a ∧ H a = some (.ins C dx fs) ∧ y = .ref b ∧ H b = some (.ins C dx' fs') ∧ sp [.ref a, .ref b] H (fun v H2 => ∃ r, v = .ref r ∧ Q (.ref r) H2) E
theorem op_binO {op : Operator} (T : Mt X.prog X.w X.K X.mg X.base C (PySem.dunder op.info.2) k ps sp) (hc : PySem.W.selfFirst X.K C = true) (hr : Room k X.A) (hx : Passes (L2.CX X.prog X.w) X E) : OpR X (binaryOp op) (rBinO C sp E) := by
  intro pins s σ H x y v u Q I rx ry h
  obtain ⟨a, dx, fs, b, dx', fs', rfl, ha, rfl, hb', h⟩ := h
  obtain ⟨f, fd, c, hm, hfn, _, hs, F, b'⟩ := T.ex
  cases rx
  cases ry
  obtain ⟨mA, J, _⟩ := ins_get I.hok ha
  obtain ⟨od, J, _⟩ := J.look
  obtain ⟨mB, J2, _⟩ := ins_get I.hok hb'
  obtain ⟨od2, J2, _⟩ := J2.look
  obtain ⟨m, hF⟩ := I.fr
  refine PySem.W.binop_K hF I.ok.mod.kin J J2.type hc hs hfn (wpAny_mono (run_any (vs := [.ref a, .ref b]) ⟨hr, rfl⟩ F b' hx I (.cons rfl (.cons rfl .nil)) h) (fun r s' z => ?_) fun _ _ x => x)
  obtain ⟨w, H', I', rw', bb, ew, q⟩ := z
  subst ew
  cases rw'
  exact ⟨.ref bb, H', I', rfl, q⟩
/-- ~o -/
def rInvO (C : Addr) (sp : Sp) (E : XK) : V → Hp → VK → Prop := fun x H Q => ∃ a dx fs, x = .ref a ∧ H a = some (.ins C dx fs) ∧ sp [.ref a] H Q E
theorem un_invO (T : Mt X.prog X.w X.K X.mg X.base C "__invert__" k ps sp) (hr : Room k X.A) (hx : Passes (L2.CX X.prog X.w) X E) : UnR X (unaryOp .Invert) (rInvO C sp E) := by
  intro pins s σ H x v Q I rx h
  obtain ⟨a, dx, fs, rfl, ha, h⟩ := h
  obtain ⟨f, fd, c, hm, hfn, _, hs, F, b'⟩ := T.ex
  cases rx
  obtain ⟨mA, J, _⟩ := ins_get I.hok ha
  obtain ⟨od, J, _⟩ := J.look
  obtain ⟨m, hF⟩ := I.fr
  exact PySem.W.ksp_inv hF I.ok.mod.kin J hs hfn (run_any (vs := [.ref a]) ⟨hr, rfl⟩ F b' hx I (.cons rfl .nil) h)
end
/-! ### defs called by positional promises -/
structure DfR (P : Program) (w : World) (K : PySem.W.Frag) (mg : Str → Option Value) (base : Heap) (x : Str) (k : Nat) (sp : Sp) : Prop where
  ex : ∃ (f : Addr), mg x = some (.ref f) ∧ PySem.W.keepIn K (.ref f) = true ∧ FnR P w K mg base (L2.CX P w) k f sp
theorem pe_dfR {X : Cx} {x : Str} {k : Nat} {sp : Sp} {E : XK} {e : Expr} {es : List Expr} {t : TA} {p pos : Pos} (T : DfR X.prog X.w X.K X.mg X.base x k sp) (hr : Room k X.A) (hg : Gl X x) (hx : Passes (L2.CX X.prog X.w) X E) (ha : PA X (e :: es) t)
    (hdb : (x == ("__debug__" : Str)) = false := by decide) (he : starEach (e :: es) X.env = (false, eval e X.env) :: starEach es X.env := by rfl) (hpl : (backTo pos (starEach es X.env)).any (·.1) = false := by rfl) :
    PE X (.Call (.Name x p) (e :: es) [] pos) (tCall sp [] E t) := by
  obtain ⟨f, g, kp, F⟩ := T.ex
  refine ⟨fun pins s σ H Q I h => ?_⟩
  refine wpAny_Call_Name_kw (ld_glob I hg g ?_ hdb)
  refine PySem.W.callWith_K (h₀ := X.base) I.ok.mod.kin kp (thn (ha.run pos pins s σ H _ I h) fun us s1 ⟨vs, H1, I1, r, q⟩ => ⟨I1.kIn, ?_⟩) he hpl
  have q : sp (vs ++ []) H1 Q E := q
  rw [List.append_nil] at q
  exact wpAny_call (run_fnR F hr hx I1 r q)
/-! ### the class as a local name -/
/-- cls(many, clashes), the i-th slot holds the class -/
def tWebL (i : Nat) (C : Addr) (sp : Sp) (E : XK) (t : TA) : TE := fun σ H Q => σ[i]? = some (some (.ref C)) ∧ t σ H fun vs H1 => sp vs H1 Q E
section
variable {X : Cx} {C CN CW : Addr} {E : XK} {e : Expr} {es : List Expr} {t : TA} {p pos : Pos} {i : Nat} {x : Str}
theorem pe_webL (T : WebK X.prog X.w X.K X.mg X.base C CN CW) (hr : Room 5 X.A) (hN : X.N[i]? = some x) (hv : Vis X.env.scope x) (hx : Passes (L2.CX X.prog X.w) X E) (ha : PA X (e :: es) t)
    (hdb : (x == ("__debug__" : Str)) = false := by decide) (hcd : (x == ("__classdict__" : Str)) = false := by decide)
    (he : starEach (e :: es) X.env = (false, eval e X.env) :: starEach es X.env := by rfl) (hpl : (backTo pos (starEach es X.env)).any (·.1) = false := by rfl) :
    PE X (.Call (.Name x p) (e :: es) [] pos) (tWebL i C (spMk X.K C CN CW) E t) := by
  obtain ⟨f, fd, M, F, b, _⟩ := T.ex
  refine ⟨fun pins s σ H Q I h => ?_⟩
  obtain ⟨hs, ht⟩ := h
  refine wpAny_Call_Name_kw (thn ((pe_var (pos := p) hN hv hdb hcd).run pins s σ H (fun v H1 => v = .ref C ∧ H1 = H) I ⟨.ref C, hs, rfl, rfl⟩) fun u s1 ⟨v, H1, I1, r1, q1⟩ => ?_)
  obtain ⟨rfl, rfl⟩ := q1
  cases r1
  refine PySem.W.callWith_K (h₀ := X.base) I.ok.mod.kin M.kp (thn (ha.run pos pins s1 σ _ _ I1 ht) fun us s2 ⟨vs, H2, I2, r, q⟩ => ⟨I2.kIn, ?_⟩) he hpl
  refine run_make (dvs := []) M F hr b .nil hx I2 r fun y dx nx ndx ne => ?_
  rw [List.append_nil]
  exact spMk_in q y dx nx ndx ne
theorem pe_webL1 (T : WebK X.prog X.w X.K X.mg X.base C CN CW) (hr : Room 5 X.A) (hN : X.N[i]? = some x) (hv : Vis X.env.scope x) (hx : Passes (L2.CX X.prog X.w) X E) (ha : PA X (e :: es) t)
    (hdb : (x == ("__debug__" : Str)) = false := by decide) (hcd : (x == ("__classdict__" : Str)) = false := by decide)
    (he : starEach (e :: es) X.env = (false, eval e X.env) :: starEach es X.env := by rfl) (hpl : (backTo pos (starEach es X.env)).any (·.1) = false := by rfl) :
    PE X (.Call (.Name x p) (e :: es) [] pos) (tWebL i C (spM1 X.K C CN CW) E t) := by
  obtain ⟨f, fd, M, F, _, e0, h0, b⟩ := T.ex
  refine ⟨fun pins s σ H Q I h => ?_⟩
  obtain ⟨hs, ht⟩ := h
  refine wpAny_Call_Name_kw (thn ((pe_var (pos := p) hN hv hdb hcd).run pins s σ H (fun v H1 => v = .ref C ∧ H1 = H) I ⟨.ref C, hs, rfl, rfl⟩) fun u s1 ⟨v, H1, I1, r1, q1⟩ => ?_)
  obtain ⟨rfl, rfl⟩ := q1
  cases r1
  refine PySem.W.callWith_K (h₀ := X.base) I.ok.mod.kin M.kp (thn (ha.run pos pins s1 σ _ _ I1 ht) fun us s2 ⟨vs, H2, I2, r, q⟩ => ⟨I2.kIn, ?_⟩) he hpl
  refine run_make (dvs := [.ref e0]) M F hr b (.cons rfl .nil) hx I2 r fun y dx nx ndx ne => ?_
  exact spMk_in (q e0 h0) y dx nx ndx ne
end
/-- a classmethod of the class at C -/
structure Cm (P : Program) (w : World) (K : PySem.W.Frag) (mg : Str → Option Value) (base : Heap) (C : Addr) (m : Str) (k : Nat) (sp : Sp) : Prop where
  ex : ∃ (mc : Value) (p g : Addr), CRead K C mc ∧ CMet K C mc m p g ∧ FnR P w K mg base (L2.CX P w) k g sp
theorem pe_cm {X : Cx} {C : Addr} {m : Str} {k : Nat} {sp : Sp} {E : XK} {o e : Expr} {es : List Expr} {ta : TE} {t : TA} {apos pos : Pos} {pl : Sem Bool} (T : Cm X.prog X.w X.K X.mg X.base C m k sp) (he : PE X o ta) (hr : Room k X.A) (hx : Passes (L2.CX X.prog X.w) X E) (ha : PA X (e :: es) t)
    (hst : starEach (e :: es) X.env = (false, eval e X.env) :: starEach es X.env := by rfl) (hpl : (backTo pos (starEach es X.env)).any (·.1) = false := by rfl)
    (ht : eval (.Call (.Attribute o m apos) (e :: es) [] pos) X.env = (do
      let ov ← eval o X.env
      standAt apos.atName
      let (f, first) ← holding [ov] (getMethod ov m pl)
      callWith pos f first (backTo pos (starEach (e :: es) X.env)) (backToKw pos (keywordEach [] X.env))) := by rfl) :
    PE X (.Call (.Attribute o m apos) (e :: es) [] pos) (tCMeth C sp E ta t) := by
  obtain ⟨mc, p, g, r, c, F⟩ := T.ex
  exact pe_cmeth (pl := pl) he r c F hr hx ha hst hpl ht
section
variable {P : Program} {w : World} {K : PySem.W.Frag} {mg : Str → Option Value} {base : Heap} {f : Addr} {fd : FuncData}
abbrev s_fu : Stmt := s_w 18
abbrev s_ba : Stmt := s_w 19
/-- Web.full(n) -/
def spFu (K : PySem.W.Frag) (C : Addr) : Sp := fun vs H Q _ => ∃ (n : Int), vs = [.ref C, .int n] ∧ 0 ≤ n ∧ n ≤ 8 ∧ ∀ H' r q, Same H H' → H r = none → IsCo n [] q → WebAt C (New H H') r n q → Q (.ref r) H'
theorem sc_fu : FnScope ["cls", "many"] ["cls", "many"] (defScope s_fu) := ⟨rfl, rfl, rfl, by decide +kernel, rfl, by decide +kernel, by decide +kernel⟩
theorem cl_nil {n : Int} : Cl n [] := ⟨.nil, fun p hp => by cases hp⟩
theorem len28 {n : Int} {q : List Pr} (h : Cl n q) (hn : n ≤ 8) : q.length ≤ 28 := by
  let c : List Pr := (List.range 8).flatMap fun (x : Nat) => ((List.range 8).filter fun (y : Nat) => decide (x < y)).map fun (y : Nat) => ((x : Int), (y : Int))
  have e : c.length = 28 := by decide +kernel
  rw [← e]
  refine len_sub q c (pairwise_nodup h.srt) fun p hp => ?_
  obtain ⟨h1, h2, h3⟩ := h.rng p hp
  exact List.mem_flatMap.mpr ⟨p.1.toNat, List.mem_range.mpr (by omega), List.mem_map.mpr ⟨p.2.toNat, List.mem_filter.mpr ⟨List.mem_range.mpr (by omega), decide_eq_true (by omega)⟩, Prod.ext (by dsimp only; omega) (by dsimp only; omega)⟩⟩
theorem ok_fu {C CN CW : Addr} (F : Fun K "full" "Web.full" s_fu f fd) (WK : WebK P w K mg base C CN CW) (CNum : DfD P w K mg base "check_number" 3 ["value", "name", "least"] [.int 0] (spCn CN)) (AP : Df P w K mg base "all_pairs" 1 ["many"] spAp) :
    FnOk P w K mg base (L2.CX P w) 6 f fd ["cls", "many"] (spFu K C) := by
  refine F.okX sc_fu (fun vs H Q E h => ?_) (fun cdv A outer s H vs Q E hr h => ?_)
  · obtain ⟨n, rfl, _⟩ := h
    rfl
  · obtain ⟨n, rfl, n0, n8, k⟩ := h
    have r1 : Room 1 _ := hr.mono (by decide)
    have r3 : Room 3 _ := hr.mono (by decide)
    refine ⟨_, pss_cons (ps_expr (pe_dfd CNum r3 (by rfl) passUp (pa_cons (pv 1) (pa_cons pe_str pa_nil))))
      (pss_one (ps_ret (pe_webL (i := 0) WK (hr.mono (by decide)) rfl (.inl rfl) passUp (pa_cons (pv 1) (pa_cons (pe_df AP r1 (by rfl) passUp (pa_cons (pv 1) pa_nil)) pa_nil))))), ?_⟩
    refine ⟨_, rfl, .int n, .int n, _, 0, rfl, .int n, fun _ => ?_, fun z => ?_⟩
    · refine ⟨rfl, _, rfl, _, rfl, n, rfl, n0, by omega, fun H1 a rs s1 na g lx => ?_⟩
      have co : IsCo n [] rs := ⟨lx.cl, fun z => by rw [lx.fin]; exact ⟨fun h => ⟨h.1, by simp⟩, fun h => ⟨h.1, trivial⟩⟩⟩
      refine mk_ls g.ls lx.cl.rng n0 (by omega) (by have := len28 lx.cl n8; omega) fun H2 r q s2 nr c e W => ?_
      have eq := cl_eq co.c c e
      subst eq
      exact k H2 r _ (s1.trans s2) (s1.free nr) co (W.mono (new_mono (fun b e1 _ => s1.free e1) (Same.refl _)))
    · have : okN 0 (.int n) = true := decide_eq_true n0
      rw [this] at z
      cases z
/-- Web.bare(n) -/
def spBa (K : PySem.W.Frag) (C : Addr) : Sp := fun vs H Q _ => ∃ (n : Int), vs = [.ref C, .int n] ∧ 0 ≤ n ∧ n ≤ 16 ∧ ∀ H' r, Same H H' → H r = none → WebAt C (New H H') r n [] → Q (.ref r) H'
theorem sc_ba : FnScope ["cls", "many"] ["cls", "many"] (defScope s_ba) := ⟨rfl, rfl, rfl, by decide +kernel, rfl, by decide +kernel, by decide +kernel⟩
theorem mk_nil {C CN CW : Addr} {H : Hp} {n : Int} {Q : VK} {E : XK} (n0 : 0 ≤ n) (n16 : n ≤ 16) (k : ∀ H' r, Same H H' → H r = none → WebAt C (New H H') r n [] → Q (.ref r) H') : spM1 K C CN CW [.int n] H Q E := fun e0 h0 => by
  refine ⟨e0, .int n, .int n, [], rfl, .int n, .kon h0 rfl, fun z => ?_, fun m e _ => ?_⟩
  · have z' : ¬ (0 ≤ n) := of_decide_eq_false z
    exact absurd n0 z'
  · cases e
    refine ⟨n16, by decide, fun ps' hps q cq hm H' p sm np W => ?_, fun x y hxy => ?_⟩
    · cases hps
      have : q = [] := by
        cases q with
        | nil => rfl
        | cons z q => cases (hm z).mp List.mem_cons_self
      subst this
      exact k H' p sm np W
    · cases hxy
theorem ok_ba {C CN CW : Addr} (F : Fun K "bare" "Web.bare" s_ba f fd) (WK : WebK P w K mg base C CN CW) : FnOk P w K mg base (L2.CX P w) 6 f fd ["cls", "many"] (spBa K C) := by
  refine F.okX sc_ba (fun vs H Q E h => ?_) (fun cdv A outer s H vs Q E hr h => ?_)
  · obtain ⟨n, rfl, _⟩ := h
    rfl
  · obtain ⟨n, rfl, n0, n16, k⟩ := h
    refine ⟨_, pss_one (ps_ret (pe_webL1 (i := 0) WK (hr.mono (by decide)) rfl (.inl rfl) passUp (pa_cons (pv 1) pa_nil))), ?_⟩
    exact ⟨rfl, _, rfl, mk_nil n0 n16 k⟩
end
end K0
set_option Elab.async false
set_option linter.all false
set_option maxRecDepth 100000
set_option maxHeartbeats 4000000
namespace K0
open PySem PySem.Spec PyProof.Rows L2 StX
section
variable {P : Program} {w : World} {K : PySem.W.Frag} {mg : Str → Option Value} {base : Heap} {f : Addr} {fd : FuncData}
abbrev s_be : Stmt := top 24
abbrev s_jo : Stmt := top 25
theorem WebAt.ins {C : Addr} {H : Hp} {p : Addr} {n : Int} {q : List Pr} (W : WebAt C H p n q) : ∃ dx fs, H p = some (.ins C dx fs) := by
  obtain ⟨⟨dx, c, m, l, h1, _⟩, _⟩ := W
  exact ⟨dx, _, h1⟩
theorem WebAt.new {C : Addr} {H H' : Hp} {p : Addr} {n : Int} {q : List Pr} (W : WebAt C (New H H') p n q) : WebAt C H' p n q := W.mono same_new
/-- beside(first, second, third) -/
def spBe (C : Addr) : Sp := fun vs H Q _ => ∃ (p0 p1 p2 : Addr) (n0 n1 n2 : Int) (q0 q1 q2 : List Pr), vs = [.ref p0, .ref p1, .ref p2] ∧ WebAt C H p0 n0 q0 ∧ WebAt C H p1 n1 q1 ∧ WebAt C H p2 n2 q2 ∧ n0 + n1 + n2 ≤ 16 ∧ q0.length + q1.length + q2.length ≤ 62 ∧
  ∀ H' r q, Same H H' → Cl (n0 + n1 + n2) q → (∀ z, z ∈ q ↔ z ∈ q0 ++ shf q1 n0 ++ shf q2 (n0 + n1)) → WebAt C H' r (n0 + n1 + n2) q → Q (.ref r) H'
theorem sc_be : FnScope ["first", "rest", "whole", "web"] ["first", "rest"] (defScope s_be) := ⟨rfl, rfl, rfl, by decide +kernel, rfl, by decide +kernel, by decide +kernel⟩
theorem mem_len {l m : List Pr} (nd : l.Nodup) (h : ∀ z, z ∈ l → z ∈ m) : l.length ≤ m.length := len_sub l m nd h
theorem ok_be {C : Addr} (F : Fun K "beside" "beside" s_be f fd) (hc : PySem.W.selfFirst K C = true) (AD : Mt P w K mg base C "__add__" 6 ["self", "other"] (spAd K C)) : FnR P w K mg base (L2.CX P w) 7 f (spBe C) := by
  obtain ⟨oc, od, kV, doc, pm, an, cdv, ct, osl, rfl, lk, hcd⟩ := F.ex
  have nd := sc_be.nd
  refine (fn_star (ps := ["first"]) (pv := "rest") (N := ["first", "rest", "whole", "web"]) (k := 6) (sp := fun vs H Q E => ∃ (p0 p1 p2 t : Addr), vs = [.ref p0, .ref t] ∧ H t = some (.tup [.ref p1, .ref p2]) ∧ spBe C [.ref p0, .ref p1, .ref p2] H Q E) lk hcd sc_be cxUp (bind_star1 (B := fun us => bindArgs (PySem.W.fnOf "beside" "beside" (defArgs s_be) (defBody s_be) (defScope s_be) .none kV doc pm an cdv ct) ⟨us, []⟩) (p1 := "first") (pv := "rest") (fun _ => rfl) (fun _ _ _ => rfl)) (fun A outer s H vs Q E hr h => ?_)).imp fun vs H Q E h => ?_
  · obtain ⟨p0, p1, p2, t, rfl, ht, p0', p1', p2', n0, n1, n2, q0, q1, q2, e, W0, W1, W2, h16, h62, k⟩ := h
    cases e
    refine ⟨_, pss_cons (ps_set (i := 2) nd rfl (.inl rfl) (pv 0))
      (pss_cons (ps_for (passes_of rfl) rfl (pi_tup (pv 1)) (pg_name (i := 3) nd rfl (.inl rfl)) (pss_one (ps_set (i := 2) nd rfl (.inl rfl) (pe_op (op_binO (op := .Add) AD hc hr passUp) (pv 2) (pv 3)))))
      (pss_one (ps_ret (pv 2)))), ?_⟩
    have a0 := W0.n0; have a1 := W1.n0; have a2 := W2.n0
    let Pv : Nat → L2.St → Hp → Prop := fun i σ H' => ∃ o3 r m q, σ = [some (.ref p0), some (.ref t), some (.ref r), o3] ∧ Same H H' ∧ WebAt C H' r m q ∧ Cl m q ∧ ((i = 0 ∧ m = n0 ∧ q = q0) ∨ (i = 1 ∧ m = n0 + n1 ∧ ∀ z, z ∈ q ↔ z ∈ q0 ++ shf q1 n0) ∨ (i = 2 ∧ m = n0 + n1 + n2 ∧ ∀ z, z ∈ q ↔ z ∈ q0 ++ shf q1 n0 ++ shf q2 (n0 + n1)))
    refine ⟨_, rfl, _, rfl, t, rfl, ⟨_, SqT.of ht⟩, for_tup (K := K) (a := t) (xs := [.ref p1, .ref p2]) Pv ⟨none, p0, n0, q0, rfl, Same.refl _, W0, W0.cl, .inl ⟨rfl, rfl, rfl⟩⟩ (fun j σ H' _ h => ?_) (fun j v σ H' hj h => ?_) (fun σ H' h => ?_)⟩
    · obtain ⟨_, _, _, _, _, sm, _⟩ := h
      exact SqT.of (sm _ _ ht)
    · obtain ⟨o3, r, m, q, rfl, sm, W, cl', h⟩ := h
      obtain ⟨dx, fs, hi⟩ := W.ins
      rcases h with ⟨rfl, rfl, rfl⟩ | ⟨rfl, rfl, hm⟩ | ⟨rfl, _⟩
      · obtain rfl : v = .ref p1 := (Option.some.inj hj).symm
        obtain ⟨dx', fs', hi'⟩ := (W1.mono sm).ins
        refine ⟨_, rfl, _, rfl, r, dx, fs, p1, dx', fs', rfl, hi, rfl, hi', r, p1, _, n1, _, q1, rfl, W, W1.mono sm, by omega, by omega, fun H2 r2 q' s2 nr c e W' => ⟨r2, rfl, ?_⟩⟩
        exact ⟨_, r2, _, q', rfl, sm.trans s2, W'.new, c, .inr (.inl ⟨rfl, rfl, e⟩)⟩
      · obtain rfl : v = .ref p2 := (Option.some.inj hj).symm
        obtain ⟨dx', fs', hi'⟩ := (W2.mono sm).ins
        have l1 := mem_len (pairwise_nodup cl'.srt) fun z hz => (hm z).mp hz
        rw [List.length_append, shf_len] at l1
        refine ⟨_, rfl, _, rfl, r, dx, fs, p2, dx', fs', rfl, hi, rfl, hi', r, p2, _, n2, _, q2, rfl, W, W2.mono sm, by omega, by omega, fun H2 r2 q' s2 nr c e W' => ⟨r2, rfl, ?_⟩⟩
        exact ⟨_, r2, _, q', rfl, sm.trans s2, W'.new, c, .inr (.inr ⟨rfl, rfl, fun z => by rw [e, List.mem_append, hm, ← List.mem_append]⟩)⟩
      · cases hj
    · obtain ⟨o3, r, m, q, rfl, sm, W, cl', h⟩ := h
      rcases h with ⟨h, _⟩ | ⟨h, _⟩ | ⟨_, rfl, hm⟩
      · cases h
      · cases h
      · exact ⟨_, rfl, k H' r q sm cl' hm W⟩
  · obtain ⟨p0, p1, p2, n0, n1, n2, q0, q1, q2, rfl, W0, W1, W2, h16, h62, k⟩ := h
    refine ⟨[.ref p0], [.ref p1, .ref p2], rfl, rfl, by show 2 ≤ sizeLine; decide, fun t nt => ?_⟩
    have s1 : Same H (upd H t (.tup [.ref p1, .ref p2])) := same_upd nt
    exact ⟨p0, p1, p2, t, rfl, upd_same, p0, p1, p2, n0, n1, n2, q0, q1, q2, rfl, W0.mono s1, W1.mono s1, W2.mono s1, h16, h62, fun H' r q s2 c e W => k H' r q (s1.trans s2) c e W⟩
/-- joined(first, second, third) -/
def spJo (C : Addr) : Sp := fun vs H Q _ => ∃ (p0 p1 p2 : Addr) (n0 n1 n2 : Int) (q0 q1 q2 : List Pr), vs = [.ref p0, .ref p1, .ref p2] ∧ WebAt C H p0 n0 q0 ∧ WebAt C H p1 n1 q1 ∧ WebAt C H p2 n2 q2 ∧ n0 + n1 + n2 ≤ 16 ∧ q0.length + q1.length + q2.length + n0.toNat * n1.toNat + (n0 + n1).toNat * n2.toNat ≤ 62 ∧
  ∀ H' r q, Same H H' → Cl (n0 + n1 + n2) q → (∀ z, z ∈ q ↔ z ∈ q0 ++ shf q1 n0 ++ grid 0 n0 n0 n1 ++ shf q2 (n0 + n1) ++ grid 0 (n0 + n1) (n0 + n1) n2) → WebAt C H' r (n0 + n1 + n2) q → Q (.ref r) H'
theorem sc_jo : FnScope ["first", "rest", "whole", "web"] ["first", "rest"] (defScope s_jo) := ⟨rfl, rfl, rfl, by decide +kernel, rfl, by decide +kernel, by decide +kernel⟩
theorem ok_jo {C : Addr} (F : Fun K "joined" "joined" s_jo f fd) (hc : PySem.W.selfFirst K C = true) (MU : Mt P w K mg base C "__mul__" 6 ["self", "other"] (spMu K C)) : FnR P w K mg base (L2.CX P w) 7 f (spJo C) := by
  obtain ⟨oc, od, kV, doc, pm, an, cdv, ct, osl, rfl, lk, hcd⟩ := F.ex
  have nd := sc_jo.nd
  refine (fn_star (ps := ["first"]) (pv := "rest") (N := ["first", "rest", "whole", "web"]) (k := 6) (sp := fun vs H Q E => ∃ (p0 p1 p2 t : Addr), vs = [.ref p0, .ref t] ∧ H t = some (.tup [.ref p1, .ref p2]) ∧ spJo C [.ref p0, .ref p1, .ref p2] H Q E) lk hcd sc_jo cxUp (bind_star1 (B := fun us => bindArgs (PySem.W.fnOf "joined" "joined" (defArgs s_jo) (defBody s_jo) (defScope s_jo) .none kV doc pm an cdv ct) ⟨us, []⟩) (p1 := "first") (pv := "rest") (fun _ => rfl) (fun _ _ _ => rfl)) (fun A outer s H vs Q E hr h => ?_)).imp fun vs H Q E h => ?_
  · obtain ⟨p0, p1, p2, t, rfl, ht, p0', p1', p2', n0, n1, n2, q0, q1, q2, e, W0, W1, W2, h16, h62, k⟩ := h
    cases e
    refine ⟨_, pss_cons (ps_set (i := 2) nd rfl (.inl rfl) (pv 0))
      (pss_cons (ps_for (passes_of rfl) rfl (pi_tup (pv 1)) (pg_name (i := 3) nd rfl (.inl rfl)) (pss_one (ps_set (i := 2) nd rfl (.inl rfl) (pe_op (op_binO (op := .Mult) MU hc hr passUp) (pv 2) (pv 3)))))
      (pss_one (ps_ret (pv 2)))), ?_⟩
    have a0 := W0.n0; have a1 := W1.n0; have a2 := W2.n0
    let Pv : Nat → L2.St → Hp → Prop := fun i σ H' => ∃ o3 r m q, σ = [some (.ref p0), some (.ref t), some (.ref r), o3] ∧ Same H H' ∧ WebAt C H' r m q ∧ Cl m q ∧ ((i = 0 ∧ m = n0 ∧ q = q0) ∨ (i = 1 ∧ m = n0 + n1 ∧ ∀ z, z ∈ q ↔ z ∈ q0 ++ shf q1 n0 ++ grid 0 n0 n0 n1) ∨ (i = 2 ∧ m = n0 + n1 + n2 ∧ ∀ z, z ∈ q ↔ z ∈ q0 ++ shf q1 n0 ++ grid 0 n0 n0 n1 ++ shf q2 (n0 + n1) ++ grid 0 (n0 + n1) (n0 + n1) n2))
    refine ⟨_, rfl, _, rfl, t, rfl, ⟨_, SqT.of ht⟩, for_tup (K := K) (a := t) (xs := [.ref p1, .ref p2]) Pv ⟨none, p0, n0, q0, rfl, Same.refl _, W0, W0.cl, .inl ⟨rfl, rfl, rfl⟩⟩ (fun j σ H' _ h => ?_) (fun j v σ H' hj h => ?_) (fun σ H' h => ?_)⟩
    · obtain ⟨_, _, _, _, _, sm, _⟩ := h
      exact SqT.of (sm _ _ ht)
    · obtain ⟨o3, r, m, q, rfl, sm, W, cl', h⟩ := h
      obtain ⟨dx, fs, hi⟩ := W.ins
      rcases h with ⟨rfl, rfl, rfl⟩ | ⟨rfl, rfl, hm⟩ | ⟨rfl, _⟩
      · obtain rfl : v = .ref p1 := (Option.some.inj hj).symm
        obtain ⟨dx', fs', hi'⟩ := (W1.mono sm).ins
        refine ⟨_, rfl, _, rfl, r, dx, fs, p1, dx', fs', rfl, hi, rfl, hi', r, p1, _, n1, _, q1, rfl, W, W1.mono sm, by omega, (by rw [List.length_append, List.length_append, shf_len, grid_len]; omega), fun H2 r2 q' s2 nr c e W' => ⟨r2, rfl, ?_⟩⟩
        exact ⟨_, r2, _, q', rfl, sm.trans s2, W'.new, c, .inr (.inl ⟨rfl, rfl, e⟩)⟩
      · obtain rfl : v = .ref p2 := (Option.some.inj hj).symm
        obtain ⟨dx', fs', hi'⟩ := (W2.mono sm).ins
        have l1 := mem_len (pairwise_nodup cl'.srt) fun z hz => (hm z).mp hz
        rw [List.length_append, List.length_append, shf_len, grid_len] at l1
        refine ⟨_, rfl, _, rfl, r, dx, fs, p2, dx', fs', rfl, hi, rfl, hi', r, p2, _, n2, _, q2, rfl, W, W2.mono sm, by omega, (by rw [List.length_append, List.length_append, shf_len, grid_len]; omega), fun H2 r2 q' s2 nr c e W' => ⟨r2, rfl, ?_⟩⟩
        refine ⟨_, r2, _, q', rfl, sm.trans s2, W'.new, c, .inr (.inr ⟨rfl, rfl, fun z => ?_⟩)⟩
        rw [e, List.mem_append, List.mem_append, hm, ← List.mem_append, ← List.mem_append]
      · cases hj
    · obtain ⟨o3, r, m, q, rfl, sm, W, cl', h⟩ := h
      rcases h with ⟨h, _⟩ | ⟨h, _⟩ | ⟨_, rfl, hm⟩
      · cases h
      · cases h
      · exact ⟨_, rfl, k H' r q sm cl' hm W⟩
  · obtain ⟨p0, p1, p2, n0, n1, n2, q0, q1, q2, rfl, W0, W1, W2, h16, h62, k⟩ := h
    refine ⟨[.ref p0], [.ref p1, .ref p2], rfl, rfl, by show 2 ≤ sizeLine; decide, fun t nt => ?_⟩
    have s1 : Same H (upd H t (.tup [.ref p1, .ref p2])) := same_upd nt
    exact ⟨p0, p1, p2, t, rfl, upd_same, p0, p1, p2, n0, n1, n2, q0, q1, q2, rfl, W0.mono s1, W1.mono s1, W2.mono s1, h16, h62, fun H' r q s2 c e W => k H' r q (s1.trans s2) c e W⟩
end
end K0
set_option Elab.async false
set_option linter.all false
set_option maxRecDepth 100000
set_option maxHeartbeats 4000000
/-! zip of a tuple and a list -/
namespace ZM
open PySem PySem.Spec PyProof.Rows L2
section
variable {pr : Program} {wo : World} {Ar : Around} {Ex : Value → Shared → Prop} {st : Shared}
/-- where the zip stands: z with its pair of iterators I, its pair of what was handed out O, the iterators p over the tuple at a, q over the list at b -/
structure At (h : Heap) (z I O p q a b : Addr) (i j : Nat) : Prop where
  z : IsZip h z I O .none
  I : PySem.IsPair h I (.ref p) (.ref q)
  O : ∃ u v, PySem.IsPair h O u v
  p : h.IsTupleIter p a i
  q : h.IsListIter q b j
/-- all but these four stay -/
def Off (z O p q : Addr) (h h' : Heap) : Prop := ∀ c o, c ≠ z → c ≠ O → c ≠ p → c ≠ q → h.get? c = some o → h'.get? c = some o
theorem go {z I O p q a b : Addr} {i j : Nat} {xs ys : Array Value} {x y : Value} {G : Value → Shared → Prop} (D : ZipApart z I O p q a b) (W : At st.heap z I O p q a b i j) (ta : st.heap.IsTuple a xs) (lb : st.heap.IsList b ys) (ex : xs[i]? = some x) (ey : ys[j]? = some y)
    (k : ∀ h', IsZip h' z I O (rawInt st.heap.objs.size) → PySem.IsPair h' O x y → h'.IsTupleIter p a (i + 1) → h'.IsListIter q b (j + 1) → PySem.IsPair h' st.heap.objs.size x y → h'.objs.size = st.heap.objs.size + 1 → Off z O p q st.heap h' → G (.ref st.heap.objs.size) { st with heap := h' }) :
    wpAny (model pr wo) Ar (Builtin.«zip.__next__» ⟨[.ref z], []⟩) (fun fin s' => ∃ v, fin = .done (.ret v) ∧ G v s') Ex st := by
  obtain ⟨kz, kI, ⟨u, v, kO⟩, kp, kq⟩ := W
  show wpAny _ _ (field (.ref z) 2 >>= _) _ _ _; refine wpAny_bind (wpAny_field kz rfl (x := .bool false) rfl ?_)
  show wpAny _ _ (field (.ref z) 3 >>= _) _ _ _; refine wpAny_bind (wpAny_field kz rfl (x := .ref I) rfl (wpAny_bind (wpAny_seqItems kI rfl ?_)))
  show wpAny _ _ (Builtin.SmallTypes.ownedTupleIsFree (.ref z) >>= _) _ _ _; refine wpAny_bind ?_; unfold Builtin.SmallTypes.ownedTupleIsFree
  refine wpAny_bind (wpAny_field kz rfl (x := .none) rfl (wpAny_pure ?_)); simp only [if_true]
  refine wpAny_bind (wpAny_rule (wpAny_bind (wpAny_field kz rfl (x := .ref O) rfl (wpAny_bind (wpAny_setField_rec kz (by simp) fun g1 z1 e1 => ?_)))))
  replace z1 : IsZip g1 z I O .ellipsis := z1
  refine wpAny_bind ?_; simp only [List.zipIdx_cons, List.zipIdx_nil, List.forIn_cons, List.forIn_nil]
  refine wpAny_bind (wpAny_bind (wpAny_onRaise ?_)); show wpAny _ _ (Builtin.SmallTypes.nextOf (.ref p) >>= _) _ _ _
  refine wpAny_bind (RZ.nextOf_tuple_item (kp.extBut e1.extBut D.i1z) (ta.extBut e1.extBut D.l1z) ex fun g2 p2 e2 => wpAny_pure ?_)
  have O2 : PySem.IsPair g2 O u v := e2.extBut _ _ D.TOi1 (e1.extBut _ _ D.TOz kO)
  refine wpAny_bind (wpAny_seqItems O2 rfl (wpAny_bind (wpAny_updateSeq_pair O2 fun g3 O3 e3 => ?_)))
  replace O3 : PySem.IsPair g3 O x v := O3
  refine wpAny_bind (wpAny_letGo (wpAny_pure (wpAny_bind (wpAny_bind (wpAny_onRaise ?_))))); show wpAny _ _ (Builtin.SmallTypes.nextOf (.ref q) >>= _) _ _ _
  refine wpAny_bind (wpAny_nextOf_list_item (((kq.extBut e1.extBut D.i2z).extBut e2.extBut D.i12.symm).extBut e3.extBut D.TOi2.symm) (((lb.extBut e1.extBut D.l2z).extBut e2.extBut D.l2i1).extBut e3.extBut D.l2TO) ey fun g4 q4 e4 => wpAny_pure ?_)
  have O4 : PySem.IsPair g4 O x v := e4.extBut _ _ D.TOi2 O3
  refine wpAny_bind (wpAny_seqItems O4 rfl (wpAny_bind (wpAny_updateSeq_pair O4 fun g5 O5 e5 => ?_)))
  replace O5 : PySem.IsPair g5 O x y := O5
  refine wpAny_bind (wpAny_letGo (wpAny_pure (wpAny_pure (wpAny_bind (wpAny_seqItems O5 rfl (wpAny_bind (wpAny_newTuple ?_)))))))
  have sz : g5.objs.size = st.heap.objs.size := by rw [e5.1, e4.1, e3.1, e2.1, e1.1]
  have z5 : IsZip g5 z I O .ellipsis := e5.extBut _ _ D.TOz.symm (e4.extBut _ _ D.i2z.symm (e3.extBut _ _ D.TOz.symm (e2.extBut _ _ D.i1z.symm z1)))
  have off : Off z O p q st.heap g5 := fun c o n1 n2 n3 n4 e => e5.extBut _ _ n2 (e4.extBut _ _ n4 (e3.extBut _ _ n2 (e2.extBut _ _ n3 (e1.extBut _ _ n1 e))))
  have p5 : g5.IsTupleIter p a (i + 1) := ((p2.extBut e3.extBut D.TOi1.symm).extBut e4.extBut D.i12).extBut e5.extBut D.TOi1.symm
  have q5 : g5.IsListIter q b (j + 1) := q4.extBut e5.extBut D.TOi2.symm
  have lz : z < g5.objs.size := Heap.lt_size z5
  show wpAny _ _ (Builtin.SmallTypes.ownedTupleHandOut (.ref z) (.ref g5.objs.size) >>= _) _ _ _; refine wpAny_bind ?_; unfold Builtin.SmallTypes.ownedTupleHandOut
  have z6 : IsZip (g5.push { cls := .type "tuple", data := .seq #[x, y] }) z I O .ellipsis := Heap.get?_push_of_some _ z5
  refine wpAny_bind (wpAny_setField_rec z6 (by simp) fun g7 z7 e7 => ?_)
  replace z7 : IsZip g7 z I O (rawInt g5.objs.size) := z7
  refine wpAny_setField_rec z7 (by simp) fun g8 z8 e8 => ?_
  replace z8 : IsZip g8 z I O (rawInt g5.objs.size) := z8
  have rise : ∀ c o, c ≠ z → g5.get? c = some o → g8.get? c = some o := fun c o n e => e8.extBut _ _ n (e7.extBut _ _ n (Heap.get?_push_of_some _ e))
  have T8 : PySem.IsPair g8 g5.objs.size x y := e8.extBut _ _ (Nat.ne_of_gt lz) (e7.extBut _ _ (Nat.ne_of_gt lz) (Heap.get?_push_size _ rfl))
  have s8 : g8.objs.size = g5.objs.size + 1 := by rw [e8.1, e7.1, Heap.size_push]
  rw [sz] at z8 T8 s8
  refine wpAny_pure ⟨_, rfl, ?_⟩; show G (.ref g5.objs.size) _; rw [sz]
  exact k g8 z8 (rise _ _ D.TOz O5) (p5.at fun o e => rise _ o D.i1z e) (q5.at fun o e => rise _ o D.i2z e) T8 s8 fun c o n1 n2 n3 n4 e => rise c o n1 (off c o n1 n2 n3 n4 e)
theorem stop {z I O p q a b : Addr} {i j : Nat} {xs ys : Array Value} {G : PySem.Fin → Shared → Prop} (nh : Ar.handled = none) (D : ZipApart z I O p q a b) (W : At st.heap z I O p q a b i j) (ta : st.heap.IsTuple a xs) (lb : st.heap.IsList b ys) (en : xs[i]? = none ∨ ys[j]? = none)
    (k : ∀ h' e, Off z O p q st.heap h' → (∃ o, h'.get? e = some o ∧ o.cls = .type "StopIteration") → Ex (.ref e) { st with heap := h' }) : wpAny (model pr wo) Ar (Builtin.«zip.__next__» ⟨[.ref z], []⟩) G Ex st := by
  obtain ⟨kz, kI, ⟨u, v, kO⟩, kp, kq⟩ := W
  show wpAny _ _ (field (.ref z) 2 >>= _) _ _ _; refine wpAny_bind (wpAny_field kz rfl (x := .bool false) rfl ?_)
  show wpAny _ _ (field (.ref z) 3 >>= _) _ _ _; refine wpAny_bind (wpAny_field kz rfl (x := .ref I) rfl (wpAny_bind (wpAny_seqItems kI rfl ?_)))
  show wpAny _ _ (Builtin.SmallTypes.ownedTupleIsFree (.ref z) >>= _) _ _ _; refine wpAny_bind ?_; unfold Builtin.SmallTypes.ownedTupleIsFree
  refine wpAny_bind (wpAny_field kz rfl (x := .none) rfl (wpAny_pure ?_)); simp only [if_true]
  refine wpAny_bind (wpAny_rule (wpAny_bind (wpAny_field kz rfl (x := .ref O) rfl (wpAny_bind (wpAny_setField_rec kz (by simp) fun g1 z1 e1 => ?_)))))
  replace z1 : IsZip g1 z I O .ellipsis := z1
  refine wpAny_bind ?_; simp only [List.zipIdx_cons, List.zipIdx_nil, List.forIn_cons, List.forIn_nil]
  refine wpAny_bind (wpAny_bind (wpAny_onRaise ?_)); show wpAny _ _ (Builtin.SmallTypes.nextOf (.ref p) >>= _) _ _ _
  cases ex : xs[i]? with
  | none =>
    refine wpAny_bind (RZ.nextOf_tuple_end nh (kp.extBut e1.extBut D.i1z) (ta.extBut e1.extBut D.l1z) ex fun g2 e e2 ⟨oe, he, ce⟩ => ?_)
    have z2 : IsZip g2 z I O .ellipsis := e2 _ _ D.i1z.symm z1
    have ne : e ≠ z := fun t => by subst t; rw [z2] at he; cases he; simp at ce
    exact wpAny_setField_rec z2 (by simp) fun g3 _ e3 => k g3 e (fun c o n1 _ n3 _ t => e3.extBut _ _ n1 (e2 _ _ n3 (e1.extBut _ _ n1 t))) ⟨oe, e3.extBut _ _ ne he, ce⟩
  | some x =>
    have ey : ys[j]? = none := en.elim (fun t => by rw [ex] at t; cases t) fun t => t
    refine wpAny_bind (RZ.nextOf_tuple_item (kp.extBut e1.extBut D.i1z) (ta.extBut e1.extBut D.l1z) ex fun g2 p2 e2 => wpAny_pure ?_)
    have O2 : PySem.IsPair g2 O u v := e2.extBut _ _ D.TOi1 (e1.extBut _ _ D.TOz kO)
    refine wpAny_bind (wpAny_seqItems O2 rfl (wpAny_bind (wpAny_updateSeq_pair O2 fun g3 O3 e3 => ?_)))
    refine wpAny_bind (wpAny_letGo (wpAny_pure (wpAny_bind (wpAny_bind (wpAny_onRaise ?_))))); show wpAny _ _ (Builtin.SmallTypes.nextOf (.ref q) >>= _) _ _ _
    refine wpAny_bind (wpAny_nextOf_list_end nh (((kq.extBut e1.extBut D.i2z).extBut e2.extBut D.i12.symm).extBut e3.extBut D.TOi2.symm) (((lb.extBut e1.extBut D.l2z).extBut e2.extBut D.l2i1).extBut e3.extBut D.l2TO) ey fun g4 e e4 ⟨oe, he, ce⟩ => ?_)
    have z4 : IsZip g4 z I O .ellipsis := e4 _ _ D.i2z.symm (e3.extBut _ _ D.TOz.symm (e2.extBut _ _ D.i1z.symm z1))
    have ne : e ≠ z := fun t => by subst t; rw [z4] at he; cases he; simp at ce
    exact wpAny_setField_rec z4 (by simp) fun g5 _ e5 => k g5 e (fun c o n1 n2 n3 n4 t => e5.extBut _ _ n1 (e4 _ _ n4 (e3.extBut _ _ n2 (e2.extBut _ _ n3 (e1.extBut _ _ n1 t))))) ⟨oe, e5.extBut _ _ ne he, ce⟩
theorem nextGo {z I O p q a b : Addr} {i j : Nat} {xs ys : Array Value} {x y : Value} {G : Option Value → Shared → Prop} (D : ZipApart z I O p q a b) (W : At st.heap z I O p q a b i j) (ta : st.heap.IsTuple a xs) (lb : st.heap.IsList b ys) (ex : xs[i]? = some x) (ey : ys[j]? = some y)
    (k : ∀ h', IsZip h' z I O (rawInt st.heap.objs.size) → PySem.IsPair h' O x y → h'.IsTupleIter p a (i + 1) → h'.IsListIter q b (j + 1) → PySem.IsPair h' st.heap.objs.size x y → h'.objs.size = st.heap.objs.size + 1 → Off z O p q st.heap h' → G (some (.ref st.heap.objs.size)) { st with heap := h' }) : wpAny (model pr wo) Ar (pyNext (.ref z)) G Ex st := by
  have ty : st.TypeIs (.ref z) "zip" := ⟨_, W.z, rfl⟩
  unfold pyNext
  exact wpAny_bind (wpAny_attempt (wpAny_callSpecial?_slot (name := Str.ofString "__next__") ty F.slot_zip_next (wpAny_call_entry F.slot_zip_next ty F.entry_zip_next (go D W ta lb ex ey fun h' k1 k2 k3 k4 k5 k6 k7 => wpAny_pure (k h' k1 k2 k3 k4 k5 k6 k7)) (F.args_zip_next_1 _))))
theorem nextStop {z I O p q a b : Addr} {i j : Nat} {xs ys : Array Value} {G : Option Value → Shared → Prop} (nh : Ar.handled = none) (D : ZipApart z I O p q a b) (W : At st.heap z I O p q a b i j) (ta : st.heap.IsTuple a xs) (lb : st.heap.IsList b ys) (en : xs[i]? = none ∨ ys[j]? = none)
    (k : ∀ h', Off z O p q st.heap h' → G none { st with heap := h' }) : wpAny (model pr wo) Ar (pyNext (.ref z)) G Ex st := by
  have ty : st.TypeIs (.ref z) "zip" := ⟨_, W.z, rfl⟩
  unfold pyNext
  refine wpAny_bind (wpAny_attempt (wpAny_callSpecial?_slot (name := Str.ofString "__next__") ty F.slot_zip_next (wpAny_call_entry F.slot_zip_next ty F.entry_zip_next (stop nh D W ta lb en fun h' e o ⟨oe, he, ce⟩ => ?_) (F.args_zip_next_1 _))))
  exact wpAny_bind (wpAny_isInstance (T := "StopIteration") (b := true) ⟨oe, he, ce⟩ isSubtype_stop (wpAny_pure (k _ o)))
end
def m1 (h : Heap) (a : Addr) : Heap := h.push { cls := .type "tuple_iterator", data := .fields #[.ref a, .int 0 0] }
def m2 (h : Heap) (a b : Addr) : Heap := (m1 h a).push { cls := .type "list_iterator", data := .fields #[.ref b, .int 0 0] }
def m3 (h : Heap) (a b : Addr) : Heap := (m2 h a b).push { cls := .type "tuple", data := .seq #[.ref h.objs.size, .ref (m1 h a).objs.size] }
def m4 (h : Heap) (a b : Addr) : Heap := (m3 h a b).push { cls := .type "tuple", data := .seq #[.none, .none] }
def m5 (h : Heap) (a b : Addr) : Heap := (m4 h a b).push { cls := .type "zip", data := .fields #[.none, .bool false, .bool false, .ref (m2 h a b).objs.size, .ref (m3 h a b).objs.size] }
theorem made (a b : Addr) (xs ys : Array Value) : Meets (Builtin.«zip.__new__» ⟨[.type "zip", .ref a, .ref b], []⟩) (fun _ R s => s.heap.IsTuple a xs ∧ s.heap.IsList b ys ∧ R (.ok (.ret (.ref (m4 s.heap a b).objs.size))) { s with heap := m5 s.heap a b }) :=
  .of_wp fun pr wo Ar R s k => by
    obtain ⟨hp, g, d, tk, os⟩ := s
    obtain ⟨ta, lb, k⟩ := k
    have hsub := sub_zip
    have t1 : Heap.IsTuple (Shared.heap ⟨hp, g, d, tk, os⟩) a xs := ta
    have t2 : Heap.IsList (Shared.heap ⟨hp.push { cls := .type "tuple_iterator", data := .fields #[.ref a, .int 0 0] }, g, d, tk, os⟩) b ys := Heap.IsList.push lb _
    wp_walk using wpAny_pyIter_tuple t1, wpAny_pyIter_list t2
    exact ⟨_, rfl, k⟩
theorem calls {pr : Program} {wo : World} {Ar : Around} {Ex : Value → Shared → Prop} {st : Shared} {a b : Addr} {xs ys : Array Value} {G : Value → Shared → Prop} (ta : st.heap.IsTuple a xs) (lb : st.heap.IsList b ys)
    (k : ∀ h', At h' (st.heap.objs.size + 4) (st.heap.objs.size + 2) (st.heap.objs.size + 3) st.heap.objs.size (st.heap.objs.size + 1) a b 0 0 → (∀ c o, st.heap.get? c = some o → h'.get? c = some o) → G (.ref (st.heap.objs.size + 4)) { st with heap := h' }) : wpAny (model pr wo) Ar (call (.type "zip") [.ref a, .ref b]) G Ex st := by
  refine callType_new F.called_zip (by decide) (F.typeCall_zip_2 _ _) (F.newCall_zip_2 _ _) (fun obj => F.args_object_init_3 obj _ _) F.entry_zip_new (made a b xs ys) ⟨ta, lb, ?_⟩
  have n1 : (m1 st.heap a).objs.size = st.heap.objs.size + 1 := Heap.size_push ..
  have n2 : (m2 st.heap a b).objs.size = st.heap.objs.size + 2 := by unfold m2; rw [Heap.size_push, n1]
  have n3 : (m3 st.heap a b).objs.size = st.heap.objs.size + 3 := by unfold m3; rw [Heap.size_push, n2]
  have n4 : (m4 st.heap a b).objs.size = st.heap.objs.size + 4 := by unfold m4; rw [Heap.size_push, n3]
  have u5 : (m5 st.heap a b).get? (m4 st.heap a b).objs.size = some _ := Heap.get?_push_size _ rfl
  have u4 : (m5 st.heap a b).get? (m3 st.heap a b).objs.size = some _ := Heap.get?_push_of_some _ (Heap.get?_push_size _ rfl)
  have u3 : (m5 st.heap a b).get? (m2 st.heap a b).objs.size = some _ := Heap.get?_push_of_some _ (Heap.get?_push_of_some _ (Heap.get?_push_size _ rfl))
  have u2 : (m5 st.heap a b).get? (m1 st.heap a).objs.size = some _ := Heap.get?_push_of_some _ (Heap.get?_push_of_some _ (Heap.get?_push_of_some _ (Heap.get?_push_size _ rfl)))
  have u1 : (m5 st.heap a b).get? st.heap.objs.size = some _ := Heap.get?_push_of_some _ (Heap.get?_push_of_some _ (Heap.get?_push_of_some _ (Heap.get?_push_of_some _ (Heap.get?_push_size _ rfl))))
  show _ ∧ _
  rw [n2, n3, n4] at u5
  rw [n1, n2] at u3
  rw [n3] at u4
  rw [n1] at u2
  rw [n4]
  exact ⟨⟨_, u5, rfl⟩, k _ ⟨u5, u3, ⟨_, _, u4⟩, ⟨_, u1, rfl, rfl⟩, ⟨_, u2, rfl, rfl⟩⟩ fun c o t => Heap.get?_push_of_some _ (Heap.get?_push_of_some _ (Heap.get?_push_of_some _ (Heap.get?_push_of_some _ (Heap.get?_push_of_some _ t))))⟩
/-- the tuple at a and the list at b as they stand at each turn, the items in new pairs -/
def ItM (K : PySem.W.Frag) (a b : Addr) : It :=
  ⟨fun i H => ∃ (xs ys : List V) (x y : V), SqT K H a xs ∧ SqL K H b ys ∧ xs[i]? = some x ∧ ys[i]? = some y, fun i H v H' => ∃ t x y, v = .ref t ∧ H t = none ∧ H' = upd H t (.tup [x, y]) ∧ (∀ xs, SqT K H a xs → xs[i]? = some x) ∧ ∀ ys, SqL K H b ys → ys[i]? = some y,
    fun i H => ∃ xs ys : List V, SqT K H a xs ∧ SqL K H b ys ∧ (xs.length ≤ i ∨ ys.length ≤ i)⟩
theorem five {z I O p q c : Addr} (h : c ∈ [z, I, O, p, q]) : c = z ∨ c = I ∨ c = O ∨ c = p ∨ c = q := by simpa using h
theorem turn {P : Program} {w : World} {K : PySem.W.Frag} {elts : List Expr} {kk : Nat} {tpos : Pos} {a b z I O p q : Addr} (D : ZipApart z I O p q a b) : Turn P w K (.Tuple elts kk tpos) (ItM K a b) [z, I, O, p, q] z (fun i h => At h z I O p q a b i i) where
  mem := by simp
  obj := fun i h W c hc => by
    obtain ⟨kz, kI, ⟨u, v, kO⟩, ⟨o1, e1, _, d1⟩, ⟨o2, e2, _, d2⟩⟩ := W
    rcases five hc with rfl | rfl | rfl | rfl | rfl
    · exact ⟨_, kz, fun v t => nomatch t⟩
    · exact ⟨_, kI, fun v t => nomatch t⟩
    · exact ⟨_, kO, fun v t => nomatch t⟩
    · exact ⟨o1, e1, fun v t => by rw [d1] at t; cases t⟩
    · exact ⟨o2, e2, fun v t => by rw [d2] at t; cases t⟩
  keep := fun i h h' W k => by
    obtain ⟨kz, kI, ⟨u, v, kO⟩, kp, kq⟩ := W
    exact ⟨k z (by simp) _ kz, k I (by simp) _ kI, ⟨u, v, k O (by simp) _ kO⟩, kp.at fun o t => k p (by simp) o t, kq.at fun o t => k q (by simp) o t⟩
  item := by
    intro X hP hw hK hc i pins s σ H E In hf W hg
    subst hP hw hK
    obtain ⟨xs, ys, x, y, qx, qy, ex, ey⟩ := hg
    obtain ⟨its, rv, ta, _⟩ := In.tuple qx
    obtain ⟨jts, rw', lb, _⟩ := In.list qy
    obtain ⟨u, hu, ru⟩ := rv.get ex
    obtain ⟨v, hv, rv'⟩ := rw'.get ey
    have lz : z < s.heap.objs.size := Heap.lt_size W.z
    have kI := W.I
    have lim : ∀ {c : Addr}, c ∈ [z, I, O, p, q] → c < s.heap.objs.size := fun {c} hm => by
      obtain ⟨_, _, ⟨_, _, kO⟩, ⟨_, e1, _⟩, ⟨_, e2, _⟩⟩ := id W
      rcases five hm with rfl | rfl | rfl | rfl | rfl
      · exact lz
      · exact Heap.lt_size kI
      · exact Heap.lt_size kO
      · exact Heap.lt_size e1
      · exact Heap.lt_size e2
    refine nextGo D W ta lb.isList (x := u) (y := v) (by simpa using hu) (by simpa using hv) fun h' zz OO pp qq TT sz off => ?_
    refine ⟨_, rfl, wpAny_letOwnedTupleGo_zip (s := { s with heap := h' }) zz fun h2 z2 sb => ?_⟩
    have T2 : h2.get? s.heap.objs.size = some { cls := .type "tuple", data := .seq #[u, v] } := (sb.2 _ (Nat.ne_of_gt lz)).trans TT
    have new : ObjOk X.prog X.w (upd H s.heap.objs.size (.tup [x, y])) h2 s.heap.objs.size (.tup [x, y]) := ⟨by show 2 ≤ sizeLine; decide, [u, v], .cons ru (.cons rv' .nil), ⟨_, T2, rfl, _, rfl⟩⟩
    have stays : ∀ c o, c ∉ [z, I, O, p, q] → s.heap.get? c = some o → h2.get? c = some o := fun c o hb t => (sb.2 c fun e => hb (by simp [e])).trans (off c o (fun e => hb (by simp [e])) (fun e => hb (by simp [e])) (fun e => hb (by simp [e])) (fun e => hb (by simp [e])) t)
    have I1 : Inv X pins σ (upd H s.heap.objs.size (.tup [x, y])) { s with heap := h2 } := In.turnedNew (t' := s.toks) (ch := [z, I, O, p, q]) stays hf (Nat.le_refl _) new
    refine ⟨.ref s.heap.objs.size, _, I1, rfl, ⟨_, x, y, rfl, In.hok.fresh (Nat.le_refl _), rfl, fun l hl => by rw [In.tuple_inj hl qx]; exact ex, fun l hl => by rw [In.list_inj hl qy]; exact ey⟩, ⟨z2, (sb.2 _ D.TIz).trans (off _ _ D.TIz D.TITO D.TIi1 D.TIi2 kI), ⟨u, v, (sb.2 _ D.TOz).trans OO⟩, pp.at fun o t => (sb.2 _ D.i1z).trans t, qq.at fun o t => (sb.2 _ D.i2z).trans t⟩, fun c hm => ?_⟩
    rw [upd_ne (Nat.ne_of_lt (lim hm))]
    exact (hf c hm).1
  done := by
    intro X hP hw hK hc i pins s σ H E In hf W hg
    subst hP hw hK
    obtain ⟨xs, ys, qx, qy, en⟩ := hg
    obtain ⟨its, rv, ta, _⟩ := In.tuple qx
    obtain ⟨jts, rw', lb, _⟩ := In.list qy
    have l1 := rv.length
    have l2 := rw'.length
    refine nextStop (In.ok.hd hc) D W ta lb.isList (en.elim (fun t => .inl (by simp; omega)) fun t => .inr (by simp; omega)) fun h' off => ⟨rfl, In.turnedL (t' := s.toks) (ch := [z, I, O, p, q]) (fun c o hb t => off c o (fun e => hb (by simp [e])) (fun e => hb (by simp [e])) (fun e => hb (by simp [e])) (fun e => hb (by simp [e])) t) hf⟩
  self := fun A i s Q E W h => wpAny_pyIter_zip W.z h
/-- zip of a list and a list, or of a tuple and a list -/
def iZipM (K : PySem.W.Frag) (ta : TA) : TI := fun σ H R => ta σ H fun vs H1 => ∃ a b xs ys, vs = [.ref a, .ref b] ∧ SqL K H1 b ys ∧ ((SqL K H1 a xs ∧ R (Itz K a b) H1) ∨ (SqT K H1 a xs ∧ R (ItM K a b) H1))
theorem pi_zipM {X : Cx} {e e2 : Expr} {ta : TA} {p pos tpos : Pos} {elts : List Expr} {kk : Nat} (hg : Gl X "zip") (hm : X.mg "zip" = none) (ha : PA X [e, e2] ta) (hs : starEach [e, e2] X.env = (false, eval e X.env) :: starEach [e2] X.env := by rfl)
    (hpl : (backTo pos (starEach [e2] X.env)).any (·.1) = false := by rfl) : PI X (.Tuple elts kk tpos) (.Call (.Name "zip" p) [e, e2] [] pos) (iZipM X.K ta) := by
  have l := pi_zip (tpos := tpos) (elts := elts) (kk := kk) (p := p) (pos := pos) hg hm ha hs hpl
  refine ⟨fun pins s σ H R In h => ?_⟩
  refine Call_ (ld_blt In hg hm PyProof.Rows.boot_zip (PyProof.Rows.callWith_type1 (thn (ha.run pos pins s σ H _ In h) fun us s1 ⟨vs, H1, I1, r1, a, b, xs, ys, ev, qb, qq⟩ => ?_) hs hpl))
  subst ev
  cases r1 with
  | cons r rr =>
    cases rr with
    | cons r' rr =>
      cases rr
      cases r
      cases r'
      have new5 : ∀ c, c ∈ [s1.heap.objs.size + 4, s1.heap.objs.size + 2, s1.heap.objs.size + 3, s1.heap.objs.size, s1.heap.objs.size + 1] → FpOk X pins H1 c := fun c hm => by
        have hle : s1.heap.objs.size ≤ c := by
          rcases five hm with t | t | t | t | t <;> (rw [t]; first | exact Nat.le_add_right _ _ | exact Nat.le_refl _)
        exact I1.fpOk hle (I1.hok.fresh hle)
      obtain ⟨jts, rw', lb, _⟩ := I1.list qb
      rcases qq with ⟨qa, q⟩ | ⟨qa, q⟩
      · obtain ⟨its, rv, la, _⟩ := I1.list qa
        refine call_zip_2 la.isList lb.isList fun h' hz hI hO h1 h2 _ hk => wpAny_pyIter_zip hz ?_
        exact ⟨s1.heap.objs.size + 4, [s1.heap.objs.size + 4, s1.heap.objs.size + 2, s1.heap.objs.size + 3, s1.heap.objs.size, s1.heap.objs.size + 1], _, _, H1, rfl, I1.kept (t' := s1.toks) hk, turn_zip (PySem.W.ktu_apart s1.heap.objs.size a b la.lt lb.lt), ⟨hz, hI, ⟨_, _, hO⟩, h1, h2⟩, new5, q⟩
      · obtain ⟨its, rv, ta', _⟩ := I1.tuple qa
        obtain ⟨o1, ho1, _⟩ := id ta'
        refine calls (show s1.heap.IsTuple a its.toArray from ta') lb.isList fun h' W hk => wpAny_pyIter_zip W.z ?_
        exact ⟨s1.heap.objs.size + 4, [s1.heap.objs.size + 4, s1.heap.objs.size + 2, s1.heap.objs.size + 3, s1.heap.objs.size, s1.heap.objs.size + 1], _, _, H1, rfl, I1.kept (t' := s1.toks) hk, turn (PySem.W.ktu_apart s1.heap.objs.size a b (Heap.lt_size ho1) lb.lt), W, new5, q⟩
section
variable {K : PySem.W.Frag} {a b : Addr} {xs ys : List V}
theorem walk_zL (hl : xs.length = ys.length) : Walk (Itz K a b) xs.length (fun H => SqL K H a xs ∧ SqL K H b ys) (YPair (xs[·]?) (ys[·]?)) :=
  ⟨fun i _ hi q => ⟨xs, ys, xs[i], ys[i]'(by omega), q.1, q.2, by simp [hi], by rw [List.getElem?_eq_getElem (by omega)]⟩, fun _ q => ⟨xs, ys, q.1, q.2, .inl (Nat.le_refl _)⟩, fun _ _ _ _ _ q ⟨t, x, y, e, n, eh, hx, hy⟩ => ⟨t, x, y, e, n, eh, hx _ q.1, hy _ q.2⟩⟩
theorem walk_zM (hl : xs.length = ys.length) : Walk (ItM K a b) xs.length (fun H => SqT K H a xs ∧ SqL K H b ys) (YPair (xs[·]?) (ys[·]?)) :=
  ⟨fun i _ hi q => ⟨xs, ys, xs[i], ys[i]'(by omega), q.1, q.2, by simp [hi], by rw [List.getElem?_eq_getElem (by omega)]⟩, fun _ q => ⟨xs, ys, q.1, q.2, .inl (Nat.le_refl _)⟩, fun _ _ _ _ _ q ⟨t, x, y, e, n, eh, hx, hy⟩ => ⟨t, x, y, e, n, eh, hx _ q.1, hy _ q.2⟩⟩
end
end ZM
set_option Elab.async false
set_option linter.all false
set_option maxRecDepth 100000
set_option maxHeartbeats 4000000
namespace K0
open PySem PySem.Spec PyProof.Rows L2
/-! ### rows of webs -/
inductive WsAt (C : Addr) (H : Hp) : List V → List Wb → Prop where
  | nil : WsAt C H [] []
  | cons {p : Addr} {n : Int} {q : List Pr} {xs : List V} {ws : List Wb} (h : WebAt C H p n q) (t : WsAt C H xs ws) : WsAt C H (.ref p :: xs) ((n, q) :: ws)
theorem WsAt.mono {C : Addr} {H H' : Hp} (s : Same H H') : ∀ {xs ws}, WsAt C H xs ws → WsAt C H' xs ws
  | _, _, .nil => .nil
  | _, _, .cons h t => .cons (h.mono s) (t.mono s)
theorem WsAt.len {C : Addr} {H : Hp} : ∀ {xs ws}, WsAt C H xs ws → xs.length = ws.length
  | _, _, .nil => rfl
  | _, _, .cons _ t => congrArg (· + 1) t.len
theorem WsAt.at {C : Addr} {H : Hp} : ∀ {xs ws} {i : Nat} {v : V}, WsAt C H xs ws → xs[i]? = some v → ∃ p, v = .ref p ∧ WebAt C H p (nW ws i) (qW ws i)
  | _, _, _, _, .nil, e => by simp at e
  | _, _, 0, _, .cons h _, e => by
    have z := Option.some.inj e
    subst z
    exact ⟨_, rfl, h⟩
  | _, _, i + 1, _, .cons _ t, e => WsAt.at (i := i) t e
theorem WsAt.wbs {C : Addr} {H : Hp} : ∀ {xs ws}, WsAt C H xs ws → Wbs ws
  | _, _, .nil => ⟨fun w h => (by cases h), fun w h => (by cases h)⟩
  | _, _, .cons h t => ⟨fun w hw => (by
      rcases List.mem_cons.mp hw with e | hw
      · rw [e]; exact h.n0
      · exact t.wbs.n0 w hw), fun w hw => (by
      rcases List.mem_cons.mp hw with e | hw
      · rw [e]; exact h.cl
      · exact t.wbs.cl w hw)⟩
theorem WsAt.drop {C : Addr} {H : Hp} : ∀ {xs ws} (k : Nat), WsAt C H xs ws → WsAt C H (xs.drop k) (ws.drop k)
  | _, _, 0, h => h
  | _, _, _ + 1, .nil => .nil
  | _, _, k + 1, .cons _ t => t.drop k
theorem WsAt.take {C : Addr} {H : Hp} : ∀ {xs ws} (k : Nat), WsAt C H xs ws → WsAt C H (xs.take k) (ws.take k)
  | _, _, 0, h => .nil
  | _, _, _ + 1, .nil => .nil
  | _, _, k + 1, .cons h t => .cons h (t.take k)
theorem WsAt.app {C : Addr} {H : Hp} : ∀ {xs ys ws vs}, WsAt C H xs ws → WsAt C H ys vs → WsAt C H (xs ++ ys) (ws ++ vs)
  | _, _, _, _, .nil, h => h
  | _, _, _, _, .cons a t, h => .cons a (t.app h)
/-- a list or a tuple of webs -/
def WsQ (C : Addr) (H : Hp) (a : Addr) (ws : List Wb) : Prop := ∃ xs, (H a = some (.lst xs) ∨ H a = some (.tup xs)) ∧ WsAt C H xs ws
theorem WsQ.mono {C : Addr} {H H' : Hp} (s : Same H H') {a : Addr} {ws : List Wb} : WsQ C H a ws → WsQ C H' a ws := fun ⟨xs, h, w⟩ => ⟨xs, h.elim (fun z => .inl (s _ _ z)) fun z => .inr (s _ _ z), w.mono s⟩
def fsL (ws : List Wb) (k : Nat) : List Int := (List.range k).map (fW ws)
theorem fsL_succ (ws : List Wb) (k : Nat) : fsL ws (k + 1) = fsL ws k ++ [fW ws k] := by
  unfold fsL
  rw [List.range_succ, List.map_append]
  rfl
theorem fsL_len (ws : List Wb) (k : Nat) : (fsL ws k).length = k := by unfold fsL; rw [List.length_map, List.length_range]
theorem fsL_at {ws : List Wb} {k v : Nat} (h : v < k) : (fsL ws k)[v]? = some (fW ws v) := by
  unfold fsL
  rw [List.getElem?_map, List.getElem?_range h]
  rfl
section
variable {P : Program} {w : World} {K : PySem.W.Frag} {mg : Str → Option Value} {base : Heap} {f : Addr} {fd : FuncData}
abbrev s_fn : Stmt := top 26
structure Blt3 (mg : Str → Option Value) : Prop extends Blt2 mg where
  sum : mg "sum" = none
  zip : mg "zip" = none
/-- first_numbers -/
def spFn (C : Addr) : Sp := fun vs H Q _ => ∃ (a : Addr) (ws : List Wb), vs = [.ref a] ∧ WsQ C H a ws ∧ ws.length ≤ 1000 ∧ ∀ H' r, Same H H' → H r = none → H' r = some (.lst ((fsL ws ws.length).map V.int)) → Q (.ref r) H'
theorem sc_fn : FnScope ["webs", "v", "web"] ["webs"] (defScope s_fn) := ⟨rfl, rfl, rfl, by decide +kernel, rfl, by decide +kernel, by decide +kernel⟩
theorem wnum {C : Addr} {H : Hp} {ws : List Wb} {xs : List V} (h : WsAt C H xs ws) {i : Nat} {x : V} (hx : xs[i]? = some x) : (ws.map (·.1)).take (i + 1) = (ws.map (·.1)).take i ++ [nW ws i] := by
  have hl := h.len
  have hi : i < ws.length := by
    rw [← hl]
    exact (List.getElem?_eq_some_iff.mp hx).1
  rw [List.take_succ, List.getElem?_map, List.getElem?_eq_getElem hi]
  unfold nW
  rw [List.getD_eq_getElem?_getD, List.getElem?_eq_getElem hi]
  rfl
/-- a block within a block that reads no name from around it -/
theorem blkOk_nf {N : List Str} {sc scope : Scope} {own : List (Str × Nat)} (h : blkC N scope scope own = true) (nf : (scope.names.all fun y => match y.2 with | .free => false | _ => true) = true) : BlkOk N sc scope own := by
  have b := blkOk_by h
  refine ⟨b.kind, b.uniq, b.ix, fun y hy e => ?_, b.own⟩
  have := List.all_eq_true.mp nf y hy
  rw [e] at this
  cases this
theorem ok_fn {C : Addr} (F : Fun K "first_numbers" "first_numbers" s_fn f fd) (B : Blt3 mg) (T : WebC K C) : FnOk P w K mg base (L2.CX P w) 1 f fd ["webs"] (spFn C) := by
  refine F.okX sc_fn (fun vs H Q E h => ?_) (fun cdv A outer s H vs Q E hr h => ?_)
  · obtain ⟨a, ws, rfl, _⟩ := h
    rfl
  · obtain ⟨a, ws, rfl, ⟨xs, ha, hw⟩, few, k⟩ := h
    have nd := sc_fn.nd
    have hl := hw.len
    let rSl : V → Option Int → Option Int → Hp → VK → Prop := fun x lo hi H Q => rSlL K x lo hi H Q ∨ rSlT K x lo hi H Q
    let tS : TE := tSl rSl (tVar 0) tNoPart (tPart (tVar 1))
    let tE : TE := tCB (rSum K) (tCons (tLc (fun σ H R => iList K tS σ H R ∨ iTup K tS σ H R) (gName 2) tYes (tFld K (tVar 2) "many") [2]) tNil)
    refine ⟨_, pss_one (ps_ret (pe_lc (own := [("v", 1)]) (g := gName 1) (tt := tYes) (te := tE) rfl nd
      (pi_range1 (by rfl) B.range (pa_cons (pe_callB c_len (by rfl) B.len PySem.boot_len (pa_cons (pv 0) pa_nil)) pa_nil)) (blkOk_by (N := ["webs", "v", "web"]) (sc := defScope s_fn) (by decide +kernel)) (fun _ _ _ _ _ => pg_name (i := 1) nd rfl (.inl rfl)) (fun _ _ _ _ _ => pts_nil)
      (fun _ _ _ _ _ => pe_callB (cr_sum rfl) (by rfl) B.sum (by decide +kernel) (pa_cons (pe_lc (own := [("web", 2)]) (g := gName 2) (tt := tYes) (te := tFld K (tVar 2) "many") rfl nd (pi_or (pi_list (pe_slice (SlR.or sl_list sl_tup) (pv 0) po_none (po_some (pv 1)))) (pi_tup (pe_slice (SlR.or sl_list sl_tup) (pv 0) po_none (po_some (pv 1)))))
        (blkOk_nf (N := ["webs", "v", "web"]) (by decide +kernel) (by decide +kernel)) (fun _ _ _ _ _ => pg_name (i := 2) nd rfl (.inl rfl)) (fun _ _ _ _ _ => pts_nil) (fun _ _ _ _ _ => pe_fld (pv 2) rfl)) pa_nil)))), ?_⟩
    have sq : ∀ {H'}, Same H H' → SqL K H' a xs ∨ SqT K H' a xs := fun {H'} s => ha.elim (fun z => .inl (SqL.of (s _ _ z))) fun z => .inr (SqT.of (s _ _ z))
    have el : ∀ (i : Nat) (H' : Hp) (Q : VK), i < xs.length → Same H H' → (∀ H2, Same H' H2 → Q (.int (fW ws i)) H2) → tE [some (.ref a), some (.int (i : Int)), none] H' Q := fun i H' Q hi sm q => by
      have cut : cutV xs none (some (i : Int)) = xs.take i := cut_take xs i
      have lt : (xs.take i).length = i := by rw [List.length_take]; omega
      have body : ∀ {H2 H3 H4 : Hp} {D2 : Addr} {j : Nat} {x : V}, Same H' H2 → H2 D2 = none → j < (xs.take i).length → Same H2 H3 ∧ H3 D2 = some (.lst (((ws.map (·.1)).take j).map V.int)) → YAt (xs.take i) j H3 x H4 →
          gName 2 x [some (.ref a), some (.int (i : Int)), none] H4 fun σ2 H5 => wipe σ2 [2] = [some (.ref a), some (.int (i : Int)), none] ∧ tFld K (tVar 2) "many" σ2 H5 fun y H6 => ∃ acc, H6 D2 = some (.lst acc) ∧ acc.length < sizeLine ∧ Same H2 (upd H6 D2 (.lst (acc ++ [y]))) ∧ (upd H6 D2 (.lst (acc ++ [y]))) D2 = some (.lst (((ws.map (·.1)).take (j + 1)).map V.int)) := fun {H2 H3 H4 D2 j x} s2 n2 hj z y => by
        obtain ⟨rfl, hx⟩ := y
        obtain ⟨s3, hD2⟩ := z
        rw [List.getElem?_take] at hx
        split at hx
        case isFalse => cases hx
        case isTrue hji =>
          obtain ⟨p, rfl, Wp⟩ := (hw.mono (sm.trans (s2.trans s3))).at hx
          obtain ⟨⟨dx, c', m', l', h1, _⟩, _⟩ := id Wp
          refine ⟨rfl, _, rfl, p, C, dx, _, _, rfl, h1, T.cl, T.nm, wf_many _ _ _, _, hD2, ?_, same_keep n2 s3, ?_⟩
          · rw [List.length_map, List.length_take, List.length_map, sizeLine_eq]
            omega
          · rw [upd_same, wnum hw hx, List.map_append]
            rfl
      have fin : ∀ {H2 H3 : Hp} {D2 : Addr}, Same H' H2 → H2 D2 = none → Same H2 H3 ∧ H3 D2 = some (.lst (((ws.map (·.1)).take (xs.take i).length).map V.int)) → rSum K [.ref D2] H3 Q := fun {H2 H3 D2} s2 n2 z => by
        obtain ⟨s3, hD2⟩ := z
        rw [lt] at hD2
        have e : ((ws.map (·.1)).take i).sum = fW ws i := by
          unfold fW
          rw [List.map_take]
        refine ⟨D2, _, rfl, SqL.of hD2, ?_⟩
        rw [e]
        exact q H3 (s2.trans s3)
      rcases ha with ha | ha
      · refine .inl ⟨_, rfl, _, rfl, _, rfl, .inl ⟨a, xs, rfl, SqL.of (sm _ _ ha), fun c nc => ?_⟩⟩
        rw [cut]
        have s2 : Same H' (upd H' c (.lst (xs.take i))) := same_upd nc
        refine ⟨c, rfl, ⟨_, SqL.of upd_same⟩, fun D2 n2 => ?_⟩
        exact lc_it (walk_list (K := K) (a := c) (xs := xs.take i)) (fun j H3 => Same (upd H' c (.lst (xs.take i))) H3 ∧ H3 D2 = some (.lst (((ws.map (·.1)).take j).map V.int))) ⟨same_upd n2, upd_same⟩ (fun j H3 _ z => SqL.of (z.1 _ _ upd_same)) (fun j x H3 H4 hj z y => body s2 n2 hj z y) (fun H3 z => fin s2 n2 z)
      · refine .inr ⟨_, rfl, _, rfl, _, rfl, .inr ⟨a, xs, rfl, SqT.of (sm _ _ ha), ?_, fun c nc => ?_⟩⟩
        · rintro ⟨_, e⟩
          unfold HT.sIx at e
          simp only at e
          split at e <;> omega
        rw [cut]
        have s2 : Same H' (upd H' c (.tup (xs.take i))) := same_upd nc
        refine ⟨c, rfl, ⟨_, SqT.of upd_same⟩, fun D2 n2 => ?_⟩
        exact lc_it (walk_tup (K := K) (a := c) (xs := xs.take i)) (fun j H3 => Same (upd H' c (.tup (xs.take i))) H3 ∧ H3 D2 = some (.lst (((ws.map (·.1)).take j).map V.int))) ⟨same_upd n2, upd_same⟩ (fun j H3 _ z => SqT.of (z.1 _ _ upd_same)) (fun j x H3 H4 hj z y => body s2 n2 hj z y) (fun H3 z => fin s2 n2 z)
    refine ⟨_, rfl, a, xs, rfl, sq (Same.refl _), _, rfl, by omega, by omega, fun D nD => ?_⟩
    rw [Int.toNat_natCast]
    refine lc_range (lo := 0) (n := xs.length) (fun i H' => Same H H' ∧ H' D = some (.lst ((fsL ws i).map V.int))) ⟨same_upd nD, upd_same⟩ (fun i H' hi ⟨sm, hD⟩ => ?_) (fun H' ⟨sm, hD⟩ => ?_)
    · refine ⟨rfl, ?_⟩
      rw [Int.zero_add]
      refine el i H' _ hi sm fun H2 s2 => ⟨_, s2 _ _ hD, ?_, same_keep nD (sm.trans s2), ?_⟩
      · rw [List.length_map, fsL_len, sizeLine_eq]
        omega
      · rw [upd_same, fsL_succ, List.map_append]
        rfl
    · rw [hl] at hD
      exact k H' D sm nD hD
end
end K0
set_option Elab.async false
set_option linter.all false
set_option maxRecDepth 100000
set_option maxHeartbeats 4000000
namespace K0
open PySem PySem.Spec PyProof.Rows L2 ZM
section
variable {X : Cx} {o e : Expr} {es : List Expr} {to : TE} {t : TA} {apos cpos : Pos}
/-- o.extend(e) -/
theorem pe_lext (ho : PE X o to) (ha : PA X (e :: es) t) (hbase : attributeBase o "extend" X.env (eval o X.env) = eval o X.env := by rfl)
    (hfew : ((backTo cpos (starEach (e :: es) X.env)).all (fun x => !x.1) && (backToKw cpos (keywordEach [] X.env)).all (fun x => x.1.isSome) && decide ((e :: es).length + ([] : List Keyword).length + (if ([] : List Keyword).isEmpty then 0 else 1) < 30)) = true := by rfl)
    (hline : (apos.endLine == cpos.line) = true := by rfl) (hs : starEach (e :: es) X.env = (false, eval e X.env) :: starEach es X.env := by rfl) (hplain : (backTo cpos (starEach es X.env)).any (·.1) = false := by rfl) :
    PE X (.Call (.Attribute o "extend" apos) (e :: es) [] cpos) (tBM X.K "list" rExtend to t) := pe_bm PySem.F.plainAttrs_list PySem.F.slot_list_extend PySem.F.type_list_extend mt_extend ho ha hbase hfew hline hs hplain
end
/-- a loop over zip of two variables: a list or tuple, and a list -/
theorem tfor_zipM {K : PySem.W.Frag} {i j : Nat} {a b : Addr} {xs ys : List V} {g : TG} {tb : TS} {D : Ends} {σ : L2.St} {H : Hp} (hi : σ[i]? = some (some (.ref a))) (hj : σ[j]? = some (some (.ref b))) (ha : H a = some (.lst xs) ∨ H a = some (.tup xs)) (hb : H b = some (.lst ys)) (hl : xs.length = ys.length)
    (Pv : Nat → L2.St → Hp → Prop) (h0 : Pv 0 σ H) (hk : ∀ k σ H', Pv k σ H' → H' b = some (.lst ys) ∧ ∀ o, H a = some o → H' a = some o)
    (hs : ∀ k σ H2 H3 v, k < xs.length → Pv k σ H2 → YPair (xs[·]?) (ys[·]?) k H2 v H3 → g v σ H3 fun σ2 H4 => tb { D with nx := Pv (k + 1), ct := Pv (k + 1), bk := D.nx } σ2 H4) (hd : ∀ σ H', Pv xs.length σ H' → D.nx σ H') :
    tFor (iZipM K (tCons (tVar i) (tCons (tVar j) tNil))) g tb D σ H := by
  refine ⟨_, hi, _, hj, a, b, xs, ys, rfl, SqL.of hb, ?_⟩
  rcases ha with ha | ha
  · exact .inl ⟨SqL.of ha, for_it (walk_zL hl) Pv h0 (fun k σ H' _ p => ⟨SqL.of ((hk k σ H' p).2 _ ha), SqL.of (hk k σ H' p).1⟩) (fun k x σ H2 H3 hi p y => hs k σ H2 H3 x hi p y) hd⟩
  · exact .inr ⟨SqT.of ha, for_it (walk_zM hl) Pv h0 (fun k σ H' _ p => ⟨SqT.of ((hk k σ H' p).2 _ ha), SqL.of (hk k σ H' p).1⟩) (fun k x σ H2 H3 hi p y => hs k σ H2 H3 x hi p y) hd⟩
/-- a list of fresh pairs behind another one -/
theorem Grow.cat {H : Hp} {D a : Addr} {rs ss : List Pr} {xs ys : List V} (g : Grow H D rs) (g' : Grow H a ss) (hx : H D = some (.lst xs)) (hy : H a = some (.lst ys)) : Grow (upd H D (.lst (xs ++ ys))) D (rs ++ ss) := by
  obtain ⟨l, h, e, p⟩ := g
  obtain ⟨l', h', e', p'⟩ := g'
  rw [h] at hx
  cases hx
  rw [h'] at hy
  cases hy
  refine ⟨l ++ l', by rw [upd_same, List.map_append], by rw [List.map_append, e, e'], fun z hz => ?_⟩
  have hz2 : H z.1 = some (.tup [.int z.2.1, .int z.2.2]) := (List.mem_append.mp hz).elim (p z) (p' z)
  have zD : z.1 ≠ D := fun e => by
    rw [e, h] at hz2
    cases hz2
  rw [upd_ne zD]
  exact hz2
theorem inL_succ (ws : List Wb) (k : Nat) : inL ws (k + 1) = inL ws k ++ shf (qW ws k) (fW ws k) := by
  unfold inL
  rw [List.range_succ, List.flatMap_append]
  simp
theorem acL_snoc {Q : List Pr} {ws : List Wb} {j : Nat} {e : Pr} (h : Q[j]? = some e) : acL (Q.take (j + 1)) ws = acL (Q.take j) ws ++ gr ws e := by
  unfold acL
  rw [take_at h, List.flatMap_append]
  simp
theorem pre_len {l m : List Pr} {n : Nat} (h : (l ++ m).length ≤ n) : l.length ≤ n := by rw [List.length_append] at h; omega
theorem flat_take_le {α β : Type} (l : List α) (f : α → List β) (j : Nat) : ((l.take j).flatMap f).length ≤ (l.flatMap f).length := by
  have e : l.flatMap f = (l.take j).flatMap f ++ (l.drop j).flatMap f := by rw [← List.flatMap_append, List.take_append_drop]
  rw [e, List.length_append]
  exact Nat.le_add_right _ _
section
variable {P : Program} {w : World} {K : PySem.W.Frag} {mg : Str → Option Value} {base : Heap} {f : Addr} {fd : FuncData}
abbrev s_pi : Stmt := top 27
/-- put_in -/
def spPi (K : PySem.W.Frag) (C CN : Addr) : Sp := fun vs H Q E => ∃ (p a : Addr) (n : Int) (q : List Pr) (ws : List Wb), vs = [.ref p, .ref a] ∧ WebAt C H p n q ∧ WsQ C H a ws ∧ ws.length ≤ 1000 ∧
  ((ws.length : Int) ≠ n → Rz CN [("name", .str "webs")] H E) ∧
  ((ws.length : Int) = n → tot ws ≤ 16 ∧ (putL q ws).length ≤ 62 ∧ ∀ H' r q', Same H H' → H r = none → IsPut q ws q' → WebAt C (New H H') r (tot ws) q' → Q (.ref r) H')
theorem sc_pi : FnScope ["outer", "webs", "firsts", "pairs", "web", "first", "u", "v", "x", "y"] ["outer", "webs"] (defScope s_pi) := ⟨rfl, rfl, rfl, by decide +kernel, rfl, by decide +kernel, by decide +kernel⟩
theorem ok_pi {C CN CW : Addr} (F : Fun K "put_in" "put_in" s_pi f fd) (B : Blt3 mg) (T : WebC K C) (WK : WebK P w K mg base C CN CW) (EN : Er P w K mg base "BadNumber" CN ["name"] ["self", "name"] (spE1 CN "name")) (FN : Df P w K mg base "first_numbers" 1 ["webs"] (spFn C)) (SH : Df P w K mg base "shifted" 1 ["pairs", "step"] spShf) :
    FnOk P w K mg base (L2.CX P w) 6 f fd ["outer", "webs"] (spPi K C CN) := by
  refine F.okX sc_pi (fun vs H Q E h => ?_) (fun cdv A outer s H vs Q E hr h => ?_)
  · obtain ⟨p, a, n, q, ws, rfl, _⟩ := h
    rfl
  · obtain ⟨p, a, n, q, ws, rfl, W, ⟨xs, ha, hw⟩, few, kE, kQ⟩ := h
    obtain ⟨ddx, c, m, cs, h1, h2, h3⟩ := W.tuple
    have nd := sc_pi.nd
    have hl := hw.len
    have r1 : Room 1 _ := hr.mono (by decide)
    have r2 : Room 2 _ := hr.mono (by decide)
    have sq : ∀ {H'}, Same H H' → SqL K H' a xs ∨ SqT K H' a xs := fun {H'} s => ha.elim (fun z => .inl (SqL.of (s _ _ z))) fun z => .inr (SqT.of (s _ _ z))
    let rIx : R2 := fun x y H Q => rIxL K x y H Q ∨ rIxT K x y H Q
    let tW7 : TE := tFld K (tOp rIx (tVar 1) (tVar 7)) "many"
    let tE : TE := tTup (tCons (tOp rAddI (tOp (rIxL K) (tVar 2) (tVar 6)) (tVar 8)) (tCons (tOp rAddI (tOp (rIxL K) (tVar 2) (tVar 7)) (tVar 9)) tNil))
    refine ⟨_, pss_cons (ps_if (pt_cmpR op_ne (pe_callB c_len (by rfl) B.len PySem.boot_len (pa_cons (pv 1) pa_nil)) (pe_fld (pv 0) rfl) (by rfl)) (pss_one (ps_rz1 rfl (takes_of rfl rfl rfl rfl) EN r2 (by rfl) pe_str (mono_c _))) pss_nil)
      (pss_cons (ps_set (i := 2) nd rfl (.inr rfl) (pe_df FN r1 (by rfl) passUp (pa_cons (pv 1) pa_nil)))
      (pss_cons (ps_set (i := 3) nd rfl (.inl rfl) (pe_lst pa_nil))
      (pss_cons (ps_for (passes_of rfl) rfl (pi_zipM (by rfl) B.zip (pa_cons (pv 1) (pa_cons (pv 2) pa_nil))) (pg_tup rfl (pgs_cons (pg_name (i := 4) nd rfl (.inl rfl)) (pgs_cons (pg_name (i := 5) nd rfl (.inl rfl)) pgs_nil)))
        (pss_one (ps_expr (pe_lext (pv 3) (pa_cons (pe_df SH r1 (by rfl) passUp (pa_cons (pe_fld (pv 4) rfl) (pa_cons (pv 5) pa_nil))) pa_nil)))))
      (pss_cons (ps_for (passes_of rfl) rfl (pi_tup (pe_fld (pv 0) rfl)) (pg_tup rfl (pgs_cons (pg_name (i := 6) nd rfl (.inr rfl)) (pgs_cons (pg_name (i := 7) nd rfl (.inr rfl)) pgs_nil)))
        (pss_one (ps_expr (pe_lext (pv 3) (pa_cons (pe_lc2 (own := [("x", 8), ("y", 9)]) (vs1 := [9]) (g := gName 8) (g1 := gName 9) (tt := tYes) (tt1 := tYes) (wi1 := iRng1 (tCons tW7 tNil)) (te := tE) rfl nd
          (pi_range1 (by rfl) B.range (pa_cons (pe_fld (pe_ix (IxR.or ix_list ix_tup) (pv 1) (pv 6) (fun _ _ => rfl)) rfl) pa_nil)) (blkOk_by (N := ["outer", "webs", "firsts", "pairs", "web", "first", "u", "v", "x", "y"]) (sc := defScope s_pi) (by decide +kernel)) (by decide)
          (fun _ _ _ _ _ => pg_name (i := 8) nd rfl (.inl rfl)) (fun _ _ _ _ _ => pts_nil)
          (fun _ _ _ _ _ => pi_range1 (by rfl) B.range (pa_cons (pe_fld (pe_ix (IxR.or ix_list ix_tup) (pv 1) (pv 7) (fun _ _ => rfl)) rfl) pa_nil)) (fun _ _ _ _ _ => pg_name (i := 9) nd rfl (.inl rfl)) (fun _ _ _ _ _ => pts_nil)
          (fun _ _ _ _ _ => pe_tup (pa_cons (pe_op op_add (pe_ix ix_list (pv 2) (pv 6) (fun _ _ => rfl)) (pv 8)) (pa_cons (pe_op op_add (pe_ix ix_list (pv 2) (pv 7) (fun _ _ => rfl)) (pv 9)) pa_nil)))) pa_nil)))))
      (pss_one (ps_ret (pe_web WK (hr.mono (by decide)) (by rfl) passUp (pa_cons (pe_callB (cr_sum rfl) (by rfl) B.sum (by decide +kernel) (pa_cons (pe_lc (own := [("web", 4)]) (g := gName 4) (tt := tYes) (te := tFld K (tVar 4) "many") rfl nd (pi_or (pi_list (pv 1)) (pi_tup (pv 1)))
          (blkOk_by (N := ["outer", "webs", "firsts", "pairs", "web", "first", "u", "v", "x", "y"]) (sc := defScope s_pi) (by decide +kernel)) (fun _ _ _ _ _ => pg_name (i := 4) nd rfl (.inl rfl)) (fun _ _ _ _ _ => pts_nil) (fun _ _ _ _ _ => pe_fld (pv 4) rfl)) pa_nil)) (pa_cons (pv 3) pa_nil))))))))), ?_⟩
    refine ⟨_, rfl, a, xs, rfl, sq (Same.refl _), _, rfl, p, C, ddx, _, _, rfl, h1, T.cl, T.nm, wf_many _ _ _, rfl, _, rfl, ?_⟩
    rw [dec_int, hl]
    by_cases en : (ws.length : Int) = n
    case neg =>
      rw [show (!((ws.length : Int) == n)) = true by simp [en]]
      exact iteT fun d nd' => (kE en).at (Same.refl _) nd'
    case pos =>
    obtain ⟨t16, l62, k⟩ := kQ en
    rw [show (!((ws.length : Int) == n)) = false by simp [en]]
    refine iteF ?_
    have Wb' := hw.wbs
    have hQ : Cl (ws.length : Int) q := by rw [en]; exact W.cl
    have lin : (inL ws ws.length).length ≤ 62 := pre_len l62
    refine ⟨_, rfl, a, ws, rfl, ⟨xs, ha, hw⟩, few, fun H1 F' s1 nF hF => ?_⟩
    refine ⟨by show 0 ≤ sizeLine; exact Nat.zero_le _, fun D nD => ?_⟩
    have hD0 : H D = none := s1.free nD
    have s1D : Same H (upd H1 D (.lst [])) := s1.trans (same_upd nD)
    have FD : F' ≠ D := fun e => by rw [e, nD] at hF; cases hF
    let Pv : Nat → L2.St → Hp → Prop := fun i σ H' => ∃ o4 o5, σ = [some (.ref p), some (.ref a), some (.ref F'), some (.ref D), o4, o5, none, none, none, none] ∧ Same H H' ∧ H' F' = some (.lst ((fsL ws ws.length).map V.int)) ∧ Grow H' D (inL ws i)
    have start : Pv 0 [some (.ref p), some (.ref a), some (.ref F'), some (.ref D), none, none, none, none, none, none] (upd H1 D (.lst [])) := ⟨none, none, rfl, s1D, by rw [upd_ne FD]; exact hF, [], upd_same, rfl, fun z hz => by cases hz⟩
    have lenF : xs.length = ((fsL ws ws.length).map V.int).length := by rw [List.length_map, fsL_len, hl]
    have aD : a ≠ D := fun e => by
      rw [e] at ha
      rcases ha with z | z <;> rw [hD0] at z <;> cases z
    have haD : (upd H1 D (.lst [])) a = some (.lst xs) ∨ (upd H1 D (.lst [])) a = some (.tup xs) := by
      rw [upd_ne aD]
      exact ha.elim (fun z => .inl (s1 _ _ z)) fun z => .inr (s1 _ _ z)
    refine tfor_zipM rfl rfl haD (by rw [upd_ne FD]; exact hF) lenF Pv start (fun i σ H' h => ?_) (fun i σ H2 H3 v hi h y => ?_) (fun σ H2 h => ?_)
    · obtain ⟨_, _, _, sm, hF2, _⟩ := h
      refine ⟨hF2, fun o e => ?_⟩
      rw [upd_ne aD] at e
      rcases ha with z | z
      · rw [s1 _ _ z] at e
        cases e
        exact sm _ _ z
      · rw [s1 _ _ z] at e
        cases e
        exact sm _ _ z
    · obtain ⟨o4, o5, rfl, sm, hF2, g⟩ := h
      obtain ⟨t, x, y0, rfl, nt, rfl, ex, ey⟩ := y
      dsimp only at ex ey
      rw [List.getElem?_map, fsL_at (by omega)] at ey
      obtain rfl := Option.some.inj ey
      obtain ⟨pw, rfl, Wp⟩ := (hw.mono sm).at ex
      have s3 : Same H2 (upd H2 t (.tup [.ref pw, .int (fW ws i)])) := same_upd nt
      have sm3 := sm.trans s3
      refine ⟨t, _, rfl, SqT.of upd_same, rfl, _, _, rfl, _, _, rfl, rfl, ?_⟩
      obtain ⟨ddp, cp, mp, ps, k1, k2, k3⟩ := (Wp.mono s3).tuple
      obtain ⟨zs, hz, lz, _⟩ := g.at
      refine ⟨_, rfl, .inl ⟨rfl, zs, SqL.of (s3 _ _ hz)⟩, _, rfl, pw, C, ddp, _, _, rfl, k1, T.cl, T.nc, wf_clashes _ _ _, _, rfl, cp, fW ws i, qW ws i, rfl, ⟨ps, k2, k3⟩, ?_, fun H5 b s5 nb g5 => ?_⟩
      · have := (Wb'.cw i).few (by have := Wp.n8; omega)
        omega
      · obtain ⟨ys, hy, ly, _⟩ := g5.at
        have g3 := g.mono (s3.trans s5)
        refine ⟨D, b, zs, ys, rfl, rfl, (s3.trans s5) _ _ hz, hy, ?_, ?_⟩
        · have : (inL ws (i + 1)).length ≤ (inL ws ws.length).length := by
            have := flat_take_le (List.range ws.length) (fun v => shf (qW ws v) (fW ws v)) (i + 1)
            rw [List.take_range, Nat.min_eq_left (by omega)] at this
            exact this
          rw [inL_succ, List.length_append] at this
          rw [lz, ly, sizeLine_eq]
          omega
        · refine ⟨_, _, rfl, same_keep hD0 (sm3.trans s5), by rw [upd_ne FD]; exact s5 _ _ (s3 _ _ hF2), ?_⟩
          rw [inL_succ]
          exact g3.cat g5 ((s3.trans s5) _ _ hz) hy
    · obtain ⟨o4, o5, rfl, sm, hF2, g⟩ := h
      rw [hl] at g
      have l3 := h3.len
      rw [List.length_map] at l3
      -- the second loop
      let Pw : Nat → L2.St → Hp → Prop := fun j σ H' => ∃ o6 o7, σ = [some (.ref p), some (.ref a), some (.ref F'), some (.ref D), o4, o5, o6, o7, none, none] ∧ Same H H' ∧ H' F' = some (.lst ((fsL ws ws.length).map V.int)) ∧ Grow H' D (inL ws ws.length ++ acL (q.take j) ws)
      refine ⟨_, rfl, p, C, ddx, _, _, rfl, sm _ _ h1, T.cl, T.nc, wf_clashes _ _ _, c, rfl, ⟨cs, SqT.of (sm _ _ h2)⟩, for_tup (K := K) (a := c) (xs := cs) Pw ⟨none, none, rfl, sm, hF2, by simpa [acL] using g⟩ (fun j σ H' _ h => ?_) (fun j v σ H3 hj h => ?_) (fun σ H3 h => ?_)⟩
      · obtain ⟨_, _, _, sm, _⟩ := h
        exact SqT.of (sm _ _ h2)
      · obtain ⟨o6, o7, rfl, sm, hF2, g⟩ := h
        obtain ⟨e, b, he, rfl, hb⟩ := dta_map (h3.mono sm) hj
        obtain ⟨e1, e2, e3⟩ := hQ.rng e (List.mem_of_getElem? he)
        obtain ⟨eu, ev⟩ := e
        dsimp only at e1 e2 e3 hb
        obtain ⟨u, rfl⟩ := Int.eq_ofNat_of_zero_le e1
        obtain ⟨v, rfl⟩ := Int.eq_ofNat_of_zero_le (show (0 : Int) ≤ ev by omega)
        have hu : u < ws.length := by omega
        have hv : v < ws.length := by omega
        refine ⟨b, _, rfl, SqT.of hb, rfl, _, _, rfl, _, _, rfl, rfl, ?_⟩
        obtain ⟨zs, hz, lz, _⟩ := g.at
        have go : ∀ {H' : Hp} {i : Nat} {Q : VK}, Same H H' → i < ws.length → (∀ pw, WebAt C H' pw (nW ws i) (qW ws i) → Q (.ref pw) H') → rIx (.ref a) (.int (i : Int)) H' Q := fun {H' i Q} s hi q => by
          have hi2 : i < xs.length := by omega
          obtain ⟨pw, epw, Wp⟩ := (hw.mono s).at (List.getElem?_eq_getElem hi2)
          have := q pw Wp
          rw [← epw] at this
          exact ha.elim (fun z => .inl ⟨a, xs, _, _, rfl, rfl, SqL.of (s _ _ z), atI_nat (List.getElem?_eq_getElem hi2), this⟩) fun z => .inr ⟨a, xs, _, _, rfl, rfl, SqT.of (s _ _ z), atI_nat (List.getElem?_eq_getElem hi2), this⟩
        refine ⟨_, rfl, .inl ⟨rfl, zs, SqL.of hz⟩, ?_⟩
        have nu := Wb'.nn u
        have nv := Wb'.nn v
        refine ⟨_, rfl, _, rfl, go sm hu fun pu Wu => ?_⟩
        obtain ⟨ddu, cu, mu, us, k1, k2, k3⟩ := Wu.tuple
        have u16 := Wu.n8
        refine ⟨pu, C, ddu, _, _, rfl, k1, T.cl, T.nm, wf_many _ _ _, nW ws u, rfl, by omega, by omega, fun G nG => ?_⟩
        let row : Nat → List Pr := fun i => (List.range (nW ws v).toNat).map fun (y : Nat) => (fW ws u + (i : Int), fW ws v + (y : Int))
        let GG : Nat → List Pr := fun i => (List.range i).flatMap row
        have eGG : GG (nW ws u).toNat = gr ws ((u : Int), (v : Int)) := rfl
        have lenP : (inL ws ws.length ++ acL (q.take (j + 1)) ws).length ≤ 62 := by
          have := flat_take_le q (gr ws) (j + 1)
          have e : (putL q ws).length = (inL ws ws.length).length + (q.flatMap (gr ws)).length := List.length_append
          rw [List.length_append]
          show (inL ws ws.length).length + ((q.take (j + 1)).flatMap (gr ws)).length ≤ 62
          omega
        have lenG : (GG (nW ws u).toNat).length ≤ 62 := by
          rw [acL_snoc he, ← eGG] at lenP
          rw [List.length_append, List.length_append] at lenP
          omega
        have gl : ∀ {i t : Nat}, i < (nW ws u).toNat → t < (nW ws v).toNat → (GG i ++ (row i).take t).length < 63 := fun {i t} hi ht => by
          have e1 : ∀ i, (GG i).length = i * (nW ws v).toNat := fun i => by
            show ((List.range i).flatMap row).length = _
            rw [List.length_flatMap]
            have : (List.range i).map (fun x => (row x).length) = (List.range i).map fun _ => (nW ws v).toNat := List.map_congr_left fun x _ => by show (List.map _ _).length = _; rw [List.length_map, List.length_range]
            rw [this]
            exact sum_const _ _
          have e2 : (row i).length = (nW ws v).toNat := by show (List.map _ _).length = _; rw [List.length_map, List.length_range]
          rw [e1] at lenG
          rw [List.length_append, List.length_take, e1, e2]
          have : (i + 1) * (nW ws v).toNat ≤ (nW ws u).toNat * (nW ws v).toNat := Nat.mul_le_mul_right _ hi
          rw [Nat.succ_mul] at this
          omega
        have GF : ∀ {H' : Hp}, Same H3 H' → H' F' = some (.lst ((fsL ws ws.length).map V.int)) := fun s => s _ _ hF2
        have atF : ∀ {i : Nat}, i < ws.length → atI ((fsL ws ws.length).map V.int) (i : Int) = some (.int (fW ws i)) := fun {i} hi => atI_nat (by rw [List.getElem?_map, fsL_at hi]; rfl)
        have GD : G ≠ D := fun z => by rw [z, hz] at nG; cases nG
        refine itr_loop (fun i H' => Same H3 H' ∧ Grow H' G (GG i)) ⟨same_upd nG, [], upd_same, rfl, fun z hz => by cases hz⟩ (fun i H' hi h => ?_) (fun H' h => ?_)
        · obtain ⟨s4, g4⟩ := h
          rw [Int.zero_add]
          refine ⟨rfl, ?_⟩
          refine ⟨_, rfl, _, rfl, go (sm.trans s4) hv fun pv' Wv => ?_⟩
          obtain ⟨ddv, cv, mv, vs', k1', _⟩ := Wv.tuple
          have v16 := Wv.n8
          refine ⟨pv', C, ddv, _, _, rfl, k1', T.cl, T.nm, wf_many _ _ _, nW ws v, rfl, by omega, by omega, ?_⟩
          refine itr_loop (fun t H' => Same H3 H' ∧ Grow H' G (GG i ++ (row i).take t)) ⟨s4, by simpa using g4⟩ (fun t H5 ht h => ?_) (fun H5 h => ?_)
          · obtain ⟨s5, g5⟩ := h
            rw [Int.zero_add]
            refine ⟨rfl, ?_⟩
            refine ⟨_, rfl, _, rfl, F', _, _, _, rfl, rfl, SqL.of (GF s5), atF hu, _, rfl, _, _, rfl, rfl, _, rfl, _, rfl, F', _, _, _, rfl, rfl, SqL.of (GF s5), atF hv, _, rfl, _, _, rfl, rfl, (by show 2 ≤ sizeLine; decide), fun y ny => ?_⟩
            obtain ⟨as, hA, lA, _⟩ := g5.at
            have s6 : Same H5 (upd H5 y (.tup [.int (fW ws u + (i : Int)), .int (fW ws v + (t : Int))])) := same_upd ny
            refine ⟨as, s6 _ _ hA, ?_, same_keep nG (s5.trans s6), ?_⟩
            · rw [lA, sizeLine_eq]
              have := gl hi ht
              omega
            · have := g5.push (x := fW ws u + (i : Int)) (y := fW ws v + (t : Int)) ny hA
              have e : (row i)[t]? = some (fW ws u + (i : Int), fW ws v + (t : Int)) := by
                show ((List.range (nW ws v).toNat).map _)[t]? = _
                rw [List.getElem?_map, List.getElem?_range ht]
                rfl
              rw [take_at e, ← List.append_assoc]
              exact this
          · obtain ⟨s5, g5⟩ := h
            refine ⟨s5, ?_⟩
            rw [List.take_of_length_le (by show (List.map _ _).length ≤ _; rw [List.length_map, List.length_range]; exact Nat.le_refl _)] at g5
            have e : GG (i + 1) = GG i ++ row i := by
              show (List.range (i + 1)).flatMap row = _
              rw [List.range_succ, List.flatMap_append]
              simp [GG]
            rw [e]
            exact g5
        · obtain ⟨s4, g4⟩ := h
          rw [eGG] at g4
          obtain ⟨as, hA, lA, _⟩ := g4.at
          have gm := g.mono s4
          refine ⟨D, G, zs, as, rfl, rfl, s4 _ _ hz, hA, ?_, ?_⟩
          · rw [acL_snoc he, ← List.append_assoc, List.length_append] at lenP
            rw [lz, lA, sizeLine_eq]
            omega
          · refine ⟨_, _, rfl, same_keep hD0 (sm.trans s4), by rw [upd_ne FD]; exact GF s4, ?_⟩
            rw [acL_snoc he, ← List.append_assoc]
            exact gm.cat g4 (s4 _ _ hz) hA
      · obtain ⟨o6, o7, rfl, sm, hF2, g⟩ := h
        rw [l3, List.take_length] at g
        have body : ∀ {H4 H5 H6 : Hp} {D2 : Addr} {j : Nat} {x : V}, H4 = H3 → H4 D2 = none → j < xs.length → Same H4 H5 ∧ H5 D2 = some (.lst (((ws.map (·.1)).take j).map V.int)) → YAt xs j H5 x H6 →
            gName 4 x [some (.ref p), some (.ref a), some (.ref F'), some (.ref D), none, o5, o6, o7, none, none] H6 fun σ2 H7 => wipe σ2 [4] = [some (.ref p), some (.ref a), some (.ref F'), some (.ref D), none, o5, o6, o7, none, none] ∧ tFld K (tVar 4) "many" σ2 H7 fun y H8 => ∃ acc, H8 D2 = some (.lst acc) ∧ acc.length < sizeLine ∧ Same H4 (upd H8 D2 (.lst (acc ++ [y]))) ∧ (upd H8 D2 (.lst (acc ++ [y]))) D2 = some (.lst (((ws.map (·.1)).take (j + 1)).map V.int)) := fun {H4 H5 H6 D2 j x} e4 n2 hj z y => by
          subst e4
          obtain ⟨rfl, hx⟩ := y
          obtain ⟨s5, hD2⟩ := z
          obtain ⟨pw, rfl, Wp⟩ := (hw.mono (sm.trans s5)).at hx
          obtain ⟨⟨dx, c', m', l', k1, _⟩, _⟩ := id Wp
          refine ⟨rfl, _, rfl, pw, C, dx, _, _, rfl, k1, T.cl, T.nm, wf_many _ _ _, _, hD2, ?_, same_keep n2 s5, ?_⟩
          · rw [List.length_map, List.length_take, List.length_map, sizeLine_eq]
            omega
          · rw [upd_same, wnum hw hx, List.map_append]
            rfl
        have out : ∀ {H5 : Hp}, Same H3 H5 → spMk K C CN CW [.int (tot ws), .ref D] H5 Q E := fun {H5} s5 => by
          have s05 := sm.trans s5
          refine mk_ls (g.mono s5).ls (fun z hz => put_rng Wb' hQ hz) (fW_nonneg Wb' _) t16 l62 fun H6 r q6 s6 nr c6 e6 W6 => ?_
          exact k H6 r q6 (s05.trans s6) (s05.free nr) ⟨c6, e6⟩ (W6.mono (new_mono (fun b e1 _ => s05.free e1) (Same.refl _)))
        have esum : ((ws.map (·.1)).take xs.length).sum = tot ws := by
          show _ = fW ws ws.length
          unfold fW
          rw [hl, List.map_take]
        rcases ha with ha | ha
        · refine .inl ⟨_, rfl, a, rfl, ⟨xs, SqL.of (sm _ _ ha)⟩, fun D2 n2 => ?_⟩
          refine lc_it (walk_list (K := K) (a := a) (xs := xs)) (fun j H5 => Same H3 H5 ∧ H5 D2 = some (.lst (((ws.map (·.1)).take j).map V.int))) ⟨same_upd n2, upd_same⟩ (fun j H5 _ z => SqL.of ((sm.trans z.1) _ _ ha)) (fun j x H5 H6 hj z y => body rfl n2 hj z y) (fun H5 z => ?_)
          obtain ⟨s5, hD2⟩ := z
          refine ⟨D2, _, rfl, SqL.of hD2, _, rfl, ?_⟩
          rw [esum]
          exact out s5
        · refine .inr ⟨_, rfl, a, rfl, ⟨xs, SqT.of (sm _ _ ha)⟩, fun D2 n2 => ?_⟩
          refine lc_it (walk_tup (K := K) (a := a) (xs := xs)) (fun j H5 => Same H3 H5 ∧ H5 D2 = some (.lst (((ws.map (·.1)).take j).map V.int))) ⟨same_upd n2, upd_same⟩ (fun j H5 _ z => SqT.of ((sm.trans z.1) _ _ ha)) (fun j x H5 H6 hj z y => body rfl n2 hj z y) (fun H5 z => ?_)
          obtain ⟨s5, hD2⟩ := z
          refine ⟨D2, _, rfl, SqL.of hD2, _, rfl, ?_⟩
          rw [esum]
          exact out s5
end
end K0
set_option Elab.async false
set_option linter.all false
set_option maxRecDepth 100000
set_option maxHeartbeats 4000000
namespace K0
open PySem PySem.Spec PyProof.Rows L2 ZM
section
variable {P : Program} {w : World} {K : PySem.W.Frag} {mg : Str → Option Value} {base : Heap} {f : Addr} {fd : FuncData}
abbrev s_to : Stmt := top 28
abbrev s_no : Stmt := top 29
/-- a list of webs -/
def WsL (C : Addr) (H : Hp) (a : Addr) (ws : List Wb) : Prop := ∃ xs, H a = some (.lst xs) ∧ WsAt C H xs ws
theorem WsL.mono {C : Addr} {H H' : Hp} (s : Same H H') {a : Addr} {ws : List Wb} : WsL C H a ws → WsL C H' a ws := fun ⟨xs, h, w⟩ => ⟨xs, s _ _ h, w.mono s⟩
theorem WsL.q {C : Addr} {H : Hp} {a : Addr} {ws : List Wb} : WsL C H a ws → WsQ C H a ws := fun ⟨xs, h, w⟩ => ⟨xs, .inl h, w⟩
/-- thing_of -/
def spTo (C CN CS : Addr) : Sp := fun vs H Q E => ∃ (a : Addr) (v : V) (d : PyData) (ws : List Wb), vs = [.ref a, v] ∧ WsL C H a ws ∧ ws.length ≤ 1000 ∧ Dt H v d ∧ (okN 0 d = false → Rz CN [("name", .str "thing")] H E) ∧
  (∀ t, d = .int t → 0 ≤ t → (∀ u x, Loc ws t u x → ∀ H' r, Same H H' → H r = none → H' r = some (.tup [.int (u : Int), .int x]) → Q (.ref r) H') ∧ (tot ws ≤ t → Rz CS [("name", .str "thing")] H E))
theorem sc_to : FnScope ["webs", "thing", "left", "v", "web"] ["webs", "thing"] (defScope s_to) := ⟨rfl, rfl, rfl, by decide +kernel, rfl, by decide +kernel, by decide +kernel⟩
theorem ok_to {C CN CS : Addr} (F : Fun K "thing_of" "thing_of" s_to f fd) (B : Blt3 mg) (T : WebC K C) (CNum : DfD P w K mg base "check_number" 3 ["value", "name", "least"] [.int 0] (spCn CN)) (ES : Er P w K mg base "NoneSuch" CS ["name"] ["self", "name"] (spE1 CS "name")) :
    FnOk P w K mg base (L2.CX P w) 4 f fd ["webs", "thing"] (spTo C CN CS) := by
  refine F.okX sc_to (fun vs H Q E h => ?_) (fun cdv A outer s H vs Q E hr h => ?_)
  · obtain ⟨a, v, d, ws, rfl, _⟩ := h
    rfl
  · obtain ⟨a, v, d, ws, rfl, ⟨xs, ha, hw⟩, few, hv, k1, k2⟩ := h
    have nd := sc_to.nd
    have hl := hw.len
    have Wb' := hw.wbs
    have r2 : Room 2 _ := hr.mono (by decide)
    refine ⟨_, pss_cons (ps_set (i := 2) nd rfl (.inl rfl) (pe_dfd CNum hr (by rfl) passUp (pa_cons (pv 1) (pa_cons pe_str pa_nil))))
      (pss_cons (ps_for (passes_of rfl) rfl (pi_enum (by rfl) B.enum (pa_cons (pv 0) pa_nil)) (pg_tup rfl (pgs_cons (pg_name (i := 3) nd rfl (.inl rfl)) (pgs_cons (pg_name (i := 4) nd rfl (.inl rfl)) pgs_nil)))
        (pss_cons (ps_if (pt_cmpR op_lt (pv 2) (pe_fld (pv 4) rfl) (nomark _)) (pss_one (ps_ret (pe_tup (pa_cons (pv 3) (pa_cons (pv 2) pa_nil))))) pss_nil)
        (pss_one (ps_set (i := 2) nd rfl (.inl rfl) (pe_op op_sub (pv 2) (pe_fld (pv 4) rfl))))))
      (pss_one (ps_rz1 rfl (takes_of rfl rfl rfl rfl) ES r2 (by rfl) pe_str (mono_c _)))), ?_⟩
    refine ⟨_, rfl, v, d, _, 0, rfl, hv, fun ok => ?_, fun bad => k1 bad⟩
    obtain ⟨t, rfl, rfl, h0⟩ : ∃ n, v = .int n ∧ d = .int n ∧ 0 ≤ n := by
      cases hv with
      | int i => exact ⟨i, rfl, rfl, of_decide_eq_true ok⟩
      | non => cases ok
      | bl b => cases ok
      | str b => cases ok
      | lst e h => cases ok
      | tup e h => cases ok
    obtain ⟨kq, ke⟩ := k2 t rfl h0
    let Pv : Nat → L2.St → Hp → Prop := fun i σ H' => ∃ o3 o4, σ = [some (.ref a), some (.int t), some (.int (t - fW ws i)), o3, o4] ∧ Same H H' ∧ fW ws i ≤ t
    have start : Pv 0 [some (.ref a), some (.int t), some (.int t), none, none] H := ⟨none, none, by rw [fW_zero, Int.sub_zero], Same.refl _, by rw [fW_zero]; exact h0⟩
    refine ⟨_, rfl, a, xs, rfl, SqL.of ha, for_it (walk_enum (K := K) (a := a) (xs := xs)) Pv start (fun i σ H' _ h => ?_) (fun i v σ H2 H3 hi h y => ?_) (fun σ H' h => ?_)⟩
    · obtain ⟨_, _, _, sm, _⟩ := h
      exact SqL.of (sm _ _ ha)
    · obtain ⟨o3, o4, rfl, sm, lo⟩ := h
      obtain ⟨b, x, y0, rfl, nb, rfl, ex, ey⟩ := y
      dsimp only at ex ey
      obtain rfl := Option.some.inj ex
      obtain ⟨pw, rfl, Wp⟩ := (hw.mono sm).at ey
      have s3 : Same H2 (upd H2 b (.tup [.int (i : Nat), .ref pw])) := same_upd nb
      obtain ⟨ddp, cp, mp, ps, k1', _⟩ := (Wp.mono s3).tuple
      refine ⟨b, _, rfl, SqT.of upd_same, rfl, _, _, rfl, _, _, rfl, rfl, ?_⟩
      refine ⟨_, rfl, _, rfl, pw, C, ddp, _, _, rfl, k1', T.cl, T.nm, wf_many _ _ _, _, _, rfl, rfl, _, rfl, ?_⟩
      by_cases lt : t - fW ws i < nW ws i
      · rw [decide_eq_true lt]
        refine iteT ⟨_, rfl, _, rfl, (by show 2 ≤ sizeLine; decide), fun r nr => ?_⟩
        exact kq i (t - fW ws i) ⟨by omega, by omega, lt, by omega⟩ _ r ((sm.trans s3).trans (same_upd nr)) ((sm.trans s3).free nr) upd_same
      · rw [decide_eq_false lt]
        refine iteF ⟨_, rfl, _, rfl, pw, C, ddp, _, _, rfl, k1', T.cl, T.nm, wf_many _ _ _, _, _, rfl, rfl, ?_⟩
        refine ⟨some (.int (i : Nat)), some (.ref pw), ?_, sm.trans s3, by rw [fW_succ]; omega⟩
        rw [fW_succ, show t - (fW ws i + nW ws i) = t - fW ws i - nW ws i by omega]
        rfl
    · obtain ⟨o3, o4, rfl, sm, lo⟩ := h
      rw [hl] at lo
      exact fun d nd' => (ke lo).at sm nd'
/-- number_of -/
def spNo (C CT : Addr) : Sp := fun vs H Q E => ∃ (a : Addr) (v h : V) (dv dh : PyData) (ws : List Wb), vs = [.ref a, v, h] ∧ WsL C H a ws ∧ ws.length ≤ 1000 ∧ Dt H v dv ∧ Dt H h dh ∧ (isTh (ws.length : Int) dv = false → Rz CT [("thing", v)] H E) ∧
  (∀ u : Nat, dv = .int u → u < ws.length → (isTh (nW ws u) dh = false → Rz CT [("thing", h)] H E) ∧ ∀ x, dh = .int x → 0 ≤ x → x < nW ws u → Ret (.int (fW ws u + x)) H Q)
theorem sc_no : FnScope ["webs", "v", "h"] ["webs", "v", "h"] (defScope s_no) := ⟨rfl, rfl, rfl, by decide +kernel, rfl, by decide +kernel, by decide +kernel⟩
theorem ok_no {C CT : Addr} (F : Fun K "number_of" "number_of" s_no f fd) (B : Blt3 mg) (T : WebC K C) (TH : Df P w K mg base "is_thing" 2 ["many", "value"] spTh) (CH : Df P w K mg base "check_thing" 3 ["many", "thing"] (spCt CT)) (FN : Df P w K mg base "first_numbers" 1 ["webs"] (spFn C))
    (ET : Er P w K mg base "BadThing" CT ["thing"] ["self", "thing"] (spE1 CT "thing")) : FnOk P w K mg base (L2.CX P w) 4 f fd ["webs", "v", "h"] (spNo C CT) := by
  refine F.okX sc_no (fun vs H Q E h => ?_) (fun cdv A outer s H vs Q E hr h => ?_)
  · obtain ⟨a, v, h, dv, dh, ws, rfl, _⟩ := h
    rfl
  · obtain ⟨a, v, h, dv, dh, ws, rfl, ⟨xs, ha, hw⟩, few, hv, hh, k1, k2⟩ := h
    have nd := sc_no.nd
    have hl := hw.len
    have r1 : Room 1 _ := hr.mono (by decide)
    have r2 : Room 2 _ := hr.mono (by decide)
    refine ⟨_, pss_cons (ps_if (pt_not (pt_val (pe_df TH r2 (by rfl) passUp (pa_cons (pe_callB c_len (by rfl) B.len PySem.boot_len (pa_cons (pv 0) pa_nil)) (pa_cons (pv 1) pa_nil))))) (pss_one (ps_rz1 rfl (takes_of rfl rfl rfl rfl) ET r2 (by rfl) (pv 1) (mono_var 1))) pss_nil)
      (pss_cons (ps_expr (pe_df CH hr (by rfl) passUp (pa_cons (pe_fld (pe_ix ix_list (pv 0) (pv 1) (fun _ _ => rfl)) rfl) (pa_cons (pv 2) pa_nil))))
      (pss_one (ps_ret (pe_op op_add (pe_ix ix_list (pe_df FN r1 (by rfl) passUp (pa_cons (pv 0) pa_nil)) (pv 1) (fun _ _ => rfl)) (pv 2))))), ?_⟩
    refine ⟨_, rfl, a, xs, rfl, .inl (SqL.of ha), _, rfl, (xs.length : Int), v, dv, rfl, hv, fun H1 s1 => ⟨_, rfl, ?_⟩⟩
    rw [hl]
    cases e : isTh (ws.length : Int) dv with
    | false => exact iteT ⟨_, rfl, fun dd nd' => (k1 e).at s1 nd'⟩
    | true =>
      obtain ⟨i, rfl, rfl, i0, iN⟩ := th_int hv e
      obtain ⟨u, rfl⟩ := Int.eq_ofNat_of_zero_le i0
      have hu : u < ws.length := by omega
      have hu2 : u < xs.length := by omega
      obtain ⟨kb, kq⟩ := k2 u rfl hu
      obtain ⟨pw, epw, Wp⟩ := (hw.mono s1).at (List.getElem?_eq_getElem hu2)
      obtain ⟨ddp, cp, mp, ps, k1', _⟩ := Wp.tuple
      refine iteF ⟨_, rfl, _, rfl, a, xs, _, _, rfl, rfl, SqL.of (s1 _ _ ha), atI_nat (List.getElem?_eq_getElem hu2), pw, C, ddp, _, _, epw, k1', T.cl, T.nm, wf_many _ _ _, _, rfl, nW ws u, h, dh, rfl, hh.mono s1, fun t2 H2 s2 => ?_, fun t2 H' dd s' ed => kb t2 H' dd (s1.trans s') ed⟩
      obtain ⟨x, rfl, rfl, x0, xN⟩ := th_int hh t2
      have s12 := s1.trans s2
      refine ⟨_, rfl, a, ws, rfl, ⟨xs, .inl (s12 _ _ ha), hw.mono s12⟩, few, fun H3 r s3 nr hr' => ?_⟩
      refine ⟨_, rfl, r, _, _, _, rfl, rfl, SqL.of hr', atI_nat (by rw [List.getElem?_map, fsL_at hu]; rfl), _, rfl, _, _, rfl, rfl, ?_⟩
      exact kq x rfl x0 xN _ (s12.trans s3)
end
end K0
set_option Elab.async false
set_option linter.all false
set_option maxRecDepth 100000
set_option maxHeartbeats 4000000
namespace K0
open PySem PySem.Spec PyProof.Rows L2 ZM
/-! ### bits taken off -/
def andN (a b : Nat) : Nat := a - (a &&& b)
theorem andN_bit : ∀ (j a b : Nat), (andN a b).testBit j = (a.testBit j && !b.testBit j) := fun j => by
  induction j with
  | zero =>
    intro a b
    unfold andN
    have h1 : (a &&& b) % 2 = 1 ↔ a % 2 = 1 ∧ b % 2 = 1 := Nat.and_mod_two_eq_one
    have h2 : a &&& b ≤ a := Nat.and_le_left
    have h3 : (a &&& b) / 2 = a / 2 &&& b / 2 := Nat.and_div_two
    have h4 : a / 2 &&& b / 2 ≤ a / 2 := Nat.and_le_left
    rw [Nat.testBit_zero, Nat.testBit_zero, Nat.testBit_zero, Bool.eq_iff_iff, Bool.and_eq_true, Bool.not_eq_true', decide_eq_true_iff, decide_eq_true_iff, decide_eq_false_iff_not]
    by_cases ha : a % 2 = 1 <;> by_cases hb : b % 2 = 1 <;> omega
  | succ j ih =>
    intro a b
    rw [Nat.testBit_succ, Nat.testBit_succ, Nat.testBit_succ, ← ih]
    congr 1
    unfold andN
    have h1 : (a &&& b) % 2 = 1 ↔ a % 2 = 1 ∧ b % 2 = 1 := Nat.and_mod_two_eq_one
    have h2 : a &&& b ≤ a := Nat.and_le_left
    have h3 : (a &&& b) / 2 = a / 2 &&& b / 2 := Nat.and_div_two
    have h4 : a / 2 &&& b / 2 ≤ a / 2 := Nat.and_le_left
    by_cases ha : a % 2 = 1 <;> by_cases hb : b % 2 = 1 <;> omega
theorem andN_le (a b : Nat) : andN a b ≤ a := Nat.sub_le _ _
theorem and_not (a b : Nat) : Builtin.bitAnd (a : Int) (Builtin.bitNot (b : Int)) = ((andN a b : Nat) : Int) := by
  have n : Builtin.bitNot (Builtin.bitNot (b : Int)) = (b : Int) := by unfold Builtin.bitNot; omega
  have e1 : decide (0 ≤ (a : Int)) = true := decide_eq_true (Int.natCast_nonneg a)
  have e2 : decide (0 ≤ Builtin.bitNot (b : Int)) = false := decide_eq_false (by unfold Builtin.bitNot; omega)
  unfold Builtin.bitAnd
  rw [e1, e2]
  dsimp only
  rw [n, Int.toNat_natCast, Int.toNat_natCast]
  unfold andN
  have : a &&& b ≤ a := Nat.and_le_left
  omega
theorem bits_small {m k : Nat} (h : m < 2 ^ k) : bitsN m ≤ k := by
  unfold bitsN Builtin.Int.intBits
  split
  · exact Nat.zero_le _
  · rename_i z
    rw [Int.natAbs_natCast]
    have nz : m ≠ 0 := by simpa using z
    have := (Nat.log2_lt nz).mpr h
    omega
/-- x & ~y -/
def rAndN : R2 := fun x y H Q => ∃ a b : Nat, x = .int (a : Int) ∧ y = .int (Builtin.bitNot (b : Int)) ∧ Q (.int ((andN a b : Nat) : Int)) H
theorem op_andN {X : Cx} : OpR X (binaryOp .BitAnd) rAndN := OpR_imp op_and fun x y H Q ⟨a, b, ex, ey, q⟩ => ⟨_, _, ex, ey, by show Q (.int (Builtin.bitAnd (a : Int) (Builtin.bitNot (b : Int)))) H; rw [and_not]; exact q⟩
/-! ### lists of fresh rows -/
def GrowR (H : Hp) (D : Addr) (rs : List Rw) : Prop := ∃ l : List (Addr × Rw), H D = some (.lst (l.map fun z => V.ref z.1)) ∧ l.map (·.2) = rs ∧ ∀ z ∈ l, H z.1 = some (.tup (z.2.map V.int))
theorem GrowR.mono {H H' : Hp} {D : Addr} {rs : List Rw} (s : Same H H') : GrowR H D rs → GrowR H' D rs := fun ⟨l, h, e, p⟩ => ⟨l, s _ _ h, e, fun z hz => s _ _ (p z hz)⟩
theorem dtAll_rws {H : Hp} : ∀ {l : List (Addr × Rw)}, (∀ z ∈ l, H z.1 = some (.tup (z.2.map V.int))) → DtAll H (l.map fun z => V.ref z.1) (l.map fun z => rwD z.2)
  | [], _ => .nil
  | z :: r, h => .cons (.tup (h z List.mem_cons_self) (DtAll.ints _ _)) (dtAll_rws fun y hy => h y (List.mem_cons_of_mem _ hy))
theorem GrowR.at {H : Hp} {D : Addr} {rs : List Rw} (g : GrowR H D rs) : ∃ xs, H D = some (.lst xs) ∧ xs.length = rs.length ∧ DtAll H xs (rs.map rwD) := by
  obtain ⟨l, h, e, p⟩ := g
  refine ⟨_, h, by rw [← e, List.length_map, List.length_map], ?_⟩
  rw [← e, List.map_map]
  exact dtAll_rws p
theorem GrowR.nil {H : Hp} {D : Addr} (n : H D = none) : GrowR (upd H D (.lst [])) D [] := ⟨[], upd_same, rfl, fun z hz => by cases hz⟩
theorem GrowR.push {H : Hp} {D u : Addr} {rs : List Rw} {r : Rw} (g : GrowR H D rs) (nu : H u = none) {xs : List V} (hx : H D = some (.lst xs)) : GrowR (upd (upd H u (.tup (r.map V.int))) D (.lst (xs ++ [.ref u]))) D (rs ++ [r]) := by
  obtain ⟨l, h, e, p⟩ := g
  rw [h] at hx
  cases hx
  refine ⟨l ++ [(u, r)], by rw [upd_same, List.map_append]; rfl, by rw [List.map_append, e]; rfl, fun z hz => ?_⟩
  have s2 : Same H (upd H u (.tup (r.map V.int))) := same_upd nu
  have hz2 : (upd H u (.tup (r.map V.int))) z.1 = some (.tup (z.2.map V.int)) := by
    rcases List.mem_append.mp hz with hz | hz
    · exact s2 _ _ (p z hz)
    · rw [List.mem_singleton.mp hz]
      exact upd_same
  have zD : z.1 ≠ D := fun e => by
    rw [e, s2 _ _ h] at hz2
    cases hz2
  rw [upd_ne zD]
  exact hz2
theorem GrowR.cat {H : Hp} {D a : Addr} {rs ss : List Rw} {xs ys : List V} (g : GrowR H D rs) (g' : GrowR H a ss) (hx : H D = some (.lst xs)) (hy : H a = some (.lst ys)) : GrowR (upd H D (.lst (xs ++ ys))) D (rs ++ ss) := by
  obtain ⟨l, h, e, p⟩ := g
  obtain ⟨l', h', e', p'⟩ := g'
  rw [h] at hx
  cases hx
  rw [h'] at hy
  cases hy
  refine ⟨l ++ l', by rw [upd_same, List.map_append], by rw [List.map_append, e, e'], fun z hz => ?_⟩
  have hz2 : H z.1 = some (.tup (z.2.map V.int)) := (List.mem_append.mp hz).elim (p z) (p' z)
  have zD : z.1 ≠ D := fun e => by
    rw [e, h] at hz2
    cases hz2
  rw [upd_ne zD]
  exact hz2
/-- a list or tuple of rows -/
theorem tupI_row {K : PySem.W.Frag} {H : Hp} {v : V} {r : Rw} (h : Dt H v (rwD r)) : TupI K H v r := by
  obtain ⟨a, e, ha⟩ := dt_row h
  exact ⟨a, e, SqT.of ha⟩
theorem dta_pick {H : Hp} {r0 : V → Rw} : ∀ {xs : List V} {rs : List Rw}, DtAll H xs (rs.map rwD) → (∀ v r, Dt H v (rwD r) → r0 v = r) → xs.map r0 = rs ∧ ∀ x ∈ xs, Dt H x (rwD (r0 x))
  | [], [], _, _ => ⟨rfl, fun x hx => by cases hx⟩
  | _ :: _, [], h, _ => by cases h
  | [], _ :: _, h, _ => by cases h
  | x :: xs, r :: rs, h, k => by
    cases h with
    | cons a b =>
      obtain ⟨e1, e2⟩ := dta_pick b k
      have e := k x r a
      refine ⟨by rw [List.map_cons, e, e1], fun y hy => ?_⟩
      rcases List.mem_cons.mp hy with hy | hy
      · rw [hy, e]
        exact a
      · exact e2 y hy
theorem dta_rws {H : Hp} {r0 : V → Rw} : ∀ {ys : List V}, (∀ y ∈ ys, Dt H y (rwD (r0 y))) → DtAll H ys ((ys.map r0).map rwD)
  | [], _ => .nil
  | y :: ys, h => .cons (h y List.mem_cons_self) (dta_rws fun z hz => h z (List.mem_cons_of_mem _ hz))
def unV : V → Int
  | .int i => i
  | _ => 0
def r0H (H : Hp) : V → Rw
  | .ref a => match H a with
    | some (.tup xs) => xs.map unV
    | _ => []
  | _ => []
theorem r0H_at {H : Hp} (v : V) (r : Rw) (h : Dt H v (rwD r)) : r0H H v = r := by
  obtain ⟨a, rfl, ha⟩ := dt_row h
  show (match H a with | some (.tup xs) => xs.map unV | _ => []) = r
  rw [ha]
  show (r.map V.int).map unV = r
  rw [List.map_map]
  exact List.map_id _
/-- sorted of a list of rows of d things below 64 -/
theorem cr_srtW {X : Cx} {d : Nat} (hd : 1 ≤ d) : CallR X (.builtin "sorted") (fun xs H Q => ∃ (a : Addr) (rs : List Rw) (ys : List V), xs = [.ref a] ∧ H a = some (.lst ys) ∧ DtAll H ys (rs.map rwD) ∧ (∀ r ∈ rs, r.length = d ∧ TS.Bd 64 r) ∧
    ∀ (H' : Hp) (p : Addr) (zs : List V) (ss : List Rw), Same H H' → H p = none → H' p = some (.lst zs) → DtAll H' zs (ss.map rwD) → ss.Perm rs → ss.Pairwise (fun a b => TS.code 64 a ≤ TS.code 64 b) → Q (.ref p) H') := by
  intro pins s σ H xs us Q I r h
  obtain ⟨a, rs, ys, rfl, ha, hy, hb, k⟩ := h
  obtain ⟨e1, e2⟩ := dta_pick (r0 := r0H H) hy r0H_at
  refine cr_sortV (d := d) hd pins s σ H _ us Q I r ⟨a, ys, rfl, SqL.of ha, fun x hx => ⟨r0H H x, tupI_row (e2 x hx), ?_⟩, fun zs p pm le np => ?_⟩
  · exact hb _ (by rw [← e1]; exact List.mem_map.mpr ⟨x, hx, rfl⟩)
  · have sm : Same H (upd H p (.lst zs)) := same_upd np
    refine k _ p zs (zs.map (r0H H)) sm np upd_same (dta_rws fun y hy' => (e2 y (pm.mem_iff.mp hy')).mono sm) (by rw [← e1]; exact pm.map _) ?_
    refine List.pairwise_map.mpr (List.Pairwise.imp_of_mem (fun {x y} hx hy' le => ?_) le)
    exact le _ _ (tupI_row (e2 x (pm.mem_iff.mp hx))) (tupI_row (e2 y (pm.mem_iff.mp hy')))
end K0
set_option Elab.async false
set_option linter.all false
set_option maxRecDepth 100000
set_option maxHeartbeats 4000000
namespace K0
open PySem PySem.Spec PyProof.Rows L2 ZM
theorem len_fm {α β : Type} {m : Nat} {f : α → List β} : ∀ (l : List α), (∀ x ∈ l, (f x).length ≤ m) → (l.flatMap f).length ≤ l.length * m
  | [], _ => by simp
  | x :: l, h => by
    have := len_fm l fun y hy => h y (List.mem_cons_of_mem _ hy)
    have := h x List.mem_cons_self
    rw [List.flatMap_cons, List.length_append, List.length_cons, Nat.succ_mul]
    omega
theorem fil_len {n : Nat} (p : Nat → Bool) : ((List.range n).filter p).length ≤ n := by
  have := List.length_filter_le p (List.range n)
  rwa [List.length_range] at this
theorem pf3_len (n : Nat) (q : List Pr) (b c a : Nat) : (pf3 n q b c a).length ≤ n := by
  unfold pf3
  rw [List.length_map]
  exact Nat.le_trans (List.length_filter_le _ _) (fil_len _)
theorem pf2_len (n : Nat) (q : List Pr) (b c : Nat) : (pf2 n q b c).length ≤ n * n := Nat.le_trans (len_fm _ fun x _ => pf3_len n q b c x) (Nat.mul_le_mul_right _ (fil_len _))
theorem pf1_len (n : Nat) (q : List Pr) (b : Nat) : (pf1 n q b).length ≤ n * (n * n) := Nat.le_trans (len_fm _ fun x _ => pf2_len n q b x) (Nat.mul_le_mul_right _ (fil_len _))
theorem fm_snoc {α β : Type} {l : List α} {f : α → List β} {j : Nat} {e : α} (h : l[j]? = some e) : (l.take (j + 1)).flatMap f = (l.take j).flatMap f ++ f e := by
  rw [take_at h, List.flatMap_append]
  simp
theorem fm_len {α β : Type} {m : Nat} {f : α → List β} (l : List α) (j : Nat) (h : ∀ x ∈ l, (f x).length ≤ m) : ((l.take j).flatMap f).length ≤ l.length * m := Nat.le_trans (flat_take_le l f j) (len_fm l h)
theorem nvs_val {l : List Nat} {j : Nat} {v : V} (h : (nvs l)[j]? = some v) : ∃ x, l[j]? = some x ∧ v = .int (x : Int) := by
  unfold nvs at h
  rw [List.getElem?_map] at h
  cases e : l[j]? with
  | none => rw [e] at h; cases h
  | some x => rw [e] at h; exact ⟨x, rfl, (Option.some.inj h).symm⟩
section
variable {P : Program} {w : World} {K : PySem.W.Frag} {mg : Str → Option Value} {base : Heap} {f : Addr} {fd : FuncData}
abbrev s_rf : Stmt := top 31
/-- rows_of_four -/
def spRf (C : Addr) : Sp := fun vs H Q _ => ∃ (p : Addr) (n : Int) (q : List Pr), vs = [.ref p] ∧ WebAt C H p n q ∧ ∀ H' t xs rs, Same H H' → H t = none → H' t = some (.tup xs) → DtAll H' xs (rs.map rwD) → IsRows n q rs → Q (.ref t) H'
theorem sc_rf : FnScope ["web", "masks", "found", "b", "c", "a", "fourth", "d"] ["web"] (defScope s_rf) := ⟨rfl, rfl, rfl, by decide +kernel, rfl, by decide +kernel, by decide +kernel⟩
theorem mk_at {C : Addr} {H : Hp} {p : Addr} {n : Int} {q : List Pr} (W : WebAt C H p n q) {x : Nat} {Q : VK} {H' : Hp} {mm : Addr} (hm : SqT K H' mm (nvs (mOf n.toNat q))) (hx : x < n.toNat) (k : Q (.int (((mOf n.toNat q).getD x 0 : Nat) : Int)) H') : rIxT K (.ref mm) (.int (x : Int)) H' Q := by
  refine ⟨mm, _, (x : Int), _, rfl, rfl, hm, nvs_at (mask_at W x (by have := W.n0; omega)), k⟩
theorem bits3 {C : Addr} {H : Hp} {p : Addr} {n : Int} {q : List Pr} (W : WebAt C H p n q) (b c a : Nat) (x : Nat) : (andN (andN (andN ((mOf n.toNat q).getD c 0) ((mOf n.toNat q).getD b 0)) ((mOf n.toNat q).getD a 0)) (2 ^ b)).testBit x = (hasP q c x && !hasP q b x && !hasP q a x && !decide (x = b)) := by
  rw [andN_bit, andN_bit, andN_bit, mask_bits W, mask_bits W, mask_bits W, Nat.testBit_two_pow]
  congr 2
  exact decide_eq_decide.mpr eq_comm
theorem bits2 {C : Addr} {H : Hp} {p : Addr} {n : Int} {q : List Pr} (W : WebAt C H p n q) (b c : Nat) (x : Nat) : (andN (andN ((mOf n.toNat q).getD b 0) ((mOf n.toNat q).getD c 0)) (2 ^ c)).testBit x = (hasP q b x && !hasP q c x && !decide (x = c)) := by
  rw [andN_bit, andN_bit, mask_bits W, mask_bits W, Nat.testBit_two_pow]
  congr 2
  exact decide_eq_decide.mpr eq_comm
theorem bits_lt {m k : Nat} (h : ∀ j, k ≤ j → m.testBit j = false) (hk : k ≤ 16) : bitsN m ≤ 16 := bits_small (Nat.lt_pow_two_of_testBit _ fun i hi => h i (by omega))
theorem ok_rf {C : Addr} (F : Fun K "rows_of_four" "rows_of_four" s_rf f fd) (B : Blt3 mg) (T : WebC K C) (TI : Df P w K mg base "things_in" 1 ["mask"] spTi) : FnOk P w K mg base (L2.CX P w) 2 f fd ["web"] (spRf C) := by
  refine F.okX sc_rf (fun vs H Q E h => ?_) (fun cdv A outer s H vs Q E hr h => ?_)
  · obtain ⟨p, n, q, rfl, _⟩ := h
    rfl
  · obtain ⟨p, n, q, rfl, W, k⟩ := h
    have nd := sc_rf.nd
    obtain ⟨⟨ddx, c, m, l, h1, h2, h3, h4, h5⟩, cl, n0, n8⟩ := id W
    have r1 : Room 1 _ := hr.mono (by decide)
    have n16 : n.toNat ≤ 16 := by omega
    let M : Nat → Nat := fun x => (mOf n.toNat q).getD x 0
    have clN : Cl (n.toNat : Int) q := by rw [Int.toNat_of_nonneg n0]; exact cl
    have out : ∀ {x j : Nat}, n.toNat ≤ j → hasP q x j = false := fun {x j} hj => hasP_out cl (by omega)
    refine ⟨_, pss_cons (ps_set (i := 1) nd rfl (.inl rfl) (pe_fld (pv 0) rfl))
      (pss_cons (ps_set (i := 2) nd rfl (.inl rfl) (pe_lst pa_nil))
      (pss_cons (ps_for (passes_of rfl) rfl (pi_range1 (by rfl) B.range (pa_cons (pe_fld (pv 0) rfl) pa_nil)) (pg_name (i := 3) nd rfl (.inr rfl))
        (pss_one (ps_for (passes_of rfl) rfl (pi_tup (pe_df TI r1 (by rfl) passUp (pa_cons (pe_ix ix_tup (pv 1) (pv 3) (fun _ _ => rfl)) pa_nil))) (pg_name (i := 4) nd rfl (.inr rfl))
        (pss_one (ps_for (passes_of rfl) rfl (pi_tup (pe_df TI r1 (by rfl) passUp (pa_cons (pe_op op_andN (pe_op op_andN (pe_ix ix_tup (pv 1) (pv 3) (fun _ _ => rfl)) (pe_un un_inv (pe_ix ix_tup (pv 1) (pv 4) (fun _ _ => rfl)))) (pe_un un_inv (pe_op op_shl1 pe_int (pv 4)))) pa_nil))) (pg_name (i := 5) nd rfl (.inr rfl))
        (pss_cons (ps_set (i := 6) nd rfl (.inl rfl) (pe_op op_andN (pe_op op_andN (pe_op op_andN (pe_ix ix_tup (pv 1) (pv 4) (fun _ _ => rfl)) (pe_un un_inv (pe_ix ix_tup (pv 1) (pv 3) (fun _ _ => rfl)))) (pe_un un_inv (pe_ix ix_tup (pv 1) (pv 5) (fun _ _ => rfl)))) (pe_un un_inv (pe_op op_shl1 pe_int (pv 3)))))
        (pss_one (ps_expr (pe_lext (pv 2) (pa_cons (pe_lc (own := [("d", 7)]) (g := gName 7) (tt := tTest (tOp (rI0 fun i j => .bl (decide (i < j))) (tVar 5) (tVar 7))) (te := tTup (tCons (tVar 5) (tCons (tVar 3) (tCons (tVar 4) (tCons (tVar 7) tNil))))) rfl nd
          (pi_tup (pe_df TI r1 (by rfl) passUp (pa_cons (pv 6) pa_nil))) (blkOk_by (N := ["web", "masks", "found", "b", "c", "a", "fourth", "d"]) (sc := defScope s_rf) (by decide +kernel))
          (fun _ _ _ _ _ => pg_name (i := 7) nd rfl (.inl rfl)) (fun _ _ _ _ _ => pts_one (pt_cmpR op_lt (pv 5) (pv 7) (nomark _)))
          (fun _ _ _ _ _ => pe_tup (pa_cons (pv 5) (pa_cons (pv 3) (pa_cons (pv 4) (pa_cons (pv 7) pa_nil)))))) pa_nil))))))))))
      (pss_one (ps_ret (pe_callTy call_tuple_of (by rfl) B.tuple (by decide +kernel) (pa_cons (pe_callB (cr_srtW (d := 4) (by decide)) (by rfl) B.sorted (by decide +kernel) (pa_cons (pv 2) pa_nil)) pa_nil)))))), ?_⟩
    refine ⟨_, rfl, p, C, ddx, _, _, rfl, h1, T.cl, T.nk, wf_masks _ _ _, ?_⟩
    refine ⟨by show 0 ≤ sizeLine; exact Nat.zero_le _, fun D nD => ?_⟩
    have s0 : Same H (upd H D (.lst [])) := same_upd nD
    let St : Nat → Nat → Nat → Option V → L2.St := fun b c a f => [some (.ref p), some (.ref m), some (.ref D), some (.int (b : Int)), some (.int (c : Int)), some (.int (a : Int)), f, none]
    let Pv : Nat → L2.St → Hp → Prop := fun i σ H' => ∃ o3 o4 o5 o6, σ = [some (.ref p), some (.ref m), some (.ref D), o3, o4, o5, o6, none] ∧ Same H H' ∧ GrowR H' D ((List.range i).flatMap (pf1 n.toNat q))
    refine ⟨_, rfl, p, C, ddx, _, _, rfl, s0 _ _ h1, T.cl, T.nm, wf_many _ _ _, n, rfl, by omega, by omega, for_range (n := n.toNat) Pv ⟨none, none, none, none, rfl, s0, GrowR.nil nD⟩ (fun b σ H1 hb h => ?_) (fun σ H1 h => ?_)⟩
    · obtain ⟨o3, o4, o5, o6, rfl, s1, g1⟩ := h
      rw [Int.zero_add]
      have lb : ((List.range b).flatMap (pf1 n.toNat q)).length ≤ 65536 := by
        have h1 := len_fm (List.range b) (f := pf1 n.toNat q) fun x _ => pf1_len n.toNat q x
        rw [List.length_range] at h1
        exact Nat.le_trans h1 (Nat.le_trans (Nat.mul_le_mul (by omega : b ≤ 16) (Nat.mul_le_mul n16 (Nat.mul_le_mul n16 n16))) (by decide))
      refine ⟨_, rfl, _, rfl, m, _, (b : Int), _, rfl, rfl, SqT.of (s1 _ _ h5), nvs_at (mask_at W b (by omega)), M b, rfl, by have := mask_small W b; show bitsN (M b) ≤ 1000; show bitsN ((mOf n.toNat q).getD b 0) ≤ 1000; omega, fun H2 t s2 nt ht => ?_⟩
      have eb : (List.range (bitsN (M b))).filter (M b).testBit = near n.toNat q b := by
        rw [bitsOf_eq (n := n.toNat) (fun j hj => by show ((mOf n.toNat q).getD b 0).testBit j = false; rw [mask_bits W]; exact out hj)]
        unfold bitsOf near
        congr 1
        funext y
        exact mask_bits W b y
      rw [eb] at ht
      let P2 : Nat → L2.St → Hp → Prop := fun j σ H' => ∃ o4 o5 o6, σ = [some (.ref p), some (.ref m), some (.ref D), some (.int (b : Int)), o4, o5, o6, none] ∧ Same H H' ∧ H' t = some (.tup (nvs (near n.toNat q b))) ∧ GrowR H' D ((List.range b).flatMap (pf1 n.toNat q) ++ ((near n.toNat q b).take j).flatMap (pf2 n.toNat q b))
      refine ⟨t, rfl, ⟨_, SqT.of ht⟩, for_tup (K := K) (a := t) (xs := nvs (near n.toNat q b)) P2 ⟨o4, o5, o6, rfl, s1.trans s2, ht, by simpa using g1.mono s2⟩ (fun j σ H' _ h => ?_) (fun j v σ H3 hj h => ?_) (fun σ H3 h => ?_)⟩
      · obtain ⟨_, _, _, _, _, ht, _⟩ := h
        exact SqT.of ht
      · obtain ⟨o4, o5, o6, rfl, s3, ht3, g3⟩ := h
        obtain ⟨c, hc, rfl⟩ := nvs_val hj
        have hcn : c < n.toNat := List.mem_range.mp (List.mem_filter.mp (List.mem_of_getElem? hc)).1
        have hbc : hasP q b c = true := (List.mem_filter.mp (List.mem_of_getElem? hc)).2
        have lc : (((near n.toNat q b).take j).flatMap (pf2 n.toNat q b)).length ≤ 4096 := by
          have h1 := fm_len (near n.toNat q b) j (f := pf2 n.toNat q b) fun x _ => pf2_len n.toNat q b x
          exact Nat.le_trans h1 (Nat.le_trans (Nat.mul_le_mul (Nat.le_trans (fil_len _) n16) (Nat.mul_le_mul n16 n16)) (by decide))
        have s5m : ∀ {H' : Hp}, Same H3 H' → SqT K H' m (nvs (mOf n.toNat q)) := fun s => SqT.of (s _ _ (s3 _ _ h5))
        refine ⟨_, rfl, _, rfl, mk_at W (s5m (Same.refl _)) hb ?_⟩
        refine ⟨_, rfl, _, rfl, mk_at W (s5m (Same.refl _)) hcn ⟨_, rfl, M b, M c, rfl, rfl, ?_⟩⟩
        refine ⟨_, rfl, c, rfl, rfl, by omega, _, rfl, andN (M b) (M c), 2 ^ c, rfl, rfl, ?_⟩
        have eb2 := bits2 W b c
        refine ⟨andN (andN (M b) (M c)) (2 ^ c), rfl, ?_, fun H4 u s4 nu hu => ?_⟩
        · have : bitsN (andN (andN (M b) (M c)) (2 ^ c)) ≤ 16 := bits_lt (k := n.toNat) (fun j hj => by rw [show (andN (andN (M b) (M c)) (2 ^ c)).testBit j = _ from eb2 j, out hj]; rfl) n16
          omega
        have ebu : (List.range (bitsN (andN (andN (M b) (M c)) (2 ^ c)))).filter (andN (andN (M b) (M c)) (2 ^ c)).testBit = fstN n.toNat q b c := by
          rw [bitsOf_eq (n := n.toNat) (fun j hj => by rw [show (andN (andN (M b) (M c)) (2 ^ c)).testBit j = _ from eb2 j, out hj]; rfl)]
          unfold bitsOf fstN
          congr 1
          funext y
          exact eb2 y
        rw [ebu] at hu
        let AB : List Rw := (List.range b).flatMap (pf1 n.toNat q) ++ ((near n.toNat q b).take j).flatMap (pf2 n.toNat q b)
        let P3 : Nat → L2.St → Hp → Prop := fun k σ H' => ∃ o5 o6, σ = [some (.ref p), some (.ref m), some (.ref D), some (.int (b : Int)), some (.int (c : Int)), o5, o6, none] ∧ Same H H' ∧ H' t = some (.tup (nvs (near n.toNat q b))) ∧ H' u = some (.tup (nvs (fstN n.toNat q b c))) ∧ GrowR H' D (AB ++ ((fstN n.toNat q b c).take k).flatMap (pf3 n.toNat q b c))
        refine ⟨u, rfl, ⟨_, SqT.of hu⟩, for_tup (K := K) (a := u) (xs := nvs (fstN n.toNat q b c)) P3 ⟨o5, o6, rfl, s3.trans s4, s4 _ _ ht3, hu, by simpa [AB] using g3.mono s4⟩ (fun k σ H' _ h => ?_) (fun k v σ H5 hk h => ?_) (fun σ H5 h => ?_)⟩
        · obtain ⟨_, _, _, _, _, hu, _⟩ := h
          exact SqT.of hu
        · obtain ⟨o5, o6, rfl, s5, ht5, hu5, g5⟩ := h
          obtain ⟨a, ha, rfl⟩ := nvs_val hk
          have han : a < n.toNat := List.mem_range.mp (List.mem_filter.mp (List.mem_of_getElem? ha)).1
          have la : (((fstN n.toNat q b c).take k).flatMap (pf3 n.toNat q b c)).length ≤ 256 := by
            have h1 := fm_len (fstN n.toNat q b c) k (f := pf3 n.toNat q b c) fun x _ => pf3_len n.toNat q b c x
            exact Nat.le_trans h1 (Nat.le_trans (Nat.mul_le_mul (Nat.le_trans (fil_len _) n16) n16) (by decide))
          have s6m : ∀ {H' : Hp}, Same H5 H' → SqT K H' m (nvs (mOf n.toNat q)) := fun s => SqT.of (s _ _ (s5 _ _ h5))
          refine ⟨_, rfl, _, rfl, mk_at W (s6m (Same.refl _)) hcn ?_⟩
          refine ⟨_, rfl, _, rfl, mk_at W (s6m (Same.refl _)) hb ⟨_, rfl, M c, M b, rfl, rfl, ?_⟩⟩
          refine ⟨_, rfl, _, rfl, mk_at W (s6m (Same.refl _)) han ⟨_, rfl, andN (M c) (M b), M a, rfl, rfl, ?_⟩⟩
          refine ⟨_, rfl, b, rfl, rfl, by omega, _, rfl, andN (andN (M c) (M b)) (M a), 2 ^ b, rfl, rfl, ?_⟩
          let MF : Nat := andN (andN (andN (M c) (M b)) (M a)) (2 ^ b)
          have eb3 : ∀ x, MF.testBit x = _ := bits3 W b c a
          obtain ⟨xs, hx, lx, _⟩ := g5.at
          refine ⟨_, rfl, .inl ⟨rfl, xs, SqL.of hx⟩, ?_⟩
          refine ⟨_, rfl, MF, rfl, ?_, fun H6 w6 s6 nw hw => ?_⟩
          · have : bitsN MF ≤ 16 := bits_lt (k := n.toNat) (fun j hj => by rw [eb3 j, out hj]; rfl) n16
            omega
          have ebw : (List.range (bitsN MF)).filter MF.testBit = fthN n.toNat q a b c := by
            rw [bitsOf_eq (n := n.toNat) (fun j hj => by rw [eb3 j, out hj]; rfl)]
            unfold bitsOf fthN
            congr 1
            funext y
            exact eb3 y
          rw [ebw] at hw
          refine ⟨w6, rfl, ⟨_, SqT.of hw⟩, fun G nG => ?_⟩
          let R3 : Nat → List Rw := fun i => (((fthN n.toNat q a b c).take i).filter fun d => decide (a < d)).map (row4 a b c)
          have hD6 : H6 D = some (.lst xs) := s6 _ _ hx
          have GD : G ≠ D := fun z => by rw [z, hD6] at nG; cases nG
          refine lc_tup (K := K) (a := w6) (xs := nvs (fthN n.toNat q a b c)) (fun i H' => Same H6 H' ∧ GrowR H' G (R3 i)) ⟨same_upd nG, GrowR.nil nG⟩ (fun i H' _ z => SqT.of (z.1 _ _ hw)) (fun i v H' hi z => ?_) (fun H' z => ?_)
          · obtain ⟨s7, g7⟩ := z
            obtain ⟨d, hd, rfl⟩ := nvs_val hi
            have eR : R3 (i + 1) = R3 i ++ (if a < d then [row4 a b c d] else []) := by
              show ((List.filter _ _).map _) = _
              rw [take_at hd, List.filter_append, List.map_append]
              congr 1
              by_cases lt : a < d
              · simp [lt]
              · simp [lt]
            refine ⟨rfl, _, rfl, _, rfl, _, _, rfl, rfl, _, rfl, ?_⟩
            by_cases lt : a < d
            · rw [decide_eq_true (by omega : (a : Int) < (d : Int))]
              refine iteT ⟨_, rfl, _, rfl, _, rfl, _, rfl, (by show 4 ≤ sizeLine; decide), fun y ny => ?_⟩
              obtain ⟨as, hA, lA, _⟩ := g7.at
              have s8 : Same H' (upd H' y (.tup ((row4 a b c d).map V.int))) := same_upd ny
              refine ⟨as, s8 _ _ hA, ?_, same_keep nG (s7.trans s8), ?_⟩
              · have : (R3 i).length ≤ n.toNat := by
                  show ((List.filter _ _).map _).length ≤ _
                  rw [List.length_map]
                  refine Nat.le_trans (List.length_filter_le _ _) ?_
                  rw [List.length_take]
                  exact Nat.le_trans (Nat.min_le_right _ _) (fil_len _)
                rw [lA, sizeLine_eq]
                omega
              · have g8 := g7.push (r := row4 a b c d) ny hA
                rw [eR, if_pos lt]
                exact g8
            · rw [decide_eq_false (by omega : ¬ (a : Int) < (d : Int))]
              refine iteF ⟨s7, ?_⟩
              rw [eR, if_neg lt, List.append_nil]
              exact g7
          · obtain ⟨s7, g7⟩ := z
            rw [nvs_len] at g7
            have eR : R3 (fthN n.toNat q a b c).length = pf3 n.toNat q b c a := by
              show ((List.filter _ _).map _) = _
              rw [List.take_length]
              rfl
            rw [eR] at g7
            obtain ⟨as, hA, lA, _⟩ := g7.at
            have s67 := s6.trans s7
            refine ⟨D, G, xs, as, rfl, rfl, s7 _ _ hD6, hA, ?_, ?_⟩
            · have := pf3_len n.toNat q b c a
              rw [lx, lA, sizeLine_eq, List.length_append]
              have eAB : AB.length = ((List.range b).flatMap (pf1 n.toNat q)).length + (((near n.toNat q b).take j).flatMap (pf2 n.toNat q b)).length := List.length_append
              omega
            · have hD0 : H D = none := nD
              refine ⟨_, _, rfl, same_keep hD0 (s5.trans s67), ?_, ?_, ?_⟩
              · rw [upd_ne (fun z => by rw [z] at ht5; rw [hx] at ht5; cases ht5)]
                exact s67 _ _ ht5
              · rw [upd_ne (fun z => by rw [z] at hu5; rw [hx] at hu5; cases hu5)]
                exact s67 _ _ hu5
              · rw [fm_snoc ha, ← List.append_assoc]
                exact (g5.mono s67).cat g7 (s7 _ _ hD6) hA
        · obtain ⟨o5, o6, rfl, s5, ht5, hu5, g5⟩ := h
          rw [nvs_len, List.take_length] at g5
          refine ⟨_, _, _, rfl, s5, ht5, ?_⟩
          rw [fm_snoc hc, ← List.append_assoc]
          exact g5
      · obtain ⟨o4, o5, o6, rfl, s3, ht3, g3⟩ := h
        rw [nvs_len, List.take_length] at g3
        refine ⟨_, _, _, _, rfl, s3, ?_⟩
        rw [List.range_succ, List.flatMap_append]
        simpa [pf1] using g3
    · obtain ⟨o3, o4, o5, o6, rfl, s1, g1⟩ := h
      obtain ⟨ys, hy, ly, dy⟩ := g1.at
      have eP : (List.range n.toNat).flatMap (pf1 n.toNat q) = pf n.toNat q := rfl
      rw [eP] at dy
      refine ⟨_, rfl, D, pf n.toNat q, ys, rfl, hy, dy, fun r hr' => ?_, fun H2 t zs ss s2 nt ht dz pm le => ?_⟩
      · obtain ⟨a, b, c, d, rfl, _, R⟩ := (pf_mem clN r).mp hr'
        exact ⟨rfl, bd_row (by omega) (R.rng clN)⟩
      · refine ⟨t, zs, rfl, .inl ⟨SqL.of ht, fun l nl => ?_⟩⟩
        have s12 := s1.trans s2
        refine k _ l zs ss (s12.trans (same_upd nl)) (s12.free nl) upd_same (dz.mono (same_upd nl)) ?_
        have := pf_rows clN (by omega) pm le
        exact ⟨this.up, this.mem⟩
end
end K0
set_option Elab.async false
set_option linter.all false
set_option maxRecDepth 100000
set_option maxHeartbeats 4000000
namespace K0
open PySem PySem.Spec PyProof.Rows L2 ZM
section
variable {P : Program} {w : World} {K : PySem.W.Frag} {mg : Str → Option Value} {base : Heap} {f : Addr} {fd : FuncData}
abbrev s_ck : Stmt := top 36
abbrev s_ln' : Stmt := top 38
abbrev s_rg : Stmt := top 39
abbrev s_lq : Stmt := top 40
/-- _law_clash -/
def spCk : Sp := fun vs H Q _ => ∃ (b : Addr) (n : Int) (x y : Nat) (q : List Pr), vs = [.ref b, .int (x : Int), .int (y : Int)] ∧ Cl n q ∧ Ls H b q ∧ Ret (.bl (hasP q x y)) H Q
theorem sc_ck : FnScope ["_law_pairs", "_law_x", "_law_y"] ["_law_pairs", "_law_x", "_law_y"] (defScope s_ck) := ⟨rfl, rfl, rfl, by decide +kernel, rfl, by decide +kernel, by decide +kernel⟩
theorem ok_ck (F : Fun K "_law_clash" "_law_clash" s_ck f fd) (B : Blt2 mg) : FnOk P w K mg base (L2.CX P w) 2 f fd ["_law_pairs", "_law_x", "_law_y"] spCk := by
  refine F.okX sc_ck (fun vs H Q E h => ?_) (fun cdv A outer s H vs Q E hr h => ?_)
  · obtain ⟨b, n, x, y, q, rfl, _⟩ := h
    rfl
  · obtain ⟨b, n, x, y, q, rfl, cl, hl, k⟩ := h
    have hu : (A.deeper (envOfC "_law_clash" (defScope s_ck) s.heap.objs.size f cdv)).units + 65 < cLine := by have := hr.un; omega
    refine ⟨_, pss_one (ps_ret (pe_cmpR (op_inD hu) (pe_tup (pa_cons (pe_callB (c_min rfl) (by rfl) B.min (by decide +kernel) (pa_cons (pv 1) (pa_cons (pv 2) pa_nil))) (pa_cons (pe_callB (c_max rfl) (by rfl) B.max (by decide +kernel) (pa_cons (pv 1) (pa_cons (pv 2) pa_nil))) pa_nil))) (pv 0) (by rfl))), ?_⟩
    refine ⟨_, rfl, _, rfl, _, _, rfl, _, rfl, _, rfl, _, _, rfl, (by show 2 ≤ sizeLine; decide), fun t nt => ?_⟩
    rw [min2, max2]
    have s2 : Same H (upd H t (.tup [.int (min (x : Int) y), .int (max (x : Int) y)])) := same_upd nt
    refine ⟨_, rfl, prD (min (x : Int) y, max (x : Int) y), _, (dt_pr (p := (min (x : Int) y, max (x : Int) y)) upd_same).dp, (hl.mono s2).dp, prD_shaped _, prsL_shaped _, ?_⟩
    rw [prs_any, hasP_mm cl]
    exact k _ s2
/-- pairs of neighbours -/
def lnP (k : Nat) : List Pr := (List.range k).map fun (x : Nat) => ((x : Int), (x : Int) + 1)
theorem lnP_succ (k : Nat) : lnP (k + 1) = lnP k ++ [((k : Int), (k : Int) + 1)] := by
  unfold lnP
  rw [List.range_succ, List.map_append]
  rfl
theorem lnP_len (k : Nat) : (lnP k).length = k := by unfold lnP; rw [List.length_map, List.length_range]
theorem new_upd {H G : Hp} {u : Addr} {o : HO} (n : H u = none) : New H (upd G u o) = upd (New H G) u o := by
  funext b
  by_cases e : b = u
  · rw [e, new_at n, upd_same, upd_same]
  · rw [upd_ne e]
    unfold New
    rw [upd_ne e]
theorem line_stepN {H H' : Hp} {D : Addr} {i : Nat} (nD : H D = none) (sm : Same H H') (g : Grow (New H H') D (lnP i)) (hi : i < 16) {u : Addr} (nu : H' u = none) :
    ∃ acc, (upd H' u (.tup [.int (i : Int), .int ((i : Int) + 1)])) D = some (.lst acc) ∧ acc.length < sizeLine ∧ Same H (upd (upd H' u (.tup [.int (i : Int), .int ((i : Int) + 1)])) D (.lst (acc ++ [.ref u]))) ∧ Grow (New H (upd (upd H' u (.tup [.int (i : Int), .int ((i : Int) + 1)])) D (.lst (acc ++ [.ref u])))) D (lnP (i + 1)) := by
  obtain ⟨as, hA, lA, _⟩ := g.at
  have s8 : Same H' (upd H' u (.tup [.int (i : Int), .int ((i : Int) + 1)])) := same_upd nu
  have hu : H u = none := sm.free nu
  refine ⟨as, s8 _ _ (same_new _ _ hA), ?_, same_keep nD (sm.trans s8), ?_⟩
  · rw [lA, lnP_len, sizeLine_eq]
    omega
  · rw [lnP_succ, new_upd nD, new_upd hu]
    exact g.push (by rw [new_at hu]; exact nu) hA
/-- _law_line -/
def spLine : Sp := fun vs H Q _ => ∃ (n : Int), vs = [.int n] ∧ 1 ≤ n ∧ n ≤ 16 ∧ ∀ H' D, Same H H' → H D = none → Grow (New H H') D (lnP (n - 1).toNat) → Q (.ref D) H'
theorem sc_ln' : FnScope ["_law_many", "_law_x"] ["_law_many"] (defScope s_ln') := ⟨rfl, rfl, rfl, by decide +kernel, rfl, by decide +kernel, by decide +kernel⟩
theorem line_step {H H' : Hp} {D : Addr} {i : Nat} (nD : H D = none) (sm : Same H H') (g : Grow H' D (lnP i)) (hi : i < 16) {u : Addr} (nu : H' u = none) :
    ∃ acc, (upd H' u (.tup [.int (i : Int), .int ((i : Int) + 1)])) D = some (.lst acc) ∧ acc.length < sizeLine ∧ Same H (upd (upd H' u (.tup [.int (i : Int), .int ((i : Int) + 1)])) D (.lst (acc ++ [.ref u]))) ∧ Grow (upd (upd H' u (.tup [.int (i : Int), .int ((i : Int) + 1)])) D (.lst (acc ++ [.ref u]))) D (lnP (i + 1)) := by
  obtain ⟨as, hA, lA, _⟩ := g.at
  have s8 : Same H' (upd H' u (.tup [.int (i : Int), .int ((i : Int) + 1)])) := same_upd nu
  refine ⟨as, s8 _ _ hA, ?_, same_keep nD (sm.trans s8), ?_⟩
  · rw [lA, lnP_len, sizeLine_eq]
    omega
  · rw [lnP_succ]
    exact g.push nu hA
theorem ok_ln' (F : Fun K "_law_line" "_law_line" s_ln' f fd) (B : Blt2 mg) : FnOk P w K mg base (L2.CX P w) 1 f fd ["_law_many"] spLine := by
  refine F.okX sc_ln' (fun vs H Q E h => ?_) (fun cdv A outer s H vs Q E hr h => ?_)
  · obtain ⟨n, rfl, _⟩ := h
    rfl
  · obtain ⟨n, rfl, n1, n16, k⟩ := h
    have nd := sc_ln'.nd
    refine ⟨_, pss_one (ps_ret (pe_lc (own := [("_law_x", 1)]) (g := gName 1) (tt := tYes) (te := tTup (tCons (tVar 1) (tCons (tOp (rI0 fun i j => .int (i + j)) (tVar 1) (tC (.int 1))) tNil))) rfl nd
      (pi_range1 (by rfl) B.range (pa_cons (pe_op op_sub (pv 0) pe_int) pa_nil)) (blkOk_by (N := ["_law_many", "_law_x"]) (sc := defScope s_ln') (by decide +kernel)) (fun _ _ _ _ _ => pg_name (i := 1) nd rfl (.inl rfl)) (fun _ _ _ _ _ => pts_nil)
      (fun _ _ _ _ _ => pe_tup (pa_cons (pv 1) (pa_cons (pe_op op_add (pv 1) pe_int) pa_nil))))), ?_⟩
    refine ⟨_, rfl, _, _, rfl, rfl, n - 1, rfl, by omega, by omega, fun D nD => ?_⟩
    refine lc_range (lo := 0) (n := (n - 1).toNat) (fun i H' => Same H H' ∧ Grow (New H H') D (lnP i)) ⟨same_upd nD, [], by rw [new_upd nD, upd_same]; rfl, rfl, fun z hz => by cases hz⟩ (fun i H' hi ⟨sm, g⟩ => ?_) (fun H' ⟨sm, g⟩ => k H' D sm nD g)
    refine ⟨rfl, ?_⟩
    rw [Int.zero_add]
    exact ⟨_, rfl, _, rfl, _, _, rfl, rfl, (by show 2 ≤ sizeLine; decide), fun u nu => line_stepN nD sm g (by omega) nu⟩
end
end K0
set_option Elab.async false
set_option linter.all false
set_option maxRecDepth 100000
set_option maxHeartbeats 4000000
namespace K0
open PySem PySem.Spec PyProof.Rows L2 ZM
theorem fil_snoc {α : Type} {l : List α} {p : α → Bool} {k : Nat} {e : α} (h : l[k]? = some e) : (l.take (k + 1)).filter p = (l.take k).filter p ++ if p e = true then [e] else [] := by
  rw [take_at h, List.filter_append]
  congr 1
  cases hp : p e <;> simp [hp]
theorem GrowR.ne {H : Hp} {D u : Addr} {rs : List Rw} (g : GrowR H D rs) (n : H u = none) : u ≠ D := fun e => by
  obtain ⟨xs, h, _⟩ := g.at
  rw [e, h] at n
  cases n
theorem lq3_len (n : Nat) (q : List Pr) (a b c : Nat) : (lq3 n q a b c).length ≤ n := by
  unfold lq3
  rw [List.length_map]
  exact Nat.le_trans (List.length_filter_le _ _) (fil_len _)
theorem lq2_len (n : Nat) (q : List Pr) (a b : Nat) : (lq2 n q a b).length ≤ n * n := Nat.le_trans (len_fm _ fun x _ => lq3_len n q a b x) (Nat.mul_le_mul_right _ (Nat.le_trans (List.length_filter_le _ _) (fil_len _)))
theorem lq1_len (n : Nat) (q : List Pr) (a : Nat) : (lq1 n q a).length ≤ n * (n * n) := Nat.le_trans (len_fm _ fun x _ => lq2_len n q a x) (Nat.mul_le_mul_right _ (fil_len _))
theorem lq_len (n : Nat) (q : List Pr) : (lq n q).length ≤ n * (n * (n * n)) := by
  have := len_fm (List.range n) (f := lq1 n q) fun x _ => lq1_len n q x
  rwa [List.length_range] at this
/-- the ring of five -/
def ring5 : List Pr := [(0, 1), (0, 4), (1, 2), (2, 3), (3, 4)]
theorem cl_ring5 : Cl 5 ring5 := ⟨by show List.Pairwise (fun a b : Pr => a.1 < b.1 ∨ (a.1 = b.1 ∧ a.2 < b.2)) ring5; decide, by decide⟩
section
variable {P : Program} {w : World} {K : PySem.W.Frag} {mg : Str → Option Value} {base : Heap} {f : Addr} {fd : FuncData}
/-- _law_ring -/
def spRing : Sp := fun vs H Q _ => vs = [.int 5] ∧ ∀ H' D, Same H H' → H D = none → Ls H' D ring5 → Q (.ref D) H'
theorem sc_rg : FnScope ["_law_many", "_law_pairs", "_law_x"] ["_law_many"] (defScope s_rg) := ⟨rfl, rfl, rfl, by decide +kernel, rfl, by decide +kernel, by decide +kernel⟩
theorem ok_rg (F : Fun K "_law_ring" "_law_ring" s_rg f fd) (B : Blt2 mg) : FnOk P w K mg base (L2.CX P w) 1 f fd ["_law_many"] spRing := by
  refine F.okX sc_rg (fun vs H Q E h => ?_) (fun cdv A outer s H vs Q E hr h => ?_)
  · obtain ⟨rfl, _⟩ := h
    rfl
  · obtain ⟨rfl, k⟩ := h
    have nd := sc_rg.nd
    refine ⟨_, pss_cons (ps_setLc (i := 1) (own := [("_law_x", 2)]) (g := gName 2) (tt := tYes) (te := tTup (tCons (tVar 2) (tCons (tOp (rI0 fun i j => .int (i + j)) (tVar 2) (tC (.int 1))) tNil))) rfl nd rfl (by rfl) (by rfl)
      (pi_range1 (by rfl) B.range (pa_cons (pe_op op_sub (pv 0) pe_int) pa_nil)) (blkOk_by (N := ["_law_many", "_law_pairs", "_law_x"]) (sc := defScope s_rg) (by decide +kernel)) (fun _ _ _ _ _ => pg_name (i := 2) nd rfl (.inl rfl)) (fun _ _ _ _ _ => pts_nil)
      (fun _ _ _ _ _ => pe_tup (pa_cons (pv 2) (pa_cons (pe_op op_add (pv 2) pe_int) pa_nil))))
      (pss_cons (ps_expr (pe_lapp (pv 1) (pa_cons (pe_tup (pa_cons pe_int (pa_cons (pe_op op_sub (pv 0) pe_int) pa_nil))) pa_nil)))
      (pss_one (ps_ret (pe_callB cr_srtP (by rfl) B.sorted (by decide +kernel) (pa_cons (pv 1) pa_nil))))), ?_⟩
    refine ⟨_, rfl, _, _, rfl, rfl, 4, rfl, by omega, by omega, fun D nD => ?_⟩
    refine lc_range (lo := 0) (n := 4) (fun i H' => Same H H' ∧ Grow H' D (lnP i)) ⟨same_upd nD, [], upd_same, rfl, fun z hz => by cases hz⟩ (fun i H' hi ⟨sm, g⟩ => ?_) (fun H' ⟨sm, g⟩ => ?_)
    · refine ⟨rfl, ?_⟩
      rw [Int.zero_add]
      exact ⟨_, rfl, _, rfl, _, _, rfl, rfl, (by show 2 ≤ sizeLine; decide), fun u nu => line_step nD sm g (by omega) nu⟩
    · obtain ⟨as, hA, lA, _⟩ := g.at
      refine ⟨_, rfl, .inl ⟨rfl, as, SqL.of hA⟩, _, rfl, _, _, rfl, rfl, (by show 2 ≤ sizeLine; decide), fun u nu => ?_⟩
      have s8 : Same H' (upd H' u (.tup [.int 0, .int (5 - 1)])) := same_upd nu
      refine ⟨D, as, _, rfl, rfl, s8 _ _ hA, (by rw [lA, lnP_len, sizeLine_eq]; omega), ?_⟩
      have g2 := g.push (x := 0) (y := 5 - 1) nu hA
      have s9 : Same H (upd (upd H' u (.tup [.int 0, .int (5 - 1)])) D (.lst (as ++ [.ref u]))) := same_keep nD (sm.trans s8)
      refine ⟨_, rfl, D, _, rfl, g2.ls, by decide, fun H2 p rs s2 np hl pw hm _ => ?_⟩
      have e : rs = ring5 := srt_unique pw cl_ring5.srt fun z => by
        rw [hm]
        have : ∀ z, z ∈ lnP 4 ++ [((0 : Int), (5 : Int) - 1)] ↔ z ∈ ring5 := fun z => by
          have e1 : lnP 4 ++ [((0 : Int), (5 : Int) - 1)] = [(0, 1), (1, 2), (2, 3), (3, 4), (0, 4)] := by decide
          rw [e1]
          simp only [ring5, List.mem_cons, List.not_mem_nil, or_false]
          constructor <;> (rintro (h | h | h | h | h) <;> simp [h])
        exact this z
      rw [e] at hl
      exact k H2 p (s9.trans s2) (s9.free np) hl
/-- _law_quads -/
def spLq : Sp := fun vs H Q _ => ∃ (b : Addr) (n : Int) (q : List Pr), vs = [.int n, .ref b] ∧ 0 ≤ n ∧ n ≤ 16 ∧ Cl n q ∧ Ls H b q ∧ ∀ H' t xs rs, Same H H' → H t = none → H' t = some (.lst xs) → DtAll H' xs (rs.map rwD) → IsRows n q rs → rs.length ≤ n.toNat * (n.toNat * (n.toNat * n.toNat)) → Q (.ref t) H'
theorem sc_lq : FnScope ["_law_many", "_law_pairs", "_law_quads_here", "_law_a", "_law_b", "_law_c", "_law_d"] ["_law_many", "_law_pairs"] (defScope s_lq) := ⟨rfl, rfl, rfl, by decide +kernel, rfl, by decide +kernel, by decide +kernel⟩
theorem ok_lq (F : Fun K "_law_quads" "_law_quads" s_lq f fd) (B : Blt3 mg) (NE : Df P w K mg base "_law_near" 2 ["_law_many", "_law_pairs", "_law_x"] spNe) (CK : Df P w K mg base "_law_clash" 2 ["_law_pairs", "_law_x", "_law_y"] spCk) : FnOk P w K mg base (L2.CX P w) 3 f fd ["_law_many", "_law_pairs"] spLq := by
  refine F.okX sc_lq (fun vs H Q E h => ?_) (fun cdv A outer s H vs Q E hr h => ?_)
  · obtain ⟨b, n, q, rfl, _⟩ := h
    rfl
  · obtain ⟨pb, n, q, rfl, n0, n16', cl, hl, k⟩ := h
    have nd := sc_lq.nd
    have r2 : Room 2 _ := hr.mono (by decide)
    have n16 : n.toNat ≤ 16 := by omega
    have clN : Cl (n.toNat : Int) q := by rw [Int.toNat_of_nonneg n0]; exact cl
    refine ⟨_, pss_cons (ps_set (i := 2) nd rfl (.inl rfl) (pe_lst pa_nil))
      (pss_cons (ps_for (passes_of rfl) rfl (pi_range1 (by rfl) B.range (pa_cons (pv 0) pa_nil)) (pg_name (i := 3) nd rfl (.inl rfl))
        (pss_one (ps_for (passes_of rfl) rfl (pi_list (pe_df NE r2 (by rfl) passUp (pa_cons (pv 0) (pa_cons (pv 1) (pa_cons (pv 3) pa_nil))))) (pg_name (i := 4) nd rfl (.inl rfl))
        (pss_one (ps_for (passes_of rfl) rfl (pi_list (pe_df NE r2 (by rfl) passUp (pa_cons (pv 0) (pa_cons (pv 1) (pa_cons (pv 4) pa_nil))))) (pg_name (i := 5) nd rfl (.inl rfl))
        (pss_one (ps_if (PW.pt (pw_and (pt_cmpR op_ne (pv 5) (pv 3) (by rfl)) (pw_and1 (pt_not (pt_val (pe_df CK r2 (by rfl) passUp (pa_cons (pv 1) (pa_cons (pv 3) (pa_cons (pv 5) pa_nil)))))))))
          (pss_one (ps_for (passes_of rfl) rfl (pi_list (pe_df NE r2 (by rfl) passUp (pa_cons (pv 0) (pa_cons (pv 1) (pa_cons (pv 5) pa_nil))))) (pg_name (i := 6) nd rfl (.inl rfl))
            (pss_one (ps_if (PW.pt (pw_and (pt_cmpR op_lt (pv 3) (pv 6) (nomark _)) (pw_and (pt_cmpR op_ne (pv 6) (pv 4) (by rfl)) (pw_and (pt_not (pt_val (pe_df CK r2 (by rfl) passUp (pa_cons (pv 1) (pa_cons (pv 4) (pa_cons (pv 6) pa_nil))))))
                (pw_and1 (pt_not (pt_val (pe_df CK r2 (by rfl) passUp (pa_cons (pv 1) (pa_cons (pv 3) (pa_cons (pv 6) pa_nil)))))))))))
              (pss_one (ps_expr (pe_lapp (pv 2) (pa_cons (pe_tup (pa_cons (pv 3) (pa_cons (pv 4) (pa_cons (pv 5) (pa_cons (pv 6) pa_nil))))) pa_nil)))) pss_nil)))) pss_nil)))))))
      (pss_one (ps_ret (pe_callB (cr_srtW (d := 4) (by decide)) (by rfl) B.sorted (by decide +kernel) (pa_cons (pv 2) pa_nil))))), ?_⟩
    refine ⟨by show 0 ≤ sizeLine; exact Nat.zero_le _, fun D nD => ?_⟩
    have s0 : Same H (upd H D (.lst [])) := same_upd nD
    let N := n.toNat
    let P1 : Nat → L2.St → Hp → Prop := fun i σ H' => ∃ o3 o4 o5 o6, σ = [some (.int n), some (.ref pb), some (.ref D), o3, o4, o5, o6] ∧ Same H H' ∧ GrowR H' D ((List.range i).flatMap (lq1 N q))
    refine ⟨_, rfl, n, rfl, by omega, by omega, for_range (n := n.toNat) P1 ⟨none, none, none, none, rfl, s0, GrowR.nil nD⟩ (fun a σ H1 ha h => ?_) (fun σ H1 h => ?_)⟩
    · obtain ⟨o3, o4, o5, o6, rfl, s1, g1⟩ := h
      rw [Int.zero_add]
      refine ⟨_, rfl, _, rfl, _, rfl, pb, n, a, q, rfl, n0, n16', cl, hl.mono s1, fun H2 ta s2 na hta => ?_⟩
      have taD : ta ≠ D := g1.ne na
      have la : ((List.range a).flatMap (lq1 N q)).length ≤ 65536 := by
        have h1 := len_fm (List.range a) (f := lq1 N q) fun x _ => lq1_len N q x
        rw [List.length_range] at h1
        exact Nat.le_trans h1 (Nat.le_trans (Nat.mul_le_mul (by omega : a ≤ 16) (Nat.mul_le_mul n16 (Nat.mul_le_mul n16 n16))) (by decide))
      let P2 : Nat → L2.St → Hp → Prop := fun j σ H' => ∃ o4 o5 o6, σ = [some (.int n), some (.ref pb), some (.ref D), some (.int (a : Int)), o4, o5, o6] ∧ Same H H' ∧ H' ta = some (.lst (nvs (near N q a))) ∧ GrowR H' D ((List.range a).flatMap (lq1 N q) ++ ((near N q a).take j).flatMap (lq2 N q a))
      refine ⟨ta, rfl, ⟨_, SqL.of hta⟩, for_list (K := K) (a := ta) (xs := nvs (near N q a)) P2 ⟨o4, o5, o6, rfl, s1.trans s2, hta, by simpa using g1.mono s2⟩ (fun j σ H' _ h => ?_) (fun j v σ H3 hj h => ?_) (fun σ H3 h => ?_)⟩
      · obtain ⟨_, _, _, _, _, ht, _⟩ := h
        exact SqL.of ht
      · obtain ⟨o4, o5, o6, rfl, s3, hta3, g3⟩ := h
        obtain ⟨b, hb, rfl⟩ := nvs_val hj
        have lb : (((near N q a).take j).flatMap (lq2 N q a)).length ≤ 4096 := by
          have h1 := fm_len (near N q a) j (f := lq2 N q a) fun x _ => lq2_len N q a x
          exact Nat.le_trans h1 (Nat.le_trans (Nat.mul_le_mul (Nat.le_trans (fil_len _) n16) (Nat.mul_le_mul n16 n16)) (by decide))
        refine ⟨_, rfl, _, rfl, _, rfl, pb, n, b, q, rfl, n0, n16', cl, hl.mono s3, fun H4 tb s4 nb htb => ?_⟩
        have tbD : tb ≠ D := g3.ne nb
        let AB : List Rw := (List.range a).flatMap (lq1 N q) ++ ((near N q a).take j).flatMap (lq2 N q a)
        have eAB : AB.length = ((List.range a).flatMap (lq1 N q)).length + (((near N q a).take j).flatMap (lq2 N q a)).length := List.length_append
        let pc : Nat → Bool := fun c => !decide (c = a) && !hasP q a c
        let P3 : Nat → L2.St → Hp → Prop := fun k σ H' => ∃ o5 o6, σ = [some (.int n), some (.ref pb), some (.ref D), some (.int (a : Int)), some (.int (b : Int)), o5, o6] ∧ Same H H' ∧ H' ta = some (.lst (nvs (near N q a))) ∧ H' tb = some (.lst (nvs (near N q b))) ∧ GrowR H' D (AB ++ (((near N q b).take k).filter pc).flatMap (lq3 N q a b))
        refine ⟨tb, rfl, ⟨_, SqL.of htb⟩, for_list (K := K) (a := tb) (xs := nvs (near N q b)) P3 ⟨o5, o6, rfl, s3.trans s4, s4 _ _ hta3, htb, by simpa [AB] using g3.mono s4⟩ (fun k σ H' _ h => ?_) (fun k v σ H5 hk h => ?_) (fun σ H5 h => ?_)⟩
        · obtain ⟨_, _, _, _, _, ht, _⟩ := h
          exact SqL.of ht
        · obtain ⟨o5, o6, rfl, s5, hta5, htb5, g5⟩ := h
          obtain ⟨c, hc, rfl⟩ := nvs_val hk
          have lc : ((((near N q b).take k).filter pc).flatMap (lq3 N q a b)).length ≤ 256 := by
            have h1 := len_fm (((near N q b).take k).filter pc) (f := lq3 N q a b) fun x _ => lq3_len N q a b x
            refine Nat.le_trans h1 (Nat.le_trans (Nat.mul_le_mul (Nat.le_trans (List.length_filter_le _ _) ?_) n16) (by decide : 16 * 16 ≤ 256))
            rw [List.length_take]
            exact Nat.le_trans (Nat.min_le_right _ _) (Nat.le_trans (fil_len _) n16)
          have ex : pc c = (!decide (c = a) && !hasP q a c) := rfl
          have skip : ∀ {H' : Hp}, Same H5 H' → pc c = false → GrowR H' D (AB ++ (((near N q b).take (k + 1)).filter pc).flatMap (lq3 N q a b)) := fun s e => by
            rw [fil_snoc hc, e]
            simpa using g5.mono s
          refine ⟨_, rfl, _, rfl, rfl, _, rfl, ?_⟩
          rw [dec_int]
          by_cases ca : c = a
          · rw [show (!(((c : Nat) : Int) == ((a : Nat) : Int))) = false by simp [ca]]
            refine iteF (iteF ⟨_, _, rfl, s5, hta5, htb5, skip (Same.refl _) ?_⟩)
            rw [ex, decide_eq_true ca]
            rfl
          rw [show (!(((c : Nat) : Int) == ((a : Nat) : Int))) = true by simp; omega]
          refine iteT ⟨_, rfl, _, rfl, _, rfl, pb, n, a, c, q, rfl, cl, hl.mono s5, fun H6 s6 => ⟨_, rfl, ?_⟩⟩
          have s56 := s5.trans s6
          cases hac : hasP q a c with
          | true =>
            refine iteF ⟨_, _, rfl, s56, s6 _ _ hta5, s6 _ _ htb5, skip s6 ?_⟩
            rw [ex, hac]
            simp
          | false =>
            refine iteT ⟨_, rfl, _, rfl, _, rfl, pb, n, c, q, rfl, n0, n16', cl, hl.mono s56, fun H7 tc s7 nc htc => ?_⟩
            have tcD : tc ≠ D := (g5.mono s6).ne nc
            have s57 := s56.trans s7
            let AC : List Rw := AB ++ (((near N q b).take k).filter pc).flatMap (lq3 N q a b)
            have eAC : AC.length = AB.length + ((((near N q b).take k).filter pc).flatMap (lq3 N q a b)).length := List.length_append
            let pd : Nat → Bool := fun d => decide (a < d) && (!decide (d = b) && (!hasP q b d && !hasP q a d))
            let R3 : Nat → List Rw := fun i => (((near N q c).take i).filter pd).map (row4 a b c)
            let P4 : Nat → L2.St → Hp → Prop := fun i σ H' => ∃ o6, σ = [some (.int n), some (.ref pb), some (.ref D), some (.int (a : Int)), some (.int (b : Int)), some (.int (c : Int)), o6] ∧ Same H H' ∧ H' ta = some (.lst (nvs (near N q a))) ∧ H' tb = some (.lst (nvs (near N q b))) ∧ H' tc = some (.lst (nvs (near N q c))) ∧ GrowR H' D (AC ++ R3 i)
            have lR : ∀ i, (R3 i).length ≤ 16 := fun i => by
              show (List.map _ _).length ≤ _
              rw [List.length_map]
              refine Nat.le_trans (List.length_filter_le _ _) ?_
              rw [List.length_take]
              exact Nat.le_trans (Nat.min_le_right _ _) (Nat.le_trans (fil_len _) n16)
            refine ⟨tc, rfl, ⟨_, SqL.of htc⟩, for_list (K := K) (a := tc) (xs := nvs (near N q c)) P4 ⟨o6, rfl, s57, s7 _ _ (s6 _ _ hta5), s7 _ _ (s6 _ _ htb5), htc, by simpa [AC, R3] using g5.mono (s6.trans s7)⟩ (fun i σ H' _ h => ?_) (fun i v σ H8 hi h => ?_) (fun σ H8 h => ?_)⟩
            · obtain ⟨_, _, _, _, _, ht, _⟩ := h
              exact SqL.of ht
            · obtain ⟨o6, rfl, s8, hta8, htb8, htc8, g8⟩ := h
              obtain ⟨d, hd, rfl⟩ := nvs_val hi
              have eR : R3 (i + 1) = R3 i ++ (if pd d = true then [row4 a b c d] else []) := by
                show (List.map _ _) = _
                rw [fil_snoc hd, List.map_append]
                congr 1
                cases pd d <;> rfl
              have ed : pd d = (decide (a < d) && (!decide (d = b) && (!hasP q b d && !hasP q a d))) := rfl
              have no : ∀ {H' : Hp}, Same H8 H' → pd d = false → P4 (i + 1) [some (.int n), some (.ref pb), some (.ref D), some (.int (a : Int)), some (.int (b : Int)), some (.int (c : Int)), some (.int (d : Int))] H' := fun {H'} s e => by
                refine ⟨_, rfl, s8.trans s, s _ _ hta8, s _ _ htb8, s _ _ htc8, ?_⟩
                rw [eR, e]
                simpa using g8.mono s
              refine ⟨_, rfl, _, rfl, _, _, rfl, rfl, _, rfl, ?_⟩
              by_cases lt : a < d
              case neg =>
                rw [decide_eq_false (by omega : ¬ (a : Int) < (d : Int))]
                refine iteF (iteF (no (Same.refl _) ?_))
                rw [ed, decide_eq_false lt]
                rfl
              rw [decide_eq_true (by omega : (a : Int) < (d : Int))]
              refine iteT ⟨_, rfl, _, rfl, rfl, _, rfl, ?_⟩
              rw [dec_int]
              by_cases db : d = b
              · rw [show (!(((d : Nat) : Int) == ((b : Nat) : Int))) = false by simp [db]]
                refine iteF (iteF (no (Same.refl _) ?_))
                rw [ed, decide_eq_true db]
                simp
              rw [show (!(((d : Nat) : Int) == ((b : Nat) : Int))) = true by simp; omega]
              refine iteT ⟨_, rfl, _, rfl, _, rfl, pb, n, b, d, q, rfl, cl, hl.mono s8, fun H9 s9 => ⟨_, rfl, ?_⟩⟩
              cases hbd : hasP q b d with
              | true =>
                refine iteF (iteF (no s9 ?_))
                rw [ed, hbd]
                simp
              | false =>
                refine iteT ⟨_, rfl, _, rfl, _, rfl, pb, n, a, d, q, rfl, cl, hl.mono (s8.trans s9), fun H10 s10 => ⟨_, rfl, ?_⟩⟩
                have s910 := s9.trans s10
                cases had : hasP q a d with
                | true =>
                  refine iteF (no s910 ?_)
                  rw [ed, had]
                  simp
                | false =>
                  have g10 := g8.mono s910
                  obtain ⟨as, hA, lA, _⟩ := g10.at
                  refine iteT ⟨_, rfl, .inl ⟨rfl, as, SqL.of hA⟩, _, rfl, _, rfl, _, rfl, _, rfl, (by show 4 ≤ sizeLine; decide), fun u nu => ?_⟩
                  have s11 : Same H10 (upd H10 u (.tup ((row4 a b c d).map V.int))) := same_upd nu
                  have up : pd d = true := by
                    rw [ed, hbd, had, decide_eq_true lt, decide_eq_false db]
                    rfl
                  refine ⟨D, as, _, rfl, rfl, s11 _ _ hA, ?_, ⟨_, rfl, same_keep nD ((s8.trans s910).trans s11), ?_, ?_, ?_, ?_⟩⟩
                  · have := lR i
                    have e1 : (AC ++ R3 i).length = AC.length + (R3 i).length := List.length_append
                    rw [lA, e1, sizeLine_eq]
                    omega
                  · rw [upd_ne taD]
                    exact s11 _ _ (s910 _ _ hta8)
                  · rw [upd_ne tbD]
                    exact s11 _ _ (s910 _ _ htb8)
                  · rw [upd_ne tcD]
                    exact s11 _ _ (s910 _ _ htc8)
                  · have g11 := g10.push (r := row4 a b c d) nu hA
                    rw [eR, if_pos up, ← List.append_assoc]
                    exact g11
            · obtain ⟨o6, rfl, s8, hta8, htb8, htc8, g8⟩ := h
              rw [nvs_len] at g8
              refine ⟨_, _, rfl, s8, hta8, htb8, ?_⟩
              have e1 : R3 (near N q c).length = lq3 N q a b c := by
                show (List.map _ _) = _
                rw [List.take_length]
                rfl
              have up : pc c = true := by
                rw [ex, hac, decide_eq_false ca]
                rfl
              rw [e1] at g8
              rw [fil_snoc hc, if_pos up, List.flatMap_append, ← List.append_assoc]
              simpa [AC] using g8
        · obtain ⟨o5, o6, rfl, s5, hta5, htb5, g5⟩ := h
          rw [nvs_len, List.take_length] at g5
          refine ⟨_, _, _, rfl, s5, hta5, ?_⟩
          rw [fm_snoc hb, ← List.append_assoc]
          exact g5
      · obtain ⟨o4, o5, o6, rfl, s3, ht3, g3⟩ := h
        rw [nvs_len, List.take_length] at g3
        refine ⟨_, _, _, _, rfl, s3, ?_⟩
        rw [List.range_succ, List.flatMap_append]
        simpa [lq1] using g3
    · obtain ⟨o3, o4, o5, o6, rfl, s1, g1⟩ := h
      obtain ⟨ys, hy, ly, dy⟩ := g1.at
      have eP : (List.range n.toNat).flatMap (lq1 N q) = lq N q := rfl
      rw [eP] at dy
      refine ⟨_, rfl, D, lq N q, ys, rfl, hy, dy, fun r hr' => ?_, fun H2 t zs ss s2 nt ht dz pm le => ?_⟩
      · obtain ⟨a, b, c, d, rfl, _, R⟩ := (lq_mem clN r).mp hr'
        exact ⟨rfl, bd_row (by omega) (R.rng clN)⟩
      · have is := lq_rows clN (by omega) pm le
        refine k H2 t zs ss (s1.trans s2) (s1.free nt) ht dz ⟨is.up, is.mem⟩ ?_
        rw [pm.length_eq]
        exact lq_len N q
end
end K0
set_option Elab.async false
set_option linter.all false
set_option maxRecDepth 100000
set_option maxHeartbeats 4000000
namespace K0
open PySem PySem.Spec PyProof.Rows L2 ZM
section
variable {X : Cx} {e : Expr} {es : List Expr} {t : TA} {p pos : Pos}
theorem pe_dfS {x : Str} {k : Nat} {ps : List Str} {sp : Sp} {E : L2.St → XK} (T : Df X.prog X.w X.K X.mg X.base x k ps sp) (hr : Room k X.A) (hg : Gl X x) (hx : ∀ σ, PassesAt (L2.CX X.prog X.w) X σ (E σ)) (ha : PA X (e :: es) t)
    (hdb : (x == ("__debug__" : Str)) = false := by decide) (he : starEach (e :: es) X.env = (false, eval e X.env) :: starEach es X.env := by rfl) (hpl : (backTo pos (starEach es X.env)).any (·.1) = false := by rfl) :
    PE X (.Call (.Name x p) (e :: es) [] pos) (tCallS sp E t) := by
  obtain ⟨f, fd, g, kp, F, b⟩ := T.ex
  refine ⟨fun pins s σ H Q I h => ?_⟩
  refine wpAny_Call_Name_kw (ld_glob I hg g ?_ hdb)
  refine PySem.W.callWith_K (h₀ := X.base) I.ok.mod.kin kp (thn (ha.run pos pins s σ H _ I h) fun us s1 ⟨vs, H1, I1, r, q⟩ => ⟨I1.kIn, ?_⟩) he hpl
  exact run_anyS ⟨hr, rfl⟩ F b (hx σ) I1 r q
end
/-- what the except clauses of this law look at -/
structure Erl (K : PySem.W.Frag) (CN CT CS : Addr) : Prop where
  nn : PySem.W.exmOne K (.ref CN) (.ref CN) = some true
  tn : PySem.W.exmOne K (.ref CT) (.ref CN) = some false
  tt : PySem.W.exmOne K (.ref CT) (.ref CT) = some true
  sn : PySem.W.exmOne K (.ref CS) (.ref CN) = some false
  st : PySem.W.exmOne K (.ref CS) (.ref CT) = some false
  ss : PySem.W.exmOne K (.ref CS) (.ref CS) = some true
  xN : XfC K CN
  xT : XfC K CT
  xS : XfC K CS
  fN : PySem.W.findIn K (.ref CN) "name" = some none
  fT : PySem.W.findIn K (.ref CT) "thing" = some none
  fS : PySem.W.findIn K (.ref CS) "name" = some none
/-- the names of the error classes -/
structure Ern (mg : Str → Option Value) (CN CT CS CO : Addr) : Prop where
  n : mg "BadNumber" = some (.ref CN)
  t : mg "BadThing" = some (.ref CT)
  s : mg "NoneSuch" = some (.ref CS)
  o : mg "OrdersError" = some (.ref CO)
section
variable {P : Program} {w : World} {K : PySem.W.Frag} {mg : Str → Option Value} {base : Heap} {f : Addr} {fd : FuncData}
abbrev s_tn : Stmt := top 47
/-- how _law_try_number is asked here -/
inductive TnK (C : Addr) (H : Hp) : Int → V → Addr → V → V → List Str → Prop
  | th {o h v : V} {a : Addr} {ws : List Wb} {d : PyData} : WsL C H a ws → ws.length ≤ 1000 → Dt H v d → okN 0 d = false → TnK C H 0 o a v h ["number", "thing"]
  | sy {o h : V} {a : Addr} {ws : List Wb} {t : Int} : WsL C H a ws → ws.length ≤ 1000 → 0 ≤ t → tot ws ≤ t → TnK C H 0 o a (.int t) h ["such", "thing"]
  | no {o h v : V} {a : Addr} {ws : List Wb} {dv dh : PyData} {s : Str} : WsL C H a ws → ws.length ≤ 1000 → Dt H v dv → Dt H h dh → isTh (ws.length : Int) dv = false → reprD dv = some s → TnK C H 1 o a v h ["thing", s]
  | nh {o h : V} {a : Addr} {ws : List Wb} {u : Nat} {dh : PyData} {s : Str} : WsL C H a ws → ws.length ≤ 1000 → u < ws.length → Dt H h dh → isTh (nW ws u) dh = false → reprD dh = some s → TnK C H 1 o a (.int (u : Int)) h ["thing", s]
  | pu {v h : V} {p a : Addr} {ws : List Wb} {n : Int} {q : List Pr} : WsL C H a ws → ws.length ≤ 1000 → WebAt C H p n q → (ws.length : Int) ≠ n → TnK C H 2 (.ref p) a v h ["number", "webs"]
def spTn (C : Addr) : Sp := fun vs H Q _ => ∃ (k : Int) (o : V) (a : Addr) (v h : V) (ss : List Str), vs = [.int k, o, .ref a, v, h] ∧ TnK C H k o a v h ss ∧ NewS ss H Q
theorem sc_tn : FnScope ["_law_deed", "_law_outer_here", "_law_webs", "_law_v", "_law_h", "_law_told", "error"] ["_law_deed", "_law_outer_here", "_law_webs", "_law_v", "_law_h"] (defScope s_tn) := ⟨rfl, rfl, rfl, by decide +kernel, rfl, by decide +kernel, by decide +kernel⟩
def ifD (i : Int) (t : TS) : TS := tIfS (tTest (tOp rEq (tVar 0) (tC (.int i)))) t tNext
theorem TnK.mono {C : Addr} {H H' : Hp} (s : Same H H') {k : Int} {o v h : V} {a : Addr} {ss : List Str} : TnK C H k o a v h ss → TnK C H' k o a v h ss
  | .th w l d z => .th (w.mono s) l (d.mono s) z
  | .sy w l z y => .sy (w.mono s) l z y
  | .no w l d e z r => .no (w.mono s) l (d.mono s) (e.mono s) z r
  | .nh w l u d z r => .nh (w.mono s) l u (d.mono s) z r
  | .pu w l p z => .pu (w.mono s) l (p.mono s) z
theorem ok_tn {C CN CW CT CS CO : Addr} (F : Fun K "_law_try_number" "_law_try_number" s_tn f fd) (B : Blt3 mg) (L : Erl K CN CT CS) (N : Ern mg CN CT CS CO) (TO : Df P w K mg base "thing_of" 4 ["webs", "thing"] (spTo C CN CS)) (NO : Df P w K mg base "number_of" 4 ["webs", "v", "h"] (spNo C CT))
    (PI : Df P w K mg base "put_in" 6 ["outer", "webs"] (spPi K C CN)) : FnOk P w K mg base (L2.CX P w) 8 f fd ["_law_deed", "_law_outer_here", "_law_webs", "_law_v", "_law_h"] (spTn C) := by
  refine F.okX sc_tn (fun vs H Q E h => ?_) (fun cdv A outer s H vs Q E hr h => ?_)
  · obtain ⟨k, o, a, v, h, ss, rfl, _⟩ := h
    rfl
  · obtain ⟨k, o, a, v, h, ss, rfl, hk, ks⟩ := h
    have nd := sc_tn.nd
    have hr4 : Room 4 _ := hr.mono (by decide)
    have hr6 : Room 6 _ := hr.mono (by decide)
    refine ⟨_, pss_cons (ps_set (i := 5) nd rfl (.inl rfl) (pe_tup (pa_cons pe_str (pa_cons pe_str pa_nil))))
      (pss_cons (ps_try_any (tb := fun W => tSeq (ifD 0 (tDrop (tCallS (spTo C CN CS) (WE W) (tCons (tVar 2) (tCons (tVar 3) tNil)))))
          (tSeq (ifD 1 (tDrop (tCallS (spNo C CT) (WE W) (tCons (tVar 2) (tCons (tVar 3) (tCons (tVar 4) tNil))))))
          (ifD 2 (tDrop (tCallS (spPi K C CN) (WE W) (tCons (tVar 1) (tCons (tVar 2) tNil))))))) rfl rfl (takes_of rfl rfl rfl rfl)
        (fun W pn xe tk _ => pss_cons (ps_if (pt_cmpR op_eq (pv 0) pe_int (nomark _)) (pss_one (ps_expr (pe_dfS TO hr4 (by rfl) (fun σ => passAt tk σ) (pa_cons (pv 2) (pa_cons (pv 3) pa_nil))))) pss_nil)
          (pss_cons (ps_if (pt_cmpR op_eq (pv 0) pe_int (nomark _)) (pss_one (ps_expr (pe_dfS NO hr4 (by rfl) (fun σ => passAt tk σ) (pa_cons (pv 2) (pa_cons (pv 3) (pa_cons (pv 4) pa_nil)))))) pss_nil)
          (pss_one (ps_if (pt_cmpR op_eq (pv 0) pe_int (nomark _)) (pss_one (ps_expr (pe_dfS PI hr6 (by rfl) (fun σ => passAt tk σ) (pa_cons (pv 1) (pa_cons (pv 2) pa_nil))))) pss_nil))))
        (.as nd (i := 6) rfl rfl ⟨rfl, by decide, .inl N.n⟩ (fun a oe cls d pn hz hf => pss_one (ps_set (i := 5) nd rfl (.inl rfl) (pe_tup (pa_cons pe_str (pa_cons (pe_xf L.xN L.fN hz hf (pv 6)) pa_nil)))))
        (.as nd (i := 6) rfl rfl ⟨rfl, by decide, .inl N.t⟩ (fun a oe cls d pn hz hf => pss_one (ps_set (i := 5) nd rfl (.inl rfl) (pe_tup (pa_cons pe_str (pa_cons (pe_callB cr_repr (by rfl) B.repr (by decide +kernel) (pa_cons (pe_xf L.xT L.fT hz hf (pv 6)) pa_nil)) pa_nil)))))
        (.as nd (i := 6) rfl rfl ⟨rfl, by decide, .inl N.s⟩ (fun a oe cls d pn hz hf => pss_one (ps_set (i := 5) nd rfl (.inl rfl) (pe_tup (pa_cons pe_str (pa_cons (pe_xf L.xS L.fS hz hf (pv 6)) pa_nil)))))
        (.cons ⟨rfl, by decide, .inl N.o⟩ (fun a oe cls d pn hz hf => pss_one (ps_set (i := 5) nd rfl (.inl rfl) (pe_tup (pa_cons pe_str (pa_cons pe_str pa_nil))))) .nil)))))
      (pss_one (ps_ret (pv 5)))), ?_⟩
    refine ⟨by show 2 ≤ sizeLine; decide, fun t nt => ?_⟩
    have s1 : Same H (upd H t (.tup [.str "made", .str ""])) := same_upd nt
    cases hk with
    | th hw few hv bad =>
      refine ⟨_, rfl, rfl, true, rfl, iteT ⟨_, rfl, _, rfl, _, _, _, _, rfl, hw.mono s1, few, hv.mono s1, fun _ H' e sm he => ?_, fun t et h0 => ?_⟩⟩
      · refine ⟨true, L.nn, fun _ x nx => ?_, fun z => nomatch z⟩
        refine ⟨_, rfl, rfl, rfl, e, _, _, rfl, he, rfl, (by show 2 ≤ sizeLine; decide), fun u nu => ⟨_, rfl, ?_⟩⟩
        exact ks _ u ((s1.trans sm).trans (same_upd nu)) ((s1.trans sm).free nu) upd_same
      · exfalso
        subst et
        have z : ¬ (0 ≤ t) := of_decide_eq_false bad
        exact z h0
    | @sy _ _ _ ws t0 hw few h0 tt =>
      obtain ⟨xs, _, hw'⟩ := id hw
      refine ⟨_, rfl, rfl, true, rfl, iteT ⟨_, rfl, _, rfl, _, _, _, _, rfl, hw.mono s1, few, .int _, fun z => ?_, fun t' et h0' => ⟨fun u x lc => ?_, fun _ H' e sm he => ?_⟩⟩⟩
      · exfalso
        have z : ¬ (0 ≤ t0) := of_decide_eq_false z
        exact z h0
      · exfalso
        cases et
        have := (lc.rng hw'.wbs).2
        omega
      · refine ⟨false, L.sn, (fun z => nomatch z), fun _ => ⟨false, L.st, (fun z => nomatch z), fun _ => ⟨true, L.ss, fun _ x nx => ?_, fun z => nomatch z⟩⟩⟩
        refine ⟨_, rfl, rfl, rfl, e, _, _, rfl, he, rfl, (by show 2 ≤ sizeLine; decide), fun u nu => ⟨_, rfl, ?_⟩⟩
        exact ks _ u ((s1.trans sm).trans (same_upd nu)) ((s1.trans sm).free nu) upd_same
    | @no _ _ _ _ ws dv dh sv hw few hv hh bad hs =>
      refine ⟨_, rfl, rfl, false, rfl, iteF ⟨_, rfl, rfl, true, rfl, iteT ⟨_, rfl, _, rfl, _, rfl, _, _, _, _, _, _, rfl, hw.mono s1, few, hv.mono s1, hh.mono s1, fun _ H' e sm he => ?_, fun u eu hu => ?_⟩⟩⟩
      · refine ⟨false, L.tn, (fun z => nomatch z), fun _ => ⟨true, L.tt, fun _ x nx => ?_, fun z => nomatch z⟩⟩
        refine ⟨_, rfl, rfl, rfl, e, _, _, rfl, he, rfl, _, dv, sv, rfl, hv.mono (s1.trans sm), hs, (by show 2 ≤ sizeLine; decide), fun u nu => ⟨_, rfl, ?_⟩⟩
        exact ks _ u ((s1.trans sm).trans (same_upd nu)) ((s1.trans sm).free nu) upd_same
      · exfalso
        subst eu
        have z : ¬ (0 ≤ (u : Int) ∧ (u : Int) < (ws.length : Int)) := of_decide_eq_false bad
        omega
    | @nh _ _ _ ws u dh sh hw few hu hh bad hs =>
      refine ⟨_, rfl, rfl, false, rfl, iteF ⟨_, rfl, rfl, true, rfl, iteT ⟨_, rfl, _, rfl, _, rfl, _, _, _, _, _, _, rfl, hw.mono s1, few, .int _, hh.mono s1, (fun z => ?_), fun u' eu hu' => ?_⟩⟩⟩
      · exfalso
        have z : ¬ (0 ≤ (u : Int) ∧ (u : Int) < (ws.length : Int)) := of_decide_eq_false z
        omega
      · obtain rfl : u = u' := by
          cases eu
          rfl
        refine ⟨fun _ H' e sm he => ?_, fun x ex h0 h1 => ?_⟩
        · refine ⟨false, L.tn, (fun z => nomatch z), fun _ => ⟨true, L.tt, fun _ x nx => ?_, fun z => nomatch z⟩⟩
          refine ⟨_, rfl, rfl, rfl, e, _, _, rfl, he, rfl, _, dh, sh, rfl, hh.mono (s1.trans sm), hs, (by show 2 ≤ sizeLine; decide), fun u nu => ⟨_, rfl, ?_⟩⟩
          exact ks _ u ((s1.trans sm).trans (same_upd nu)) ((s1.trans sm).free nu) upd_same
        · exfalso
          subst ex
          have z : ¬ (0 ≤ x ∧ x < nW ws u) := of_decide_eq_false bad
          omega
    | pu hw few W ne =>
      refine ⟨_, rfl, rfl, false, rfl, iteF ⟨_, rfl, rfl, false, rfl, iteF ⟨_, rfl, rfl, true, rfl, iteT ⟨_, rfl, _, rfl, _, _, _, _, _, rfl, W.mono s1, (hw.mono s1).q, few, fun _ H' e sm he => ?_, fun z => absurd z ne⟩⟩⟩⟩
      refine ⟨true, L.nn, fun _ x nx => ?_, fun z => nomatch z⟩
      refine ⟨_, rfl, rfl, rfl, e, _, _, rfl, he, rfl, (by show 2 ≤ sizeLine; decide), fun u nu => ⟨_, rfl, ?_⟩⟩
      exact ks _ u ((s1.trans sm).trans (same_upd nu)) ((s1.trans sm).free nu) upd_same
end
end K0
set_option Elab.async false
set_option linter.all false
set_option maxRecDepth 100000
set_option maxHeartbeats 4000000
namespace K0
open PySem PySem.Spec PyProof.Rows L2 ZM
/-! ### the law's own webs: a number and a list of pairs -/
def LwAt (H : Hp) (v : V) (x : Wb) : Prop := ∃ a c, v = .ref a ∧ H a = some (.lst [.int x.1, .ref c]) ∧ Ls H c x.2
theorem LwAt.mono {H H' : Hp} (s : Same H H') {v : V} {x : Wb} : LwAt H v x → LwAt H' v x := fun ⟨a, c, e, h, l⟩ => ⟨a, c, e, s _ _ h, l.mono s⟩
inductive LwAll (H : Hp) : List V → List Wb → Prop
  | nil : LwAll H [] []
  | cons {v : V} {x : Wb} {xs : List V} {ws : List Wb} (h : LwAt H v x) (t : LwAll H xs ws) : LwAll H (v :: xs) (x :: ws)
theorem LwAll.mono {H H' : Hp} (s : Same H H') : ∀ {xs ws}, LwAll H xs ws → LwAll H' xs ws
  | _, _, .nil => .nil
  | _, _, .cons h t => .cons (h.mono s) (t.mono s)
theorem LwAll.len {H : Hp} : ∀ {xs ws}, LwAll H xs ws → xs.length = ws.length
  | _, _, .nil => rfl
  | _, _, .cons _ t => congrArg (· + 1) t.len
theorem LwAll.at {H : Hp} : ∀ {xs ws} {i : Nat} {v : V}, LwAll H xs ws → xs[i]? = some v → LwAt H v (nW ws i, qW ws i)
  | _, _, _, _, .nil, e => by simp at e
  | _, _, 0, _, .cons h _, e => by
    have z := Option.some.inj e
    subst z
    exact h
  | _, _, i + 1, _, .cons _ t, e => LwAll.at (i := i) t e
theorem LwAll.take {H : Hp} : ∀ {xs ws} (k : Nat), LwAll H xs ws → LwAll H (xs.take k) (ws.take k)
  | _, _, 0, h => .nil
  | _, _, _ + 1, .nil => .nil
  | _, _, k + 1, .cons h t => .cons h (t.take k)
theorem LwAll.app {H : Hp} : ∀ {xs ys ws vs}, LwAll H xs ws → LwAll H ys vs → LwAll H (xs ++ ys) (ws ++ vs)
  | _, _, _, _, .nil, h => h
  | _, _, _, _, .cons a t, h => .cons a (t.app h)
/-- a list of them -/
def LwL (H : Hp) (a : Addr) (ws : List Wb) : Prop := ∃ xs, H a = some (.lst xs) ∧ LwAll H xs ws
theorem LwL.mono {H H' : Hp} (s : Same H H') {a : Addr} {ws : List Wb} : LwL H a ws → LwL H' a ws := fun ⟨xs, h, l⟩ => ⟨xs, s _ _ h, l.mono s⟩
theorem DrO.mono {H H' : Hp} (s : Same H H') {d : Addr} : DrO H d → DrO H' d := fun ⟨ns, h, p⟩ => ⟨ns, s _ _ h, p⟩
/-- a list of pairs, apart from the draws -/
theorem Ls.del {H : Hp} {D d : Addr} {q : List Pr} (h : Ls H D q) (dr : DrO H d) (ne : D ≠ d) : Ls (del H d) D q := by
  obtain ⟨ys, hD, hy⟩ := h
  obtain ⟨e, hh⟩ := dta_kH hy
  refine ⟨ys, by rw [del_ne ne]; exact hD, ?_⟩
  rw [← e]
  refine dta_of fun y hy' => ?_
  obtain ⟨t, e1, e2⟩ := hh y hy'
  refine ⟨t, e1, ?_⟩
  have : t ≠ d := fun z => by
    obtain ⟨ns, h1, _⟩ := dr
    rw [z, h1] at e2
    cases e2
  rw [del_ne this]
  exact e2
theorem nd_at {H G : Hp} {d b : Addr} {o : HO} (n : H b = none) (ne : b ≠ d) (h : G b = some o) : New H (del G d) b = some o := by
  rw [new_at n, del_ne ne]
  exact h
/-- the webs the law puts in -/
inductive OkIn : Wb → Prop
  | z0 : OkIn (0, [])
  | z1 : OkIn (1, [])
  | n2 : OkIn (2, [])
  | c2 : OkIn (2, [(0, 1)])
  | l4 : OkIn (4, lnP 3)
/-- the webs it puts them into -/
def OkOut (x : Wb) : Prop := Cl x.1 x.2 ∧ 2 ≤ x.1 ∧ (x.1 ≤ 4 ∨ x = (5, ring5))
section
variable {P : Program} {w : World} {K : PySem.W.Frag} {mg : Str → Option Value} {base : Heap} {f : Addr} {fd : FuncData}
abbrev s_ou : Stmt := top 48
abbrev s_in' : Stmt := top 49
abbrev s_ins : Stmt := top 50
/-- _law_outer -/
def spOu : Sp := fun vs H Q _ => ∃ (d : Addr), vs = [.ref d] ∧ DrO H d ∧ ∀ H' v x, Same (del H d) H' → DrO H' d → LwAt (del H' d) v x → OkOut x → Q v H'
theorem sc_ou : FnScope ["_law_draws_here", "_law_word"] ["_law_draws_here"] (defScope s_ou) := ⟨rfl, rfl, rfl, by decide +kernel, rfl, by decide +kernel, by decide +kernel⟩
theorem cl_ln3 : Cl 4 (lnP 3) := ⟨by show List.Pairwise (fun a b : Pr => a.1 < b.1 ∨ (a.1 = b.1 ∧ a.2 < b.2)) (lnP 3); decide, by decide⟩
theorem lw_up {H G : Hp} {d c A : Addr} {n : Int} {q : List Pr} (sm : Same (del H d) G) (dr : DrO G d) (g : Ls (del G d) c q) (nA : G A = none) :
    Same (del H d) (upd G A (.lst [.int n, .ref c])) ∧ DrO (upd G A (.lst [.int n, .ref c])) d ∧ LwAt (del (upd G A (.lst [.int n, .ref c])) d) (.ref A) (n, q) := by
  have Ad := dr.ne nA
  have hA := sd_none sm nA Ad
  refine ⟨sd_upd sm hA Ad, dr.upd Ad, A, c, rfl, by rw [del_ne Ad, upd_same], ?_⟩
  rw [del_upd_ne Ad]
  exact g.mono (same_upd (by rw [del_ne Ad]; exact nA))
theorem lw_upN {H G : Hp} {d c A : Addr} {n : Int} {q : List Pr} (sm : Same (del H d) G) (dr : DrO G d) (g : Ls (New H (del G d)) c q) (nA : G A = none) :
    Same (del H d) (upd G A (.lst [.int n, .ref c])) ∧ DrO (upd G A (.lst [.int n, .ref c])) d ∧ LwAt (New H (del (upd G A (.lst [.int n, .ref c])) d)) (.ref A) (n, q) := by
  have Ad := dr.ne nA
  have hA := sd_none sm nA Ad
  refine ⟨sd_upd sm hA Ad, dr.upd Ad, A, c, rfl, nd_at hA Ad upd_same, ?_⟩
  rw [del_upd_ne Ad, new_upd hA]
  exact g.mono (same_upd (by rw [new_at hA, del_ne Ad]; exact nA))
theorem ok_ou (F : Fun K "_law_outer" "_law_outer" s_ou f fd) (B : Blt3 mg) (TK : Df P w K mg base "_law_take" 1 ["_law_draws_here", "_law_many"] spTk) (WD : Df P w K mg base "_law_web_drawn" 2 ["_law_draws_here", "_law_most"] spWd) (LN : Df P w K mg base "_law_line" 1 ["_law_many"] spLine)
    (RG : Df P w K mg base "_law_ring" 1 ["_law_many"] spRing) : FnOk P w K mg base (L2.CX P w) 3 f fd ["_law_draws_here"] spOu := by
  refine F.okX sc_ou (fun vs H Q E h => ?_) (fun cdv A outer s H vs Q E hr h => ?_)
  · obtain ⟨d, rfl, _⟩ := h
    rfl
  · obtain ⟨d, rfl, dr, k⟩ := h
    have nd := sc_ou.nd
    have r1 : Room 1 _ := hr.mono (by decide)
    have r2 : Room 2 _ := hr.mono (by decide)
    refine ⟨_, pss_cons (ps_set (i := 1) nd rfl (.inl rfl) (pe_df TK r1 (by rfl) passUp (pa_cons (pv 0) (pa_cons pe_int pa_nil))))
      (pss_cons (ps_if (pt_cmpR op_eq (pv 1) pe_int (nomark _)) (pss_one (ps_ret (pe_lst (pa_cons pe_int (pa_cons (pe_df RG r1 (by rfl) passUp (pa_cons pe_int pa_nil)) pa_nil))))) pss_nil)
      (pss_cons (ps_if (pt_cmpR op_eq (pv 1) pe_int (nomark _)) (pss_one (ps_ret (pe_df WD r2 (by rfl) passUp (pa_cons (pv 0) (pa_cons pe_int pa_nil))))) pss_nil)
      (pss_one (ps_ret (pe_lst (pa_cons pe_int (pa_cons (pe_df LN r1 (by rfl) passUp (pa_cons pe_int pa_nil)) pa_nil))))))), ?_⟩
    refine ⟨_, rfl, d, 4, rfl, by decide, dr, fun r H1 r0 r4 s1 dr1 => ?_⟩
    refine ⟨_, rfl, rfl, _, rfl, ?_⟩
    rw [dec_int]
    by_cases e1 : r = 1
    · subst e1
      refine iteT ⟨rfl, fun H2 D s2 nD hD => ⟨by show 2 ≤ sizeLine; decide, fun A nA => ?_⟩⟩
      have Dd := dr1.ne nD
      have dr2 := dr1.mono s2
      obtain ⟨a, b, c⟩ := lw_up (n := 5) (sd_trans s1 (del_sub.trans s2)) dr2 (hD.del dr2 Dd) nA
      exact k _ _ _ a b c ⟨cl_ring5, by decide, .inr rfl⟩
    · rw [show (r == 1) = false by simpa using e1]
      refine iteF ⟨_, rfl, rfl, _, rfl, ?_⟩
      rw [dec_int]
      by_cases e2 : r = 2
      · subst e2
        refine iteT ⟨_, rfl, d, 4, rfl, by decide, by decide, dr1, fun H2 a b n q s2 dr2 na nb ha hb n2 n4 cl => ?_⟩
        have ad := dr1.ne na
        refine k _ _ (n, q) (sd_trans s1 s2) dr2 ⟨a, b, rfl, by rw [del_ne ad]; exact ha, hb.ls⟩ ⟨cl, n2, .inl n4⟩
      · rw [show (r == 2) = false by simpa using e2]
        refine iteF ⟨4, rfl, by decide, by decide, fun H2 D s2 nD hD => ⟨by show 2 ≤ sizeLine; decide, fun A nA => ?_⟩⟩
        have Dd := dr1.ne nD
        have dr2 := dr1.mono s2
        obtain ⟨a, b, c⟩ := lw_up (n := 4) (sd_trans s1 (del_sub.trans s2)) dr2 ((hD.mono same_new).ls.del dr2 Dd) nA
        exact k _ _ _ a b c ⟨cl_ln3, by decide, .inl (by decide)⟩
end
end K0
set_option Elab.async false
set_option linter.all false
set_option maxRecDepth 100000
set_option maxHeartbeats 4000000
namespace K0
open PySem PySem.Spec PyProof.Rows L2 ZM
section
variable {P : Program} {w : World} {K : PySem.W.Frag} {mg : Str → Option Value} {base : Heap} {f : Addr} {fd : FuncData}
/-- _law_inner -/
def spInn : Sp := fun vs H Q _ => ∃ (d : Addr) (b : Bool), vs = [.ref d, .bl b] ∧ DrO H d ∧ ∀ H' v x, Same (del H d) H' → DrO H' d → LwAt (New H (del H' d)) v x → OkIn x → (b = false → x.1 ≤ 2) → Q v H'
theorem sc_in' : FnScope ["_law_draws_here", "_law_small", "_law_word"] ["_law_draws_here", "_law_small"] (defScope s_in') := ⟨rfl, rfl, rfl, by decide +kernel, rfl, by decide +kernel, by decide +kernel⟩
theorem nil_ls {H G : Hp} {d c : Addr} (sm : Same (del H d) G) (dr : DrO G d) (nc : G c = none) : Same (del H d) (upd G c (.lst [])) ∧ DrO (upd G c (.lst [])) d ∧ Ls (New H (del (upd G c (.lst [])) d)) c [] := by
  have cd := dr.ne nc
  have hc := sd_none sm nc cd
  exact ⟨sd_upd sm hc cd, dr.upd cd, [], nd_at hc cd upd_same, .nil⟩
theorem new_del_same {H G G' : Hp} {d : Addr} (s : Same G G') : Same (New H (del G d)) (New H (del G' d)) := new_mono (fun b e _ => e) (fun b o e => by
  by_cases h : b = d
  · rw [h, del_same] at e
    cases e
  · rw [del_ne h] at e ⊢
    exact s b o e)
theorem ok_inn (F : Fun K "_law_inner" "_law_inner" s_in' f fd) (B : Blt3 mg) (TK : Df P w K mg base "_law_take" 1 ["_law_draws_here", "_law_many"] spTk) (LN : Df P w K mg base "_law_line" 1 ["_law_many"] spLine) : FnOk P w K mg base (L2.CX P w) 2 f fd ["_law_draws_here", "_law_small"] spInn := by
  refine F.okX sc_in' (fun vs H Q E h => ?_) (fun cdv A outer s H vs Q E hr h => ?_)
  · obtain ⟨d, b, rfl, _⟩ := h
    rfl
  · obtain ⟨d, b, rfl, dr, k⟩ := h
    have nd := sc_in'.nd
    have r1 : Room 1 _ := hr.mono (by decide)
    refine ⟨_, pss_cons (ps_set (i := 2) nd rfl (.inl rfl) (pe_df TK r1 (by rfl) passUp (pa_cons (pv 0) (pa_cons pe_int pa_nil))))
      (pss_cons (ps_if (PW.pt (pw_or (pt_cmpR op_eq (pv 2) pe_int (nomark _)) (pw_or1 (pt_cmpR op_eq (pv 2) pe_int (nomark _))))) (pss_one (ps_ret (pe_lst (pa_cons pe_int (pa_cons (pe_lst (pa_cons (pe_tup (pa_cons pe_int (pa_cons pe_int pa_nil))) pa_nil)) pa_nil))))) pss_nil)
      (pss_cons (ps_if (PW.pt (pw_or (pt_cmpR op_eq (pv 2) pe_int (nomark _)) (pw_or1 (pt_cmpR op_eq (pv 2) pe_int (nomark _))))) (pss_one (ps_ret (pe_lst (pa_cons pe_int (pa_cons (pe_lst pa_nil) pa_nil))))) pss_nil)
      (pss_cons (ps_if (pt_cmpR op_eq (pv 2) pe_int (nomark _)) (pss_one (ps_ret (pe_lst (pa_cons pe_int (pa_cons (pe_lst pa_nil) pa_nil))))) pss_nil)
      (pss_cons (ps_if (PW.pt (pw_and (pt_cmpR op_eq (pv 2) pe_int (nomark _)) (pw_and1 (pt_val (pv 1))))) (pss_one (ps_ret (pe_lst (pa_cons pe_int (pa_cons (pe_df LN r1 (by rfl) passUp (pa_cons pe_int pa_nil)) pa_nil))))) pss_nil)
      (pss_one (ps_ret (pe_lst (pa_cons pe_int (pa_cons (pe_lst pa_nil) pa_nil))))))))), ?_⟩
    refine ⟨_, rfl, d, 8, rfl, by decide, dr, fun r H1 r0 r8 s1 dr1 => ?_⟩
    have nil : ∀ {n : Int} {D A : Addr}, OkIn (n, []) → n ≤ 2 → H1 D = none → (upd H1 D (.lst [])) A = none → Q (.ref A) (upd (upd H1 D (.lst [])) A (.lst [.int n, .ref D])) := fun {n D A} ok n2 nD nA => by
      obtain ⟨a1, b1, c1⟩ := nil_ls s1 dr1 nD
      obtain ⟨a, b, c⟩ := lw_upN (n := n) a1 b1 c1 nA
      exact k _ _ _ a b c ok fun _ => n2
    have two : ∀ {t D A : Addr}, H1 t = none → (upd H1 t (.tup [.int 0, .int 1])) D = none → (upd (upd H1 t (.tup [.int 0, .int 1])) D (.lst [.ref t])) A = none → Q (.ref A) (upd (upd (upd H1 t (.tup [.int 0, .int 1])) D (.lst [.ref t])) A (.lst [.int 2, .ref D])) := fun {t D A} nt nD nA => by
      have td := dr1.ne nt
      have ht := sd_none s1 nt td
      have s2 := sd_upd (o := .tup [.int 0, .int 1]) s1 ht td
      have dr2 := dr1.upd (o := .tup [.int 0, .int 1]) td
      have Dd := dr2.ne nD
      have hD := sd_none s2 nD Dd
      have s3 := sd_upd (o := .lst [.ref t]) s2 hD Dd
      have dr3 := dr2.upd (o := .lst [.ref t]) Dd
      have tD : t ≠ D := fun e => by rw [← e, upd_same] at nD; cases nD
      have g : Ls (New H (del (upd (upd H1 t (.tup [.int 0, .int 1])) D (.lst [.ref t])) d)) D [(0, 1)] := ⟨_, nd_at hD Dd upd_same, .cons (dt_pr (p := (0, 1)) (nd_at ht td (by rw [upd_ne tD, upd_same]))) .nil⟩
      obtain ⟨a, b, c⟩ := lw_upN (n := 2) s3 dr3 g nA
      exact k _ _ _ a b c .c2 fun _ => Int.le_refl _
    obtain rfl | rfl | rfl | rfl | rfl | rfl | h : r = 1 ∨ r = 2 ∨ r = 3 ∨ r = 4 ∨ r = 5 ∨ r = 6 ∨ (r = 0 ∨ r = 7) := by omega
    · exact ⟨_, rfl, rfl, true, rfl, iteT ⟨by show 2 ≤ sizeLine; decide, fun t nt => ⟨by show 1 ≤ sizeLine; decide, fun D nD => ⟨by show 2 ≤ sizeLine; decide, fun A nA => two nt nD nA⟩⟩⟩⟩
    · exact ⟨_, rfl, rfl, false, rfl, iteF ⟨_, rfl, rfl, true, rfl, iteT ⟨by show 2 ≤ sizeLine; decide, fun t nt => ⟨by show 1 ≤ sizeLine; decide, fun D nD => ⟨by show 2 ≤ sizeLine; decide, fun A nA => two nt nD nA⟩⟩⟩⟩⟩
    · exact ⟨_, rfl, rfl, false, rfl, iteF ⟨_, rfl, rfl, false, rfl, iteF ⟨_, rfl, rfl, true, rfl, iteT ⟨by show 0 ≤ sizeLine; exact Nat.zero_le _, fun D nD => ⟨by show 2 ≤ sizeLine; decide, fun A nA => nil .n2 (by decide) nD nA⟩⟩⟩⟩⟩
    · exact ⟨_, rfl, rfl, false, rfl, iteF ⟨_, rfl, rfl, false, rfl, iteF ⟨_, rfl, rfl, false, rfl, iteF ⟨_, rfl, rfl, true, rfl, iteT ⟨by show 0 ≤ sizeLine; exact Nat.zero_le _, fun D nD => ⟨by show 2 ≤ sizeLine; decide, fun A nA => nil .n2 (by decide) nD nA⟩⟩⟩⟩⟩⟩
    · exact ⟨_, rfl, rfl, false, rfl, iteF ⟨_, rfl, rfl, false, rfl, iteF ⟨_, rfl, rfl, false, rfl, iteF ⟨_, rfl, rfl, false, rfl, iteF ⟨_, rfl, rfl, true, rfl, iteT ⟨by show 0 ≤ sizeLine; exact Nat.zero_le _, fun D nD => ⟨by show 2 ≤ sizeLine; decide, fun A nA => nil .z0 (by decide) nD nA⟩⟩⟩⟩⟩⟩⟩
    · refine ⟨_, rfl, rfl, false, rfl, iteF ⟨_, rfl, rfl, false, rfl, iteF ⟨_, rfl, rfl, false, rfl, iteF ⟨_, rfl, rfl, false, rfl, iteF ⟨_, rfl, rfl, false, rfl, iteF ⟨_, rfl, rfl, true, rfl, iteT ⟨_, rfl, b, rfl, ?_⟩⟩⟩⟩⟩⟩⟩
      cases b with
      | false => exact iteF ⟨by show 0 ≤ sizeLine; exact Nat.zero_le _, fun D nD => ⟨by show 2 ≤ sizeLine; decide, fun A nA => nil .z1 (by decide) nD nA⟩⟩
      | true =>
        refine iteT ⟨4, rfl, by decide, by decide, fun H2 D s2 nD hD => ⟨by show 2 ≤ sizeLine; decide, fun A nA => ?_⟩⟩
        have Dd := dr1.ne nD
        have dr2 := dr1.mono s2
        have g : Ls (New H (del H2 d)) D (lnP 3) := by
          have g0 : Ls (New H1 H2) D (lnP 3) := hD.ls
          have sD : Same (New H1 H2) (New H (del H2 d)) := fun b o e => by
            have hb : H1 b = none := by
              cases h : H1 b with
              | none => rfl
              | some _ => unfold New at e; rw [h] at e; cases e
            have bd := dr1.ne hb
            rw [new_at hb] at e
            exact nd_at (sd_none s1 hb bd) bd e
          exact g0.mono sD
        obtain ⟨a, b, c⟩ := lw_upN (n := 4) (sd_trans s1 (del_sub.trans s2)) dr2 g nA
        exact k _ _ _ a b c .l4 fun z => nomatch z
    · have e : ∀ i : Int, i ≠ 0 → i ≠ 7 → (.bl (decide ((.int r : V) = .int i)) : V) = .bl false := fun i h0 h7 => by
        congr 1
        rw [dec_int]
        have : r ≠ i := by omega
        simpa using this
      refine ⟨_, rfl, rfl, false, e 1 (by decide) (by decide), iteF ⟨_, rfl, rfl, false, e 2 (by decide) (by decide), iteF ⟨_, rfl, rfl, false, e 3 (by decide) (by decide), iteF ⟨_, rfl, rfl, false, e 4 (by decide) (by decide), iteF ⟨_, rfl, rfl, false, e 5 (by decide) (by decide), iteF ⟨_, rfl, rfl, false, e 6 (by decide) (by decide), iteF (iteF ?_)⟩⟩⟩⟩⟩⟩
      exact ⟨by show 0 ≤ sizeLine; exact Nat.zero_le _, fun D nD => ⟨by show 2 ≤ sizeLine; decide, fun A nA => nil .z1 (by decide) nD nA⟩⟩
end
end K0
set_option Elab.async false
set_option linter.all false
set_option maxRecDepth 100000
set_option maxHeartbeats 4000000
namespace K0
open PySem PySem.Spec PyProof.Rows L2 ZM
theorem new_old {H G : Hp} {D : Addr} {o : HO} (h : H D ≠ none) : New H (upd G D o) = New H G := by
  funext b
  unfold New
  cases e : H b with
  | none =>
    have : b ≠ D := fun z => h (by rw [← z]; exact e)
    show (upd G D o) b = G b
    rw [upd_ne this]
  | some _ => rfl
theorem getD_app {α : Type} (l : List α) (x d : α) (v : Nat) : (l ++ [x]).getD v d = if v < l.length then l.getD v d else if v = l.length then x else d := by
  simp only [List.getD_eq_getElem?_getD]
  by_cases h : v < l.length
  · rw [if_pos h, List.getElem?_append_left h]
  · rw [if_neg h]
    by_cases e : v = l.length
    · rw [if_pos e, e]
      simp
    · rw [if_neg e]
      have : (l ++ [x]).length ≤ v := by rw [List.length_append]; simp; omega
      rw [List.getElem?_eq_none this]
      rfl
theorem nW_app (ws : List Wb) (x : Wb) (v : Nat) : nW (ws ++ [x]) v = if v < ws.length then nW ws v else if v = ws.length then x.1 else 0 := by
  unfold nW
  rw [getD_app]
  split
  · rfl
  · split <;> rfl
theorem nW_le {ws : List Wb} {m : Int} (h : ∀ x ∈ ws, x.1 ≤ m) (m0 : 0 ≤ m) (v : Nat) : nW ws v ≤ m := by
  unfold nW
  by_cases l : v < ws.length
  · exact h _ (getD_mem l)
  · rw [List.getD_eq_getElem?_getD, List.getElem?_eq_none (by omega)]
    exact m0
/-- what stands drawn -/
structure InI (ws : List Wb) (b : Bool) : Prop where
  ok : ∀ x ∈ ws, OkIn x
  small : b = true → ∀ x ∈ ws, x.1 ≤ 2
  big : ∃ k, ∀ v, v ≠ k → nW ws v ≤ 2
theorem InI.add {ws : List Wb} {b : Bool} {x : Wb} (h : InI ws b) (ok : OkIn x) (no : b = false → x.1 ≤ 2) : InI (ws ++ [x]) (if 2 < x.1 then false else b) := by
  have mem : ∀ {P : Wb → Prop}, (∀ y ∈ ws, P y) → P x → ∀ y ∈ ws ++ [x], P y := fun {P} h1 h2 y hy => by
    rcases List.mem_append.mp hy with hy | hy
    · exact h1 y hy
    · rw [List.mem_singleton.mp hy]
      exact h2
  by_cases big : 2 < x.1
  · rw [if_pos big]
    have bt : b = true := by
      cases b with
      | true => rfl
      | false => have := no rfl; omega
    refine ⟨mem h.ok ok, fun z => (nomatch z), ws.length, fun v hv => ?_⟩
    rw [nW_app, if_neg hv]
    split
    · exact nW_le (h.small bt) (by decide) v
    · decide
  · rw [if_neg big]
    obtain ⟨k, hk⟩ := h.big
    refine ⟨mem h.ok ok, fun z => mem (h.small z) (by omega), k, fun v hv => ?_⟩
    rw [nW_app]
    split
    · exact hk v hv
    · split
      · omega
      · decide
section
variable {P : Program} {w : World} {K : PySem.W.Frag} {mg : Str → Option Value} {base : Heap} {f : Addr} {fd : FuncData}
/-- _law_inners -/
def spIns : Sp := fun vs H Q _ => ∃ (d : Addr) (n : Int), vs = [.ref d, .int n] ∧ 0 ≤ n ∧ n ≤ 1000 ∧ DrO H d ∧ ∀ H' D ws, Same (del H d) H' → DrO H' d → H D = none → LwL H' D ws → ws.length = n.toNat → (∃ b, InI ws b) → Q (.ref D) H'
theorem sc_ins : FnScope ["_law_draws_here", "_law_many", "_law_inners_here", "_law_small", "_law_v", "_law_inner_here"] ["_law_draws_here", "_law_many"] (defScope s_ins) := ⟨rfl, rfl, rfl, by decide +kernel, rfl, by decide +kernel, by decide +kernel⟩
theorem ok_ins (F : Fun K "_law_inners" "_law_inners" s_ins f fd) (B : Blt3 mg) (IN : Df P w K mg base "_law_inner" 2 ["_law_draws_here", "_law_small"] spInn) : FnOk P w K mg base (L2.CX P w) 3 f fd ["_law_draws_here", "_law_many"] spIns := by
  refine F.okX sc_ins (fun vs H Q E h => ?_) (fun cdv A outer s H vs Q E hr h => ?_)
  · obtain ⟨d, n, rfl, _⟩ := h
    rfl
  · obtain ⟨d, n, rfl, n0, n1000, dr, k⟩ := h
    have nd := sc_ins.nd
    have r2 : Room 2 _ := hr.mono (by decide)
    refine ⟨_, pss_cons (ps_set (i := 2) nd rfl (.inl rfl) (pe_lst pa_nil))
      (pss_cons (ps_set (i := 3) nd rfl (.inl rfl) pe_bl)
      (pss_cons (ps_for (passes_of rfl) rfl (pi_range1 (by rfl) B.range (pa_cons (pv 1) pa_nil)) (pg_name (i := 4) nd rfl (.inl rfl))
        (pss_cons (ps_set (i := 5) nd rfl (.inl rfl) (pe_df IN r2 (by rfl) passUp (pa_cons (pv 0) (pa_cons (pv 3) pa_nil))))
        (pss_cons (ps_if (pt_cmpR op_gt (pe_ix ix_list (pv 5) pe_int (fun _ _ => rfl)) pe_int (nomark _)) (pss_one (ps_set (i := 3) nd rfl (.inl rfl) pe_bl)) pss_nil)
        (pss_one (ps_expr (pe_lapp (pv 2) (pa_cons (pv 5) pa_nil)))))))
      (pss_one (ps_ret (pv 2))))), ?_⟩
    refine ⟨by show 0 ≤ sizeLine; exact Nat.zero_le _, fun D nD => ?_⟩
    have Dd := dr.ne nD
    let HD := upd H D (.lst [])
    have hHD : HD D ≠ none := by show (upd H D (.lst [])) D ≠ none; rw [upd_same]; exact fun z => nomatch z
    let Pv : Nat → L2.St → Hp → Prop := fun i σ H' => ∃ o4 o5 b ws xs, σ = [some (.ref d), some (.int n), some (.ref D), some (.bl b), o4, o5] ∧ Same (del H d) H' ∧ DrO H' d ∧ H' D = some (.lst xs) ∧ LwAll (New HD (del H' d)) xs ws ∧ ws.length = i ∧ InI ws b
    refine ⟨_, rfl, n, rfl, by omega, by omega, for_range (n := n.toNat) Pv ⟨none, none, true, [], [], rfl, sd_upd del_sub nD Dd, dr.upd Dd, upd_same, .nil, rfl, (fun x hx => by cases hx), (fun _ x hx => by cases hx), 0, fun v _ => by unfold nW; simp⟩ (fun i σ H1 hi h => ?_) (fun σ H1 h => ?_)⟩
    · obtain ⟨o4, o5, b, ws, xs, rfl, s1, dr1, hD, al, lw, ini⟩ := h
      rw [Int.zero_add]
      refine ⟨_, rfl, _, rfl, d, b, rfl, dr1, fun H2 v x s2 dr2 lx ok no => ?_⟩
      have s12 := sd_trans s1 s2
      have hD2 : H2 D = some (.lst xs) := s2 _ _ (by rw [del_ne Dd]; exact hD)
      have toH : Same (New H1 (del H2 d)) (New HD (del H2 d)) := new_mono (fun b h1 _ => by
        have bd := dr1.ne h1
        have bD : b ≠ D := fun z => by rw [z, hD] at h1; cases h1
        show (upd H D (.lst [])) b = none
        rw [upd_ne bD]
        exact sd_none s1 h1 bd) (Same.refl _)
      have lx2 := lx.mono toH
      have al2 := (al.mono (new_mono (fun b e _ => e) (same_del s2))).app (.cons lx2 .nil)
      obtain ⟨a, c, rfl, ha, _⟩ := lx2.mono (same_new.trans del_sub)
      have ll := al.len
      have fin : ∀ {σ : L2.St}, σ = [some (.ref d), some (.int n), some (.ref D), some (.bl (if 2 < x.1 then false else b)), some (.int (i : Int)), some (.ref a)] → Pv (i + 1) σ (upd H2 D (.lst (xs ++ [.ref a]))) := fun {σ} e => by
        refine ⟨_, _, _, ws ++ [x], xs ++ [.ref a], e, sd_upd s12 nD Dd, dr2.upd Dd, upd_same, ?_, by rw [List.length_append, lw]; rfl, ini.add ok no⟩
        rw [del_upd_ne Dd, new_old hHD]
        exact al2
      refine ⟨_, rfl, a, _, 0, _, rfl, rfl, SqL.of ha, rfl, _, _, rfl, rfl, _, rfl, ?_⟩
      by_cases big : 2 < x.1
      · rw [decide_eq_true big]
        refine iteT ⟨_, rfl, .inl ⟨rfl, xs, SqL.of hD2⟩, _, rfl, D, xs, _, rfl, rfl, hD2, by rw [sizeLine_eq]; omega, ?_⟩
        exact fin (by rw [if_pos big]; rfl)
      · rw [decide_eq_false big]
        refine iteF ⟨_, rfl, .inl ⟨rfl, xs, SqL.of hD2⟩, _, rfl, D, xs, _, rfl, rfl, hD2, by rw [sizeLine_eq]; omega, ?_⟩
        exact fin (by rw [if_neg big]; rfl)
    · obtain ⟨o4, o5, b, ws, xs, rfl, s1, dr1, hD, al, lw, ini⟩ := h
      exact ⟨_, rfl, k H1 D ws s1 dr1 nD ⟨xs, hD, al.mono (same_new.trans del_sub)⟩ lw ⟨b, ini⟩⟩
end
end K0
set_option Elab.async false
set_option linter.all false
set_option maxRecDepth 100000
set_option maxHeartbeats 4000000
namespace K0
open PySem PySem.Spec PyProof.Rows L2 ZM
/-! ### each pair once; how many there are -/
theorem shf_loc {ws : List Wb} (W : Wbs ws) {v : Nat} (hv : v < ws.length) {z : Pr} (h : z ∈ shf (qW ws v) (fW ws v)) : ∃ x y, Loc ws z.1 v x ∧ Loc ws z.2 v y := by
  have c := (W.cw v).rng _ (mem_shf.mp h)
  dsimp only at c
  exact ⟨_, _, ⟨hv, by omega, by omega, (by omega : z.1 = fW ws v + (z.1 - fW ws v))⟩, ⟨hv, by omega, by omega, (by omega : z.2 = fW ws v + (z.2 - fW ws v))⟩⟩
theorem gr_loc {Q : List Pr} {ws : List Wb} (hQ : Cl ws.length Q) {e : Pr} (he : e ∈ Q) {z : Pr} (h : z ∈ gr ws e) : ∃ x y, Loc ws z.1 e.1.toNat x ∧ Loc ws z.2 e.2.toNat y := by
  obtain ⟨⟨h1, h2⟩, h3, h4⟩ := mem_grid.mp h
  obtain ⟨c1, c2, c3⟩ := hQ.rng e he
  exact ⟨_, _, ⟨by omega, by omega, by omega, (by omega : z.1 = fW ws e.1.toNat + (z.1 - fW ws e.1.toNat))⟩, ⟨by omega, by omega, by omega, (by omega : z.2 = fW ws e.2.toNat + (z.2 - fW ws e.2.toNat))⟩⟩
theorem grid_nodup (a m b k : Int) : (grid a m b k).Nodup := by
  unfold grid
  refine nodup_fm List.nodup_range (fun x _ => List.pairwise_map.mpr (List.Pairwise.imp (fun {c d} ne e => ?_) List.nodup_range)) fun x _ y _ z h1 h2 => ?_
  · have := (Prod.ext_iff.mp e).2
    dsimp only at this
    omega
  · obtain ⟨u, _, e1⟩ := List.mem_map.mp h1
    obtain ⟨v, _, e2⟩ := List.mem_map.mp h2
    rw [← e2] at e1
    have := (Prod.ext_iff.mp e1).1
    dsimp only at this
    omega
theorem putL_nodup {Q : List Pr} {ws : List Wb} (W : Wbs ws) (hQ : Cl ws.length Q) : (putL Q ws).Nodup := by
  unfold putL
  refine List.nodup_append.mpr ⟨?_, ?_, ?_⟩
  · refine nodup_fm List.nodup_range (fun v _ => List.pairwise_map.mpr (List.Pairwise.imp (fun {c d} ne e => ?_) (pairwise_nodup (W.cw v).srt))) fun u hu v hv z h1 h2 => ?_
    · obtain ⟨e1, e2⟩ := Prod.ext_iff.mp e
      dsimp only at e1 e2
      exact ne (Prod.ext (by omega) (by omega))
    · obtain ⟨_, _, a, _⟩ := shf_loc W (List.mem_range.mp hu) h1
      obtain ⟨_, _, b, _⟩ := shf_loc W (List.mem_range.mp hv) h2
      exact (a.uniq W b).1
  · refine nodup_fm (pairwise_nodup hQ.srt) (fun e _ => grid_nodup _ _ _ _) fun e he e' he' z h1 h2 => ?_
    obtain ⟨_, _, a, b⟩ := gr_loc hQ he h1
    obtain ⟨_, _, a', b'⟩ := gr_loc hQ he' h2
    have e1 := (a.uniq W a').1
    have e2 := (b.uniq W b').1
    have r1 := hQ.rng e he
    have r2 := hQ.rng e' he'
    exact Prod.ext (by omega) (by omega)
  · intro z h1 z' h2 e
    subst e
    obtain ⟨v, hv, h1⟩ := List.mem_flatMap.mp h1
    obtain ⟨e, he, h2⟩ := List.mem_flatMap.mp h2
    obtain ⟨_, _, a, b⟩ := shf_loc W (List.mem_range.mp hv) h1
    obtain ⟨_, _, a', b'⟩ := gr_loc hQ he h2
    have e1 := (a.uniq W a').1
    have e2 := (b.uniq W b').1
    have r1 := hQ.rng e he
    omega
theorem inL_len {ws : List Wb} (W : Wbs ws) (h : ∀ v, ((qW ws v).length : Int) ≤ nW ws v) : ∀ k, ((inL ws k).length : Int) ≤ fW ws k
  | 0 => by rw [fW_zero]; unfold inL; simp
  | k + 1 => by
    have := inL_len W h k
    have := h k
    rw [inL_succ, List.length_append, fW_succ]
    have e : (shf (qW ws k) (fW ws k)).length = (qW ws k).length := List.length_map _
    omega
theorem putL_len {Q : List Pr} {ws : List Wb} {m B : Nat} (W : Wbs ws) (h : ∀ v, ((qW ws v).length : Int) ≤ nW ws v) (ht : tot ws ≤ m) (hB : ∀ e ∈ Q, (gr ws e).length ≤ B) : (putL Q ws).length ≤ m + Q.length * B := by
  have h1 := inL_len W h ws.length
  have h2 : (acL Q ws).length ≤ Q.length * B := len_fm Q hB
  have h3 : (inL ws ws.length).length ≤ m := by
    have : fW ws ws.length ≤ (m : Int) := ht
    omega
  unfold putL
  rw [List.length_append]
  omega
/-- sorted pairs of a web put in -/
theorem isPut_of {Q : List Pr} {ws : List Wb} {p : List Pr} (W : Wbs ws) (hQ : Cl ws.length Q) (s : p.Pairwise plt) (m : ∀ z, z ∈ p ↔ z ∈ putL Q ws) : IsPut Q ws p := ⟨⟨s, fun z hz => put_rng W hQ ((m z).mp hz)⟩, m⟩
section
variable {P : Program} {w : World} {K : PySem.W.Frag} {mg : Str → Option Value} {base : Heap} {f : Addr} {fd : FuncData}
abbrev s_fs : Stmt := top 51
abbrev s_pt : Stmt := top 52
/-- _law_firsts -/
def spFs : Sp := fun vs H Q _ => ∃ (a : Addr) (ws : List Wb), vs = [.ref a] ∧ LwL H a ws ∧ ws.length ≤ 1000 ∧ ∀ H' r, Same H H' → H r = none → H' r = some (.lst ((fsL ws (ws.length + 1)).map V.int)) → Q (.ref r) H'
theorem sc_fs : FnScope ["_law_inners_here", "_law_firsts_here", "_law_inner_here"] ["_law_inners_here"] (defScope s_fs) := ⟨rfl, rfl, rfl, by decide +kernel, rfl, by decide +kernel, by decide +kernel⟩
theorem ok_fs (F : Fun K "_law_firsts" "_law_firsts" s_fs f fd) (B : Blt3 mg) : FnOk P w K mg base (L2.CX P w) 1 f fd ["_law_inners_here"] spFs := by
  refine F.okX sc_fs (fun vs H Q E h => ?_) (fun cdv A outer s H vs Q E hr h => ?_)
  · obtain ⟨a, ws, rfl, _⟩ := h
    rfl
  · obtain ⟨a, ws, rfl, ⟨xs, ha, hw⟩, few, k⟩ := h
    have nd := sc_fs.nd
    have hl := hw.len
    refine ⟨_, pss_cons (ps_set (i := 1) nd rfl (.inl rfl) (pe_lst (pa_cons pe_int pa_nil)))
      (pss_cons (ps_for (passes_of rfl) rfl (pi_list (pv 0)) (pg_name (i := 2) nd rfl (.inl rfl))
        (pss_one (ps_expr (pe_lapp (pv 1) (pa_cons (pe_op op_add (pe_ix ix_list (pv 1) (pe_op op_sub (pe_callB call_len_seq (by rfl) B.len PySem.boot_len (pa_cons (pv 1) pa_nil)) pe_int) (fun _ _ => rfl)) (pe_ix ix_list (pv 2) pe_int (fun _ _ => rfl))) pa_nil)))))
      (pss_one (ps_ret (pv 1)))), ?_⟩
    refine ⟨by show 1 ≤ sizeLine; decide, fun D nD => ?_⟩
    have s0 : Same H (upd H D (.lst [.int 0])) := same_upd nD
    let Pv : Nat → L2.St → Hp → Prop := fun i σ H' => ∃ o2, σ = [some (.ref a), some (.ref D), o2] ∧ Same H H' ∧ H' D = some (.lst ((fsL ws (i + 1)).map V.int))
    refine ⟨_, rfl, a, rfl, ⟨xs, SqL.of (s0 _ _ ha)⟩, for_list (K := K) (a := a) (xs := xs) Pv ⟨none, rfl, s0, upd_same⟩ (fun i σ H' _ h => ?_) (fun i v σ H' hi h => ?_) (fun σ H' h => ?_)⟩
    · obtain ⟨_, _, sm, _⟩ := h
      exact SqL.of (sm _ _ ha)
    · obtain ⟨o2, rfl, sm, hD⟩ := h
      obtain ⟨b, c, rfl, hb, _⟩ := (hw.mono sm).at hi
      have hi2 : i < ws.length := by have := (List.getElem?_eq_some_iff.mp hi).1; omega
      have at0 : atI ((fsL ws (i + 1)).map V.int) (((fsL ws (i + 1)).length : Nat) - 1 : Int) = some (.int (fW ws i)) := by
        rw [fsL_len, show (((i + 1 : Nat) : Int) - 1) = ((i : Nat) : Int) by omega]
        exact atI_nat (by rw [List.getElem?_map, fsL_at (by omega)]; rfl)
      refine ⟨_, rfl, .inl ⟨rfl, _, SqL.of hD⟩, _, rfl, _, rfl, D, _, rfl, .inl (SqL.of hD), _, _, rfl, rfl, D, _, _, _, rfl, rfl, SqL.of hD, by rw [List.length_map]; exact at0, _, rfl, b, _, 0, _, rfl, rfl, SqL.of hb, rfl, _, _, rfl, rfl, D, _, _, rfl, rfl, hD, ?_, ?_⟩
      · rw [List.length_map, fsL_len, sizeLine_eq]
        omega
      · refine ⟨_, rfl, same_keep nD sm, ?_⟩
        rw [upd_same, fsL_succ ws (i + 1), List.map_append, fW_succ]
        rfl
    · obtain ⟨o2, rfl, sm, hD⟩ := h
      rw [hl] at hD
      exact ⟨_, rfl, k H' D sm nD hD⟩
end
end K0
set_option Elab.async false
set_option linter.all false
set_option maxRecDepth 100000
set_option maxHeartbeats 4000000
namespace K0
open PySem PySem.Spec PyProof.Rows L2 ZM
theorem shf_comm (q : List Pr) (s : Int) : (q.map fun p => ((s + p.1, s + p.2) : Pr)) = shf q s := by
  unfold shf
  refine List.map_congr_left fun p _ => ?_
  rw [Int.add_comm s p.1, Int.add_comm s p.2]
theorem Ls.cat {H : Hp} {A G B : Addr} {rs ss : List Pr} {xs ys : List V} (h : Ls H A rs) (g : Ls H G ss) (hx : H A = some (.lst xs)) (hy : H G = some (.lst ys)) (nB : H B = none) : Ls (upd H B (.lst (xs ++ ys))) B (rs ++ ss) := by
  obtain ⟨xs', h1, h2⟩ := h
  obtain ⟨ys', g1, g2⟩ := g
  rw [h1] at hx
  cases hx
  rw [g1] at hy
  cases hy
  refine ⟨_, upd_same, ?_⟩
  rw [List.map_append]
  exact (h2.app g2).mono (same_upd nB)
theorem Ls.len {H : Hp} {A : Addr} {rs : List Pr} {xs : List V} (h : Ls H A rs) (hx : H A = some (.lst xs)) : xs.length = rs.length := by
  obtain ⟨xs', h1, h2⟩ := h
  rw [h1] at hx
  cases hx
  have := h2.len
  rwa [List.length_map] at this
section
variable {P : Program} {w : World} {K : PySem.W.Frag} {mg : Str → Option Value} {base : Heap} {f : Addr} {fd : FuncData}
/-- _law_put -/
def spPut : Sp := fun vs H Q _ => ∃ (v : V) (b : Addr) (n : Int) (q : List Pr) (ws : List Wb), vs = [v, .ref b] ∧ LwAt H v (n, q) ∧ LwL H b ws ∧ (ws.length : Int) = n ∧ Cl n q ∧ Wbs ws ∧ tot ws ≤ 1000 ∧ ws.length ≤ 1000 ∧ (putL q ws).length ≤ 1000 ∧
  ∀ H' r p, Same H H' → H r = none → LwAt H' (.ref r) (tot ws, p) → IsPut q ws p → Q (.ref r) H'
theorem sc_pt : FnScope ["_law_outer_here", "_law_inners_here", "_law_firsts_here", "_law_pairs", "_law_v", "_law_pair", "_law_x", "_law_y"] ["_law_outer_here", "_law_inners_here"] (defScope s_pt) := ⟨rfl, rfl, rfl, by decide +kernel, rfl, by decide +kernel, by decide +kernel⟩
theorem ok_pt (F : Fun K "_law_put" "_law_put" s_pt f fd) (B : Blt3 mg) (FS : Df P w K mg base "_law_firsts" 1 ["_law_inners_here"] spFs) : FnOk P w K mg base (L2.CX P w) 2 f fd ["_law_outer_here", "_law_inners_here"] spPut := by
  refine F.okX sc_pt (fun vs H Q E h => ?_) (fun cdv A outer s H vs Q E hr h => ?_)
  · obtain ⟨v, b, n, q, ws, rfl, _⟩ := h
    rfl
  · obtain ⟨v, b, n, q, ws, rfl, ⟨a0, c0, rfl, h0, hq⟩, ⟨xs, hb, hw⟩, en, hQ', W, t1000, few, l1000, k⟩ := h
    have nd := sc_pt.nd
    have hl := hw.len
    have r1 : Room 1 _ := hr.mono (by decide)
    have hQ : Cl (ws.length : Int) q := by rw [en]; exact hQ'
    dsimp only at h0 hq
    refine ⟨_, pss_cons (ps_set (i := 2) nd rfl (.inr rfl) (pe_df FS r1 (by rfl) passUp (pa_cons (pv 1) pa_nil)))
      (pss_cons (ps_set (i := 3) nd rfl (.inl rfl) (pe_lst pa_nil))
      (pss_cons (ps_for (passes_of rfl) rfl (pi_range1 (by rfl) B.range (pa_cons (pe_ix ix_list (pv 0) pe_int (fun _ _ => rfl)) pa_nil)) (pg_name (i := 4) nd rfl (.inr rfl))
        (pss_one (ps_set (i := 3) nd rfl (.inl rfl) (pe_op op_cat (pv 3) (pe_lc (own := [("_law_pair", 5)]) (g := gName 5) (tt := tYes)
          (te := tTup (tCons (tOp rAddI (tOp (rIxL K) (tVar 2) (tVar 4)) (tOp (rIxT K) (tVar 5) (tC (.int 0)))) (tCons (tOp rAddI (tOp (rIxL K) (tVar 2) (tVar 4)) (tOp (rIxT K) (tVar 5) (tC (.int 1)))) tNil))) rfl nd
          (pi_list (pe_ix ix_list (pe_ix ix_list (pv 1) (pv 4) (fun _ _ => rfl)) pe_int (fun _ _ => rfl)))
          (blkOk_by (N := ["_law_outer_here", "_law_inners_here", "_law_firsts_here", "_law_pairs", "_law_v", "_law_pair", "_law_x", "_law_y"]) (sc := defScope s_pt) (by decide +kernel))
          (fun _ _ _ _ _ => pg_name (i := 5) nd rfl (.inl rfl)) (fun _ _ _ _ _ => pts_nil)
          (fun _ _ _ _ _ => pe_tup (pa_cons (pe_op op_add (pe_ix ix_list (pv 2) (pv 4) (fun _ _ => rfl)) (pe_ix ix_tup (pv 5) pe_int (fun _ _ => rfl))) (pa_cons (pe_op op_add (pe_ix ix_list (pv 2) (pv 4) (fun _ _ => rfl)) (pe_ix ix_tup (pv 5) pe_int (fun _ _ => rfl))) pa_nil))))))))
      (pss_cons (ps_for (passes_of rfl) rfl (pi_list (pe_ix ix_list (pv 0) pe_int (fun _ _ => rfl))) (pg_name (i := 5) nd rfl (.inl rfl))
        (pss_one (ps_for (passes_of rfl) rfl (pi_range2 (by rfl) B.range (pa_cons (pe_ix ix_list (pv 2) (pe_ix ix_tup (pv 5) pe_int (fun _ _ => rfl)) (fun _ _ => rfl)) (pa_cons (pe_ix ix_list (pv 2) (pe_op op_add (pe_ix ix_tup (pv 5) pe_int (fun _ _ => rfl)) pe_int) (fun _ _ => rfl)) pa_nil))) (pg_name (i := 6) nd rfl (.inr rfl))
        (pss_one (ps_set (i := 3) nd rfl (.inl rfl) (pe_op op_cat (pv 3) (pe_lc (own := [("_law_y", 7)]) (g := gName 7) (tt := tYes) (te := tTup (tCons (tVar 6) (tCons (tVar 7) tNil))) rfl nd
          (pi_range2 (by rfl) B.range (pa_cons (pe_ix ix_list (pv 2) (pe_ix ix_tup (pv 5) pe_int (fun _ _ => rfl)) (fun _ _ => rfl)) (pa_cons (pe_ix ix_list (pv 2) (pe_op op_add (pe_ix ix_tup (pv 5) pe_int (fun _ _ => rfl)) pe_int) (fun _ _ => rfl)) pa_nil)))
          (blkOk_by (N := ["_law_outer_here", "_law_inners_here", "_law_firsts_here", "_law_pairs", "_law_v", "_law_pair", "_law_x", "_law_y"]) (sc := defScope s_pt) (by decide +kernel))
          (fun _ _ _ _ _ => pg_name (i := 7) nd rfl (.inl rfl)) (fun _ _ _ _ _ => pts_nil) (fun _ _ _ _ _ => pe_tup (pa_cons (pv 6) (pa_cons (pv 7) pa_nil))))))))))
      (pss_one (ps_ret (pe_lst (pa_cons (pe_ix ix_list (pv 2) (pe_ix ix_list (pv 0) pe_int (fun _ _ => rfl)) (fun _ _ => rfl)) (pa_cons (pe_callB cr_srtP (by rfl) B.sorted (by decide +kernel) (pa_cons (pv 3) pa_nil)) pa_nil)))))))), ?_⟩
    refine ⟨_, rfl, b, ws, rfl, ⟨xs, hb, hw⟩, few, fun H1 F s1 nF hF => ?_⟩
    refine ⟨by show 0 ≤ sizeLine; exact Nat.zero_le _, fun D nD => ?_⟩
    have s2 := s1.trans (same_upd (o := .lst []) nD)
    have FD : F ≠ D := fun e => by rw [e, nD] at hF; cases hF
    have hF2 : (upd H1 D (.lst [])) F = some (.lst ((fsL ws (ws.length + 1)).map V.int)) := by rw [upd_ne FD]; exact hF
    have atF : ∀ {i : Nat}, i ≤ ws.length → atI ((fsL ws (ws.length + 1)).map V.int) (i : Int) = some (.int (fW ws i)) := fun {i} hi => atI_nat (by rw [List.getElem?_map, fsL_at (by omega)]; rfl)
    have n0 : 0 ≤ n := by omega
    have lin : ∀ k, k ≤ ws.length → (inL ws k).length ≤ 1000 := fun k hk => by
      have h1 : (inL ws ws.length).length ≤ 1000 := pre_len l1000
      have h2 := flat_take_le (List.range ws.length) (fun v => shf (qW ws v) (fW ws v)) k
      rw [List.take_range, Nat.min_eq_left hk] at h2
      exact Nat.le_trans h2 h1
    let P1 : Nat → L2.St → Hp → Prop := fun i σ H' => ∃ A o4, σ = [some (.ref a0), some (.ref b), some (.ref F), some (.ref A), o4, none, none, none] ∧ Same (upd H1 D (.lst [])) H' ∧ Ls H' A (inL ws i)
    refine ⟨_, rfl, a0, _, 0, _, rfl, rfl, SqL.of (s2 _ _ h0), rfl, n, rfl, by omega, by omega, for_range (n := n.toNat) P1 ⟨D, none, rfl, Same.refl _, [], upd_same, .nil⟩ (fun i σ H3 hi h => ?_) (fun σ H3 h => ?_)⟩
    · obtain ⟨A, o4, rfl, s3, la⟩ := h
      rw [Int.zero_add]
      have s23 := s2.trans s3
      have hiw : i < ws.length := by omega
      have hix : i < xs.length := by omega
      obtain ⟨bi, ci, ebi, hbi, hci⟩ := (hw.mono s23).at (List.getElem?_eq_getElem hix)
      obtain ⟨ys, hy, dy⟩ := id hci
      dsimp only at hbi hy dy
      have ly := dy.len
      rw [List.length_map] at ly
      refine ⟨_, rfl, _, rfl, _, rfl, b, xs, _, _, rfl, rfl, SqL.of (s23 _ _ hb), atI_nat (List.getElem?_eq_getElem hix), bi, _, 1, _, ebi, rfl, SqL.of hbi, rfl, ci, rfl, ⟨_, SqL.of hy⟩, fun G nG => ?_⟩
      let R : Nat → List Pr := fun j => ((qW ws i).take j).map fun p => ((fW ws i + p.1, fW ws i + p.2) : Pr)
      have lR : ∀ j, (R j).length ≤ (qW ws i).length := fun j => by
        show (List.map _ _).length ≤ _
        rw [List.length_map, List.length_take]
        exact Nat.min_le_right _ _
      have lsucc := lin (i + 1) (by omega)
      rw [inL_succ, List.length_append] at lsucc
      have lshf : (shf (qW ws i) (fW ws i)).length = (qW ws i).length := List.length_map _
      refine lc_list (K := K) (a := ci) (xs := ys) (fun j H' => Same H3 H' ∧ Grow H' G (R j)) ⟨same_upd nG, [], upd_same, rfl, fun z hz => by cases hz⟩ (fun j H' _ z => SqL.of (z.1 _ _ hy)) (fun j x H' hj z => ?_) (fun H' z => ?_)
      · obtain ⟨s4, g4⟩ := z
        obtain ⟨pr, pb, hp, rfl, hpb⟩ := dta_map (dy.mono s4) hj
        have hFn := s4 _ _ (s3 _ _ hF2)
        have eR : R (j + 1) = R j ++ [(fW ws i + pr.1, fW ws i + pr.2)] := by
          show List.map _ _ = _
          rw [take_at hp, List.map_append]
          rfl
        refine ⟨rfl, _, rfl, _, rfl, F, _, _, _, rfl, rfl, SqL.of hFn, atF (by omega), _, rfl, pb, _, 0, _, rfl, rfl, SqT.of hpb, rfl, _, _, rfl, rfl, _, rfl, _, rfl, F, _, _, _, rfl, rfl, SqL.of hFn, atF (by omega), _, rfl, pb, _, 1, _, rfl, rfl, SqT.of hpb, rfl, _, _, rfl, rfl, (by show 2 ≤ sizeLine; decide), fun u nu => ?_⟩
        obtain ⟨as, hA, lA, _⟩ := g4.at
        have s5 : Same H' (upd H' u (.tup [.int (fW ws i + pr.1), .int (fW ws i + pr.2)])) := same_upd nu
        refine ⟨as, s5 _ _ hA, ?_, same_keep nG (s4.trans s5), ?_⟩
        · have := lR j
          rw [lA, sizeLine_eq]
          omega
        · rw [eR]
          exact g4.push nu hA
      · obtain ⟨s4, g4⟩ := z
        rw [ly] at g4
        have eR : R (qW ws i).length = shf (qW ws i) (fW ws i) := by
          show List.map _ _ = _
          rw [List.take_length]
          exact shf_comm _ _
        rw [eR] at g4
        obtain ⟨as, hA, lA, _⟩ := g4.at
        obtain ⟨zs, hz, _⟩ := id (la.mono s4)
        refine ⟨A, G, zs, as, rfl, rfl, hz, hA, ?_, fun A' nA' => ?_⟩
        · rw [(la.mono s4).len hz, lA, sizeLine_eq]
          omega
        · refine ⟨A', _, rfl, s3.trans (s4.trans (same_upd nA')), ?_⟩
          rw [inL_succ]
          exact (la.mono s4).cat g4.ls hz hA nA'
    · obtain ⟨A, o4, rfl, s3, la⟩ := h
      rw [show n.toNat = ws.length by omega] at la
      have s23 := s2.trans s3
      obtain ⟨qs, hc, dq⟩ := id (hq.mono s23)
      have lq := dq.len
      rw [List.length_map] at lq
      let BB : Nat → List Pr := fun j => inL ws ws.length ++ acL (q.take j) ws
      have lBB : ∀ j, (BB j).length ≤ 1000 := fun j => by
        have h2 : (acL (q.take j) ws).length ≤ (acL q ws).length := flat_take_le q (gr ws) j
        have e1 : (BB j).length = (inL ws ws.length).length + (acL (q.take j) ws).length := List.length_append
        have e2 : (putL q ws).length = (inL ws ws.length).length + (acL q ws).length := List.length_append
        omega
      let P2 : Nat → L2.St → Hp → Prop := fun j σ H' => ∃ A o4 o5 o6, σ = [some (.ref a0), some (.ref b), some (.ref F), some (.ref A), o4, o5, o6, none] ∧ Same H3 H' ∧ Ls H' A (BB j)
      refine ⟨_, rfl, a0, _, 1, _, rfl, rfl, SqL.of (s23 _ _ h0), rfl, c0, rfl, ⟨qs, SqL.of hc⟩, for_list (K := K) (a := c0) (xs := qs) P2 ⟨A, o4, none, none, rfl, Same.refl _, by simpa [BB, acL] using la⟩ (fun j σ H' _ h => ?_) (fun j x σ H4 hj h => ?_) (fun σ H4 h => ?_)⟩
      · obtain ⟨_, _, _, _, _, sm, _⟩ := h
        exact SqL.of (sm _ _ hc)
      · obtain ⟨A, o4, o5, o6, rfl, s4, la⟩ := h
        obtain ⟨e, eb, he, rfl, heb⟩ := dta_map (dq.mono s4) hj
        obtain ⟨e1, e2, e3⟩ := hQ.rng e (List.mem_of_getElem? he)
        obtain ⟨eu, ev⟩ := e
        dsimp only at e1 e2 e3 heb
        obtain ⟨u, rfl⟩ := Int.eq_ofNat_of_zero_le e1
        obtain ⟨v, rfl⟩ := Int.eq_ofNat_of_zero_le (show (0 : Int) ≤ ev by omega)
        have hu : u < ws.length := by omega
        have hv : v < ws.length := by omega
        have hF4 := s4 _ _ (s3 _ _ hF2)
        have nu0 := W.nn u
        have nv0 := W.nn v
        have fu0 := fW_nonneg W u
        have fv0 := fW_nonneg W v
        have eu1 := fW_succ ws u
        have ev1 := fW_succ ws v
        have tu : fW ws (u + 1) ≤ 1000 := by
          have : fW ws (u + 1) ≤ fW ws ws.length := fW_mono W (by omega)
          have : tot ws = fW ws ws.length := rfl
          omega
        have tv : fW ws (v + 1) ≤ 1000 := by
          have : fW ws (v + 1) ≤ fW ws ws.length := fW_mono W (by omega)
          have : tot ws = fW ws ws.length := rfl
          omega
        let row : Nat → List Pr := fun i => (List.range (nW ws v).toNat).map fun (y : Nat) => (fW ws u + (i : Int), fW ws v + (y : Int))
        let GG : Nat → List Pr := fun i => (List.range i).flatMap row
        have eGG : GG (nW ws u).toNat = gr ws ((u : Int), (v : Int)) := rfl
        have lrow : ∀ i, (row i).length = (nW ws v).toNat := fun i => by show (List.map _ _).length = _; rw [List.length_map, List.length_range]
        have lGG : ∀ i, i ≤ (nW ws u).toNat → (BB j).length + (GG i).length ≤ 1000 := fun i hi => by
          have h1 := lBB (j + 1)
          have e1 : BB (j + 1) = BB j ++ gr ws ((u : Int), (v : Int)) := by
            show inL ws ws.length ++ acL (q.take (j + 1)) ws = _
            rw [acL_snoc he, ← List.append_assoc]
          rw [e1, ← eGG, List.length_append] at h1
          have h2 := flat_take_le (List.range (nW ws u).toNat) row i
          rw [List.take_range, Nat.min_eq_left hi] at h2
          have h3 : (GG i).length ≤ (GG (nW ws u).toNat).length := h2
          omega
        let P3 : Nat → L2.St → Hp → Prop := fun i σ H' => ∃ A o6, σ = [some (.ref a0), some (.ref b), some (.ref F), some (.ref A), o4, some (.ref eb), o6, none] ∧ Same H4 H' ∧ Ls H' A (BB j ++ GG i)
        refine ⟨_, rfl, _, rfl, eb, _, 0, _, rfl, rfl, SqT.of heb, rfl, F, _, _, _, rfl, rfl, SqL.of hF4, atF (by omega), _, rfl, _, rfl, eb, _, 0, _, rfl, rfl, SqT.of heb, rfl, _, _, rfl, rfl, F, _, ((u + 1 : Nat) : Int), _, rfl, rfl, SqL.of hF4, atF (by omega), _, _, rfl, ⟨by omega, by omega, by omega, by omega⟩, for_range (lo := fW ws u) (n := (fW ws (u + 1) - fW ws u).toNat) P3 ⟨A, o6, rfl, Same.refl _, by simpa [GG] using la⟩ (fun i σ H5 hi h => ?_) (fun σ H5 h => ?_)⟩
        · obtain ⟨A, o6, rfl, s5, la5⟩ := h
          have hF5 := s5 _ _ hF4
          have hi2 : i < (nW ws u).toNat := by omega
          have heb5 := s5 _ _ heb
          refine ⟨_, rfl, _, rfl, _, rfl, eb, _, 1, _, rfl, rfl, SqT.of heb5, rfl, F, _, _, _, rfl, rfl, SqL.of hF5, atF (by omega), _, rfl, _, rfl, eb, _, 1, _, rfl, rfl, SqT.of heb5, rfl, _, _, rfl, rfl, F, _, ((v + 1 : Nat) : Int), _, rfl, rfl, SqL.of hF5, atF (by omega), _, _, rfl, ⟨by omega, by omega, by omega, by omega⟩, fun G nG => ?_⟩
          refine lc_range (lo := fW ws v) (n := (fW ws (v + 1) - fW ws v).toNat) (fun t H' => Same H5 H' ∧ Grow H' G ((row i).take t)) ⟨same_upd nG, [], upd_same, rfl, fun z hz => by cases hz⟩ (fun t H' ht z => ?_) (fun H' z => ?_)
          · obtain ⟨s6, g6⟩ := z
            have ht2 : t < (nW ws v).toNat := by omega
            refine ⟨rfl, _, rfl, _, rfl, (by show 2 ≤ sizeLine; decide), fun y ny => ?_⟩
            obtain ⟨as, hA, lA, _⟩ := g6.at
            have s7 : Same H' (upd H' y (.tup [.int (fW ws u + (i : Int)), .int (fW ws v + (t : Int))])) := same_upd ny
            refine ⟨as, s7 _ _ hA, ?_, same_keep nG (s6.trans s7), ?_⟩
            · rw [lA, sizeLine_eq, List.length_take, lrow]
              omega
            · have e : (row i)[t]? = some (fW ws u + (i : Int), fW ws v + (t : Int)) := by
                show ((List.range (nW ws v).toNat).map _)[t]? = _
                rw [List.getElem?_map, List.getElem?_range ht2]
                rfl
              rw [take_at e]
              exact g6.push ny hA
          · obtain ⟨s6, g6⟩ := z
            rw [List.take_of_length_le (by rw [lrow]; omega)] at g6
            obtain ⟨as, hA, lA, _⟩ := g6.at
            obtain ⟨zs, hz, _⟩ := id (la5.mono s6)
            refine ⟨A, G, zs, as, rfl, rfl, hz, hA, ?_, fun A' nA' => ?_⟩
            · have := lGG i (by omega)
              have e1 : (BB j ++ GG i).length = (BB j).length + (GG i).length := List.length_append
              rw [(la5.mono s6).len hz, lA, lrow, e1, sizeLine_eq]
              omega
            · refine ⟨A', _, rfl, s5.trans (s6.trans (same_upd nA')), ?_⟩
              have e : GG (i + 1) = GG i ++ row i := by
                show (List.range (i + 1)).flatMap row = _
                rw [List.range_succ, List.flatMap_append]
                simp [GG]
              rw [e, ← List.append_assoc]
              exact (la5.mono s6).cat g6.ls hz hA nA'
        · obtain ⟨A, o6, rfl, s5, la5⟩ := h
          rw [show (fW ws (u + 1) - fW ws u).toNat = (nW ws u).toNat by omega, eGG] at la5
          refine ⟨A, _, _, _, rfl, s4.trans s5, ?_⟩
          have e1 : BB (j + 1) = BB j ++ gr ws ((u : Int), (v : Int)) := by
            show inL ws ws.length ++ acL (q.take (j + 1)) ws = _
            rw [acL_snoc he, ← List.append_assoc]
          rw [e1]
          exact la5
      · obtain ⟨A, o4, o5, o6, rfl, s4, la⟩ := h
        rw [lq] at la
        have eB : BB q.length = putL q ws := by
          show inL ws ws.length ++ acL (q.take q.length) ws = _
          rw [List.take_length]
          rfl
        rw [eB] at la
        have s24 := s23.trans s4
        have hF4 := s4 _ _ (s3 _ _ hF2)
        refine ⟨_, rfl, _, rfl, a0, _, 0, _, rfl, rfl, SqL.of (s24 _ _ h0), rfl, F, _, ((ws.length : Nat) : Int), _, rfl, by rw [en], SqL.of hF4, atF (by omega), _, rfl, A, putL q ws, rfl, la, putL_nodup W hQ, fun H5 p rs s5 np lp pw hm _ => ⟨(by show 2 ≤ sizeLine; decide), fun r nr => ?_⟩⟩
        have s25 := s24.trans s5
        have s6 : Same H5 (upd H5 r (.lst [.int (fW ws ws.length), .ref p])) := same_upd nr
        exact k _ r rs (s25.trans s6) (s25.free nr) ⟨r, p, rfl, upd_same, lp.mono s6⟩ (isPut_of W hQ pw hm)
end
end K0
set_option Elab.async false
set_option linter.all false
set_option maxRecDepth 100000
set_option maxHeartbeats 4000000
namespace K0
open PySem PySem.Spec PyProof.Rows L2 ZM
theorem GrowR.plus {H : Hp} {A G B : Addr} {rs ss : List Rw} {xs ys : List V} (g : GrowR H A rs) (g' : GrowR H G ss) (hx : H A = some (.lst xs)) (hy : H G = some (.lst ys)) (nB : H B = none) : GrowR (upd H B (.lst (xs ++ ys))) B (rs ++ ss) := by
  obtain ⟨l, h, e, p⟩ := g
  obtain ⟨l', h', e', p'⟩ := g'
  rw [h] at hx
  cases hx
  rw [h'] at hy
  cases hy
  refine ⟨l ++ l', by rw [upd_same, List.map_append], by rw [List.map_append, e, e'], fun z hz => ?_⟩
  exact (same_upd nB) _ _ ((List.mem_append.mp hz).elim (p z) (p' z))
theorem rows_del {H : Hp} {D : Addr} {ds : List V} (hD : H D = some (.lst ds)) : ∀ {xs : List V} {rs : List Rw}, DtAll H xs (rs.map rwD) → DtAll (del H D) xs (rs.map rwD)
  | _, [], .nil => .nil
  | _, r :: rs, .cons h t => by
    refine .cons ?_ (rows_del hD t)
    obtain ⟨a, rfl, ha⟩ := dt_row h
    have : a ≠ D := fun e => by rw [e, hD] at ha; cases ha
    exact .tup (by rw [del_ne this]; exact ha) (DtAll.ints _ _)
theorem sdD {H G : Hp} {D : Addr} {o : HO} (s : Same (del H D) G) : Same (del H D) (upd G D o) := fun b v e => by
  by_cases h : b = D
  · rw [h, del_same] at e
    cases e
  · rw [upd_ne h]
    exact s b v e
theorem ints_val {l : List Int} {j : Nat} {v : V} (h : (l.map V.int)[j]? = some v) : ∃ x, l[j]? = some x ∧ v = .int x := by
  rw [List.getElem?_map] at h
  cases e : l[j]? with
  | none => rw [e] at h; cases h
  | some x => rw [e] at h; exact ⟨x, rfl, (Option.some.inj h).symm⟩
theorem insR_succ (ws : List Wb) (rI : Nat → List Rw) (k : Nat) : insR ws rI (k + 1) = insR ws rI k ++ (rI k).map (shR (fW ws k)) := by
  unfold insR
  rw [List.range_succ, List.flatMap_append]
  simp
theorem insR_congr {ws : List Wb} {rI rJ : Nat → List Rw} : ∀ {k : Nat}, (∀ v, v < k → rI v = rJ v) → insR ws rI k = insR ws rJ k
  | 0, _ => rfl
  | k + 1, h => by rw [insR_succ, insR_succ, insR_congr fun v hv => h v (by omega), h k (by omega)]
theorem fm_room {α β : Type} {l : List α} {f : α → List β} {i : Nat} {e : α} (h : l[i]? = some e) : ((l.take i).flatMap f).length + (f e).length ≤ (l.flatMap f).length := by
  have := flat_take_le l f (i + 1)
  rw [fm_snoc h, List.length_append] at this
  exact this
theorem take_room {α : Type} (l : List α) (i : Nat) : (l.take i).length ≤ l.length := by rw [List.length_take]; exact Nat.min_le_right _ _
abbrev m4 (n : Nat) : Nat := n * (n * (n * n))
theorem insR_len {ws : List Wb} {rI : Nat → List Rw} {m : Nat} (h : ∀ v, v < ws.length → (rI v).length ≤ m) : ∀ k, k ≤ ws.length → (insR ws rI k).length ≤ k * m
  | 0, _ => by unfold insR; simp
  | k + 1, hk => by
    have := insR_len h k (by omega)
    have := h k (by omega)
    rw [insR_succ, List.length_append, List.length_map, Nat.succ_mul]
    omega
theorem prt_len {ws : List Wb} {m : Nat} (h : ∀ v, nW ws v ≤ m) (u : Int) : (prt ws u).length ≤ m := by
  unfold prt
  rw [List.length_map, List.length_range]
  have := h u.toNat
  omega
theorem prodR_len {ws : List Wb} {m : Nat} (h : ∀ v, nW ws v ≤ m) (u : Rw) : (prodR ws u).length ≤ m4 m := by
  have l := prt_len h
  unfold prodR prod4
  refine Nat.le_trans (len_fm _ (m := m * (m * m)) fun a _ => Nat.le_trans (len_fm _ (m := m * m) fun b _ => Nat.le_trans (len_fm _ (m := m) fun c _ => ?_) (Nat.mul_le_mul_right _ (l _))) (Nat.mul_le_mul_right _ (l _))) (Nat.mul_le_mul_right _ (l _))
  rw [List.length_map]
  exact l _
section
variable {P : Program} {w : World} {K : PySem.W.Frag} {mg : Str → Option Value} {base : Heap} {f : Addr} {fd : FuncData}
abbrev s_pr : Stmt := top 53
/-- _law_put_rows -/
def spPr : Sp := fun vs H Q _ => ∃ (v : V) (b : Addr) (n : Int) (q : List Pr) (ws : List Wb) (p : List Pr), vs = [v, .ref b] ∧ LwAt H v (n, q) ∧ LwL H b ws ∧ (ws.length : Int) = n ∧ ws.length ≤ 5 ∧ Cl n q ∧ Wbs ws ∧ (∀ v, nW ws v ≤ 4) ∧ tot ws ≤ 16 ∧ IsPut q ws p ∧
  ∀ H' t xs rs, Same H H' → H t = none → H' t = some (.lst xs) → DtAll H' xs (rs.map rwD) → IsRows (tot ws) p rs → rs.length ≤ 1000000 → Q (.ref t) H'
def nsPr : List Str := ["_law_outer_here", "_law_inners_here", "_law_firsts_here", "_law_rows", "_law_v", "_law_quad", "_law_parts", "_law_a", "_law_b", "_law_c", "_law_x", "_law_d", "_law_row"]
theorem sc_pr : FnScope ["_law_outer_here", "_law_inners_here", "_law_firsts_here", "_law_rows", "_law_v", "_law_quad", "_law_parts", "_law_a", "_law_b", "_law_c", "_law_x", "_law_d", "_law_row"] ["_law_outer_here", "_law_inners_here"] (defScope s_pr) := ⟨rfl, rfl, rfl, by decide +kernel, rfl, by decide +kernel, by decide +kernel⟩
theorem ok_pr (F : Fun K "_law_put_rows" "_law_put_rows" s_pr f fd) (B : Blt3 mg) (FS : Df P w K mg base "_law_firsts" 1 ["_law_inners_here"] spFs) (LQ : Df P w K mg base "_law_quads" 3 ["_law_many", "_law_pairs"] spLq) : FnOk P w K mg base (L2.CX P w) 4 f fd ["_law_outer_here", "_law_inners_here"] spPr := by
  refine F.okX sc_pr (fun vs H Q E h => ?_) (fun cdv A outer s H vs Q E hr h => ?_)
  · obtain ⟨v, b, n, q, ws, p, rfl, _⟩ := h
    rfl
  · obtain ⟨v, b, n, q, ws, p, rfl, ⟨a0, c0, rfl, h0, hq⟩, ⟨xs, hb, hw⟩, en, l5, hQ', W, n4, t16, isp, k⟩ := h
    have nd := sc_pr.nd
    have hl := hw.len
    have r1 : Room 1 _ := hr.mono (by decide)
    have r3 : Room 3 _ := hr.mono (by decide)
    have hQ : Cl (ws.length : Int) q := by rw [en]; exact hQ'
    dsimp only at h0 hq
    let tP : TE := tLc (iRng2 (tCons (tOp (rIxL K) (tVar 2) (tVar 4)) (tCons (tOp (rIxL K) (tVar 2) (tOp rAddI (tVar 4) (tC (.int 1)))) tNil))) (gName 10) tYes (tVar 10) [10]
    let t4 : TE := tTup (tCons (tVar 7) (tCons (tVar 8) (tCons (tVar 9) (tCons (tVar 11) tNil))))
    let ix (i : Int) : TE := tOp (rIxT K) (tVar 12) (tC (.int i))
    let tR : TE := tIf (tTest (tOp (rI0 fun i j => .bl (decide (i < j))) (ix 0) (ix 3))) (tVar 12) (tTup (tCons (ix 3) (tCons (ix 2) (tCons (ix 1) (tCons (ix 0) tNil)))))
    refine ⟨_, pss_cons (ps_set (i := 2) nd rfl (.inr rfl) (pe_df FS r1 (by rfl) passUp (pa_cons (pv 1) pa_nil)))
      (pss_cons (ps_set (i := 3) nd rfl (.inl rfl) (pe_lst pa_nil))
      (pss_cons (ps_for (passes_of rfl) rfl (pi_range1 (by rfl) B.range (pa_cons (pe_ix ix_list (pv 0) pe_int (fun _ _ => rfl)) pa_nil)) (pg_name (i := 4) nd rfl (.inl rfl))
        (pss_one (ps_for (passes_of rfl) rfl (pi_list (pe_df LQ r3 (by rfl) passUp (pa_cons (pe_ix ix_list (pe_ix ix_list (pv 1) (pv 4) (fun _ _ => rfl)) pe_int (fun _ _ => rfl)) (pa_cons (pe_ix ix_list (pe_ix ix_list (pv 1) (pv 4) (fun _ _ => rfl)) pe_int (fun _ _ => rfl)) pa_nil)))) (pg_name (i := 5) nd rfl (.inl rfl))
          (pss_one (ps_expr (pe_lapp (pv 3) (pa_cons (pe_tup (pa_cons (pe_op op_add (pe_ix ix_list (pv 2) (pv 4) (fun _ _ => rfl)) (pe_ix ix_tup (pv 5) pe_int (fun _ _ => rfl))) (pa_cons (pe_op op_add (pe_ix ix_list (pv 2) (pv 4) (fun _ _ => rfl)) (pe_ix ix_tup (pv 5) pe_int (fun _ _ => rfl))) (pa_cons (pe_op op_add (pe_ix ix_list (pv 2) (pv 4) (fun _ _ => rfl)) (pe_ix ix_tup (pv 5) pe_int (fun _ _ => rfl))) (pa_cons (pe_op op_add (pe_ix ix_list (pv 2) (pv 4) (fun _ _ => rfl)) (pe_ix ix_tup (pv 5) pe_int (fun _ _ => rfl))) pa_nil))))) pa_nil)))))))
      (pss_cons (ps_for (passes_of rfl) rfl (pi_list (pe_df LQ r3 (by rfl) passUp (pa_cons (pe_ix ix_list (pv 0) pe_int (fun _ _ => rfl)) (pa_cons (pe_ix ix_list (pv 0) pe_int (fun _ _ => rfl)) pa_nil)))) (pg_name (i := 5) nd rfl (.inl rfl))
        (pss_cons (ps_setLc (i := 6) (own := [("_law_v", 4)]) (g := gName 4) (tt := tYes) (te := tP) rfl nd rfl (by rfl) (by rfl)
          (pi_tup (pv 5)) (blkOk_by (N := ["_law_outer_here", "_law_inners_here", "_law_firsts_here", "_law_rows", "_law_v", "_law_quad", "_law_parts", "_law_a", "_law_b", "_law_c", "_law_x", "_law_d", "_law_row"]) (sc := defScope s_pr) (by decide +kernel))
          (fun _ _ _ _ _ => pg_name (i := 4) nd rfl (.inl rfl)) (fun _ _ _ _ _ => pts_nil)
          (fun _ _ _ _ _ => pe_lc (own := [("_law_x", 10)]) (g := gName 10) (tt := tYes) (te := tVar 10) rfl nd
            (pi_range2 (by rfl) B.range (pa_cons (pe_ix ix_list (pv 2) (pv 4) (fun _ _ => rfl)) (pa_cons (pe_ix ix_list (pv 2) (pe_op op_add (pv 4) pe_int) (fun _ _ => rfl)) pa_nil)))
            (blkOk_nf (N := ["_law_outer_here", "_law_inners_here", "_law_firsts_here", "_law_rows", "_law_v", "_law_quad", "_law_parts", "_law_a", "_law_b", "_law_c", "_law_x", "_law_d", "_law_row"]) (by decide +kernel) (by decide +kernel)) (fun _ _ _ _ _ => pg_name (i := 10) nd rfl (.inl rfl)) (fun _ _ _ _ _ => pts_nil) (fun _ _ _ _ _ => pv 10)))
        (pss_one (ps_for (passes_of rfl) rfl (pi_list (pe_ix ix_list (pv 6) pe_int (fun _ _ => rfl))) (pg_name (i := 7) nd rfl (.inr rfl))
          (pss_one (ps_for (passes_of rfl) rfl (pi_list (pe_ix ix_list (pv 6) pe_int (fun _ _ => rfl))) (pg_name (i := 8) nd rfl (.inr rfl))
            (pss_one (ps_for (passes_of rfl) rfl (pi_list (pe_ix ix_list (pv 6) pe_int (fun _ _ => rfl))) (pg_name (i := 9) nd rfl (.inr rfl))
              (pss_one (ps_set (i := 3) nd rfl (.inl rfl) (pe_op op_cat (pv 3) (pe_lc (own := [("_law_d", 11)]) (g := gName 11) (tt := tYes) (te := t4) rfl nd
                (pi_list (pe_ix ix_list (pv 6) pe_int (fun _ _ => rfl))) (blkOk_by (N := ["_law_outer_here", "_law_inners_here", "_law_firsts_here", "_law_rows", "_law_v", "_law_quad", "_law_parts", "_law_a", "_law_b", "_law_c", "_law_x", "_law_d", "_law_row"]) (sc := defScope s_pr) (by decide +kernel))
                (fun _ _ _ _ _ => pg_name (i := 11) nd rfl (.inl rfl)) (fun _ _ _ _ _ => pts_nil) (fun _ _ _ _ _ => pe_tup (pa_cons (pv 7) (pa_cons (pv 8) (pa_cons (pv 9) (pa_cons (pv 11) pa_nil)))))))))))))))))
      (pss_one (ps_ret (pe_callB (cr_srtW (d := 4) (by decide)) (by rfl) B.sorted (by decide +kernel) (pa_cons (pe_lc (own := [("_law_row", 12)]) (g := gName 12) (tt := tYes) (te := tR) rfl nd
        (pi_list (pv 3)) (blkOk_by (N := ["_law_outer_here", "_law_inners_here", "_law_firsts_here", "_law_rows", "_law_v", "_law_quad", "_law_parts", "_law_a", "_law_b", "_law_c", "_law_x", "_law_d", "_law_row"]) (sc := defScope s_pr) (by decide +kernel))
        (fun _ _ _ _ _ => pg_name (i := 12) nd rfl (.inl rfl)) (fun _ _ _ _ _ => pts_nil)
        (fun _ _ _ _ _ => pe_ifExp (pt_cmpR op_lt (pe_ix ix_tup (pv 12) pe_int (fun _ _ => rfl)) (pe_ix ix_tup (pv 12) pe_int (fun _ _ => rfl)) (by rfl)) (pv 12)
          (pe_tup (pa_cons (pe_ix ix_tup (pv 12) pe_int (fun _ _ => rfl)) (pa_cons (pe_ix ix_tup (pv 12) pe_int (fun _ _ => rfl)) (pa_cons (pe_ix ix_tup (pv 12) pe_int (fun _ _ => rfl)) (pa_cons (pe_ix ix_tup (pv 12) pe_int (fun _ _ => rfl)) pa_nil))))))) pa_nil))))))), ?_⟩
    refine ⟨_, rfl, b, ws, rfl, ⟨xs, hb, hw⟩, by omega, fun H1 F s1 nF hF => ?_⟩
    refine ⟨by show 0 ≤ sizeLine; exact Nat.zero_le _, fun D nD => ?_⟩
    have hD0 : H D = none := s1.free nD
    have s2 := s1.trans (same_upd (o := .lst []) nD)
    have FD : F ≠ D := fun e => by rw [e, nD] at hF; cases hF
    have atF : ∀ {i : Nat}, i ≤ ws.length → atI ((fsL ws (ws.length + 1)).map V.int) (i : Int) = some (.int (fW ws i)) := fun {i} hi => atI_nat (by rw [List.getElem?_map, fsL_at (by omega)]; rfl)
    have n0 : 0 ≤ n := by omega
    let P1 : Nat → L2.St → Hp → Prop := fun i σ H' => ∃ o4 o5, σ = [some (.ref a0), some (.ref b), some (.ref F), some (.ref D), o4, o5, none, none, none, none, none, none, none] ∧ Same H1 H' ∧ ∃ rI : Nat → List Rw, (∀ v, v < i → IsRows (nW ws v) (qW ws v) (rI v) ∧ (rI v).length ≤ 256) ∧ GrowR H' D (insR ws rI i)
    refine ⟨_, rfl, a0, _, 0, _, rfl, rfl, SqL.of (s2 _ _ h0), rfl, n, rfl, by omega, by omega, for_range (n := n.toNat) P1 ⟨none, none, rfl, same_upd nD, fun _ => [], (fun v hv => absurd hv (Nat.not_lt_zero v)), GrowR.nil nD⟩ (fun i σ H3 hi h => ?_) (fun σ H3 h => ?_)⟩
    · obtain ⟨o4, o5, rfl, s3, rI, hrI, g⟩ := h
      rw [Int.zero_add]
      have s23 := s1.trans s3
      have hiw : i < ws.length := by omega
      have hix : i < xs.length := by omega
      obtain ⟨bi, ci, ebi, hbi, hci⟩ := (hw.mono s23).at (List.getElem?_eq_getElem hix)
      dsimp only at hbi
      have nn := W.nn i
      have nn4 := n4 i
      have lins := insR_len (m := 256) (ws := ws) (rI := fun v => if v < i then rI v else []) (fun v _ => by by_cases hv : v < i; simp only [hv, if_true]; exact (hrI v hv).2; simp [hv]) i (by omega)
      rw [insR_congr (rJ := rI) fun v hv => by simp [hv]] at lins
      refine ⟨_, rfl, _, rfl, b, xs, _, _, rfl, rfl, SqL.of (s23 _ _ hb), atI_nat (List.getElem?_eq_getElem hix), bi, _, 0, _, ebi, rfl, SqL.of hbi, rfl, _, rfl, _, rfl, b, xs, _, _, rfl, rfl, SqL.of (s23 _ _ hb), atI_nat (List.getElem?_eq_getElem hix), bi, _, 1, _, ebi, rfl, SqL.of hbi, rfl, ci, nW ws i, qW ws i, rfl, nn, by omega, W.cw i, hci, fun H4 t zs rs s4 nt ht dz is ll => ?_⟩
      have l256 : rs.length ≤ 256 := Nat.le_trans ll (Nat.mul_le_mul (by omega : (nW ws i).toNat ≤ 4) (Nat.mul_le_mul (by omega : (nW ws i).toNat ≤ 4) (Nat.mul_le_mul (by omega : (nW ws i).toNat ≤ 4) (by omega : (nW ws i).toNat ≤ 4))))
      have tD : t ≠ D := g.ne nt
      have g4 := g.mono s4
      obtain ⟨ds, hds, _⟩ := g4.at
      have dz' := rows_del hds dz
      have ht' : (del H4 D) t = some (.lst zs) := by rw [del_ne tD]; exact ht
      have lz := dz.len
      rw [List.length_map] at lz
      let P2 : Nat → L2.St → Hp → Prop := fun j σ H' => ∃ o5, σ = [some (.ref a0), some (.ref b), some (.ref F), some (.ref D), some (.int (i : Int)), o5, none, none, none, none, none, none, none] ∧ Same H1 H' ∧ Same (del H4 D) H' ∧ GrowR H' D (insR ws rI i ++ (rs.take j).map (shR (fW ws i)))
      refine ⟨t, rfl, ⟨_, SqL.of ht⟩, for_list (K := K) (a := t) (xs := zs) P2 ⟨o5, rfl, s3.trans s4, del_sub, by simpa using g4⟩ (fun j σ H' _ h => ?_) (fun j x σ H5 hj h => ?_) (fun σ H5 h => ?_)⟩
      · obtain ⟨_, _, _, sd, _⟩ := h
        exact SqL.of (sd _ _ ht')
      · obtain ⟨o5, rfl, s5, sd5, g5⟩ := h
        obtain ⟨r, ra, hr', rfl, hra⟩ := dta_row (dz'.mono sd5) hj
        obtain ⟨ya, yb, yc, yd, rfl, _, _⟩ := (is.mem r).mp (List.mem_of_getElem? hr')
        have hF5 := s5 _ _ hF
        obtain ⟨as, hA, lA, _⟩ := g5.at
        refine ⟨_, rfl, .inl ⟨rfl, as, SqL.of hA⟩, ?_⟩
        refine ⟨_, rfl, _, rfl, F, _, _, _, rfl, rfl, SqL.of hF5, atF (by omega), _, rfl, ra, _, 0, _, rfl, rfl, SqT.of hra, rfl, _, _, rfl, rfl, ?_⟩
        refine ⟨_, rfl, _, rfl, F, _, _, _, rfl, rfl, SqL.of hF5, atF (by omega), _, rfl, ra, _, 1, _, rfl, rfl, SqT.of hra, rfl, _, _, rfl, rfl, ?_⟩
        refine ⟨_, rfl, _, rfl, F, _, _, _, rfl, rfl, SqL.of hF5, atF (by omega), _, rfl, ra, _, 2, _, rfl, rfl, SqT.of hra, rfl, _, _, rfl, rfl, ?_⟩
        refine ⟨_, rfl, _, rfl, F, _, _, _, rfl, rfl, SqL.of hF5, atF (by omega), _, rfl, ra, _, 3, _, rfl, rfl, SqT.of hra, rfl, _, _, rfl, rfl, (by show 4 ≤ sizeLine; decide), fun u nu => ?_⟩
        have s6 : Same H5 (upd H5 u (.tup ((shR (fW ws i) [ya, yb, yc, yd]).map V.int))) := same_upd nu
        refine ⟨D, as, _, rfl, rfl, s6 _ _ hA, ?_, _, rfl, same_keep nD (s5.trans s6), sdD (sd5.trans s6), ?_⟩
        · have := take_room rs j
          rw [lA, List.length_append, List.length_map, sizeLine_eq]
          omega
        · rw [take_at hr', List.map_append, ← List.append_assoc]
          exact g5.push (r := shR (fW ws i) [ya, yb, yc, yd]) nu hA
      · obtain ⟨o5, rfl, s5, sd5, g5⟩ := h
        rw [lz, List.take_length] at g5
        refine ⟨_, _, rfl, s5, fun v => if v = i then rs else rI v, fun v hv => ?_, ?_⟩
        · by_cases e : v = i
          · subst e
            simp only [if_true]
            exact ⟨is, l256⟩
          · simp only [e, if_false]
            exact hrI v (by omega)
        · rw [insR_succ, insR_congr (rJ := rI) fun v hv => by simp [show v ≠ i by omega]]
          simp only [if_true]
          exact g5
    · obtain ⟨o4, o5, rfl, s3, rI, hrI, g⟩ := h
      rw [show n.toNat = ws.length by omega] at hrI g
      have hI : ∀ v, v < ws.length → IsRows (nW ws v) (qW ws v) (rI v) := fun v hv => (hrI v hv).1
      have lins := insR_len (m := 256) (ws := ws) (rI := rI) (fun v hv => (hrI v hv).2) ws.length (Nat.le_refl _)
      have s13 := s1.trans s3
      refine ⟨_, rfl, a0, _, 0, _, rfl, rfl, SqL.of (s13 _ _ h0), rfl, _, rfl, a0, _, 1, _, rfl, rfl, SqL.of (s13 _ _ h0), rfl, c0, n, q, rfl, n0, by omega, hQ', hq.mono s13, fun H4 t zs rO s4 nt ht dz is ll => ?_⟩
      have hO : IsRows (ws.length : Int) q rO := by rw [en]; exact is
      obtain ⟨rnd, rmem⟩ := all_rows W hQ isp hI hO
      have lO : rO.length ≤ 625 := Nat.le_trans ll (Nat.mul_le_mul (by omega : n.toNat ≤ 5) (Nat.mul_le_mul (by omega : n.toNat ≤ 5) (Nat.mul_le_mul (by omega : n.toNat ≤ 5) (by omega : n.toNat ≤ 5))))
      have lPR : (rO.flatMap (prodR ws)).length ≤ 625 * 256 := Nat.le_trans (len_fm rO fun u _ => prodR_len (m := 4) n4 u) (Nat.mul_le_mul_right _ lO)
      have lz := dz.len
      rw [List.length_map] at lz
      let base := insR ws rI ws.length
      have lbase : base.length ≤ 1280 := Nat.le_trans lins (Nat.mul_le_mul_right 256 l5)
      let P3 : Nat → L2.St → Hp → Prop := fun j σ H' => ∃ A o4 o5 o6 o7 o8 o9, σ = [some (.ref a0), some (.ref b), some (.ref F), some (.ref A), o4, o5, o6, o7, o8, o9, none, none, none] ∧ Same H4 H' ∧ GrowR H' A (base ++ (rO.take j).flatMap (prodR ws))
      refine ⟨t, rfl, ⟨_, SqL.of ht⟩, for_list (K := K) (a := t) (xs := zs) P3 ⟨D, o4, o5, none, none, none, none, rfl, Same.refl _, by simpa [base] using g.mono s4⟩ (fun j σ H' _ h => ?_) (fun j x σ H5 hj h => ?_) (fun σ H5 h => ?_)⟩
      · obtain ⟨_, _, _, _, _, _, _, _, sm, _⟩ := h
        exact SqL.of (sm _ _ ht)
      · obtain ⟨A, o4, o5, o6, o7, o8, o9, rfl, s5, g5⟩ := h
        obtain ⟨r, ra, hr', rfl, hra⟩ := dta_row (dz.mono s5) hj
        obtain ⟨ya, yb, yc, yd, rfl, _, RR⟩ := (is.mem r).mp (List.mem_of_getElem? hr')
        obtain ⟨⟨ya0, ya1⟩, ⟨yb0, yb1⟩, ⟨yc0, yc1⟩, yd0, yd1⟩ := RR.rng hQ'
        obtain ⟨ya, rfl⟩ := Int.eq_ofNat_of_zero_le ya0
        obtain ⟨yb, rfl⟩ := Int.eq_ofNat_of_zero_le yb0
        obtain ⟨yc, rfl⟩ := Int.eq_ofNat_of_zero_le yc0
        obtain ⟨yd, rfl⟩ := Int.eq_ofNat_of_zero_le yd0
        let ys : List Nat := [ya, yb, yc, yd]
        have hys : ∀ u ∈ ys, u < ws.length := fun u hu => by
          simp only [ys, List.mem_cons, List.not_mem_nil, or_false] at hu
          omega
        have s35 := s4.trans s5
        have s15 := s3.trans s35
        have hF5 := s15 _ _ hF
        -- the parts
        refine ⟨_, rfl, ra, rfl, ⟨_, SqT.of hra⟩, fun G nG => ?_⟩
        let Pp : Nat → Hp → Prop := fun j H' => Same H5 H' ∧ ∃ l : List Addr, H' G = some (.lst (l.map V.ref)) ∧ l.length = j ∧ ∀ (k : Nat) (a : Addr), l[k]? = some a → a ≠ G ∧ H' a = some (.lst ((prt ws ((ys.getD k 0 : Nat) : Int)).map V.int))
        refine lc_tup (K := K) (a := ra) (xs := [V.int (ya : Int), .int (yb : Int), .int (yc : Int), .int (yd : Int)]) Pp ⟨same_upd nG, [], upd_same, rfl, fun k a e => by simp at e⟩ (fun j H' _ z => SqT.of (z.1 _ _ hra)) (fun j x H' hj z => ?_) (fun H6 z => ?_)
        · obtain ⟨s6, l, hG, ll, pl⟩ := z
          have hj4 : j < 4 := (List.getElem?_eq_some_iff.mp hj).1
          obtain ⟨u, hu, ex, eu⟩ : ∃ u : Nat, u < ws.length ∧ x = .int (u : Int) ∧ ys.getD j 0 = u := by
            have e : ([V.int (ya : Int), .int (yb : Int), .int (yc : Int), .int (yd : Int)] : List V) = ys.map fun (k : Nat) => V.int (k : Int) := rfl
            rw [e, List.getElem?_map, List.getElem?_eq_getElem (show j < ys.length from hj4)] at hj
            refine ⟨ys[j]'hj4, hys _ (List.getElem_mem _), (Option.some.inj hj).symm, ?_⟩
            rw [List.getD_eq_getElem?_getD, List.getElem?_eq_getElem (show j < ys.length from hj4)]
            rfl
          subst ex
          have hF6 := s6 _ _ hF5
          have nu0 := W.nn u
          have nu4 := n4 u
          have fu0 := fW_nonneg W u
          have eu1 := fW_succ ws u
          have tu : fW ws (u + 1) ≤ 16 := by
            have : fW ws (u + 1) ≤ fW ws ws.length := fW_mono W (by omega)
            have : tot ws = fW ws ws.length := rfl
            omega
          have GF : G ≠ F := fun e => by rw [e, hF5] at nG; cases nG
          refine ⟨rfl, _, rfl, _, rfl, F, _, _, _, rfl, rfl, SqL.of hF6, atF (by omega), _, rfl, _, rfl, _, _, rfl, rfl, F, _, ((u + 1 : Nat) : Int), _, rfl, rfl, SqL.of hF6, atF (by omega), _, _, rfl, ⟨by omega, by omega, by omega, by omega⟩, fun X nX => ?_⟩
          have XG : X ≠ G := fun e => by rw [e, hG] at nX; cases nX
          refine lc_range (lo := fW ws u) (n := (fW ws (u + 1) - fW ws u).toNat) (fun i H'' => Same H' H'' ∧ H'' X = some (.lst (((List.range i).map fun (x : Nat) => fW ws u + (x : Int)).map V.int))) ⟨same_upd nX, upd_same⟩ (fun i H'' hi z => ?_) (fun H'' z => ?_)
          · obtain ⟨s7, hX⟩ := z
            refine ⟨rfl, _, rfl, _, hX, ?_, same_keep nX s7, ?_⟩
            · rw [List.length_map, List.length_map, List.length_range, sizeLine_eq]
              omega
            · rw [upd_same, List.range_succ, List.map_append, List.map_append]
              rfl
          · obtain ⟨s7, hX⟩ := z
            have eP : ((List.range (fW ws (u + 1) - fW ws u).toNat).map fun (x : Nat) => fW ws u + (x : Int)) = prt ws ((u : Nat) : Int) := by
              rw [show (fW ws (u + 1) - fW ws u).toNat = (nW ws u).toNat by omega]
              rfl
            rw [eP] at hX
            refine ⟨_, s7 _ _ hG, by rw [List.length_map, ll, sizeLine_eq]; omega, same_keep nG (s6.trans s7), l ++ [X], by rw [upd_same, List.map_append]; rfl, by rw [List.length_append, ll]; rfl, fun k a e => ?_⟩
            by_cases hk : k < l.length
            · rw [List.getElem?_append_left hk] at e
              obtain ⟨p1, p2⟩ := pl k a e
              exact ⟨p1, by rw [upd_ne p1]; exact s7 _ _ p2⟩
            · have hk2 : k = l.length := by
                have := (List.getElem?_eq_some_iff.mp e).1
                rw [List.length_append] at this
                simp at this
                omega
              subst hk2
              rw [List.getElem?_append_right (Nat.le_refl _), Nat.sub_self] at e
              cases e
              refine ⟨XG, ?_⟩
              rw [upd_ne XG, ll, eu]
              exact hX
        · obtain ⟨s6, l, hG, ll, pl⟩ := z
          have ll : l.length = 4 := ll
          obtain ⟨p0, p1, p2, p3, rfl⟩ : ∃ p0 p1 p2 p3, l = [p0, p1, p2, p3] := by
            match l, ll with
            | [p0, p1, p2, p3], _ => exact ⟨p0, p1, p2, p3, rfl⟩
          have h0' : H6 p0 = some (.lst ((prt ws (ya : Int)).map V.int)) := (pl 0 p0 rfl).2
          have h1' : H6 p1 = some (.lst ((prt ws (yb : Int)).map V.int)) := (pl 1 p1 rfl).2
          have h2' : H6 p2 = some (.lst ((prt ws (yc : Int)).map V.int)) := (pl 2 p2 rfl).2
          have h3' : H6 p3 = some (.lst ((prt ws (yd : Int)).map V.int)) := (pl 3 p3 rfl).2
          have hG : H6 G = some (.lst [.ref p0, .ref p1, .ref p2, .ref p3]) := hG
          let fc : Int → Int → Int → List Rw := fun a b c => (prt ws (yd : Int)).map fun d => [a, b, c, d]
          let fb : Int → Int → List Rw := fun a b => (prt ws (yc : Int)).flatMap (fc a b)
          let fa : Int → List Rw := fun a => (prt ws (yb : Int)).flatMap (fb a)
          have eprod : prodR ws [(ya : Int), (yb : Int), (yc : Int), (yd : Int)] = (prt ws (ya : Int)).flatMap fa := rfl
          let b2 : List Rw := base ++ (rO.take j).flatMap (prodR ws)
          have room2 : b2.length + ((prt ws (ya : Int)).flatMap fa).length ≤ 1000000 := by
            have h1 := fm_room (f := prodR ws) hr'
            rw [eprod] at h1
            have e : b2.length = base.length + ((rO.take j).flatMap (prodR ws)).length := List.length_append
            omega
          let P4 : Nat → L2.St → Hp → Prop := fun i σ H' => ∃ A o7 o8 o9, σ = [some (.ref a0), some (.ref b), some (.ref F), some (.ref A), o4, some (.ref ra), some (.ref G), o7, o8, o9, none, none, none] ∧ Same H6 H' ∧ GrowR H' A (b2 ++ ((prt ws (ya : Int)).take i).flatMap fa)
          refine ⟨_, rfl, G, _, 0, _, rfl, rfl, SqL.of hG, rfl, p0, rfl, ⟨_, SqL.of h0'⟩, for_list (K := K) (a := p0) (xs := (prt ws (ya : Int)).map V.int) P4 ⟨A, o7, o8, o9, rfl, Same.refl _, by simpa [b2] using g5.mono s6⟩ (fun i σ H' _ h => ?_) (fun i x σ H7 hi h => ?_) (fun σ H7 h => ?_)⟩
          · obtain ⟨_, _, _, _, _, sm, _⟩ := h
            exact SqL.of (sm _ _ h0')
          · obtain ⟨A, o7, o8, o9, rfl, s7, g7⟩ := h
            obtain ⟨va, hva, rfl⟩ := ints_val hi
            have room3 : (b2 ++ ((prt ws (ya : Int)).take i).flatMap fa).length + (fa va).length ≤ 1000000 := by
              have := fm_room (f := fa) hva
              rw [List.length_append]
              omega
            let P5 : Nat → L2.St → Hp → Prop := fun k σ H' => ∃ A o8 o9, σ = [some (.ref a0), some (.ref b), some (.ref F), some (.ref A), o4, some (.ref ra), some (.ref G), some (.int va), o8, o9, none, none, none] ∧ Same H6 H' ∧ GrowR H' A (b2 ++ ((prt ws (ya : Int)).take i).flatMap fa ++ ((prt ws (yb : Int)).take k).flatMap (fb va))
            refine ⟨_, rfl, G, _, 1, _, rfl, rfl, SqL.of (s7 _ _ hG), rfl, p1, rfl, ⟨_, SqL.of (s7 _ _ h1')⟩, for_list (K := K) (a := p1) (xs := (prt ws (yb : Int)).map V.int) P5 ⟨A, o8, o9, rfl, s7, by simpa using g7⟩ (fun k σ H' _ h => ?_) (fun k x σ H8 hk h => ?_) (fun σ H8 h => ?_)⟩
            · obtain ⟨_, _, _, _, sm, _⟩ := h
              exact SqL.of (sm _ _ h1')
            · obtain ⟨A, o8, o9, rfl, s8, g8⟩ := h
              obtain ⟨vb, hvb, rfl⟩ := ints_val hk
              have room4 : (b2 ++ ((prt ws (ya : Int)).take i).flatMap fa ++ ((prt ws (yb : Int)).take k).flatMap (fb va)).length + (fb va vb).length ≤ 1000000 := by
                have h1 : (((prt ws (yb : Int)).take k).flatMap (fb va)).length + (fb va vb).length ≤ (fa va).length := fm_room (f := fb va) hvb
                rw [List.length_append]
                omega
              let P6 : Nat → L2.St → Hp → Prop := fun m σ H' => ∃ A o9, σ = [some (.ref a0), some (.ref b), some (.ref F), some (.ref A), o4, some (.ref ra), some (.ref G), some (.int va), some (.int vb), o9, none, none, none] ∧ Same H6 H' ∧ GrowR H' A (b2 ++ ((prt ws (ya : Int)).take i).flatMap fa ++ ((prt ws (yb : Int)).take k).flatMap (fb va) ++ ((prt ws (yc : Int)).take m).flatMap (fc va vb))
              refine ⟨_, rfl, G, _, 2, _, rfl, rfl, SqL.of (s8 _ _ hG), rfl, p2, rfl, ⟨_, SqL.of (s8 _ _ h2')⟩, for_list (K := K) (a := p2) (xs := (prt ws (yc : Int)).map V.int) P6 ⟨A, o9, rfl, s8, by simpa using g8⟩ (fun m σ H' _ h => ?_) (fun m x σ H9 hm h => ?_) (fun σ H9 h => ?_)⟩
              · obtain ⟨_, _, _, sm, _⟩ := h
                exact SqL.of (sm _ _ h2')
              · obtain ⟨A, o9, rfl, s9, g9⟩ := h
                obtain ⟨vc, hvc, rfl⟩ := ints_val hm
                have room5 : (b2 ++ ((prt ws (ya : Int)).take i).flatMap fa ++ ((prt ws (yb : Int)).take k).flatMap (fb va) ++ ((prt ws (yc : Int)).take m).flatMap (fc va vb)).length + (fc va vb vc).length ≤ 1000000 := by
                  have h1 : (((prt ws (yc : Int)).take m).flatMap (fc va vb)).length + (fc va vb vc).length ≤ (fb va vb).length := fm_room (f := fc va vb) hvc
                  rw [List.length_append]
                  omega
                have lfc : (fc va vb vc).length = (prt ws (yd : Int)).length := List.length_map _
                refine ⟨_, rfl, _, rfl, G, _, 3, _, rfl, rfl, SqL.of (s9 _ _ hG), rfl, p3, rfl, ⟨_, SqL.of (s9 _ _ h3')⟩, fun X nX => ?_⟩
                refine lc_list (K := K) (a := p3) (xs := (prt ws (yd : Int)).map V.int) (fun e H' => Same H9 H' ∧ GrowR H' X (((prt ws (yd : Int)).take e).map fun d => [va, vb, vc, d])) ⟨same_upd nX, GrowR.nil nX⟩ (fun e H' _ z => SqL.of (z.1 _ _ (s9 _ _ h3'))) (fun e x H' he z => ?_) (fun H' z => ?_)
                · obtain ⟨s10, g10⟩ := z
                  obtain ⟨vd, hvd, rfl⟩ := ints_val he
                  refine ⟨rfl, _, rfl, _, rfl, _, rfl, _, rfl, (by show 4 ≤ sizeLine; decide), fun u nu => ?_⟩
                  obtain ⟨as, hA, lA, _⟩ := g10.at
                  have s11 : Same H' (upd H' u (.tup (([va, vb, vc, vd] : Rw).map V.int))) := same_upd nu
                  refine ⟨as, s11 _ _ hA, ?_, same_keep nX (s10.trans s11), ?_⟩
                  · have := take_room (prt ws (yd : Int)) e
                    rw [lA, List.length_map, sizeLine_eq]
                    omega
                  · rw [take_at hvd, List.map_append]
                    exact g10.push (r := [va, vb, vc, vd]) nu hA
                · obtain ⟨s10, g10⟩ := z
                  rw [List.length_map, List.take_length] at g10
                  obtain ⟨as, hA, lA, _⟩ := g10.at
                  have g9' := g9.mono s10
                  obtain ⟨zs', hz, lz', _⟩ := g9'.at
                  refine ⟨A, X, zs', as, rfl, rfl, hz, hA, ?_, fun A' nA' => ?_⟩
                  · have e1 : (((prt ws (yd : Int)).map fun d => ([va, vb, vc, d] : Rw))).length = (fc va vb vc).length := rfl
                    rw [lz', lA, e1, sizeLine_eq]
                    omega
                  · refine ⟨A', _, rfl, s9.trans (s10.trans (same_upd nA')), ?_⟩
                    rw [fm_snoc hvc, ← List.append_assoc]
                    exact g9'.plus g10 hz hA nA'
              · obtain ⟨A, o9, rfl, s9, g9⟩ := h
                rw [List.length_map, List.take_length] at g9
                refine ⟨A, _, _, rfl, s9, ?_⟩
                rw [fm_snoc hvb, ← List.append_assoc]
                exact g9
            · obtain ⟨A, o8, o9, rfl, s8, g8⟩ := h
              rw [List.length_map, List.take_length] at g8
              refine ⟨A, _, _, _, rfl, s8, ?_⟩
              rw [fm_snoc hva, ← List.append_assoc]
              exact g8
          · obtain ⟨A, o7, o8, o9, rfl, s7, g7⟩ := h
            rw [List.length_map, List.take_length] at g7
            refine ⟨A, _, _, _, _, _, _, rfl, s5.trans (s6.trans s7), ?_⟩
            rw [fm_snoc hr', ← List.append_assoc, eprod]
            exact g7
      · obtain ⟨A, o4, o5, o6, o7, o8, o9, rfl, s5, g5⟩ := h
        rw [lz, List.take_length] at g5
        have eB : base ++ rO.flatMap (prodR ws) = allR ws rI rO := rfl
        rw [eB] at g5
        have lall : (allR ws rI rO).length ≤ 1000000 := by
          rw [← eB, List.length_append]
          omega
        obtain ⟨as, hA, lA, dA⟩ := g5.at
        refine ⟨_, rfl, A, rfl, ⟨as, SqL.of hA⟩, fun G nG => ?_⟩
        refine lc_list (K := K) (a := A) (xs := as) (fun j H' => Same H5 H' ∧ H' G = some (.lst (as.take j))) ⟨same_upd nG, upd_same⟩ (fun j H' _ z => SqL.of (z.1 _ _ hA)) (fun j x H' hj z => ?_) (fun H' z => ?_)
        · obtain ⟨s6, hG⟩ := z
          obtain ⟨r, ra, hr', rfl, hra⟩ := dta_row (dA.mono s6) hj
          obtain ⟨ya, yb, yc, yd, rfl, lt, _⟩ := (rmem r).mp (List.mem_of_getElem? hr')
          refine ⟨rfl, _, rfl, ra, _, 0, _, rfl, rfl, SqT.of hra, rfl, _, rfl, ra, _, 3, _, rfl, rfl, SqT.of hra, rfl, _, _, rfl, rfl, _, rfl, ?_⟩
          rw [decide_eq_true lt]
          refine iteT ⟨_, rfl, _, hG, ?_, same_keep nG s6, ?_⟩
          · have := take_room as j
            rw [sizeLine_eq]
            omega
          · rw [upd_same, take_at hj]
        · obtain ⟨s6, hG⟩ := z
          rw [List.take_length] at hG
          refine ⟨G, allR ws rI rO, as, rfl, hG, dA.mono s6, fun r hr' => ?_, fun H7 u us ss s7 nu hu du pm le => ?_⟩
          · obtain ⟨ya, yb, yc, yd, rfl, _, R⟩ := (rmem r).mp hr'
            exact ⟨rfl, bd_row (by omega) (R.rng isp.c)⟩
          · have s07 := s13.trans (s4.trans (s5.trans (s6.trans s7)))
            exact k H7 u us ss s07 ((s13.trans (s4.trans (s5.trans s6))).free nu) hu du (sort_rows isp.c (by omega) rnd rmem pm le) (by rw [pm.length_eq]; exact lall)
end
end K0
set_option Elab.async false
set_option linter.all false
set_option maxRecDepth 100000
set_option maxHeartbeats 4000000
namespace K0
open PySem PySem.Spec PyProof.Rows L2
def strD (ss : List Str) : PyData := .tuple (ss.map PyData.str)
theorem strOk_of (s : String) : PyData.strOk (Str.ofString s) = true := by
  rw [Str.ofString_eq_toList]
  unfold PyData.strOk
  rw [List.all_toArray, List.all_eq_true]
  intro x hx
  obtain ⟨c, _, rfl⟩ := List.mem_map.mp hx
  have h := c.valid
  refine decide_eq_true ?_
  show c.val.toNat < 1114112
  rcases h with h | h
  · exact Nat.lt_of_lt_of_le h (by decide)
  · exact h.2
theorem reprD_ok {d : PyData} {s : Str} (h : reprD d = some s) : PyData.strOk s = true := by
  cases d with
  | none => cases h; exact strOk_of _
  | bool b => cases h; cases b <;> exact strOk_of _
  | int i =>
    have h' : (if i.natAbs < 1000 then some (Str.ofString (toString i)) else none) = some s := h
    by_cases hi : i.natAbs < 1000
    · rw [if_pos hi] at h'
      cases h'
      exact strOk_of _
    · rw [if_neg hi] at h'
      cases h'
  | str x => cases h
  | list x => cases h
  | tuple x => cases h
  | dict x => cases h
theorem strs_lay {ss : List Str} (h : ∀ x ∈ ss, PyData.strOk x = true) : PyData.canLayAll0 (ss.map PyData.str) = true := by
  induction ss with
  | nil => simp [PyData.canLayAll0]
  | cons n r ih =>
    rw [List.map_cons]
    simp only [PyData.canLayAll0, PyData.canLay0]
    rw [ih fun x hx => h x (List.mem_cons_of_mem _ hx), h n List.mem_cons_self]
    rfl
theorem strs_depth : ∀ ss : List Str, PyData.depthAll (ss.map PyData.str) ≤ 0
  | [] => by simp [PyData.depthAll]
  | n :: r => by rw [List.map_cons]; simp only [PyData.depthAll, PyData.depth]; exact Nat.max_le.mpr ⟨Nat.le_refl _, strs_depth r⟩
theorem strD_shaped {ss : List Str} (h : ∀ x ∈ ss, PyData.strOk x = true) : SeqAt.shaped (strD ss) = true := by
  unfold SeqAt.shaped strD
  rw [Bool.and_eq_true, decide_eq_true_iff]
  refine ⟨by simp only [PyData.canLay0]; exact strs_lay h, ?_⟩
  simp only [PyData.depth]
  have := strs_depth ss
  omega
theorem strD_eqv (a b : List Str) : PyData.eqv (strD a) (strD b) = decide (a = b) := by
  unfold strD
  rw [PyData.eqv]
  exact PySem.W.eqvAll_map a b
theorem DtAll.strs (H : Hp) : ∀ ss : List Str, DtAll H (ss.map V.str) (ss.map PyData.str)
  | [] => .nil
  | n :: r => .cons (.str n) (DtAll.strs H r)
theorem dt_strs {H : Hp} {t : Addr} {ss : List Str} (h : H t = some (.tup (ss.map V.str))) : Dt H (.ref t) (strD ss) := .tup h (DtAll.strs H ss)
/-- the pairs that are none -/
theorem repr_small {i : Int} (h : i.natAbs < 1000) : reprD (.int i) = some (Str.ofString (toString i)) := if_pos h
end K0
set_option Elab.async false
set_option linter.all false
set_option maxRecDepth 100000
set_option maxHeartbeats 4000000
namespace K0
open PySem PySem.Spec PyProof.Rows L2 ZM
section
variable {P : Program} {w : World} {K : PySem.W.Frag} {mg : Str → Option Value} {base : Heap} {f : Addr} {fd : FuncData}
abbrev s_nb : Stmt := top 54
/-- _law_numbers -/
def spNb (C : Addr) : Sp := fun vs H Q _ => ∃ (a b : Addr) (ws : List Wb), vs = [.ref a, .ref b] ∧ WsL C H a ws ∧ LwL H b ws ∧ 1 ≤ ws.length ∧ ws.length ≤ 5 ∧ (∀ v, nW ws v ≤ 4) ∧ tot ws ≤ 16 ∧ Ret (.bl true) H Q
theorem sc_nb : FnScope ["_law_webs", "_law_inners_here", "_law_firsts_here", "_law_v", "_law_h", "_law_bad"] ["_law_webs", "_law_inners_here"] (defScope s_nb) := ⟨rfl, rfl, rfl, by decide +kernel, rfl, by decide +kernel, by decide +kernel⟩
theorem ok_nb {C CN CS CT : Addr} (F : Fun K "_law_numbers" "_law_numbers" s_nb f fd) (B : Blt3 mg) (FS : Df P w K mg base "_law_firsts" 1 ["_law_inners_here"] spFs) (RI : Df P w K mg base "_law_row_is" 2 ["_law_told", "_law_due"] spRi) (DU : Df P w K mg base "_law_is_due" 2 ["_law_told", "_law_due"] spDu)
    (TO : Df P w K mg base "thing_of" 4 ["webs", "thing"] (spTo C CN CS)) (NO : Df P w K mg base "number_of" 4 ["webs", "v", "h"] (spNo C CT)) (TN : Df P w K mg base "_law_try_number" 8 ["_law_deed", "_law_outer_here", "_law_webs", "_law_v", "_law_h"] (spTn C)) :
    FnOk P w K mg base (L2.CX P w) 9 f fd ["_law_webs", "_law_inners_here"] (spNb C) := by
  refine F.okX sc_nb (fun vs H Q E h => ?_) (fun cdv A outer s H vs Q E hr h => ?_)
  · obtain ⟨a, b, ws, rfl, _⟩ := h
    rfl
  · obtain ⟨a, b, ws, rfl, wl, ll, l1, l5, n4, t16, k⟩ := h
    obtain ⟨xs, ha, hw⟩ := id wl
    obtain ⟨ys, hb, hy⟩ := id ll
    have W := hw.wbs
    have nd := sc_nb.nd
    have hu := hr.units
    have r1 : Room 1 _ := hr.mono (by decide)
    have r2 : Room 2 _ := hr.mono (by decide)
    have r4 : Room 4 _ := hr.mono (by decide)
    have r8 : Room 8 _ := hr.mono (by decide)
    have lx := hw.len
    have ly := hy.len
    refine ⟨_, pss_cons (ps_set (i := 2) nd rfl (.inl rfl) (pe_df FS r1 (by rfl) passUp (pa_cons (pv 1) pa_nil)))
      (pss_cons (ps_for (passes_of rfl) rfl (pi_range1 (by rfl) B.range (pa_cons (pe_callB c_len (by rfl) B.len PySem.boot_len (pa_cons (pv 1) pa_nil)) pa_nil)) (pg_name (i := 3) nd rfl (.inl rfl))
        (pss_cons (ps_for (passes_of rfl) rfl (pi_range1 (by rfl) B.range (pa_cons (pe_ix ix_list (pe_ix ix_list (pv 1) (pv 3) (fun _ _ => rfl)) pe_int (fun _ _ => rfl)) pa_nil)) (pg_name (i := 4) nd rfl (.inl rfl))
          (pss_cons (ps_if (pt_not (pt_val (pe_df RI r2 (by rfl) passUp (pa_cons (pe_df TO r4 (by rfl) passUp (pa_cons (pv 0) (pa_cons (pe_op op_add (pe_ix ix_list (pv 2) (pv 3) (fun _ _ => rfl)) (pv 4)) pa_nil))) (pa_cons (pe_tup (pa_cons (pv 3) (pa_cons (pv 4) pa_nil))) pa_nil))))) (pss_one (ps_ret pe_bl)) pss_nil)
          (pss_one (ps_if (pt_not (pt_val (pe_df DU r2 (by rfl) passUp (pa_cons (pe_df NO r4 (by rfl) passUp (pa_cons (pv 0) (pa_cons (pv 3) (pa_cons (pv 4) pa_nil)))) (pa_cons (pe_op op_add (pe_ix ix_list (pv 2) (pv 3) (fun _ _ => rfl)) (pv 4)) pa_nil))))) (pss_one (ps_ret pe_bl)) pss_nil))))
        (pss_one (ps_for (passes_of rfl) rfl (pi_list (pe_lst (pa_cons (pe_ix ix_list (pe_ix ix_list (pv 1) (pv 3) (fun _ _ => rfl)) pe_int (fun _ _ => rfl)) (pa_cons (pe_op op_sub pe_int pe_int) (pa_cons pe_bl (pa_cons pe_non pa_nil)))))) (pg_name (i := 5) nd rfl (.inl rfl))
          (pss_one (ps_if (pt_cmpR (op_neD hu) (pe_df TN r8 (by rfl) passUp (pa_cons pe_int (pa_cons (pe_ix ix_list (pv 0) pe_int (fun _ _ => rfl)) (pa_cons (pv 0) (pa_cons (pv 3) (pa_cons (pv 5) pa_nil)))))) (pe_tup (pa_cons pe_str (pa_cons (pe_callB cr_repr (by rfl) B.repr (by decide +kernel) (pa_cons (pv 5) pa_nil)) pa_nil))) (by rfl)) (pss_one (ps_ret pe_bl)) pss_nil))))))
      (pss_cons (ps_for (passes_of rfl) rfl (pi_list (pe_lst (pa_cons (pe_callB c_len (by rfl) B.len PySem.boot_len (pa_cons (pv 1) pa_nil)) (pa_cons (pe_op op_sub pe_int pe_int) (pa_cons pe_bl (pa_cons pe_non pa_nil)))))) (pg_name (i := 5) nd rfl (.inl rfl))
        (pss_one (ps_if (pt_cmpR (op_neD hu) (pe_df TN r8 (by rfl) passUp (pa_cons pe_int (pa_cons (pe_ix ix_list (pv 0) pe_int (fun _ _ => rfl)) (pa_cons (pv 0) (pa_cons (pv 5) (pa_cons pe_int pa_nil)))))) (pe_tup (pa_cons pe_str (pa_cons (pe_callB cr_repr (by rfl) B.repr (by decide +kernel) (pa_cons (pv 5) pa_nil)) pa_nil))) (by rfl)) (pss_one (ps_ret pe_bl)) pss_nil)))
      (pss_cons (ps_for (passes_of rfl) rfl (pi_list (pe_lst (pa_cons (pe_op op_sub pe_int pe_int) (pa_cons pe_bl (pa_cons pe_non pa_nil))))) (pg_name (i := 5) nd rfl (.inl rfl))
        (pss_one (ps_if (pt_cmpR (op_neD hu) (pe_df TN r8 (by rfl) passUp (pa_cons pe_int (pa_cons (pe_ix ix_list (pv 0) pe_int (fun _ _ => rfl)) (pa_cons (pv 0) (pa_cons (pv 5) (pa_cons pe_int pa_nil)))))) (pe_tup (pa_cons pe_str (pa_cons pe_str pa_nil))) (by rfl)) (pss_one (ps_ret pe_bl)) pss_nil)))
      (pss_one (ps_ret (pe_cmpR (op_eqD hu) (pe_df TN r8 (by rfl) passUp (pa_cons pe_int (pa_cons (pe_ix ix_list (pv 0) pe_int (fun _ _ => rfl)) (pa_cons (pv 0) (pa_cons (pe_ix ix_list (pv 2) (pe_callB c_len (by rfl) B.len PySem.boot_len (pa_cons (pv 1) pa_nil)) (fun _ _ => rfl)) (pa_cons pe_int pa_nil)))))) (pe_tup (pa_cons pe_str (pa_cons pe_str pa_nil))) (by rfl))))))), ?_⟩
    have ok2 : ∀ {a s : Str}, PyData.strOk a = true → PyData.strOk s = true → ∀ z ∈ ([a, s] : List Str), PyData.strOk z = true := fun {a s} ha hs z hz => by
      simp only [List.mem_cons, List.not_mem_nil, or_false] at hz
      rcases hz with rfl | rfl
      · exact ha
      · exact hs
    have l0 : 0 < xs.length := by omega
    have at0 : atI xs (0 : Int) = some xs[0] := atI_nat (j := 0) (List.getElem?_eq_getElem l0)
    refine ⟨_, rfl, b, ws, rfl, ll, by omega, fun H1 F s1 nF hF => ?_⟩
    have atF : ∀ {i : Nat}, i ≤ ws.length → atI ((fsL ws (ws.length + 1)).map V.int) (i : Int) = some (.int (fW ws i)) := fun {i} hi => atI_nat (by rw [List.getElem?_map, fsL_at (by omega)]; rfl)
    let P1 : Nat → L2.St → Hp → Prop := fun i σ H' => ∃ o3 o4 o5, σ = [some (.ref a), some (.ref b), some (.ref F), o3, o4, o5] ∧ Same H1 H'
    refine ⟨_, rfl, b, ys, rfl, .inl (SqL.of (s1 _ _ hb)), _, rfl, by omega, by omega, for_range (n := ys.length) P1 ⟨none, none, none, rfl, Same.refl _⟩ (fun v σ H2 hv h => ?_) (fun σ H2 h => ?_)⟩
    · obtain ⟨o3, o4, o5, rfl, s2⟩ := h
      rw [Int.zero_add]
      have s12 := s1.trans s2
      have hvw : v < ws.length := by omega
      obtain ⟨bi, ci, ebi, hbi, hci⟩ := hy.at (List.getElem?_eq_getElem hv)
      dsimp only at hbi
      have nn := W.nn v
      have nn4 := n4 v
      have fv0 := fW_nonneg W v
      have lt_tot : ∀ {x : Int}, Loc ws (fW ws v + x) v x → fW ws v + x < tot ws := fun lc => (lc.rng W).2
      let P2 : Nat → L2.St → Hp → Prop := fun i σ H' => ∃ o4 o5, σ = [some (.ref a), some (.ref b), some (.ref F), some (.int (v : Int)), o4, o5] ∧ Same H2 H'
      refine ⟨_, rfl, _, rfl, b, ys, _, _, rfl, rfl, SqL.of (s12 _ _ hb), atI_nat (List.getElem?_eq_getElem hv), bi, _, 0, _, ebi, rfl, SqL.of (s12 _ _ hbi), rfl, nW ws v, rfl, by omega, by omega, for_range (n := (nW ws v).toNat) P2 ⟨o4, o5, rfl, Same.refl _⟩ (fun x σ H3 hx h => ?_) (fun σ H3 h => ?_)⟩
      · obtain ⟨o4, o5, rfl, s3⟩ := h
        rw [Int.zero_add]
        have s13 := s12.trans s3
        have s3F := s2.trans s3
        have lc : Loc ws (fW ws v + (x : Int)) v (x : Int) := ⟨hvw, by omega, by omega, rfl⟩
        have ltt := lt_tot lc
        refine ⟨_, rfl, _, rfl, _, rfl, F, _, _, _, rfl, rfl, SqL.of (s3F _ _ hF), atF (by omega), _, rfl, _, _, rfl, rfl, a, .int (fW ws v + (x : Int)), .int (fW ws v + (x : Int)), ws, rfl, wl.mono s13, by omega, .int _, (fun z => ?_), fun t' et h0 => ⟨fun u y lc' H4 r s4 nr hr4 => ?_, fun z => ?_⟩⟩
        · exfalso
          have z : ¬ (0 ≤ fW ws v + (x : Int)) := of_decide_eq_false z
          omega
        · cases et
          obtain ⟨rfl, rfl⟩ := lc.uniq W lc'
          refine ⟨_, rfl, _, rfl, (by show 2 ≤ sizeLine; decide), fun tq ntq => ?_⟩
          have s5 := same_upd (o := .tup [.int (v : Int), .int (x : Int)]) ntq
          refine ⟨r, tq, [(v : Int), (x : Int)], [(v : Int), (x : Int)], rfl, s5 _ _ hr4, .inr upd_same, fun H6 s6 => ⟨true, congrArg V.bl (decide_eq_true rfl), iteF ?_⟩⟩
          have s36 := (s4.trans s5).trans s6
          have s16 := s13.trans s36
          refine ⟨_, rfl, _, rfl, _, rfl, a, .int (v : Int), .int (x : Int), .int (v : Int), .int (x : Int), ws, rfl, wl.mono s16, by omega, .int _, .int _, (fun z => ?_), fun u eu hu' => ?_⟩
          · exfalso
            have z : ¬ (0 ≤ (v : Int) ∧ (v : Int) < (ws.length : Int)) := of_decide_eq_false z
            omega
          · obtain rfl : v = u := by
              cases eu
              rfl
            refine ⟨fun z => ?_, fun x' ex h0' h1' H7 s7 => ?_⟩
            · exfalso
              have z : ¬ (0 ≤ (x : Int) ∧ (x : Int) < nW ws v) := of_decide_eq_false z
              omega
            · cases ex
              have s37 := s36.trans s7
              refine ⟨_, rfl, _, rfl, F, _, _, _, rfl, rfl, SqL.of ((s3F.trans s37) _ _ hF), atF (by omega), _, rfl, _, _, rfl, rfl, _, _, rfl, fun H8 s8 => ⟨true, congrArg V.bl (by simp), iteF ?_⟩⟩
              exact ⟨_, _, rfl, (s3.trans s37).trans s8⟩
        · exfalso
          cases et
          omega
      · obtain ⟨o4, o5, rfl, s3⟩ := h
        have s13 := s12.trans s3
        refine ⟨_, rfl, _, rfl, b, ys, _, _, rfl, rfl, SqL.of (s13 _ _ hb), atI_nat (List.getElem?_eq_getElem hv), bi, _, 0, _, ebi, rfl, SqL.of (s13 _ _ hbi), rfl, _, _, rfl, rfl, (by show 4 ≤ sizeLine; decide), fun G nG => ?_⟩
        have e1 := same_upd (o := .lst [.int (nW ws v), .int (0 - 1), .bl true, .non]) nG
        let P3 : Nat → L2.St → Hp → Prop := fun i σ H' => ∃ o5, σ = [some (.ref a), some (.ref b), some (.ref F), some (.int (v : Int)), o4, o5] ∧ Same (heapOf e1) H'
        refine ⟨G, rfl, ⟨_, SqL.of upd_same⟩, for_list (K := K) (a := G) (xs := [.int (nW ws v), .int (0 - 1), .bl true, .non]) P3 ⟨_, rfl, Same.refl _⟩ (fun i σ H' _ h => SqL.of (h.choose_spec.2 _ _ upd_same)) (fun i u σ H4 hi h => ?_) (fun σ H4 h => ?_)⟩
        · obtain ⟨o5, rfl, sE⟩ := h
          obtain ⟨db, sb, hvv, no, hs⟩ : ∃ db sb, (∀ H0 : Hp, Dt H0 u db) ∧ isTh (nW ws v) db = false ∧ reprD db = some sb := by
            have := List.mem_of_getElem? hi
            simp only [List.mem_cons, List.not_mem_nil, or_false] at this
            rcases this with rfl | rfl | rfl | rfl
            · exact ⟨_, _, fun _ => .int _, decide_eq_false (by omega), repr_small (by omega)⟩
            · exact ⟨_, _, fun _ => .int _, (show decide ((0 : Int) ≤ 0 - 1 ∧ (0 : Int) - 1 < nW ws v) = false from decide_eq_false (by omega)), repr_small (by decide)⟩
            · exact ⟨_, _, fun _ => .bl _, rfl, rfl⟩
            · exact ⟨_, _, fun _ => .non, rfl, rfl⟩
          have okT := ok2 (a := "thing") (strOk_of _) (reprD_ok hs)
          have s14 := (s13.trans e1).trans sE
          refine ⟨_, rfl, a, xs, 0, _, rfl, rfl, SqL.of (s14 _ _ ha), at0, _, rfl, _, rfl, _, rfl, 1, xs[0], a, .int (v : Int), u, ["thing", sb], rfl, .nh (wl.mono s14) (by omega) hvw (hvv _) no hs, fun H5 r s5 nr hr5 => ?_⟩
          refine ⟨_, rfl, u, db, sb, rfl, hvv _, hs, (by show 2 ≤ sizeLine; decide), fun tq ntq => ?_⟩
          have s6 := same_upd (o := .tup [.str "thing", .str sb]) ntq
          refine ⟨strD ["thing", sb], strD ["thing", sb], (dt_strs (s6 _ _ hr5)).dp, (dt_strs (ss := ["thing", sb]) upd_same).dp, strD_shaped okT, strD_shaped okT, false, by rw [strD_eqv, decide_eq_true rfl]; rfl, iteF ?_⟩
          exact ⟨_, rfl, (sE.trans s5).trans s6⟩
        · obtain ⟨o5, rfl, sE⟩ := h
          exact ⟨_, _, _, rfl, s2.trans (s3.trans (e1.trans sE))⟩
    · obtain ⟨o3, o4, o5, rfl, s2⟩ := h
      have s12 := s1.trans s2
      refine ⟨_, rfl, b, ys, rfl, .inl (SqL.of (s12 _ _ hb)), _, _, rfl, rfl, (by show 4 ≤ sizeLine; decide), fun G nG => ?_⟩
      have e1 := same_upd (o := .lst [.int (ys.length : Int), .int (0 - 1), .bl true, .non]) nG
      let P3 : Nat → L2.St → Hp → Prop := fun i σ H' => ∃ o5, σ = [some (.ref a), some (.ref b), some (.ref F), o3, o4, o5] ∧ Same (heapOf e1) H'
      refine ⟨G, rfl, ⟨_, SqL.of upd_same⟩, for_list (K := K) (a := G) (xs := [.int (ys.length : Int), .int (0 - 1), .bl true, .non]) P3 ⟨_, rfl, Same.refl _⟩ (fun i σ H' _ h => SqL.of (h.choose_spec.2 _ _ upd_same)) (fun i u σ H4 hi h => ?_) (fun σ H4 h => ?_)⟩
      · obtain ⟨o5, rfl, sE⟩ := h
        obtain ⟨db, sb, hvv, no, hs⟩ : ∃ db sb, (∀ H0 : Hp, Dt H0 u db) ∧ isTh (ws.length : Int) db = false ∧ reprD db = some sb := by
          have := List.mem_of_getElem? hi
          simp only [List.mem_cons, List.not_mem_nil, or_false] at this
          rcases this with rfl | rfl | rfl | rfl
          · exact ⟨_, _, fun _ => .int _, decide_eq_false (by omega), repr_small (by omega)⟩
          · exact ⟨_, _, fun _ => .int _, (show decide ((0 : Int) ≤ 0 - 1 ∧ (0 : Int) - 1 < (ws.length : Int)) = false from decide_eq_false (by omega)), repr_small (by decide)⟩
          · exact ⟨_, _, fun _ => .bl _, rfl, rfl⟩
          · exact ⟨_, _, fun _ => .non, rfl, rfl⟩
        have okT := ok2 (a := "thing") (strOk_of _) (reprD_ok hs)
        have s14 := (s12.trans e1).trans sE
        refine ⟨_, rfl, a, xs, 0, _, rfl, rfl, SqL.of (s14 _ _ ha), at0, _, rfl, _, rfl, 1, xs[0], a, u, .int 99, ["thing", sb], rfl, .no (wl.mono s14) (by omega) (hvv _) (.int _) no hs, fun H5 r s5 nr hr5 => ?_⟩
        refine ⟨_, rfl, u, db, sb, rfl, hvv _, hs, (by show 2 ≤ sizeLine; decide), fun tq ntq => ?_⟩
        have s6 := same_upd (o := .tup [.str "thing", .str sb]) ntq
        refine ⟨strD ["thing", sb], strD ["thing", sb], (dt_strs (s6 _ _ hr5)).dp, (dt_strs (ss := ["thing", sb]) upd_same).dp, strD_shaped okT, strD_shaped okT, false, by rw [strD_eqv, decide_eq_true rfl]; rfl, iteF ?_⟩
        exact ⟨_, rfl, (sE.trans s5).trans s6⟩
      · obtain ⟨o5, rfl, sE⟩ := h
        have s14 := (s12.trans e1).trans sE
        have s24 := (s2.trans e1).trans sE
        refine ⟨_, _, rfl, rfl, (by show 3 ≤ sizeLine; decide), fun G2 nG2 => ?_⟩
        have e2 := same_upd (o := .lst [.int (0 - 1), .bl true, .non]) nG2
        let P4 : Nat → L2.St → Hp → Prop := fun i σ H' => ∃ o5, σ = [some (.ref a), some (.ref b), some (.ref F), o3, o4, o5] ∧ Same (heapOf e2) H'
        refine ⟨G2, rfl, ⟨_, SqL.of upd_same⟩, for_list (K := K) (a := G2) (xs := [.int (0 - 1), .bl true, .non]) P4 ⟨_, rfl, Same.refl _⟩ (fun i σ H' _ h => SqL.of (h.choose_spec.2 _ _ upd_same)) (fun i u σ H5 hi h => ?_) (fun σ H5 h => ?_)⟩
        · obtain ⟨o5, rfl, sF⟩ := h
          obtain ⟨db, hvv, no⟩ : ∃ db, (∀ H0 : Hp, Dt H0 u db) ∧ okN 0 db = false := by
            have := List.mem_of_getElem? hi
            simp only [List.mem_cons, List.not_mem_nil, or_false] at this
            rcases this with rfl | rfl | rfl
            · exact ⟨_, fun _ => .int _, rfl⟩
            · exact ⟨_, fun _ => .bl _, rfl⟩
            · exact ⟨_, fun _ => .non, rfl⟩
          have okT : ∀ z ∈ ([Str.ofString "number", Str.ofString "thing"] : List Str), PyData.strOk z = true := ok2 (strOk_of _) (strOk_of _)
          have s15 := (s14.trans e2).trans sF
          refine ⟨_, rfl, a, xs, 0, _, rfl, rfl, SqL.of (s15 _ _ ha), at0, _, rfl, _, rfl, 0, xs[0], a, u, .int 0, ["number", "thing"], rfl, .th (wl.mono s15) (by omega) (hvv _) no, fun H6 r s6 nr hr6 => ?_⟩
          refine ⟨by show 2 ≤ sizeLine; decide, fun tq ntq => ?_⟩
          have s7 := same_upd (o := .tup [.str "number", .str "thing"]) ntq
          refine ⟨strD ["number", "thing"], strD ["number", "thing"], (dt_strs (s7 _ _ hr6)).dp, (dt_strs (ss := ["number", "thing"]) upd_same).dp, strD_shaped okT, strD_shaped okT, false, by rw [strD_eqv, decide_eq_true rfl]; rfl, iteF ?_⟩
          exact ⟨_, rfl, (sF.trans s6).trans s7⟩
        · obtain ⟨o5, rfl, sF⟩ := h
          have okT : ∀ z ∈ ([Str.ofString "such", Str.ofString "thing"] : List Str), PyData.strOk z = true := ok2 (strOk_of _) (strOk_of _)
          have s15 := (s14.trans e2).trans sF
          have s25 := (s24.trans e2).trans sF
          have tt0 : 0 ≤ fW ws ws.length := fW_nonneg W _
          refine ⟨_, rfl, a, xs, 0, _, rfl, rfl, SqL.of (s15 _ _ ha), at0, _, rfl, _, rfl, _, rfl, b, ys, rfl, .inl (SqL.of (s15 _ _ hb)), F, _, ((ys.length : Nat) : Int), _, rfl, rfl, SqL.of (s25 _ _ hF), atF (by omega), ?_⟩
          refine ⟨0, xs[0], a, .int (fW ws ys.length), .int 0, ["such", "thing"], rfl, .sy (wl.mono s15) (by omega) (by rw [ly]; exact tt0) (by rw [ly]; exact Int.le_refl _), fun H6 r s6 nr hr6 => ?_⟩
          refine ⟨by show 2 ≤ sizeLine; decide, fun tq ntq => ?_⟩
          have s7 := same_upd (o := .tup [.str "such", .str "thing"]) ntq
          refine ⟨strD ["such", "thing"], strD ["such", "thing"], (dt_strs (s7 _ _ hr6)).dp, (dt_strs (ss := ["such", "thing"]) upd_same).dp, strD_shaped okT, strD_shaped okT, ?_⟩
          rw [strD_eqv, decide_eq_true rfl]
          exact k _ ((s15.trans s6).trans s7)
end
end K0
set_option Elab.async false
set_option linter.all false
set_option maxRecDepth 100000
set_option maxHeartbeats 4000000
namespace K0
open PySem PySem.Spec PyProof.Rows L2 ZM ClX
section
variable {P : Program} {w : World} {K : PySem.W.Frag} {mg : Str → Option Value} {base : Heap} {f : Addr} {fd : FuncData}
abbrev s_sp : Stmt := top 55
abbrev full3 : List Pr := [(0, 1), (0, 2), (1, 2)]
abbrev last3 : Wb := (3, [(0, 2)])
/-- _law_sides_put -/
def spSp (C : Addr) : Sp := fun vs H Q _ => ∃ (a b : Addr) (x y : Wb) (ws : List Wb), vs = [.ref a, .ref b] ∧ WsL C H a (x :: y :: ws) ∧ LwL H b (x :: y :: ws) ∧ x.1 ≤ 4 ∧ y.1 ≤ 4 ∧ (x.2.length : Int) ≤ x.1 ∧ (y.2.length : Int) ≤ y.1 ∧ Ret (.bl true) H Q
theorem sc_sp : FnScope ["_law_webs", "_law_inners_here", "_law_few", "_law_three", "_law_due", "_law_told"] ["_law_webs", "_law_inners_here"] (defScope s_sp) := ⟨rfl, rfl, rfl, by decide +kernel, rfl, by decide +kernel, by decide +kernel⟩
theorem cl_full3 : Cl 3 full3 := ⟨by show List.Pairwise (fun a b : Pr => a.1 < b.1 ∨ (a.1 = b.1 ∧ a.2 < b.2)) full3; decide, by decide⟩
theorem cl_last3 : Cl 3 [(0, 2)] := ⟨by show List.Pairwise (fun a b : Pr => a.1 < b.1 ∨ (a.1 = b.1 ∧ a.2 < b.2)) [(0, 2)]; decide, by decide⟩
theorem fw3_1 (n0 n1 : Int) (q0 q1 : List Pr) : fW [(n0, q0), (n1, q1), last3] 1 = n0 := by unfold fW; simp
theorem fw3_2 (n0 n1 : Int) (q0 q1 : List Pr) : fW [(n0, q0), (n1, q1), last3] 2 = n0 + n1 := by unfold fW; simp
theorem inL3 (n0 n1 : Int) (q0 q1 : List Pr) (z : Pr) : z ∈ inL [(n0, q0), (n1, q1), last3] 3 ↔ (z ∈ q0 ∨ z ∈ shf q1 n0) ∨ z ∈ shf [(0, 2)] (n0 + n1) := by
  rw [inL_succ, inL_succ, inL_succ, fw3_1, fw3_2, fW_zero]
  have e0 : inL [(n0, q0), (n1, q1), last3] 0 = [] := rfl
  have e1 : qW [(n0, q0), (n1, q1), last3] 0 = q0 := rfl
  have e2 : qW [(n0, q0), (n1, q1), last3] 1 = q1 := rfl
  have e3 : qW [(n0, q0), (n1, q1), last3] 2 = [(0, 2)] := rfl
  rw [e0, e1, e2, e3, List.nil_append, List.mem_append, List.mem_append]
  have : z ∈ shf q0 0 ↔ z ∈ q0 := by rw [mem_shf, Int.sub_zero, Int.sub_zero]
  rw [this]
theorem put3_bare (n0 n1 : Int) (q0 q1 : List Pr) (z : Pr) : z ∈ putL [] [(n0, q0), (n1, q1), last3] ↔ z ∈ q0 ++ shf q1 n0 ++ shf [(0, 2)] (n0 + n1) := by
  have e : putL [] [(n0, q0), (n1, q1), last3] = inL [(n0, q0), (n1, q1), last3] 3 := List.append_nil _
  rw [e, inL3, List.mem_append, List.mem_append]
theorem put3_full {n0 n1 : Int} (h0 : 0 ≤ n0) (h1 : 0 ≤ n1) (q0 q1 : List Pr) (z : Pr) : z ∈ putL full3 [(n0, q0), (n1, q1), last3] ↔ z ∈ q0 ++ shf q1 n0 ++ grid 0 n0 n0 n1 ++ shf [(0, 2)] (n0 + n1) ++ grid 0 (n0 + n1) (n0 + n1) 3 := by
  have ea : acL full3 [(n0, q0), (n1, q1), last3] = grid (fW [(n0, q0), (n1, q1), last3] 0) n0 (fW [(n0, q0), (n1, q1), last3] 1) n1 ++ (grid (fW [(n0, q0), (n1, q1), last3] 0) n0 (fW [(n0, q0), (n1, q1), last3] 2) 3 ++ (grid (fW [(n0, q0), (n1, q1), last3] 1) n1 (fW [(n0, q0), (n1, q1), last3] 2) 3 ++ [])) := rfl
  have e : putL full3 [(n0, q0), (n1, q1), last3] = inL [(n0, q0), (n1, q1), last3] 3 ++ acL full3 [(n0, q0), (n1, q1), last3] := rfl
  rw [e, ea, fw3_1, fw3_2, fW_zero]
  simp only [List.mem_append, inL3, mem_grid, List.not_mem_nil, or_false]
  have key : ((0 ≤ z.1 ∧ z.1 < 0 + (n0 + n1)) ∧ n0 + n1 ≤ z.2 ∧ z.2 < n0 + n1 + 3) ↔ ((0 ≤ z.1 ∧ z.1 < 0 + n0) ∧ n0 + n1 ≤ z.2 ∧ z.2 < n0 + n1 + 3) ∨ ((n0 ≤ z.1 ∧ z.1 < n0 + n1) ∧ n0 + n1 ≤ z.2 ∧ z.2 < n0 + n1 + 3) := by omega
  rw [key]
  constructor
  · rintro (((h | h) | h) | h | h | h)
    · exact .inl (.inl (.inl (.inl h)))
    · exact .inl (.inl (.inl (.inr h)))
    · exact .inl (.inr h)
    · exact .inl (.inl (.inr h))
    · exact .inr (.inl h)
    · exact .inr (.inr h)
  · rintro ((((h | h) | h) | h) | h | h)
    · exact .inl (.inl (.inl h))
    · exact .inl (.inl (.inr h))
    · exact .inr (.inl h)
    · exact .inl (.inr h)
    · exact .inr (.inr (.inl h))
    · exact .inr (.inr (.inr h))
/-- what the methods of a web and the sides are -/
structure Sds (P : Program) (w : World) (K : PySem.W.Frag) (mg : Str → Option Value) (base : Heap) (C CN CW : Addr) : Prop where
  g : mg "Web" = some (.ref C)
  ti : WebI K C
  wk : WebK P w K mg base C CN CW
  eq : Mt P w K mg base C "__eq__" 1 ["self", "other"] (spEqW C)
  pi : Df P w K mg base "put_in" 6 ["outer", "webs"] (spPi K C CN)
  is : Df P w K mg base "_law_web_is" 4 ["_law_web", "_law_many", "_law_pairs"] (spWis C)
  sy : Df P w K mg base "_law_says" 1 ["_law_told", "_law_due"] spSy
  pt : Df P w K mg base "_law_put" 2 ["_law_outer_here", "_law_inners_here"] spPut
theorem ok_sp {C CN CW : Addr} (F : Fun K "_law_sides_put" "_law_sides_put" s_sp f fd) (B : Blt3 mg) (S : Sds P w K mg base C CN CW) (BA : Cm P w K mg base C "bare" 6 (spBa K C)) (FU : Cm P w K mg base C "full" 6 (spFu K C)) (BE : DfR P w K mg base "beside" 7 (spBe C)) (JO : DfR P w K mg base "joined" 7 (spJo C)) :
    FnOk P w K mg base (L2.CX P w) 9 f fd ["_law_webs", "_law_inners_here"] (spSp C) := by
  refine F.okX sc_sp (fun vs H Q E h => ?_) (fun cdv A outer s H vs Q E hr h => ?_)
  · obtain ⟨a, b, x, y, ws, rfl, _⟩ := h
    rfl
  · obtain ⟨a, b, x, y, ws, rfl, ⟨xs, ha, hw⟩, ⟨ys, hb, hy⟩, x4, y4, lx, ly, k⟩ := h
    have nd := sc_sp.nd
    have r1 : Room 1 _ := hr.mono (by decide)
    have r2 : Room 2 _ := hr.mono (by decide)
    have r4 : Room 4 _ := hr.mono (by decide)
    have r5 : Room 5 _ := hr.mono (by decide)
    have r6 : Room 6 _ := hr.mono (by decide)
    have r7 : Room 7 _ := hr.mono (by decide)
    refine ⟨_, pss_cons (ps_set (i := 2) nd rfl (.inl rfl) (pe_op op_cat (pe_slice sl_list (pv 1) po_none (po_some pe_int)) (pe_lst (pa_cons (pe_lst (pa_cons pe_int (pa_cons (pe_lst (pa_cons (pe_tup (pa_cons pe_int (pa_cons pe_int pa_nil))) pa_nil)) pa_nil))) pa_nil))))
      (pss_cons (ps_set (i := 3) nd rfl (.inl rfl) (pe_op op_cat (pe_slice sl_list (pv 0) po_none (po_some pe_int)) (pe_lst (pa_cons (pe_web S.wk r5 (by rfl) passUp (pa_cons pe_int (pa_cons (pe_lst (pa_cons (pe_tup (pa_cons pe_int (pa_cons pe_int pa_nil))) pa_nil)) pa_nil))) pa_nil))))
      (pss_cons (ps_set (i := 4) nd rfl (.inl rfl) (pe_df S.pt r2 (by rfl) passUp (pa_cons (pe_lst (pa_cons pe_int (pa_cons (pe_lst pa_nil) pa_nil))) (pa_cons (pv 2) pa_nil))))
      (pss_cons (ps_set (i := 5) nd rfl (.inl rfl) (pe_df S.pi r6 (by rfl) passUp (pa_cons (pe_cm BA (pe_glob (v := .ref C) (by rfl) S.g rfl) r6 passUp (pa_cons pe_int pa_nil)) (pa_cons (pv 3) pa_nil))))
      (pss_cons (ps_if (PW.pt (pw_or (pt_not (pt_val (pe_df S.is r4 (by rfl) passUp (pa_cons (pv 5) (pa_cons (pe_ix ix_list (pv 4) pe_int (fun _ _ => rfl)) (pa_cons (pe_ix ix_list (pv 4) pe_int (fun _ _ => rfl)) pa_nil))))))
          (pw_or1 (pt_not (pt_val (pe_df S.sy r1 (by rfl) passUp (pa_cons (pe_cmpR (op_eqO S.eq r1 passUp) (pv 5) (pe_dfR BE r7 (by rfl) passUp (pa_cons (pe_ix ix_list (pv 3) pe_int (fun _ _ => rfl)) (pa_cons (pe_ix ix_list (pv 3) pe_int (fun _ _ => rfl)) (pa_cons (pe_ix ix_list (pv 3) pe_int (fun _ _ => rfl)) pa_nil)))) (by rfl)) (pa_cons pe_bl pa_nil)))))))) (pss_one (ps_ret pe_bl)) pss_nil)
      (pss_cons (ps_set (i := 4) nd rfl (.inl rfl) (pe_df S.pt r2 (by rfl) passUp (pa_cons (pe_lst (pa_cons pe_int (pa_cons (pe_lst (pa_cons (pe_tup (pa_cons pe_int (pa_cons pe_int pa_nil))) (pa_cons (pe_tup (pa_cons pe_int (pa_cons pe_int pa_nil))) (pa_cons (pe_tup (pa_cons pe_int (pa_cons pe_int pa_nil))) pa_nil)))) pa_nil))) (pa_cons (pv 2) pa_nil))))
      (pss_cons (ps_set (i := 5) nd rfl (.inl rfl) (pe_df S.pi r6 (by rfl) passUp (pa_cons (pe_cm FU (pe_glob (v := .ref C) (by rfl) S.g rfl) r6 passUp (pa_cons pe_int pa_nil)) (pa_cons (pv 3) pa_nil))))
      (pss_one (ps_ret (pe_and (pe_df S.is r4 (by rfl) passUp (pa_cons (pv 5) (pa_cons (pe_ix ix_list (pv 4) pe_int (fun _ _ => rfl)) (pa_cons (pe_ix ix_list (pv 4) pe_int (fun _ _ => rfl)) pa_nil))))
        (pe_one (pe_df S.sy r1 (by rfl) passUp (pa_cons (pe_cmpR (op_eqO S.eq r1 passUp) (pe_dfR JO r7 (by rfl) passUp (pa_cons (pe_ix ix_list (pv 3) pe_int (fun _ _ => rfl)) (pa_cons (pe_ix ix_list (pv 3) pe_int (fun _ _ => rfl)) (pa_cons (pe_ix ix_list (pv 3) pe_int (fun _ _ => rfl)) pa_nil)))) (pv 5) (by rfl)) (pa_cons pe_bl pa_nil))))))))))))), ?_⟩
    cases hw with
    | @cons p0 n0 q0 xs' _ W0 hw' =>
    cases hw' with
    | @cons p1 n1 q1 xs2 _ W1 hw2 =>
    cases hy with
    | @cons v0 _ ys' _ L0 hy' =>
    cases hy' with
    | @cons v1 _ ys2 _ L1 hy2 =>
    dsimp only at x4 y4 lx ly
    have a0 := W0.n0; have a1 := W1.n0
    let ws3 : List Wb := [(n0, q0), (n1, q1), last3]
    have Wb3 : Wbs ws3 := ⟨fun w hw => by
      simp only [ws3, List.mem_cons, List.not_mem_nil, or_false] at hw
      rcases hw with rfl | rfl | rfl
      · exact a0
      · exact a1
      · decide, fun w hw => by
      simp only [ws3, List.mem_cons, List.not_mem_nil, or_false] at hw
      rcases hw with rfl | rfl | rfl
      · exact W0.cl
      · exact W1.cl
      · exact cl_last3⟩
    have e1 : fW ws3 1 = n0 := by unfold fW; simp [ws3]
    have e2 : fW ws3 2 = n0 + n1 := by unfold fW; simp [ws3]
    have et : tot ws3 = n0 + n1 + 3 := by show fW ws3 3 = _; rw [fW_succ, e2]; rfl
    have lq : ∀ v, ((qW ws3 v).length : Int) ≤ nW ws3 v := fun v => by
      match v with
      | 0 => exact lx
      | 1 => exact ly
      | 2 => show (1 : Int) ≤ 3; decide
      | v + 3 => exact Int.le_refl _
    have n4 : ∀ v, nW ws3 v ≤ 4 := fun v => by
      match v with
      | 0 => exact x4
      | 1 => exact y4
      | 2 => show (3 : Int) ≤ 4; decide
      | v + 3 => show (0 : Int) ≤ 4; decide
    have gr16 : ∀ e : Pr, (gr ws3 e).length ≤ 16 := fun e => by
      show (grid _ _ _ _).length ≤ _
      rw [grid_len]
      have h1 := n4 e.1.toNat; have h2 := n4 e.2.toNat
      exact Nat.mul_le_mul (by omega : (nW ws3 e.1.toNat).toNat ≤ 4) (by omega : (nW ws3 e.2.toNat).toNat ≤ 4)
    have l1 : (putL [] ws3).length ≤ 62 := by
      have := putL_len (Q := []) (m := 11) (B := 16) Wb3 lq (by rw [et]; show _ ≤ (11 : Int); omega) (fun e he => by cases he)
      simp at this
      omega
    have l2 : (putL full3 ws3).length ≤ 62 := by
      have := putL_len (Q := full3) (m := 11) (B := 16) Wb3 lq (by rw [et]; show _ ≤ (11 : Int); omega) (fun e _ => gr16 e)
      have h3 : full3.length = 3 := rfl
      omega
    have l1000 : ws3.length ≤ 1000 := by show 3 ≤ 1000; decide
    have ct : ∀ vs : List V, cutV vs none (some 2) = vs.take 2 := fun vs => cut_take vs 2
    refine ⟨_, rfl, _, rfl, b, _, rfl, SqL.of hb, fun c1 nc1 => ?_⟩
    rw [ct]
    have s1 := same_upd (o := .lst [v0, v1]) nc1
    refine ⟨by show 2 ≤ sizeLine; decide, fun t1 nt1 => ?_⟩
    have s2 := same_upd (o := .tup [.int 0, .int 2]) nt1
    refine ⟨by show 1 ≤ sizeLine; decide, fun u1 nu1 => ?_⟩
    have s3 := same_upd (o := .lst [.ref t1]) nu1
    refine ⟨by show 2 ≤ sizeLine; decide, fun u2 nu2 => ?_⟩
    have s4 := same_upd (o := .lst [.int 3, .ref u1]) nu2
    refine ⟨by show 1 ≤ sizeLine; decide, fun u3 nu3 => ?_⟩
    have s5 := same_upd (o := .lst [.ref u2]) nu3
    have s15 := (((s1.trans s2).trans s3).trans s4).trans s5
    refine ⟨c1, u3, _, _, rfl, rfl, ((s2.trans s3).trans (s4.trans s5)) _ _ upd_same, upd_same, (by rw [sizeLine_eq]; show 2 + 1 ≤ _; decide), fun few nf => ?_⟩
    have s6 := same_upd (o := .lst ([v0, v1] ++ [.ref u2])) nf
    have s16 := s15.trans s6
    have hfew : LwL _ few ws3 := ⟨_, upd_same, .cons (L0.mono s16) (.cons (L1.mono s16) (.cons ⟨u2, u1, rfl, (s5.trans s6) _ _ upd_same, [.ref t1], (s4.trans (s5.trans s6)) _ _ upd_same, .cons (dt_pr (p := (0, 2)) ((s3.trans (s4.trans (s5.trans s6))) _ _ upd_same)) .nil⟩ .nil))⟩
    -- the webs
    refine ⟨_, rfl, _, rfl, a, _, rfl, SqL.of (s16 _ _ ha), fun c2 nc2 => ?_⟩
    rw [ct]
    have z1 := same_upd (o := .lst [.ref p0, .ref p1]) nc2
    refine ⟨by show 2 ≤ sizeLine; decide, fun t2 nt2 => ?_⟩
    have z2 := same_upd (o := .tup [.int 0, .int 2]) nt2
    refine ⟨by show 1 ≤ sizeLine; decide, fun u4 nu4 => ?_⟩
    have z3 := same_upd (o := .lst [.ref t2]) nu4
    dsimp only [tNil]
    show spMk K C CN CW [.int 3, .ref u4] _ _ _
    refine mk_ls (n := 3) (ps := [(0, 2)]) ⟨_, upd_same, .cons (dt_pr (p := (0, 2)) (z3 _ _ upd_same)) .nil⟩ (fun z hz => ?_) (by decide) (by decide) (by decide) fun H9 pw qw z4 npw cw hqw Ww => ?_
    · rw [List.mem_singleton.mp hz]
      decide
    obtain rfl : qw = [(0, 2)] := cl_eq cl_last3 cw hqw
    have Ww' := Ww.mono same_new
    refine ⟨by show 1 ≤ sizeLine; decide, fun u5 nu5 => ?_⟩
    have z5 := same_upd (o := .lst [.ref pw]) nu5
    refine ⟨c2, u5, _, _, rfl, rfl, ((z2.trans z3).trans (z4.trans z5)) _ _ upd_same, upd_same, (by rw [sizeLine_eq]; show 2 + 1 ≤ _; decide), fun th nth => ?_⟩
    have z6 := same_upd (o := .lst ([.ref p0, .ref p1] ++ [.ref pw])) nth
    have z16 := ((((z1.trans z2).trans z3).trans z4).trans z5).trans z6
    have sz := s16.trans z16
    have hth : WsL C _ th ws3 := ⟨_, upd_same, .cons (W0.mono sz) (.cons (W1.mono sz) (.cons (Ww'.mono (z5.trans z6)) .nil))⟩
    have hth' : heapOf z6 th = some (.lst [.ref p0, .ref p1, .ref pw]) := upd_same
    -- beside
    refine ⟨by show 0 ≤ sizeLine; exact Nat.zero_le _, fun v1' nv1 => ?_⟩
    have y1 := same_upd (o := .lst []) nv1
    refine ⟨by show 2 ≤ sizeLine; decide, fun v2' nv2 => ?_⟩
    have y2 := same_upd (o := .lst [.int 3, .ref v1']) nv2
    have y12 := y1.trans y2
    refine ⟨_, rfl, .ref v2', few, 3, [], ws3, rfl, ⟨v2', v1', rfl, upd_same, [], y2 _ _ upd_same, .nil⟩, hfew.mono (z16.trans y12), rfl, cl_nil, Wb3, by rw [et]; omega, l1000, by omega, fun H10 r1' pp1 y3 nr1 ⟨r1a, r1b, er1, hr1, hr1b⟩ ip1 => ?_⟩
    have y13 := y12.trans y3
    refine ⟨rfl, 3, rfl, by decide, by decide, fun H11 bw y4' nbw Wbw => ?_⟩
    have y14 := y13.trans y4'
    refine ⟨_, rfl, bw, th, 3, [], ws3, rfl, Wbw.mono same_new, (hth.mono y14).q, l1000, (fun z => absurd rfl z), fun _ => ⟨by rw [et]; omega, l1, fun H12 tw qq y5 ntw ipq Wtw => ?_⟩⟩
    obtain rfl : qq = pp1 := ipq.uniq ip1
    have Wt := Wtw.mono same_new
    have lqq : qq.length ≤ 1000 := Nat.le_trans (mem_len (pairwise_nodup ip1.c.srt) fun z hz => (ip1.m z).mp hz) (by omega)
    have y15 := y14.trans y5
    have d45 := y4'.trans y5
    cases er1
    refine ⟨_, rfl, _, rfl, r1', _, 0, _, rfl, rfl, SqL.of (d45 _ _ hr1), rfl, _, rfl, r1', _, 1, _, rfl, rfl, SqL.of (d45 _ _ hr1), rfl, tw, r1b, _, _, _, _, rfl, Wt, (hr1b.mono d45).sqp, lqq, fun H13 y6 => ⟨true, congrArg V.bl (by rw [decide_eq_true rfl, decide_eq_true rfl]; rfl), iteF ?_⟩⟩
    have d46 := d45.trans y6
    have y16 := y15.trans y6
    obtain ⟨dtx, ftx, htx⟩ := (Wt.mono y6).ins
    have hth6 := y16 _ _ hth'
    refine ⟨_, rfl, _, rfl, th, _, 0, _, rfl, rfl, SqL.of hth6, rfl, _, rfl, th, _, 1, _, rfl, rfl, SqL.of hth6, rfl, _, rfl, th, _, 2, _, rfl, rfl, SqL.of hth6, rfl, p0, p1, pw, n0, n1, 3, q0, q1, [(0, 2)], rfl, W0.mono (sz.trans y16), W1.mono (sz.trans y16), Ww'.mono ((z5.trans z6).trans y16), by omega, by (have h3 : ([(0, 2)] : List Pr).length = 1 := rfl); omega, fun H14 rb qb y7 cb mb Wbb => ?_⟩
    have eqb : qq = qb := by
      refine srt_unique ip1.c.srt cb.srt fun z => ?_
      rw [ip1.m, mb]
      exact put3_bare n0 n1 q0 q1 z
    refine eqO_web S.ti (Wt.mono (y6.trans y7)) Wbb fun H15 y8 => ?_
    refine ⟨_, _, rfl, fun H16 y9 => ⟨true, congrArg V.bl (by rw [et, decide_eq_true rfl, decide_eq_true eqb]; rfl), iteF ?_⟩⟩
    have y69 := ((y6.trans y7).trans y8).trans y9
    have y19 := y15.trans y69
    -- joined
    refine ⟨by show 2 ≤ sizeLine; decide, fun g1 ng1 => ?_⟩
    have x1 := same_upd (o := .tup [.int 0, .int 1]) ng1
    refine ⟨by show 2 ≤ sizeLine; decide, fun g2 ng2 => ?_⟩
    have x2 := same_upd (o := .tup [.int 0, .int 2]) ng2
    refine ⟨by show 2 ≤ sizeLine; decide, fun g3 ng3 => ?_⟩
    have x3 := same_upd (o := .tup [.int 1, .int 2]) ng3
    refine ⟨by show 3 ≤ sizeLine; decide, fun g4 ng4 => ?_⟩
    have x4' := same_upd (o := .lst [.ref g1, .ref g2, .ref g3]) ng4
    refine ⟨by show 2 ≤ sizeLine; decide, fun g5 ng5 => ?_⟩
    have x5 := same_upd (o := .lst [.int 3, .ref g4]) ng5
    have x15 := (((x1.trans x2).trans x3).trans x4').trans x5
    have y1A := y19.trans x15
    have hg4 : Ls (heapOf x5) g4 full3 := ⟨_, x5 _ _ upd_same, .cons (dt_pr (p := (0, 1)) ((x2.trans (x3.trans (x4'.trans x5))) _ _ upd_same)) (.cons (dt_pr (p := (0, 2)) ((x3.trans (x4'.trans x5)) _ _ upd_same)) (.cons (dt_pr (p := (1, 2)) ((x4'.trans x5) _ _ upd_same)) .nil))⟩
    refine ⟨_, rfl, .ref g5, few, 3, full3, ws3, rfl, ⟨g5, g4, rfl, upd_same, hg4⟩, hfew.mono (z16.trans y1A), rfl, cl_full3, Wb3, by rw [et]; omega, l1000, by omega, fun H20 r2' pp2 w1 nr2 ⟨r2a, r2b, er2, hr2, hr2b⟩ ip2 => ?_⟩
    cases er2
    refine ⟨rfl, 3, rfl, by decide, by decide, fun H21 fw qf w2 nfw cof Wfw => ?_⟩
    obtain rfl : qf = full3 := srt_unique cof.c.srt cl_full3.srt fun z => by
      rw [cof.m]
      simp only [full3, List.mem_cons, List.not_mem_nil, or_false, not_false_eq_true, and_true]
      constructor
      · intro h
        have : (z.1 = 0 ∧ z.2 = 1) ∨ (z.1 = 0 ∧ z.2 = 2) ∨ (z.1 = 1 ∧ z.2 = 2) := by omega
        rcases this with ⟨h1, h2⟩ | ⟨h1, h2⟩ | ⟨h1, h2⟩
        · exact .inl (Prod.ext h1 h2)
        · exact .inr (.inl (Prod.ext h1 h2))
        · exact .inr (.inr (Prod.ext h1 h2))
      · rintro (rfl | rfl | rfl) <;> decide
    have y1B := (y1A.trans w1).trans w2
    refine ⟨_, rfl, fw, th, 3, full3, ws3, rfl, Wfw.mono same_new, (hth.mono y1B).q, l1000, (fun z => absurd rfl z), fun _ => ⟨by rw [et]; omega, l2, fun H22 tw2 qq2 w3 ntw2 ipq2 Wtw2 => ?_⟩⟩
    obtain rfl : qq2 = pp2 := ipq2.uniq ip2
    have Wt2 := Wtw2.mono same_new
    have lqq2 : qq2.length ≤ 1000 := Nat.le_trans (mem_len (pairwise_nodup ip2.c.srt) fun z hz => (ip2.m z).mp hz) (by omega)
    have w23 := w2.trans w3
    refine ⟨_, rfl, _, rfl, r2', _, 0, _, rfl, rfl, SqL.of (w23 _ _ hr2), rfl, _, rfl, r2', _, 1, _, rfl, rfl, SqL.of (w23 _ _ hr2), rfl, tw2, r2b, _, _, _, _, rfl, Wt2, (hr2b.mono w23).sqp, lqq2, fun H23 w4 => ⟨true, congrArg V.bl (by rw [decide_eq_true rfl, decide_eq_true rfl]; rfl), iteT ?_⟩⟩
    have y1C := (y1B.trans w3).trans w4
    have hthC := y1C _ _ hth'
    refine ⟨_, rfl, th, _, 0, _, rfl, rfl, SqL.of hthC, rfl, _, rfl, th, _, 1, _, rfl, rfl, SqL.of hthC, rfl, _, rfl, th, _, 2, _, rfl, rfl, SqL.of hthC, rfl, p0, p1, pw, n0, n1, 3, q0, q1, [(0, 2)], rfl, W0.mono (sz.trans y1C), W1.mono (sz.trans y1C), Ww'.mono ((z5.trans z6).trans y1C), by omega, ?_, fun H24 rj qj w5 cj mj Wj => ?_⟩
    · have h3 : ([(0, 2)] : List Pr).length = 1 := rfl
      have h4 : n0.toNat * n1.toNat ≤ 4 * 4 := Nat.mul_le_mul (by omega) (by omega)
      have h5 : (n0 + n1).toNat * (3 : Int).toNat ≤ 8 * 3 := Nat.mul_le_mul (by omega) (by decide)
      omega
    have eqj : qj = qq2 := by
      refine srt_unique cj.srt ip2.c.srt fun z => ?_
      rw [ip2.m, mj]
      exact (put3_full a0 a1 q0 q1 z).symm
    refine ⟨_, rfl, eqO_web S.ti Wj (Wt2.mono (w4.trans w5)) fun H25 w6 => ?_⟩
    refine ⟨_, _, rfl, fun H26 w7 => ?_⟩
    have fin := k H26 ((((sz.trans y1C).trans w5).trans w6).trans w7)
    rw [et, decide_eq_true (rfl : n0 + n1 + 3 = n0 + n1 + 3), decide_eq_true eqj]
    exact fin
end
end K0
set_option Elab.async false
set_option linter.all false
set_option maxRecDepth 100000
set_option maxHeartbeats 4000000
namespace K0
open PySem PySem.Spec PyProof.Rows L2 ZM
/-! ### sizes in this law -/
theorem okIn_cl {x : Wb} (h : OkIn x) : 0 ≤ x.1 ∧ x.1 ≤ 4 ∧ Cl x.1 x.2 ∧ (x.2.length : Int) ≤ x.1 := by
  have c2 : Cl 2 [(0, 1)] := ⟨by show List.Pairwise (fun a b : Pr => a.1 < b.1 ∨ (a.1 = b.1 ∧ a.2 < b.2)) [(0, 1)]; decide, by decide⟩
  cases h with
  | z0 => exact ⟨by decide, by decide, cl_nil, by decide⟩
  | z1 => exact ⟨by decide, by decide, cl_nil, by decide⟩
  | n2 => exact ⟨by decide, by decide, cl_nil, by decide⟩
  | c2 => exact ⟨by decide, by decide, c2, by decide⟩
  | l4 => exact ⟨by decide, by decide, cl_ln3, by decide⟩
theorem co_sub {n : Int} {q r c : List Pr} (co : IsCo n q r) (h : ∀ z : Pr, (0 ≤ z.1 ∧ z.1 < z.2 ∧ z.2 < n) → z ∉ q → z ∈ c) : r.length ≤ c.length := mem_len (pairwise_nodup co.c.srt) fun z hz => by
  obtain ⟨h1, h2⟩ := (co.m z).mp hz
  exact h z h1 h2
theorem okIn_co {x : Wb} (h : OkIn x) {r : List Pr} (co : IsCo x.1 x.2 r) : (r.length : Int) ≤ x.1 := by
  cases h with
  | z0 =>
    have := co_sub (c := []) co fun z hz _ => by dsimp only at hz; omega
    simp at this
    simp [this]
  | z1 =>
    have := co_sub (c := []) co fun z hz _ => by dsimp only at hz; omega
    simp at this
    simp [this]
  | n2 =>
    have := co_sub (c := [(0, 1)]) co fun z hz _ => List.mem_singleton.mpr (Prod.ext (by dsimp only at hz ⊢; omega) (by dsimp only at hz ⊢; omega))
    have e : ([(0, 1)] : List Pr).length = 1 := rfl
    show (r.length : Int) ≤ 2
    omega
  | c2 =>
    have := co_sub (c := [(0, 1)]) co fun z hz _ => List.mem_singleton.mpr (Prod.ext (by dsimp only at hz ⊢; omega) (by dsimp only at hz ⊢; omega))
    have e : ([(0, 1)] : List Pr).length = 1 := rfl
    show (r.length : Int) ≤ 2
    omega
  | l4 =>
    have := co_sub (c := [(0, 2), (0, 3), (1, 3)]) co fun z hz no => by
      dsimp only at hz
      have e : lnP 3 = [(0, 1), (1, 2), (2, 3)] := by decide
      dsimp only at no
      rw [e] at no
      simp only [List.mem_cons, List.not_mem_nil, or_false, not_or] at no ⊢
      obtain ⟨n1, n2, n3⟩ := no
      have k : ∀ a b : Int, z ≠ (a, b) → ¬ (z.1 = a ∧ z.2 = b) := fun a b h e => h (Prod.ext e.1 e.2)
      have k1 := k _ _ n1; have k2 := k _ _ n2; have k3 := k _ _ n3
      have : (z.1 = 0 ∧ z.2 = 2) ∨ (z.1 = 0 ∧ z.2 = 3) ∨ (z.1 = 1 ∧ z.2 = 3) := by omega
      rcases this with ⟨a, b⟩ | ⟨a, b⟩ | ⟨a, b⟩
      · exact .inl (Prod.ext a b)
      · exact .inr (.inl (Prod.ext a b))
      · exact .inr (.inr (Prod.ext a b))
    have e : ([(0, 2), (0, 3), (1, 3)] : List Pr).length = 3 := rfl
    show (r.length : Int) ≤ 4
    omega
theorem len6 {n : Int} {q : List Pr} (h : Cl n q) (hn : n ≤ 4) : q.length ≤ 6 := by
  refine mem_len (m := [(0, 1), (0, 2), (0, 3), (1, 2), (1, 3), (2, 3)]) (pairwise_nodup h.srt) fun z hz => ?_
  have := h.rng z hz
  simp only [List.mem_cons, List.not_mem_nil, or_false]
  have : (z.1 = 0 ∧ z.2 = 1) ∨ (z.1 = 0 ∧ z.2 = 2) ∨ (z.1 = 0 ∧ z.2 = 3) ∨ (z.1 = 1 ∧ z.2 = 2) ∨ (z.1 = 1 ∧ z.2 = 3) ∨ (z.1 = 2 ∧ z.2 = 3) := by omega
  rcases this with ⟨a, b⟩ | ⟨a, b⟩ | ⟨a, b⟩ | ⟨a, b⟩ | ⟨a, b⟩ | ⟨a, b⟩
  · exact .inl (Prod.ext a b)
  · exact .inr (.inl (Prod.ext a b))
  · exact .inr (.inr (.inl (Prod.ext a b)))
  · exact .inr (.inr (.inr (.inl (Prod.ext a b))))
  · exact .inr (.inr (.inr (.inr (.inl (Prod.ext a b)))))
  · exact .inr (.inr (.inr (.inr (.inr (Prod.ext a b)))))
theorem okOut_len {n : Int} {q : List Pr} (h : OkOut (n, q)) : n ≤ 5 ∧ q.length ≤ 6 ∧ ∀ r, IsCo n q r → r.length ≤ 6 := by
  obtain ⟨c, _, h | h⟩ := h
  · exact ⟨by omega, len6 c h, fun r co => len6 co.c h⟩
  · cases h
    refine ⟨by decide, by decide, fun r co => ?_⟩
    have := co_sub (c := [(0, 2), (0, 3), (1, 3), (1, 4), (2, 4)]) co fun z hz no => by
      simp only [ring5, List.mem_cons, List.not_mem_nil, or_false, not_or] at no ⊢
      obtain ⟨n1, n2, n3, n4, n5⟩ := no
      have k : ∀ a b : Int, z ≠ (a, b) → ¬ (z.1 = a ∧ z.2 = b) := fun a b h e => h (Prod.ext e.1 e.2)
      have k1 := k _ _ n1; have k2 := k _ _ n2; have k3 := k _ _ n3; have k4 := k _ _ n4; have k5 := k _ _ n5
      have : (z.1 = 0 ∧ z.2 = 2) ∨ (z.1 = 0 ∧ z.2 = 3) ∨ (z.1 = 1 ∧ z.2 = 3) ∨ (z.1 = 1 ∧ z.2 = 4) ∨ (z.1 = 2 ∧ z.2 = 4) := by omega
      rcases this with ⟨a, b⟩ | ⟨a, b⟩ | ⟨a, b⟩ | ⟨a, b⟩ | ⟨a, b⟩
      · exact .inl (Prod.ext a b)
      · exact .inr (.inl (Prod.ext a b))
      · exact .inr (.inr (.inl (Prod.ext a b)))
      · exact .inr (.inr (.inr (.inl (Prod.ext a b))))
      · exact .inr (.inr (.inr (.inr (Prod.ext a b))))
    have e : ([(0, 2), (0, 3), (1, 3), (1, 4), (2, 4)] : List Pr).length = 5 := rfl
    omega
/-- what is needed of the webs put in -/
structure Szs (ws : List Wb) : Prop where
  W : Wbs ws
  n4 : ∀ v, nW ws v ≤ 4
  lq : ∀ v, ((qW ws v).length : Int) ≤ nW ws v
  big : ∃ k, ∀ v, v ≠ k → nW ws v ≤ 2
theorem qW_out {ws : List Wb} {v : Nat} (h : ¬ v < ws.length) : qW ws v = [] ∧ nW ws v = 0 := by
  unfold qW nW
  rw [List.getD_eq_getElem?_getD, List.getElem?_eq_none (by omega)]
  exact ⟨rfl, rfl⟩
theorem InI.szs {ws : List Wb} {b : Bool} (h : InI ws b) : Szs ws := by
  refine ⟨⟨fun x hx => (okIn_cl (h.ok x hx)).1, fun x hx => (okIn_cl (h.ok x hx)).2.2.1⟩, fun v => nW_le (fun x hx => (okIn_cl (h.ok x hx)).2.1) (by decide) v, fun v => ?_, h.big⟩
  by_cases l : v < ws.length
  · exact (okIn_cl (h.ok _ (getD_mem (d := (0, [])) l))).2.2.2
  · rw [(qW_out l).1, (qW_out l).2]
    decide
theorem Szs.tot {ws : List Wb} (S : Szs ws) (l5 : ws.length ≤ 5) : tot ws ≤ 12 := by
  obtain ⟨k, hk⟩ := S.big
  have : ∀ j : Nat, fW ws j ≤ 2 * (j : Int) + (if k < j then 2 else 0) := fun j => by
    induction j with
    | zero => simp [fW_zero]
    | succ j ih =>
      rw [fW_succ]
      by_cases e : j = k
      · have := S.n4 j
        subst e
        rw [if_neg (Nat.lt_irrefl _)] at ih
        rw [if_pos (Nat.lt_succ_self _)]
        omega
      · have := hk j e
        split at ih <;> split <;> omega
  have h := this ws.length
  show fW ws ws.length ≤ 12
  split at h <;> omega
theorem Szs.put {n : Int} {q : List Pr} {ws : List Wb} (S : Szs ws) (l5 : ws.length ≤ 5) (c : Cl n q) (l6 : q.length ≤ 6) : (putL q ws).length ≤ 62 := by
  have := putL_len (Q := q) (m := 12) (B := 8) S.W S.lq (S.tot l5) fun e he => by
    show (grid _ _ _ _).length ≤ _
    rw [grid_len]
    have r := c.rng e he
    obtain ⟨k, hk⟩ := S.big
    have h1 := S.n4 e.1.toNat; have h2 := S.n4 e.2.toNat
    by_cases e1 : e.1.toNat = k
    · have h3 := hk e.2.toNat (by omega)
      exact Nat.mul_le_mul (by omega : (nW ws e.1.toNat).toNat ≤ 4) (by omega : (nW ws e.2.toNat).toNat ≤ 2)
    · have h3 := hk e.1.toNat e1
      exact Nat.mul_le_mul (by omega : (nW ws e.1.toNat).toNat ≤ 2) (by omega : (nW ws e.2.toNat).toNat ≤ 4)
  omega
theorem qW_app (ws : List Wb) (x : Wb) (v : Nat) : qW (ws ++ [x]) v = if v < ws.length then qW ws v else if v = ws.length then x.2 else [] := by
  unfold qW
  rw [getD_app]
  split
  · rfl
  · split <;> rfl
/-- their contraries -/
structure Cos (ws ws' : List Wb) (j : Nat) : Prop where
  l : ws'.length = j
  n : ∀ v, v < j → nW ws' v = nW ws v
  c : ∀ v, v < j → IsCo (nW ws v) (qW ws v) (qW ws' v)
theorem Cos.add {ws ws' : List Wb} {j : Nat} {q : List Pr} (h : Cos ws ws' j) (co : IsCo (nW ws j) (qW ws j) q) : Cos ws (ws' ++ [(nW ws j, q)]) (j + 1) := by
  have l := h.l
  refine ⟨by rw [List.length_append, l]; rfl, fun v hv => ?_, fun v hv => ?_⟩
  · rw [nW_app]
    split
    · exact h.n v (by omega)
    · have : v = j := by omega
      rw [if_pos (by omega), this]
  · rw [qW_app]
    split
    · exact h.c v (by omega)
    · have : v = j := by omega
      rw [if_pos (by omega), this]
      exact co
theorem Cos.szs {ws ws' : List Wb} {b : Bool} (h : Cos ws ws' ws.length) (I : InI ws b) (W' : Wbs ws') : Szs ws' ∧ ∀ v, nW ws' v = nW ws v := by
  have S := I.szs
  have l := h.l
  have e : ∀ v, nW ws' v = nW ws v := fun v => by
    by_cases hv : v < ws.length
    · exact h.n v hv
    · rw [(qW_out hv).2, (qW_out (by omega)).2]
  obtain ⟨k, hk⟩ := S.big
  refine ⟨⟨W', fun v => by rw [e]; exact S.n4 v, fun v => ?_, k, fun v hv => by rw [e]; exact hk v hv⟩, e⟩
  by_cases hv : v < ws.length
  · rw [e]
    exact okIn_co (I.ok _ (getD_mem (d := (0, [])) hv)) (h.c v hv)
  · rw [(qW_out (by omega : ¬ v < ws'.length)).1, (qW_out (by omega : ¬ v < ws'.length)).2]
    decide
end K0
set_option Elab.async false
set_option linter.all false
set_option maxRecDepth 100000
set_option maxHeartbeats 4000000
namespace K0
open PySem PySem.Spec PyProof.Rows L2 ZM
def leP (a b : Pr) : Bool := decide (a.1 < b.1 ∨ (a.1 = b.1 ∧ a.2 ≤ b.2))
theorem ex_sorted (l : List Pr) (nd : l.Nodup) : ∃ r : List Pr, r.Pairwise plt ∧ (∀ z, z ∈ r ↔ z ∈ l) ∧ r.length = l.length := by
  have pm := List.mergeSort_perm l leP
  have pw : (l.mergeSort leP).Pairwise fun a b => leP a b = true := List.pairwise_mergeSort (fun a b c h1 h2 => by
    unfold leP at h1 h2 ⊢
    have h1 := of_decide_eq_true h1
    have h2 := of_decide_eq_true h2
    exact decide_eq_true (by omega)) (fun a b => by
    unfold leP
    rw [Bool.or_eq_true, decide_eq_true_iff, decide_eq_true_iff]
    omega) l
  refine ⟨l.mergeSort leP, ?_, fun z => pm.mem_iff, pm.length_eq⟩
  have nd2 : (l.mergeSort leP).Nodup := pm.nodup_iff.mpr nd
  refine List.Pairwise.imp₂ (fun x y h1 h2 => ?_) pw nd2
  have h1 := of_decide_eq_true h1
  have ne : x.1 ≠ y.1 ∨ x.2 ≠ y.2 := by
    by_cases e1 : x.1 = y.1
    · exact .inr fun e2 => h2 (Prod.ext e1 e2)
    · exact .inl e1
  unfold plt
  omega
theorem co_ex {n : Int} (n0 : 0 ≤ n) (q : List Pr) : ∃ r, IsCo n q r := by
  let l : List Pr := (List.range n.toNat).flatMap fun (x : Nat) => ((List.range n.toNat).filter fun (y : Nat) => decide (x < y ∧ ((x : Int), (y : Int)) ∉ q)).map fun (y : Nat) => ((x : Int), (y : Int))
  have mem : ∀ z, z ∈ l ↔ (0 ≤ z.1 ∧ z.1 < z.2 ∧ z.2 < n) ∧ z ∉ q := fun z => by
    simp only [l, List.mem_flatMap, List.mem_map, List.mem_filter, List.mem_range, decide_eq_true_iff]
    constructor
    · rintro ⟨x, hx, y, ⟨hy, lt, no⟩, rfl⟩
      exact ⟨by dsimp only; omega, no⟩
    · rintro ⟨⟨h1, h2, h3⟩, no⟩
      refine ⟨z.1.toNat, by omega, z.2.toNat, ⟨by omega, by omega, ?_⟩, Prod.ext (by dsimp only; omega) (by dsimp only; omega)⟩
      rw [show (((z.1.toNat : Int), (z.2.toNat : Int)) : Pr) = z from Prod.ext (by dsimp only; omega) (by dsimp only; omega)]
      exact no
  have nd : l.Nodup := by
    refine nodup_fm List.nodup_range (fun x _ => List.pairwise_map.mpr (List.Pairwise.imp (fun {c d} ne e => ?_) (List.nodup_range.filter _))) fun x _ y _ z h1 h2 => ?_
    · have := (Prod.ext_iff.mp e).2
      dsimp only at this
      omega
    · obtain ⟨u, _, e1⟩ := List.mem_map.mp h1
      obtain ⟨v, _, e2⟩ := List.mem_map.mp h2
      rw [← e2] at e1
      have := (Prod.ext_iff.mp e1).1
      dsimp only at this
      omega
  obtain ⟨r, h1, h2, _⟩ := ex_sorted l nd
  have m : ∀ z, z ∈ r ↔ (0 ≤ z.1 ∧ z.1 < z.2 ∧ z.2 < n) ∧ z ∉ q := fun z => (h2 z).trans (mem z)
  exact ⟨r, ⟨h1, fun z hz => ((m z).mp hz).1⟩, m⟩
theorem cos_ex {ws : List Wb} (W : Wbs ws) : ∀ j : Nat, ∃ ws', Cos ws ws' j ∧ Wbs ws'
  | 0 => ⟨[], ⟨rfl, (fun v hv => absurd hv (Nat.not_lt_zero v)), fun v hv => absurd hv (Nat.not_lt_zero v)⟩, (fun x hx => by cases hx), fun x hx => by cases hx⟩
  | j + 1 => by
    obtain ⟨ws', h, W'⟩ := cos_ex W j
    obtain ⟨q, co⟩ := co_ex (W.nn j) (qW ws j)
    refine ⟨_, h.add co, fun x hx => ?_, fun x hx => ?_⟩
    · rcases List.mem_append.mp hx with hx | hx
      · exact W'.n0 x hx
      · rw [List.mem_singleton.mp hx]
        exact W.nn j
    · rcases List.mem_append.mp hx with hx | hx
      · exact W'.cl x hx
      · rw [List.mem_singleton.mp hx]
        exact co.c
theorem put_ex {Q : List Pr} {ws : List Wb} (W : Wbs ws) (hQ : Cl ws.length Q) : ∃ p, IsPut Q ws p ∧ p.length = (putL Q ws).length := by
  obtain ⟨r, h1, h2, h3⟩ := ex_sorted _ (putL_nodup W hQ)
  exact ⟨r, isPut_of W hQ h1 h2, h3⟩
/-- the contrary of the web put in is not too long for a set -/
theorem co_len {n : Int} {q : List Pr} {ws : List Wb} {b : Bool} {p r : List Pr} (I : InI ws b) (oo : OkOut (n, q)) (hl : (ws.length : Int) = n) (ip : IsPut q ws p) (co : IsCo (tot ws) p r) : r.length ≤ 62 := by
  obtain ⟨n5, _, l6⟩ := okOut_len oo
  have S := I.szs
  have c := oo.1
  dsimp only at c
  rw [← hl] at c
  obtain ⟨Q', cO⟩ := co_ex (n := ws.length) (by omega) q
  obtain ⟨ws', cs, W'⟩ := cos_ex S.W ws.length
  obtain ⟨S', e⟩ := cs.szs I W'
  have cO' : Cl (ws'.length : Int) Q' := by rw [cs.l]; exact cO.c
  obtain ⟨p', ip', lp⟩ := put_ex W' cO'
  have er := co_put S.W W' c cs.l e (fun v hv => cs.c v hv) cO ip ip' co
  rw [er, lp]
  exact S'.put (by rw [cs.l]; omega) cO' (l6 Q' (by rw [← hl]; exact cO))
theorem ws_at {ws : List Wb} {j : Nat} (h : j < ws.length) : ws[j]? = some (nW ws j, qW ws j) := by
  unfold nW qW
  rw [List.getD_eq_getElem?_getD, List.getElem?_eq_getElem h]
  rfl
theorem put_nil {p : List Pr} (ip : IsPut [] [] p) : p = [] := by
  cases p with
  | nil => rfl
  | cons z p => cases (ip.m z).mp List.mem_cons_self
theorem put_one {n : Int} {q p : List Pr} (c : Cl n q) (ip : IsPut [] [(n, q)] p) : p = q := srt_unique ip.c.srt c.srt fun z => by
  rw [ip.m]
  have e : putL [] [(n, q)] = inL [(n, q)] 1 := List.append_nil _
  have e0 : inL [(n, q)] 0 = [] := rfl
  have e1 : qW [(n, q)] 0 = q := rfl
  rw [e, inL_succ, e0, e1, fW_zero, List.nil_append, mem_shf, Int.sub_zero, Int.sub_zero]
theorem tot_one (n : Int) (q : List Pr) : tot [(n, q)] = n := by
  show fW [(n, q)] 1 = n
  unfold fW
  simp
end K0
set_option Elab.async false
set_option linter.all false
set_option maxRecDepth 100000
set_option maxHeartbeats 4000000
namespace K0
open PySem PySem.Spec PyProof.Rows L2 ZM ClX
section
variable {P : Program} {w : World} {K : PySem.W.Frag} {mg : Str → Option Value} {base : Heap} {f : Addr} {fd : FuncData}
abbrev s_lw : Stmt := top 56
def spLw (K : PySem.W.Frag) : Sp := fun vs H Q _ => ∃ (a : Addr) (ns : List Int), vs = [.ref a] ∧ SqL K H a (ns.map V.int) ∧ ∀ H', Q (.bl true) H'
theorem sc_lw : FnScope ["_law_script", "_law_draws_here", "_law_outer_here", "_law_inners_here", "_law_web", "_law_inner_here", "_law_webs", "_law_due", "_law_whole"] ["_law_script"] (defScope s_lw) := ⟨rfl, rfl, rfl, by decide +kernel, rfl, by decide +kernel, by decide +kernel⟩
theorem ok_lw {C CN CW : Addr} (F : Fun K "law" "law" s_lw f fd) (B : Blt3 mg) (S : Sds P w K mg base C CN CW) (DR : Df P w K mg base "_law_draws" 1 ["_law_script"] (spDr K)) (OU : Df P w K mg base "_law_outer" 3 ["_law_draws_here"] spOu) (IS : Df P w K mg base "_law_inners" 3 ["_law_draws_here", "_law_many"] spIns)
    (RF : Df P w K mg base "rows_of_four" 2 ["web"] (spRf C)) (RR : Df P w K mg base "_law_rows_are" 3 ["_law_told", "_law_due"] spRw) (PR : Df P w K mg base "_law_put_rows" 4 ["_law_outer_here", "_law_inners_here"] spPr) (IV : Mt P w K mg base C "__invert__" 6 ["self"] (spIv K C))
    (TN : Df P w K mg base "_law_try_number" 8 ["_law_deed", "_law_outer_here", "_law_webs", "_law_v", "_law_h"] (spTn C)) (NB : Df P w K mg base "_law_numbers" 9 ["_law_webs", "_law_inners_here"] (spNb C)) (SP : Df P w K mg base "_law_sides_put" 9 ["_law_webs", "_law_inners_here"] (spSp C)) :
    FnOk P w K mg base (L2.CX P w) 10 f fd ["_law_script"] (spLw K) := by
  refine F.okX sc_lw (fun vs H Q E h => ?_) (fun cdv A outer s H vs Q E hr h => ?_)
  · obtain ⟨l, ms, rfl, _⟩ := h
    rfl
  · obtain ⟨l, ms, rfl, hs, k⟩ := h
    have nd := sc_lw.nd
    have hu := hr.units
    have r1 : Room 1 _ := hr.mono (by decide)
    have r2 : Room 2 _ := hr.mono (by decide)
    have r3 : Room 3 _ := hr.mono (by decide)
    have r4 : Room 4 _ := hr.mono (by decide)
    have r5 : Room 5 _ := hr.mono (by decide)
    have r6 : Room 6 _ := hr.mono (by decide)
    have r8 : Room 8 _ := hr.mono (by decide)
    let NN : List Str := ["_law_script", "_law_draws_here", "_law_outer_here", "_law_inners_here", "_law_web", "_law_inner_here", "_law_webs", "_law_due", "_law_whole"]
    let ixL (i : Nat) (j : Int) : TE := tOp (rIxL K) (tVar i) (tC (.int j))
    let tW : TE := tCall (spMk K C CN CW) [] (fun _ _ _ => False) (tCons (ixL 5 0) (tCons (ixL 5 1) tNil))
    let tI : TE := tUn (rInvO C (spIv K C) (fun _ _ _ => False)) (tVar 5)
    refine ⟨_, pss_cons (ps_set (i := 1) nd rfl (.inl rfl) (pe_df DR r1 (by rfl) passUp (pa_cons (pv 0) pa_nil)))
      (pss_cons (ps_set (i := 2) nd rfl (.inl rfl) (pe_df OU r3 (by rfl) passUp (pa_cons (pv 1) pa_nil)))
      (pss_cons (ps_set (i := 3) nd rfl (.inl rfl) (pe_df IS r3 (by rfl) passUp (pa_cons (pv 1) (pa_cons (pe_ix ix_list (pv 2) pe_int (fun _ _ => rfl)) pa_nil))))
      (pss_cons (ps_set (i := 4) nd rfl (.inl rfl) (pe_web S.wk r5 (by rfl) passUp (pa_cons (pe_ix ix_list (pv 2) pe_int (fun _ _ => rfl)) (pa_cons (pe_ix ix_list (pv 2) pe_int (fun _ _ => rfl)) pa_nil))))
      (pss_cons (ps_setLc (i := 6) (own := [("_law_inner_here", 5)]) (g := gName 5) (tt := tYes) (te := tW) rfl nd rfl (by rfl) (by rfl) (pi_list (pv 3))
        (blkOk_by (N := ["_law_script", "_law_draws_here", "_law_outer_here", "_law_inners_here", "_law_web", "_law_inner_here", "_law_webs", "_law_due", "_law_whole"]) (sc := defScope s_lw) (by decide +kernel)) (fun _ _ _ _ _ => pg_name (i := 5) nd rfl (.inl rfl)) (fun _ _ _ _ _ => pts_nil)
        (fun _ _ _ _ _ => pe_web S.wk r5 (by rfl) passE0 (pa_cons (pe_ix ix_list (pv 5) pe_int (fun _ _ => rfl)) (pa_cons (pe_ix ix_list (pv 5) pe_int (fun _ _ => rfl)) pa_nil))))
      (pss_cons (ps_set (i := 7) nd rfl (.inl rfl) (pe_df S.pt r2 (by rfl) passUp (pa_cons (pv 2) (pa_cons (pv 3) pa_nil))))
      (pss_cons (ps_set (i := 8) nd rfl (.inl rfl) (pe_df S.pi r6 (by rfl) passUp (pa_cons (pv 4) (pa_cons (pv 6) pa_nil))))
      (pss_cons (ps_if (PW.pt (pw_or (pt_not (pt_val (pe_df S.is r4 (by rfl) passUp (pa_cons (pv 8) (pa_cons (pe_ix ix_list (pv 7) pe_int (fun _ _ => rfl)) (pa_cons (pe_ix ix_list (pv 7) pe_int (fun _ _ => rfl)) pa_nil))))))
        (pw_or1 (pt_not (pt_val (pe_df S.sy r1 (by rfl) passUp (pa_cons (pe_cmpR (op_eqO S.eq r1 passUp) (pe_df S.pi r6 (by rfl) passUp (pa_cons (pv 4) (pa_cons (pe_callTy call_tuple_of (by rfl) B.tuple (by decide +kernel) (pa_cons (pv 6) pa_nil)) pa_nil))) (pv 8) (by rfl)) (pa_cons pe_bl pa_nil)))))))) (pss_one (ps_ret pe_bl)) pss_nil)
      (pss_cons (ps_if (pt_not (pt_val (pe_df RR r3 (by rfl) passUp (pa_cons (pe_df RF r2 (by rfl) passUp (pa_cons (pv 8) pa_nil)) (pa_cons (pe_df PR r4 (by rfl) passUp (pa_cons (pv 2) (pa_cons (pv 3) pa_nil))) pa_nil))))) (pss_one (ps_ret pe_bl)) pss_nil)
      (pss_cons (ps_if (pt_not (pt_val (pe_df S.sy r1 (by rfl) passUp (pa_cons (pe_cmpR (op_eqO S.eq r1 passUp) (pe_un (un_invO IV r6 passUp) (pv 8)) (pe_df S.pi r6 (by rfl) passUp (pa_cons (pe_un (un_invO IV r6 passUp) (pv 4)) (pa_cons (pe_lc (own := [("_law_inner_here", 5)]) (g := gName 5) (tt := tYes) (te := tI) rfl nd (pi_list (pv 6))
        (blkOk_by (N := ["_law_script", "_law_draws_here", "_law_outer_here", "_law_inners_here", "_law_web", "_law_inner_here", "_law_webs", "_law_due", "_law_whole"]) (sc := defScope s_lw) (by decide +kernel)) (fun _ _ _ _ _ => pg_name (i := 5) nd rfl (.inl rfl)) (fun _ _ _ _ _ => pts_nil)
        (fun _ _ _ _ _ => pe_un (un_invO IV r6 passE0) (pv 5))) pa_nil))) (by rfl)) (pa_cons pe_bl pa_nil))))) (pss_one (ps_ret pe_bl)) pss_nil)
      (pss_cons (ps_if (pt_cmpR (op_neD hu) (pe_df TN r8 (by rfl) passUp (pa_cons pe_int (pa_cons (pv 4) (pa_cons (pe_slice sl_list (pv 6) (po_some pe_int) po_none) (pa_cons pe_int (pa_cons pe_int pa_nil)))))) (pe_tup (pa_cons pe_str (pa_cons pe_str pa_nil))) (by rfl)) (pss_one (ps_ret pe_bl)) pss_nil)
      (pss_cons (ps_if (pt_cmpR (op_neD hu) (pe_df TN r8 (by rfl) passUp (pa_cons pe_int (pa_cons (pv 4) (pa_cons (pe_op op_cat (pv 6) (pe_lst (pa_cons (pe_web1 S.wk r5 (by rfl) passUp (pa_cons pe_int pa_nil)) pa_nil))) (pa_cons pe_int (pa_cons pe_int pa_nil)))))) (pe_tup (pa_cons pe_str (pa_cons pe_str pa_nil))) (by rfl)) (pss_one (ps_ret pe_bl)) pss_nil)
      (pss_cons (ps_if (PW.pt (pw_or (pt_cmpR op_ne (pe_callB c_len (by rfl) B.len PySem.boot_len (pa_cons (pv 6) pa_nil)) (pe_ix ix_list (pv 2) pe_int (fun _ _ => rfl)) (by rfl))
        (pw_or1 (pt_not (pt_val (pe_df S.is r4 (by rfl) passUp (pa_cons (pe_ix ix_list (pv 6) pe_int (fun _ _ => rfl)) (pa_cons (pe_ix ix_list (pe_ix ix_list (pv 3) pe_int (fun _ _ => rfl)) pe_int (fun _ _ => rfl)) (pa_cons (pe_ix ix_list (pe_ix ix_list (pv 3) pe_int (fun _ _ => rfl)) pe_int (fun _ _ => rfl)) pa_nil))))))))) (pss_one (ps_ret pe_bl)) pss_nil)
      (pss_cons (ps_if (PW.pt (pw_or (pt_not (pt_val (pe_df S.is r4 (by rfl) passUp (pa_cons (pe_df S.pi r6 (by rfl) passUp (pa_cons (pe_web1 S.wk r5 (by rfl) passUp (pa_cons pe_int pa_nil)) (pa_cons (pe_lst pa_nil) pa_nil))) (pa_cons pe_int (pa_cons (pe_lst pa_nil) pa_nil))))))
        (pw_or1 (pt_not (pt_val (pe_df S.is r4 (by rfl) passUp (pa_cons (pe_df S.pi r6 (by rfl) passUp (pa_cons (pe_web1 S.wk r5 (by rfl) passUp (pa_cons pe_int pa_nil)) (pa_cons (pe_lst (pa_cons (pv 4) pa_nil)) pa_nil))) (pa_cons (pe_ix ix_list (pv 2) pe_int (fun _ _ => rfl)) (pa_cons (pe_ix ix_list (pv 2) pe_int (fun _ _ => rfl)) pa_nil))))))))) (pss_one (ps_ret pe_bl)) pss_nil)
      (pss_one (ps_ret (pe_and (pe_df NB hr (by rfl) passUp (pa_cons (pv 6) (pa_cons (pv 3) pa_nil))) (pe_one (pe_df SP hr (by rfl) passUp (pa_cons (pv 6) (pa_cons (pv 3) pa_nil)))))))))))))))))))), ?_⟩
    -- what is drawn
    refine ⟨_, rfl, l, ms, rfl, hs, fun H1 d s1 nd1 dr1 => ?_⟩
    refine ⟨_, rfl, d, rfl, dr1, fun H2 vo xo s2 dr2 lo oo => ?_⟩
    obtain ⟨n, q⟩ := xo
    obtain ⟨n5, l6, co6⟩ := okOut_len oo
    obtain ⟨cl, n2, _⟩ := id oo
    dsimp only at cl n2
    obtain ⟨a0, c0, rfl, h0, hq⟩ := id lo
    dsimp only at h0 hq
    refine ⟨_, rfl, _, rfl, a0, _, 0, _, rfl, rfl, SqL.of (del_sub _ _ h0), rfl, d, n, rfl, by omega, by omega, dr2, fun H3 b ws s3 dr3 nb lw lws ⟨bb, ini⟩ => ?_⟩
    have hl : (ws.length : Int) = n := by omega
    have S0 := ini.szs
    have W := S0.W
    have t12 := S0.tot (by omega)
    have clW : Cl (ws.length : Int) q := by rw [hl]; exact cl
    have l62 : (putL q ws).length ≤ 62 := S0.put (by omega) cl l6
    have lo3 := lo.mono s3
    have h03 := s3 _ _ h0
    have hq3 := hq.mono s3
    obtain ⟨ys, hb, hy⟩ := id lw
    have ly := hy.len
    -- the web
    refine ⟨_, rfl, a0, _, 0, _, rfl, rfl, SqL.of h03, rfl, _, rfl, a0, _, 1, _, rfl, rfl, SqL.of h03, rfl, ?_⟩
    dsimp only [tNil]
    show spMk K C CN CW [.int n, .ref c0] _ _ _
    refine mk_ls hq3 cl.rng (by omega) (by omega) (by omega) fun H4 pw q' s4 npw cq eq' Wn => ?_
    obtain rfl : q' = q := cl_eq cl cq eq'
    have Wp := Wn.mono same_new
    -- the webs
    refine ⟨_, rfl, b, rfl, ⟨ys, SqL.of (s4 _ _ hb)⟩, fun A nA => ?_⟩
    let HA := upd H4 A (.lst [])
    have hHA : HA A ≠ none := by show (upd H4 A (.lst [])) A ≠ none; rw [upd_same]; exact fun z => nomatch z
    let Pv : Nat → Hp → Prop := fun j H' => Same H4 H' ∧ ∃ l, H' A = some (.lst l) ∧ WsAt C (New HA H') l (ws.take j)
    refine lc_list (K := K) (a := b) (xs := ys) Pv ⟨same_upd nA, [], upd_same, .nil⟩ (fun j H' _ z => SqL.of (z.1 _ _ (s4 _ _ hb))) (fun j x H' hj z => ?_) (fun H5 z => ?_)
    · obtain ⟨s5, l, hA, wl⟩ := z
      obtain ⟨aj, cj, rfl, haj, hcj⟩ := (hy.mono (s4.trans s5)).at hj
      have hj2 : j < ws.length := by have := (List.getElem?_eq_some_iff.mp hj).1; omega
      have hn4 := S0.n4 j
      have hlq := S0.lq j
      dsimp only at haj hcj
      refine ⟨rfl, _, rfl, aj, _, 0, _, rfl, rfl, SqL.of haj, rfl, _, rfl, aj, _, 1, _, rfl, rfl, SqL.of haj, rfl, ?_⟩
      dsimp only [tNil]
      show spMk K C CN CW [.int (nW ws j), .ref cj] _ _ _
      refine mk_ls hcj (W.cw j).rng (W.nn j) (by omega) (by omega) fun H6 p qj s6 np cqj eqj Wj => ?_
      obtain rfl := cl_eq (W.cw j) cqj eqj
      have toH : Same (New H' H6) (New HA H6) := new_mono (fun b h1 _ => by
        have bA : b ≠ A := fun z => by rw [z, hA] at h1; cases h1
        show (upd H4 A (.lst [])) b = none
        rw [upd_ne bA]
        exact s5.free h1) (Same.refl _)
      have ll := wl.len
      refine ⟨l, s6 _ _ hA, ?_, same_keep nA (s5.trans s6), l ++ [.ref p], upd_same, ?_⟩
      · rw [List.length_take] at ll
        rw [sizeLine_eq]
        omega
      · rw [new_old hHA, take_at (ws_at hj2)]
        exact (wl.mono (new_mono (fun b e _ => e) s6)).app (.cons (Wj.mono toH) .nil)
    obtain ⟨s5, xs, hA, wl0⟩ := z
    rw [ly, List.take_length] at wl0
    have wl : WsAt C H5 xs ws := wl0.mono same_new
    have lx := wl.len
    have WL : WsL C H5 A ws := ⟨xs, hA, wl⟩
    have s35 := s4.trans s5
    have W5 := Wp.mono s5
    -- put in
    refine ⟨_, rfl, _, rfl, .ref a0, b, n, q', ws, rfl, lo3.mono s35, lw.mono s35, hl, cl, W, by omega, by omega, by omega, fun H6 r p s6 nr ⟨ra, rb, er, hr6, hrb⟩ ip => ?_⟩
    cases er
    have s36 := s35.trans s6
    refine ⟨_, rfl, _, rfl, pw, A, n, q', ws, rfl, W5.mono s6, (WL.mono s6).q, by omega, (fun z => absurd hl z), fun _ => ⟨by omega, l62, fun H7 ww pp s7 nww ipp Www => ?_⟩⟩
    obtain rfl : pp = p := ipp.uniq ip
    have W7 := Www.mono same_new
    have s57 := s6.trans s7
    have s37 := s35.trans s57
    have lpp : pp.length ≤ 1000 := Nat.le_trans (mem_len (pairwise_nodup ip.c.srt) fun z hz => (ip.m z).mp hz) (by omega)
    refine ⟨_, rfl, _, rfl, r, _, 0, _, rfl, rfl, SqL.of (s7 _ _ hr6), rfl, _, rfl, r, _, 1, _, rfl, rfl, SqL.of (s7 _ _ hr6), rfl, ww, rb, _, _, _, _, rfl, W7, (hrb.mono s7).sqp, lpp, fun H8 s8 => ⟨true, congrArg V.bl (by rw [decide_eq_true rfl, decide_eq_true rfl]; rfl), iteF ?_⟩⟩
    have s58 := s57.trans s8
    have WL8 := WL.mono s58
    have hA8 := s58 _ _ hA
    -- put in a tuple
    refine ⟨_, rfl, _, rfl, A, xs, rfl, .inl ⟨SqL.of hA8, fun T nT => ?_⟩⟩
    have s9 := same_upd (o := .tup xs) nT
    have s59 := s58.trans s9
    refine ⟨pw, T, n, q', ws, rfl, W5.mono s59, ⟨xs, .inr upd_same, wl.mono s59⟩, by omega, (fun z => absurd hl z), fun _ => ⟨by omega, l62, fun H10 w2 p2 s10 nw2 ip2 Ww2 => ?_⟩⟩
    obtain rfl : p2 = pp := ip2.uniq ip
    have s5A := s59.trans s10
    have s8A := s9.trans s10
    refine ⟨_, rfl, eqO_web S.ti (Ww2.mono same_new) (W7.mono (s8.trans s8A)) fun H11 s11 => ?_⟩
    refine ⟨_, _, rfl, fun H12 s12 => ⟨true, congrArg V.bl (by rw [decide_eq_true rfl, decide_eq_true rfl]; rfl), iteF ?_⟩⟩
    have s7C := ((s8.trans s8A).trans s11).trans s12
    have s5C := s57.trans s7C
    have s3C := s35.trans s5C
    -- its rows
    refine ⟨_, rfl, ww, _, p2, rfl, W7.mono s7C, fun H13 t us rs s13 nt ht dt is1 => ?_⟩
    have s5D := s5C.trans s13
    have s3D := s3C.trans s13
    refine ⟨_, rfl, _, rfl, .ref a0, b, n, q', ws, p2, rfl, lo3.mono s3D, lw.mono s3D, hl, by omega, cl, W, S0.n4, by omega, ip, fun H14 t2 us2 rs2 s14 nt2 ht2 dt2 is2 l2 => ?_⟩
    obtain rfl : rs = rs2 := is1.uniq is2
    refine ⟨t, t2, us, rs, rs, rfl, s14 _ _ ht, dt.mono s14, ⟨us2, .inl ht2, dt2⟩, l2, fun H15 s15 => ⟨true, congrArg V.bl (decide_eq_true rfl), iteF ?_⟩⟩
    have s7F := ((s7C.trans s13).trans s14).trans s15
    have s5F := s57.trans s7F
    -- its contrary
    have WF := W7.mono s7F
    obtain ⟨dxw, fsw, hiw⟩ := WF.ins
    refine ⟨_, rfl, ww, dxw, fsw, rfl, hiw, ww, _, p2, rfl, WF, (fun r co => co_len ini oo hl ip co), fun H16 cw r16 s16 ncw co16 Wc => ?_⟩
    have s5G := s5F.trans s16
    have WpG := W5.mono s5G
    obtain ⟨dxp, fsp, hip⟩ := WpG.ins
    refine ⟨_, rfl, pw, dxp, fsp, rfl, hip, pw, n, q', rfl, WpG, (fun r co => by have := co6 r co; omega), fun H17 pc qc s17 npc coO Wpc => ?_⟩
    have s5H := s5G.trans s17
    have hAH := s5H _ _ hA
    refine ⟨_, rfl, A, rfl, ⟨xs, SqL.of hAH⟩, fun G nG => ?_⟩
    let HG := upd H17 G (.lst [])
    have hHG : HG G ≠ none := by show (upd H17 G (.lst [])) G ≠ none; rw [upd_same]; exact fun z => nomatch z
    let Pc : Nat → Hp → Prop := fun j H' => Same H17 H' ∧ ∃ l ws', H' G = some (.lst l) ∧ WsAt C (New HG H') l ws' ∧ Cos ws ws' j
    refine lc_list (K := K) (a := A) (xs := xs) Pc ⟨same_upd nG, [], [], upd_same, .nil, rfl, (fun v hv => absurd hv (Nat.not_lt_zero v)), fun v hv => absurd hv (Nat.not_lt_zero v)⟩ (fun j H' _ z => SqL.of (z.1 _ _ hAH)) (fun j x H' hj z => ?_) (fun H18 z => ?_)
    · obtain ⟨s18, l, ws', hG, wl', cs⟩ := z
      have hj2 : j < ws.length := by have := (List.getElem?_eq_some_iff.mp hj).1; omega
      obtain ⟨pj, rfl, Wj⟩ := (wl.mono (s5H.trans s18)).at hj
      obtain ⟨dxj, fsj, hij⟩ := Wj.ins
      refine ⟨rfl, _, rfl, pj, dxj, fsj, rfl, hij, pj, _, _, rfl, Wj, (fun r co => ?_), fun H19 pd qd s19 npd cod Wd => ?_⟩
      · have h1 := okIn_co (ini.ok _ (getD_mem (d := (0, [])) hj2)) (r := r) co
        have h2 := S0.n4 j
        have h1' : (r.length : Int) ≤ nW ws j := h1
        omega
      · have toH : Same (New H' H19) (New HG H19) := new_mono (fun b h1 _ => by
          have bG : b ≠ G := fun z => by rw [z, hG] at h1; cases h1
          show (upd H17 G (.lst [])) b = none
          rw [upd_ne bG]
          exact s18.free h1) (Same.refl _)
        have ll := wl'.len
        have lc := cs.l
        refine ⟨l, s19 _ _ hG, ?_, same_keep nG (s18.trans s19), l ++ [.ref pd], ws' ++ [(nW ws j, qd)], upd_same, ?_, cs.add cod⟩
        · rw [sizeLine_eq]
          omega
        · rw [new_old hHG]
          exact (wl'.mono (new_mono (fun b e _ => e) s19)).app (.cons (Wd.mono toH) .nil)
    obtain ⟨s18, l', ws', hG, wl', cs⟩ := z
    rw [lx] at cs
    have W' := wl'.wbs
    obtain ⟨S', en'⟩ := cs.szs ini W'
    have lws' := cs.l
    have tt' : tot ws' = tot ws := by
      have hf : ∀ v, fW ws' v = fW ws v := fun v => by
        induction v with
        | zero => rfl
        | succ v ih => rw [fW_succ, fW_succ, ih, en']
      show fW ws' ws'.length = fW ws ws.length
      rw [lws', hf]
    have coW : IsCo (ws.length : Int) q' qc := by rw [hl]; exact coO
    refine ⟨pc, G, n, qc, ws', rfl, (Wpc.mono same_new).mono s18, ⟨l', .inl hG, wl'.mono same_new⟩, by omega, (fun z => absurd (by omega) z), fun _ => ⟨by omega, S'.put (by omega) coO.c (co6 qc coO), fun H20 w3 p3 s20 nw3 ip3 Ww3 => ?_⟩⟩
    have eco : r16 = p3 := co_put W W' clW lws' en' (fun v hv => cs.c v hv) coW ip ip3 co16
    have Wc' := (Wc.mono same_new).mono ((s17.trans s18).trans s20)
    refine eqO_web S.ti Wc' (Ww3.mono same_new) fun H21 s21 => ?_
    refine ⟨_, _, rfl, fun H22 s22 => ⟨true, congrArg V.bl (by rw [tt', decide_eq_true rfl, decide_eq_true eco]; rfl), iteF ?_⟩⟩
    have s7K := (((s7F.trans s16).trans (s17.trans s18)).trans s20).trans (s21.trans s22)
    have s5K := s57.trans s7K
    have ok2 : ∀ {a s : Str}, PyData.strOk a = true → PyData.strOk s = true → ∀ z ∈ ([a, s] : List Str), PyData.strOk z = true := fun {a s} ha hs z hz => by
      simp only [List.mem_cons, List.not_mem_nil, or_false] at hz
      rcases hz with rfl | rfl
      · exact ha
      · exact hs
    have okT : ∀ z ∈ ([Str.ofString "number", Str.ofString "webs"] : List Str), PyData.strOk z = true := ok2 (strOk_of _) (strOk_of _)
    -- one web less
    refine ⟨_, rfl, _, rfl, _, rfl, A, xs, rfl, SqL.of (s5K _ _ hA), fun c1 nc1 => ?_⟩
    have cd : cutV xs (some 1) none = xs.drop 1 := cut_drop xs 1 (by omega)
    rw [cd]
    have s23 := same_upd (o := .lst (xs.drop 1)) nc1
    have s5L := s5K.trans s23
    refine ⟨2, .ref pw, c1, .int 0, .int 0, ["number", "webs"], rfl, .pu ⟨_, upd_same, (wl.mono s5L).drop 1⟩ (by rw [List.length_drop]; omega) (W5.mono s5L) (by rw [List.length_drop]; omega), fun H24 t24 s24 nt24 ht24 => ?_⟩
    refine ⟨by show 2 ≤ sizeLine; decide, fun tq ntq => ?_⟩
    have s25 := same_upd (o := .tup [.str "number", .str "webs"]) ntq
    refine ⟨strD ["number", "webs"], strD ["number", "webs"], (dt_strs (s25 _ _ ht24)).dp, (dt_strs (ss := ["number", "webs"]) upd_same).dp, strD_shaped okT, strD_shaped okT, false, by rw [strD_eqv, decide_eq_true rfl]; rfl, iteF ?_⟩
    have s5M := (s5L.trans s24).trans s25
    -- one web more
    refine ⟨_, rfl, _, rfl, ?_⟩
    dsimp only [tNil]
    show spM1 K C CN CW [.int 0] _ _ _
    refine mk_nil (by decide) (by decide) fun H26 p26 s26 np26 W26 => ?_
    refine ⟨by show 1 ≤ sizeLine; decide, fun u27 nu27 => ?_⟩
    have s27 := same_upd (o := .lst [.ref p26]) nu27
    have s5N := (s5M.trans s26).trans s27
    refine ⟨A, u27, xs, [.ref p26], rfl, rfl, s5N _ _ hA, upd_same, (by rw [sizeLine_eq]; show xs.length + 1 ≤ _; omega), fun c2 nc2 => ?_⟩
    have s28 := same_upd (o := .lst (xs ++ [.ref p26])) nc2
    have s5O := s5N.trans s28
    have W26' : WebAt C _ p26 0 [] := (W26.mono same_new).mono (s27.trans s28)
    refine ⟨2, .ref pw, c2, .int 0, .int 0, ["number", "webs"], rfl, .pu (ws := ws ++ [(0, [])]) ⟨_, upd_same, (wl.mono s5O).app (.cons W26' .nil)⟩ (by rw [List.length_append]; show ws.length + 1 ≤ _; omega) (W5.mono s5O) (by rw [List.length_append]; show ((ws.length + 1 : Nat) : Int) ≠ _; omega), fun H29 t29 s29 nt29 ht29 => ?_⟩
    refine ⟨by show 2 ≤ sizeLine; decide, fun tq ntq => ?_⟩
    have s30 := same_upd (o := .tup [.str "number", .str "webs"]) ntq
    refine ⟨strD ["number", "webs"], strD ["number", "webs"], (dt_strs (s30 _ _ ht29)).dp, (dt_strs (ss := ["number", "webs"]) upd_same).dp, strD_shaped okT, strD_shaped okT, false, by rw [strD_eqv, decide_eq_true rfl]; rfl, iteF ?_⟩
    have s5P := (s5O.trans s29).trans s30
    have s3P := s35.trans s5P
    -- the webs as they were
    have l0 : 0 < xs.length := by omega
    have y0 : 0 < ys.length := by omega
    obtain ⟨pz, epz, Wz⟩ := (wl.mono s5P).at (List.getElem?_eq_getElem l0)
    obtain ⟨bz, cz, ebz, hbz, hcz⟩ := (hy.mono s3P).at (List.getElem?_eq_getElem y0)
    dsimp only at hbz hcz
    have at0 : atI xs (0 : Int) = some xs[0] := atI_nat (j := 0) (List.getElem?_eq_getElem l0)
    have aty : atI ys (0 : Int) = some ys[0] := atI_nat (j := 0) (List.getElem?_eq_getElem y0)
    have n40 := S0.n4 0
    have lq0 := S0.lq 0
    refine ⟨_, rfl, A, xs, rfl, .inl (SqL.of (s5P _ _ hA)), _, rfl, a0, _, 0, _, rfl, rfl, SqL.of (s3P _ _ h03), rfl, rfl, false, by rw [dec_int, show ((xs.length : Int) == n) = true by rw [beq_iff_eq]; omega]; rfl, iteF ?_⟩
    refine ⟨_, rfl, A, xs, 0, _, rfl, rfl, SqL.of (s5P _ _ hA), at0, _, rfl, b, ys, 0, _, rfl, rfl, SqL.of (s3P _ _ hb), aty, bz, _, 0, _, ebz, rfl, SqL.of hbz, rfl, _, rfl, b, ys, 0, _, rfl, rfl, SqL.of (s3P _ _ hb), aty, bz, _, 1, _, ebz, rfl, SqL.of hbz, rfl, pz, cz, nW ws 0, nW ws 0, qW ws 0, qW ws 0, by rw [epz]; rfl, Wz, hcz.sqp, by omega, fun H31 s31 => ⟨true, congrArg V.bl (by rw [decide_eq_true rfl, decide_eq_true rfl]; rfl), iteF ?_⟩⟩
    have s5Q := s5P.trans s31
    -- no webs, one web
    dsimp only [tNil]
    show spM1 K C CN CW [.int 0] _ _ _
    refine mk_nil (by decide) (by decide) fun H32 p32 s32 np32 W32 => ?_
    refine ⟨by show 0 ≤ sizeLine; exact Nat.zero_le _, fun c33 nc33 => ?_⟩
    have s33 := same_upd (o := .lst []) nc33
    have s5R := (s5Q.trans s32).trans s33
    refine ⟨p32, c33, 0, [], [], rfl, (W32.mono same_new).mono s33, ⟨[], .inl upd_same, .nil⟩, by decide, (fun z => absurd rfl z), fun _ => ⟨by decide, by decide, fun H34 p34 q34 s34 np34 ip34 W34 => ?_⟩⟩
    obtain rfl := put_nil ip34
    refine ⟨by show 0 ≤ sizeLine; exact Nat.zero_le _, fun c35 nc35 => ?_⟩
    have s35' := same_upd (o := .lst []) nc35
    refine ⟨p34, c35, 0, 0, [], [], rfl, (W34.mono same_new).mono s35', ⟨[], .inl upd_same, .nil⟩, by decide, fun H36 s36' => ⟨true, rfl, iteF ?_⟩⟩
    have s5S := ((s5R.trans s34).trans s35').trans s36'
    dsimp only [tNil]
    show spM1 K C CN CW [.int 1] _ _ _
    refine mk_nil (by decide) (by decide) fun H37 p37 s37' np37 W37 => ?_
    refine ⟨_, rfl, by show 1 ≤ sizeLine; decide, fun c38 nc38 => ?_⟩
    have s38 := same_upd (o := .lst [.ref pw]) nc38
    have s5T := (s5S.trans s37').trans s38
    refine ⟨p37, c38, 1, [], [(n, q')], rfl, (W37.mono same_new).mono s38, ⟨[.ref pw], .inl upd_same, .cons (W5.mono s5T) .nil⟩, by show 1 ≤ 1000; decide, (fun z => absurd rfl z), fun _ => ⟨by rw [tot_one]; omega, ?_, fun H39 p39 q39 s39 np39 ip39 W39 => ?_⟩⟩
    · have e : putL [] [(n, q')] = inL [(n, q')] 1 := List.append_nil _
      have e0 : inL [(n, q')] 0 = [] := rfl
      have e1 : qW [(n, q')] 0 = q' := rfl
      have e2 : (shf q' 0).length = q'.length := List.length_map _
      rw [e, inL_succ, e0, e1, fW_zero, List.nil_append, e2]
      omega
    rw [tot_one] at W39
    obtain rfl : q39 = q' := put_one cl ip39
    have s5U := s5T.trans s39
    have s3U := s35.trans s5U
    refine ⟨_, rfl, a0, _, 0, _, rfl, rfl, SqL.of (s3U _ _ h03), rfl, _, rfl, a0, _, 1, _, rfl, rfl, SqL.of (s3U _ _ h03), rfl, p39, c0, n, n, q39, q39, rfl, W39.mono same_new, (hq3.mono s3U).sqp, by omega, fun H40 s40 => ⟨true, congrArg V.bl (by rw [decide_eq_true rfl, decide_eq_true rfl]; rfl), iteF ?_⟩⟩
    have s5V := s5U.trans s40
    have s3V := s35.trans s5V
    -- the numbers, the sides
    refine ⟨_, rfl, _, rfl, A, b, ws, rfl, WL.mono s5V, lw.mono s3V, by omega, by omega, S0.n4, by omega, fun H41 s41 => ⟨true, rfl, iteT ?_⟩⟩
    have s5W := s5V.trans s41
    have s3W := s35.trans s5W
    obtain ⟨x, y, wr, ew⟩ : ∃ x y wr, ws = x :: y :: wr := by
      match ws, hl with
      | [], hl => exfalso; simp at hl; omega
      | [x], hl => exfalso; simp at hl; omega
      | x :: y :: wr, _ => exact ⟨x, y, wr, rfl⟩
    have hx := okIn_cl (ini.ok x (by rw [ew]; exact List.mem_cons_self))
    have hy' := okIn_cl (ini.ok y (by rw [ew]; exact List.mem_cons_of_mem _ List.mem_cons_self))
    have WLW := WL.mono s5W
    have lwW := lw.mono s3W
    rw [ew] at WLW lwW
    exact ⟨_, rfl, _, rfl, A, b, x, y, wr, rfl, WLW, lwW, hx.2.1, hy'.2.1, hx.2.2.2, hy'.2.2.2, fun H42 _ => k H42⟩
end
end K0
set_option Elab.async false
set_option linter.all false
set_option maxRecDepth 100000
set_option maxHeartbeats 4000000
namespace K0
open PySem PySem.Spec PyProof.Rows L2
/-! ### what the top has written -/
/-- a def of the top -/
structure DG (K : PySem.W.Frag) (x : Str) (st : Stmt) : Prop where
  ex : ∃ (f : Addr) (fd : FuncData), PySem.W.nsIn K mainGlobals x = some (some (.ref f)) ∧ Fun K x x st f fd
/-- a method of the class at C -/
structure MG (K : PySem.W.Frag) (C : Addr) (m q : Str) (st : Stmt) : Prop where
  ex : ∃ (f : Addr) (fd : FuncData), PySem.W.findIn K (.ref C) m = some (some (.ref f)) ∧ PySem.W.isFn K (.ref f) = true ∧ PySem.W.fnIn K f = true ∧ Fun K m q st f fd
/-- an error class with its own __init__ -/
structure EG (K : PySem.W.Frag) (x : Str) (C : Addr) (fl : List Str) (q : Str) (st : Stmt) : Prop where
  T : ErrC K C fl
  g : PySem.W.nsIn K mainGlobals x = some (some (.ref C))
  ex : ∃ (f : Addr) (fd : FuncData), PySem.W.findIn K (.ref C) "__init__" = some (some (.ref f)) ∧ PySem.W.typeIn K (.ref f) = some (.type "function") ∧ Fun K "__init__" q st f fd
/-- a def with one default, the def's own name x where it is the top's -/
structure XG (K : PySem.W.Frag) (x q : Str) (st : Stmt) (f : Addr) (v : V) : Prop where
  ex : ∃ fd : FuncData, FunD K x q (defArgs st) (defBody st) (defScope st) [v] [] f fd
theorem FnOk.up {P : Program} {w : World} {K : PySem.W.Frag} {mg : Str → Option Value} {base : Heap} {CX : CXT} {k : Nat} {f : Addr} {fd : FuncData} {ps : List Str} {sp : Sp} (F : FnOk P w K mg base CX0 k f fd ps sp) : FnOk P w K mg base CX k f fd ps sp :=
  ⟨F.len, fun A outer s H args us vs Q E hr he hb hv hs Γ p hc hΓ => wpCode_mono (fun r s' h => by
    cases r with
    | ok v => cases v <;> exact h
    | error e => exact h.elim) (F.run A outer s H args us vs Q E hr he hb hv hs Γ p hc hΓ)⟩
section
variable {P : Program} {w : World} {K : PySem.W.Frag} {mg : Str → Option Value} {base h : Heap} {x q m : Str} {st : Stmt} {k : Nat} {ps : List Str} {sp : Sp} {C : Addr}
theorem DG.df (g : DG K x st) (X : K.In h) (G : h.Ns mainGlobals mg) (ok : ∀ f fd, Fun K x x st f fd → FnOk P w K mg base (L2.CX P w) k f fd ps sp)
    (hb : ∀ (kV doc pm : Value) (an : Option Addr) (cdv ct : Value) (us : List Value), us.length = ps.length → bindArgs (PySem.W.fnOf x x (defArgs st) (defBody st) (defScope st) .none kV doc pm an cdv ct) ⟨us, []⟩ = pure (ps.zip us)) : Df P w K mg base x k ps sp := by
  obtain ⟨f, fd, e, F⟩ := g.ex
  exact ⟨f, fd, PySem.W.mg_of X G e, F.kp, ok f fd F, F.binds hb⟩
theorem MG.mt (g : MG K C m q st) (c : Cls K C) (ok : ∀ f fd, Fun K m q st f fd → FnOk P w K mg base (L2.CX P w) k f fd ps sp)
    (hb : ∀ (kV doc pm : Value) (an : Option Addr) (cdv ct : Value) (us : List Value), us.length = ps.length → bindArgs (PySem.W.fnOf m q (defArgs st) (defBody st) (defScope st) .none kV doc pm an cdv ct) ⟨us, []⟩ = pure (ps.zip us)) : Mt P w K mg base C m k ps sp := by
  obtain ⟨f, fd, e, i, n, F⟩ := g.ex
  exact ⟨f, fd, c, ⟨e, i, F.kp⟩, i, n, e, ok f fd F, F.binds hb⟩
theorem EG.er {fl : List Str} (g : EG K x C fl q st) (X : K.In h) (G : h.Ns mainGlobals mg) (ok : ∀ f fd, Fun K "__init__" q st f fd → FnOk P w K mg base CX0 1 f fd ps sp)
    (hb : ∀ (kV doc pm : Value) (an : Option Addr) (cdv ct : Value) (us : List Value), us.length = ps.length → bindArgs (PySem.W.fnOf "__init__" q (defArgs st) (defBody st) (defScope st) .none kV doc pm an cdv ct) ⟨us, []⟩ = pure (ps.zip us)) : Er P w K mg base x C fl ps sp := by
  obtain ⟨f, fd, e, i, F⟩ := g.ex
  exact ⟨g.T, PySem.W.mg_of X G g.g, f, fd, e, i, ok f fd F, F.binds hb⟩
end
/-- a def at f -/
structure PG (K : PySem.W.Frag) (x q : Str) (st : Stmt) (f : Addr) : Prop where
  ex : ∃ fd : FuncData, Fun K x q st f fd
/-- the empty tuple that the top has made -/
structure EmT (K : PySem.W.Frag) (e : Addr) : Prop where
  ex : ∃ (o : Obj) (its : Array Value) (n : Nat), K.lookup e = some o ∧ o.cls = .type "tuple" ∧ o.data = .seq its n ∧ its = #[]
theorem em_mk {K : PySem.W.Frag} {e : Addr} {o : Obj} {its : Array Value} {n : Nat} (l : K.lookup e = some o) (x : o.cls = .type "tuple") (y : o.data = .seq its n) (z : its = #[]) : EmT K e := ⟨o, its, n, l, x, y, z⟩
theorem EmT.sq {K : PySem.W.Frag} {e : Addr} (h : EmT K e) (H : Hp) : SqT K H e [] := by
  obtain ⟨o, its, n, h1, h2, h3, rfl⟩ := h.ex
  exact .inr ⟨o, #[], n, h1, h2, h3, Nat.zero_le _, .nil⟩
theorem kit_no {K : PySem.W.Frag} {C : Addr} {T : String} (h1 : PySem.W.hasDictIn K C = true) (h2 : PySem.W.typeIn K (.ref C) = some (.type "type")) (h3 : PySem.W.subIn K (.type T) (.ref C) = some false) : PySem.W.kitOne K (.type T) (.ref C) = some false := by
  obtain ⟨cd, hc, _⟩ := PySem.W.any_some h1
  have e2 : ((PySem.W.clsIn K C).isSome && PySem.W.typeIn K (.ref C) == some (.type "type")) = true := by rw [hc, h2] <;> rfl
  have e1 : ¬ (((Value.type T) == .ref C) = true) := fun z => nomatch beq_iff_eq.mp z
  show (if ((Value.type T) == .ref C) = true then some true else (if ((PySem.W.clsIn K C).isSome && PySem.W.typeIn K (.ref C) == some (.type "type")) = true then PySem.W.subIn K (.type T) (.ref C) else none)) = some false
  rw [if_neg e1, if_pos e2]
  exact h3
theorem kit_self {K : PySem.W.Frag} {C : Addr} : PySem.W.kitOne K (.ref C) (.ref C) = some true := by
  unfold PySem.W.kitOne
  rw [if_pos (beq_iff_eq.mpr rfl)]
theorem ErrC.xf {K : PySem.W.Frag} {C : Addr} {fl : List Str} (T : ErrC K C fl) : XfC K C := ⟨T.ga, T.gg, T.exC, T.hd⟩
theorem ErrC.exm {K : PySem.W.Frag} {C : Addr} {fl : List Str} (T : ErrC K C fl) {cls : Value} {b : Bool} (h : PySem.W.subIn K cls (.ref C) = some b) : PySem.W.exmOne K cls (.ref C) = some b := PySem.W.exm_ref T.exC T.hd T.tyC h
theorem fun_of {K : PySem.W.Frag} {x q : Str} {st : Stmt} {oc : Value} {od an : Option Addr} {osl : Array (Option Value)} {kV doc pm cdv ct : Value} {ar : Arguments} {bo : List Stmt} {sc : Scope} {o : Obj} {f : Addr}
  (l : K.lookup f = some o) (e : o = ⟨oc, od, .func (PySem.W.fnOf x q ar bo sc .none kV doc pm an cdv ct), osl⟩) (e1 : ar = defArgs st) (e2 : bo = defBody st) (e3 : sc = defScope st) (c : PySem.W.codeIn K cdv q = true) (k : PySem.W.keepIn K (.ref f) = true) : ∃ fd, Fun K x q st f fd := by
  subst e1 e2 e3 e
  exact ⟨_, ⟨oc, od, kV, doc, pm, an, cdv, ct, osl, rfl, l, c⟩, k⟩
theorem dg_mk {K : PySem.W.Frag} {q : Str} {st : Stmt} {oc : Value} {od an : Option Addr} {osl : Array (Option Value)} {kV doc pm cdv ct : Value} {ar : Arguments} {bo : List Stmt} {sc : Scope} {o : Obj} {f : Addr}
  (a : PySem.W.nsIn K mainGlobals q = some (some (.ref f))) (l : K.lookup f = some o) (e : o = ⟨oc, od, .func (PySem.W.fnOf q q ar bo sc .none kV doc pm an cdv ct), osl⟩) (e1 : ar = defArgs st) (e2 : bo = defBody st) (e3 : sc = defScope st) (c : PySem.W.codeIn K cdv q = true) (k : PySem.W.keepIn K (.ref f) = true) : DG K q st := by
  obtain ⟨fd, F⟩ := fun_of l e e1 e2 e3 c k
  exact ⟨f, fd, a, F⟩
theorem mg_mk {K : PySem.W.Frag} {C : Addr} {m q : Str} {st : Stmt} {oc : Value} {od an : Option Addr} {osl : Array (Option Value)} {kV doc pm cdv ct : Value} {ar : Arguments} {bo : List Stmt} {sc : Scope} {o : Obj} {f : Addr}
  (a : PySem.W.findIn K (.ref C) m = some (some (.ref f))) (i : PySem.W.isFn K (.ref f) = true) (n : PySem.W.fnIn K f = true) (l : K.lookup f = some o) (e : o = ⟨oc, od, .func (PySem.W.fnOf m q ar bo sc .none kV doc pm an cdv ct), osl⟩) (e1 : ar = defArgs st) (e2 : bo = defBody st) (e3 : sc = defScope st) (c : PySem.W.codeIn K cdv q = true) (k : PySem.W.keepIn K (.ref f) = true) : MG K C m q st := by
  obtain ⟨fd, F⟩ := fun_of l e e1 e2 e3 c k
  exact ⟨f, fd, a, i, n, F⟩
theorem pg_mk {K : PySem.W.Frag} {m q : Str} {st : Stmt} {oc : Value} {od an : Option Addr} {osl : Array (Option Value)} {kV doc pm cdv ct : Value} {ar : Arguments} {bo : List Stmt} {sc : Scope} {o : Obj} {f : Addr}
  (l : K.lookup f = some o) (e : o = ⟨oc, od, .func (PySem.W.fnOf m q ar bo sc .none kV doc pm an cdv ct), osl⟩) (e1 : ar = defArgs st) (e2 : bo = defBody st) (e3 : sc = defScope st) (c : PySem.W.codeIn K cdv q = true) (k : PySem.W.keepIn K (.ref f) = true) : PG K m q st f := by
  obtain ⟨fd, F⟩ := fun_of l e e1 e2 e3 c k
  exact ⟨fd, F⟩
theorem eg_mk {K : PySem.W.Frag} {x : Str} {C : Addr} {fl : List Str} {q : Str} {st : Stmt} {oc : Value} {od an : Option Addr} {osl : Array (Option Value)} {kV doc pm cdv ct : Value} {ar : Arguments} {bo : List Stmt} {sc : Scope} {o : Obj} {f : Addr} {oC : Obj} {nm qn : Str} {N : Addr} {bs bm : List Value} {sn : List Str} {sub : List Value} {ab : Bool} {col : Option Bool} {dd : Option Addr} {m0 m1 m2 m3 m5 : Option Value}
  (g : PySem.W.nsIn K mainGlobals x = some (some (.ref C))) (xl : K.lookup C = some oC) (xe : oC = excClassObj nm qn C N bs bm true sn sub ab col dd m0 m1 m2 m3 m5 "Exception.__new__") (xb : (tailOf bm == exT) = true)
  (sa : PySem.W.findIn K (.ref C) "__setattr__" = some (some (.builtin "object.__setattr__"))) (ga : PySem.W.findIn K (.ref C) "__getattribute__" = some (some (.builtin "BaseException.__getattribute__"))) (gg : PySem.W.findIn K (.ref C) "__getattr__" = some none)
  (ex : PySem.W.subIn K (.ref C) (.type "BaseException") = some true) (ty : PySem.W.typeIn K (.ref C) = some (.type "type")) (kc : PySem.W.keepIn K (.ref C) = true) (hd : PySem.W.hasDictIn K C = true) (no : ∀ z ∈ fl, PySem.W.findIn K (.ref C) z = some none)
  (i : PySem.W.findIn K (.ref C) "__init__" = some (some (.ref f))) (t : PySem.W.typeIn K (.ref f) = some (.type "function")) (l : K.lookup f = some o) (e : o = ⟨oc, od, .func (PySem.W.fnOf "__init__" q ar bo sc .none kV doc pm an cdv ct), osl⟩) (e1 : ar = defArgs st) (e2 : bo = defBody st) (e3 : sc = defScope st) (c : PySem.W.codeIn K cdv q = true) (k : PySem.W.keepIn K (.ref f) = true) : EG K x C fl q st := by
  obtain ⟨fd, F⟩ := fun_of l e e1 e2 e3 c k
  subst xe
  exact ⟨⟨⟨nm, qn, N, bs, bm, sn, sub, ab, col, dd, m0, m1, m2, m3, m5, xl, xb⟩, sa, ga, gg, ex, ty, kc, hd, no⟩, g, f, fd, i, t, F⟩
theorem xg_mk {K : PySem.W.Frag} {x q : Str} {st : Stmt} {v : V} {oc : Value} {od an : Option Addr} {osl : Array (Option Value)} {kV doc pm cdv ct : Value} {ar : Arguments} {bo : List Stmt} {sc : Scope} {o : Obj} {f : Addr} {dV : Value} {T : Addr} {oT : Obj} {its : List Value} {n : Nat}
  (l : K.lookup f = some o) (e : o = ⟨oc, od, .func (PySem.W.fnOf x q ar bo sc dV kV doc pm an cdv ct), osl⟩) (e1 : ar = defArgs st) (e2 : bo = defBody st) (e3 : sc = defScope st) (c : PySem.W.codeIn K cdv q = true) (k : PySem.W.keepIn K (.ref f) = true) (d : dV = .ref T) (t : K.lookup T = some oT) (y : oT.data = .seq its.toArray n) (r : Vals [v] its) : XG K x q st f v := by
  subst e1 e2 e3 e
  exact ⟨_, ⟨oc, od, dV, kV, doc, pm, an, cdv, ct, osl, rfl, l, c, .inr ⟨by simp, T, oT, its, n, d, t, y, r⟩, .inl rfl⟩, k⟩
abbrev s_eS : Stmt := inClass (top 8) 0
section
variable {P : Program} {w : World} {K : PySem.W.Frag} {mg : Str → Option Value} {base : Heap} {f C : Addr} {fd : FuncData}
theorem sc_eS : FnScope ["self", "name"] ["self", "name"] (defScope s_eS) := ⟨rfl, rfl, rfl, by decide +kernel, rfl, by decide +kernel, by decide +kernel⟩
theorem ok_eS (F : Fun K "__init__" "NoneSuch.__init__" s_eS f fd) (T : ErrC K C ["name"]) : FnOk P w K mg base CX0 1 f fd ["self", "name"] (spE1 C "name") := by
  refine F.ok sc_eS (fun vs H Q E h => ?_) (fun cdv A outer s H vs Q E hr h => ?_)
  · obtain ⟨a, v, rfl, _⟩ := h
    rfl
  · obtain ⟨a, v, rfl, ha, q⟩ := h
    refine ⟨_, pss_one (ps_stE (fl := ["name"]) (pv 0) (pv 1)), ?_⟩
    exact ⟨_, rfl, _, rfl, a, C, rfl, T, by decide, .inl ⟨ha, fun dx n ne => q dx n ne⟩⟩
theorem raw0 {CX : CXT} {k : Nat} {ps : List Str} {sp : Sp} (F : FnOk P w K mg base CX k f fd ps sp) (hb : Binds K fd ps []) : FnR P w K mg base CX k f sp :=
  (F.raw hb (dvs := []) .nil).imp fun vs H Q E h => by rw [List.append_nil]; exact h
end
theorem all_mk {P : Program} {w : World} {K : PySem.W.Frag} {h : Heap} {mg : Str → Option Value} {fa C CN CW CT CS CO fi f0 e0 pu gu pb gb : Addr} {ru rb : List Value} (X : K.In h) (G : h.Ns mainGlobals mg) (hfa : mg "law" = some (.ref fa))
    (eN : EG K "BadNumber" CN ["name"] "BadNumber.__init__" s_e1)
    (eW : EG K "BadWeb" CW ["x", "y"] "BadWeb.__init__" s_eW)
    (eT : EG K "BadThing" CT ["thing"] "BadThing.__init__" s_eT)
    (eS : EG K "NoneSuch" CS ["name"] "NoneSuch.__init__" s_eS)
    (aO : PySem.W.nsIn K mainGlobals "OrdersError" = some (some (.ref CO)))
    (snn : PySem.W.subIn K (.ref CN) (.ref CN) = some true)
    (stn : PySem.W.subIn K (.ref CT) (.ref CN) = some false)
    (stt : PySem.W.subIn K (.ref CT) (.ref CT) = some true)
    (ssn : PySem.W.subIn K (.ref CS) (.ref CN) = some false)
    (sst : PySem.W.subIn K (.ref CS) (.ref CT) = some false)
    (sss : PySem.W.subIn K (.ref CS) (.ref CS) = some true)
    (aC : PySem.W.nsIn K mainGlobals "Web" = some (some (.ref C)))
    (pg : PySem.W.plainGet K C Str.empty = true)
    (hd : PySem.W.hasDictIn K C = true)
    (po : PySem.W.plainOver K C = true)
    (sa : PySem.W.findIn K (.ref C) "__setattr__" = some (some (.builtin "object.__setattr__")))
    (nm : PySem.W.findIn K (.ref C) "many" = some none)
    (nc : PySem.W.findIn K (.ref C) "clashes" = some none)
    (nk : PySem.W.findIn K (.ref C) "masks" = some none)
    (mk : PySem.W.makesIn K C = true)
    (kC : PySem.W.keepIn K (.ref C) = true)
    (ha : PySem.W.findIn K (.ref C) "__class__" = some (some (.builtin "object.__class__")))
    (hn : PySem.W.specialIn K (.builtin "object.__class__") "__get__" = some (some (.builtin "getset_descriptor.__get__")))
    (tk : PySem.W.takesIn K (.builtin "object.__class__") = some true)
    (hm : PySem.W.mroIn K C (.type "object") = some true)
    (tC : PySem.W.typeIn K (.ref C) = some (.type "type"))
    (t0 : PySem.W.subIn K (.type "NoneType") (.ref C) = some false)
    (t1 : PySem.W.subIn K (.type "bool") (.ref C) = some false)
    (t2 : PySem.W.subIn K (.type "int") (.ref C) = some false)
    (t3 : PySem.W.subIn K (.type "str") (.ref C) = some false)
    (t4 : PySem.W.subIn K (.type "list") (.ref C) = some false)
    (t5 : PySem.W.subIn K (.type "tuple") (.ref C) = some false)
    (q0 : PySem.W.notFirst K C (.type "int") = true)
    (q1 : PySem.W.notFirst K C (.type "list") = true)
    (sf : PySem.W.selfFirst K C = true)
    (i1 : PySem.W.findIn K (.ref C) "__init__" = some (some (.ref fi)))
    (i2 : PySem.W.isFn K (.ref fi) = true)
    (i3 : XG K "__init__" "Web.__init__" s_wi fi (.ref e0))
    (i4 : EmT K e0)
    (n1 : PySem.W.nsIn K mainGlobals "check_number" = some (some (.ref f0)))
    (n3 : XG K "check_number" "check_number" s_check_number f0 (.int 0))
    (c1 : PySem.W.readsIn K C (.type "type") = true)
    (c2 : PySem.W.specialIn K (.ref C) "__getattribute__" = some (some (.builtin "type.__getattribute__")))
    (u1 : PySem.W.findCls K (.ref C) (.type "type") "full" = some (.get (.builtin "classmethod.__get__") (.ref pu) .none (.ref C)))
    (u2 : PySem.W.recIn K pu "classmethod" = some (.ref gu :: ru))
    (u3 : PySem.W.fnIn K gu = true)
    (u4 : PG K "full" "Web.full" s_fu gu)
    (b1 : PySem.W.findCls K (.ref C) (.type "type") "bare" = some (.get (.builtin "classmethod.__get__") (.ref pb) .none (.ref C)))
    (b2 : PySem.W.recIn K pb "classmethod" = some (.ref gb :: rb))
    (b3 : PySem.W.fnIn K gb = true)
    (b4 : PG K "bare" "Web.bare" s_ba gb)
    (mCL : MG K C "clash" "Web.clash" (s_w 2))
    (mEQ : MG K C "__eq__" "Web.__eq__" (s_w 11))
    (mLN : MG K C "__len__" "Web.__len__" (s_w 12))
    (mIV : MG K C "__invert__" "Web.__invert__" (s_iv))
    (mAD : MG K C "__add__" "Web.__add__" (s_ad))
    (mMU : MG K C "__mul__" "Web.__mul__" (s_mu))
    (z0 : PySem.W.nsIn K mainGlobals "isinstance" = some none)
    (z1 : PySem.W.nsIn K mainGlobals "int" = some none)
    (z2 : PySem.W.nsIn K mainGlobals "bool" = some none)
    (z3 : PySem.W.nsIn K mainGlobals "list" = some none)
    (z4 : PySem.W.nsIn K mainGlobals "tuple" = some none)
    (z5 : PySem.W.nsIn K mainGlobals "len" = some none)
    (z6 : PySem.W.nsIn K mainGlobals "set" = some none)
    (z7 : PySem.W.nsIn K mainGlobals "min" = some none)
    (z8 : PySem.W.nsIn K mainGlobals "max" = some none)
    (z9 : PySem.W.nsIn K mainGlobals "sorted" = some none)
    (z10 : PySem.W.nsIn K mainGlobals "range" = some none)
    (z11 : PySem.W.nsIn K mainGlobals "enumerate" = some none)
    (z12 : PySem.W.nsIn K mainGlobals "repr" = some none)
    (z13 : PySem.W.nsIn K mainGlobals "iter" = some none)
    (z14 : PySem.W.nsIn K mainGlobals "sum" = some none)
    (z15 : PySem.W.nsIn K mainGlobals "zip" = some none)
    (dII : DG K "is_int" s_is_int)
    (dIP : DG K "is_pair" s_is_pair)
    (dTH : DG K "is_thing" s_is_thing)
    (dCT : DG K "check_thing" s_check_thing)
    (dTI : DG K "things_in" s_ti)
    (dNM : DG K "near_masks" s_nm)
    (dCC : DG K "checked_clashes" s_cc)
    (dAP : DG K "all_pairs" s_ap)
    (dSH : DG K "shifted" s_shf)
    (dBE : DG K "beside" s_be)
    (dJO : DG K "joined" s_jo)
    (dFN : DG K "first_numbers" s_fn)
    (dPI : DG K "put_in" s_pi)
    (dTO : DG K "thing_of" s_to)
    (dNO : DG K "number_of" s_no)
    (dRF : DG K "rows_of_four" s_rf)
    (dDR : DG K "_law_draws" s_dr)
    (dTK : DG K "_law_take" s_tk)
    (dLI : DG K "_law_int" s_li)
    (dCK : DG K "_law_clash" s_ck)
    (dNE : DG K "_law_near" s_ne)
    (dLN : DG K "_law_line" s_ln')
    (dRG : DG K "_law_ring" s_rg)
    (dLQ : DG K "_law_quads" s_lq)
    (dRI : DG K "_law_row_is" s_ri)
    (dRR : DG K "_law_rows_are" s_rr)
    (dWI : DG K "_law_web_is" s_wis)
    (dDU : DG K "_law_is_due" s_du)
    (dSY : DG K "_law_says" s_sy)
    (dWD : DG K "_law_web_drawn" s_wd)
    (dTN : DG K "_law_try_number" s_tn)
    (dOU : DG K "_law_outer" s_ou)
    (dIN : DG K "_law_inner" s_in')
    (dIS : DG K "_law_inners" s_ins)
    (dFS : DG K "_law_firsts" s_fs)
    (dPT : DG K "_law_put" s_pt)
    (dPR : DG K "_law_put_rows" s_pr)
    (dNB : DG K "_law_numbers" s_nb)
    (dSP : DG K "_law_sides_put" s_sp)
    (dLW : DG K "law" s_lw) :
    ∃ fd : FuncData, (∀ (s : Shared) (v : Value), BindsTo s fd ⟨[v], []⟩ [("_law_script", v)]) ∧ ∀ base : Heap, K.In base → base.Ns mainGlobals mg → FnOk P w K mg base (L2.CX P w) 10 fa fd ["_law_script"] (spLw K) := by
  have B3 : Blt3 mg := ⟨⟨⟨PySem.W.mg_none_of X G z0, PySem.W.mg_none_of X G z1, PySem.W.mg_none_of X G z2, PySem.W.mg_none_of X G z3, PySem.W.mg_none_of X G z4, PySem.W.mg_none_of X G z5⟩, PySem.W.mg_none_of X G z6, PySem.W.mg_none_of X G z7, PySem.W.mg_none_of X G z8, PySem.W.mg_none_of X G z9, PySem.W.mg_none_of X G z10, PySem.W.mg_none_of X G z11, PySem.W.mg_none_of X G z12, PySem.W.mg_none_of X G z13⟩, PySem.W.mg_none_of X G z14, PySem.W.mg_none_of X G z15⟩
  have B : Blt2 mg := B3.toBlt2
  have N : Ern mg CN CT CS CO := ⟨PySem.W.mg_of X G eN.g, PySem.W.mg_of X G eT.g, PySem.W.mg_of X G eS.g, PySem.W.mg_of X G aO⟩
  have L : Erl K CN CT CS := ⟨eN.T.exm snn, eN.T.exm stn, eT.T.exm stt, eN.T.exm ssn, eT.T.exm sst, eS.T.exm sss, eN.T.xf, eT.T.xf, eS.T.xf, eN.T.no _ (by simp), eT.T.no _ (by simp), eS.T.no _ (by simp)⟩
  have c : Cls K C := ⟨pg, hd, po, sa⟩
  have TW : WebC K C := ⟨c, nm, nc, nk⟩
  have T : WebI K C := ⟨TW, ha, hn, tk, hm, kit_self, fun T hT => kit_no hd tC (by
    rcases List.mem_cons.mp hT with rfl | hT; exact t0
    rcases List.mem_cons.mp hT with rfl | hT; exact t1
    rcases List.mem_cons.mp hT with rfl | hT; exact t2
    rcases List.mem_cons.mp hT with rfl | hT; exact t3
    rcases List.mem_cons.mp hT with rfl | hT; exact t4
    rcases List.mem_cons.mp hT with rfl | hT; exact t5
    cases hT), fun T hT => by
    rcases List.mem_cons.mp hT with rfl | hT; exact q0
    rcases List.mem_cons.mp hT with rfl | hT; exact q1
    cases hT⟩
  have gW : mg "Web" = some (.ref C) := PySem.W.mg_of X G aC
  obtain ⟨fl, fdl, el, Fl⟩ := dLW.ex
  have el' := hfa.symm.trans (PySem.W.mg_of X G el)
  cases el'
  refine ⟨fdl, fun s v => ?_, fun base _ _ => ?_⟩
  · obtain ⟨oc, od, kV, doc, pm, an, cdv, ct, osl, rfl, _, _⟩ := Fl.ex
    exact .of_eq rfl
  have eNR : Er P w K mg base "BadNumber" CN ["name"] ["self", "name"] (spE1 CN "name") := eN.er X G (fun f fd F => ok_e1 F eN.T) (fun _ _ _ _ _ _ us hl => match us, hl with | [_, _], _ => rfl)
  have eTR : Er P w K mg base "BadThing" CT ["thing"] ["self", "thing"] (spE1 CT "thing") := eT.er X G (fun f fd F => ok_eT F eT.T) (fun _ _ _ _ _ _ us hl => match us, hl with | [_, _], _ => rfl)
  have eSR : Er P w K mg base "NoneSuch" CS ["name"] ["self", "name"] (spE1 CS "name") := eS.er X G (fun f fd F => ok_eS F eS.T) (fun _ _ _ _ _ _ us hl => match us, hl with | [_, _], _ => rfl)
  have eWR : Er P w K mg base "BadWeb" CW ["x", "y"] ["self", "x", "y"] (spE2 CW "x" "y") := eW.er X G (fun f fd F => ok_eW F eW.T) (fun _ _ _ _ _ _ us hl => match us, hl with | [_, _, _], _ => rfl)
  have II : Df P w K mg base "is_int" 1 ["value"] (spInt) := dII.df X G (fun f fd F => FnOk.up (ok_int F B.toBlt)) (fun _ _ _ _ _ _ us hl => match us, hl with | [_], _ => rfl)
  have IP : Df P w K mg base "is_pair" 1 ["value"] (spPair) := dIP.df X G (fun f fd F => FnOk.up (ok_pair F B.toBlt)) (fun _ _ _ _ _ _ us hl => match us, hl with | [_], _ => rfl)
  have TH : Df P w K mg base "is_thing" 2 ["many", "value"] (spTh) := dTH.df X G (fun f fd F => ok_th F II) (fun _ _ _ _ _ _ us hl => match us, hl with | [_, _], _ => rfl)
  have CHt : Df P w K mg base "check_thing" 3 ["many", "thing"] (spCt CT) := dCT.df X G (fun f fd F => ok_ct F TH eTR) (fun _ _ _ _ _ _ us hl => match us, hl with | [_, _], _ => rfl)
  have TI : Df P w K mg base "things_in" 1 ["mask"] (spTi) := dTI.df X G (fun f fd F => ok_ti F B) (fun _ _ _ _ _ _ us hl => match us, hl with | [_], _ => rfl)
  have NM : Df P w K mg base "near_masks" 1 ["many", "clashes"] (spNm) := dNM.df X G (fun f fd F => ok_nm F B) (fun _ _ _ _ _ _ us hl => match us, hl with | [_, _], _ => rfl)
  have CC : Df P w K mg base "checked_clashes" 3 ["many", "clashes"] (spCC K CW) := dCC.df X G (fun f fd F => ok_cc F B IP TH eWR) (fun _ _ _ _ _ _ us hl => match us, hl with | [_, _], _ => rfl)
  have CNum : DfD P w K mg base "check_number" 3 ["value", "name", "least"] [.int 0] (spCn CN) := by
    obtain ⟨fd, F⟩ := n3.ex
    obtain ⟨ds, v, b⟩ := F.binds1 (ps := ["value", "name", "least"]) 2 0 (by simp) rfl fun _ _ _ _ _ _ _ us its l1 l2 => match us, its, l1, l2 with | [_, _], [_], _, _ => ⟨_, rfl, rfl⟩
    exact ⟨f0, fd, ds, PySem.W.mg_of X G n1, F.kp, ok_cn F II eNR, v, b⟩
  have WK : WebK P w K mg base C CN CW := by
    obtain ⟨fd, F⟩ := i3.ex
    obtain ⟨ds, v, b⟩ := F.binds1 (ps := ["self", "many", "clashes"]) 2 0 (by simp) rfl fun _ _ _ _ _ _ _ us its l1 l2 => match us, its, l1, l2 with | [_, _], [_], _, _ => ⟨_, rfl, rfl⟩
    obtain ⟨ds2, v2, b2⟩ := F.binds1 (ps := ["self", "many", "clashes"]) 3 1 (by simp) rfl fun _ _ _ _ _ _ _ us its l1 l2 => match us, its, l1, l2 with | [_, _, _], [_], _, _ => ⟨_, rfl, rfl⟩
    have w1 : Vals [V.ref e0] ds := v
    have w2 : Vals [] ds2 := v2
    cases w2
    cases w1 with
    | cons r1 r2 =>
      cases r2
      cases r1
      exact ⟨gW, fi, fd, ⟨mk, i1, i2, kC⟩, ok_wi F TW CNum CC NM, b2, e0, i4.sq, b⟩
  have AP : Df P w K mg base "all_pairs" 1 ["many"] (spAp) := dAP.df X G (fun f fd F => ok_ap F B) (fun _ _ _ _ _ _ us hl => match us, hl with | [_], _ => rfl)
  have SHf : Df P w K mg base "shifted" 1 ["pairs", "step"] (spShf) := dSH.df X G (fun f fd F => ok_shf F) (fun _ _ _ _ _ _ us hl => match us, hl with | [_, _], _ => rfl)
  have CL : Mt P w K mg base C "clash" 4 ["self", "x", "y"] (spCl C CT) := mCL.mt c (fun f fd F => ok_cl F TW CHt) (fun _ _ _ _ _ _ us hl => match us, hl with | [_, _, _], _ => rfl)
  have EQ : Mt P w K mg base C "__eq__" 1 ["self", "other"] (spEqW C) := mEQ.mt c (fun f fd F => ok_eqw F B T gW) (fun _ _ _ _ _ _ us hl => match us, hl with | [_, _], _ => rfl)
  have LN : Mt P w K mg base C "__len__" 1 ["self"] (spLn C) := mLN.mt c (fun f fd F => ok_ln F B TW) (fun _ _ _ _ _ _ us hl => match us, hl with | [_], _ => rfl)
  have IV : Mt P w K mg base C "__invert__" 6 ["self"] (spIv K C) := mIV.mt c (fun f fd F => ok_iv F B TW WK AP CL) (fun _ _ _ _ _ _ us hl => match us, hl with | [_], _ => rfl)
  have AD : Mt P w K mg base C "__add__" 6 ["self", "other"] (spAd K C) := mAD.mt c (fun f fd F => ok_ad F B T gW WK SHf) (fun _ _ _ _ _ _ us hl => match us, hl with | [_, _], _ => rfl)
  have MU : Mt P w K mg base C "__mul__" 6 ["self", "other"] (spMu K C) := mMU.mt c (fun f fd F => ok_mu F B T gW WK SHf) (fun _ _ _ _ _ _ us hl => match us, hl with | [_, _], _ => rfl)
  have FU : Cm P w K mg base C "full" 6 (spFu K C) := by
    obtain ⟨fd, F⟩ := u4.ex
    exact ⟨_, pu, gu, ⟨c1, c2⟩, ⟨u1, ⟨ru, u2⟩, u3⟩, raw0 (ok_fu F WK CNum AP) (F.binds (ps := ["cls", "many"]) (fun _ _ _ _ _ _ us hl => match us, hl with | [_, _], _ => rfl))⟩
  have BA : Cm P w K mg base C "bare" 6 (spBa K C) := by
    obtain ⟨fd, F⟩ := b4.ex
    exact ⟨_, pb, gb, ⟨c1, c2⟩, ⟨b1, ⟨rb, b2⟩, b3⟩, raw0 (ok_ba F WK) (F.binds (ps := ["cls", "many"]) (fun _ _ _ _ _ _ us hl => match us, hl with | [_, _], _ => rfl))⟩
  have BE : DfR P w K mg base "beside" 7 (spBe C) := by
    obtain ⟨f, fd, e, F⟩ := dBE.ex
    exact ⟨f, PySem.W.mg_of X G e, F.kp, ok_be F sf AD⟩
  have JO : DfR P w K mg base "joined" 7 (spJo C) := by
    obtain ⟨f, fd, e, F⟩ := dJO.ex
    exact ⟨f, PySem.W.mg_of X G e, F.kp, ok_jo F sf MU⟩
  have FN : Df P w K mg base "first_numbers" 1 ["webs"] (spFn C) := dFN.df X G (fun f fd F => ok_fn F B3 TW) (fun _ _ _ _ _ _ us hl => match us, hl with | [_], _ => rfl)
  have PI : Df P w K mg base "put_in" 6 ["outer", "webs"] (spPi K C CN) := dPI.df X G (fun f fd F => ok_pi F B3 TW WK eNR FN SHf) (fun _ _ _ _ _ _ us hl => match us, hl with | [_, _], _ => rfl)
  have TO : Df P w K mg base "thing_of" 4 ["webs", "thing"] (spTo C CN CS) := dTO.df X G (fun f fd F => ok_to F B3 TW CNum eSR) (fun _ _ _ _ _ _ us hl => match us, hl with | [_, _], _ => rfl)
  have NO : Df P w K mg base "number_of" 4 ["webs", "v", "h"] (spNo C CT) := dNO.df X G (fun f fd F => ok_no F B3 TW TH CHt FN eTR) (fun _ _ _ _ _ _ us hl => match us, hl with | [_, _, _], _ => rfl)
  have RF : Df P w K mg base "rows_of_four" 2 ["web"] (spRf C) := dRF.df X G (fun f fd F => ok_rf F B3 TW TI) (fun _ _ _ _ _ _ us hl => match us, hl with | [_], _ => rfl)
  have DR : Df P w K mg base "_law_draws" 1 ["_law_script"] (spDr K) := dDR.df X G (fun f fd F => ok_dr F B) (fun _ _ _ _ _ _ us hl => match us, hl with | [_], _ => rfl)
  have TK : Df P w K mg base "_law_take" 1 ["_law_draws_here", "_law_many"] (spTk) := dTK.df X G (fun f fd F => ok_tk F B) (fun _ _ _ _ _ _ us hl => match us, hl with | [_, _], _ => rfl)
  have LI : Df P w K mg base "_law_int" 1 ["_law_value"] (spInt) := dLI.df X G (fun f fd F => ok_li F B) (fun _ _ _ _ _ _ us hl => match us, hl with | [_], _ => rfl)
  have CK : Df P w K mg base "_law_clash" 2 ["_law_pairs", "_law_x", "_law_y"] (spCk) := dCK.df X G (fun f fd F => ok_ck F B) (fun _ _ _ _ _ _ us hl => match us, hl with | [_, _, _], _ => rfl)
  have NE : Df P w K mg base "_law_near" 2 ["_law_many", "_law_pairs", "_law_x"] (spNe) := dNE.df X G (fun f fd F => ok_ne F B) (fun _ _ _ _ _ _ us hl => match us, hl with | [_, _, _], _ => rfl)
  have LNe : Df P w K mg base "_law_line" 1 ["_law_many"] (spLine) := dLN.df X G (fun f fd F => ok_ln' F B) (fun _ _ _ _ _ _ us hl => match us, hl with | [_], _ => rfl)
  have RG : Df P w K mg base "_law_ring" 1 ["_law_many"] (spRing) := dRG.df X G (fun f fd F => ok_rg F B) (fun _ _ _ _ _ _ us hl => match us, hl with | [_], _ => rfl)
  have LQ : Df P w K mg base "_law_quads" 3 ["_law_many", "_law_pairs"] (spLq) := dLQ.df X G (fun f fd F => ok_lq F B3 NE CK) (fun _ _ _ _ _ _ us hl => match us, hl with | [_, _], _ => rfl)
  have RI : Df P w K mg base "_law_row_is" 2 ["_law_told", "_law_due"] (spRi) := dRI.df X G (fun f fd F => ok_ri F B LI) (fun _ _ _ _ _ _ us hl => match us, hl with | [_, _], _ => rfl)
  have RW : Df P w K mg base "_law_rows_are" 3 ["_law_told", "_law_due"] (spRw) := dRR.df X G (fun f fd F => ok_rw F B RI) (fun _ _ _ _ _ _ us hl => match us, hl with | [_, _], _ => rfl)
  have RR : Df P w K mg base "_law_rows_are" 3 ["_law_told", "_law_due"] (spRr) := dRR.df X G (fun f fd F => ok_rr (ok_rw F B RI)) (fun _ _ _ _ _ _ us hl => match us, hl with | [_, _], _ => rfl)
  have WI : Df P w K mg base "_law_web_is" 4 ["_law_web", "_law_many", "_law_pairs"] (spWis C) := dWI.df X G (fun f fd F => ok_wis F B T gW LI RR LN) (fun _ _ _ _ _ _ us hl => match us, hl with | [_, _, _], _ => rfl)
  have DU : Df P w K mg base "_law_is_due" 2 ["_law_told", "_law_due"] (spDu) := dDU.df X G (fun f fd F => ok_du F LI) (fun _ _ _ _ _ _ us hl => match us, hl with | [_, _], _ => rfl)
  have SY : Df P w K mg base "_law_says" 1 ["_law_told", "_law_due"] (spSy) := dSY.df X G (fun f fd F => ok_sy F B) (fun _ _ _ _ _ _ us hl => match us, hl with | [_, _], _ => rfl)
  have WD : Df P w K mg base "_law_web_drawn" 2 ["_law_draws_here", "_law_most"] (spWd) := dWD.df X G (fun f fd F => ok_wd F B TK) (fun _ _ _ _ _ _ us hl => match us, hl with | [_, _], _ => rfl)
  have TN : Df P w K mg base "_law_try_number" 8 ["_law_deed", "_law_outer_here", "_law_webs", "_law_v", "_law_h"] (spTn C) := dTN.df X G (fun f fd F => ok_tn F B3 L N TO NO PI (CW := CW)) (fun _ _ _ _ _ _ us hl => match us, hl with | [_, _, _, _, _], _ => rfl)
  have OU : Df P w K mg base "_law_outer" 3 ["_law_draws_here"] (spOu) := dOU.df X G (fun f fd F => ok_ou F B3 TK WD LNe RG) (fun _ _ _ _ _ _ us hl => match us, hl with | [_], _ => rfl)
  have IN : Df P w K mg base "_law_inner" 2 ["_law_draws_here", "_law_small"] (spInn) := dIN.df X G (fun f fd F => ok_inn F B3 TK LNe) (fun _ _ _ _ _ _ us hl => match us, hl with | [_, _], _ => rfl)
  have IS : Df P w K mg base "_law_inners" 3 ["_law_draws_here", "_law_many"] (spIns) := dIS.df X G (fun f fd F => ok_ins F B3 IN) (fun _ _ _ _ _ _ us hl => match us, hl with | [_, _], _ => rfl)
  have FS : Df P w K mg base "_law_firsts" 1 ["_law_inners_here"] (spFs) := dFS.df X G (fun f fd F => ok_fs F B3) (fun _ _ _ _ _ _ us hl => match us, hl with | [_], _ => rfl)
  have PT : Df P w K mg base "_law_put" 2 ["_law_outer_here", "_law_inners_here"] (spPut) := dPT.df X G (fun f fd F => ok_pt F B3 FS) (fun _ _ _ _ _ _ us hl => match us, hl with | [_, _], _ => rfl)
  have PR : Df P w K mg base "_law_put_rows" 4 ["_law_outer_here", "_law_inners_here"] (spPr) := dPR.df X G (fun f fd F => ok_pr F B3 FS LQ) (fun _ _ _ _ _ _ us hl => match us, hl with | [_, _], _ => rfl)
  have NB : Df P w K mg base "_law_numbers" 9 ["_law_webs", "_law_inners_here"] (spNb C) := dNB.df X G (fun f fd F => ok_nb F B3 FS RI DU TO NO TN) (fun _ _ _ _ _ _ us hl => match us, hl with | [_, _], _ => rfl)
  have S : Sds P w K mg base C CN CW := ⟨gW, T, WK, EQ, PI, WI, SY, PT⟩
  have SP : Df P w K mg base "_law_sides_put" 9 ["_law_webs", "_law_inners_here"] (spSp C) := dSP.df X G (fun f fd F => ok_sp F B3 S BA FU BE JO) (fun _ _ _ _ _ _ us hl => match us, hl with | [_, _], _ => rfl)
  exact ok_lw Fl B3 S DR OU IS RF RW PR IV TN NB SP
theorem walk {l : PySem.W.OpenLaw} {q : Program} {loose : List Str} {XP : (Str → Option Value) → Heap → Prop} {YP : World → Heap → Prop} {d : DefRec} {K : Params → PySem.W.Frag} (hn : l.most = some 63) (hdf : d.params.defaults = [])
    (hY : ∀ (w : World) (h : Heap), YP w h → (K w.params).In h)
    (F : ∀ (w : World) (mg : Str → Option Value) (fa : Addr) (h : Heap), (K w.params).In h → h.Ns mainGlobals mg → mg d.name = some (.ref fa) →
      ∃ fd : FuncData, (∀ (s : Shared) (u : Value), BindsTo s fd ⟨[u], []⟩ [("_law_script", u)]) ∧ ∀ base : Heap, (K w.params).In base → base.Ns mainGlobals mg → FnOk l.prog w (K w.params) mg base (L2.CX l.prog w) 10 fa fd ["_law_script"] (spLw (K w.params))) :
    PySem.W.WalkO q loose XP YP l.row.toRowW d [] (fun f vs => PySem.call f vs) :=
  L2.walk_of (n := 63) (k := 10) (x := "_law_script") (CX := fun w => L2.CX l.prog w) (sp := fun w => spLw (K w.params)) hn (by decide) hdf ⟨rfl, by decide, by decide⟩ hY F (fun _ _ a ns _ _ hS => ⟨a, ns, rfl, hS, fun _ => rfl⟩)
    fun _ _ _ _ _ z => by
      obtain ⟨_, _, _, _, _, _, _, _, _, _, _, _, z⟩ := z
      exact z
end K0
set_option Elab.async false
set_option maxRecDepth 100000
set_option pp.maxSteps 400
set_option pp.deepTerms false
set_option pp.proofs false
open PySem PySem.W PyProof.Rows
set_option maxRecDepth 100000 in
set_option maxHeartbeats 0 in
theorem PySem.Challenge.cw_perfectorders_k04_webs_put_in_holds : PySem.Challenge.rw_perfectorders_k04_webs_put_in.Holds := by
  w_on; o_law; k_head; (case hw => w_witness2)
  k_fill
  refine K0.walk (l := PySem.Challenge.rw_perfectorders_k04_webs_put_in) rfl rfl (fun w h Y => PySem.W.kIn_of Y) ?F
  case F =>
    intro w mg fa h KX G hmg
    refine' K0.all_mk KX G hmg ?eN ?eW ?eT ?eS ?aO ?snn ?stn ?stt ?ssn ?sst ?sss ?aC ?pg ?hd ?po ?sa ?nm ?nc ?nk ?mk ?kC ?ha ?hn ?tk ?hm ?tC ?t0 ?t1 ?t2 ?t3 ?t4 ?t5 ?q0 ?q1 ?sf ?i1 ?i2 ?i3 ?i4 ?n1 ?n3 ?c1 ?c2 ?u1 ?u2 ?u3 ?u4 ?b1 ?b2 ?b3 ?b4 ?mCL ?mEQ ?mLN ?mIV ?mAD ?mMU ?z0 ?z1 ?z2 ?z3 ?z4 ?z5 ?z6 ?z7 ?z8 ?z9 ?z10 ?z11 ?z12 ?z13 ?z14 ?z15 ?dII ?dIP ?dTH ?dCT ?dTI ?dNM ?dCC ?dAP ?dSH ?dBE ?dJO ?dFN ?dPI ?dTO ?dNO ?dRF ?dDR ?dTK ?dLI ?dCK ?dNE ?dLN ?dRG ?dLQ ?dRI ?dRR ?dWI ?dDU ?dSY ?dWD ?dTN ?dOU ?dIN ?dIS ?dFS ?dPT ?dPR ?dNB ?dSP ?dLW
    (case eN => (refine' K0.eg_mk ?eN_g ?eN_xl ?eN_xe ?eN_xb ?eN_sa ?eN_ga ?eN_gg ?eN_ex ?eN_ty ?eN_kc ?eN_hd ?eN_no ?eN_i ?eN_t ?eN_l ?eN_e ?eN_e1 ?eN_e2 ?eN_e3 ?eN_c ?eN_k; (case eN_g => k_is); (case eN_xl => k_is); (case eN_xe => exact rfl); (case eN_xb => decide +kernel); (case eN_sa => k_is); (case eN_ga => k_is); (case eN_gg => k_is); (case eN_ex => k_is); (case eN_ty => k_is); (case eN_kc => k_is); (case eN_hd => k_is); (case eN_no => (intro f hf; (repeat (first | (cases hf; done) | (rcases List.mem_cons.mp hf with rfl | hf; k_is))))); (case eN_i => k_is); (case eN_t => k_is); (case eN_l => k_is); (case eN_e => exact rfl); (case eN_e1 => exact rfl); (case eN_e2 => exact rfl); (case eN_e3 => exact rfl); (case eN_c => k_is); (case eN_k => k_is)))
    (case eW => (refine' K0.eg_mk ?eW_g ?eW_xl ?eW_xe ?eW_xb ?eW_sa ?eW_ga ?eW_gg ?eW_ex ?eW_ty ?eW_kc ?eW_hd ?eW_no ?eW_i ?eW_t ?eW_l ?eW_e ?eW_e1 ?eW_e2 ?eW_e3 ?eW_c ?eW_k; (case eW_g => k_is); (case eW_xl => k_is); (case eW_xe => exact rfl); (case eW_xb => decide +kernel); (case eW_sa => k_is); (case eW_ga => k_is); (case eW_gg => k_is); (case eW_ex => k_is); (case eW_ty => k_is); (case eW_kc => k_is); (case eW_hd => k_is); (case eW_no => (intro f hf; (repeat (first | (cases hf; done) | (rcases List.mem_cons.mp hf with rfl | hf; k_is))))); (case eW_i => k_is); (case eW_t => k_is); (case eW_l => k_is); (case eW_e => exact rfl); (case eW_e1 => exact rfl); (case eW_e2 => exact rfl); (case eW_e3 => exact rfl); (case eW_c => k_is); (case eW_k => k_is)))
    (case eT => (refine' K0.eg_mk ?eT_g ?eT_xl ?eT_xe ?eT_xb ?eT_sa ?eT_ga ?eT_gg ?eT_ex ?eT_ty ?eT_kc ?eT_hd ?eT_no ?eT_i ?eT_t ?eT_l ?eT_e ?eT_e1 ?eT_e2 ?eT_e3 ?eT_c ?eT_k; (case eT_g => k_is); (case eT_xl => k_is); (case eT_xe => exact rfl); (case eT_xb => decide +kernel); (case eT_sa => k_is); (case eT_ga => k_is); (case eT_gg => k_is); (case eT_ex => k_is); (case eT_ty => k_is); (case eT_kc => k_is); (case eT_hd => k_is); (case eT_no => (intro f hf; (repeat (first | (cases hf; done) | (rcases List.mem_cons.mp hf with rfl | hf; k_is))))); (case eT_i => k_is); (case eT_t => k_is); (case eT_l => k_is); (case eT_e => exact rfl); (case eT_e1 => exact rfl); (case eT_e2 => exact rfl); (case eT_e3 => exact rfl); (case eT_c => k_is); (case eT_k => k_is)))
    (case eS => (refine' K0.eg_mk ?eS_g ?eS_xl ?eS_xe ?eS_xb ?eS_sa ?eS_ga ?eS_gg ?eS_ex ?eS_ty ?eS_kc ?eS_hd ?eS_no ?eS_i ?eS_t ?eS_l ?eS_e ?eS_e1 ?eS_e2 ?eS_e3 ?eS_c ?eS_k; (case eS_g => k_is); (case eS_xl => k_is); (case eS_xe => exact rfl); (case eS_xb => decide +kernel); (case eS_sa => k_is); (case eS_ga => k_is); (case eS_gg => k_is); (case eS_ex => k_is); (case eS_ty => k_is); (case eS_kc => k_is); (case eS_hd => k_is); (case eS_no => (intro f hf; (repeat (first | (cases hf; done) | (rcases List.mem_cons.mp hf with rfl | hf; k_is))))); (case eS_i => k_is); (case eS_t => k_is); (case eS_l => k_is); (case eS_e => exact rfl); (case eS_e1 => exact rfl); (case eS_e2 => exact rfl); (case eS_e3 => exact rfl); (case eS_c => k_is); (case eS_k => k_is)))
    (case aO => k_is)
    (case snn => first | k_is | rfl)
    (case stn => first | k_is | rfl)
    (case stt => first | k_is | rfl)
    (case ssn => first | k_is | rfl)
    (case sst => first | k_is | rfl)
    (case sss => first | k_is | rfl)
    (case aC => k_is)
    (case pg => k_is)
    (case hd => k_is)
    (case po => k_is)
    (case sa => k_is)
    (case nm => k_is)
    (case nc => k_is)
    (case nk => k_is)
    (case mk => k_is)
    (case kC => k_is)
    (case ha => k_is)
    (case hn => k_is)
    (case tk => k_is)
    (case hm => k_is)
    (case tC => k_is)
    (case t0 => k_is)
    (case t1 => k_is)
    (case t2 => k_is)
    (case t3 => k_is)
    (case t4 => k_is)
    (case t5 => k_is)
    (case q0 => k_is)
    (case q1 => k_is)
    (case sf => k_is)
    (case i1 => k_is)
    (case i2 => k_is)
    (case i3 => (refine' K0.xg_mk ?i3_l ?i3_e ?i3_e1 ?i3_e2 ?i3_e3 ?i3_c ?i3_k ?i3_d ?i3_t ?i3_y ?i3_r; (case i3_l => k_is); (case i3_e => exact rfl); (case i3_e1 => exact rfl); (case i3_e2 => exact rfl); (case i3_e3 => exact rfl); (case i3_c => k_is); (case i3_k => k_is); (case i3_d => exact rfl); (case i3_t => k_is); (case i3_y => exact rfl); (case i3_r => first | exact .cons rfl .nil | exact .cons ⟨_, rfl⟩ .nil)))
    (case i4 => (refine' K0.em_mk ?i4_l ?i4_x ?i4_y ?i4_z; (case i4_l => k_is); (case i4_x => exact rfl); (case i4_y => exact rfl); (case i4_z => exact rfl)))
    (case n1 => k_is)
    (case n3 => (refine' K0.xg_mk ?n3_l ?n3_e ?n3_e1 ?n3_e2 ?n3_e3 ?n3_c ?n3_k ?n3_d ?n3_t ?n3_y ?n3_r; (case n3_l => k_is); (case n3_e => exact rfl); (case n3_e1 => exact rfl); (case n3_e2 => exact rfl); (case n3_e3 => exact rfl); (case n3_c => k_is); (case n3_k => k_is); (case n3_d => exact rfl); (case n3_t => k_is); (case n3_y => exact rfl); (case n3_r => first | exact .cons rfl .nil | exact .cons ⟨_, rfl⟩ .nil)))
    (case c1 => k_is)
    (case c2 => k_is)
    (case u1 => k_is)
    (case u2 => k_is)
    (case u3 => k_is)
    (case u4 => (refine' K0.pg_mk ?u4_l ?u4_e ?u4_e1 ?u4_e2 ?u4_e3 ?u4_c ?u4_k; (case u4_l => k_is); (case u4_e => exact rfl); (case u4_e1 => exact rfl); (case u4_e2 => exact rfl); (case u4_e3 => exact rfl); (case u4_c => k_is); (case u4_k => k_is)))
    (case b1 => k_is)
    (case b2 => k_is)
    (case b3 => k_is)
    (case b4 => (refine' K0.pg_mk ?b4_l ?b4_e ?b4_e1 ?b4_e2 ?b4_e3 ?b4_c ?b4_k; (case b4_l => k_is); (case b4_e => exact rfl); (case b4_e1 => exact rfl); (case b4_e2 => exact rfl); (case b4_e3 => exact rfl); (case b4_c => k_is); (case b4_k => k_is)))
    (case mCL => (refine' K0.mg_mk ?mCL_a ?mCL_i ?mCL_n ?mCL_l ?mCL_e ?mCL_e1 ?mCL_e2 ?mCL_e3 ?mCL_c ?mCL_k; (case mCL_a => k_is); (case mCL_i => k_is); (case mCL_n => k_is); (case mCL_l => k_is); (case mCL_e => exact rfl); (case mCL_e1 => exact rfl); (case mCL_e2 => exact rfl); (case mCL_e3 => exact rfl); (case mCL_c => k_is); (case mCL_k => k_is)))
    (case mEQ => (refine' K0.mg_mk ?mEQ_a ?mEQ_i ?mEQ_n ?mEQ_l ?mEQ_e ?mEQ_e1 ?mEQ_e2 ?mEQ_e3 ?mEQ_c ?mEQ_k; (case mEQ_a => k_is); (case mEQ_i => k_is); (case mEQ_n => k_is); (case mEQ_l => k_is); (case mEQ_e => exact rfl); (case mEQ_e1 => exact rfl); (case mEQ_e2 => exact rfl); (case mEQ_e3 => exact rfl); (case mEQ_c => k_is); (case mEQ_k => k_is)))
    (case mLN => (refine' K0.mg_mk ?mLN_a ?mLN_i ?mLN_n ?mLN_l ?mLN_e ?mLN_e1 ?mLN_e2 ?mLN_e3 ?mLN_c ?mLN_k; (case mLN_a => k_is); (case mLN_i => k_is); (case mLN_n => k_is); (case mLN_l => k_is); (case mLN_e => exact rfl); (case mLN_e1 => exact rfl); (case mLN_e2 => exact rfl); (case mLN_e3 => exact rfl); (case mLN_c => k_is); (case mLN_k => k_is)))
    (case mIV => (refine' K0.mg_mk ?mIV_a ?mIV_i ?mIV_n ?mIV_l ?mIV_e ?mIV_e1 ?mIV_e2 ?mIV_e3 ?mIV_c ?mIV_k; (case mIV_a => k_is); (case mIV_i => k_is); (case mIV_n => k_is); (case mIV_l => k_is); (case mIV_e => exact rfl); (case mIV_e1 => exact rfl); (case mIV_e2 => exact rfl); (case mIV_e3 => exact rfl); (case mIV_c => k_is); (case mIV_k => k_is)))
    (case mAD => (refine' K0.mg_mk ?mAD_a ?mAD_i ?mAD_n ?mAD_l ?mAD_e ?mAD_e1 ?mAD_e2 ?mAD_e3 ?mAD_c ?mAD_k; (case mAD_a => k_is); (case mAD_i => k_is); (case mAD_n => k_is); (case mAD_l => k_is); (case mAD_e => exact rfl); (case mAD_e1 => exact rfl); (case mAD_e2 => exact rfl); (case mAD_e3 => exact rfl); (case mAD_c => k_is); (case mAD_k => k_is)))
    (case mMU => (refine' K0.mg_mk ?mMU_a ?mMU_i ?mMU_n ?mMU_l ?mMU_e ?mMU_e1 ?mMU_e2 ?mMU_e3 ?mMU_c ?mMU_k; (case mMU_a => k_is); (case mMU_i => k_is); (case mMU_n => k_is); (case mMU_l => k_is); (case mMU_e => exact rfl); (case mMU_e1 => exact rfl); (case mMU_e2 => exact rfl); (case mMU_e3 => exact rfl); (case mMU_c => k_is); (case mMU_k => k_is)))
    (case z0 => k_is)
    (case z1 => k_is)
    (case z2 => k_is)
    (case z3 => k_is)
    (case z4 => k_is)
    (case z5 => k_is)
    (case z6 => k_is)
    (case z7 => k_is)
    (case z8 => k_is)
    (case z9 => k_is)
    (case z10 => k_is)
    (case z11 => k_is)
    (case z12 => k_is)
    (case z13 => k_is)
    (case z14 => k_is)
    (case z15 => k_is)
    (case dII => (refine' K0.dg_mk ?dII_a ?dII_l ?dII_e ?dII_e1 ?dII_e2 ?dII_e3 ?dII_c ?dII_k; (case dII_a => k_is); (case dII_l => k_is); (case dII_e => exact rfl); (case dII_e1 => exact rfl); (case dII_e2 => exact rfl); (case dII_e3 => exact rfl); (case dII_c => k_is); (case dII_k => k_is)))
    (case dIP => (refine' K0.dg_mk ?dIP_a ?dIP_l ?dIP_e ?dIP_e1 ?dIP_e2 ?dIP_e3 ?dIP_c ?dIP_k; (case dIP_a => k_is); (case dIP_l => k_is); (case dIP_e => exact rfl); (case dIP_e1 => exact rfl); (case dIP_e2 => exact rfl); (case dIP_e3 => exact rfl); (case dIP_c => k_is); (case dIP_k => k_is)))
    (case dTH => (refine' K0.dg_mk ?dTH_a ?dTH_l ?dTH_e ?dTH_e1 ?dTH_e2 ?dTH_e3 ?dTH_c ?dTH_k; (case dTH_a => k_is); (case dTH_l => k_is); (case dTH_e => exact rfl); (case dTH_e1 => exact rfl); (case dTH_e2 => exact rfl); (case dTH_e3 => exact rfl); (case dTH_c => k_is); (case dTH_k => k_is)))
    (case dCT => (refine' K0.dg_mk ?dCT_a ?dCT_l ?dCT_e ?dCT_e1 ?dCT_e2 ?dCT_e3 ?dCT_c ?dCT_k; (case dCT_a => k_is); (case dCT_l => k_is); (case dCT_e => exact rfl); (case dCT_e1 => exact rfl); (case dCT_e2 => exact rfl); (case dCT_e3 => exact rfl); (case dCT_c => k_is); (case dCT_k => k_is)))
    (case dTI => (refine' K0.dg_mk ?dTI_a ?dTI_l ?dTI_e ?dTI_e1 ?dTI_e2 ?dTI_e3 ?dTI_c ?dTI_k; (case dTI_a => k_is); (case dTI_l => k_is); (case dTI_e => exact rfl); (case dTI_e1 => exact rfl); (case dTI_e2 => exact rfl); (case dTI_e3 => exact rfl); (case dTI_c => k_is); (case dTI_k => k_is)))
    (case dNM => (refine' K0.dg_mk ?dNM_a ?dNM_l ?dNM_e ?dNM_e1 ?dNM_e2 ?dNM_e3 ?dNM_c ?dNM_k; (case dNM_a => k_is); (case dNM_l => k_is); (case dNM_e => exact rfl); (case dNM_e1 => exact rfl); (case dNM_e2 => exact rfl); (case dNM_e3 => exact rfl); (case dNM_c => k_is); (case dNM_k => k_is)))
    (case dCC => (refine' K0.dg_mk ?dCC_a ?dCC_l ?dCC_e ?dCC_e1 ?dCC_e2 ?dCC_e3 ?dCC_c ?dCC_k; (case dCC_a => k_is); (case dCC_l => k_is); (case dCC_e => exact rfl); (case dCC_e1 => exact rfl); (case dCC_e2 => exact rfl); (case dCC_e3 => exact rfl); (case dCC_c => k_is); (case dCC_k => k_is)))
    (case dAP => (refine' K0.dg_mk ?dAP_a ?dAP_l ?dAP_e ?dAP_e1 ?dAP_e2 ?dAP_e3 ?dAP_c ?dAP_k; (case dAP_a => k_is); (case dAP_l => k_is); (case dAP_e => exact rfl); (case dAP_e1 => exact rfl); (case dAP_e2 => exact rfl); (case dAP_e3 => exact rfl); (case dAP_c => k_is); (case dAP_k => k_is)))
    (case dSH => (refine' K0.dg_mk ?dSH_a ?dSH_l ?dSH_e ?dSH_e1 ?dSH_e2 ?dSH_e3 ?dSH_c ?dSH_k; (case dSH_a => k_is); (case dSH_l => k_is); (case dSH_e => exact rfl); (case dSH_e1 => exact rfl); (case dSH_e2 => exact rfl); (case dSH_e3 => exact rfl); (case dSH_c => k_is); (case dSH_k => k_is)))
    (case dBE => (refine' K0.dg_mk ?dBE_a ?dBE_l ?dBE_e ?dBE_e1 ?dBE_e2 ?dBE_e3 ?dBE_c ?dBE_k; (case dBE_a => k_is); (case dBE_l => k_is); (case dBE_e => exact rfl); (case dBE_e1 => exact rfl); (case dBE_e2 => exact rfl); (case dBE_e3 => exact rfl); (case dBE_c => k_is); (case dBE_k => k_is)))
    (case dJO => (refine' K0.dg_mk ?dJO_a ?dJO_l ?dJO_e ?dJO_e1 ?dJO_e2 ?dJO_e3 ?dJO_c ?dJO_k; (case dJO_a => k_is); (case dJO_l => k_is); (case dJO_e => exact rfl); (case dJO_e1 => exact rfl); (case dJO_e2 => exact rfl); (case dJO_e3 => exact rfl); (case dJO_c => k_is); (case dJO_k => k_is)))
    (case dFN => (refine' K0.dg_mk ?dFN_a ?dFN_l ?dFN_e ?dFN_e1 ?dFN_e2 ?dFN_e3 ?dFN_c ?dFN_k; (case dFN_a => k_is); (case dFN_l => k_is); (case dFN_e => exact rfl); (case dFN_e1 => exact rfl); (case dFN_e2 => exact rfl); (case dFN_e3 => exact rfl); (case dFN_c => k_is); (case dFN_k => k_is)))
    (case dPI => (refine' K0.dg_mk ?dPI_a ?dPI_l ?dPI_e ?dPI_e1 ?dPI_e2 ?dPI_e3 ?dPI_c ?dPI_k; (case dPI_a => k_is); (case dPI_l => k_is); (case dPI_e => exact rfl); (case dPI_e1 => exact rfl); (case dPI_e2 => exact rfl); (case dPI_e3 => exact rfl); (case dPI_c => k_is); (case dPI_k => k_is)))
    (case dTO => (refine' K0.dg_mk ?dTO_a ?dTO_l ?dTO_e ?dTO_e1 ?dTO_e2 ?dTO_e3 ?dTO_c ?dTO_k; (case dTO_a => k_is); (case dTO_l => k_is); (case dTO_e => exact rfl); (case dTO_e1 => exact rfl); (case dTO_e2 => exact rfl); (case dTO_e3 => exact rfl); (case dTO_c => k_is); (case dTO_k => k_is)))
    (case dNO => (refine' K0.dg_mk ?dNO_a ?dNO_l ?dNO_e ?dNO_e1 ?dNO_e2 ?dNO_e3 ?dNO_c ?dNO_k; (case dNO_a => k_is); (case dNO_l => k_is); (case dNO_e => exact rfl); (case dNO_e1 => exact rfl); (case dNO_e2 => exact rfl); (case dNO_e3 => exact rfl); (case dNO_c => k_is); (case dNO_k => k_is)))
    (case dRF => (refine' K0.dg_mk ?dRF_a ?dRF_l ?dRF_e ?dRF_e1 ?dRF_e2 ?dRF_e3 ?dRF_c ?dRF_k; (case dRF_a => k_is); (case dRF_l => k_is); (case dRF_e => exact rfl); (case dRF_e1 => exact rfl); (case dRF_e2 => exact rfl); (case dRF_e3 => exact rfl); (case dRF_c => k_is); (case dRF_k => k_is)))
    (case dDR => (refine' K0.dg_mk ?dDR_a ?dDR_l ?dDR_e ?dDR_e1 ?dDR_e2 ?dDR_e3 ?dDR_c ?dDR_k; (case dDR_a => k_is); (case dDR_l => k_is); (case dDR_e => exact rfl); (case dDR_e1 => exact rfl); (case dDR_e2 => exact rfl); (case dDR_e3 => exact rfl); (case dDR_c => k_is); (case dDR_k => k_is)))
    (case dTK => (refine' K0.dg_mk ?dTK_a ?dTK_l ?dTK_e ?dTK_e1 ?dTK_e2 ?dTK_e3 ?dTK_c ?dTK_k; (case dTK_a => k_is); (case dTK_l => k_is); (case dTK_e => exact rfl); (case dTK_e1 => exact rfl); (case dTK_e2 => exact rfl); (case dTK_e3 => exact rfl); (case dTK_c => k_is); (case dTK_k => k_is)))
    (case dLI => (refine' K0.dg_mk ?dLI_a ?dLI_l ?dLI_e ?dLI_e1 ?dLI_e2 ?dLI_e3 ?dLI_c ?dLI_k; (case dLI_a => k_is); (case dLI_l => k_is); (case dLI_e => exact rfl); (case dLI_e1 => exact rfl); (case dLI_e2 => exact rfl); (case dLI_e3 => exact rfl); (case dLI_c => k_is); (case dLI_k => k_is)))
    (case dCK => (refine' K0.dg_mk ?dCK_a ?dCK_l ?dCK_e ?dCK_e1 ?dCK_e2 ?dCK_e3 ?dCK_c ?dCK_k; (case dCK_a => k_is); (case dCK_l => k_is); (case dCK_e => exact rfl); (case dCK_e1 => exact rfl); (case dCK_e2 => exact rfl); (case dCK_e3 => exact rfl); (case dCK_c => k_is); (case dCK_k => k_is)))
    (case dNE => (refine' K0.dg_mk ?dNE_a ?dNE_l ?dNE_e ?dNE_e1 ?dNE_e2 ?dNE_e3 ?dNE_c ?dNE_k; (case dNE_a => k_is); (case dNE_l => k_is); (case dNE_e => exact rfl); (case dNE_e1 => exact rfl); (case dNE_e2 => exact rfl); (case dNE_e3 => exact rfl); (case dNE_c => k_is); (case dNE_k => k_is)))
    (case dLN => (refine' K0.dg_mk ?dLN_a ?dLN_l ?dLN_e ?dLN_e1 ?dLN_e2 ?dLN_e3 ?dLN_c ?dLN_k; (case dLN_a => k_is); (case dLN_l => k_is); (case dLN_e => exact rfl); (case dLN_e1 => exact rfl); (case dLN_e2 => exact rfl); (case dLN_e3 => exact rfl); (case dLN_c => k_is); (case dLN_k => k_is)))
    (case dRG => (refine' K0.dg_mk ?dRG_a ?dRG_l ?dRG_e ?dRG_e1 ?dRG_e2 ?dRG_e3 ?dRG_c ?dRG_k; (case dRG_a => k_is); (case dRG_l => k_is); (case dRG_e => exact rfl); (case dRG_e1 => exact rfl); (case dRG_e2 => exact rfl); (case dRG_e3 => exact rfl); (case dRG_c => k_is); (case dRG_k => k_is)))
    (case dLQ => (refine' K0.dg_mk ?dLQ_a ?dLQ_l ?dLQ_e ?dLQ_e1 ?dLQ_e2 ?dLQ_e3 ?dLQ_c ?dLQ_k; (case dLQ_a => k_is); (case dLQ_l => k_is); (case dLQ_e => exact rfl); (case dLQ_e1 => exact rfl); (case dLQ_e2 => exact rfl); (case dLQ_e3 => exact rfl); (case dLQ_c => k_is); (case dLQ_k => k_is)))
    (case dRI => (refine' K0.dg_mk ?dRI_a ?dRI_l ?dRI_e ?dRI_e1 ?dRI_e2 ?dRI_e3 ?dRI_c ?dRI_k; (case dRI_a => k_is); (case dRI_l => k_is); (case dRI_e => exact rfl); (case dRI_e1 => exact rfl); (case dRI_e2 => exact rfl); (case dRI_e3 => exact rfl); (case dRI_c => k_is); (case dRI_k => k_is)))
    (case dRR => (refine' K0.dg_mk ?dRR_a ?dRR_l ?dRR_e ?dRR_e1 ?dRR_e2 ?dRR_e3 ?dRR_c ?dRR_k; (case dRR_a => k_is); (case dRR_l => k_is); (case dRR_e => exact rfl); (case dRR_e1 => exact rfl); (case dRR_e2 => exact rfl); (case dRR_e3 => exact rfl); (case dRR_c => k_is); (case dRR_k => k_is)))
    (case dWI => (refine' K0.dg_mk ?dWI_a ?dWI_l ?dWI_e ?dWI_e1 ?dWI_e2 ?dWI_e3 ?dWI_c ?dWI_k; (case dWI_a => k_is); (case dWI_l => k_is); (case dWI_e => exact rfl); (case dWI_e1 => exact rfl); (case dWI_e2 => exact rfl); (case dWI_e3 => exact rfl); (case dWI_c => k_is); (case dWI_k => k_is)))
    (case dDU => (refine' K0.dg_mk ?dDU_a ?dDU_l ?dDU_e ?dDU_e1 ?dDU_e2 ?dDU_e3 ?dDU_c ?dDU_k; (case dDU_a => k_is); (case dDU_l => k_is); (case dDU_e => exact rfl); (case dDU_e1 => exact rfl); (case dDU_e2 => exact rfl); (case dDU_e3 => exact rfl); (case dDU_c => k_is); (case dDU_k => k_is)))
    (case dSY => (refine' K0.dg_mk ?dSY_a ?dSY_l ?dSY_e ?dSY_e1 ?dSY_e2 ?dSY_e3 ?dSY_c ?dSY_k; (case dSY_a => k_is); (case dSY_l => k_is); (case dSY_e => exact rfl); (case dSY_e1 => exact rfl); (case dSY_e2 => exact rfl); (case dSY_e3 => exact rfl); (case dSY_c => k_is); (case dSY_k => k_is)))
    (case dWD => (refine' K0.dg_mk ?dWD_a ?dWD_l ?dWD_e ?dWD_e1 ?dWD_e2 ?dWD_e3 ?dWD_c ?dWD_k; (case dWD_a => k_is); (case dWD_l => k_is); (case dWD_e => exact rfl); (case dWD_e1 => exact rfl); (case dWD_e2 => exact rfl); (case dWD_e3 => exact rfl); (case dWD_c => k_is); (case dWD_k => k_is)))
    (case dTN => (refine' K0.dg_mk ?dTN_a ?dTN_l ?dTN_e ?dTN_e1 ?dTN_e2 ?dTN_e3 ?dTN_c ?dTN_k; (case dTN_a => k_is); (case dTN_l => k_is); (case dTN_e => exact rfl); (case dTN_e1 => exact rfl); (case dTN_e2 => exact rfl); (case dTN_e3 => exact rfl); (case dTN_c => k_is); (case dTN_k => k_is)))
    (case dOU => (refine' K0.dg_mk ?dOU_a ?dOU_l ?dOU_e ?dOU_e1 ?dOU_e2 ?dOU_e3 ?dOU_c ?dOU_k; (case dOU_a => k_is); (case dOU_l => k_is); (case dOU_e => exact rfl); (case dOU_e1 => exact rfl); (case dOU_e2 => exact rfl); (case dOU_e3 => exact rfl); (case dOU_c => k_is); (case dOU_k => k_is)))
    (case dIN => (refine' K0.dg_mk ?dIN_a ?dIN_l ?dIN_e ?dIN_e1 ?dIN_e2 ?dIN_e3 ?dIN_c ?dIN_k; (case dIN_a => k_is); (case dIN_l => k_is); (case dIN_e => exact rfl); (case dIN_e1 => exact rfl); (case dIN_e2 => exact rfl); (case dIN_e3 => exact rfl); (case dIN_c => k_is); (case dIN_k => k_is)))
    (case dIS => (refine' K0.dg_mk ?dIS_a ?dIS_l ?dIS_e ?dIS_e1 ?dIS_e2 ?dIS_e3 ?dIS_c ?dIS_k; (case dIS_a => k_is); (case dIS_l => k_is); (case dIS_e => exact rfl); (case dIS_e1 => exact rfl); (case dIS_e2 => exact rfl); (case dIS_e3 => exact rfl); (case dIS_c => k_is); (case dIS_k => k_is)))
    (case dFS => (refine' K0.dg_mk ?dFS_a ?dFS_l ?dFS_e ?dFS_e1 ?dFS_e2 ?dFS_e3 ?dFS_c ?dFS_k; (case dFS_a => k_is); (case dFS_l => k_is); (case dFS_e => exact rfl); (case dFS_e1 => exact rfl); (case dFS_e2 => exact rfl); (case dFS_e3 => exact rfl); (case dFS_c => k_is); (case dFS_k => k_is)))
    (case dPT => (refine' K0.dg_mk ?dPT_a ?dPT_l ?dPT_e ?dPT_e1 ?dPT_e2 ?dPT_e3 ?dPT_c ?dPT_k; (case dPT_a => k_is); (case dPT_l => k_is); (case dPT_e => exact rfl); (case dPT_e1 => exact rfl); (case dPT_e2 => exact rfl); (case dPT_e3 => exact rfl); (case dPT_c => k_is); (case dPT_k => k_is)))
    (case dPR => (refine' K0.dg_mk ?dPR_a ?dPR_l ?dPR_e ?dPR_e1 ?dPR_e2 ?dPR_e3 ?dPR_c ?dPR_k; (case dPR_a => k_is); (case dPR_l => k_is); (case dPR_e => exact rfl); (case dPR_e1 => exact rfl); (case dPR_e2 => exact rfl); (case dPR_e3 => exact rfl); (case dPR_c => k_is); (case dPR_k => k_is)))
    (case dNB => (refine' K0.dg_mk ?dNB_a ?dNB_l ?dNB_e ?dNB_e1 ?dNB_e2 ?dNB_e3 ?dNB_c ?dNB_k; (case dNB_a => k_is); (case dNB_l => k_is); (case dNB_e => exact rfl); (case dNB_e1 => exact rfl); (case dNB_e2 => exact rfl); (case dNB_e3 => exact rfl); (case dNB_c => k_is); (case dNB_k => k_is)))
    (case dSP => (refine' K0.dg_mk ?dSP_a ?dSP_l ?dSP_e ?dSP_e1 ?dSP_e2 ?dSP_e3 ?dSP_c ?dSP_k; (case dSP_a => k_is); (case dSP_l => k_is); (case dSP_e => exact rfl); (case dSP_e1 => exact rfl); (case dSP_e2 => exact rfl); (case dSP_e3 => exact rfl); (case dSP_c => k_is); (case dSP_k => k_is)))
    (case dLW => (refine' K0.dg_mk ?dLW_a ?dLW_l ?dLW_e ?dLW_e1 ?dLW_e2 ?dLW_e3 ?dLW_c ?dLW_k; (case dLW_a => k_is); (case dLW_l => k_is); (case dLW_e => exact rfl); (case dLW_e1 => exact rfl); (case dLW_e2 => exact rfl); (case dLW_e3 => exact rfl); (case dLW_c => k_is); (case dLW_k => k_is)))
#print axioms PySem.Challenge.cw_perfectorders_k04_webs_put_in_holds
