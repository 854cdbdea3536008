import PyProof.Rows.All
import Wide.All
import OpenK.AllK
import Wide.FinOn
import HandS.ForMost
import HandS.ForExc
import HandS.IsInst
import HandS.Strs
import HandS.TupSets
import HandS.TryMany
import HandS.ExcInit
import HandS.NoneIn
import HandS.Property
import HandS.ExcField
import HandS.Defaults
import KE.BitLaws
import HandS.WideBits
import HandS.Steps
import HandS.Walk
import KE.GoesMore
import HandS.OwnEq
import KE.Datum
import HandS.Star
import KE.KIndexOf
import HandS.IterVal
import HandS.OwnIter
import HandS.RaiseMore
import HandS.Deep
import HandS.SortRule
import HandS.ExcIs
import PySem.Challenge.RW_perfectorders_k00_webs_and_what_they_ref
set_option Elab.async false
set_option linter.all false
set_option maxRecDepth 100000
set_option maxHeartbeats 2000000
namespace K0
open PySem PySem.Spec PyProof.Rows L2
def top (i : Nat) : Stmt := PySem.Challenge.pw_perfectorders_k00_webs_and_what_they_ref.main.body.getD i (.Pass ⟨0, 0, 0, 0⟩)
abbrev s_is_int : Stmt := top 9
abbrev s_is_pair : Stmt := top 10
abbrev s_is_thing : Stmt := top 11
/-- the built-in names that the top leaves as they are -/
structure Blt (mg : Str → Option Value) : Prop where
  isi : mg "isinstance" = none
  int : mg "int" = none
  bool : mg "bool" = none
  list : mg "list" = none
  tuple : mg "tuple" = none
  len : mg "len" = none
section
variable {P : Program} {w : World} {K : PySem.W.Frag} {mg : Str → Option Value} {base : Heap}
/-- the answer of is_int by the type -/
def intT (t : Value) : Bool := t == .type "int"
inductive Plain (K : PySem.W.Frag) (H : Hp) : V → Bool → Prop where
  | non : Plain K H .non false
  | bl (b : Bool) : Plain K H (.bl b) false
  | int (i : Int) : Plain K H (.int i) true
  | str (x : Str) : Plain K H (.str x) false
  | tup {a : Addr} {xs : List V} (e : H a = some (.tup xs)) : Plain K H (.ref a) false
  | lst {a : Addr} {xs : List V} (e : H a = some (.lst xs)) : Plain K H (.ref a) false
def spIsInt (K : PySem.W.Frag) : Sp := fun vs H Q _ => ∃ v b, vs = [v] ∧ Plain K H v b ∧ Q (.bl b) H
theorem sc_is_int : FnScope ["value"] ["value"] (defScope s_is_int) := ⟨rfl, rfl, rfl, by decide +kernel, rfl, by decide +kernel, by decide +kernel⟩
theorem ok_is_int {f : Addr} {fd : FuncData} (F : Fun K "is_int" "is_int" s_is_int f fd) (B : Blt mg) : FnOk P w K mg base CX0 1 f fd ["value"] (spIsInt K) := by
  refine F.ok sc_is_int (fun vs H Q E h => ?_) (fun cdv A outer s H vs Q E hr h => ?_)
  · obtain ⟨v, b, rfl, _⟩ := h
    rfl
  · obtain ⟨v, b, rfl, hv, q⟩ := h
    refine ⟨_, pss_one (ps_ret (pe_and
      (pe_callB call_isi (by rfl) B.isi (by decide +kernel) (pa_cons (pv 0) (pa_cons (pe_bltn (v := .ty "int") (by rfl) B.int (by decide +kernel) rfl) pa_nil)))
      (pe_one (pe_not (pe_callB call_isi (by rfl) B.isi (by decide +kernel) (pa_cons (pv 0) (pa_cons (pe_bltn (v := .ty "bool") (by rfl) B.bool (by decide +kernel) rfl) pa_nil))))))), ?_⟩
    cases hv with
    | non =>
      exact ⟨_, rfl, _, _, _, _, _, rfl, .ty _, .base .non, kit_ty (r := false) (by decide +kernel), _, rfl, iteF q⟩
    | bl b =>
      exact ⟨_, rfl, _, _, _, _, _, rfl, .ty _, .base (.bl b), kit_ty (r := true) (by decide +kernel), _, rfl, iteT ⟨_, rfl, _, _, _, _, _, rfl, .ty _, .base (.bl b), kit_ty (r := true) (by decide +kernel), _, rfl, q⟩⟩
    | int i =>
      exact ⟨_, rfl, _, _, _, _, _, rfl, .ty _, .base (.int i), kit_ty (r := true) (by decide +kernel), _, rfl, iteT ⟨_, rfl, _, _, _, _, _, rfl, .ty _, .base (.int i), kit_ty (r := false) (by decide +kernel), _, rfl, q⟩⟩
    | str x =>
      exact ⟨_, rfl, _, _, _, _, _, rfl, .ty _, .base (.str x), kit_ty (r := false) (by decide +kernel), _, rfl, iteF q⟩
    | tup e =>
      exact ⟨_, rfl, _, _, _, _, _, rfl, .ty _, .base (.tup e), kit_ty (r := false) (by decide +kernel), _, rfl, iteF q⟩
    | lst e =>
      exact ⟨_, rfl, _, _, _, _, _, rfl, .ty _, .base (.lst e), kit_ty (r := false) (by decide +kernel), _, rfl, iteF q⟩
end
end K0
set_option Elab.async false
set_option linter.all false
set_option maxRecDepth 100000
set_option maxHeartbeats 2000000
namespace K0
open PySem PySem.Spec PyProof.Rows L2
/-! ### data that stands in the heap -/
mutual
inductive Dt (H : Hp) : V → PyData → Prop
  | non : Dt H .non .none
  | bl (b : Bool) : Dt H (.bl b) (.bool b)
  | int (i : Int) : Dt H (.int i) (.int i)
  | str (x : Str) : Dt H (.str x) (.str x)
  | lst {a : Addr} {xs : List V} {ds : List PyData} : H a = some (.lst xs) → DtAll H xs ds → Dt H (.ref a) (.list ds)
  | tup {a : Addr} {xs : List V} {ds : List PyData} : H a = some (.tup xs) → DtAll H xs ds → Dt H (.ref a) (.tuple ds)
inductive DtAll (H : Hp) : List V → List PyData → Prop
  | nil : DtAll H [] []
  | cons {v : V} {vs : List V} {d : PyData} {ds : List PyData} : Dt H v d → DtAll H vs ds → DtAll H (v :: vs) (d :: ds)
end
mutual
theorem Dt.mono {H H' : Hp} (s : Same H H') : ∀ {v : V} {d : PyData}, Dt H v d → Dt H' v d
  | _, _, .non => .non
  | _, _, .bl b => .bl b
  | _, _, .int i => .int i
  | _, _, .str x => .str x
  | _, _, .lst e h => .lst (s _ _ e) (DtAll.mono s h)
  | _, _, .tup e h => .tup (s _ _ e) (DtAll.mono s h)
theorem DtAll.mono {H H' : Hp} (s : Same H H') : ∀ {v : List V} {d : List PyData}, DtAll H v d → DtAll H' v d
  | _, _, .nil => .nil
  | _, _, .cons h t => .cons (Dt.mono s h) (DtAll.mono s t)
end
mutual
theorem Dt.dp {K : PySem.W.Frag} {H : Hp} : ∀ {v : V} {d : PyData}, Dt H v d → Dp K H v d
  | _, _, .non => .non
  | _, _, .bl b => .bl b
  | _, _, .int i => .int i
  | _, _, .str x => .str x
  | _, _, .lst e h => .lst (SqL.of e) (DtAll.dp h)
  | _, _, .tup e h => .tup (SqT.of e) (DtAll.dp h)
theorem DtAll.dp {K : PySem.W.Frag} {H : Hp} : ∀ {v : List V} {d : List PyData}, DtAll H v d → DpAll K H v d
  | _, _, .nil => .nil
  | _, _, .cons h t => .cons (Dt.dp h) (DtAll.dp t)
end
theorem DtAll.len {H : Hp} : ∀ {vs : List V} {ds : List PyData}, DtAll H vs ds → vs.length = ds.length
  | _, _, .nil => rfl
  | _, _, .cons _ t => congrArg (· + 1) t.len
theorem DtAll.at {H : Hp} : ∀ {vs : List V} {ds : List PyData} {i : Nat} {v : V}, DtAll H vs ds → vs[i]? = some v → ∃ d, ds[i]? = some d ∧ Dt H v d
  | _, _, _, _, .nil, e => by simp at e
  | _, _, 0, _, .cons h _, e => by
    have z := Option.some.inj e
    subst z
    exact ⟨_, rfl, h⟩
  | _, _, i + 1, _, .cons _ t, e => DtAll.at (i := i) t e
theorem DtAll.at' {H : Hp} : ∀ {vs : List V} {ds : List PyData} {i : Nat} {d : PyData}, DtAll H vs ds → ds[i]? = some d → ∃ v, vs[i]? = some v ∧ Dt H v d
  | _, _, _, _, .nil, e => by simp at e
  | _, _, 0, _, .cons h _, e => by
    have z := Option.some.inj e
    subst z
    exact ⟨_, rfl, h⟩
  | _, _, i + 1, _, .cons _ t, e => DtAll.at' (i := i) t e
theorem DtAll.app {H : Hp} : ∀ {vs ws : List V} {ds es : List PyData}, DtAll H vs ds → DtAll H ws es → DtAll H (vs ++ ws) (ds ++ es)
  | _, _, _, _, .nil, h => h
  | _, _, _, _, .cons a t, h => .cons a (t.app h)
theorem DtAll.take {H : Hp} : ∀ {vs : List V} {ds : List PyData} (n : Nat), DtAll H vs ds → DtAll H (vs.take n) (ds.take n)
  | _, _, 0, _ => .nil
  | _, _, _ + 1, .nil => .nil
  | _, _, n + 1, .cons h t => .cons h (t.take n)
theorem DtAll.drop {H : Hp} : ∀ {vs : List V} {ds : List PyData} (n : Nat), DtAll H vs ds → DtAll H (vs.drop n) (ds.drop n)
  | _, _, 0, h => h
  | _, _, _ + 1, .nil => .nil
  | _, _, n + 1, .cons _ t => t.drop n
theorem DtAll.ints (H : Hp) : ∀ ns : List Int, DtAll H (ns.map V.int) (ns.map PyData.int)
  | [] => .nil
  | n :: r => .cons (.int n) (DtAll.ints H r)
theorem same_upd {H : Hp} {p : Addr} {o : HO} (h : H p = none) : Same H (upd H p o) := fun b u e => by
  rw [upd_ne (ne_of_none e h)]
  exact e
theorem Dt.one {H : Hp} {v w : V} {d : PyData} (h : Dt H v d) : Dt H v d := h
/-- is a whole number, and no truth value -/
def isI : PyData → Bool
  | .int _ => true
  | _ => false
def tyD : PyData → String
  | .none => "NoneType"
  | .bool _ => "bool"
  | .int _ => "int"
  | .str _ => "str"
  | .list _ => "list"
  | .tuple _ => "tuple"
  | .dict _ => "dict"
theorem Dt.ty {K : PySem.W.Frag} {H : Hp} {v : V} {d : PyData} (h : Dt H v d) : TyX K H v (.type (tyD d)) := by
  cases h with
  | non => exact .base .non
  | bl b => exact .base (.bl b)
  | int i => exact .base (.int i)
  | str x => exact .base (.str x)
  | lst e _ => exact .base (.lst e)
  | tup e _ => exact .base (.tup e)
/-! ### is_int and its like -/
section
variable {P : Program} {w : World} {K : PySem.W.Frag} {mg : Str → Option Value} {base : Heap}
def spInt : Sp := fun vs H Q _ => ∃ v d, vs = [v] ∧ Dt H v d ∧ Q (.bl (isI d)) H
theorem plain_dt {H : Hp} {v : V} {d : PyData} (h : Dt H v d) : Plain K H v (isI d) := by
  cases h with
  | non => exact .non
  | bl b => exact .bl b
  | int i => exact .int i
  | str x => exact .str x
  | lst e _ => exact .lst e
  | tup e _ => exact .tup e
theorem ok_int {f : Addr} {fd : FuncData} (F : Fun K "is_int" "is_int" s_is_int f fd) (B : Blt mg) : FnOk P w K mg base CX0 1 f fd ["value"] spInt :=
  (ok_is_int F B).imp fun vs H Q E h => by
    obtain ⟨v, d, e, hv, q⟩ := h
    exact ⟨v, isI d, e, plain_dt hv, q⟩
def isPairD : PyData → Bool
  | .list xs => xs.length == 2
  | .tuple xs => xs.length == 2
  | _ => false
theorem len_two (ds : List PyData) : ((ds.length : Int) == 2) = (ds.length == 2) := by
  rw [Bool.eq_iff_iff, beq_iff_eq, beq_iff_eq]
  omega
/-- what leaves all that was tracked -/
def Ret (v : V) (H : Hp) (Q : VK) : Prop := ∀ H', Same H H' → Q v H'
theorem Ret.now {v : V} {H : Hp} {Q : VK} (h : Ret v H Q) : Q v H := h H (Same.refl H)
def spPair : Sp := fun vs H Q _ => ∃ v d, vs = [v] ∧ Dt H v d ∧ Ret (.bl (isPairD d)) H Q
theorem sc_is_pair : FnScope ["value"] ["value"] (defScope s_is_pair) := ⟨rfl, rfl, rfl, by decide +kernel, rfl, by decide +kernel, by decide +kernel⟩
theorem kit2 {K : PySem.W.Frag} {t : String} {b1 b2 : Bool} (h1 : kitB t "list" = some b1) (h2 : kitB t "tuple" = some b2) : PySem.W.kitAny K (.type t) [.type "list", .type "tuple"] = some (b1 || b2) := by
  refine kitAny_cons (kit_ty h1) (fun e => ?_) (fun e => by rw [e]; rfl)
  refine kitAny_cons (kit_ty h2) (fun e2 => ?_) (fun e2 => by rw [e, e2]; rfl)
  rw [e, e2]
  exact kitAny_nil
theorem ok_pair {f : Addr} {fd : FuncData} (F : Fun K "is_pair" "is_pair" s_is_pair f fd) (B : Blt mg) : FnOk P w K mg base CX0 1 f fd ["value"] spPair := by
  refine F.ok sc_is_pair (fun vs H Q E h => ?_) (fun cdv A outer s H vs Q E hr h => ?_)
  · obtain ⟨v, d, rfl, _⟩ := h
    rfl
  · obtain ⟨v, d, rfl, hv, q⟩ := h
    refine ⟨_, pss_one (ps_ret (pe_and
      (pe_callB call_isiT (by rfl) B.isi (by decide +kernel) (pa_cons (pv 0) (pa_cons (pe_tup (pa_cons (pe_bltn (v := .ty "list") (by rfl) B.list (by decide +kernel) rfl) (pa_cons (pe_bltn (v := .ty "tuple") (by rfl) B.tuple (by decide +kernel) rfl) pa_nil))) pa_nil)))
      (pe_one (pe_cmpR op_eq (pe_callB call_len_seq (by rfl) B.len PySem.boot_len (pa_cons (pv 0) pa_nil)) pe_int (nomark _))))), ?_⟩
    refine ⟨_, rfl, by show 2 ≤ sizeLine; decide, fun t ht => ?_⟩
    have sm : Same H (upd H t (.tup [.ty "list", .ty "tuple"])) := same_upd ht
    have cl : Paired ClsV [V.ty "list", V.ty "tuple"] [Value.type "list", Value.type "tuple"] := .cons (.ty _) (.cons (.ty _) .nil)
    have ty : TyX K _ v _ := (hv.mono sm).ty
    cases hv with
    | non => exact ⟨_, _, _, _, _, _, rfl, upd_same, cl, ty, kit2 (b1 := false) (b2 := false) (by decide +kernel) (by decide +kernel), _, rfl, iteF (q _ sm)⟩
    | bl b => exact ⟨_, _, _, _, _, _, rfl, upd_same, cl, ty, kit2 (t := "bool") (b1 := false) (b2 := false) (by decide +kernel) (by decide +kernel), _, rfl, iteF (q _ sm)⟩
    | int b => exact ⟨_, _, _, _, _, _, rfl, upd_same, cl, ty, kit2 (t := "int") (b1 := false) (b2 := false) (by decide +kernel) (by decide +kernel), _, rfl, iteF (q _ sm)⟩
    | str b => exact ⟨_, _, _, _, _, _, rfl, upd_same, cl, ty, kit2 (t := "str") (b1 := false) (b2 := false) (by decide +kernel) (by decide +kernel), _, rfl, iteF (q _ sm)⟩
    | @lst a xs ds e h =>
      refine ⟨_, _, _, _, _, _, rfl, upd_same, cl, ty, kit2 (t := "list") (b1 := true) (b2 := false) (by decide +kernel) (by decide +kernel), _, rfl, iteT ⟨_, rfl, _, xs, rfl, .inl (SqL.of (sm _ _ e)), rfl, ?_⟩⟩
      rw [dec_int, h.len, show ((ds.length : Int) == 2) = isPairD (.list ds) from len_two ds]
      exact q _ sm
    | @tup a xs ds e h =>
      refine ⟨_, _, _, _, _, _, rfl, upd_same, cl, ty, kit2 (t := "tuple") (b1 := false) (b2 := true) (by decide +kernel) (by decide +kernel), _, rfl, iteT ⟨_, rfl, _, xs, rfl, .inr (SqT.of (sm _ _ e)), rfl, ?_⟩⟩
      rw [dec_int, h.len, show ((ds.length : Int) == 2) = isPairD (.tuple ds) from len_two ds]
      exact q _ sm
end
end K0
set_option Elab.async false
set_option linter.all false
set_option maxRecDepth 100000
set_option maxHeartbeats 2000000
/-! own error classes below Exception that store their arguments -/
namespace K0
open PySem PySem.Spec PyProof.Rows L2
/-- the classes behind the own ones -/
def tailOf : List Value → List Value
  | .ref _ :: r => tailOf r
  | l => l
abbrev exT : List Value := [.type "Exception", .type "BaseException", .type "object"]
theorem tail_refuse (self : Value) (wh : Str) : ∀ l : List Value, refuseLoop self wh l = refuseLoop self wh (tailOf l)
  | .ref C :: r => (refuseLoop_ref self wh C r).trans (tail_refuse self wh r)
  | [] => rfl
  | .none :: _ | .ellipsis :: _ | .notImplemented :: _ | .bool _ :: _ | .int _ _ :: _ | .float _ _ :: _ | .str _ _ :: _ | .bytes _ _ :: _ | .type _ :: _ | .builtin _ :: _ => rfl
theorem tail_has (Y : String) : ∀ l : List Value, l.contains (.type Y) = (tailOf l).contains (.type Y)
  | .ref C :: r => by
    rw [List.contains_cons, tail_has Y r]
    rfl
  | [] => rfl
  | .none :: _ | .ellipsis :: _ | .notImplemented :: _ | .bool _ :: _ | .int _ _ :: _ | .float _ _ :: _ | .str _ _ :: _ | .bytes _ _ :: _ | .type _ :: _ | .builtin _ :: _ => rfl
theorem tail_ne : ∀ l : List Value, tailOf l = exT → l.isEmpty = false
  | [], e => by cases e
  | _ :: _, _ => rfl
section
open Builtin Builtin.ObjectAttr PySem.HandSPX PySem.OEX
variable {prog : Program} {w : World} {A : Around} {R : Result → Shared → Prop} {hp : Heap} {g : Array GenState} {d : Drawn} {t : Nat} {os : OsState} {K : PySem.W.Frag} {name : Str} {tk : Tok} {v : Value} {x C : Addr} {fv : Array Value} {cd : ClassData}
/-- what is looked up ahead of a store to an exception of the class at C -/
structure Sto (prog : Program) (w : World) (K : PySem.W.Frag) (hp : Heap) (x C : Addr) (name : Str) (cd : ClassData) : Prop where
  ty : PySem.W.Looks (model prog w) hp (typeOf (.ref x)) (.ref C)
  sub : PySem.W.Looks (model prog w) hp (isInstance (.ref x) (.type "object")) true
  mro : PySem.W.Looks (model prog w) hp (mroOf (.ref C)) cd.mro
  cls : PySem.W.Looks (model prog w) hp (classData C) cd
  fnd : PySem.W.Looks (model prog w) hp (typeLookup (.ref C) name) none
  ref : ∀ self : Value, refuseLoop self "__setattr__" cd.mro = pure ()
theorem sto_of (X : K.In hp) {ox : Obj} {od : Option Obj} (I : PySem.W.InstAt hp x ox C od) (hcd : PySem.W.clsIn K C = some cd) (hm : tailOf cd.mro = exT) (ha : PySem.W.findIn K (.ref C) name = some none) : Sto prog w K hp x C name cd where
  ty := I.type
  sub := I.type.andThen (PySem.W.looks_mroIn X (by
    have h1 : cd.mro.contains (.type "object") = true := by rw [tail_has, hm]; decide +kernel
    unfold PySem.W.mroIn
    rw [hcd, Option.bind_some, if_neg (by rw [tail_ne _ hm]; decide), h1]))
  mro := (PySem.W.looks_clsIn X hcd).andThen .now
  cls := PySem.W.looks_clsIn X hcd
  fnd := PySem.W.looks_findIn X ha
  ref := fun self => by rw [tail_refuse, hm]; exact PySem.F.store_Exception.passes self
theorem osaE (S : Sto prog w K hp x C name cd) (hq : wpAny (model prog w) (A.in1) (storeInOwnDict (.ref x) (.ref C) (.str name tk) name v false) (fun fin s' => match fin with | .done f => R (.ok f) s' | .again c => c.quiet = true ∧ codeAny (model prog w) A c R s') (fun e s' => R (.error e) s') ⟨hp, g, d, t, os⟩) :
    codeAny (model prog w) A (.call (.builtin "object.__setattr__") ⟨[.ref x, .str name tk, v], []⟩) R ⟨hp, g, d, t, os⟩ := by
  have SF := PySem.F.store_object
  refine codeAny_call_builtin SF.slot.plain SF.entry (@PySem.W.check_slot (model prog w) _ _ ⟨hp, g, d, t, os⟩ "object.__setattr__" "object" "__setattr__" (.ref x) [.str name tk, v] [] _ SF.kind SF.split S.sub (SF.args (.ref x) (.str name tk) v) ?_)
  rw [PySem.W.osa_eq, refuse_eq]
  refine wpAny_bind (wpAny_bind (S.ty.at (wpAny_bind (S.mro.at ?_))))
  rw [S.ref]
  refine wpAny_pure (wpAny_bind (S.ty.at (wpAny_bind (S.fnd.at (wpAny_bind ((show PySem.W.Looks (model prog w) hp (storeTaker? none) none from .now).at ?_))))))
  exact hq
theorem osaE_new (X : K.In hp) (hx : hp.get? x = some { cls := .ref C, data := .fields fv }) (hcd : PySem.W.clsIn K C = some cd) (hm : tailOf cd.mro = exT) (hh : cd.hasDict = true) (ha : PySem.W.findIn K (.ref C) name = some none)
    (hq : ∀ h' tk' dx, (∀ b o, b ≠ x → hp.get? b = some o → h'.get? b = some o) → hp.objs.size ≤ dx → dx ≠ x → h'.get? x = some { cls := .ref C, dict := some dx, data := .fields fv } →
      h'.Ns1 dx (fun y => if y = name then some v else none) → R (.ok (.ret .none)) ⟨h', g, d, tk', os⟩) :
    codeAny (model prog w) A (.call (.builtin "object.__setattr__") ⟨[.ref x, .str name tk, v], []⟩) R ⟨hp, g, d, t, os⟩ := by
  have hxs : x ≠ hp.objs.size := Nat.ne_of_lt (Heap.lt_size hx)
  have S : Sto prog w K hp x C name cd := sto_of X (od := none) ⟨hx, rfl, rfl, trivial⟩ hcd hm ha
  refine osaE S ?_
  have hcls := S.cls
  obtain ⟨nm, bs, mro, ns, qn, hd, sn, sb, ab, col, del⟩ := cd
  dsimp only at hh
  subst hh
  unfold storeInOwnDict ownDictForStores
  repeat (first | with_reducible refine store_in_new ?_ ?_ | with_reducible refine wpAny_loadPart_at hx ?_ | with_reducible refine hcls.at ?_ | wp_step)
  · exact ⟨_, #[], _, (Heap.get?_update_ne _ _ _ _ hxs.symm).trans (Heap.get?_push_at rfl rfl), rfl, fun e he => absurd he (by simp), fun _ => rfl⟩
  · intro h' tk' hn' hs
    have hx1 : (hp.push { cls := .type "dict", data := .dict #[] }).get? x = some { cls := .ref C, data := .fields fv } := Heap.get?_push_of_some _ hx
    have old : ∀ b o, b ≠ x → hp.get? b = some o → h'.get? b = some o := fun b o hb ho =>
      (hs.2 b (Nat.ne_of_lt (Heap.lt_size ho))).trans ((Heap.get?_update_ne _ _ _ _ hb).trans (Heap.get?_push_of_some _ ho))
    exact hq h' tk' hp.objs.size old (Nat.le_refl _) hxs.symm ((hs.2 x hxs).trans (Heap.get?_update_self _ hx1 rfl)) hn'
theorem osaE_old {dx : Addr} {m0 : Str → Option Value} {nl : List Str} (X : K.In hp) (hx : hp.get? x = some { cls := .ref C, dict := some dx, data := .fields fv }) (hns : hp.Ns1 dx m0) (hw : Within m0 nl) (hz : nl.length ≤ 1000)
    (hcd : PySem.W.clsIn K C = some cd) (hm : tailOf cd.mro = exT) (hh : cd.hasDict = true) (ha : PySem.W.findIn K (.ref C) name = some none)
    (hq : ∀ h' tk', (∀ b o, b ≠ dx → hp.get? b = some o → h'.get? b = some o) → h'.Ns1 dx (fun y => if y = name then some v else m0 y) → R (.ok (.ret .none)) ⟨h', g, d, tk', os⟩) :
    codeAny (model prog w) A (.call (.builtin "object.__setattr__") ⟨[.ref x, .str name tk, v], []⟩) R ⟨hp, g, d, t, os⟩ := by
  obtain ⟨oD, esD, epD, hoD, hdD, _⟩ := hns.count hw
  have S : Sto prog w K hp x C name cd := sto_of X (od := some oD) ⟨hx, rfl, rfl, hoD⟩ hcd hm ha
  refine osaE S ?_
  have hcls := S.cls
  obtain ⟨nm, bs, mro, ns, qn, hd, sn, sb, ab, col, del⟩ := cd
  dsimp only at hh
  subst hh
  unfold storeInOwnDict ownDictForStores
  repeat (first | with_reducible refine store_in_old hns hw hz ?_ | with_reducible refine wpAny_loadPart_at hx ?_ | with_reducible refine hcls.at ?_ | wp_step)
  exact fun h' tk' hn' hs => hq h' tk' (fun b o hb ho => (hs.2 b hb).trans ho) hn'
end
/-! ### over the abstract heap -/
/-- what the written part says of such a class at C: its own names are not among fs -/
structure ErrC (K : PySem.W.Frag) (C : Addr) (fs : List Str) : Prop where
  cls : ∃ nm q N bs bm sn sub ab col dd k0 k1 k2 k3 k5, K.lookup C = some (excClassObj nm q C N bs bm true sn sub ab col dd k0 k1 k2 k3 k5 "Exception.__new__") ∧ (tailOf bm == exT) = true
  sa : PySem.W.findIn K (.ref C) "__setattr__" = some (some (.builtin "object.__setattr__"))
  ga : PySem.W.findIn K (.ref C) "__getattribute__" = some (some (.builtin "BaseException.__getattribute__"))
  gg : PySem.W.findIn K (.ref C) "__getattr__" = some none
  exC : PySem.W.subIn K (.ref C) (.type "BaseException") = some true
  tyC : PySem.W.typeIn K (.ref C) = some (.type "type")
  kC : PySem.W.keepIn K (.ref C) = true
  hd : PySem.W.hasDictIn K C = true
  no : ∀ f ∈ fs, PySem.W.findIn K (.ref C) f = some none
theorem ErrC.data {K : PySem.W.Frag} {C : Addr} {fs : List Str} (T : ErrC K C fs) : ∃ cd, PySem.W.clsIn K C = some cd ∧ tailOf cd.mro = exT ∧ cd.hasDict = true := by
  obtain ⟨nm, q, N, bs, bm, sn, sub, ab, col, dd, k0, k1, k2, k3, k5, hC, hbm⟩ := T.cls
  refine ⟨{ name := nm, bases := bs, mro := .ref C :: bm, ns := N, qualname := q, hasDict := true, slotNames := sn, subclasses := sub, abstract := ab, collection := col, hasDel := false }, ?_, beq_iff_eq.mp hbm, rfl⟩
  unfold PySem.W.clsIn
  rw [hC]
section
variable {X : Cx} {pins : List (Addr × Obj)} {σ : L2.St} {H : Hp} {s : Shared} {a C dx : Addr} {f : Str} {y : V} {u : Value} {fl : List Str} {fs : List (Str × V)} {Q : Unit → Shared → Prop} {E : Value → Shared → Prop} {A : Around}
/-- the first store: the exception gets its dict -/
theorem stE_new (T : ErrC X.K C fl) (I : Inv X pins σ H s) (e : H a = some (exo a C none)) (hno : f ∈ fl) (ry : RelV y u)
    (h : ∀ dx s', H dx = none → dx ≠ a → Inv X pins σ (upd (upd H dx (exd dx [(f, y)])) a (exo a C (some dx))) s' → Q () s') : wpAny (model X.prog X.w) A (setAttr (.ref a) f u) Q E s := by
  obtain ⟨cd, hcl, hm, hdd⟩ := T.data
  obtain ⟨t1, ho⟩ := exo_at I.hok e
  obtain ⟨hp, g, d, t, os⟩ := s
  refine PySem.W.set_plain I.kIn (ox := { cls := .ref C, dict := none, data := .fields #[.ref t1, .none, .none, .none, .bool false, .none] }) (od := none) ⟨ho, rfl, rfl, trivial⟩ T.sa ?_
  refine osaE_new I.kIn ho hcl hm hdd (T.no f hno) (fun h' tk' dx k dn dne hx hn => ?_)
  have hnd : H dx = none := I.hok.fresh dn
  have lt : ∀ {b : Addr} {o : Obj}, hp.get? b = some o → b ≠ dx := fun q => Nat.ne_of_lt (Nat.lt_of_lt_of_le (Heap.lt_size q) dn)
  have na : ∀ {b : Addr}, H b = none → b ≠ a := fun {b} n z => by rw [z, e] at n; cases n
  refine h dx _ hnd dne (I.un (t' := tk') { keep := fun b o q n _ _ => k b o (na n) q, slot := fun b o q n _ _ => ⟨o.slots, k b o (na n) q⟩, free := fun b o q n _ => ?_, there := fun b o q _ => ?_, tups := fun b xs q => ?_, frzs := fun b o v q => ?_, tbls := fun b ps q => ⟨#[], ?_⟩ } fun b o q => ?_)
  · rw [upd_ne (na n), upd_ne (lt q)]
    exact n
  · rcases Nat.decEq b a with hb | hb
    · exact ⟨o, k b o hb q⟩
    · exact ⟨_, by rw [hb]; exact hx⟩
  · rw [upd_ne (at_ne e q exo_tup), upd_ne (ne_of_none q hnd)]
    exact q
  · rw [upd_ne (at_ne e q exo_frz), upd_ne (ne_of_none q hnd)]
    exact q
  · rw [upd_ne (at_ne e q exo_tbl), upd_ne (ne_of_none q hnd), q]
    simp
  · by_cases hb : b = a
    · subst hb
      rw [upd_same] at q
      cases q
      exact exo_ok hx
    rw [upd_ne hb] at q
    by_cases hdx : b = dx
    · subst hdx
      rw [upd_same] at q
      cases q
      exact exd_ok hn (relO_put (fs := []) ry fun g => True.intro)
    rw [upd_ne hdx] at q
    refine (I.hok b o q).stay (fun c v hc z => k c v ?_ z) (fun c hc => ?_) (fun c xs hc => ?_)
    · rcases hc with hc | hc
      · rw [hc]; exact hb
      · exact at_ne e hc exo_own
    · rw [upd_ne (at_ne e hc exo_own), upd_ne (ne_of_none hc hnd)]
      exact hc
    · rw [upd_ne (at_ne e hc exo_tup), upd_ne (ne_of_none hc hnd)]
      exact hc
/-- a further store -/
theorem stE_old (T : ErrC X.K C fl) (I : Inv X pins σ H s) (e : H a = some (exo a C (some dx))) (ed : H dx = some (exd dx fs)) (hl : fs.length ≤ 900) (hno : f ∈ fl) (ry : RelV y u)
    (h : ∀ s', Inv X pins σ (upd H dx (exd dx ((f, y) :: fs))) s' → Q () s') : wpAny (model X.prog X.w) A (setAttr (.ref a) f u) Q E s := by
  obtain ⟨cd, hcl, hm, hdd⟩ := T.data
  obtain ⟨t1, ho⟩ := exo_at I.hok e
  obtain ⟨mA, hns, rel⟩ := exd_at I.hok ed
  have hw := within_of rel
  obtain ⟨hp, g, d, t, os⟩ := s
  obtain ⟨oD, _, _, hoD, _, _⟩ := hns.count hw
  refine PySem.W.set_plain I.kIn (ox := { cls := .ref C, dict := some dx, data := .fields #[.ref t1, .none, .none, .none, .bool false, .none] }) (od := some oD) ⟨ho, rfl, rfl, hoD⟩ T.sa ?_
  refine osaE_old I.kIn ho hns hw (by rw [List.length_map]; omega) hcl hm hdd (T.no f hno) (fun h' tk' k hn => ?_)
  have there : ∃ o, h'.get? dx = some o := by
    obtain ⟨o, _, _, e', _⟩ := hn
    exact ⟨o, e'⟩
  exact h _ (I.write (t' := tk') (x := dx) (e := dx) (o := exd dx ((f, y) :: fs)) (by rw [ed]; trivial) (.inl rfl) k there (exd_ok hn (relO_put ry rel)))
end
/-- self.f = e in the __init__ of such a class -/
def tStE (K : PySem.W.Frag) (fl : List Str) (f : Str) (to te : TE) : TS := fun D σ H => te σ H fun y H1 => to σ H1 fun x H2 => ∃ a C : Addr, x = .ref a ∧ ErrC K C fl ∧ f ∈ fl ∧
  ((H2 a = some (exo a C none) ∧ ∀ dx, H2 dx = none → dx ≠ a → D.nx σ (upd (upd H2 dx (exd dx [(f, y)])) a (exo a C (some dx)))) ∨
    ∃ (dx : Addr) (fs : List (Str × V)), H2 a = some (exo a C (some dx)) ∧ H2 dx = some (exd dx fs) ∧ fs.length ≤ 900 ∧ D.nx σ (upd H2 dx (exd dx ((f, y) :: fs))))
/-- C(e, ..): a new exception; behind it stand its class, its dict -/
def tMkE (C : Addr) (sp : Sp) (ta : TA) : L2.St → Hp → XK → Prop := fun σ H Q => ta σ H fun vs H1 => vs.length ≤ 1000 ∧ ∀ a, H1 a = none → sp (.ref a :: vs) (upd H1 a (exo a C none))
  (fun v H2 => v = .non ∧ ∃ (d : Addr) (fs : List (Str × V)), H2 a = some (exo a C (some d)) ∧ H2 d = some (exd d fs) ∧ H1 d = none ∧ Q (.ref C) (some d) (upd (del H2 a) d (.xd fs))) (fun _ _ _ => False)
section
variable {X : Cx} {o e : Expr} {es : List Expr} {to te : TE} {ta : TA} {f : Str} {p p' pos : Pos} {fl : List Str}
theorem ps_stE (ho : PE X o to) (he : PE X e te) (hs : swapsWith e (some (.Attribute o f p')) pos.line X.env = pure false := by rfl) : PS X (.Assign [.Attribute o f p'] e pos) (tStE X.K fl f to te) := by
  refine ⟨fun pins s σ H D I h => ?_⟩
  refine plainObj_wpAny_Assign_Attribute (thn (he.run pins s σ H _ I h) fun v s1 ⟨y, H1, I1, r1, q1⟩ => thn (ho.run pins s1 σ H1 _ I1 q1) fun u s2 ⟨x, H2, I2, r2, a, C, ex, T, hno, q⟩ => ?_) hs
  subst ex
  cases (show u = Value.ref a from r2)
  rcases q with ⟨ea, q⟩ | ⟨dx, fs, ea, ed, hl, q⟩
  · exact stE_new T I2 ea hno r1 fun dx s' n ne J => ⟨σ, _, J, q dx n ne⟩
  · exact stE_old T I2 ea ed hl hno r1 fun s' J => ⟨σ, _, J, q⟩
theorem pmk_E {CX : CXT} {x : Str} {C fI : Addr} {k : Nat} {fd : FuncData} {ps : List Str} {sp : Sp} (T : ErrC X.K C fl) (iC : PySem.W.findIn X.K (.ref C) "__init__" = some (some (.ref fI))) (tI : PySem.W.typeIn X.K (.ref fI) = some (.type "function"))
    (F1 : FnOk X.prog X.w X.K X.mg X.base CX k fI fd ps sp) (hr : Room (k + 1) X.A) (hb : Binds X.K fd ps []) (hx : Passes CX X (fun _ _ _ => False)) (hg : Gl X x) (hm : X.mg x = some (.ref C)) (ha : PA X (e :: es) ta)
    (hdb : (x == ("__debug__" : Str)) = false := by decide) (he : starEach (e :: es) X.env = (false, eval e X.env) :: starEach es X.env := by rfl) (hpl : (backTo pos (starEach es X.env)).any (·.1) = false := by rfl) :
    PMk X (.Call (.Name x p) (e :: es) [] pos) (tMkE C sp ta) := by
  intro pins s σ H Q I h
  obtain ⟨nm, q, N, bs, bm, sn, sub, ab, col, dd, k0, k1, k2, k3, k5, hC, hbm⟩ := T.cls
  have hbm' : tailOf bm = exT := beq_iff_eq.mp hbm
  refine wpAny_Call_Name_kw (ld_glob I hg hm ?_ hdb)
  refine PySem.W.callWith_K (h₀ := X.base) I.ok.mod.kin T.kC (thn (ha.run pos pins s σ H _ I h) fun us s1 ⟨vs, H1, I1, r1, hz, q1⟩ => ⟨I1.kIn, ?_⟩) he hpl
  show wpAny _ _ (call (.ref C) us) _ _ _
  obtain ⟨hp, g, dr, tk, os⟩ := s1
  have big : hp.objs.size ≤ hp.objs.size + 1 := Nat.le_succ _
  have hq := q1 (hp.objs.size + 1) (I1.hok.fresh big)
  have kk : ∀ b o, hp.get? b = some o → ((hp.push (PySem.W.kdv_tup us)).push (PySem.HandSPX.excO C hp.objs.size)).get? b = some o := fun b o e => Heap.get?_push_of_some _ (Heap.get?_push_of_some _ e)
  have hget : ((hp.push (PySem.W.kdv_tup us)).push (PySem.HandSPX.excO C hp.objs.size)).get? (hp.objs.size + 1) = some (PySem.HandSPX.excO C hp.objs.size) := by heap_get
  have I2 := I1.laid (t' := tk) (a := hp.objs.size + 1) (o := exo (hp.objs.size + 1) C none) (h' := (hp.push (PySem.W.kdv_tup us)).push (PySem.HandSPX.excO C hp.objs.size)) kk big (exo_ok hget)
  have r2 : Vals (V.ref (hp.objs.size + 1) :: vs) (Value.ref (hp.objs.size + 1) :: us) := .cons rfl r1
  have hl : (Value.ref (hp.objs.size + 1) :: us ++ []).length = ps.length := by
    rw [List.append_nil, ← r2.length]
    exact F1.len _ _ _ _ hq
  have hus : us.length ≤ sizeLine := by
    rw [← Paired.length r1, sizeLine_eq]
    omega
  have bnd := hb _ (Value.ref (hp.objs.size + 1) :: us) I2.kIn hl
  rw [List.append_nil] at bnd
  refine wpAny_call (PySem.HandSPX.call_own PySem.F.excBase_Exception (fun Y => (tail_has Y bm).trans (by rw [hbm'])) (I1.kIn _ _ hC) (PySem.W.looks_findIn I1.kIn iC) (fun self => PySem.W.bind_fn I1.kIn self tI) hus
    (codeAny_mono (F1.run _ X.stack _ _ ⟨Value.ref (hp.objs.size + 1) :: us, []⟩ (Value.ref (hp.objs.size + 1) :: us) _ _ (fun _ _ _ => False) (hr.make C us []) (I2.env0.make C us []) bnd r2 hq) fun r s' hq' => ?_))
  rcases r with er | fl'
  · exact hx pins σ _ _ er s' I2 hq'
  · cases fl' with
    | ret u =>
      obtain ⟨v, H2, os2, bare2, un2, hok2, rv, ev, d, fs, ea, ed, hd1, q2⟩ := hq'
      subst ev
      obtain ⟨h2, g2, d2, t2, os'⟩ := s'
      exact ⟨rv, mk_end (raises_own T.exC T.tyC) I1 big kk un2 hok2 os2 bare2 ea ed hd1 q2⟩
    | next => exact hq'.elim
    | brk => exact hq'.elim
    | cont => exact hq'.elim
/-- raise C(e, ..) -/
theorem ps_raiseE {CX : CXT} {W : WX} {x : Str} {C fI : Addr} {k : Nat} {fd : FuncData} {ps : List Str} {sp : Sp} {pos2 : Pos} (hc : X.calm = true) (tk : Takes X W) (T : ErrC X.K C fl) (iC : PySem.W.findIn X.K (.ref C) "__init__" = some (some (.ref fI))) (tI : PySem.W.typeIn X.K (.ref fI) = some (.type "function"))
    (F1 : FnOk X.prog X.w X.K X.mg X.base CX k fI fd ps sp) (hr : Room (k + 1) X.A) (hb : Binds X.K fd ps []) (hx : Passes CX X (fun _ _ _ => False)) (hg : Gl X x) (hm : X.mg x = some (.ref C)) (ha : PA X (e :: es) ta)
    (hdb : (x == ("__debug__" : Str)) = false := by decide) (he : starEach (e :: es) X.env = (false, eval e X.env) :: starEach es X.env := by rfl) (hpl : (backTo pos (starEach es X.env)).any (·.1) = false := by rfl) :
    PS X (.Raise (some (.Call (.Name x p) (e :: es) [] pos)) none pos2) (fun _ σ H => tMkE C sp ta σ H fun cls d H' => W cls d σ H') := ps_raise hc tk (pmk_E T iC tI F1 hr hb hx hg hm ha hdb he hpl)
end
end K0
set_option Elab.async false
set_option linter.all false
set_option maxRecDepth 100000
set_option maxHeartbeats 2000000
namespace K0
open PySem PySem.Spec PyProof.Rows L2
theorem PS_imp {X : Cx} {st : Stmt} {t t' : TS} (h : PS X st t) (i : ∀ D σ H, t' D σ H → t D σ H) : PS X st t' := ⟨fun pins s σ H D I q => h.run pins s σ H D I (i D σ H q)⟩
/-- a def that lets nothing out is one that may -/
theorem up0 {P : Program} {w : World} {K : PySem.W.Frag} {mg : Str → Option Value} {base : Heap} {CX : CXT} {k : Nat} {f : Addr} {fd : FuncData} {ps : List Str} {sp : Sp} (F : FnOk P w K mg base CX0 k f fd ps sp) : FnOk P w K mg base CX k f fd ps sp :=
  ⟨F.len, fun A outer s H args us vs Q E hr he hb hv hs => codeAny_mono (F.run A outer s H args us vs Q E hr he hb hv hs) fun r s' h => by
    cases r with
    | error e => exact False.elim h
    | ok fl => cases fl <;> exact h⟩
theorem passN {X : Cx} : Passes CX0 X (fun _ _ _ => False) := fun _ _ _ _ _ _ _ h => h.elim
theorem passUp {P : Program} {w : World} {K : PySem.W.Frag} {mg : Str → Option Value} {base : Heap} {N : List Str} {qual : Str} {sc : Scope} {f : Addr} {cd : Value} {A : Around} {outer : List Env} {s : Shared} {H : Hp} {E : XK} :
    Passes (L2.CX P w) (cxOf (L2.CX P w) P w K mg base N qual sc f cd A outer s H E) E := passes_call (takes_of rfl rfl rfl rfl) fun _ _ _ _ h => h
/-! ### the __init__ of an error with one, with two fields -/
abbrev s_e1 : Stmt := inClass (top 4) 0
abbrev s_eW : Stmt := inClass (top 5) 0
abbrev s_eT : Stmt := inClass (top 6) 0
abbrev s_eP : Stmt := inClass (top 7) 0
def spE1 (C : Addr) (f : Str) : Sp := fun vs H Q _ => ∃ (a : Addr) (v : V), vs = [.ref a, v] ∧ H a = some (exo a C none) ∧ ∀ dx, H dx = none → dx ≠ a → Q .non (upd (upd H dx (exd dx [(f, v)])) a (exo a C (some dx)))
def spE2 (C : Addr) (f g : Str) : Sp := fun vs H Q _ => ∃ (a : Addr) (v u : V), vs = [.ref a, v, u] ∧ H a = some (exo a C none) ∧ ∀ dx, H dx = none → dx ≠ a → Q .non (upd (upd (upd H dx (exd dx [(f, v)])) a (exo a C (some dx))) dx (exd dx [(g, u), (f, v)]))
section
variable {P : Program} {w : World} {K : PySem.W.Frag} {mg : Str → Option Value} {base : Heap} {f C : Addr} {fd : FuncData}
theorem sc_e1 : FnScope ["self", "name"] ["self", "name"] (defScope s_e1) := ⟨rfl, rfl, rfl, by decide +kernel, rfl, by decide +kernel, by decide +kernel⟩
theorem ok_e1 (F : Fun K "__init__" "BadNumber.__init__" s_e1 f fd) (T : ErrC K C ["name"]) : FnOk P w K mg base CX0 1 f fd ["self", "name"] (spE1 C "name") := by
  refine F.ok sc_e1 (fun vs H Q E h => ?_) (fun cdv A outer s H vs Q E hr h => ?_)
  · obtain ⟨a, v, rfl, _⟩ := h
    rfl
  · obtain ⟨a, v, rfl, ha, q⟩ := h
    refine ⟨_, pss_one (ps_stE (fl := ["name"]) (pv 0) (pv 1)), ?_⟩
    exact ⟨_, rfl, _, rfl, a, C, rfl, T, by decide, .inl ⟨ha, fun dx n ne => q dx n ne⟩⟩
theorem sc_eT : FnScope ["self", "thing"] ["self", "thing"] (defScope s_eT) := ⟨rfl, rfl, rfl, by decide +kernel, rfl, by decide +kernel, by decide +kernel⟩
theorem ok_eT (F : Fun K "__init__" "BadThing.__init__" s_eT f fd) (T : ErrC K C ["thing"]) : FnOk P w K mg base CX0 1 f fd ["self", "thing"] (spE1 C "thing") := by
  refine F.ok sc_eT (fun vs H Q E h => ?_) (fun cdv A outer s H vs Q E hr h => ?_)
  · obtain ⟨a, v, rfl, _⟩ := h
    rfl
  · obtain ⟨a, v, rfl, ha, q⟩ := h
    refine ⟨_, pss_one (ps_stE (fl := ["thing"]) (pv 0) (pv 1)), ?_⟩
    exact ⟨_, rfl, _, rfl, a, C, rfl, T, by decide, .inl ⟨ha, fun dx n ne => q dx n ne⟩⟩
theorem sc_eP : FnScope ["self", "place"] ["self", "place"] (defScope s_eP) := ⟨rfl, rfl, rfl, by decide +kernel, rfl, by decide +kernel, by decide +kernel⟩
theorem ok_eP (F : Fun K "__init__" "BadPart.__init__" s_eP f fd) (T : ErrC K C ["place"]) : FnOk P w K mg base CX0 1 f fd ["self", "place"] (spE1 C "place") := by
  refine F.ok sc_eP (fun vs H Q E h => ?_) (fun cdv A outer s H vs Q E hr h => ?_)
  · obtain ⟨a, v, rfl, _⟩ := h
    rfl
  · obtain ⟨a, v, rfl, ha, q⟩ := h
    refine ⟨_, pss_one (ps_stE (fl := ["place"]) (pv 0) (pv 1)), ?_⟩
    exact ⟨_, rfl, _, rfl, a, C, rfl, T, by decide, .inl ⟨ha, fun dx n ne => q dx n ne⟩⟩
theorem sc_eW : FnScope ["self", "x", "y"] ["self", "x", "y"] (defScope s_eW) := ⟨rfl, rfl, rfl, by decide +kernel, rfl, by decide +kernel, by decide +kernel⟩
theorem ok_eW (F : Fun K "__init__" "BadWeb.__init__" s_eW f fd) (T : ErrC K C ["x", "y"]) : FnOk P w K mg base CX0 1 f fd ["self", "x", "y"] (spE2 C "x" "y") := by
  refine F.ok sc_eW (fun vs H Q E h => ?_) (fun cdv A outer s H vs Q E hr h => ?_)
  · obtain ⟨a, v, u, rfl, _⟩ := h
    rfl
  · obtain ⟨a, v, u, rfl, ha, q⟩ := h
    refine ⟨_, pss_cons (ps_stE (fl := ["x", "y"]) (pv 0) (pv 1)) (pss_one (ps_stE (fl := ["x", "y"]) (pv 0) (pv 2))), ?_⟩
    refine ⟨_, rfl, _, rfl, a, C, rfl, T, by decide, .inl ⟨ha, fun dx n ne => ?_⟩⟩
    exact ⟨_, rfl, _, rfl, a, C, rfl, T, by decide, .inr ⟨dx, _, upd_same, (by rw [upd_ne ne, upd_same]), (by show 1 ≤ 900; decide), q dx n ne⟩⟩
end
/-! ### raising them -/
/-- an error class with its __init__, as it stands behind the top -/
structure Er (P : Program) (w : World) (K : PySem.W.Frag) (mg : Str → Option Value) (base : Heap) (x : Str) (C : Addr) (fl ps : List Str) (sp : Sp) : Prop where
  T : ErrC K C fl
  g : mg x = some (.ref C)
  ex : ∃ (fI : Addr) (fd : FuncData), PySem.W.findIn K (.ref C) "__init__" = some (some (.ref fI)) ∧ PySem.W.typeIn K (.ref fI) = some (.type "function") ∧ FnOk P w K mg base CX0 1 fI fd ps sp ∧ Binds K fd ps []
section
variable {X : Cx} {e e2 : Expr} {te te2 : TE} {x f g : Str} {C : Addr} {W : WX} {p pos pos2 : Pos}
def tRz1 (C : Addr) (f : Str) (W : WX) (te : TE) : TS := fun _ σ H => te σ H fun v H1 => ∀ d, H1 d = none → W (.ref C) (some d) σ (upd H1 d (.xd [(f, v)]))
theorem ps_rz1 (hc : X.calm = true) (tk : Takes X W) (T : Er X.prog X.w X.K X.mg X.base x C [f] ["self", f] (spE1 C f)) (hr : Room 2 X.A) (hg : Gl X x) (he : PE X e te)
    (mono : ∀ σ H (Q Q' : VK), (∀ v H', Q v H' → Q' v H') → te σ H Q → te σ H Q')
    (hdb : (x == ("__debug__" : Str)) = false := by decide) (hs : starEach [e] X.env = (false, eval e X.env) :: starEach [] X.env := by rfl) (hpl : (backTo pos (starEach [] X.env)).any (·.1) = false := by rfl) :
    PS X (.Raise (some (.Call (.Name x p) [e] [] pos)) none pos2) (tRz1 C f W te) := by
  obtain ⟨fI, fd, i1, i2, F, b⟩ := T.ex
  refine PS_imp (ps_raiseE hc tk T.T i1 i2 F hr b passN hg T.g (pa_cons he pa_nil hs) hdb hs hpl) fun D σ H q => ?_
  refine mono σ H _ _ (fun v H1 q1 => ?_) q
  refine ⟨by show 1 ≤ 1000; decide, fun a ha => ⟨a, v, rfl, upd_same, fun dx n ne => ⟨rfl, dx, [(f, v)], upd_same, ?_, ?_, ?_⟩⟩⟩
  · rw [upd_ne ne, upd_same]
  · rw [upd_ne ne] at n
    exact n
  · have n' : H1 dx = none := by rw [upd_ne ne] at n; exact n
    have z := q1 dx n'
    have eq : upd (del (upd (upd (upd H1 a (exo a C none)) dx (exd dx [(f, v)])) a (exo a C (some dx))) a) dx (HO.xd [(f, v)]) = upd H1 dx (.xd [(f, v)]) := by
      funext b
      by_cases hb : b = dx
      · rw [hb, upd_same, upd_same]
      · rw [upd_ne hb, upd_ne hb]
        by_cases hba : b = a
        · rw [hba, del_same, ha]
        · rw [del_ne hba, upd_ne hba, upd_ne hb, upd_ne hba]
    rw [eq]
    exact z
def tRz2 (C : Addr) (f g : Str) (W : WX) (te te2 : TE) : TS := fun _ σ H => te σ H fun v H0 => te2 σ H0 fun u H1 => ∀ d, H1 d = none → W (.ref C) (some d) σ (upd H1 d (.xd [(g, u), (f, v)]))
theorem ps_rz2 (hc : X.calm = true) (tk : Takes X W) (T : Er X.prog X.w X.K X.mg X.base x C [f, g] ["self", f, g] (spE2 C f g)) (hr : Room 2 X.A) (hg : Gl X x) (he : PE X e te) (he2 : PE X e2 te2)
    (mono : ∀ σ H (Q Q' : VK), (∀ v H', Q v H' → Q' v H') → te σ H Q → te σ H Q') (mono2 : ∀ σ H (Q Q' : VK), (∀ v H', Q v H' → Q' v H') → te2 σ H Q → te2 σ H Q')
    (hdb : (x == ("__debug__" : Str)) = false := by decide) (hs : starEach [e, e2] X.env = (false, eval e X.env) :: starEach [e2] X.env := by rfl) (hs2 : starEach [e2] X.env = (false, eval e2 X.env) :: starEach [] X.env := by rfl) (hpl : (backTo pos (starEach [e2] X.env)).any (·.1) = false := by rfl) :
    PS X (.Raise (some (.Call (.Name x p) [e, e2] [] pos)) none pos2) (tRz2 C f g W te te2) := by
  obtain ⟨fI, fd, i1, i2, F, b⟩ := T.ex
  refine PS_imp (ps_raiseE hc tk T.T i1 i2 F hr b passN hg T.g (pa_cons he (pa_cons he2 pa_nil hs2) hs) hdb hs hpl) fun D σ H q => ?_
  refine mono σ H _ _ (fun v H0 q0 => mono2 σ H0 _ _ (fun u H1 q1 => ?_) q0) q
  refine ⟨by show 2 ≤ 1000; decide, fun a ha => ⟨a, v, u, rfl, upd_same, fun dx n ne => ⟨rfl, dx, [(g, u), (f, v)], ?_, upd_same, ?_, ?_⟩⟩⟩
  · rw [upd_ne ne.symm, upd_same]
  · rw [upd_ne ne] at n
    exact n
  · have n' : H1 dx = none := by rw [upd_ne ne] at n; exact n
    have z := q1 dx n'
    have eq : upd (del (upd (upd (upd (upd H1 a (exo a C none)) dx (exd dx [(f, v)])) a (exo a C (some dx))) dx (exd dx [(g, u), (f, v)])) a) dx (HO.xd [(g, u), (f, v)]) = upd H1 dx (.xd [(g, u), (f, v)]) := by
      funext b
      by_cases hb : b = dx
      · rw [hb, upd_same, upd_same]
      · rw [upd_ne hb, upd_ne hb]
        by_cases hba : b = a
        · rw [hba, del_same, ha]
        · rw [del_ne hba, upd_ne hb, upd_ne hba, upd_ne hb, upd_ne hba]
    rw [eq]
    exact z
end
theorem mono_var (i : Nat) : ∀ (σ : L2.St) (H : Hp) (Q Q' : VK), (∀ v H', Q v H' → Q' v H') → tVar i σ H Q → tVar i σ H Q' := fun _ _ _ _ h ⟨v, e, q⟩ => ⟨v, e, h _ _ q⟩
theorem mono_c (v : V) : ∀ (σ : L2.St) (H : Hp) (Q Q' : VK), (∀ v H', Q v H' → Q' v H') → tC v σ H Q → tC v σ H Q' := fun _ _ _ _ h q => h _ _ q
end K0
set_option Elab.async false
set_option linter.all false
set_option maxRecDepth 100000
set_option maxHeartbeats 2000000
namespace K0
open PySem PySem.Spec PyProof.Rows L2
abbrev s_check_number : Stmt := top 12
abbrev s_check_thing : Stmt := top 13
abbrev s_check_two : Stmt := top 14
/-- a def of the program as it stands: its name, its promise -/
structure Df (P : Program) (w : World) (K : PySem.W.Frag) (mg : Str → Option Value) (base : Heap) (x : Str) (k : Nat) (ps : List Str) (sp : Sp) : Prop where
  ex : ∃ (f : Addr) (fd : FuncData), mg x = some (.ref f) ∧ PySem.W.keepIn K (.ref f) = true ∧ FnOk P w K mg base (L2.CX P w) k f fd ps sp ∧ Binds K fd ps []
/-- the call of such a def -/
theorem pe_df {X : Cx} {x : Str} {k : Nat} {ps : List Str} {sp : Sp} {E : XK} {e : Expr} {es : List Expr} {t : TA} {p pos : Pos} (T : Df X.prog X.w X.K X.mg X.base x k ps sp) (hr : Room k X.A) (hg : Gl X x) (hx : Passes (L2.CX X.prog X.w) X E) (ha : PA X (e :: es) t)
    (hdb : (x == ("__debug__" : Str)) = false := by decide) (he : starEach (e :: es) X.env = (false, eval e X.env) :: starEach es X.env := by rfl) (hpl : (backTo pos (starEach es X.env)).any (·.1) = false := by rfl) :
    PE X (.Call (.Name x p) (e :: es) [] pos) (tCall sp [] E t) := by
  obtain ⟨f, fd, g, kp, F, b⟩ := T.ex
  exact pe_call F hr hg g kp b .nil hx ha hdb he hpl
section
variable {P : Program} {w : World} {K : PySem.W.Frag} {mg : Str → Option Value} {base : Heap} {f : Addr} {fd : FuncData}
/-- a raise of the error at C, with these fields -/
def Rz (C : Addr) (fs : List (Str × V)) (H : Hp) (E : XK) : Prop := ∀ H' d, Same H H' → H' d = some (.xd fs) → E (.ref C) (some d) H'
theorem Rz.at {C : Addr} {fs : List (Str × V)} {H H1 : Hp} {E : XK} (r : Rz C fs H E) (s : Same H H1) {d : Addr} (n : H1 d = none) : E (.ref C) (some d) (upd H1 d (.xd fs)) := r _ d (s.trans (same_upd n)) upd_same
def isTh (n : Int) : PyData → Bool
  | .int i => decide (0 ≤ i ∧ i < n)
  | _ => false
def spTh : Sp := fun vs H Q _ => ∃ n v d, vs = [.int n, v] ∧ Dt H v d ∧ Ret (.bl (isTh n d)) H Q
theorem sc_th : FnScope ["many", "value"] ["many", "value"] (defScope s_is_thing) := ⟨rfl, rfl, rfl, by decide +kernel, rfl, by decide +kernel, by decide +kernel⟩
theorem ok_th (F : Fun K "is_thing" "is_thing" s_is_thing f fd) (I : Df P w K mg base "is_int" 1 ["value"] spInt) : FnOk P w K mg base (L2.CX P w) 2 f fd ["many", "value"] spTh := by
  refine F.okX sc_th (fun vs H Q E h => ?_) (fun cdv A outer s H vs Q E hr h => ?_)
  · obtain ⟨n, v, d, rfl, _⟩ := h
    rfl
  · obtain ⟨n, v, d, rfl, hv, q⟩ := h
    refine ⟨_, pss_one (ps_ret (pe_and (pe_df I hr (by rfl) passUp (pa_cons (pv 1) pa_nil)) (pe_one (pe_chain op_le op_lt pe_int (pv 1) (pv 0))))), ?_⟩
    refine ⟨_, rfl, v, d, rfl, hv, ?_⟩
    cases hv with
    | int i =>
      refine ⟨_, rfl, iteT ⟨_, rfl, _, _, rfl, rfl, _, rfl, ?_⟩⟩
      by_cases h0 : 0 ≤ i
      · rw [decide_eq_true h0]
        refine iteT ⟨_, rfl, _, _, rfl, rfl, ?_⟩
        have e : isTh n (.int i) = decide (i < n) := by
          show decide (0 ≤ i ∧ i < n) = decide (i < n)
          simp [h0]
        rw [e] at q
        exact q.now
      · rw [decide_eq_false h0]
        have e : isTh n (.int i) = false := by
          show decide (0 ≤ i ∧ i < n) = false
          simp [h0]
        rw [e] at q
        exact iteF q.now
    | non => exact ⟨_, rfl, iteF q.now⟩
    | bl b => exact ⟨_, rfl, iteF q.now⟩
    | str b => exact ⟨_, rfl, iteF q.now⟩
    | lst e h => exact ⟨_, rfl, iteF q.now⟩
    | tup e h => exact ⟨_, rfl, iteF q.now⟩
/-- check_thing: the thing itself, or BadThing of it -/
def spCt (C : Addr) : Sp := fun vs H Q E => ∃ n v d, vs = [.int n, v] ∧ Dt H v d ∧ (isTh n d = true → Ret v H Q) ∧ (isTh n d = false → Rz C [("thing", v)] H E)
theorem sc_ct : FnScope ["many", "thing"] ["many", "thing"] (defScope s_check_thing) := ⟨rfl, rfl, rfl, by decide +kernel, rfl, by decide +kernel, by decide +kernel⟩
theorem ok_ct {C : Addr} (F : Fun K "check_thing" "check_thing" s_check_thing f fd) (I : Df P w K mg base "is_thing" 2 ["many", "value"] spTh) (T : Er P w K mg base "BadThing" C ["thing"] ["self", "thing"] (spE1 C "thing")) :
    FnOk P w K mg base (L2.CX P w) 3 f fd ["many", "thing"] (spCt C) := by
  refine F.okX sc_ct (fun vs H Q E h => ?_) (fun cdv A outer s H vs Q E hr h => ?_)
  · obtain ⟨n, v, d, rfl, _⟩ := h
    rfl
  · obtain ⟨n, v, d, rfl, hv, q1, q2⟩ := h
    refine ⟨_, pss_cons (ps_if (pt_not (pt_val (pe_df I hr (by rfl) passUp (pa_cons (pv 0) (pa_cons (pv 1) pa_nil)))))
      (pss_one (ps_rz1 rfl (takes_of rfl rfl rfl rfl) T hr (by rfl) (pv 1) (mono_var 1))) pss_nil) (pss_one (ps_ret (pv 1))), ?_⟩
    refine ⟨_, rfl, _, rfl, n, v, d, rfl, hv, fun H' sm => ⟨_, rfl, ?_⟩⟩
    cases e : isTh n d with
    | true => exact iteF ⟨_, rfl, q1 e H' sm⟩
    | false => exact iteT ⟨_, rfl, fun dd nd => (q2 e).at sm nd⟩
end
end K0
set_option Elab.async false
set_option linter.all false
set_option maxRecDepth 100000
set_option maxHeartbeats 2000000
namespace K0
open PySem PySem.Spec PyProof.Rows L2
section
variable {P : Program} {w : World} {K : PySem.W.Frag} {mg : Str → Option Value} {base : Heap} {f : Addr} {fd : FuncData}
/-- check_number(value, name, least): the value, or BadNumber of the name -/
def okN (l : Int) : PyData → Bool
  | .int i => decide (l ≤ i)
  | _ => false
def spCn (C : Addr) : Sp := fun vs H Q E => ∃ (v : V) (d : PyData) (x : Str) (l : Int), vs = [v, .str x, .int l] ∧ Dt H v d ∧ (okN l d = true → Q v H) ∧ (okN l d = false → Rz C [("name", .str x)] H E)
theorem sc_cn : FnScope ["value", "name", "least"] ["value", "name", "least"] (defScope s_check_number) := ⟨rfl, rfl, rfl, by decide +kernel, rfl, by decide +kernel, by decide +kernel⟩
theorem ok_cn {C : Addr} (F : FunD K "check_number" "check_number" (defArgs s_check_number) (defBody s_check_number) (defScope s_check_number) [.int 0] [] f fd) (I : Df P w K mg base "is_int" 1 ["value"] spInt) (T : Er P w K mg base "BadNumber" C ["name"] ["self", "name"] (spE1 C "name")) :
    FnOk P w K mg base (L2.CX P w) 3 f fd ["value", "name", "least"] (spCn C) := by
  refine F.ok sc_cn (fun vs H Q E h => ?_) (fun cdv A outer s H vs Q E hr h => ?_)
  · obtain ⟨v, d, x, l, rfl, _⟩ := h
    rfl
  · obtain ⟨v, d, x, l, rfl, hv, q1, q2⟩ := h
    have hr1 : Room 1 _ := hr.mono (by decide)
    refine ⟨_, pss_cons (ps_if (PW.pt (pw_or (pt_not (pt_val (pe_df I hr1 (by rfl) passUp (pa_cons (pv 0) pa_nil)))) (pw_or1 (pt_cmpR op_lt (pv 0) (pv 2) (nomark _)))))
      (pss_one (ps_rz1 rfl (takes_of rfl rfl rfl rfl) T hr (by rfl) (pv 1) (mono_var 1))) pss_nil) (pss_one (ps_ret (pv 0))), ?_⟩
    refine ⟨_, rfl, v, d, rfl, hv, _, rfl, ?_⟩
    cases hv with
    | int i =>
      refine iteF ⟨_, rfl, _, rfl, _, _, rfl, rfl, _, rfl, ?_⟩
      by_cases c : i < l
      · rw [decide_eq_true c]
        have e : okN l (.int i) = false := by
          show decide (l ≤ i) = false
          simp [c]
        exact iteT ⟨_, rfl, fun dd nd => (q2 e).at (Same.refl _) nd⟩
      · rw [decide_eq_false c]
        have e : okN l (.int i) = true := by
          show decide (l ≤ i) = true
          simp
          omega
        exact iteF ⟨_, rfl, q1 e⟩
    | non => exact iteT ⟨_, rfl, fun dd nd => (q2 rfl).at (Same.refl _) nd⟩
    | bl b => exact iteT ⟨_, rfl, fun dd nd => (q2 rfl).at (Same.refl _) nd⟩
    | str b => exact iteT ⟨_, rfl, fun dd nd => (q2 rfl).at (Same.refl _) nd⟩
    | lst e h => exact iteT ⟨_, rfl, fun dd nd => (q2 rfl).at (Same.refl _) nd⟩
    | tup e h => exact iteT ⟨_, rfl, fun dd nd => (q2 rfl).at (Same.refl _) nd⟩
/-- the default of least -/
theorem cn_binds (F : FunD K "check_number" "check_number" (defArgs s_check_number) (defBody s_check_number) (defScope s_check_number) [.int 0] [] f fd) : ∃ ds, Vals [V.int 0] ds ∧ Binds K fd ["value", "name", "least"] ds :=
  F.binds1 2 0 (by simp) (by rfl) fun T kV doc pm an cdv ct us its hu hi => match us, hu, its, hi with | [_, _], _, [_], _ => ⟨_, rfl, rfl⟩
/-- check_two_things on whole numbers or anything: None, or BadThing of the first bad one (of y where both are one) -/
def spC2 (C : Addr) : Sp := fun vs H Q E => ∃ n v u d e, vs = [.int n, v, u] ∧ Dt H v d ∧ Dt H u e ∧ (isTh n d = false → Rz C [("thing", v)] H E) ∧ (isTh n d = true → isTh n e = false → Rz C [("thing", u)] H E) ∧
  (isTh n d = true → isTh n e = true → PyData.eqv d e = true → Rz C [("thing", u)] H E) ∧ (isTh n d = true → isTh n e = true → PyData.eqv d e = false → Ret .non H Q)
theorem sc_c2 : FnScope ["many", "x", "y"] ["many", "x", "y"] (defScope s_check_two) := ⟨rfl, rfl, rfl, by decide +kernel, rfl, by decide +kernel, by decide +kernel⟩
theorem th_int {n : Int} {H : Hp} {v : V} {d : PyData} (h : Dt H v d) (t : isTh n d = true) : ∃ i, v = .int i ∧ d = .int i ∧ 0 ≤ i ∧ i < n := by
  cases h with
  | int i =>
    have z : 0 ≤ i ∧ i < n := of_decide_eq_true t
    exact ⟨i, rfl, rfl, z⟩
  | non => cases t
  | bl b => cases t
  | str b => cases t
  | lst e h => cases t
  | tup e h => cases t
theorem ok_c2 {C : Addr} (F : Fun K "check_two_things" "check_two_things" s_check_two f fd) (I : Df P w K mg base "check_thing" 3 ["many", "thing"] (spCt C)) (T : Er P w K mg base "BadThing" C ["thing"] ["self", "thing"] (spE1 C "thing")) :
    FnOk P w K mg base (L2.CX P w) 4 f fd ["many", "x", "y"] (spC2 C) := by
  refine F.okX sc_c2 (fun vs H Q E h => ?_) (fun cdv A outer s H vs Q E hr h => ?_)
  · obtain ⟨n, v, u, d, e, rfl, _⟩ := h
    rfl
  · obtain ⟨n, v, u, d, e, rfl, hv, hu, q1, q2, q3, q4⟩ := h
    have hr2 : Room 2 _ := hr.mono (by decide)
    refine ⟨_, pss_cons (ps_expr (pe_df I hr (by rfl) passUp (pa_cons (pv 0) (pa_cons (pv 1) pa_nil)))) (pss_cons (ps_expr (pe_df I hr (by rfl) passUp (pa_cons (pv 0) (pa_cons (pv 2) pa_nil))))
      (pss_one (ps_if (pt_cmpR op_eq (pv 1) (pv 2) (nomark _)) (pss_one (ps_rz1 rfl (takes_of rfl rfl rfl rfl) T hr2 (by rfl) (pv 2) (mono_var 2))) pss_nil))), ?_⟩
    refine ⟨_, rfl, _, rfl, n, v, d, rfl, hv, fun t1 H1 s1 => ?_, q1⟩
    refine ⟨_, rfl, _, rfl, n, u, e, rfl, hu.mono s1, fun t2 H2 s2 => ?_, fun t2 H' dd s' ed => q2 t1 t2 H' dd (s1.trans s') ed⟩
    have s12 := s1.trans s2
    obtain ⟨i, rfl, rfl, _⟩ := th_int hv t1
    obtain ⟨j, rfl, rfl, _⟩ := th_int hu t2
    refine ⟨_, rfl, _, rfl, rfl, _, rfl, ?_⟩
    rw [dec_int]
    cases c : (i == j) with
    | true => exact iteT ⟨_, rfl, fun dd nd => (q3 t1 t2 (by rw [PyData.eqv]; exact c)).at s12 nd⟩
    | false => exact iteF (q4 t1 t2 (by rw [PyData.eqv]; exact c) _ s12)
end
end K0
set_option Elab.async false
set_option linter.all false
set_option maxRecDepth 100000
set_option maxHeartbeats 2000000
/-! a set of tuples of ints that grows item by item -/
namespace K0
open PySem PySem.Spec PyProof.Rows L2
section
variable {X : Cx}
theorem cr_setT0 : CallR X (.type "set") (fun xs H Q => xs = [] ∧ ∀ p, H p = none → Q (.ref p) (upd H p (SetTO X.prog X.w p []))) := by
  intro pins s σ H xs us Q I r h
  obtain ⟨rfl, q⟩ := h
  cases r
  refine setR_new fun _ => ?_
  have get : (s.heap.push { cls := .type "set", dict := none, data := .set #[] 0 (.fresh 0 0 (!X.w.params.followText "set-order")) }).get? s.heap.objs.size = some { cls := .type "set", dict := none, data := .set #[] 0 (.fresh 0 0 (!X.w.params.followText "set-order")) } := Heap.get?_push_size _ rfl
  have R := setTR_fresh (P := X.prog) (w := X.w) get
  exact ⟨.ref _, _, I.laid (t' := s.toks) (fun b u e => Heap.get?_push_of_some _ e) (Nat.le_refl _) (setTO_new R.t0), rfl, q _ (I.hok.fresh (Nat.le_refl _))⟩
/-- what is asked ahead of found.add(t) -/
def rTAdd (K : PySem.W.Frag) (P : Program) (w : World) : V → List V → Hp → VK → Prop := fun x xs H Q => ∃ (a b : Addr) (k : List Int) (L : List (Addr × List Int)), x = V.ref a ∧ xs = [V.ref b] ∧ H a = some (SetTO P w a L) ∧
  (∀ p ∈ L, SqT K H p.1 (p.2.map V.int)) ∧ SqT K H b (k.map V.int) ∧ L.length + 1 < 64 ∧
  ∀ L', (k ∈ L.map (·.2) → L' = L) → (k ∉ L.map (·.2) → L'.Perm ((b, k) :: L)) → Q .non (upd H a (SetTO P w a L'))
theorem mt_tadd (hu : X.A.units + 64 < cLine) : MtR X "set.add" (rTAdd X.K X.prog X.w) := by
  intro pins s σ H x xs v us Q I rx rxs h
  obtain ⟨a, b, k, L, rfl, rfl, ha, hL, hb, few, q⟩ := h
  cases rx
  rw [Vals.ref1 rxs]
  have R0 : SetT0 X.prog X.w s.heap a L := (I.hok a _ ha).1
  obtain ⟨es, ep, t, R⟩ := R0.full fun p hp => I.isT (hL p hp)
  obtain ⟨o, ho, hex, hd⟩ := R.ob
  have tid : s.TypeIs (.ref a) "set" := ⟨o, ho, hex.1⟩
  refine wpAny_call_entry PySem.F.slot_set_add tid PySem.F.entry_set_add ?_ (PySem.F.args_set_add_2 _ _)
  unfold Builtin.«set.add» Builtin.Frozenset.oneOther
  simp only [List.isEmpty_nil, bind_assoc]
  unfold Builtin.Frozenset.addrOf setAdd
  refine wpAny_bind (wpAny_pure ?_)
  try dsimp only
  refine wpAny_bind (wpAny_pure ?_)
  try dsimp only
  refine wpAny_bind ?_
  refine wpAny_holding ?_
  have hx := I.isT hb
  have hin : ∀ B : Around, B.units ≤ X.A.units + 8 → B.units < cLine := fun B h => by omega
  refine wpAny_bind (wpAny_pyHash_tuple (ks := k) (hin _ ?_) hx ?_)
  · first | exact Nat.le_add_right _ 8 | (show X.A.units + 1 ≤ X.A.units + 8; omega)
  refine add_at (s := { s with toks := s.toks + (k.length + 1) }) R hx (hin _ ?_) few fun bb h' L' es' ep' t' hsb hS2 c1 c2 => ?_
  case _ => first | exact Nat.le_add_right _ 8 | (show X.A.units + 1 ≤ X.A.units + 8; omega)
  show wpAny _ _ (ret Value.none) _ _ _
  have he : ∃ u, h'.get? a = some u := by
    obtain ⟨o2, ho2, _⟩ := hS2.ob
    exact ⟨o2, ho2⟩
  exact wpAny_pure ⟨_, rfl, .non, _, I.write (e := a) (t' := s.toks + (k.length + 1)) (by rw [ha]; trivial) (.inl rfl) (fun b u hb hu => (hsb.2 b hb).trans hu) he (setTO_new hS2.t0), rfl, q L' c1 c2⟩
def tTAdd (K : PySem.W.Frag) (P : Program) (w : World) (to : TE) (t : TA) : TE := fun σ H Q => to σ H fun x H1 => (∃ a L, x = V.ref a ∧ H1 a = some (SetTO P w a L)) ∧ t σ H1 fun xs H2 => rTAdd K P w x xs H2 Q
variable {o e : Expr} {es : List Expr} {to : TE} {t : TA} {apos cpos : Pos}
theorem pe_tadd (hu : X.A.units + 64 < cLine) (ho : PE X o to) (ha : PA X (e :: es) t)
    (hbase : attributeBase o "add" X.env (eval o X.env) = eval o X.env := by rfl)
    (hfew : ((backTo cpos (starEach (e :: es) X.env)).all (fun x => !x.1) && (backToKw cpos (keywordEach [] X.env)).all (fun x => x.1.isSome) && decide ((e :: es).length + ([] : List Keyword).length + (if ([] : List Keyword).isEmpty then 0 else 1) < 30)) = true := by rfl)
    (hline : (apos.endLine == cpos.line) = true := by rfl) (hs : starEach (e :: es) X.env = (false, eval e X.env) :: starEach es X.env := by rfl) (hplain : (backTo cpos (starEach es X.env)).any (·.1) = false := by rfl) :
    PE X (.Call (.Attribute o "add" apos) (e :: es) [] cpos) (tTAdd X.K X.prog X.w to t) := by
  refine ⟨fun pins s σ H Q I h => ?_⟩
  refine wpAny_Call_method_late hbase hfew hline rfl (thn (ho.run pins s σ H _ I h) fun v s1 ⟨x, H1, I1, r1, ty, q1⟩ => ?_)
  obtain ⟨a, L, rfl, hka⟩ := ty
  obtain ⟨es', ep', t', ⟨ob, hob, hex, hdd⟩, _⟩ := SetT0.ex (I1.hok a _ hka).1
  cases r1
  refine ⟨"set", "set.add", PySem.F.plainAttrs_set, PySem.F.slot_set_add, PySem.F.type_set_add, ⟨ob, hob, hex.1⟩, (fun z hz => by cases hz; exact ⟨ob, hob, hex.2.1⟩), ?_⟩
  have hA := ha.run cpos pins s1 σ H1 _ I1 q1
  rw [hs] at hA ⊢
  refine Calls.callWith_builtin (by show (false || (backTo cpos (starEach es X.env)).any (·.1)) = false; rw [hplain]; rfl) (Calls.evalArgs_plain ?_)
  exact thn hA fun us s2 ⟨vs, H2, I2, r2, q2⟩ => mt_tadd hu pins s2 σ H2 (.ref a) vs (.ref a) us Q I2 rfl r2 q2
end
end K0
set_option Elab.async false
set_option linter.all false
set_option maxRecDepth 100000
set_option maxHeartbeats 2000000
namespace K0
open PySem PySem.Spec PyProof.Rows L2
/-! ### plain facts -/
theorem bor_nat (a b : Nat) : Builtin.bitOr (a : Int) (b : Int) = ((a ||| b : Nat) : Int) := by
  have h1 : ¬ 0 ≤ Builtin.bitNot (a : Int) := by unfold Builtin.bitNot; omega
  have h2 : ¬ 0 ≤ Builtin.bitNot (b : Int) := by unfold Builtin.bitNot; omega
  have n : ∀ c : Nat, Builtin.bitNot (Builtin.bitNot (c : Int)) = (c : Int) := fun c => by unfold Builtin.bitNot; omega
  unfold Builtin.bitOr
  rw [bitAnd_nn h1 h2, n, n, n, Int.toNat_natCast, Int.toNat_natCast]
theorem len_sub {α : Type} [DecidableEq α] : ∀ (l m : List α), l.Nodup → (∀ x ∈ l, x ∈ m) → l.length ≤ m.length
  | [], _, _, _ => Nat.zero_le _
  | a :: l, m, hn, hs => by
    have ha : a ∈ m := hs a List.mem_cons_self
    obtain ⟨hna, hnl⟩ := List.nodup_cons.mp hn
    have ih := len_sub l (m.erase a) hnl fun x hx => (List.mem_erase_of_ne (fun e => hna (by rw [← e]; exact hx))).mpr (hs x (List.mem_cons_of_mem _ hx))
    rw [List.length_erase_of_mem ha] at ih
    have := List.length_pos_of_mem ha
    rw [List.length_cons]
    omega
/-! ### pairs -/
abbrev Pr := Int × Int
/-- below, as tuples are -/
def plt (p q : Pr) : Prop := p.1 < q.1 ∨ (p.1 = q.1 ∧ p.2 < q.2)
theorem plt_trans {p q r : Pr} (h : plt p q) (h' : plt q r) : plt p r := by unfold plt at *; omega
theorem plt_irrefl {p : Pr} : ¬ plt p p := by unfold plt; omega
theorem plt_asymm {p q : Pr} (h : plt p q) : ¬ plt q p := by unfold plt at *; omega
theorem srt_unique : ∀ {l m : List Pr}, l.Pairwise plt → m.Pairwise plt → (∀ x, x ∈ l ↔ x ∈ m) → l = m
  | [], [], _, _, _ => rfl
  | [], b :: m, _, _, h => by cases (h b).mpr List.mem_cons_self
  | a :: l, [], _, _, h => by cases (h a).mp List.mem_cons_self
  | a :: l, b :: m, hl, hm, h => by
    obtain ⟨al, ll⟩ := List.pairwise_cons.mp hl
    obtain ⟨bm, mm⟩ := List.pairwise_cons.mp hm
    have e : a = b := by
      rcases List.mem_cons.mp ((h a).mp List.mem_cons_self) with e | e
      · exact e
      rcases List.mem_cons.mp ((h b).mpr List.mem_cons_self) with e2 | e2
      · exact e2.symm
      exact absurd (al b e2) (plt_asymm (bm a e))
    subst e
    rw [srt_unique ll mm fun x => ⟨fun hx => ?_, fun hx => ?_⟩]
    · rcases List.mem_cons.mp ((h x).mp (List.mem_cons_of_mem _ hx)) with e | e
      · rw [e] at hx
        exact absurd (al a hx) plt_irrefl
      · exact e
    · rcases List.mem_cons.mp ((h x).mpr (List.mem_cons_of_mem _ hx)) with e | e
      · rw [e] at hx
        exact absurd (bm a hx) plt_irrefl
      · exact e
/-- all pairs x < y < n stand among these -/
def code8 : List Pr := (List.range 8).flatMap fun (x : Nat) => ((List.range 8).filter fun (y : Nat) => decide (x < y)).map fun (y : Nat) => ((x : Int), (y : Int))
theorem code8_len : code8.length = 28 := by decide +kernel
theorem mem_code8 {p : Pr} (h : 0 ≤ p.1 ∧ p.1 < p.2 ∧ p.2 < 8) : p ∈ code8 := by
  obtain ⟨x, y⟩ := p
  obtain ⟨h1, h2, h3⟩ := h
  obtain ⟨a, rfl⟩ := Int.eq_ofNat_of_zero_le h1
  obtain ⟨b, rfl⟩ := Int.eq_ofNat_of_zero_le (show (0 : Int) ≤ y by omega)
  unfold code8
  refine List.mem_flatMap.mpr ⟨a, List.mem_range.mpr (by omega), List.mem_map.mpr ⟨b, List.mem_filter.mpr ⟨List.mem_range.mpr (by omega), decide_eq_true (by omega)⟩, rfl⟩⟩
/-- a row of clashes as a web holds it -/
structure Cl (n : Int) (q : List Pr) : Prop where
  srt : q.Pairwise plt
  rng : ∀ p ∈ q, 0 ≤ p.1 ∧ p.1 < p.2 ∧ p.2 < n
theorem pairwise_nodup {l : List Pr} (h : l.Pairwise plt) : l.Nodup := List.Pairwise.imp (R := plt) (S := fun a b => a ≠ b) (fun {a b} hab e => plt_irrefl (p := b) (by rw [e] at hab; exact hab)) h
theorem few28 {n : Int} {q : List Pr} (hn : n ≤ 8) (nd : q.Nodup) (rng : ∀ p ∈ q, 0 ≤ p.1 ∧ p.1 < p.2 ∧ p.2 < n) : q.length ≤ 28 := by
  rw [← code8_len]
  exact len_sub q code8 nd fun p hp => mem_code8 ⟨(rng p hp).1, (rng p hp).2.1, Int.lt_of_lt_of_le (rng p hp).2.2 hn⟩
theorem Cl.few {n : Int} {q : List Pr} (h : Cl n q) (hn : n ≤ 8) : q.length ≤ 28 := few28 hn (pairwise_nodup h.srt) h.rng
/-! ### what an entry of clashes is worth -/
def pairOf : PyData → Option (PyData × PyData)
  | .list [x, y] => some (x, y)
  | .tuple [x, y] => some (x, y)
  | _ => none
def entOf (n : Int) (d : PyData) : Except (PyData × PyData) Pr :=
  match pairOf d with
  | none => .error (.none, .none)
  | some (.int x, .int y) => if 0 ≤ x ∧ x < n ∧ 0 ≤ y ∧ y < n ∧ x ≠ y then .ok (min x y, max x y) else .error (.int x, .int y)
  | some (x, y) => .error (x, y)
/-- all entries, or the first bad one -/
def entsOf (n : Int) : List PyData → Except (PyData × PyData) (List Pr)
  | [] => .ok []
  | d :: r => match entOf n d with
    | .error e => .error e
    | .ok p => match entsOf n r with
      | .error e => .error e
      | .ok ps => .ok (p :: ps)
theorem entsOf_app {n : Int} : ∀ {ds es : List PyData} {ps : List Pr}, entsOf n ds = .ok ps → entsOf n (ds ++ es) = (match entsOf n es with | .error e => .error e | .ok qs => .ok (ps ++ qs))
  | [], es, ps, h => by
    cases h
    show entsOf n es = _
    cases entsOf n es <;> rfl
  | d :: r, es, ps, h => by
    rw [entsOf] at h
    rw [List.cons_append, entsOf]
    cases e : entOf n d with
    | error x => rw [e] at h; cases h
    | ok p =>
      rw [e] at h
      dsimp only at h ⊢
      cases e2 : entsOf n r with
      | error x => rw [e2] at h; cases h
      | ok qs =>
        rw [e2] at h
        cases h
        rw [entsOf_app e2]
        cases entsOf n es <;> rfl
theorem entOf_rng {n : Int} {d : PyData} {p : Pr} (h : entOf n d = .ok p) : 0 ≤ p.1 ∧ p.1 < p.2 ∧ p.2 < n := by
  unfold entOf at h
  split at h
  · cases h
  · split at h
    · cases h
      dsimp only
      omega
    · cases h
  · cases h
theorem pairOf_is (d : PyData) : isPairD d = (pairOf d).isSome := by
  unfold isPairD pairOf
  cases d with
  | list xs =>
    match xs with
    | [] => rfl
    | [_] => rfl
    | [_, _] => rfl
    | _ :: _ :: _ :: r => simp
  | tuple xs =>
    match xs with
    | [] => rfl
    | [_] => rfl
    | [_, _] => rfl
    | _ :: _ :: _ :: r => simp
  | _ => rfl
end K0
set_option Elab.async false
set_option linter.all false
set_option maxRecDepth 100000
set_option maxHeartbeats 2000000
namespace K0
open PySem PySem.Spec PyProof.Rows L2
abbrev s_cc : Stmt := top 21
theorem pi_or {X : Cx} {tg it : Expr} {w1 w2 : TI} (h1 : PI X tg it w1) (h2 : PI X tg it w2) : PI X tg it (fun σ H R => w1 σ H R ∨ w2 σ H R) := ⟨fun pins s σ H R I h => h.elim (h1.run pins s σ H R I) (h2.run pins s σ H R I)⟩
theorem pg_or {X : Cx} {tg : Expr} {w1 w2 : TG} (h1 : PG X tg w1) (h2 : PG X tg w2) : PG X tg (fun v σ H Q => w1 v σ H Q ∨ w2 v σ H Q) := ⟨fun pins s σ H v u Q I r h => h.elim (h1.run pins s σ H v u Q I r) (h2.run pins s σ H v u Q I r)⟩
/-- a list or tuple of data, or the () that the program was loaded with -/
inductive Sq (K : PySem.W.Frag) (H : Hp) (a : Addr) (ds : List PyData) : Prop where
  | lst {xs : List V} (e : H a = some (.lst xs)) (h : DtAll H xs ds)
  | tup {xs : List V} (e : H a = some (.tup xs)) (h : DtAll H xs ds)
  | kon (e : ∀ H' : Hp, SqT K H' a []) (z : ds = [])
theorem Sq.mono {K : PySem.W.Frag} {H H' : Hp} (s : Same H H') {a : Addr} {ds : List PyData} : Sq K H a ds → Sq K H' a ds
  | .lst e h => .lst (s _ _ e) (h.mono s)
  | .tup e h => .tup (s _ _ e) (h.mono s)
  | .kon e z => .kon e z
def prD (p : Pr) : PyData := .tuple [.int p.1, .int p.2]
theorem dt_pr {H : Hp} {t : Addr} {p : Pr} (h : H t = some (.tup [.int p.1, .int p.2])) : Dt H (.ref t) (prD p) := .tup h (.cons (.int _) (.cons (.int _) .nil))
theorem dtAll_prs {H : Hp} : ∀ {l : List (Addr × Pr)}, (∀ z ∈ l, H z.1 = some (.tup [.int z.2.1, .int z.2.2])) → DtAll H (l.map fun z => V.ref z.1) (l.map fun z => prD z.2)
  | [], _ => .nil
  | z :: r, h => .cons (dt_pr (h z List.mem_cons_self)) (dtAll_prs fun y hy => h y (List.mem_cons_of_mem _ hy))
section
variable {P : Program} {w : World} {K : PySem.W.Frag} {mg : Str → Option Value} {base : Heap} {f : Addr} {fd : FuncData}
structure Blt2 (mg : Str → Option Value) : Prop extends Blt mg where
  set : mg "set" = none
  min : mg "min" = none
  max : mg "max" = none
  sorted : mg "sorted" = none
  range : mg "range" = none
  enum : mg "enumerate" = none
  repr : mg "repr" = none
  iter : mg "iter" = none
/-- a new tuple of the pairs q -/
def NewQ (q : List Pr) (H : Hp) (Q : VK) : Prop := ∀ H' a xs, Same H H' → H a = none → H' a = some (.tup xs) → (∃ l : List (Addr × Pr), xs = l.map (fun z => V.ref z.1) ∧ q = l.map (·.2) ∧ ∀ z ∈ l, H z.1 = none ∧ H' z.1 = some (.tup [.int z.2.1, .int z.2.2])) → Q (.ref a) H'
/-- checked_clashes: the clashes as a web holds them, or BadWeb of the first bad entry -/
def spCC (K : PySem.W.Frag) (C : Addr) : Sp := fun vs H Q E => ∃ n a ds, vs = [.int n, .ref a] ∧ n ≤ 8 ∧ Sq K H a ds ∧
  (∀ ps, entsOf n ds = .ok ps → ∀ q, Cl n q → (∀ p, p ∈ q ↔ p ∈ ps) → NewQ q H Q) ∧
  (∀ x y, entsOf n ds = .error (x, y) → ∀ H' d vx vy, Same H H' → Dt H' vx x → Dt H' vy y → H' d = some (.xd [("y", vy), ("x", vx)]) → E (.ref C) (some d) H')
/-- behind some items: the set at s holds the pairs ps, its tuples at their places -/
structure Sofar (P : Program) (w : World) (H0 H : Hp) (s : Addr) (n : Int) (ps : List Pr) : Prop where
  same : Same H0 H
  new : H0 s = none
  set : ∃ L : List (Addr × List Int), H s = some (SetTO P w s L) ∧ (L.map (·.2)).Nodup ∧ (∀ z ∈ L, H0 z.1 = none ∧ H z.1 = some (.tup (z.2.map V.int)) ∧ ∃ p ∈ ps, z.2 = [p.1, p.2]) ∧ ∀ p ∈ ps, ([p.1, p.2] : List Int) ∈ L.map (·.2)
theorem pair_at {H : Hp} {v : V} {d dx dy : PyData} (h : Dt H v d) (e : pairOf d = some (dx, dy)) : ∃ a vx vy, v = .ref a ∧ (H a = some (.tup [vx, vy]) ∨ H a = some (.lst [vx, vy])) ∧ Dt H vx dx ∧ Dt H vy dy := by
  cases h with
  | @lst a xs ds ea h =>
    match ds, h, e with
    | [_, _], .cons h1 (.cons h2 .nil), e =>
      cases e
      exact ⟨a, _, _, rfl, .inr ea, h1, h2⟩
  | @tup a xs ds ea h =>
    match ds, h, e with
    | [_, _], .cons h1 (.cons h2 .nil), e =>
      cases e
      exact ⟨a, _, _, rfl, .inl ea, h1, h2⟩
  | non => cases e
  | bl b => cases e
  | int i => cases e
  | str x => cases e
theorem Sofar.start {H : Hp} {s : Addr} {n : Int} (ns : H s = none) : Sofar P w H (upd H s (SetTO P w s [])) s n [] :=
  ⟨same_upd ns, ns, [], upd_same, List.nodup_nil, fun z hz => (by cases hz), fun p hp => (by cases hp)⟩
theorem Sofar.far {H0 H H1 : Hp} {s : Addr} {n : Int} {ps : List Pr} (h : Sofar P w H0 H s n ps) (e : Same H H1) : Sofar P w H0 H1 s n ps := by
  obtain ⟨L, h1, h2, h3, h4⟩ := h.set
  exact ⟨h.same.trans e, h.new, L, e _ _ h1, h2, fun z hz => ⟨(h3 z hz).1, e _ _ (h3 z hz).2.1, (h3 z hz).2.2⟩, h4⟩
/-- the set holds few -/
theorem Sofar.few {H0 H : Hp} {s : Addr} {n : Int} {ps : List Pr} {L : List (Addr × List Int)} (hn : n ≤ 8) (rng : ∀ p ∈ ps, 0 ≤ p.1 ∧ p.1 < p.2 ∧ p.2 < n) (nd : (L.map (·.2)).Nodup) (hL : ∀ z ∈ L, ∃ p ∈ ps, z.2 = [p.1, p.2]) : L.length ≤ 28 := by
  let g : Addr × List Int → Pr := fun z => (z.2.getD 0 0, z.2.getD 1 0)
  have hg : ∀ z ∈ L, g z ∈ ps ∧ z.2 = [(g z).1, (g z).2] := fun z hz => by
    obtain ⟨p, hp, e⟩ := hL z hz
    have eg : g z = p := by
      show (z.2.getD 0 0, z.2.getD 1 0) = p
      rw [e]
      rfl
    rw [eg]
    exact ⟨hp, e⟩
  have nd2 : (L.map g).Nodup := by
    refine List.pairwise_map.mpr ?_
    refine List.Pairwise.imp_of_mem (fun {a b} ha hb hne e => ?_) (List.pairwise_map.mp nd)
    refine hne ?_
    rw [(hg a ha).2, (hg b hb).2, e]
  have := few28 hn nd2 fun p hp => by
    obtain ⟨z, hz, e⟩ := List.mem_map.mp hp
    rw [← e]
    exact rng _ (hg z hz).1
  rw [List.length_map] at this
  exact this
theorem Sofar.add {H0 H : Hp} {s b : Addr} {n : Int} {ps : List Pr} {p : Pr} {L L' : List (Addr × List Int)} (hS : H0 s = none) (sm : Same H0 H) (h1 : H s = some (SetTO P w s L)) (h2 : (L.map (·.2)).Nodup)
    (h3 : ∀ z ∈ L, H0 z.1 = none ∧ H z.1 = some (.tup (z.2.map V.int)) ∧ ∃ p ∈ ps, z.2 = [p.1, p.2]) (h4 : ∀ p ∈ ps, ([p.1, p.2] : List Int) ∈ L.map (·.2)) (hb : H0 b = none) (hbt : H b = some (.tup [.int p.1, .int p.2]))
    (c1 : ([p.1, p.2] : List Int) ∈ L.map (·.2) → L' = L) (c2 : ([p.1, p.2] : List Int) ∉ L.map (·.2) → L'.Perm ((b, [p.1, p.2]) :: L)) : Sofar P w H0 (upd H s (SetTO P w s L')) s n (ps ++ [p]) := by
  have sm2 : Same H0 (upd H s (SetTO P w s L')) := fun c o e => by
    rw [upd_ne (ne_of_none e hS)]
    exact sm c o e
  have tup_ne : ∀ {c : Addr} {xs : List V}, H c = some (.tup xs) → c ≠ s := fun {c xs} e z => by
    rw [z, h1] at e
    cases e
  by_cases m : ([p.1, p.2] : List Int) ∈ L.map (·.2)
  · have e := c1 m
    subst e
    refine ⟨sm2, hS, _, upd_same, h2, fun z hz => ?_, fun q hq => ?_⟩
    · obtain ⟨a1, a2, q, hq, a3⟩ := h3 z hz
      exact ⟨a1, by rw [upd_ne (tup_ne a2)]; exact a2, q, List.mem_append_left _ hq, a3⟩
    · rcases List.mem_append.mp hq with hq | hq
      · exact h4 q hq
      · rw [List.mem_singleton.mp hq]
        exact m
  · have pm := c2 m
    refine ⟨sm2, hS, _, upd_same, ?_, fun z hz => ?_, fun q hq => ?_⟩
    · refine (pm.map (·.2)).nodup_iff.mpr ?_
      rw [List.map_cons]
      exact List.nodup_cons.mpr ⟨m, h2⟩
    · rcases List.mem_cons.mp (pm.mem_iff.mp hz) with e | hz
      · rw [e]
        exact ⟨hb, by rw [upd_ne (tup_ne hbt)]; exact hbt, p, List.mem_append_right _ (List.mem_singleton.mpr rfl), rfl⟩
      · obtain ⟨a1, a2, q, hq, a3⟩ := h3 z hz
        exact ⟨a1, by rw [upd_ne (tup_ne a2)]; exact a2, q, List.mem_append_left _ hq, a3⟩
    · rw [(pm.map (·.2)).mem_iff, List.map_cons]
      rcases List.mem_append.mp hq with hq | hq
      · exact List.mem_cons_of_mem _ (h4 q hq)
      · rw [List.mem_singleton.mp hq]
        exact List.mem_cons_self
/-- what is sorted at the end -/
theorem Sofar.fin {n : Int} {ps : List Pr} {L L' : List (Addr × List Int)} (hn : n ≤ 8) (rng : ∀ p ∈ ps, 0 ≤ p.1 ∧ p.1 < p.2 ∧ p.2 < n) (hL : ∀ z ∈ L, ∃ p ∈ ps, z.2 = [p.1, p.2]) (all : ∀ p ∈ ps, ([p.1, p.2] : List Int) ∈ L.map (·.2)) (pm : L'.Perm L)
    (nd : (L'.map (·.2)).Nodup) (ord : L'.Pairwise fun q r => TS.code 64 q.2 ≤ TS.code 64 r.2) :
    ∃ l : List (Addr × Pr), L' = l.map (fun z => (z.1, [z.2.1, z.2.2])) ∧ Cl n (l.map (·.2)) ∧ ∀ p, p ∈ l.map (·.2) ↔ p ∈ ps := by
  let g : Addr × List Int → Addr × Pr := fun z => (z.1, z.2.getD 0 0, z.2.getD 1 0)
  have hg : ∀ z ∈ L', (g z).2 ∈ ps ∧ z = ((g z).1, [(g z).2.1, (g z).2.2]) := fun z hz => by
    obtain ⟨p, hp, e⟩ := hL z (pm.mem_iff.mp hz)
    have eg : (g z).2 = p := by
      show (z.2.getD 0 0, z.2.getD 1 0) = p
      rw [e]
      rfl
    refine ⟨by rw [eg]; exact hp, ?_⟩
    rw [eg, ← e]
  have mem : ∀ p, p ∈ (L'.map g).map (·.2) ↔ p ∈ ps := fun p => by
    rw [List.map_map]
    constructor
    · intro hp
      obtain ⟨z, hz, e⟩ := List.mem_map.mp hp
      rw [← e]
      exact (hg z hz).1
    · intro hp
      obtain ⟨z, hz, e⟩ := List.mem_map.mp (all p hp)
      refine List.mem_map.mpr ⟨z, pm.mem_iff.mpr hz, ?_⟩
      show (z.2.getD 0 0, z.2.getD 1 0) = p
      rw [e]
      rfl
  refine ⟨L'.map g, ?_, ⟨?_, fun p hp => rng p ((mem p).mp hp)⟩, mem⟩
  · rw [List.map_map]
    refine (List.map_congr_left fun z hz => ?_).trans (List.map_id _) |>.symm
    exact ((hg z hz).2).symm
  · rw [List.map_map]
    refine List.pairwise_map.mpr ?_
    have both := ord.and (List.pairwise_map.mp nd)
    refine List.Pairwise.imp_of_mem (fun {a b} ha hb hab => ?_) both
    obtain ⟨h1, h2⟩ := hab
    obtain ⟨ra, ea⟩ := hg a ha
    obtain ⟨rb, eb⟩ := hg b hb
    have r1 := rng _ ra
    have r2 := rng _ rb
    rw [ea, eb] at h1 h2
    have z := pair_lt h1 h2 (by omega) (by omega) (by omega) (by omega)
    exact z
end
end K0
set_option Elab.async false
set_option linter.all false
set_option maxRecDepth 100000
set_option maxHeartbeats 4000000
namespace K0
open PySem PySem.Spec PyProof.Rows L2
section
variable {P : Program} {w : World} {K : PySem.W.Frag} {mg : Str → Option Value} {base : Heap} {f : Addr} {fd : FuncData}
theorem sc_cc : FnScope ["many", "clashes", "pairs", "pair", "x", "y"] ["many", "clashes"] (defScope s_cc) := ⟨rfl, rfl, rfl, by decide +kernel, rfl, by decide +kernel, by decide +kernel⟩
theorem take_at {α : Type} {l : List α} {i : Nat} {x : α} (h : l[i]? = some x) : l.take (i + 1) = l.take i ++ [x] := by
  rw [List.take_succ, h]
  rfl
theorem drop_at {α : Type} {l : List α} {i : Nat} {x : α} (h : l[i]? = some x) : l = l.take i ++ x :: l.drop (i + 1) := by
  obtain ⟨hi, e⟩ := List.getElem?_eq_some_iff.mp h
  rw [← e, ← List.drop_eq_getElem_cons hi, List.take_append_drop]
theorem ents_bad {n : Int} {ds : List PyData} {i : Nat} {d : PyData} {ps : List Pr} {x y : PyData} (h1 : entsOf n (ds.take i) = .ok ps) (hd : ds[i]? = some d) (e : entOf n d = .error (x, y)) : entsOf n ds = .error (x, y) := by
  rw [drop_at hd, entsOf_app h1, entsOf, e]
theorem ents_good {n : Int} {ds : List PyData} {i : Nat} {d : PyData} {ps : List Pr} {p : Pr} (h1 : entsOf n (ds.take i) = .ok ps) (hd : ds[i]? = some d) (e : entOf n d = .ok p) : entsOf n (ds.take (i + 1)) = .ok (ps ++ [p]) := by
  rw [take_at hd, entsOf_app h1, entsOf, e]
  rfl
theorem ents_rng {n : Int} : ∀ {ds : List PyData} {ps : List Pr}, entsOf n ds = .ok ps → ∀ p ∈ ps, 0 ≤ p.1 ∧ p.1 < p.2 ∧ p.2 < n
  | [], ps, h => by
    cases h
    exact fun p hp => by cases hp
  | d :: r, ps, h => by
    rw [entsOf] at h
    cases e : entOf n d with
    | error x => rw [e] at h; cases h
    | ok q =>
      rw [e] at h
      dsimp only at h
      cases e2 : entsOf n r with
      | error x => rw [e2] at h; cases h
      | ok qs =>
        rw [e2] at h
        cases h
        intro p hp
        rcases List.mem_cons.mp hp with hp | hp
        · rw [hp]; exact entOf_rng e
        · exact ents_rng e2 p hp
/-- a loop over a list or tuple of data that the body leaves as it is -/
theorem tfor_sq {K : PySem.W.Frag} {i : Nat} {a : Addr} {ds : List PyData} {g : TG} {tb : TS} {D : Ends} {σ : L2.St} {H H0 : Hp} (hv : σ[i]? = some (some (.ref a))) (h : Sq K H0 a ds) (Pv : Nat → L2.St → Hp → Prop) (h0 : Pv 0 σ H)
    (hl : ∀ j σ H', Pv j σ H' → ∀ o, H0 a = some o → H' a = some o)
    (hs : ∀ j v d σ H', ds[j]? = some d → Dt H0 v d → Pv j σ H' → g v σ H' fun σ2 H2 => tb { D with nx := Pv (j + 1), ct := Pv (j + 1), bk := D.nx } σ2 H2) (hd : ∀ σ H', Pv ds.length σ H' → D.nx σ H') :
    tFor (fun σ H R => iList K (tVar i) σ H R ∨ iTup K (tVar i) σ H R) g tb D σ H := by
  cases h with
  | @lst xs e h =>
    refine .inl ⟨_, hv, a, rfl, ⟨xs, SqL.of (hl 0 _ _ h0 _ e)⟩, for_list (K := K) (a := a) (xs := xs) Pv h0 (fun j σ H' _ p => SqL.of (hl j σ H' p _ e)) (fun j v σ H' hj p => ?_) (fun σ H' p => ?_)⟩
    · obtain ⟨d, hd, hdt⟩ := h.at hj
      exact hs j v d σ H' hd hdt p
    · rw [h.len] at p
      exact hd σ H' p
  | @tup xs e h =>
    refine .inr ⟨_, hv, a, rfl, ⟨xs, SqT.of (hl 0 _ _ h0 _ e)⟩, for_tup (K := K) (a := a) (xs := xs) Pv h0 (fun j σ H' _ p => SqT.of (hl j σ H' p _ e)) (fun j v σ H' hj p => ?_) (fun σ H' p => ?_)⟩
    · obtain ⟨d, hd, hdt⟩ := h.at hj
      exact hs j v d σ H' hd hdt p
    · rw [h.len] at p
      exact hd σ H' p
  | kon e z =>
    refine .inr ⟨_, hv, a, rfl, ⟨[], e _⟩, for_tup (K := K) (a := a) (xs := []) Pv h0 (fun j σ H' _ p => e _) (fun j v σ H' hj p => ?_) (fun σ H' p => ?_)⟩
    · cases hj
    · rw [z] at hd
      exact hd σ H' p
theorem entOf_ok {n : Int} {d : PyData} {p : Pr} (h : entOf n d = .ok p) : ∃ i k, pairOf d = some (.int i, .int k) ∧ (0 ≤ i ∧ i < n) ∧ (0 ≤ k ∧ k < n) ∧ i ≠ k := by
  unfold entOf at h
  split at h
  · cases h
  · rename_i x y e
    split at h
    · rename_i c
      exact ⟨x, y, e, ⟨c.1, c.2.1⟩, ⟨c.2.2.1, c.2.2.2.1⟩, c.2.2.2.2⟩
    · cases h
  · cases h
theorem entOf_err {n : Int} {d x y : PyData} (e : pairOf d = some (x, y)) (no : ∀ p, entOf n d ≠ .ok p) : entOf n d = .error (x, y) := by
  cases q : entOf n d with
  | ok p => exact absurd q (no p)
  | error z =>
    unfold entOf at q
    rw [e] at q
    split at q
    · rename_i w; cases w
    · rename_i w
      cases w
      split at q
      · cases q
      · exact q.symm
    · rename_i w
      cases w
      exact q.symm
theorem min2 (x y : Int) : (if y < x then y else x) = min x y := by omega
theorem max2 (x y : Int) : (if y > x then y else x) = max x y := by omega
theorem ok_cc {C : Addr} (F : Fun K "checked_clashes" "checked_clashes" s_cc f fd) (B : Blt2 mg) (IP : Df P w K mg base "is_pair" 1 ["value"] spPair) (TH : Df P w K mg base "is_thing" 2 ["many", "value"] spTh)
    (T : Er P w K mg base "BadWeb" C ["x", "y"] ["self", "x", "y"] (spE2 C "x" "y")) : FnOk P w K mg base (L2.CX P w) 3 f fd ["many", "clashes"] (spCC K C) := by
  refine F.okX sc_cc (fun vs H Q E h => ?_) (fun cdv A outer s H vs Q E hr h => ?_)
  · obtain ⟨n, a, ds, rfl, _⟩ := h
    rfl
  · obtain ⟨n, a, ds, rfl, hn, hs, kq, ke⟩ := h
    have hr1 : Room 1 _ := hr.mono (by decide)
    have hu := hr.units
    have nd := sc_cc.nd
    refine ⟨_, pss_cons (ps_set (i := 2) nd rfl (.inl rfl) (pe_callTy0 cr_setT0 (by rfl) B.set (by decide +kernel)))
      (pss_cons (ps_for (passes_of rfl) rfl (pi_or (pi_list (pv 1)) (pi_tup (pv 1))) (pg_name (i := 3) nd rfl (.inl rfl))
        (pss_cons (ps_if (pt_not (pt_val (pe_df IP hr1 (by rfl) passUp (pa_cons (pv 3) pa_nil)))) (pss_one (ps_rz2 rfl (takes_of rfl rfl rfl rfl) T hr (by rfl) pe_non pe_non (mono_c .non) (mono_c .non))) pss_nil)
        (pss_cons (ps_asg (pv 3) (pg_or (pg_tup rfl (pgs_cons (pg_name (i := 4) nd rfl (.inl rfl)) (pgs_cons (pg_name (i := 5) nd rfl (.inl rfl)) pgs_nil))) (pg_unl rfl (pgs_cons (pg_name (i := 4) nd rfl (.inl rfl)) (pgs_cons (pg_name (i := 5) nd rfl (.inl rfl)) pgs_nil)))))
        (pss_cons (ps_if (PW.pt (pw_or (pt_not (pt_val (pe_df TH hr (by rfl) passUp (pa_cons (pv 0) (pa_cons (pv 4) pa_nil))))) (pw_or (pt_not (pt_val (pe_df TH hr (by rfl) passUp (pa_cons (pv 0) (pa_cons (pv 5) pa_nil))))) (pw_or1 (pt_cmpR op_eq (pv 4) (pv 5) (nomark _))))))
            (pss_one (ps_rz2 rfl (takes_of rfl rfl rfl rfl) T hr (by rfl) (pv 4) (pv 5) (mono_var 4) (mono_var 5))) pss_nil)
        (pss_one (ps_expr (pe_tadd hu (pv 2) (pa_cons (pe_tup (pa_cons (pe_callB (call_min2 rfl) (by rfl) B.min (by decide +kernel) (pa_cons (pv 4) (pa_cons (pv 5) pa_nil))) (pa_cons (pe_callB (call_max2 rfl) (by rfl) B.max (by decide +kernel) (pa_cons (pv 4) (pa_cons (pv 5) pa_nil))) pa_nil))) pa_nil))))))))
      (pss_one (ps_ret (pe_callTy call_tuple_of (by rfl) B.tuple (by decide +kernel) (pa_cons (pe_callB (cr_sortedT rfl) (by rfl) B.sorted (by decide +kernel) (pa_cons (pv 2) pa_nil)) pa_nil))))), ?_⟩
    refine ⟨rfl, fun s0 ns => ?_⟩
    -- the loop's word
    let Pv : Nat → L2.St → Hp → Prop := fun i σ H' => ∃ o3 o4 o5 ps, σ = [some (.int n), some (.ref a), some (.ref s0), o3, o4, o5] ∧ entsOf n (ds.take i) = .ok ps ∧ Sofar P w H H' s0 n ps
    have h0 : Pv 0 [some (.int n), some (.ref a), some (.ref s0), none, none, none] (upd H s0 (SetTO P w s0 [])) := ⟨none, none, none, [], rfl, rfl, Sofar.start ns⟩
    have sm0 : Same H (upd H s0 (SetTO P w s0 [])) := same_upd ns
    refine tfor_sq rfl hs Pv h0 (fun j σ H' p o e => ?_) (fun j v d σ H' hj hv p => ?_) (fun σ H' p => ?_)
    · obtain ⟨_, _, _, ps, _, _, S⟩ := p
      exact S.same _ _ e
    · obtain ⟨o3, o4, o5, ps, rfl, hps, S⟩ := p
      have hvH : Dt H' v d := hv.mono S.same
      refine ⟨_, rfl, v, d, rfl, hvH, fun H1 s1 => ⟨_, rfl, ?_⟩⟩
      cases ep : pairOf d with
      | none =>
        rw [pairOf_is, ep]
        refine iteT fun dd nd' => ?_
        have eb : entOf n d = .error (.none, .none) := by unfold entOf; rw [ep]
        exact ke .none .none (ents_bad hps hj eb) _ dd .non .non ((S.same.trans s1).trans (same_upd nd')) .non .non upd_same
      | some xy =>
        obtain ⟨dx, dy⟩ := xy
        rw [pairOf_is, ep]
        refine iteF ?_
        have S1 := S.far s1
        obtain ⟨b, vx, vy, rfl, hb, hx, hy⟩ := pair_at (hvH.mono s1) ep
        refine ⟨_, rfl, ?_⟩
        have un : ∀ (Q : L2.St → Hp → Prop), Q [some (.int n), some (.ref a), some (.ref s0), some (.ref b), some vx, some vy] H1 → (gTup K 2 (gCons (gName 4) (gCons (gName 5) gNil)) (.ref b) [some (.int n), some (.ref a), some (.ref s0), some (.ref b), o4, o5] H1 Q ∨ gUnl K 2 (gCons (gName 4) (gCons (gName 5) gNil)) (.ref b) [some (.int n), some (.ref a), some (.ref s0), some (.ref b), o4, o5] H1 Q) := fun Q q => by
          rcases hb with hb | hb
          · exact .inl ⟨b, _, rfl, SqT.of hb, rfl, vx, _, rfl, vy, _, rfl, rfl, q⟩
          · exact .inr ⟨b, _, rfl, SqL.of hb, rfl, vx, _, rfl, vy, _, rfl, rfl, q⟩
        refine un _ ?_
        -- the first is a thing?
        have bad : (∀ p, entOf n d ≠ .ok p) → ∀ H2 dd, Same H1 H2 → H2 dd = none → E (.ref C) (some dd) (upd H2 dd (.xd [("y", vy), ("x", vx)])) := fun no H2 dd s2 nd' => by
          have eb := entOf_err ep no
          have s3 := s2.trans (same_upd (o := .xd [("y", vy), ("x", vx)]) nd')
          exact ke dx dy (ents_bad hps hj eb) _ dd vx vy (S1.same.trans s3) (hx.mono s3) (hy.mono s3) upd_same
        refine ⟨_, rfl, _, rfl, n, vx, dx, rfl, hx, fun H2 s2 => ⟨_, rfl, ?_⟩⟩
        cases tx : isTh n dx with
        | false =>
          refine iteT ⟨_, rfl, _, rfl, fun dd nd' => bad (fun p e => ?_) _ dd s2 nd'⟩
          obtain ⟨i, k, e1, c1, c2, c3⟩ := entOf_ok e
          rw [ep] at e1
          cases e1
          rw [show isTh n (.int i) = true from decide_eq_true c1] at tx
          cases tx
        | true =>
          obtain ⟨i, rfl, rfl, hi⟩ := th_int hx tx
          refine iteF ⟨_, rfl, _, rfl, n, vy, dy, rfl, hy.mono s2, fun H3 s3 => ⟨_, rfl, ?_⟩⟩
          have s23 := s2.trans s3
          cases ty : isTh n dy with
          | false =>
            refine iteT ⟨_, rfl, _, rfl, fun dd nd' => bad (fun p e => ?_) _ dd s23 nd'⟩
            obtain ⟨i', k, e1, c1, c2, c3⟩ := entOf_ok e
            rw [ep] at e1
            cases e1
            rw [show isTh n (.int k) = true from decide_eq_true c2] at ty
            cases ty
          | true =>
            obtain ⟨k, rfl, rfl, hk⟩ := th_int hy ty
            refine iteF ⟨_, rfl, _, rfl, rfl, _, rfl, ?_⟩
            rw [dec_int]
            cases eq : (i == k) with
            | true =>
              refine iteT ⟨_, rfl, _, rfl, fun dd nd' => bad (fun p e => ?_) _ dd s23 nd'⟩
              obtain ⟨i', k', e1, c1, c2, c3⟩ := entOf_ok e
              rw [ep] at e1
              cases e1
              exact c3 (beq_iff_eq.mp eq)
            | false =>
              have ne : i ≠ k := fun z => by rw [z] at eq; simp at eq
              have eo : entOf n d = .ok (min i k, max i k) := by
                unfold entOf
                rw [ep]
                dsimp only
                rw [if_pos ⟨hi.1, hi.2, hk.1, hk.2, ne⟩]
              have S3 := S1.far s23
              obtain ⟨L, l1, l2, l3, l4⟩ := S3.set
              refine iteF ⟨_, rfl, ⟨s0, L, rfl, l1⟩, ?_⟩
              refine ⟨_, rfl, _, rfl, _, _, rfl, _, rfl, _, rfl, _, _, rfl, (by show 2 ≤ sizeLine; decide), fun t nt => ?_⟩
              rw [min2, max2]
              have s4 : Same H3 (upd H3 t (.tup [.int (min i k), .int (max i k)])) := same_upd nt
              have rng := ents_rng hps
              have few := Sofar.few (H0 := H) (H := H3) (s := s0) hn rng l2 (fun z hz => (l3 z hz).2.2)
              refine ⟨s0, t, [min i k, max i k], L, rfl, rfl, s4 _ _ l1, fun z hz => SqT.of (s4 _ _ (l3 z hz).2.1), SqT.of upd_same, by omega, fun L' c1 c2 => ?_⟩
              refine ⟨_, _, _, ps ++ [(min i k, max i k)], rfl, ents_good hps hj eo, ?_⟩
              exact Sofar.add (p := (min i k, max i k)) S3.new (S3.same.trans s4) (s4 _ _ l1) l2 (fun z hz => ⟨(l3 z hz).1, s4 _ _ (l3 z hz).2.1, (l3 z hz).2.2⟩) l4 ((S3.same).free nt) upd_same c1 c2
    · obtain ⟨o3, o4, o5, ps, rfl, hps, S⟩ := p
      rw [List.take_length] at hps
      obtain ⟨L, l1, l2, l3, l4⟩ := S.set
      have rng := ents_rng hps
      have few := Sofar.few (H0 := H) (H := H') (s := s0) hn rng l2 (fun z hz => (l3 z hz).2.2)
      refine ⟨_, rfl, s0, L, 2, 64, rfl, l1, fun z hz => SqT.of (l3 z hz).2.1, by decide, fun z hz => ?_, fun L' p pm nd' _ ord np => ?_⟩
      · obtain ⟨p, hp, e⟩ := (l3 z hz).2.2
        have := rng p hp
        rw [e]
        refine ⟨rfl, fun m hm => ?_⟩
        simp only [List.mem_cons, List.not_mem_nil, or_false] at hm
        omega
      · refine ⟨p, _, rfl, .inl ⟨SqL.of upd_same, fun l nl => ?_⟩⟩
        obtain ⟨ll, e1, hq, hmem⟩ := Sofar.fin hn rng (fun z hz => (l3 z hz).2.2) l4 pm nd' ord
        have s5 : Same H' (upd H' p (.lst (L'.map fun q => V.ref q.1))) := same_upd np
        have s6 := s5.trans (same_upd (o := .tup (L'.map fun q => V.ref q.1)) nl)
        refine kq ps hps _ hq hmem _ l (L'.map fun q => V.ref q.1) (S.same.trans s6) ((S.same.trans s5).free nl) upd_same ⟨ll, ?_, rfl, fun z hz => ?_⟩
        · rw [e1, List.map_map]
          rfl
        · have hz' : (z.1, [z.2.1, z.2.2]) ∈ L := pm.mem_iff.mp (by rw [e1]; exact List.mem_map.mpr ⟨z, hz, rfl⟩)
          have := l3 _ hz'
          exact ⟨this.1, s6 _ _ this.2.1⟩
end
end K0
set_option Elab.async false
set_option linter.all false
set_option maxRecDepth 100000
set_option maxHeartbeats 4000000
namespace K0
open PySem PySem.Spec PyProof.Rows L2
/-! ### masks -/
def mStep (ms : List Nat) (p : Pr) : List Nat :=
  let ms1 := ms.set p.1.toNat (ms.getD p.1.toNat 0 ||| 2 ^ p.2.toNat)
  ms1.set p.2.toNat (ms1.getD p.2.toNat 0 ||| 2 ^ p.1.toNat)
def mOf (n : Nat) (q : List Pr) : List Nat := q.foldl mStep (List.replicate n 0)
theorem mStep_len (ms : List Nat) (p : Pr) : (mStep ms p).length = ms.length := by simp [mStep]
theorem mFold_len : ∀ (q : List Pr) (ms : List Nat), (q.foldl mStep ms).length = ms.length
  | [], _ => rfl
  | p :: q, ms => by rw [List.foldl_cons, mFold_len q, mStep_len]
theorem mOf_len (n : Nat) (q : List Pr) : (mOf n q).length = n := by unfold mOf; rw [mFold_len, List.length_replicate]
theorem getD_set {l : List Nat} {i j v : Nat} (hi : i < l.length) : (l.set i v).getD j 0 = if j = i then v else l.getD j 0 := by
  rw [List.getD_eq_getElem?_getD, List.getElem?_set, List.getD_eq_getElem?_getD]
  by_cases e : i = j
  · subst e
    simp [hi]
  · rw [if_neg e, if_neg (fun z => e z.symm)]
/-- do x and y clash by the row q? -/
def hasP (q : List Pr) (x y : Nat) : Bool := decide (((x : Int), (y : Int)) ∈ q) || decide (((y : Int), (x : Int)) ∈ q)
theorem mStep_bit {ms : List Nat} {p : Pr} (h1 : 0 ≤ p.1) (h2 : p.1 < p.2) (h3 : p.2.toNat < ms.length) (x y : Nat) :
    ((mStep ms p).getD x 0).testBit y = ((ms.getD x 0).testBit y || (decide (x = p.1.toNat ∧ y = p.2.toNat) || decide (x = p.2.toNat ∧ y = p.1.toNat))) := by
  have a : p.1.toNat < ms.length := by omega
  have ne : p.1.toNat ≠ p.2.toNat := by omega
  unfold mStep
  dsimp only
  rw [getD_set (by rw [List.length_set]; exact h3), getD_set a, getD_set a]
  by_cases e2 : x = p.2.toNat
  · subst e2
    rw [if_pos rfl, if_neg (Ne.symm ne), Nat.testBit_or, Nat.testBit_two_pow]
    have : decide (p.2.toNat = p.1.toNat ∧ y = p.2.toNat) = false := decide_eq_false (fun z => ne z.1.symm)
    rw [this, Bool.false_or]
    congr 1
    simp only [true_and]
    exact decide_eq_decide.mpr ⟨fun h => h.symm, fun h => h.symm⟩
  · rw [if_neg e2]
    have z2 : decide (x = p.2.toNat ∧ y = p.1.toNat) = false := decide_eq_false (fun z => e2 z.1)
    rw [z2, Bool.or_false]
    by_cases e1 : x = p.1.toNat
    · subst e1
      rw [if_pos rfl, Nat.testBit_or, Nat.testBit_two_pow]
      congr 1
      simp only [true_and]
      exact decide_eq_decide.mpr ⟨fun h => h.symm, fun h => h.symm⟩
    · rw [if_neg e1, decide_eq_false (fun z : x = p.1.toNat ∧ y = p.2.toNat => e1 z.1), Bool.or_false]
theorem mFold_bit {n : Nat} : ∀ (q : List Pr) (ms : List Nat), ms.length = n → (∀ p ∈ q, 0 ≤ p.1 ∧ p.1 < p.2 ∧ p.2 < n) → ∀ x y, ((q.foldl mStep ms).getD x 0).testBit y = ((ms.getD x 0).testBit y || hasP q x y)
  | [], ms, _, _, x, y => by simp [hasP]
  | p :: q, ms, hl, h, x, y => by
    obtain ⟨a, b, c⟩ := h p List.mem_cons_self
    rw [List.foldl_cons, mFold_bit q (mStep ms p) (by rw [mStep_len]; exact hl) (fun r hr => h r (List.mem_cons_of_mem _ hr)) x y, mStep_bit a b (by omega)]
    rw [Bool.or_assoc]
    congr 1
    unfold hasP
    obtain ⟨p1, p2⟩ := p
    dsimp only at a b c ⊢
    have e1 : decide ((((x : Int), (y : Int)) : Pr) ∈ (p1, p2) :: q) = (decide (x = p1.toNat ∧ y = p2.toNat) || decide (((x : Int), (y : Int)) ∈ q)) := by
      rw [Bool.eq_iff_iff, Bool.or_eq_true, decide_eq_true_iff, decide_eq_true_iff, decide_eq_true_iff, List.mem_cons, Prod.mk.injEq]
      constructor
      · rintro (⟨h1, h2⟩ | h)
        · exact .inl ⟨by omega, by omega⟩
        · exact .inr h
      · rintro (⟨h1, h2⟩ | h)
        · exact .inl ⟨by omega, by omega⟩
        · exact .inr h
    have e2 : decide ((((y : Int), (x : Int)) : Pr) ∈ (p1, p2) :: q) = (decide (x = p2.toNat ∧ y = p1.toNat) || decide (((y : Int), (x : Int)) ∈ q)) := by
      rw [Bool.eq_iff_iff, Bool.or_eq_true, decide_eq_true_iff, decide_eq_true_iff, decide_eq_true_iff, List.mem_cons, Prod.mk.injEq]
      constructor
      · rintro (⟨h1, h2⟩ | h)
        · exact .inl ⟨by omega, by omega⟩
        · exact .inr h
      · rintro (⟨h1, h2⟩ | h)
        · exact .inl ⟨by omega, by omega⟩
        · exact .inr h
    rw [e1, e2]
    generalize decide (x = p1.toNat ∧ y = p2.toNat) = b1
    generalize decide (x = p2.toNat ∧ y = p1.toNat) = b2
    generalize decide (((x : Int), (y : Int)) ∈ q) = b3
    generalize decide (((y : Int), (x : Int)) ∈ q) = b4
    cases b1 <;> cases b2 <;> cases b3 <;> cases b4 <;> rfl
theorem mOf_bit {n : Nat} {q : List Pr} (h : Cl n q) (x y : Nat) : ((mOf n q).getD x 0).testBit y = hasP q x y := by
  unfold mOf
  rw [mFold_bit (n := n) q _ (by simp) h.rng x y]
  rw [List.getD_eq_getElem?_getD, List.getElem?_replicate]
  split <;> simp
end K0
set_option Elab.async false
set_option linter.all false
set_option maxRecDepth 100000
set_option maxHeartbeats 4000000
namespace K0
open PySem PySem.Spec PyProof.Rows L2
abbrev s_nm : Stmt := top 19
theorem dta_map {H : Hp} : ∀ {xs : List V} {q : List Pr} {i : Nat} {v : V}, DtAll H xs (q.map prD) → xs[i]? = some v → ∃ p a, q[i]? = some p ∧ v = .ref a ∧ H a = some (.tup [.int p.1, .int p.2]) := by
  intro xs q i v h e
  obtain ⟨d, hd, hv⟩ := h.at e
  rw [List.getElem?_map] at hd
  cases hq : q[i]? with
  | none => rw [hq] at hd; cases hd
  | some p =>
    rw [hq] at hd
    cases hd
    cases hv with
    | tup ea h2 =>
      cases h2 with
      | cons h3 h4 =>
        cases h4 with
        | cons h5 h6 =>
          cases h6
          cases h3
          cases h5
          exact ⟨p, _, rfl, rfl, ea⟩
section
variable {P : Program} {w : World} {K : PySem.W.Frag} {mg : Str → Option Value} {base : Heap} {f : Addr} {fd : FuncData}
def nvs (ms : List Nat) : List V := ms.map fun (k : Nat) => V.int (k : Int)
def spNm : Sp := fun vs H Q _ => ∃ (n : Int) (c : Addr) (xs : List V) (q : List Pr), vs = [.int n, .ref c] ∧ 0 ≤ n ∧ n ≤ 8 ∧ Cl n q ∧ H c = some (.tup xs) ∧ DtAll H xs (q.map prD) ∧
  ∀ H' m, Same H H' → H m = none → H' m = some (.tup (nvs (mOf n.toNat q))) → Q (.ref m) H'
theorem sc_nm : FnScope ["many", "clashes", "masks", "x", "y"] ["many", "clashes"] (defScope s_nm) := ⟨rfl, rfl, rfl, by decide +kernel, rfl, by decide +kernel, by decide +kernel⟩
theorem ixN_nat {n k : Nat} (h : k < n) : ixN n (k : Int) = some k := by
  unfold ixN
  rw [if_pos (Int.natCast_nonneg k), if_pos (by omega), Int.toNat_natCast]
theorem nvs_at {ms : List Nat} {k : Nat} (h : k < ms.length) : atI (nvs ms) (k : Int) = some (V.int ((ms.getD k 0 : Nat) : Int)) := by
  refine atI_nat ?_
  unfold nvs
  rw [List.getElem?_map, List.getElem?_eq_getElem h, List.getD_eq_getElem?_getD, List.getElem?_eq_getElem h]
  rfl
theorem nvs_set (ms : List Nat) (k v : Nat) : (nvs ms).set k (V.int (v : Int)) = nvs (ms.set k v) := by
  unfold nvs
  rw [List.map_set]
theorem nvs_len (ms : List Nat) : (nvs ms).length = ms.length := by unfold nvs; rw [List.length_map]
theorem rep_nvs (n : Nat) : (List.replicate n [V.int 0]).flatten = nvs (List.replicate n 0) := by
  unfold nvs
  rw [List.map_replicate]
  induction n with
  | zero => rfl
  | succ n ih => rw [List.replicate_succ, List.flatten_cons, ih, List.replicate_succ]; rfl
theorem shl1 (y : Nat) : (1 : Int) * 2 ^ ((y : Int).toNat) = ((2 ^ y : Nat) : Int) := by
  rw [Int.one_mul, Int.toNat_natCast]
  exact (Int.natCast_pow 2 y).symm
theorem OpR_imp {X : Cx} {f : Value → Value → Sem Value} {r r' : R2} (h : OpR X f r) (i : ∀ x y H Q, r' x y H Q → r x y H Q) : OpR X f r' := fun pins s σ H x y u v Q I rx ry q => h pins s σ H x y u v Q I rx ry (i _ _ _ _ q)
theorem op_orN {X : Cx} : OpR X (binaryOp .BitOr) (fun x y H Q => ∃ a b : Nat, x = .int (a : Int) ∧ y = .int (b : Int) ∧ Q (.int ((a ||| b : Nat) : Int)) H) := OpR_imp op_or fun x y H Q ⟨a, b, ex, ey, q⟩ => ⟨_, _, ex, ey, by show Q (.int (Builtin.bitOr (a : Int) (b : Int))) H; rw [bor_nat]; exact q⟩
theorem op_shl1 {X : Cx} : OpR X (binaryOp .LShift) (fun x y H Q => ∃ k : Nat, x = .int 1 ∧ y = .int (k : Int) ∧ k ≤ 1000 ∧ Q (.int ((2 ^ k : Nat) : Int)) H) := OpR_imp op_shl fun x y H Q ⟨k, ex, ey, hk, q⟩ => ⟨_, _, ex, ey, ⟨by omega, by omega, by decide⟩, by show Q (.int (1 * 2 ^ ((k : Int).toNat))) H; rw [shl1]; exact q⟩
theorem ok_nm (F : Fun K "near_masks" "near_masks" s_nm f fd) (B : Blt2 mg) : FnOk P w K mg base (L2.CX P w) 1 f fd ["many", "clashes"] spNm := by
  refine up0 (F.ok sc_nm (fun vs H Q E h => ?_) (fun cdv A outer s H vs Q E hr h => ?_))
  · obtain ⟨n, c, xs, q, rfl, _⟩ := h
    rfl
  · obtain ⟨n, c, xs, q, rfl, h0, h8, hq, hc, hx, kq⟩ := h
    have nd := sc_nm.nd
    obtain ⟨m, rfl⟩ := Int.eq_ofNat_of_zero_le h0
    rw [Int.toNat_natCast] at kq
    refine ⟨_, pss_cons (ps_set (i := 2) nd rfl (.inl rfl) (pe_op op_rep (pe_lst (pa_cons pe_int pa_nil)) (pv 0)))
      (pss_cons (ps_for PassesOwn.never rfl (pi_tup (pv 1)) (pg_tup rfl (pgs_cons (pg_name (i := 3) nd rfl (.inl rfl)) (pgs_cons (pg_name (i := 4) nd rfl (.inl rfl)) pgs_nil)))
        (pss_cons (ps_asg (pe_op op_orN (pe_ix ix_list (pv 2) (pv 3) (fun _ _ => rfl)) (pe_op op_shl1 pe_int (pv 4))) (pg_sub (pv 2) (pv 3) set_list))
        (pss_one (ps_asg (pe_op op_orN (pe_ix ix_list (pv 2) (pv 4) (fun _ _ => rfl)) (pe_op op_shl1 pe_int (pv 3))) (pg_sub (pv 2) (pv 4) set_list)))))
      (pss_one (ps_ret (pe_callTy call_tuple_of (by rfl) B.tuple (by decide +kernel) (pa_cons (pv 2) pa_nil))))), ?_⟩
    refine ⟨by show 1 ≤ sizeLine; decide, fun l nl => ?_⟩
    refine ⟨_, rfl, l, (m : Int), _, rfl, rfl, upd_same, by omega, by omega, ?_, fun t nt => ?_⟩
    · rw [Int.toNat_natCast, sizeLine_eq]
      show 1 * m ≤ _
      omega
    rw [Int.toNat_natCast, rep_nvs]
    have s1 : Same H (upd H l (.lst [V.int 0])) := same_upd nl
    have s2 := s1.trans (same_upd (o := .lst (nvs (List.replicate m 0))) nt)
    have ht : H t = none := s1.free nt
    let Pv : Nat → L2.St → Hp → Prop := fun i σ H' => ∃ o3 o4, σ = [some (.int (m : Int)), some (.ref c), some (.ref t), o3, o4] ∧ Same H H' ∧ H' t = some (.lst (nvs (mOf m (q.take i))))
    refine ⟨_, rfl, c, rfl, ⟨xs, SqT.of (s2 _ _ hc)⟩, for_tup (K := K) (a := c) (xs := xs) Pv ⟨none, none, rfl, s2, upd_same⟩ (fun i σ H' _ ⟨_, _, _, sm, _⟩ => SqT.of (sm _ _ hc)) ?_ ?_⟩
    · rintro i v σ H' hi ⟨o3, o4, rfl, sm, hl⟩
      obtain ⟨p, b, hp, rfl, hb⟩ := dta_map hx hi
      obtain ⟨r1, r2, r3⟩ := hq.rng p (List.mem_of_getElem? hp)
      obtain ⟨p1, p2⟩ := p
      dsimp only at r1 r2 r3 hb
      obtain ⟨x, rfl⟩ := Int.eq_ofNat_of_zero_le r1
      obtain ⟨y, rfl⟩ := Int.eq_ofNat_of_zero_le (show (0 : Int) ≤ p2 by omega)
      have hml : (mOf m (q.take i)).length = m := mOf_len _ _
      have hx8 : x < (mOf m (q.take i)).length := by omega
      have hy8 : y < (mOf m (q.take i)).length := by omega
      refine ⟨b, _, rfl, SqT.of (sm _ _ hb), rfl, _, _, rfl, _, _, rfl, rfl, ?_⟩
      refine ⟨_, rfl, _, rfl, t, _, _, _, rfl, rfl, SqL.of hl, nvs_at hx8, _, rfl, y, rfl, rfl, by omega, _, _, rfl, rfl, ?_⟩
      refine ⟨_, rfl, _, rfl, t, _, _, _, rfl, rfl, hl, (by rw [nvs_len]; exact ixN_nat hx8), ?_⟩
      rw [nvs_set]
      have hy9 : y < ((mOf m (q.take i)).set x ((mOf m (q.take i)).getD x 0 ||| 2 ^ y)).length := by rw [List.length_set]; exact hy8
      refine ⟨_, rfl, _, rfl, t, _, _, _, rfl, rfl, SqL.of upd_same, nvs_at hy9, _, rfl, x, rfl, rfl, by omega, _, _, rfl, rfl, ?_⟩
      refine ⟨_, rfl, _, rfl, t, _, _, _, rfl, rfl, upd_same, (by rw [nvs_len]; exact ixN_nat hy9), ?_⟩
      rw [nvs_set, upd_upd]
      refine ⟨_, _, rfl, fun a o e => ?_, ?_⟩
      · rw [upd_ne (ne_of_none e ht)]
        exact sm a o e
      · rw [upd_same, take_at hp]
        unfold mOf
        rw [List.foldl_append]
        rfl
    · rintro σ H' ⟨o3, o4, rfl, sm, hl⟩
      have el : xs.length = q.length := by rw [hx.len, List.length_map]
      rw [el, List.take_length] at hl
      refine ⟨_, rfl, t, _, rfl, .inl ⟨SqL.of hl, fun r nr => ?_⟩⟩
      exact kq _ r (sm.trans (same_upd nr)) (sm.free nr) upd_same
end
end K0
set_option Elab.async false
set_option linter.all false
set_option maxRecDepth 100000
set_option maxHeartbeats 4000000
namespace K0
open PySem PySem.Spec PyProof.Rows L2
abbrev s_wi : Stmt := inClass (top 24) 0
/-! ### what a web looks like -/
theorem k_mc : ¬ (("many" : Str) = "clashes") := by decide +kernel
theorem k_mm : ¬ (("many" : Str) = "masks") := by decide +kernel
theorem k_cm : ¬ (("clashes" : Str) = "masks") := by decide +kernel
def wf (n : Int) (c m : Addr) : List (Str × V) := putF "masks" (.ref m) (putF "clashes" (.ref c) (putF "many" (.int n) []))
theorem wf_many (n : Int) (c m : Addr) : (wf n c m).lookup ("many" : Str) = some (.int n) := by
  unfold wf
  rw [lookup_putF, if_neg k_mm, lookup_putF, if_neg k_mc, lookup_putF, if_pos rfl]
theorem wf_clashes (n : Int) (c m : Addr) : (wf n c m).lookup ("clashes" : Str) = some (.ref c) := by
  unfold wf
  rw [lookup_putF, if_neg k_cm, lookup_putF, if_pos rfl]
theorem wf_masks (n : Int) (c m : Addr) : (wf n c m).lookup ("masks" : Str) = some (.ref m) := by
  unfold wf
  rw [lookup_putF, if_pos rfl]
theorem wf_no (n : Int) (c m : Addr) {x : Str} (h1 : ¬ x = "many") (h2 : ¬ x = "clashes") (h3 : ¬ x = "masks") : (wf n c m).lookup x = none := by
  unfold wf
  rw [lookup_putF, if_neg h3, lookup_putF, if_neg h2, lookup_putF, if_neg h1]
  rfl
theorem wf_len1 (n : Int) : (putF ("many" : Str) (.int n) []).length < 1000 := by have := length_putF ("many" : Str) (.int n) []; simp at this; omega
theorem wf_len2 (n : Int) (c : Addr) : (putF ("clashes" : Str) (.ref c) (putF ("many" : Str) (.int n) [])).length < 1000 := by
  have h1 := length_putF ("clashes" : Str) (.ref c) (putF ("many" : Str) (.int n) [])
  have h2 := length_putF ("many" : Str) (.int n) []
  simp at h2
  omega
/-- the web of n things with the clashes q stands at p -/
structure WebAt (C : Addr) (H : Hp) (p : Addr) (n : Int) (q : List Pr) : Prop where
  ex : ∃ (dx c m : Addr) (l : List (Addr × Pr)), H p = some (.ins C dx (wf n c m)) ∧ H c = some (.tup (l.map fun z => V.ref z.1)) ∧ q = l.map (·.2) ∧ (∀ z ∈ l, H z.1 = some (.tup [.int z.2.1, .int z.2.2])) ∧ H m = some (.tup (nvs (mOf n.toNat q)))
  cl : Cl n q
  n0 : 0 ≤ n
  n8 : n ≤ 8
theorem WebAt.mono {C : Addr} {H H' : Hp} {p : Addr} {n : Int} {q : List Pr} (W : WebAt C H p n q) (s : Same H H') : WebAt C H' p n q := by
  obtain ⟨⟨dx, c, m, l, h1, h2, h3, h4, h5⟩, cl, n0, n8⟩ := W
  exact ⟨⟨dx, c, m, l, s _ _ h1, s _ _ h2, h3, fun z hz => s _ _ (h4 z hz), s _ _ h5⟩, cl, n0, n8⟩
/-- what is new in H' -/
def New (H H' : Hp) : Hp := fun b => match H b with
  | none => H' b
  | some _ => none
theorem new_at {H H' : Hp} {b : Addr} (h : H b = none) : New H H' b = H' b := by unfold New; rw [h]
theorem same_new {H H' : Hp} : Same (New H H') H' := fun b o e => by
  unfold New at e
  cases h : H b with
  | none => rw [h] at e; exact e
  | some _ => rw [h] at e; cases e
theorem new_mono {H H1 H' H2 : Hp} (a : ∀ b, H b = none → H' b ≠ none → H1 b = none) (s : Same H' H2) : Same (New H H') (New H1 H2) := fun b o e => by
  unfold New at e
  cases h : H b with
  | none =>
    rw [h] at e
    have e' : H' b = some o := e
    rw [new_at (a b h (by rw [e']; simp))]
    exact s _ _ e'
  | some _ => rw [h] at e; cases e
/-- all stays but the object at p -/
def SameX (p : Addr) (H H' : Hp) : Prop := ∀ b o, H b = some o → b ≠ p → H' b = some o
theorem SameX.trans {p : Addr} {H H1 H2 : Hp} (a : SameX p H H1) (b : SameX p H1 H2) : SameX p H H2 := fun c o e n => b c o (a c o e n) n
theorem sx {p : Addr} {H H' : Hp} (s : Same H H') : SameX p H H' := fun b o e _ => s b o e
theorem samex_upd {p : Addr} {H : Hp} {o : HO} : SameX p H (upd H p o) := fun b u e n => by rw [upd_ne n]; exact e
/-- lists and tuples alone -/
def seqs (H : Hp) : Hp := fun b => match H b with
  | some (.lst xs) => some (.lst xs)
  | some (.tup xs) => some (.tup xs)
  | _ => none
theorem seqs_lst {H : Hp} {b : Addr} {xs : List V} (e : H b = some (.lst xs)) : seqs H b = some (.lst xs) := by unfold seqs; rw [e]
theorem seqs_tup {H : Hp} {b : Addr} {xs : List V} (e : H b = some (.tup xs)) : seqs H b = some (.tup xs) := by unfold seqs; rw [e]
theorem seqs_of {H : Hp} {b : Addr} {o : HO} (e : seqs H b = some o) : H b = some o ∧ ∀ C dx fs, o ≠ .ins C dx fs := by
  unfold seqs at e
  split at e
  · rename_i h
    cases e
    exact ⟨h, fun _ _ _ z => by cases z⟩
  · rename_i h
    cases e
    exact ⟨h, fun _ _ _ z => by cases z⟩
  · cases e
mutual
theorem Dt.seqs {H : Hp} : ∀ {v : V} {d : PyData}, Dt H v d → Dt (seqs H) v d
  | _, _, .non => .non
  | _, _, .bl b => .bl b
  | _, _, .int i => .int i
  | _, _, .str x => .str x
  | _, _, .lst e h => .lst (seqs_lst e) (DtAll.seqs h)
  | _, _, .tup e h => .tup (seqs_tup e) (DtAll.seqs h)
theorem DtAll.seqs {H : Hp} : ∀ {v : List V} {d : List PyData}, DtAll H v d → DtAll (seqs H) v d
  | _, _, .nil => .nil
  | _, _, .cons h t => .cons (Dt.seqs h) (DtAll.seqs t)
end
theorem same_seqs {p C dx : Addr} {fs : List (Str × V)} {H H' : Hp} (hp : H p = some (.ins C dx fs)) (s : SameX p H H') : Same (seqs H) H' := fun b o e => by
  obtain ⟨h, no⟩ := seqs_of e
  exact s b o h fun z => by
    rw [z, hp] at h
    exact no C dx fs (Option.some.inj h).symm
theorem Dt.monoX {p C dx : Addr} {fs : List (Str × V)} {H H' : Hp} (hp : H p = some (.ins C dx fs)) (s : SameX p H H') {v : V} {d : PyData} (h : Dt H v d) : Dt H' v d := h.seqs.mono (same_seqs hp s)
theorem Sq.monoX {K : PySem.W.Frag} {p C dx : Addr} {fs : List (Str × V)} {H H' : Hp} (hp : H p = some (.ins C dx fs)) (s : SameX p H H') {a : Addr} {ds : List PyData} (h : Sq K H a ds) : Sq K H' a ds := by
  cases h with
  | lst e h => exact .lst (same_seqs hp s _ _ (seqs_lst e)) (h.seqs.mono (same_seqs hp s))
  | tup e h => exact .tup (same_seqs hp s _ _ (seqs_tup e)) (h.seqs.mono (same_seqs hp s))
  | kon e z => exact .kon e z
section
variable {P : Program} {w : World} {K : PySem.W.Frag} {mg : Str → Option Value} {base : Heap} {f : Addr} {fd : FuncData}
/-- the class of webs as the top has made it -/
structure WebC (K : PySem.W.Frag) (C : Addr) : Prop where
  cl : Cls K C
  nm : NoAttr K C "many"
  nc : NoAttr K C "clashes"
  nk : NoAttr K C "masks"
/-- Web.__init__ -/
def spWi (K : PySem.W.Frag) (C CN CW : Addr) : Sp := fun vs H Q E => ∃ (p dx a : Addr) (v : V) (d : PyData) (ds : List PyData), vs = [.ref p, v, .ref a] ∧ H p = some (.ins C dx []) ∧ Dt H v d ∧ Sq K H a ds ∧
  (okN 0 d = false → ∀ H' e, SameX p H H' → H' e = some (.xd [("name", .str "many")]) → E (.ref CN) (some e) H') ∧
  (∀ n, d = .int n → 0 ≤ n → n ≤ 8 ∧
    (∀ ps, entsOf n ds = .ok ps → ∀ q, Cl n q → (∀ z, z ∈ q ↔ z ∈ ps) → ∀ H', SameX p H H' → WebAt C (New (del H p) H') p n q → Q .non H') ∧
    (∀ x y, entsOf n ds = .error (x, y) → ∀ H' e vx vy, SameX p H H' → Dt H' vx x → Dt H' vy y → H' e = some (.xd [("y", vy), ("x", vx)]) → E (.ref CW) (some e) H'))
theorem sc_wi : FnScope ["self", "many", "clashes"] ["self", "many", "clashes"] (defScope s_wi) := ⟨rfl, rfl, rfl, by decide +kernel, rfl, by decide +kernel, by decide +kernel⟩
end
end K0
set_option Elab.async false
set_option linter.all false
set_option maxRecDepth 100000
set_option maxHeartbeats 4000000
namespace K0
open PySem PySem.Spec PyProof.Rows L2
/-- a def whose last parameters have defaults -/
structure DfD (P : Program) (w : World) (K : PySem.W.Frag) (mg : Str → Option Value) (base : Heap) (x : Str) (k : Nat) (ps : List Str) (dvs : List V) (sp : Sp) : Prop where
  ex : ∃ (f : Addr) (fd : FuncData) (ds : List Value), mg x = some (.ref f) ∧ PySem.W.keepIn K (.ref f) = true ∧ FnOk P w K mg base (L2.CX P w) k f fd ps sp ∧ Vals dvs ds ∧ Binds K fd ps ds
theorem pe_dfd {X : Cx} {x : Str} {k : Nat} {ps : List Str} {dvs : List V} {sp : Sp} {E : XK} {e : Expr} {es : List Expr} {t : TA} {p pos : Pos} (T : DfD X.prog X.w X.K X.mg X.base x k ps dvs sp) (hr : Room k X.A) (hg : Gl X x) (hx : Passes (L2.CX X.prog X.w) X E) (ha : PA X (e :: es) t)
    (hdb : (x == ("__debug__" : Str)) = false := by decide) (he : starEach (e :: es) X.env = (false, eval e X.env) :: starEach es X.env := by rfl) (hpl : (backTo pos (starEach es X.env)).any (·.1) = false := by rfl) :
    PE X (.Call (.Name x p) (e :: es) [] pos) (tCall sp dvs E t) := by
  obtain ⟨f, fd, ds, g, kp, F, v, b⟩ := T.ex
  exact pe_call F hr hg g kp b v hx ha hdb he hpl
section
variable {P : Program} {w : World} {K : PySem.W.Frag} {mg : Str → Option Value} {base : Heap} {f : Addr} {fd : FuncData}
theorem ok_wi {dvs : List V} {C CN CW : Addr} (F : FunD K "__init__" "Web.__init__" (defArgs s_wi) (defBody s_wi) (defScope s_wi) dvs [] f fd) (T : WebC K C) (CNum : DfD P w K mg base "check_number" 3 ["value", "name", "least"] [.int 0] (spCn CN))
    (CC : Df P w K mg base "checked_clashes" 3 ["many", "clashes"] (spCC K CW)) (NM : Df P w K mg base "near_masks" 1 ["many", "clashes"] spNm) : FnOk P w K mg base (L2.CX P w) 4 f fd ["self", "many", "clashes"] (spWi K C CN CW) := by
  refine F.ok sc_wi (fun vs H Q E h => ?_) (fun cdv A outer s H vs Q E hr h => ?_)
  · obtain ⟨p, dx, a, v, d, ds, rfl, _⟩ := h
    rfl
  · obtain ⟨p, dx, a, v, d, ds, rfl, hp, hv, hs, kn, kw⟩ := h
    have hr1 : Room 1 _ := hr.mono (by decide)
    refine ⟨_, pss_cons (ps_expr (pe_dfd CNum hr (by rfl) passUp (pa_cons (pv 1) (pa_cons pe_str pa_nil))))
      (pss_cons (ps_fld (pv 0) (pv 1) rfl)
      (pss_cons (ps_fld (pv 0) (pe_df CC hr (by rfl) passUp (pa_cons (pv 1) (pa_cons (pv 2) pa_nil))) rfl)
      (pss_one (ps_fld (pv 0) (pe_df NM hr1 (by rfl) passUp (pa_cons (pv 1) (pa_cons (pe_fld (pv 0) rfl) pa_nil))) rfl)))), ?_⟩
    refine ⟨_, rfl, v, d, _, 0, rfl, hv, fun ok => ?_, fun bad H' e sm he => kn bad H' e (sx sm) he⟩
    obtain ⟨n, rfl, rfl, h0⟩ : ∃ n, v = .int n ∧ d = .int n ∧ 0 ≤ n := by
      cases hv with
      | int i => exact ⟨i, rfl, rfl, of_decide_eq_true ok⟩
      | non => cases ok
      | bl b => cases ok
      | str b => cases ok
      | lst e h => cases ok
      | tup e h => cases ok
    obtain ⟨n8, kq, ke⟩ := kw n rfl h0
    -- self.many = many
    refine ⟨_, rfl, _, rfl, p, C, dx, [], rfl, hp, T.cl, T.nm, (by show 0 < 1000; decide), ?_⟩
    have x1 : SameX p H (upd H p (.ins C dx (putF "many" (.int n) []))) := samex_upd
    have hs1 := hs.monoX hp x1
    -- self.clashes = checked_clashes(many, clashes)
    refine ⟨_, rfl, _, rfl, n, a, ds, rfl, n8, hs1, fun ps hps q hq hm H2 c xs s2 nc hc hl => ?_, fun x y hxy H' e vx vy sm hx hy he => ke x y hxy H' e vx vy (x1.trans (sx sm)) hx hy he⟩
    have hp2 : H2 p = some (.ins C dx (putF "many" (.int n) [])) := s2 _ _ upd_same
    have cp : c ≠ p := fun z => by rw [z, upd_same] at nc; cases nc
    have nc' : H c = none := by rw [upd_ne cp] at nc; exact nc
    refine ⟨_, rfl, p, C, dx, _, rfl, hp2, T.cl, T.nc, wf_len1 n, ?_⟩
    obtain ⟨l, rfl, eq, hz⟩ := hl
    have x3 : SameX p H2 (upd H2 p (.ins C dx (putF "clashes" (.ref c) (putF "many" (.int n) [])))) := samex_upd
    have hc3 := x3 _ _ hc cp
    have zp : ∀ z ∈ l, z.1 ≠ p := fun z hz' e => by
      have := (hz z hz').1
      rw [e, upd_same] at this
      cases this
    have hz3 : ∀ z ∈ l, (upd H2 p (.ins C dx (putF "clashes" (.ref c) (putF "many" (.int n) [])))) z.1 = some (.tup [.int z.2.1, .int z.2.2]) := fun z hz' => x3 _ _ (hz z hz').2 (zp z hz')
    -- self.masks = near_masks(many, self.clashes)
    refine ⟨_, rfl, _, rfl, p, C, dx, _, .ref c, rfl, upd_same, T.cl, T.nc, (by rw [lookup_putF, if_pos rfl]), n, c, _, q, rfl, h0, n8, hq, hc3, (by rw [eq, List.map_map]; exact dtAll_prs hz3), fun H4 m s4 nm hm4 => ?_⟩
    have hp4 := s4 p _ upd_same
    have mp : m ≠ p := fun z => by rw [z, upd_same] at nm; cases nm
    have nm2 : H2 m = none := by rw [upd_ne mp] at nm; exact nm
    have nm' : H m = none := by
      have := s2.free nm2
      rw [upd_ne mp] at this
      exact this
    refine ⟨_, rfl, p, C, dx, _, rfl, hp4, T.cl, T.nk, wf_len2 n c, ?_⟩
    have x5 : SameX p H4 (upd H4 p (.ins C dx (wf n c m))) := samex_upd
    have xAll : SameX p H (upd H4 p (.ins C dx (wf n c m))) := x1.trans ((sx s2).trans (x3.trans ((sx s4).trans x5)))
    have dl : ∀ {b : Addr}, H b = none → (del H p) b = none := fun {b} h => by
      by_cases e : b = p
      · rw [e, del_same]
      · rw [del_ne e]; exact h
    refine kq ps hps q hq hm _ xAll ⟨⟨dx, c, m, l, ?_, ?_, eq, fun z hz' => ?_, ?_⟩, hq, h0, n8⟩
    · rw [new_at del_same]
      exact upd_same
    · rw [new_at (dl nc')]
      exact x5 _ _ (s4 _ _ hc3) cp
    · have n1 : H z.1 = none := by
        have := (hz z hz').1
        rw [upd_ne (zp z hz')] at this
        exact this
      rw [new_at (dl n1)]
      exact x5 _ _ (s4 _ _ (hz3 z hz')) (zp z hz')
    · rw [new_at (dl nm')]
      exact x5 _ _ hm4 mp
end
end K0
set_option Elab.async false
set_option linter.all false
set_option maxRecDepth 100000
set_option maxHeartbeats 4000000
namespace K0
open PySem PySem.Spec PyProof.Rows L2
abbrev s_ti : Stmt := top 18
def rS : R2 := fun x y H Q => ∃ a b : Nat, x = .int (a : Int) ∧ y = .int (b : Int) ∧ Q (.int ((a / 2 ^ b : Nat) : Int)) H
def rA : R2 := fun x y H Q => ∃ a : Nat, x = .int (a : Int) ∧ y = .int 1 ∧ Q (.int ((a % 2 : Nat) : Int)) H
theorem op_shr2 {X : Cx} : OpR X (binaryOp .RShift) rS := OpR_imp op_shr fun x y H Q ⟨a, b, ex, ey, q⟩ => ⟨_, _, ex, ey, Int.natCast_nonneg b, by
  show Q (.int ((a : Int) / 2 ^ ((b : Int).toNat))) H
  rw [Int.toNat_natCast, show (2 : Int) ^ b = ((2 ^ b : Nat) : Int) from (Int.natCast_pow 2 b).symm, ← Int.natCast_ediv]
  exact q⟩
theorem op_and1 {X : Cx} : OpR X (binaryOp .BitAnd) rA := OpR_imp op_and fun x y H Q ⟨a, ex, ey, q⟩ => ⟨_, _, ex, ey, by
  show Q (.int (Builtin.bitAnd (a : Int) 1)) H
  rw [bitAnd_m1, show ((a : Int) % 2) = ((a % 2 : Nat) : Int) from by omega]
  exact q⟩
theorem bit_val (m k : Nat) : ((((m / 2 ^ k % 2 : Nat) : Int)) != 0) = m.testBit k := by
  rw [Nat.testBit_eq_decide_div_mod_eq]
  rcases Nat.mod_two_eq_zero_or_one (m / 2 ^ k) with e | e <;> rw [e] <;> rfl
theorem bit_one (m k : Nat) : ((((m / 2 ^ k % 2 : Nat) : Int)) == 1) = m.testBit k := by
  rw [Nat.testBit_eq_decide_div_mod_eq]
  rcases Nat.mod_two_eq_zero_or_one (m / 2 ^ k) with e | e <;> rw [e] <;> rfl
theorem range_cut {p : Nat → Bool} {a : Nat} (h : ∀ j, a ≤ j → p j = false) : ∀ d, (List.range (a + d)).filter p = (List.range a).filter p := fun d => by
  rw [List.range_add, List.filter_append]
  have : ((List.range d).map (a + ·)).filter p = [] := by
    rw [List.filter_eq_nil_iff]
    intro x hx
    obtain ⟨y, _, rfl⟩ := List.mem_map.mp hx
    rw [h _ (Nat.le_add_right a y)]
    simp
  rw [this, List.append_nil]
theorem range_same {p : Nat → Bool} {a b : Nat} (ha : ∀ j, a ≤ j → p j = false) (hb : ∀ j, b ≤ j → p j = false) : (List.range a).filter p = (List.range b).filter p := by
  rcases Nat.le_total a b with h | h
  · obtain ⟨d, rfl⟩ := Nat.exists_eq_add_of_le h
    exact (range_cut ha d).symm
  · obtain ⟨d, rfl⟩ := Nat.exists_eq_add_of_le h
    exact range_cut hb d
def bitsN (m : Nat) : Nat := Builtin.Int.intBits (m : Int)
theorem bits_out {m j : Nat} (h : bitsN m ≤ j) : m.testBit j = false := by
  refine Nat.testBit_lt_two_pow ?_
  unfold bitsN Builtin.Int.intBits at h
  by_cases e : m = 0
  · rw [e]
    exact Nat.two_pow_pos j
  · rw [if_neg (by simpa using e), Int.natAbs_natCast] at h
    exact Nat.lt_of_lt_of_le Nat.lt_log2_self (Nat.pow_le_pow_right (by decide) h)
/-- the places of the bits -/
def bitsOf (n m : Nat) : List Nat := (List.range n).filter m.testBit
theorem bitsOf_eq {n m : Nat} (h : ∀ j, n ≤ j → m.testBit j = false) : (List.range (bitsN m)).filter m.testBit = bitsOf n m := range_same (fun j => bits_out) h
section
variable {P : Program} {w : World} {K : PySem.W.Frag} {mg : Str → Option Value} {base : Heap} {f : Addr} {fd : FuncData}
def spTi : Sp := fun vs H Q _ => ∃ (m : Nat), vs = [.int (m : Int)] ∧ bitsN m ≤ 1000 ∧ ∀ H' t, Same H H' → H t = none → H' t = some (.tup (nvs ((List.range (bitsN m)).filter m.testBit))) → Q (.ref t) H'
theorem sc_ti : FnScope ["mask", "thing"] ["mask"] (defScope s_ti) := ⟨rfl, rfl, rfl, by decide +kernel, rfl, by decide +kernel, by decide +kernel⟩
theorem filter_take {p : Nat → Bool} (n i : Nat) (h : i < n) : ((List.range n).take (i + 1)).filter p = ((List.range n).take i).filter p ++ (if p i = true then [i] else []) := by
  rw [List.take_range, List.take_range, Nat.min_eq_left (by omega), Nat.min_eq_left (by omega), List.range_succ, List.filter_append]
  congr 1
  cases e : p i <;> simp [e]
theorem ok_ti (F : Fun K "things_in" "things_in" s_ti f fd) (B : Blt2 mg) : FnOk P w K mg base (L2.CX P w) 1 f fd ["mask"] spTi := by
  refine up0 (F.ok sc_ti (fun vs H Q E h => ?_) (fun cdv A outer s H vs Q E hr h => ?_))
  · obtain ⟨m, rfl, _⟩ := h
    rfl
  · obtain ⟨m, rfl, hb, q⟩ := h
    have nd := sc_ti.nd
    refine ⟨_, pss_one (ps_ret (pe_callTy call_tuple_of (by rfl) B.tuple (by decide +kernel) (pa_cons (pe_lc (tt := tTru K (tOp rA (tOp rS (tVar 0) (tVar 1)) (tC (.int 1)))) (te := tVar 1) (own := [("thing", 1)]) (g := gName 1) rfl nd (pi_range1 (by rfl) B.range (pa_cons (pe_bits (pv 0)) pa_nil))
      (blkOk_by (N := ["mask", "thing"]) (sc := defScope s_ti) (by decide +kernel)) (fun _ _ _ _ _ => pg_name (i := 1) nd rfl (.inl rfl))
      (fun _ _ _ _ _ => pts_one (pt_truth (pe_op op_and1 (pe_op op_shr2 (pv 0) (pv 1)) pe_int) (by intro _; rfl))) (fun _ _ _ _ _ => pv 1)) pa_nil))), ?_⟩
    refine ⟨_, rfl, _, rfl, _, rfl, by omega, by have : bitsN m < 2 ^ 62 := (by omega); exact Int.ofNat_lt.mpr this, fun D nD => ?_⟩
    have eN : ((Builtin.Int.intBits (m : Int) : Nat) : Int).toNat = bitsN m := Int.toNat_natCast _
    rw [eN]
    refine lc_range (lo := 0) (n := bitsN m) (fun i H' => Same H H' ∧ H' D = some (.lst (nvs (((List.range (bitsN m)).take i).filter m.testBit)))) ⟨same_upd nD, upd_same⟩ (fun i H' hi ⟨sm, hD⟩ => ?_) (fun H' ⟨sm, hD⟩ => ?_)
    · refine ⟨rfl, ?_⟩
      rw [Int.zero_add]
      refine ⟨_, rfl, _, rfl, m, i, rfl, rfl, _, rfl, rfl, _, rfl, ?_⟩
      rw [bit_val]
      cases e : m.testBit i with
      | false =>
        refine iteF ⟨sm, ?_⟩
        rw [filter_take _ _ hi, e]
        simpa using hD
      | true =>
        refine iteT ⟨_, rfl, _, hD, ?_, ?_, ?_⟩
        · rw [nvs_len, sizeLine_eq]
          have h1 := List.length_filter_le m.testBit ((List.range (bitsN m)).take i)
          rw [List.length_take, List.length_range] at h1
          omega
        · intro b o e2
          rw [upd_ne (ne_of_none e2 nD)]
          exact sm b o e2
        · rw [upd_same, filter_take _ _ hi, e]
          unfold nvs
          rw [List.map_append]
          rfl
    · rw [List.take_of_length_le (by rw [List.length_range]; exact Nat.le_refl _)] at hD
      exact ⟨D, _, rfl, .inl ⟨SqL.of hD, fun t nt => q _ t (sm.trans (same_upd nt)) (sm.free nt) upd_same⟩⟩
end
end K0
set_option Elab.async false
set_option linter.all false
set_option maxRecDepth 100000
set_option maxHeartbeats 4000000
/-! enumerate(tuple) -/
namespace K0
open PySem PySem.Spec PyProof.Rows L2
open AutoSeq1 (wpAny_loadPart')
theorem enumNewT (l : Addr) (items : Array Value) (n : Nat) (dct : Option Addr) (sl : Array (Option Value)) :
    Meets (Builtin.«enumerate.__new__» ⟨[.type "enumerate", .ref l], []⟩) (fun _ R s => s.heap.get? l = some { cls := .type "tuple", dict := dct, data := .seq items n, slots := sl } ∧
      R (.ok (.ret (.ref (s.heap.push { cls := .type "tuple_iterator", data := .fields #[.ref l, .int 0 0] }).objs.size)))
        { s with heap := (s.heap.push { cls := .type "tuple_iterator", data := .fields #[.ref l, .int 0 0] }).push { cls := .type "enumerate", data := .fields #[.none, .bool false, .ref s.heap.objs.size, rawInt 0, .none, .none] } }) :=
  .of_wp fun prog w A R s h => by
    obtain ⟨hp, g, d, tk, os⟩ := s
    obtain ⟨hl, h⟩ := h
    have hsub := sub_enumerate
    have hT : Heap.IsTuple (Shared.heap ⟨hp, g, d, tk, os⟩) l items := ⟨_, hl, rfl, n, rfl⟩
    wp_walk using wpAny_loadPart' hl
    refine wpAny_stack_any fun st => wpAny_pure ?_
    split
    · rename_i c _ _ _ _ _
      cases (c == Value.type "enumerate")
      · wp_walk using wpAny_loadPart' hl, wpAny_pyIter_tuple hT
        exact ⟨_, rfl, h⟩
      · wp_walk using wpAny_loadPart' hl, wpAny_pyIter_tuple hT
        exact ⟨_, rfl, h⟩
    · wp_walk using wpAny_loadPart' hl, wpAny_pyIter_tuple hT
      exact ⟨_, rfl, h⟩
section
variable {prog : Program} {w : World} {A : Around} {E : Value → Shared → Prop} {s : Shared}
theorem callEnumT {l : Addr} {items : Array Value} {Q : Value → Shared → Prop} (hL : s.heap.IsTuple l items)
    (h : ∀ h', IsEnum h' (s.heap.objs.size + 1) s.heap.objs.size 0 .none → h'.IsTupleIter s.heap.objs.size l 0 → h'.objs.size = s.heap.objs.size + 2 →
      (∀ b o, s.heap.get? b = some o → h'.get? b = some o) → Q (.ref (s.heap.objs.size + 1)) { s with heap := h' }) :
    wpAny (model prog w) A (call (.type "enumerate") [.ref l]) Q E s := by
  obtain ⟨⟨c, dct, dt, sl⟩, hl, hc, n, hd⟩ := hL
  replace hc : c = .type "tuple" := hc
  replace hd : dt = .seq items n := hd
  subst hc hd
  refine callType_new F.called_enumerate (by decide) (F.typeCall_enumerate_1 _) (F.newCall_enumerate_1 _) (fun obj => F.args_object_init_2 obj _) F.entry_enumerate_new
    (enumNewT l items n dct sl) ⟨hl, ?_⟩
  have hz : (s.heap.push { cls := .type "tuple_iterator", data := .fields #[.ref l, .int 0 0] }).objs.size = s.heap.objs.size + 1 := Heap.size_push ..
  show _ ∧ _
  rw [hz]
  have he : IsEnum ((s.heap.push { cls := .type "tuple_iterator", data := .fields #[.ref l, .int 0 0] }).push
      { cls := .type "enumerate", data := .fields #[.none, .bool false, .ref s.heap.objs.size, rawInt 0, .none, .none] }) (s.heap.objs.size + 1) s.heap.objs.size 0 .none := by
    have := Heap.get?_push_size (s.heap.push { cls := .type "tuple_iterator", data := .fields #[.ref l, .int 0 0] })
      (o := { cls := .type "enumerate", data := .fields #[.none, .bool false, .ref s.heap.objs.size, rawInt 0, .none, .none] }) rfl
    rw [hz] at this
    exact this
  refine ⟨⟨_, he, rfl⟩, h _ he ⟨_, Heap.get?_push_of_some _ (Heap.get?_push_size _ rfl), rfl, rfl⟩ (by rw [Heap.size_push, hz]) fun b o x => Heap.get?_push_of_some _ (Heap.get?_push_of_some _ x)⟩
end
/-- the tuple at a, each item in a new pair with its place -/
def IteT (K : PySem.W.Frag) (a : Addr) : It :=
  ⟨fun i H => ∃ (xs : List V) (x : V), SqT K H a xs ∧ xs[i]? = some x, fun i H v H' => ∃ T x, v = .ref T ∧ H T = none ∧ H' = upd H T (.tup [.int (i : Nat), x]) ∧ ∀ xs, SqT K H a xs → xs[i]? = some x, fun i H => ∃ xs : List V, SqT K H a xs ∧ xs.length ≤ i⟩
theorem turn_enumT {P : Program} {w : World} {K : PySem.W.Frag} {elts : List Expr} {kk : Nat} {tpos : Pos} (a e it : Addr) :
    Turn P w K (.Tuple elts kk tpos) (IteT K a) [e, it] e (fun i h => (∃ old, IsEnum h e it ((i : Nat) : Int) old) ∧ h.IsTupleIter it a i ∧ e ≠ it ∧ e ≠ a ∧ a ≠ it) where
  mem := by simp
  obj := fun i h st b hb => by
    obtain ⟨⟨old, he⟩, ⟨o, ho, hc, hd⟩, _⟩ := st
    have e' : b = e ∨ b = it := by simpa using hb
    rcases e' with z | z
    · rw [z]; exact ⟨_, he, fun v q => nomatch q⟩
    · rw [z]; exact ⟨o, ho, fun v q => by rw [hd] at q; cases q⟩
  keep := fun i h h' st k => let ⟨⟨old, he⟩, hi, hne⟩ := st; ⟨⟨old, k e (by simp) _ he⟩, hi.at fun o q => k it (by simp) o q, hne⟩
  item := by
    intro X hP hw hK hc i pins s σ H E I hf st hg
    subst hP hw hK
    obtain ⟨⟨old, he⟩, hit, hne, hea, hai⟩ := st
    obtain ⟨xs, x, hq, hx⟩ := hg
    obtain ⟨its, rv, p, hz⟩ := I.tuple hq
    obtain ⟨u, hu, ru⟩ := rv.get hx
    have hel : e < s.heap.objs.size := Heap.lt_size he
    have hil : it < s.heap.objs.size := by obtain ⟨_, q, _⟩ := hit; exact Heap.lt_size q
    have hT : s.heap.IsTuple a its.toArray := p
    have lt : i < its.toArray.size := by
      have := (List.getElem?_eq_some_iff.mp hu).1
      simpa using this
    refine wpAny_pyNext_enum_itemD (Draws.tuple (A := X.A.in1) (show X.A.in1.handled = none from I.ok.hd hc) it a hai its.toArray) he ⟨hit, hT⟩ lt hne (by simp [hne, hea]) fun y h' tk hy ho hst hTt hsz hk => ?_
    have ey : y = u := by
      rw [show its.toArray[i]? = some u by simpa using hu] at hy
      exact (Option.some.inj hy).symm
    subst ey
    refine ⟨_, rfl, wpAny_letOwnedTupleGo_enum (s := { s with heap := h', toks := tk + 1 }) ho fun h'' he' sb => ?_⟩
    have hT2 : h''.get? s.heap.objs.size = some { cls := .type "tuple", data := .seq #[.int i tk, y] } := (sb.2 _ (Nat.ne_of_gt hel)).trans hTt
    have new : ObjOk X.prog X.w (upd H s.heap.objs.size (.tup [.int (i : Nat), x])) h'' s.heap.objs.size (.tup [.int (i : Nat), x]) :=
      ⟨by show 2 ≤ sizeLine; decide, [.int i tk, y], .cons ⟨_, rfl⟩ (.cons ru .nil), ⟨_, hT2, rfl, _, rfl⟩⟩
    have I1 : Inv X pins σ (upd H s.heap.objs.size (.tup [.int (i : Nat), x])) { s with heap := h'', toks := tk + 1 } :=
      I.turnedNew (ch := [e, it]) (fun b ob hb q => (sb.2 b (fun z => hb (by simp [z]))).trans (hk b ob (fun z => hb (by simp [z])) (fun z => hb (by simp [z])) q)) hf (Nat.le_refl _) new
    refine ⟨.ref s.heap.objs.size, _, I1, rfl, ⟨_, x, rfl, I.hok.fresh (Nat.le_refl _), rfl, fun ys hy => by rw [I.tuple_inj hy hq]; exact hx⟩, ⟨⟨y, ?_⟩, hst.1.at fun o q => (sb.2 it (Ne.symm hne)).trans q, hne, hea, hai⟩, fun b hb => ?_⟩
    · have e1 : ((i + 1 : Nat) : Int) = (i : Int) + 1 := by omega
      rw [e1]; exact he'
    · have hb' : b < s.heap.objs.size := by
        have e' : b = e ∨ b = it := by simpa using hb
        rcases e' with z | z
        · rw [z]; exact hel
        · rw [z]; exact hil
      rw [upd_ne (Nat.ne_of_lt hb')]
      exact (hf b hb).1
  done := by
    intro X hP hw hK hc i pins s σ H E I hf st hg
    subst hP hw hK
    obtain ⟨⟨old, he⟩, hit, hne, hea, hai⟩ := st
    obtain ⟨xs, hq, hx⟩ := hg
    obtain ⟨its, rv, p, hz⟩ := I.tuple hq
    obtain ⟨f0, f1, f2, f3, f4, f5⟩ := hf it (by simp)
    have hl := rv.length
    have hT : s.heap.IsTuple a its.toArray := p
    have hTy : s.TypeIs (.ref e) "enumerate" := ⟨_, he, rfl⟩
    unfold pyNext
    refine wpAny_bind (wpAny_attempt (wpAny_callSpecial?_slot (name := Str.ofString "__next__") hTy F.slot_enumerate_next
      (wpAny_call_entry F.slot_enumerate_next hTy F.entry_enumerate_next ?_ (F.args_enumerate_next_1 _))))
    show wpAny _ _ (field (.ref e) 2 >>= _) _ _ _
    refine wpAny_bind (wpAny_field he rfl (x := .ref it) rfl ?_)
    refine wpAny_bind (wpAny_nextOf_tuple_end (A := X.A.in1) (show X.A.in1.handled = none from I.ok.hd hc) hit hT (by simp; omega) fun h' x he' hx' => ?_)
    obtain ⟨o, ho, hc⟩ := hx'
    refine wpAny_bind (wpAny_isInstance (T := "StopIteration") (b := true) ⟨o, ho, hc⟩ isSubtype_stop ?_)
    exact wpAny_pure ⟨rfl, I.turned (t' := s.toks) (fun b o hb q => he' b o hb q) f0 f1 f3 f4 f5⟩
  self := fun A i s Q E st h => let ⟨⟨_, he⟩, _⟩ := st; wpAny_pyIter_enum he h
def iEnumT (K : PySem.W.Frag) (ta : TA) : TI := fun σ H R => ta σ H fun vs H1 => ∃ a xs, vs = [.ref a] ∧ SqT K H1 a xs ∧ R (IteT K a) H1
theorem pi_enumT {X : Cx} {e : Expr} {ta : TA} {p pos tpos : Pos} {elts : List Expr} {kk : Nat} (hg : Gl X "enumerate") (hm : X.mg "enumerate" = none) (ha : PA X [e] ta) (hs : starEach [e] X.env = [(false, eval e X.env)] := by rfl) :
    PI X (.Tuple elts kk tpos) (.Call (.Name "enumerate" p) [e] [] pos) (iEnumT X.K ta) := by
  refine ⟨fun pins s σ H R I h => ?_⟩
  refine Call_ (ld_blt I hg hm boot_enumerate (PyProof.Rows.callWith_type1 (thn (ha.run pos pins s σ H _ I h) fun us s1 ⟨vs, H1, I1, r1, q1⟩ => ?_) hs rfl))
  obtain ⟨a, xs, ex, hq, q⟩ := q1
  subst ex
  cases r1 with
  | cons r rr =>
    cases rr
    cases r
    obtain ⟨its, rv, p', hz⟩ := I1.tuple hq
    have hT : s1.heap.IsTuple a its.toArray := p'
    have hal : a < s1.heap.objs.size := by obtain ⟨o, ho, _⟩ := hT; exact Heap.lt_size ho
    refine callEnumT hT fun h' he hit hsz hk => wpAny_pyIter_enum he ?_
    have I2 : Inv X pins σ H1 { s1 with heap := h' } := I1.kept (t' := s1.toks) hk
    refine ⟨s1.heap.objs.size + 1, [s1.heap.objs.size + 1, s1.heap.objs.size], _, _, H1, rfl, I2, turn_enumT a (s1.heap.objs.size + 1) s1.heap.objs.size, ⟨⟨.none, he⟩, hit, Nat.succ_ne_self _, Nat.ne_of_gt (Nat.lt_succ_of_lt hal), Nat.ne_of_lt hal⟩, fun b hb => ?_, q⟩
    have e' : b = s1.heap.objs.size + 1 ∨ b = s1.heap.objs.size := by simpa using hb
    have hle : s1.heap.objs.size ≤ b := by
      rcases e' with z | z
      · rw [z]; exact Nat.le_add_right _ _
      · rw [z]; exact Nat.le_refl _
    exact I1.fpOk hle (I1.hok.fresh hle)
theorem walk_enumT {K : PySem.W.Frag} {a : Addr} {xs : List V} : Walk (IteT K a) xs.length (fun H => SqT K H a xs) (YPair (fun i => some (.int (i : Nat))) (fun i => xs[i]?)) := by
  refine ⟨fun i _ hi q => ⟨xs, xs[i], q, by simp [hi]⟩, fun _ q => ⟨xs, q, Nat.le_refl _⟩, fun i H v H' _ q y => ?_⟩
  obtain ⟨T, x, h1, h2, h3, h4⟩ := y
  exact ⟨T, .int (i : Nat), x, h1, h2, h3, rfl, h4 xs q⟩
end K0
set_option Elab.async false
set_option linter.all false
set_option maxRecDepth 100000
set_option maxHeartbeats 4000000
namespace K0
open PySem PySem.Spec PyProof.Rows L2
abbrev s_fw : Stmt := top 15
abbrev s_cs : Stmt := top 16
def okAt (n : Int) (sn : List Int) : PyData → Bool
  | .int i => decide (0 ≤ i ∧ i < n ∧ i ∉ sn)
  | _ => false
def toI : PyData → Int
  | .int i => i
  | _ => 0
/-- the first wrong place, behind the things sn -/
def fwG (n : Int) : List PyData → List Int → Option Nat
  | [], _ => none
  | d :: r, sn => if okAt n sn d = true then fwG n r (sn ++ [toI d]) else some sn.length
structure Good (n : Int) (sn : List Int) : Prop where
  nd : sn.Nodup
  rng : ∀ k ∈ sn, 0 ≤ k ∧ k < n
theorem Good.few {n : Int} {sn : List Int} (h : Good n sn) (hn : n ≤ 9) : sn.length ≤ 9 := by
  have := len_sub sn ((List.range 9).map fun (k : Nat) => (k : Int)) h.nd fun k hk => by
    obtain ⟨a, b⟩ := h.rng k hk
    exact List.mem_map.mpr ⟨k.toNat, List.mem_range.mpr (by omega), by omega⟩
  simpa using this
theorem fwG_none {n : Int} : ∀ {ds : List PyData} {sn : List Int}, Good n sn → fwG n ds sn = none → ∃ r, ds = r.map PyData.int ∧ Good n (sn ++ r)
  | [], sn, h, _ => ⟨[], rfl, by rw [List.append_nil]; exact h⟩
  | d :: ds, sn, h, e => by
    rw [fwG] at e
    cases c : okAt n sn d with
    | false => rw [c] at e; cases e
    | true =>
      rw [c, if_pos rfl] at e
      cases d with
      | int i =>
        have z : 0 ≤ i ∧ i < n ∧ i ∉ sn := of_decide_eq_true c
        have g : Good n (sn ++ [i]) := ⟨by
          rw [List.nodup_append]
          refine ⟨h.nd, by simp, fun a ha b hb => ?_⟩
          rw [List.mem_singleton.mp hb]
          exact fun e => z.2.2 (e ▸ ha), fun k hk => by
          rcases List.mem_append.mp hk with hk | hk
          · exact h.rng k hk
          · rw [List.mem_singleton.mp hk]; exact ⟨z.1, z.2.1⟩⟩
        obtain ⟨r, e1, e2⟩ := fwG_none g e
        refine ⟨i :: r, by rw [e1]; rfl, ?_⟩
        rw [List.append_assoc] at e2
        exact e2
      | _ => cases c
/-- a loop over enumerate of a list or tuple of data -/
theorem tfor_en {K : PySem.W.Frag} {i : Nat} {a : Addr} {ds : List PyData} {g : TG} {tb : TS} {D : Ends} {σ : L2.St} {H H0 : Hp} (hv : σ[i]? = some (some (.ref a))) (h : Sq K H0 a ds) (Pv : Nat → L2.St → Hp → Prop) (h0 : Pv 0 σ H)
    (hl : ∀ j σ H', Pv j σ H' → ∀ o, H0 a = some o → H' a = some o)
    (hs : ∀ j v d σ H' T, ds[j]? = some d → Dt H0 v d → Pv j σ H' → H' T = none → g (.ref T) σ (upd H' T (.tup [.int (j : Nat), v])) fun σ2 H2 => tb { D with nx := Pv (j + 1), ct := Pv (j + 1), bk := D.nx } σ2 H2) (hd : ∀ σ H', Pv ds.length σ H' → D.nx σ H') :
    tFor (fun σ H R => iEnum K (tCons (tVar i) tNil) σ H R ∨ iEnumT K (tCons (tVar i) tNil) σ H R) g tb D σ H := by
  cases h with
  | @lst xs e h =>
    refine .inl ⟨_, hv, a, xs, rfl, SqL.of (hl 0 _ _ h0 _ e), for_it (walk_enum (K := K) (a := a) (xs := xs)) Pv h0 (fun j σ H' _ p => SqL.of (hl j σ H' p _ e)) (fun j v σ H' H2 hj p y => ?_) (fun σ H' p => ?_)⟩
    · obtain ⟨T, x, y, rfl, nT, rfl, e1, e2⟩ := y
      cases e1
      obtain ⟨d, hd, hdt⟩ := h.at e2
      exact hs j y d σ H' T hd hdt p nT
    · rw [h.len] at p
      exact hd σ H' p
  | @tup xs e h =>
    refine .inr ⟨_, hv, a, xs, rfl, SqT.of (hl 0 _ _ h0 _ e), for_it (walk_enumT (K := K) (a := a) (xs := xs)) Pv h0 (fun j σ H' _ p => SqT.of (hl j σ H' p _ e)) (fun j v σ H' H2 hj p y => ?_) (fun σ H' p => ?_)⟩
    · obtain ⟨T, x, y, rfl, nT, rfl, e1, e2⟩ := y
      cases e1
      obtain ⟨d, hd, hdt⟩ := h.at e2
      exact hs j y d σ H' T hd hdt p nT
    · rw [h.len] at p
      exact hd σ H' p
  | kon e z =>
    refine .inr ⟨_, hv, a, [], rfl, e _, for_it (walk_enumT (K := K) (a := a) (xs := [])) Pv h0 (fun j σ H' _ p => e _) (fun j v σ H' H2 hj p y => ?_) (fun σ H' p => ?_)⟩
    · cases hj
    · rw [z] at hd
      exact hd σ H' p
section
variable {P : Program} {w : World} {K : PySem.W.Frag} {mg : Str → Option Value} {base : Heap} {f : Addr} {fd : FuncData}
def spFw (K : PySem.W.Frag) : Sp := fun vs H Q _ => ∃ n a ds, vs = [.int n, .ref a] ∧ n ≤ 9 ∧ Sq K H a ds ∧ (fwG n ds [] = none → Ret .non H Q) ∧ (∀ i, fwG n ds [] = some i → Ret (.int (i : Nat)) H Q)
theorem sc_fw : FnScope ["many", "things", "seen", "place", "thing"] ["many", "things"] (defScope s_fw) := ⟨rfl, rfl, rfl, by decide +kernel, rfl, by decide +kernel, by decide +kernel⟩
theorem ok_fw (F : Fun K "first_wrong" "first_wrong" s_fw f fd) (B : Blt2 mg) (TH : Df P w K mg base "is_thing" 2 ["many", "value"] spTh) : FnOk P w K mg base (L2.CX P w) 3 f fd ["many", "things"] (spFw K) := by
  refine F.okX sc_fw (fun vs H Q E h => ?_) (fun cdv A outer s H vs Q E hr h => ?_)
  · obtain ⟨n, a, ds, rfl, _⟩ := h
    rfl
  · obtain ⟨n, a, ds, rfl, hn, hs, q1, q2⟩ := h
    have nd := sc_fw.nd
    refine ⟨_, pss_cons (ps_set (i := 2) nd rfl (.inl rfl) (pe_callTy0 cr_set0 (by rfl) B.set (by decide +kernel)))
      (pss_cons (ps_for (passes_of rfl) rfl (pi_or (pi_enum (by rfl) B.enum (pa_cons (pv 1) pa_nil)) (pi_enumT (by rfl) B.enum (pa_cons (pv 1) pa_nil))) (pg_tup rfl (pgs_cons (pg_name (i := 3) nd rfl (.inl rfl)) (pgs_cons (pg_name (i := 4) nd rfl (.inl rfl)) pgs_nil)))
        (pss_cons (ps_if (PW.pt (pw_or (pt_not (pt_val (pe_df TH hr (by rfl) passUp (pa_cons (pv 0) (pa_cons (pv 4) pa_nil))))) (pw_or1 (pt_cmpR or_sin (pv 4) (pv 2) (by rfl)))))
            (pss_one (ps_ret (pv 3))) pss_nil)
        (pss_one (ps_expr (pe_sadd (pv 2) (pa_cons (pv 4) pa_nil))))))
      (pss_one (ps_ret pe_non))), ?_⟩
    refine ⟨rfl, fun s0 ns => ?_⟩
    let Pv : Nat → L2.St → Hp → Prop := fun i σ H' => ∃ o3 o4 sn S, σ = [some (.int n), some (.ref a), some (.ref s0), o3, o4] ∧ Same H H' ∧ fwG n ds [] = fwG n (ds.drop i) sn ∧ sn.length = i ∧ Good n sn ∧ H' s0 = some (SetO w s0 S sn.length) ∧ ∀ k, S k = decide (k ∈ sn)
    have h0 : Pv 0 [some (.int n), some (.ref a), some (.ref s0), none, none] (upd H s0 (SetO w s0 (fun _ => false) 0)) := ⟨none, none, [], _, rfl, same_upd ns, rfl, rfl, ⟨List.nodup_nil, fun k hk => by cases hk⟩, upd_same, fun k => by simp⟩
    refine tfor_en rfl hs Pv h0 (fun j σ H' p o e => ?_) (fun j v d σ H' T hj hv p nT => ?_) (fun σ H' p => ?_)
    · obtain ⟨_, _, _, _, _, sm, _⟩ := p
      exact sm _ _ e
    · obtain ⟨o3, o4, sn, S, rfl, sm, ef, el, g, hS, eS⟩ := p
      have s1 : Same H' (upd H' T (.tup [.int (j : Nat), v])) := same_upd nT
      have few := g.few hn
      have ed : ds.drop j = d :: ds.drop (j + 1) := by
        obtain ⟨hi, e⟩ := List.getElem?_eq_some_iff.mp hj
        rw [← e]
        exact List.drop_eq_getElem_cons hi
      rw [ed, fwG] at ef
      refine ⟨T, _, rfl, SqT.of upd_same, rfl, _, _, rfl, _, _, rfl, rfl, ?_⟩
      refine ⟨_, rfl, _, rfl, n, v, d, rfl, hv.mono (sm.trans s1), fun H3 s3 => ⟨_, rfl, ?_⟩⟩
      have s13 := s1.trans s3
      cases ty : isTh n d with
      | false =>
        refine iteT ⟨_, rfl, q2 j ?_ _ (sm.trans s13)⟩
        have : okAt n sn d = false := by
          cases d with
          | int i =>
            have z : ¬ (0 ≤ i ∧ i < n) := of_decide_eq_false ty
            exact decide_eq_false fun y => z ⟨y.1, y.2.1⟩
          | _ => rfl
        rw [ef, this, if_neg (by simp), el]
      | true =>
        obtain ⟨i, rfl, rfl, hi⟩ := th_int hv ty
        refine iteF ⟨_, rfl, _, rfl, i, s0, S, _, rfl, rfl, s13 _ _ hS, _, rfl, ?_⟩
        rw [eS]
        by_cases m : i ∈ sn
        · rw [decide_eq_true m]
          refine iteT ⟨_, rfl, q2 j ?_ _ (sm.trans s13)⟩
          have : okAt n sn (.int i) = false := decide_eq_false fun y => y.2.2 m
          rw [ef, this, if_neg (by simp), el]
        · rw [decide_eq_false m]
          have yes : okAt n sn (.int i) = true := decide_eq_true ⟨hi.1, hi.2, m⟩
          refine iteF ⟨_, rfl, ⟨s0, S, _, rfl, s13 _ _ hS⟩, _, rfl, s0, i, S, _, rfl, rfl, s13 _ _ hS, (by have : (10 : Nat) < scanBound := (by decide); omega), ?_⟩
          have e0 : S i = false := by rw [eS]; exact decide_eq_false m
          rw [e0, if_neg (by simp)]
          refine ⟨_, _, sn ++ [i], (fun j => S j || decide (j = i)), rfl, fun b o e => ?_, ?_, by rw [List.length_append, el]; rfl, ⟨?_, ?_⟩, ?_, fun k => ?_⟩
          · rw [upd_ne (ne_of_none e ns)]
            exact (sm.trans s13) b o e
          · rw [ef, yes, if_pos rfl]
            rfl
          · rw [List.nodup_append]
            refine ⟨g.nd, by simp, fun a ha b hb => ?_⟩
            rw [List.mem_singleton.mp hb]
            exact fun e => m (e ▸ ha)
          · intro k hk
            rcases List.mem_append.mp hk with hk | hk
            · exact g.rng k hk
            · rw [List.mem_singleton.mp hk]; exact hi
          · rw [upd_same, List.length_append]
            rfl
          · show (S k || decide (k = i)) = _
            rw [eS]
            by_cases c1 : k ∈ sn
            · simp [c1]
            · by_cases c2 : k = i
              · simp [c2]
              · simp [c1, c2]
    · obtain ⟨o3, o4, sn, S, rfl, sm, ef, el, g, hS, eS⟩ := p
      rw [List.drop_length] at ef
      exact q1 ef _ sm
/-- tuple(list), the object known -/
theorem cr_tupF {X : Cx} : CallR X (.type "tuple") (fun xs H Q => ∃ p ys, xs = [.ref p] ∧ SqL X.K H p ys ∧ ∀ l o, H l = none → o.dict = none → Q (.ref l) (upd H l (.frz o (.tup ys)))) := by
  intro pins s σ H xs us Q I r h
  obtain ⟨p, ys, rfl, hq, q⟩ := h
  obtain ⟨u, rfl, rx⟩ := vals1 r
  cases rx
  obtain ⟨its, r', pl, hz⟩ := I.list hq
  have hlen := r'.length
  refine call_tuple_list pl.isList (fun h' kp => ?_) (by simp only [List.size_toArray] <;> omega)
  have I1 : Inv X pins σ H { s with heap := h' } := I.kept (t' := s.toks) kp
  have g := Heap.get?_push_size h' (o := { cls := .type "tuple", data := .seq its.toArray }) rfl
  have I2 : Inv X pins σ (upd H h'.objs.size (.frz { cls := .type "tuple", data := .seq its.toArray } (.tup ys))) { s with heap := h'.push { cls := .type "tuple", data := .seq its.toArray } } :=
    I1.laid (t' := s.toks) (fun b o e => Heap.get?_push_of_some _ e) (Nat.le_refl _) (show ObjOk X.prog X.w _ _ _ (.frz _ (.tup ys)) from ⟨g, hz, its, r', IsTup.new _ _⟩)
  exact ⟨.ref h'.objs.size, _, I2, rfl, q _ _ (I1.hok.fresh (Nat.le_refl _)) rfl⟩
/-- a tuple of whole numbers, its object known -/
def TupF (H : Hp) (t : Addr) (ns : List Int) : Prop := ∃ o, H t = some (.frz o (.tup (ns.map V.int))) ∧ o.dict = none
theorem TupF.mono {H H' : Hp} (s : Same H H') {t : Addr} {ns : List Int} : TupF H t ns → TupF H' t ns := fun ⟨o, h, d⟩ => ⟨o, s _ _ h, d⟩
theorem TupF.sq {K : PySem.W.Frag} {H : Hp} {t : Addr} {ns : List Int} : TupF H t ns → SqT K H t (ns.map V.int) := fun ⟨o, h, _⟩ => .inl (.inr ⟨o, h⟩)
/-- check_things on a list that is right, or on anything wrong -/
def spCs (K : PySem.W.Frag) (C : Addr) : Sp := fun vs H Q E => ∃ n a ds, vs = [.int n, .ref a] ∧ n ≤ 9 ∧ Sq K H a ds ∧ (fwG n ds [] = none → (∃ xs, H a = some (.lst xs) ∧ DtAll H xs ds) ∧ ∀ H' t (ns : List Int), Same H H' → H t = none → TupF H' t ns → ns.Pairwise (· < ·) → (∀ k, k ∈ ns ↔ PyData.int k ∈ ds) → Q (.ref t) H') ∧
  (∀ i, fwG n ds [] = some i → Rz C [("place", .int (i : Nat))] H E)
theorem sc_cs : FnScope ["many", "things", "place"] ["many", "things"] (defScope s_cs) := ⟨rfl, rfl, rfl, by decide +kernel, rfl, by decide +kernel, by decide +kernel⟩
theorem srt_lt {l : List Int} (h : l.Pairwise (· ≤ ·)) (nd : l.Nodup) : l.Pairwise (· < ·) := by
  refine List.Pairwise.imp₂ (fun a b h1 h2 => ?_) h nd
  omega
theorem ok_cs {C : Addr} (F : Fun K "check_things" "check_things" s_cs f fd) (B : Blt2 mg) (FW : Df P w K mg base "first_wrong" 3 ["many", "things"] (spFw K))
    (T : Er P w K mg base "BadPart" C ["place"] ["self", "place"] (spE1 C "place")) : FnOk P w K mg base (L2.CX P w) 4 f fd ["many", "things"] (spCs K C) := by
  refine F.okX sc_cs (fun vs H Q E h => ?_) (fun cdv A outer s H vs Q E hr h => ?_)
  · obtain ⟨n, a, ds, rfl, _⟩ := h
    rfl
  · obtain ⟨n, a, ds, rfl, hn, hs, q1, q2⟩ := h
    have nd := sc_cs.nd
    have hr2 : Room 2 _ := hr.mono (by decide)
    refine ⟨_, pss_cons (ps_set (i := 2) nd rfl (.inl rfl) (pe_df FW hr (by rfl) passUp (pa_cons (pv 0) (pa_cons (pv 1) pa_nil))))
      (pss_cons (ps_if (pt_cmpR op_notN (pv 2) pe_non (nomark _)) (pss_one (ps_rz1 rfl (takes_of rfl rfl rfl rfl) T hr2 (by rfl) (pv 2) (mono_var 2))) pss_nil)
      (pss_one (ps_ret (pe_callTy cr_tupF (by rfl) B.tuple (by decide +kernel) (pa_cons (pe_callB cr_sorted (by rfl) B.sorted (by decide +kernel) (pa_cons (pv 1) pa_nil)) pa_nil))))), ?_⟩
    refine ⟨_, rfl, _, rfl, n, a, ds, rfl, hn, hs, fun e H1 s1 => ?_, fun i e H1 s1 => ?_⟩
    · refine ⟨_, rfl, rfl, _, rfl, iteF ?_⟩
      obtain ⟨⟨xs, hx, hd⟩, q⟩ := q1 e
      obtain ⟨r, er, g⟩ := fwG_none (sn := []) ⟨List.nodup_nil, fun k hk => by cases hk⟩ e
      rw [List.nil_append] at g
      have few := g.few hn
      have hxs : xs = r.map V.int := by
        rw [er] at hd
        clear er few g q q1 q2 hx e
        induction r generalizing xs with
        | nil => cases hd; rfl
        | cons k r ih =>
          cases hd with
          | cons h1 h2 =>
            cases h1
            rw [ih _ h2]
            rfl
      refine ⟨_, rfl, a, r, rfl, SqL.of (by rw [← hxs]; exact s1 _ _ hx), by omega, fun ns p pm srt np => ?_⟩
      refine ⟨p, _, rfl, SqL.of upd_same, fun t o nt od => ?_⟩
      have s2 : Same H1 (upd H1 p (.lst (ns.map V.int))) := same_upd np
      refine q _ t ns (s1.trans (s2.trans (same_upd nt))) ((s1.trans s2).free nt) ⟨o, upd_same, od⟩ (srt_lt srt (pm.nodup_iff.mpr g.nd)) fun k => ?_
      rw [pm.mem_iff, er]
      simp
    · refine ⟨_, rfl, rfl, _, rfl, iteT ⟨_, rfl, fun dd nd' => (q2 i e).at s1 nd'⟩⟩
end
end K0
set_option Elab.async false
set_option linter.all false
set_option maxRecDepth 100000
set_option maxHeartbeats 4000000
/-! methods and operators of an own class that may raise -/
namespace K0
open PySem PySem.Spec PyProof.Rows L2
section
variable {X : Cx} {pins : List (Addr × Obj)} {σ : L2.St} {H : Hp} {s : Shared}
/-- a def of the text is called somewhere below -/
theorem run_any {A : Around} {n : Nat} {f : Addr} {fd : FuncData} {ps : List Str} {sp : Sp} {E : XK} {Q : VK} {vs : List V} {us : List Value} {CX : CXT} (sb : Sub X n A) (F : FnOk X.prog X.w X.K X.mg X.base CX n f fd ps sp) (hb : Binds X.K fd ps []) (hx : Passes CX X E)
    (I : Inv X pins σ H s) (r : Vals vs us) (h : sp vs H Q E) : wpAny (model X.prog X.w) A (call (.ref f) us) (EP X pins σ Q) X.xe s := by
  have e0 : Env0 X.prog X.w X.K X.mg X.base A X.stack s H := by
    have e := I.env0
    exact ⟨by rw [sb.fr]; exact e.frames, e.mod, e.bs, e.bsz, e.funs, e.frf, e.hok, e.bare⟩
  have hl := F.len _ _ _ _ h
  have hl2 : us.length = ps.length := by rw [← hl, r.length]
  refine wpAny_call (codeAny_mono (F.run A X.stack s H ⟨us, []⟩ us vs Q E sb.room e0 (by
    have := hb s us I.kIn (by simpa using hl2)
    simpa using this) r h) fun r s' hq => ?_)
  cases r with
  | error e => exact hx pins σ H s e s' I hq
  | ok fl =>
    cases fl with
    | ret w => exact I.after hq
    | next => exact False.elim hq
    | brk => exact False.elim hq
    | cont => exact False.elim hq
/-- a method of the class at C by its name, its promise -/
structure Mt (P : Program) (w : World) (K : PySem.W.Frag) (mg : Str → Option Value) (base : Heap) (C : Addr) (m : Str) (k : Nat) (ps : List Str) (sp : Sp) : Prop where
  ex : ∃ (f : Addr) (fd : FuncData), Cls K C ∧ Meth K C m f ∧ PySem.W.isFn K (.ref f) = true ∧ PySem.W.fnIn K f = true ∧ PySem.W.findIn K (.ref C) m = some (some (.ref f)) ∧ FnOk P w K mg base (L2.CX P w) k f fd ps sp ∧ Binds K fd ps []
variable {C : Addr} {m : Str} {k : Nat} {ps : List Str} {sp : Sp} {E : XK} {o e : Expr} {es : List Expr} {ta : TE} {t : TA} {apos pos : Pos}
theorem pe_mt1 {pl : Sem Bool} (T : Mt X.prog X.w X.K X.mg X.base C m k ps sp) (hr : Room k X.A) (hx : Passes (L2.CX X.prog X.w) X E) (he : PE X o ta) (ha : PA X (e :: es) t)
    (hst : starEach (e :: es) X.env = (false, eval e X.env) :: starEach es X.env := by rfl) (hpl : (backTo pos (starEach es X.env)).any (·.1) = false := by rfl)
    (ht : eval (.Call (.Attribute o m apos) (e :: es) [] pos) X.env = (do
      let ov ← eval o X.env
      standAt apos.atName
      let (f, first) ← holding [ov] (getMethod ov m pl)
      callWith pos f first (backTo pos (starEach (e :: es) X.env)) (backToKw pos (keywordEach [] X.env))) := by rfl) : PE X (.Call (.Attribute o m apos) (e :: es) [] pos) (tMeth C m sp [] E ta t) := by
  obtain ⟨f, fd, c, hm, _, _, _, F, b⟩ := T.ex
  exact pe_meth (pl := pl) he c hm F hr b .nil hx ha hst hpl ht
/-- x in o -/
def rInO (C : Addr) (sp : Sp) (E : XK) : R2 := fun x y H Q => ∃ a dx fs, y = .ref a ∧ H a = some (.ins C dx fs) ∧ sp [.ref a, x] H (fun v H2 => ∃ b, v = .bl b ∧ Q (.bl b) H2) E
theorem op_inO (T : Mt X.prog X.w X.K X.mg X.base C "__contains__" k ps sp) (hr : Room k X.A) (hx : Passes (L2.CX X.prog X.w) X E) : OpR X (compareOp .In) (rInO C sp E) := by
  intro pins s σ H x y v u Q I rx ry h
  obtain ⟨a, dx, fs, rfl, ha, h⟩ := h
  obtain ⟨f, fd, c, hm, hfn, _, hs, F, b⟩ := T.ex
  cases ry
  obtain ⟨mA, J, _⟩ := ins_get I.hok ha
  obtain ⟨od, J, _⟩ := J.look
  obtain ⟨m, hF⟩ := I.fr
  refine PySem.W.in_K hF I.ok.mod.kin J hs hfn (wpAny_mono (run_any (vs := [.ref a, x]) ⟨hr, rfl⟩ F b hx I (.cons rfl (.cons rx .nil)) h) (fun r s' z => ?_) fun _ _ x => x)
  obtain ⟨w, H', I', rw', bb, ew, q⟩ := z
  subst ew
  cases rw'
  exact wpAny_truthy_bool ⟨.bl bb, H', I', rfl, q⟩
/-- what type the right side is of -/
inductive TyE (H : Hp) : V → Value → Prop where
  | ins {b C dx : Addr} {fs : List (Str × V)} (e : H b = some (.ins C dx fs)) : TyE H (.ref b) (.ref C)
  | lst {b : Addr} {xs : List V} (e : H b = some (.lst xs)) : TyE H (.ref b) (.type "list")
  | int (i : Int) : TyE H (.int i) (.type "int")
theorem TyE.looks {y : V} {u tb : Value} (I : Inv X pins σ H s) (r : RelV y u) (h : TyE H y tb) : PySem.W.Looks (model X.prog X.w) s.heap (typeOf u) tb := by
  cases h with
  | ins e =>
    cases r
    obtain ⟨mA, J, _⟩ := ins_get I.hok e
    obtain ⟨od, J, _⟩ := J.look
    exact J.type
  | lst e =>
    cases r
    obtain ⟨its, rv, p, hz⟩ := I.list (SqL.of (K := X.K) e)
    obtain ⟨o, ho, hc, _⟩ := p.isList
    exact fun A Q E s k q => wpAny_typeOf_ref (k _ _ ho) (by rw [hc]; exact q)
  | int i =>
    obtain ⟨t, rfl⟩ := r
    exact PySem.W.Looks.of_pure rfl
/-- o == y -/
def rEqO (K : PySem.W.Frag) (C : Addr) (sp : Sp) (E : XK) : R2 := fun x y H Q => ∃ a dx fs tb, x = .ref a ∧ H a = some (.ins C dx fs) ∧ TyE H y tb ∧ PySem.W.notFirst K C tb = true ∧ sp [.ref a, y] H (fun v H2 => ∃ b, v = .bl b ∧ Q (.bl b) H2) E
theorem op_eqO (T : Mt X.prog X.w X.K X.mg X.base C "__eq__" k ps sp) (hr : Room k X.A) (hx : Passes (L2.CX X.prog X.w) X E) : OpR X (compareOp .Eq) (rEqO X.K C sp E) := by
  intro pins s σ H x y v u Q I rx ry h
  obtain ⟨a, dx, fs, tb, rfl, ha, ty, nf, h⟩ := h
  obtain ⟨f, fd, c, hm, hfn, _, hs, F, b⟩ := T.ex
  cases rx
  obtain ⟨mA, J, _⟩ := ins_get I.hok ha
  obtain ⟨od, J, _⟩ := J.look
  obtain ⟨m, hF⟩ := I.fr
  show wpAny (model X.prog X.w) X.A (richCompare .Eq (.ref a) u) (EP X pins σ Q) X.xe s
  refine PySem.W.cmp_K (op := .Eq) hr.units0 hF I.ok.mod.kin J (ty.looks I ry) nf hs hfn (wpAny_mono (run_any (vs := [.ref a, y]) ⟨hr, rfl⟩ F b hx I (.cons rfl (.cons ry .nil)) h) (fun r s' z => ?_) fun _ _ x => x)
  obtain ⟨w, H', I', rw', bb, ew, q⟩ := z
  subst ew
  cases rw'
  exact ⟨.bl bb, H', I', rfl, q⟩
/-- len(o) -/
theorem cr_lenO (T : Mt X.prog X.w X.K X.mg X.base C "__len__" k ps sp) (hr : Room (k + 1) X.A) (hx : Passes (L2.CX X.prog X.w) X E) :
    CallR X (.builtin "len") (fun xs H Q => ∃ a dx fs, xs = [.ref a] ∧ H a = some (.ins C dx fs) ∧ sp [.ref a] H (fun v H2 => ∃ n : Nat, v = .int n ∧ n < 2 ^ 63 ∧ Q (.int n) H2) E) := by
  intro pins s σ H xs us Q I r h
  obtain ⟨a, dx, fs, rfl, ha, h⟩ := h
  obtain ⟨f, fd, c, hm, hfn, _, hs, F, b⟩ := T.ex
  obtain rfl := Vals.ref1 r
  obtain ⟨mA, J, _⟩ := ins_get I.hok ha
  obtain ⟨od, J, _⟩ := J.look
  obtain ⟨m, hF⟩ := I.fr
  refine PySem.W.len_K hF I.ok.mod.kin J hs hfn (wpAny_mono (run_any (vs := [.ref a]) (A := X.A.in1) ⟨hr.in1, rfl⟩ F b hx I (.cons rfl .nil) h) (fun r s' z => ?_) fun _ _ x => x)
  obtain ⟨w, H', I', rw', n, ew, hn, q⟩ := z
  subst ew
  obtain ⟨t, rfl⟩ := rw'
  exact ⟨⟨by omega, by omega⟩, .int n, H', I'.tok _, ⟨_, rfl⟩, q⟩
/-- o[e] -/
def rIxO (C : Addr) (sp : Sp) (E : XK) : R2 := fun x y H Q => ∃ a dx fs, x = .ref a ∧ H a = some (.ins C dx fs) ∧ sp [.ref a, y] H Q E
theorem pe_ixO {a b : Expr} {ta tb : TE} {pos : Pos} (T : Mt X.prog X.w X.K X.mg X.base C "__getitem__" k ps sp) (hr : Room (k + 1) X.A) (hx : Passes (L2.CX X.prog X.w) X E) (ha : PE X a ta) (hb : PE X b tb)
    (hsl : ∀ (x : Addr) (i : Value), subscripted b true (.ref x) i = runValue (.builtin "lifetime.subscript" ⟨[.ref x, i], []⟩) := by intro _ _; with_unfolding_all rfl) : PE X (.Subscript a b pos) (tOp (rIxO C sp E) ta tb) := by
  refine ⟨fun pins s σ H Q I h => ?_⟩
  refine Subscript_ (binT ha hb I h fun v u s2 x y H2 I2 rx ry q => ?_)
  obtain ⟨p, dx, fs, rfl, hp, q⟩ := q
  obtain ⟨f, fd, c, hm, hfn, hf, hs, F, bb⟩ := T.ex
  cases rx
  obtain ⟨mA, J, _⟩ := ins_get I2.hok hp
  obtain ⟨od, J, _⟩ := J.look
  obtain ⟨m, hF⟩ := I2.fr
  exact PySem.W.sub_K hF I2.ok.mod.kin J hs hf hfn (run_any (vs := [.ref p, y]) (A := X.A.in1) ⟨hr.in1, rfl⟩ F bb hx I2 (.cons rfl (.cons ry .nil)) q) (hsl p u)
end
end K0
set_option Elab.async false
set_option linter.all false
set_option maxRecDepth 100000
set_option maxHeartbeats 4000000
namespace K0
open PySem PySem.Spec PyProof.Rows L2
section
variable {P : Program} {w : World} {K : PySem.W.Frag} {mg : Str → Option Value} {base : Heap}
/-- Web(many, clashes) -/
def spMk (K : PySem.W.Frag) (C CN CW : Addr) : Sp := fun vs H Q E => ∃ (a : Addr) (v : V) (d : PyData) (ds : List PyData), vs = [v, .ref a] ∧ Dt H v d ∧ Sq K H a ds ∧
  (okN 0 d = false → Rz CN [("name", .str "many")] H E) ∧
  (∀ n, d = .int n → 0 ≤ n → n ≤ 8 ∧
    (∀ ps, entsOf n ds = .ok ps → ∀ q, Cl n q → (∀ z, z ∈ q ↔ z ∈ ps) → ∀ H' p, Same H H' → H p = none → WebAt C (New H H') p n q → Q (.ref p) H') ∧
    (∀ x y, entsOf n ds = .error (x, y) → ∀ H' e vx vy, Same H H' → Dt H' vx x → Dt H' vy y → H' e = some (.xd [("y", vy), ("x", vx)]) → E (.ref CW) (some e) H'))
/-- the class as it is called -/
structure WebK (P : Program) (w : World) (K : PySem.W.Frag) (mg : Str → Option Value) (base : Heap) (C CN CW : Addr) : Prop where
  g : mg "Web" = some (.ref C)
  ex : ∃ (f : Addr) (fd : FuncData), Mk K C f ∧ FnOk P w K mg base (L2.CX P w) 4 f fd ["self", "many", "clashes"] (spWi K C CN CW) ∧ Binds K fd ["self", "many", "clashes"] [] ∧
    ∃ e0 : Addr, (∀ H : Hp, SqT K H e0 []) ∧ Binds K fd ["self", "many", "clashes"] [.ref e0]
theorem spMk_in {C CN CW : Addr} {vs : List V} {H : Hp} {Q : VK} {E : XK} (h : spMk K C CN CW vs H Q E) (x dx : Addr) (nx : H x = none) (ndx : H dx = none) (ne : dx ≠ x) :
    spWi K C CN CW (.ref x :: vs) (upd (upd H dx (.own x)) x (.ins C dx [])) (fun v H2 => v = .non ∧ Q (.ref x) H2) E := by
  obtain ⟨a, v, d, ds, rfl, hv, hs, kn, kw⟩ := h
  have s1 : Same H (upd (upd H dx (.own x)) x (.ins C dx [])) := fun b o e => by
    rw [upd_ne (ne_of_none e nx), upd_ne (ne_of_none e ndx)]
    exact e
  have sX : ∀ {H'}, SameX x (upd (upd H dx (.own x)) x (.ins C dx [])) H' → Same H H' := fun {H'} z b o e => z b o (s1 b o e) (ne_of_none e nx)
  refine ⟨x, dx, a, v, d, ds, rfl, upd_same, hv.mono s1, hs.mono s1, fun bad H' e z he => kn bad H' e (sX z) he, fun n en h0 => ?_⟩
  obtain ⟨n8, kq, ke⟩ := kw n en h0
  refine ⟨n8, fun ps hps q hq hm H' z W => ⟨rfl, kq ps hps q hq hm H' x (sX z) nx (W.mono (new_mono (fun b e1 e2 => ?_) (Same.refl _)))⟩, fun y1 y2 he H' e vx vy z hx hy hd => ke y1 y2 he H' e vx vy (sX z) hx hy hd⟩
  by_cases eb : b = x
  · rw [eb]; exact nx
  · rw [del_ne eb, upd_ne eb] at e1
    by_cases ed : b = dx
    · rw [ed]; exact ndx
    · rw [upd_ne ed] at e1
      exact e1
section
variable {X : Cx} {C CN CW : Addr} {E : XK} {e : Expr} {es : List Expr} {t : TA} {p pos : Pos}
theorem pe_web (T : WebK X.prog X.w X.K X.mg X.base C CN CW) (hr : Room 5 X.A) (hg : Gl X "Web") (hx : Passes (L2.CX X.prog X.w) X E) (ha : PA X (e :: es) t)
    (he : starEach (e :: es) X.env = (false, eval e X.env) :: starEach es X.env := by rfl) (hpl : (backTo pos (starEach es X.env)).any (·.1) = false := by rfl) :
    PE X (.Call (.Name "Web" p) (e :: es) [] pos) (tCall (spMk X.K C CN CW) [] E t) := by
  obtain ⟨f, fd, M, F, b, _⟩ := T.ex
  refine ⟨fun pins s σ H Q I h => ?_⟩
  refine wpAny_Call_Name_kw (ld_glob I hg T.g ?_ (by decide))
  refine PySem.W.callWith_K (h₀ := X.base) I.ok.mod.kin M.kp (thn (ha.run pos pins s σ H _ I h) fun us s1 ⟨vs, H1, I1, r, q⟩ => ⟨I1.kIn, ?_⟩) he hpl
  refine run_make (dvs := []) M F hr b .nil hx I1 r fun x dx nx ndx ne => ?_
  rw [List.append_nil]
  have q : spMk X.K C CN CW (vs ++ []) H1 Q E := q
  rw [List.append_nil] at q
  exact spMk_in q x dx nx ndx ne
/-- Web(many) -/
def spM1 (K : PySem.W.Frag) (C CN CW : Addr) : Sp := fun vs H Q E => ∀ e0 : Addr, (∀ H : Hp, SqT K H e0 []) → spMk K C CN CW (vs ++ [.ref e0]) H Q E
theorem pe_web1 (T : WebK X.prog X.w X.K X.mg X.base C CN CW) (hr : Room 5 X.A) (hg : Gl X "Web") (hx : Passes (L2.CX X.prog X.w) X E) (ha : PA X (e :: es) t)
    (he : starEach (e :: es) X.env = (false, eval e X.env) :: starEach es X.env := by rfl) (hpl : (backTo pos (starEach es X.env)).any (·.1) = false := by rfl) :
    PE X (.Call (.Name "Web" p) (e :: es) [] pos) (tCall (spM1 X.K C CN CW) [] E t) := by
  obtain ⟨f, fd, M, F, _, e0, h0, b⟩ := T.ex
  refine ⟨fun pins s σ H Q I h => ?_⟩
  refine wpAny_Call_Name_kw (ld_glob I hg T.g ?_ (by decide))
  refine PySem.W.callWith_K (h₀ := X.base) I.ok.mod.kin M.kp (thn (ha.run pos pins s σ H _ I h) fun us s1 ⟨vs, H1, I1, r, q⟩ => ⟨I1.kIn, ?_⟩) he hpl
  refine run_make (dvs := [.ref e0]) M F hr b (.cons rfl .nil) hx I1 r fun x dx nx ndx ne => ?_
  have q : spM1 X.K C CN CW (vs ++ []) H1 Q E := q
  rw [List.append_nil] at q
  exact spMk_in (q e0 h0) x dx nx ndx ne
end
/-! ### what a web answers -/
variable {f : Addr} {fd : FuncData}
abbrev s_w (i : Nat) : Stmt := inClass (top 24) i
theorem sc_cl : FnScope ["self", "x", "y"] ["self", "x", "y"] (defScope (s_w 2)) := ⟨rfl, rfl, rfl, by decide +kernel, rfl, by decide +kernel, by decide +kernel⟩
/-- clash -/
def spCl (C CT : Addr) : Sp := fun vs H Q E => ∃ (p : Addr) (vx vy : V) (dx dy : PyData) (n : Int) (q : List Pr), vs = [.ref p, vx, vy] ∧ WebAt C H p n q ∧ Dt H vx dx ∧ Dt H vy dy ∧
  (isTh n dx = false → Rz CT [("thing", vx)] H E) ∧ (isTh n dx = true → isTh n dy = false → Rz CT [("thing", vy)] H E) ∧
  ∀ x y : Nat, dx = .int x → dy = .int y → (x : Int) < n → (y : Int) < n → Ret (.bl (hasP q x y)) H Q
theorem hasP_out {n : Int} {q : List Pr} (h : Cl n q) {x y : Nat} (hy : n ≤ (y : Int)) : hasP q x y = false := by
  unfold hasP
  rw [Bool.or_eq_false_iff]
  refine ⟨decide_eq_false fun m => ?_, decide_eq_false fun m => ?_⟩
  · have := h.rng _ m
    dsimp only at this
    omega
  · have := h.rng _ m
    dsimp only at this
    omega
theorem mask_at {C : Addr} {H : Hp} {p : Addr} {n : Int} {q : List Pr} (W : WebAt C H p n q) (x : Nat) (hx : (x : Int) < n) : x < (mOf n.toNat q).length := by
  rw [mOf_len]
  have := W.n0
  omega
theorem mask_bits {C : Addr} {H : Hp} {p : Addr} {n : Int} {q : List Pr} (W : WebAt C H p n q) (x y : Nat) : ((mOf n.toNat q).getD x 0).testBit y = hasP q x y := by
  have := mOf_bit (n := n.toNat) (q := q) (by rw [Int.toNat_of_nonneg W.n0]; exact W.cl) x y
  exact this
theorem mask_small {C : Addr} {H : Hp} {p : Addr} {n : Int} {q : List Pr} (W : WebAt C H p n q) (x : Nat) : bitsN ((mOf n.toNat q).getD x 0) ≤ 8 := by
  have lt : (mOf n.toNat q).getD x 0 < 2 ^ 8 := Nat.lt_pow_two_of_testBit _ fun i hi => by
    rw [mask_bits W]
    exact hasP_out W.cl (by have := W.n8; omega)
  unfold bitsN Builtin.Int.intBits
  split
  · exact Nat.zero_le _
  · rename_i z
    rw [Int.natAbs_natCast]
    have nz : (mOf n.toNat q).getD x 0 ≠ 0 := by simpa using z
    have := (Nat.log2_lt nz).mpr lt
    omega
theorem ok_cl {C CT : Addr} (F : Fun K "clash" "Web.clash" (s_w 2) f fd) (T : WebC K C) (CH : Df P w K mg base "check_thing" 3 ["many", "thing"] (spCt CT)) : FnOk P w K mg base (L2.CX P w) 4 f fd ["self", "x", "y"] (spCl C CT) := by
  refine F.okX sc_cl (fun vs H Q E h => ?_) (fun cdv A outer s H vs Q E hr h => ?_)
  · obtain ⟨p, vx, vy, dx, dy, n, q, rfl, _⟩ := h
    rfl
  · obtain ⟨p, vx, vy, dx, dy, n, q, rfl, W, hx, hy, q1, q2, q3⟩ := h
    obtain ⟨⟨ddx, c, m, l, h1, h2, h3, h4, h5⟩, cl, n0, n8⟩ := id W
    refine ⟨_, pss_cons (ps_expr (pe_df CH hr (by rfl) passUp (pa_cons (pe_fld (pv 0) rfl) (pa_cons (pv 1) pa_nil))))
      (pss_cons (ps_expr (pe_df CH hr (by rfl) passUp (pa_cons (pe_fld (pv 0) rfl) (pa_cons (pv 2) pa_nil))))
      (pss_one (ps_ret (pe_cmpR op_eq (pe_op op_and1 (pe_op op_shr2 (pe_ix ix_tup (pe_fld (pv 0) rfl) (pv 1) (fun _ _ => rfl)) (pv 2)) pe_int) pe_int (nomark _))))), ?_⟩
    refine ⟨_, rfl, p, C, ddx, _, _, rfl, h1, T.cl, T.nm, wf_many _ _ _, _, rfl, n, vx, dx, rfl, hx, fun t1 H1 s1 => ?_, q1⟩
    refine ⟨_, rfl, p, C, ddx, _, _, rfl, s1 _ _ h1, T.cl, T.nm, wf_many _ _ _, _, rfl, n, vy, dy, rfl, hy.mono s1, fun t2 H2 s2 => ?_, fun t2 H' d s' hd => q2 t1 t2 H' d (s1.trans s') hd⟩
    have s12 := s1.trans s2
    obtain ⟨i, rfl, rfl, i0, iN⟩ := th_int hx t1
    obtain ⟨j, rfl, rfl, j0, jN⟩ := th_int hy t2
    obtain ⟨x, rfl⟩ := Int.eq_ofNat_of_zero_le i0
    obtain ⟨y, rfl⟩ := Int.eq_ofNat_of_zero_le j0
    refine ⟨_, rfl, p, C, ddx, _, _, rfl, s12 _ _ h1, T.cl, T.nk, wf_masks _ _ _, _, rfl, m, _, (x : Int), _, rfl, rfl, SqT.of (s12 _ _ h5), nvs_at (mask_at W x iN), _, rfl, _, y, rfl, rfl, _, rfl, rfl, rfl, ?_⟩
    rw [dec_int, bit_one, mask_bits W]
    exact q3 x y rfl rfl iN jN _ s12
end
end K0
set_option Elab.async false
set_option linter.all false
set_option maxRecDepth 100000
set_option maxHeartbeats 4000000
namespace K0
open PySem PySem.Spec PyProof.Rows L2
section
variable {P : Program} {w : World} {K : PySem.W.Frag} {mg : Str → Option Value} {base : Heap} {f : Addr} {fd : FuncData}
/-- near -/
def nearOf (n : Int) (q : List Pr) (x : Nat) : List Nat := (List.range n.toNat).filter (hasP q x)
def spNr (C CT : Addr) : Sp := fun vs H Q E => ∃ (p : Addr) (vx : V) (dx : PyData) (n : Int) (q : List Pr), vs = [.ref p, vx] ∧ WebAt C H p n q ∧ Dt H vx dx ∧
  (isTh n dx = false → Rz CT [("thing", vx)] H E) ∧
  ∀ x : Nat, dx = .int x → (x : Int) < n → ∀ H' t, Same H H' → H t = none → H' t = some (.tup (nvs (nearOf n q x))) → Q (.ref t) H'
theorem sc_nr : FnScope ["self", "x"] ["self", "x"] (defScope (s_w 3)) := ⟨rfl, rfl, rfl, by decide +kernel, rfl, by decide +kernel, by decide +kernel⟩
theorem ok_nr {C CT : Addr} (F : Fun K "near" "Web.near" (s_w 3) f fd) (T : WebC K C) (CH : Df P w K mg base "check_thing" 3 ["many", "thing"] (spCt CT)) (TI : Df P w K mg base "things_in" 1 ["mask"] spTi) :
    FnOk P w K mg base (L2.CX P w) 4 f fd ["self", "x"] (spNr C CT) := by
  refine F.okX sc_nr (fun vs H Q E h => ?_) (fun cdv A outer s H vs Q E hr h => ?_)
  · obtain ⟨p, vx, dx, n, q, rfl, _⟩ := h
    rfl
  · obtain ⟨p, vx, dx, n, q, rfl, W, hx, q1, q2⟩ := h
    obtain ⟨⟨ddx, c, m, l, h1, h2, h3, h4, h5⟩, cl, n0, n8⟩ := id W
    have hr1 : Room 1 _ := hr.mono (by decide)
    refine ⟨_, pss_cons (ps_expr (pe_df CH hr (by rfl) passUp (pa_cons (pe_fld (pv 0) rfl) (pa_cons (pv 1) pa_nil))))
      (pss_one (ps_ret (pe_df TI hr1 (by rfl) passUp (pa_cons (pe_ix ix_tup (pe_fld (pv 0) rfl) (pv 1) (fun _ _ => rfl)) pa_nil)))), ?_⟩
    refine ⟨_, rfl, p, C, ddx, _, _, rfl, h1, T.cl, T.nm, wf_many _ _ _, _, rfl, n, vx, dx, rfl, hx, fun t1 H1 s1 => ?_, q1⟩
    obtain ⟨i, rfl, rfl, i0, iN⟩ := th_int hx t1
    obtain ⟨x, rfl⟩ := Int.eq_ofNat_of_zero_le i0
    refine ⟨_, rfl, p, C, ddx, _, _, rfl, s1 _ _ h1, T.cl, T.nk, wf_masks _ _ _, _, rfl, m, _, (x : Int), _, rfl, rfl, SqT.of (s1 _ _ h5), nvs_at (mask_at W x iN), _, rfl, by have := mask_small W x; omega, fun H2 t s2 nt ht => ?_⟩
    have eb : (List.range (bitsN ((mOf n.toNat q).getD x 0))).filter ((mOf n.toNat q).getD x 0).testBit = nearOf n q x := by
      rw [bitsOf_eq (n := n.toNat) (fun j hj => by rw [mask_bits W]; exact hasP_out W.cl (by omega))]
      unfold bitsOf nearOf
      congr 1
      funext y
      exact mask_bits W x y
    rw [eb] at ht
    exact q2 x rfl iN H2 t (s1.trans s2) (s1.free nt) ht
/-- len -/
def spLn (C : Addr) : Sp := fun vs H Q _ => ∃ (p : Addr) (n : Int) (q : List Pr), vs = [.ref p] ∧ WebAt C H p n q ∧ Ret (.int ((n.toNat : Nat) : Int)) H Q
theorem sc_ln : FnScope ["self"] ["self"] (defScope (s_w 12)) := ⟨rfl, rfl, rfl, by decide +kernel, rfl, by decide +kernel, by decide +kernel⟩
theorem ok_ln {C : Addr} (F : Fun K "__len__" "Web.__len__" (s_w 12) f fd) (B : Blt2 mg) (T : WebC K C) : FnOk P w K mg base (L2.CX P w) 1 f fd ["self"] (spLn C) := by
  refine F.okX sc_ln (fun vs H Q E h => ?_) (fun cdv A outer s H vs Q E hr h => ?_)
  · obtain ⟨p, n, q, rfl, _⟩ := h
    rfl
  · obtain ⟨p, n, q, rfl, W, k⟩ := h
    obtain ⟨⟨ddx, c, m, l, h1, h2, h3, h4, h5⟩, cl, n0, n8⟩ := id W
    refine ⟨_, pss_one (ps_ret (pe_callB call_len_seq (by rfl) B.len PySem.boot_len (pa_cons (pe_fld (pv 0) rfl) pa_nil))), ?_⟩
    refine ⟨_, rfl, p, C, ddx, _, _, rfl, h1, T.cl, T.nk, wf_masks _ _ _, m, _, rfl, .inr (SqT.of h5), ?_⟩
    rw [nvs_len, mOf_len]
    exact k.now
/-- many_clashes -/
def spMc (C : Addr) : Sp := fun vs H Q _ => ∃ (p : Addr) (n : Int) (q : List Pr), vs = [.ref p] ∧ WebAt C H p n q ∧ Ret (.int ((q.length : Nat) : Int)) H Q
theorem sc_mc : FnScope ["self"] ["self"] (defScope (s_w 1)) := ⟨rfl, rfl, rfl, by decide +kernel, rfl, by decide +kernel, by decide +kernel⟩
theorem ok_mc {C : Addr} (F : Fun K "many_clashes" "Web.many_clashes" (s_w 1) f fd) (B : Blt2 mg) (T : WebC K C) : FnOk P w K mg base (L2.CX P w) 1 f fd ["self"] (spMc C) := by
  refine F.okX sc_mc (fun vs H Q E h => ?_) (fun cdv A outer s H vs Q E hr h => ?_)
  · obtain ⟨p, n, q, rfl, _⟩ := h
    rfl
  · obtain ⟨p, n, q, rfl, W, k⟩ := h
    obtain ⟨⟨ddx, c, m, l, h1, h2, h3, h4, h5⟩, cl, n0, n8⟩ := id W
    refine ⟨_, pss_one (ps_ret (pe_callB call_len_seq (by rfl) B.len PySem.boot_len (pa_cons (pe_fld (pv 0) rfl) pa_nil))), ?_⟩
    refine ⟨_, rfl, p, C, ddx, _, _, rfl, h1, T.cl, T.nc, wf_clashes _ _ _, c, _, rfl, .inr (SqT.of h2), ?_⟩
    rw [List.length_map]
    rw [h3, List.length_map] at k
    exact k.now
/-- what `in` says of a value -/
def inW (n : Int) (q : List Pr) : PyData → Bool
  | .tuple [.int x, .int y] => decide (0 ≤ x ∧ x < n ∧ 0 ≤ y ∧ y < n) && hasP q x.toNat y.toNat
  | _ => false
def spIn (C : Addr) : Sp := fun vs H Q _ => ∃ (p : Addr) (v : V) (d : PyData) (n : Int) (q : List Pr), vs = [.ref p, v] ∧ WebAt C H p n q ∧ Dt H v d ∧ Ret (.bl (inW n q d)) H Q
theorem sc_in : FnScope ["self", "x", "first", "second"] ["self", "x"] (defScope (s_w 13)) := ⟨rfl, rfl, rfl, by decide +kernel, rfl, by decide +kernel, by decide +kernel⟩
theorem inW_two {n : Int} {q : List Pr} {a b : PyData} : inW n q (.tuple [a, b]) = true → isTh n a = true ∧ isTh n b = true := fun h => by
  unfold inW at h
  split at h
  · rename_i x y e
    cases e
    have := (Bool.and_eq_true_iff.mp h).1
    have z : 0 ≤ x ∧ x < n ∧ 0 ≤ y ∧ y < n := of_decide_eq_true this
    exact ⟨decide_eq_true ⟨z.1, z.2.1⟩, decide_eq_true ⟨z.2.2.1, z.2.2.2⟩⟩
  · cases h
theorem ok_in {C CT : Addr} (F : Fun K "__contains__" "Web.__contains__" (s_w 13) f fd) (B : Blt2 mg) (T : WebC K C) (TH : Df P w K mg base "is_thing" 2 ["many", "value"] spTh) (CL : Mt P w K mg base C "clash" 4 ["self", "x", "y"] (spCl C CT))
    (ncl : NoAttr K C "many") : FnOk P w K mg base (L2.CX P w) 5 f fd ["self", "x"] (spIn C) := by
  refine F.okX sc_in (fun vs H Q E h => ?_) (fun cdv A outer s H vs Q E hr h => ?_)
  · obtain ⟨p, v, d, n, q, rfl, _⟩ := h
    rfl
  · obtain ⟨p, v, d, n, q, rfl, W, hv, k⟩ := h
    obtain ⟨⟨ddx, c, m, l, h1, h2, h3, h4, h5⟩, cl, n0, n8⟩ := id W
    have nd := sc_in.nd
    have hr2 : Room 2 _ := hr.mono (by decide)
    refine ⟨_, pss_cons (ps_if (PW.pt (pw_or (pt_not (pt_val (pe_callB call_isi (by rfl) B.isi (by decide +kernel) (pa_cons (pv 1) (pa_cons (pe_bltn (v := .ty "tuple") (by rfl) B.tuple (by decide +kernel) rfl) pa_nil)))))
        (pw_or1 (pt_cmpR op_ne (pe_callB call_len_seq (by rfl) B.len PySem.boot_len (pa_cons (pv 1) pa_nil)) pe_int (nomark _))))) (pss_one (ps_ret pe_bl)) pss_nil)
      (pss_cons (ps_asg (pv 1) (pg_tup rfl (pgs_cons (pg_name (i := 2) nd rfl (.inl rfl)) (pgs_cons (pg_name (i := 3) nd rfl (.inl rfl)) pgs_nil))))
      (pss_cons (ps_if (PW.pt (pw_or (pt_not (pt_val (pe_df TH hr2 (by rfl) passUp (pa_cons (pe_fld (pv 0) rfl) (pa_cons (pv 2) pa_nil)))))
        (pw_or1 (pt_not (pt_val (pe_df TH hr2 (by rfl) passUp (pa_cons (pe_fld (pv 0) rfl) (pa_cons (pv 3) pa_nil)))))))) (pss_one (ps_ret pe_bl)) pss_nil)
      (pss_one (ps_ret (pe_mt1 CL hr passUp (pv 0) (pa_cons (pv 2) (pa_cons (pv 3) pa_nil))))))), ?_⟩
    have no : ∀ {H'}, Same H H' → inW n q d = false → Q (.bl false) H' := fun {H'} sm e => by
      have := k H' sm
      rw [e] at this
      exact this
    cases hv with
    | non => exact ⟨_, rfl, _, _, _, _, _, rfl, .ty _, .base .non, kit_ty (r := false) (by decide +kernel), _, rfl, iteT (no (Same.refl _) rfl)⟩
    | bl b => exact ⟨_, rfl, _, _, _, _, _, rfl, .ty _, .base (.bl b), kit_ty (r := false) (by decide +kernel), _, rfl, iteT (no (Same.refl _) rfl)⟩
    | int b => exact ⟨_, rfl, _, _, _, _, _, rfl, .ty _, .base (.int b), kit_ty (r := false) (by decide +kernel), _, rfl, iteT (no (Same.refl _) rfl)⟩
    | str b => exact ⟨_, rfl, _, _, _, _, _, rfl, .ty _, .base (.str b), kit_ty (r := false) (by decide +kernel), _, rfl, iteT (no (Same.refl _) rfl)⟩
    | lst e h => exact ⟨_, rfl, _, _, _, _, _, rfl, .ty _, .base (.lst e), kit_ty (r := false) (by decide +kernel), _, rfl, iteT (no (Same.refl _) rfl)⟩
    | @tup a xs ds e h =>
      refine ⟨_, rfl, _, _, _, _, _, rfl, .ty _, .base (.tup e), kit_ty (r := true) (by decide +kernel), _, rfl, iteF ⟨_, rfl, _, xs, rfl, .inr (SqT.of e), rfl, _, rfl, ?_⟩⟩
      by_cases l2 : ds.length = 2
      · match ds, l2, h with
        | [d1, d2], _, .cons (v := v1) g1 (.cons (v := v2) g2 .nil) =>
          refine iteF ⟨_, rfl, a, _, rfl, SqT.of e, rfl, _, _, rfl, _, _, rfl, rfl, ?_⟩
          refine ⟨_, rfl, p, C, ddx, _, _, rfl, h1, T.cl, T.nm, wf_many _ _ _, _, rfl, n, v1, d1, rfl, g1, fun H1 s1 => ⟨_, rfl, ?_⟩⟩
          cases t1 : isTh n d1 with
          | false =>
            refine iteT (no s1 ?_)
            cases z : inW n q (.tuple [d1, d2]) with
            | false => rfl
            | true => rw [(inW_two z).1] at t1; cases t1
          | true =>
            refine iteF ⟨_, rfl, p, C, ddx, _, _, rfl, s1 _ _ h1, T.cl, T.nm, wf_many _ _ _, _, rfl, n, v2, d2, rfl, g2.mono s1, fun H2 s2 => ⟨_, rfl, ?_⟩⟩
            have s12 := s1.trans s2
            cases t2 : isTh n d2 with
            | false =>
              refine iteT (no s12 ?_)
              cases z : inW n q (.tuple [d1, d2]) with
              | false => rfl
              | true => rw [(inW_two z).2] at t2; cases t2
            | true =>
              obtain ⟨i, rfl, rfl, i0, iN⟩ := th_int g1 t1
              obtain ⟨j, rfl, rfl, j0, jN⟩ := th_int g2 t2
              obtain ⟨x, rfl⟩ := Int.eq_ofNat_of_zero_le i0
              obtain ⟨y, rfl⟩ := Int.eq_ofNat_of_zero_le j0
              refine iteF ⟨_, rfl, p, ddx, _, rfl, s12 _ _ h1, wf_no _ _ _ (by decide +kernel) (by decide +kernel) (by decide +kernel), _, rfl, _, rfl, p, _, _, _, _, n, q, rfl, W.mono s12, .int _, .int _, (fun z => by rw [t1] at z; cases z), (fun _ z => by rw [t2] at z; cases z), fun x' y' ex ey _ _ H3 s3 => ?_⟩
              cases ex
              cases ey
              have := k H3 (s12.trans s3)
              have ev : inW n q (.tuple [.int (x : Int), .int (y : Int)]) = hasP q x y := by
                show (decide _ && hasP q ((x : Int).toNat) ((y : Int).toNat)) = _
                rw [decide_eq_true ⟨i0, iN, j0, jN⟩, Int.toNat_natCast, Int.toNat_natCast]
                rfl
              rw [ev] at this
              exact this
      · have ne : (!decide (V.int ((xs.length : Nat) : Int) = V.int 2)) = true := by
          rw [h.len]
          simp
          omega
        rw [ne]
        refine iteT (no (Same.refl _) ?_)
        cases z : inW n q (.tuple ds) with
        | false => rfl
        | true =>
          unfold inW at z
          split at z
          · rename_i x y e
            cases e
            exact absurd rfl l2
          · cases z
end
end K0
set_option Elab.async false
set_option linter.all false
set_option maxRecDepth 100000
set_option maxHeartbeats 4000000
namespace K0
open PySem PySem.Spec PyProof.Rows L2
theorem prD_lay (z : Pr) : (prD z).canLay0 = true := by simp [prD, PyData.canLay0, PyData.canLayAll0]
theorem prs_lay : ∀ zs : List Pr, PyData.canLayAll0 (zs.map prD) = true
  | [] => by simp [PyData.canLayAll0]
  | z :: zs => by rw [List.map_cons]; simp only [PyData.canLayAll0]; rw [prD_lay, prs_lay zs]; rfl
theorem prD_depth (z : Pr) : (prD z).depth ≤ 1 := by simp [prD, PyData.depth, PyData.depthAll]
theorem prs_depth : ∀ zs : List Pr, PyData.depthAll (zs.map prD) ≤ 1
  | [] => by simp [PyData.depthAll]
  | z :: zs => by rw [List.map_cons]; simp only [PyData.depthAll]; exact Nat.max_le.mpr ⟨prD_depth z, prs_depth zs⟩
theorem prsT_shaped (zs : List Pr) : SeqAt.shaped (.tuple (zs.map prD)) = true := by
  unfold SeqAt.shaped
  rw [Bool.and_eq_true, decide_eq_true_iff]
  refine ⟨by simp only [PyData.canLay0]; exact prs_lay zs, ?_⟩
  simp only [PyData.depth]
  have := prs_depth zs
  omega
theorem prsL_shaped (zs : List Pr) : SeqAt.shaped (.list (zs.map prD)) = true := by
  unfold SeqAt.shaped
  rw [Bool.and_eq_true, decide_eq_true_iff]
  refine ⟨by simp only [PyData.canLay0]; exact prs_lay zs, ?_⟩
  simp only [PyData.depth]
  have := prs_depth zs
  omega
theorem prs_eqv (a b : List Pr) : PyData.eqvAll (a.map prD) (b.map prD) = decide (a = b) := PySem.W.eqvAll_map a b
theorem prsT_eqv (a b : List Pr) : PyData.eqv (.tuple (a.map prD)) (.tuple (b.map prD)) = decide (a = b) := by
  rw [PyData.eqv]
  exact prs_eqv a b
theorem prsL_eqv (a b : List Pr) : PyData.eqv (.list (a.map prD)) (.list (b.map prD)) = decide (a = b) := by
  rw [PyData.eqv]
  exact prs_eqv a b
section
variable {P : Program} {w : World} {K : PySem.W.Frag} {mg : Str → Option Value} {base : Heap} {f : Addr} {fd : FuncData}
/-- what isinstance and == ask of the class -/
structure WebI (K : PySem.W.Frag) (C : Addr) : Prop extends WebC K C where
  ha : PySem.W.findIn K (.ref C) "__class__" = some (some (.builtin "object.__class__"))
  hn : PySem.W.specialIn K (.builtin "object.__class__") "__get__" = some (some (.builtin "getset_descriptor.__get__"))
  tk : PySem.W.takesIn K (.builtin "object.__class__") = some true
  hm : PySem.W.mroIn K C (.type "object") = some true
  yes : PySem.W.kitOne K (.ref C) (.ref C) = some true
  no : ∀ T ∈ ["NoneType", "bool", "int", "str", "list", "tuple"], PySem.W.kitOne K (.type T) (.ref C) = some false
  nf : ∀ T ∈ ["int", "list"], PySem.W.notFirst K C (.type T) = true
theorem WebI.ty {C : Addr} (T : WebI K C) {H : Hp} {p : Addr} {n : Int} {q : List Pr} (W : WebAt C H p n q) : TyX K H (.ref p) (.ref C) := by
  obtain ⟨⟨ddx, c, m, l, h1, _⟩, _⟩ := W
  exact .base (.ins h1 T.cl T.ha T.hn T.tk T.hm)
theorem dt_noweb {C : Addr} (T : WebI K C) {H : Hp} {v : V} {d : PyData} (h : Dt H v d) : PySem.W.kitOne K (.type (tyD d)) (.ref C) = some false := T.no _ (by cases h <;> simp [tyD])
/-- isinstance(v, Web) of a web or of data -/
def WebOr (C : Addr) (H : Hp) (v : V) (b : Bool) : Prop := (b = true ∧ ∃ p n q, v = .ref p ∧ WebAt C H p n q) ∨ (b = false ∧ ∃ d, Dt H v d)
theorem isi_web {C : Addr} (T : WebI K C) {H : Hp} {v : V} {b : Bool} {Q : VK} (h : WebOr C H v b) (q : Q (.bl b) H) : rIsi K [v, .ref C] H Q := by
  rcases h with ⟨rfl, p, n, qq, rfl, W⟩ | ⟨rfl, d, h⟩
  · exact ⟨_, _, _, _, _, rfl, .own C, T.ty W, T.yes, q⟩
  · exact ⟨_, _, _, _, _, rfl, .own C, h.ty, dt_noweb T h, q⟩
theorem WebAt.tuple {C : Addr} {H : Hp} {p : Addr} {n : Int} {q : List Pr} (W : WebAt C H p n q) : ∃ (dx c m : Addr) (xs : List V), H p = some (.ins C dx (wf n c m)) ∧ H c = some (.tup xs) ∧ DtAll H xs (q.map prD) := by
  obtain ⟨⟨dx, c, m, l, h1, h2, h3, h4, h5⟩, _⟩ := W
  exact ⟨dx, c, m, _, h1, h2, by rw [h3, List.map_map]; exact dtAll_prs h4⟩
/-- web == other -/
def spEqW (C : Addr) : Sp := fun vs H Q _ => ∃ (p : Addr) (v : V) (n : Int) (q : List Pr), vs = [.ref p, v] ∧ WebAt C H p n q ∧
  ((∃ p' n' q', v = .ref p' ∧ WebAt C H p' n' q' ∧ Ret (.bl (decide (n = n') && decide (q = q'))) H Q) ∨ (∃ d, Dt H v d ∧ Ret (.bl false) H Q))
theorem sc_eqw : FnScope ["self", "other"] ["self", "other"] (defScope (s_w 11)) := ⟨rfl, rfl, rfl, by decide +kernel, rfl, by decide +kernel, by decide +kernel⟩
theorem ok_eqw {C : Addr} (F : Fun K "__eq__" "Web.__eq__" (s_w 11) f fd) (B : Blt2 mg) (T : WebI K C) (g : mg "Web" = some (.ref C)) : FnOk P w K mg base (L2.CX P w) 1 f fd ["self", "other"] (spEqW C) := by
  refine F.okX sc_eqw (fun vs H Q E h => ?_) (fun cdv A outer s H vs Q E hr h => ?_)
  · obtain ⟨p, v, n, q, rfl, _⟩ := h
    rfl
  · obtain ⟨p, v, n, q, rfl, W, k⟩ := h
    obtain ⟨ddx, c, m, xs, h1, h2, h3⟩ := W.tuple
    have hu := hr.units
    refine ⟨_, pss_one (ps_ret (pe_and (pe_callB call_isi (by rfl) B.isi (by decide +kernel) (pa_cons (pv 1) (pa_cons (pe_glob (v := .ref C) (by rfl) g rfl) pa_nil)))
      (pe_and (pe_cmpR op_eq (pe_fld (pv 0) rfl) (pe_fld (pv 1) rfl) (nomark _)) (pe_one (pe_cmpR (op_eqD hu) (pe_fld (pv 0) rfl) (pe_fld (pv 1) rfl) (nomark _)))))), ?_⟩
    refine ⟨_, rfl, ?_⟩
    rcases k with ⟨p', n', q', rfl, W', k⟩ | ⟨d, hd, k⟩
    · obtain ⟨ddx', c', m', xs', h1', h2', h3'⟩ := W'.tuple
      dsimp only [tCons, tC, tNil]
      refine isi_web T (.inl ⟨rfl, p', n', q', rfl, W'⟩) ?_
      refine ⟨_, rfl, iteT ?_⟩
      refine ⟨_, rfl, p, C, ddx, _, _, rfl, h1, T.cl, T.nm, wf_many _ _ _, _, rfl, p', C, ddx', _, _, rfl, h1', T.cl, T.nm, wf_many _ _ _, rfl, _, rfl, ?_⟩
      by_cases en : n = n'
      · subst en
        rw [decide_eq_true rfl]
        refine iteT ⟨_, rfl, p, C, ddx, _, _, rfl, h1, T.cl, T.nc, wf_clashes _ _ _, _, rfl, p', C, ddx', _, _, rfl, h1', T.cl, T.nc, wf_clashes _ _ _, .tuple (q.map prD), .tuple (q'.map prD), (Dt.tup h2 h3).dp, (Dt.tup h2' h3').dp, prsT_shaped _, prsT_shaped _, ?_⟩
        rw [prsT_eqv]
        have := k.now
        rw [decide_eq_true rfl, Bool.true_and] at this
        exact this
      · have : decide (V.int n = V.int n') = false := decide_eq_false fun e => en (by cases e; rfl)
        rw [this]
        have := k.now
        rw [decide_eq_false en, Bool.false_and] at this
        exact iteF this
    · dsimp only [tCons, tC, tNil]
      refine isi_web T (.inr ⟨rfl, d, hd⟩) ?_
      exact ⟨_, rfl, iteF k.now⟩
/-- web[x] -/
theorem sc_gi : FnScope ["self", "at"] ["self", "at"] (defScope (s_w 14)) := ⟨rfl, rfl, rfl, by decide +kernel, rfl, by decide +kernel, by decide +kernel⟩
theorem ok_gi {C CT : Addr} (F : Fun K "__getitem__" "Web.__getitem__" (s_w 14) f fd) (NR : Mt P w K mg base C "near" 4 ["self", "x"] (spNr C CT)) : FnOk P w K mg base (L2.CX P w) 5 f fd ["self", "at"] (spNr C CT) := by
  refine F.okX sc_gi (fun vs H Q E h => ?_) (fun cdv A outer s H vs Q E hr h => ?_)
  · obtain ⟨p, vx, dx, n, q, rfl, _⟩ := h
    rfl
  · have h' := h
    obtain ⟨p, vx, dx, n, q, rfl, W, hx, q1, q2⟩ := h
    obtain ⟨⟨ddx, c, m, l, h1, h2, h3, h4, h5⟩, cl, n0, n8⟩ := id W
    refine ⟨_, pss_one (ps_ret (pe_mt1 NR hr passUp (pv 0) (pa_cons (pv 1) pa_nil))), ?_⟩
    exact ⟨_, rfl, p, ddx, _, rfl, h1, wf_no _ _ _ (by decide +kernel) (by decide +kernel) (by decide +kernel), _, rfl, h'⟩
end
end K0
set_option Elab.async false
set_option linter.all false
set_option maxRecDepth 100000
set_option maxHeartbeats 4000000
namespace K0
open PySem PySem.Spec PyProof.Rows L2
theorem entsOf_prs {n : Int} : ∀ {zs : List Pr}, (∀ z ∈ zs, 0 ≤ z.1 ∧ z.1 < z.2 ∧ z.2 < n) → entsOf n (zs.map prD) = .ok zs
  | [], _ => rfl
  | z :: zs, h => by
    have ih := entsOf_prs (zs := zs) fun y hy => h y (List.mem_cons_of_mem _ hy)
    obtain ⟨x, y⟩ := z
    obtain ⟨a, b, c⟩ := h (x, y) List.mem_cons_self
    dsimp only at a b c
    have e : entOf n (prD (x, y)) = .ok (x, y) := by
      unfold entOf prD pairOf
      dsimp only
      rw [if_pos ⟨a, by omega, by omega, c, by omega⟩]
      congr 2
      · omega
      · omega
    rw [List.map_cons, entsOf, e, ih]
/-- what fresh tuples of pairs stand for -/
def PrsAt (H : Hp) (l : List (Addr × Pr)) : Prop := ∀ z ∈ l, H z.1 = some (.tup [.int z.2.1, .int z.2.2])
theorem PrsAt.mono {H H' : Hp} (s : Same H H') {l : List (Addr × Pr)} (h : PrsAt H l) : PrsAt H' l := fun z hz => s _ _ (h z hz)
section
variable {P : Program} {w : World} {K : PySem.W.Frag} {mg : Str → Option Value} {base : Heap} {f : Addr} {fd : FuncData}
/-- with_thing -/
def spWt (K : PySem.W.Frag) (C CP : Addr) : Sp := fun vs H Q E => ∃ (p a : Addr) (n : Int) (q : List Pr) (ds : List PyData), vs = [.ref p, .ref a] ∧ WebAt C H p n q ∧ n ≤ 7 ∧ Sq K H a ds ∧
  (fwG n ds [] = none → (∃ xs, H a = some (.lst xs) ∧ DtAll H xs ds) ∧ ∀ q', Cl (n + 1) q' → (∀ z : Pr, z ∈ q' ↔ z ∈ q ∨ (PyData.int z.1 ∈ ds ∧ z.2 = n)) → ∀ H' r, Same H H' → H r = none → WebAt C (New H H') r (n + 1) q' → Q (.ref r) H') ∧
  (∀ i, fwG n ds [] = some i → Rz CP [("place", .int (i : Nat))] H E)
theorem sc_wt : FnScope ["self", "near", "new", "pairs", "x"] ["self", "near"] (defScope (s_w 6)) := ⟨rfl, rfl, rfl, by decide +kernel, rfl, by decide +kernel, by decide +kernel⟩
theorem ok_wt {C CN CW CP : Addr} (F : Fun K "with_thing" "Web.with_thing" (s_w 6) f fd) (B : Blt2 mg) (T : WebC K C) (WK : WebK P w K mg base C CN CW) (CS : Df P w K mg base "check_things" 4 ["many", "things"] (spCs K CP)) :
    FnOk P w K mg base (L2.CX P w) 6 f fd ["self", "near"] (spWt K C CP) := by
  refine F.okX sc_wt (fun vs H Q E h => ?_) (fun cdv A outer s H vs Q E hr h => ?_)
  · obtain ⟨p, a, n, q, ds, rfl, _⟩ := h
    rfl
  · obtain ⟨p, a, n, q, ds, rfl, W, n7, hs, k1, k2⟩ := h
    obtain ⟨ddx, c, m, xs, h1, h2, h3⟩ := W.tuple
    have nd := sc_wt.nd
    have hr4 : Room 4 _ := hr.mono (by decide)
    refine ⟨_, pss_cons (ps_set (i := 2) nd rfl (.inr rfl) (pe_fld (pv 0) rfl))
      (pss_cons (ps_setLc (i := 3) (own := [("x", 4)]) (g := gName 4) rfl nd rfl (by rfl) (by rfl) (pi_tup (pe_df CS hr4 (by rfl) passUp (pa_cons (pe_fld (pv 0) rfl) (pa_cons (pv 1) pa_nil))))
        (blkOk_by (N := ["self", "near", "new", "pairs", "x"]) (sc := defScope (s_w 6)) (by decide +kernel)) (fun _ _ _ _ _ => pg_name (i := 4) nd rfl (.inl rfl)) (fun _ _ _ _ _ => pts_nil) (fun _ _ _ _ _ => pe_tup (pa_cons (pv 4) (pa_cons (pv 2) pa_nil))))
      (pss_one (ps_ret (pe_web WK hr (by rfl) passUp (pa_cons (pe_op op_add (pv 2) pe_int) (pa_cons (pe_lst (StX.pa_star (pe_fld (pv 0) rfl) (StX.pa_star (pv 3) pa_nil))) pa_nil)))))), ?_⟩
    refine ⟨_, rfl, p, C, ddx, _, _, rfl, h1, T.cl, T.nm, wf_many _ _ _, ?_⟩
    refine ⟨_, rfl, p, C, ddx, _, _, rfl, h1, T.cl, T.nm, wf_many _ _ _, _, rfl, n, a, ds, rfl, by omega, hs, fun en => ?_, k2⟩
    obtain ⟨hl, k⟩ := k1 en
    refine ⟨hl, fun H1 t ns s1 nt ht srt mem => ⟨t, rfl, ⟨_, ht.sq⟩, fun D nD => ?_⟩⟩
    obtain ⟨r, er, gd⟩ := fwG_none (sn := []) ⟨List.nodup_nil, fun k hk => by cases hk⟩ en
    rw [List.nil_append] at gd
    have nsr : ∀ k ∈ ns, 0 ≤ k ∧ k < n := fun k hk => by
      have := (mem k).mp hk
      rw [er] at this
      obtain ⟨k', hk', e⟩ := List.mem_map.mp this
      cases e
      exact gd.rng k hk'
    have few : ns.length ≤ 9 := (Good.mk (n := n) (List.Pairwise.imp (fun {a b} h => by omega) srt) nsr).few (by omega)
    refine lc_it (walk_tup (K := K) (a := t) (xs := ns.map V.int)) (fun i H' => Same H1 H' ∧ ∃ l : List (Addr × Pr), H' D = some (.lst (l.map fun z => V.ref z.1)) ∧ l.map (·.2) = (ns.take i).map (fun k => (k, n)) ∧ PrsAt H' l)
      ⟨same_upd nD, [], upd_same, rfl, fun z hz => by cases hz⟩ (fun i H' _ z => (ht.mono z.1).sq) (fun i x H' H2 hi z y => ?_) (fun H' z => ?_)
    · obtain ⟨rfl, hx⟩ := y
      obtain ⟨sm, l, hD, el, hp⟩ := z
      rw [List.getElem?_map] at hx
      obtain ⟨k0, hk0, rfl⟩ := Option.map_eq_some_iff.mp hx
      refine ⟨rfl, ?_⟩
      refine ⟨_, rfl, _, rfl, (by show 2 ≤ sizeLine; decide), fun u nu => ?_⟩
      have s2 : Same H2 (upd H2 u (.tup [.int k0, .int n])) := same_upd nu
      have nuD : D ≠ u := fun e => by rw [e, nu] at hD; cases hD
      refine ⟨_, s2 _ _ hD, ?_, fun b o e => ?_, l ++ [(u, (k0, n))], ?_, ?_, fun z hz => ?_⟩
      · rw [List.length_map, sizeLine_eq]
        have := congrArg List.length el
        rw [List.length_map, List.length_map, List.length_take] at this
        omega
      · rw [upd_ne (ne_of_none e nD)]
        exact s2 _ _ (sm _ _ e)
      · rw [upd_same, List.map_append]
        rfl
      · rw [List.map_append, el, take_at hk0, List.map_append]
        rfl
      · have hz2 : (upd H2 u (.tup [.int k0, .int n])) z.1 = some (.tup [.int z.2.1, .int z.2.2]) := by
          rcases List.mem_append.mp hz with hz | hz
          · exact s2 _ _ (hp z hz)
          · rw [List.mem_singleton.mp hz]
            exact upd_same
        have zD : z.1 ≠ D := fun e => by
          rw [e, s2 _ _ hD] at hz2
          cases hz2
        rw [upd_ne zD]
        exact hz2
    · obtain ⟨sm, l, hD, el, hp⟩ := z
      rw [List.length_map, List.take_length] at el
      have s13 := s1.trans sm
      refine ⟨_, rfl, _, _, rfl, rfl, ?_⟩
      refine ⟨_, rfl, p, C, ddx, _, _, rfl, s13 _ _ h1, T.cl, T.nc, wf_clashes _ _ _, c, xs, rfl, .inl (SqT.of (s13 _ _ h2)), _, rfl, D, _, rfl, .inr (SqL.of hD), ?_, fun u nu => ?_⟩
      · rw [List.append_nil, List.length_append, List.length_map, sizeLine_eq]
        have e1 := h3.len
        rw [List.length_map] at e1
        have e2 := W.cl.few W.n8
        have e3 := congrArg List.length el
        rw [List.length_map, List.length_map] at e3
        omega
      have s4 : Same H' (upd H' u (.lst (xs ++ ((l.map fun z => V.ref z.1) ++ [])))) := same_upd nu
      have rng : ∀ z ∈ q ++ ns.map (fun k => (k, n)), 0 ≤ z.1 ∧ z.1 < z.2 ∧ z.2 < n + 1 := fun z hz => by
        rcases List.mem_append.mp hz with hz | hz
        · have := W.cl.rng z hz
          omega
        · obtain ⟨k', hk', e⟩ := List.mem_map.mp hz
          rw [← e]
          have := nsr k' hk'
          dsimp only
          omega
      have dt : DtAll (upd H' u (.lst (xs ++ ((l.map fun z => V.ref z.1) ++ [])))) (xs ++ ((l.map fun z => V.ref z.1) ++ [])) ((q ++ ns.map (fun k => (k, n))).map prD) := by
        have g1 := h3.mono (s13.trans s4)
        have g2 := hp.mono s4
        have e0 : xs ++ ((l.map fun z => V.ref z.1) ++ []) = xs ++ l.map fun z => V.ref z.1 := by rw [List.append_nil]
        rw [e0] at g1 g2 ⊢
        rw [List.map_append]
        refine DtAll.app g1 ?_
        rw [← el, List.map_map]
        exact dtAll_prs g2
      refine ⟨u, .int (n + 1), .int (n + 1), _, rfl, .int _, .lst upd_same dt, fun z => ?_, fun n' e h0 => ?_⟩
      · have : 0 ≤ n + 1 := by have := W.n0; omega
        have z' : ¬ (0 ≤ n + 1) := of_decide_eq_false z
        exact absurd this z'
      · cases e
        refine ⟨by omega, fun ps hps q' hq' hm H5 r' s5 nr W' => ?_, fun x y hxy => ?_⟩
        · rw [entsOf_prs rng] at hps
          cases hps
          have s15 := s13.trans s4
          refine k q' hq' (fun z => ?_) H5 r' (s15.trans s5) (s15.free nr) (W'.mono (new_mono (fun b e1 _ => s15.free e1) (Same.refl _)))
          rw [hm, List.mem_append]
          refine or_congr Iff.rfl ⟨fun hz => ?_, fun ⟨hz, e⟩ => ?_⟩
          · obtain ⟨k', hk', e⟩ := List.mem_map.mp hz
            rw [← e]
            exact ⟨(mem k').mp hk', rfl⟩
          · refine List.mem_map.mpr ⟨z.1, (mem _).mpr hz, ?_⟩
            rw [← e]
        · rw [entsOf_prs rng] at hxy
          cases hxy
end
end K0
set_option Elab.async false
set_option linter.all false
set_option maxRecDepth 100000
set_option maxHeartbeats 4000000
namespace K0
open PySem PySem.Spec PyProof.Rows L2
theorem prD_shaped (z : Pr) : SeqAt.shaped (prD z) = true := by
  unfold SeqAt.shaped
  rw [Bool.and_eq_true, decide_eq_true_iff]
  exact ⟨prD_lay z, by have := prD_depth z; omega⟩
theorem prD_eqv (a b : Pr) : PyData.eqv (prD a) (prD b) = decide (a = b) := PySem.W.Datum.eqv a b
section
variable {X : Cx} {o e : Expr} {es : List Expr} {to : TE} {t : TA} {apos cpos : Pos}
/-- o.append(e) -/
theorem pe_lapp (ho : PE X o to) (ha : PA X (e :: es) t)
    (hbase : attributeBase o "append" X.env (eval o X.env) = eval o X.env := by rfl)
    (hfew : ((backTo cpos (starEach (e :: es) X.env)).all (fun x => !x.1) && (backToKw cpos (keywordEach [] X.env)).all (fun x => x.1.isSome)
      && decide ((e :: es).length + ([] : List Keyword).length + (if ([] : List Keyword).isEmpty then 0 else 1) < 30)) = true := by rfl)
    (hline : (apos.endLine == cpos.line) = true := by rfl) (hs : starEach (e :: es) X.env = (false, eval e X.env) :: starEach es X.env := by rfl) (hplain : (backTo cpos (starEach es X.env)).any (·.1) = false := by rfl) :
    PE X (.Call (.Attribute o "append" apos) (e :: es) [] cpos) (tBM X.K "list" rAppend to t) :=
  pe_bm PySem.F.plainAttrs_list PySem.F.slot_list_append PySem.F.type_list_append mt_append ho ha hbase hfew hline hs hplain
end
section
variable {P : Program} {w : World} {K : PySem.W.Frag} {mg : Str → Option Value} {base : Heap} {f : Addr} {fd : FuncData}
/-- settled -/
def spSt (C CT : Addr) : Sp := fun vs H Q E => ∃ (p : Addr) (vx vy : V) (b : Bool) (dx dy : PyData) (n : Int) (q : List Pr), vs = [.ref p, vx, vy, .bl b] ∧ WebAt C H p n q ∧ Dt H vx dx ∧ Dt H vy dy ∧
  (isTh n dx = false → Rz CT [("thing", vx)] H E) ∧ (isTh n dx = true → isTh n dy = false → Rz CT [("thing", vy)] H E) ∧ (isTh n dx = true → isTh n dy = true → PyData.eqv dx dy = true → Rz CT [("thing", vy)] H E) ∧
  ∀ x y : Int, dx = .int x → dy = .int y → (0 ≤ x ∧ x < n) → (0 ≤ y ∧ y < n) → x ≠ y → ∀ q', Cl n q' → (∀ z : Pr, z ∈ q' ↔ (z ∈ q ∧ z ≠ (min x y, max x y)) ∨ (b = true ∧ z = (min x y, max x y))) → ∀ H' r, Same H H' → H r = none → WebAt C (New H H') r n q' → Q (.ref r) H'
theorem sc_st : FnScope ["self", "x", "y", "clashing", "chosen", "pairs", "pair"] ["self", "x", "y", "clashing"] (defScope (s_w 7)) := ⟨rfl, rfl, rfl, by decide +kernel, rfl, by decide +kernel, by decide +kernel⟩
def rNeT (K : PySem.W.Frag) : R2 := rNeD K
theorem ok_st {C CN CW CT : Addr} (F : Fun K "settled" "Web.settled" (s_w 7) f fd) (B : Blt2 mg) (T : WebC K C) (WK : WebK P w K mg base C CN CW) (C2 : Df P w K mg base "check_two_things" 4 ["many", "x", "y"] (spC2 CT)) :
    FnOk P w K mg base (L2.CX P w) 6 f fd ["self", "x", "y", "clashing"] (spSt C CT) := by
  refine F.okX sc_st (fun vs H Q E h => ?_) (fun cdv A outer s H vs Q E hr h => ?_)
  · obtain ⟨p, vx, vy, b, dx, dy, n, q, rfl, _⟩ := h
    rfl
  · obtain ⟨p, vx, vy, b, dx, dy, n, q, rfl, W, hx, hy, k1, k2, k3, k4⟩ := h
    obtain ⟨⟨ddx, c, m, l0, h1, h2, h3, h4, h5⟩, cl, n0, n8⟩ := id W
    have nd := sc_st.nd
    have hu := hr.units
    have hr4 : Room 4 _ := hr.mono (by decide)
    refine ⟨_, pss_cons (ps_expr (pe_df C2 hr4 (by rfl) passUp (pa_cons (pe_fld (pv 0) rfl) (pa_cons (pv 1) (pa_cons (pv 2) pa_nil)))))
      (pss_cons (ps_set (i := 4) nd rfl (.inr rfl) (pe_tup (pa_cons (pe_callB (call_min2 rfl) (by rfl) B.min (by decide +kernel) (pa_cons (pv 1) (pa_cons (pv 2) pa_nil))) (pa_cons (pe_callB (call_max2 rfl) (by rfl) B.max (by decide +kernel) (pa_cons (pv 1) (pa_cons (pv 2) pa_nil))) pa_nil))))
      (pss_cons (ps_setLc (i := 5) (own := [("pair", 6)]) (g := gName 6) (tt := tTest (tOp (rNeD K) (tVar 6) (tVar 4))) (te := tVar 6) rfl nd rfl (by rfl) (by rfl) (pi_tup (pe_fld (pv 0) rfl))
        (blkOk_by (N := ["self", "x", "y", "clashing", "chosen", "pairs", "pair"]) (sc := defScope (s_w 7)) (by decide +kernel)) (fun _ _ _ _ _ => pg_name (i := 6) nd rfl (.inl rfl)) (fun _ _ _ _ _ => pts_one (pt_cmpR (op_neD hu) (pv 6) (pv 4) (by rfl))) (fun _ _ _ _ _ => pv 6))
      (pss_cons (ps_if (pt_truth (pv 3) (by intro _; rfl)) (pss_one (ps_expr (pe_lapp (pv 5) (pa_cons (pv 4) pa_nil)))) pss_nil)
      (pss_one (ps_ret (pe_web WK hr (by rfl) passUp (pa_cons (pe_fld (pv 0) rfl) (pa_cons (pv 5) pa_nil)))))))), ?_⟩
    refine ⟨_, rfl, p, C, ddx, _, _, rfl, h1, T.cl, T.nm, wf_many _ _ _, _, rfl, _, rfl, n, vx, vy, dx, dy, rfl, hx, hy, k1, k2, k3, fun t1 t2 ne H1 s1 => ?_⟩
    obtain ⟨x, rfl, rfl, hx0⟩ := th_int hx t1
    obtain ⟨y, rfl, rfl, hy0⟩ := th_int hy t2
    have nxy : x ≠ y := fun e => by
      subst e
      rw [PyData.eqv] at ne
      simp at ne
    refine ⟨_, rfl, _, rfl, _, _, rfl, _, rfl, _, rfl, _, _, rfl, (by show 2 ≤ sizeLine; decide), fun t nt => ?_⟩
    rw [min2, max2]
    have s2 : Same H1 (upd H1 t (.tup [.int (min x y), .int (max x y)])) := same_upd nt
    have s12 := s1.trans s2
    refine ⟨_, rfl, p, C, ddx, _, _, rfl, s12 _ _ h1, T.cl, T.nc, wf_clashes _ _ _, c, rfl, ⟨_, SqT.of (s12 _ _ h2)⟩, fun D nD => ?_⟩
    have hp0 : PrsAt H l0 := h4
    let keep : Addr × Pr → Bool := fun z => !decide (z.2 = (min x y, max x y))
    have few : l0.length ≤ 28 := by
      have := W.cl.few W.n8
      rw [h3, List.length_map] at this
      exact this
    refine lc_it (walk_tup (K := K) (a := c) (xs := l0.map fun z => V.ref z.1)) (fun i H' => Same (upd H1 t (.tup [.int (min x y), .int (max x y)])) H' ∧ H' D = some (.lst (((l0.take i).filter keep).map fun z => V.ref z.1)))
      ⟨same_upd nD, upd_same⟩ (fun i H' _ z => SqT.of (z.1 _ _ (s12 _ _ h2))) (fun i v H' H2 hi z w => ?_) (fun H' z => ?_)
    · obtain ⟨rfl, hv⟩ := w
      obtain ⟨sm, hD⟩ := z
      rw [List.getElem?_map] at hv
      obtain ⟨z0, hz0, rfl⟩ := Option.map_eq_some_iff.mp hv
      have mem0 := List.mem_of_getElem? hz0
      have hz1 := (hp0.mono (s12.trans sm)) z0 mem0
      refine ⟨rfl, _, rfl, _, rfl, prD z0.2, prD (min x y, max x y), (dt_pr hz1).dp, (dt_pr (sm _ _ upd_same)).dp, prD_shaped _, prD_shaped _, _, rfl, ?_⟩
      rw [prD_eqv, take_at hz0, List.filter_append]
      cases e : keep z0 with
      | false =>
        have e' : (!decide (z0.2 = (min x y, max x y))) = false := e
        rw [e']
        refine iteF ⟨sm, ?_⟩
        rw [hD]
        simp [e]
      | true =>
        have e' : (!decide (z0.2 = (min x y, max x y))) = true := e
        rw [e']
        refine iteT ⟨_, rfl, _, hD, ?_, fun b o eb => ?_, ?_⟩
        · rw [List.length_map, sizeLine_eq]
          have g1 := List.length_filter_le keep (l0.take i)
          rw [List.length_take] at g1
          omega
        · rw [upd_ne (ne_of_none eb nD)]
          exact sm _ _ eb
        · rw [upd_same, List.map_append]
          simp [e]
    · obtain ⟨sm, hD⟩ := z
      rw [List.take_of_length_le (by rw [List.length_map]; exact Nat.le_refl _)] at hD
      have s13 := s12.trans sm
      have hDn : H D = none := s12.free nD
      have ltF : (l0.filter keep).length ≤ 28 := Nat.le_trans (List.length_filter_le _ _) few
      -- the rest, whatever list stands at D
      have fin : ∀ (H5 : Hp) (zs : List (Addr × Pr)), Same H H5 → H5 D = some (.lst (zs.map fun z => V.ref z.1)) → PrsAt H5 zs → (∀ z, z ∈ zs.map (·.2) ↔ (z ∈ q ∧ z ≠ (min x y, max x y)) ∨ (b = true ∧ z = (min x y, max x y))) →
          spMk K C CN CW [.int n, .ref D] H5 Q E := fun H5 zs s5 e5 hz hm => by
        have dt : DtAll H5 (zs.map fun z => V.ref z.1) ((zs.map (·.2)).map prD) := by
          rw [List.map_map]
          exact dtAll_prs hz
        have rng : ∀ z ∈ zs.map (·.2), 0 ≤ z.1 ∧ z.1 < z.2 ∧ z.2 < n := fun z hz => by
          rcases (hm z).mp hz with h | h
          · exact cl.rng z h.1
          · rw [h.2]
            dsimp only
            omega
        refine ⟨D, .int n, .int n, _, rfl, .int _, .lst e5 dt, fun z => ?_, fun n' e h0 => ?_⟩
        · have z' : ¬ (0 ≤ n) := of_decide_eq_false z
          exact absurd n0 z'
        · cases e
          refine ⟨n8, fun ps hps q' hq' hm' H6 r' s6 nr W' => ?_, fun x y hxy => ?_⟩
          · rw [entsOf_prs rng] at hps
            cases hps
            exact k4 x y rfl rfl hx0 hy0 nxy q' hq' (fun z => (hm' z).trans (hm z)) H6 r' (s5.trans s6) (s5.free nr) (W'.mono (new_mono (fun b e1 _ => s5.free e1) (Same.refl _)))
          · rw [entsOf_prs rng] at hxy
            cases hxy
      refine ⟨_, rfl, b, rfl, ?_⟩
      cases eb : b with
      | true =>
        subst eb
        refine iteT ⟨_, rfl, .inl ⟨rfl, _, SqL.of hD⟩, _, rfl, D, _, _, rfl, rfl, hD, by rw [List.length_map, sizeLine_eq]; omega, ?_⟩
        refine ⟨_, rfl, p, C, ddx, wf n c m, _, rfl, ?_, T.cl, T.nm, wf_many n c m, _, rfl, ?_⟩
        · rw [upd_ne (ne_of_none h1 hDn)]
          exact s13 _ _ h1
        · have sD : Same H (upd H' D (.lst (((l0.filter keep).map fun z => V.ref z.1) ++ [V.ref t]))) := fun b o e => by
            rw [upd_ne (ne_of_none e hDn)]
            exact s13 _ _ e
          refine fin _ (l0.filter keep ++ [(t, (min x y, max x y))]) sD (by rw [upd_same, List.map_append]; rfl) (fun z hz => ?_) fun z => ?_
          · have tup : H' z.1 = some (.tup [.int z.2.1, .int z.2.2]) := by
              rcases List.mem_append.mp hz with hz | hz
              · exact (hp0.mono s13) z (List.mem_filter.mp hz).1
              · rw [List.mem_singleton.mp hz]
                exact sm _ _ upd_same
            have zD : z.1 ≠ D := fun e => by
              rw [e, hD] at tup
              cases tup
            rw [upd_ne zD]
            exact tup
          · rw [List.map_append, List.mem_append, h3]
            refine or_congr ⟨fun hz => ?_, fun ⟨hz, hne⟩ => ?_⟩ ⟨fun hz => ?_, fun ⟨_, hz⟩ => ?_⟩
            · obtain ⟨z0, hz0, e⟩ := List.mem_map.mp hz
              obtain ⟨g1, g2⟩ := List.mem_filter.mp hz0
              rw [← e]
              refine ⟨List.mem_map.mpr ⟨z0, g1, rfl⟩, fun e2 => ?_⟩
              have g2' : (!decide (z0.2 = (min x y, max x y))) = true := g2
              rw [decide_eq_true e2] at g2'
              cases g2'
            · obtain ⟨z0, hz0, e⟩ := List.mem_map.mp hz
              refine List.mem_map.mpr ⟨z0, List.mem_filter.mpr ⟨hz0, ?_⟩, e⟩
              show (!decide (z0.2 = (min x y, max x y))) = true
              rw [decide_eq_false (by rw [e]; exact hne)]
              rfl
            · exact ⟨rfl, List.mem_singleton.mp hz⟩
            · rw [hz]
              exact List.mem_singleton.mpr rfl
      | false =>
        subst eb
        refine iteF ⟨_, rfl, p, C, ddx, _, _, rfl, s13 _ _ h1, T.cl, T.nm, wf_many _ _ _, _, rfl, ?_⟩
        refine fin _ (l0.filter keep) s13 hD (fun z hz => (hp0.mono s13) z (List.mem_filter.mp hz).1) fun z => ?_
        rw [h3]
        refine Iff.trans ?_ (Iff.symm (or_iff_left (fun z => by cases z.1)))
        refine ⟨fun hz => ?_, fun ⟨hz, hne⟩ => ?_⟩
        · obtain ⟨z0, hz0, e⟩ := List.mem_map.mp hz
          obtain ⟨g1, g2⟩ := List.mem_filter.mp hz0
          rw [← e]
          refine ⟨List.mem_map.mpr ⟨z0, g1, rfl⟩, fun e2 => ?_⟩
          have g2' : (!decide (z0.2 = (min x y, max x y))) = true := g2
          rw [decide_eq_true e2] at g2'
          cases g2'
        · obtain ⟨z0, hz0, e⟩ := List.mem_map.mp hz
          refine List.mem_map.mpr ⟨z0, List.mem_filter.mpr ⟨hz0, ?_⟩, e⟩
          show (!decide (z0.2 = (min x y, max x y))) = true
          rw [decide_eq_false (by rw [e]; exact hne)]
          rfl
end
end K0
set_option Elab.async false
set_option linter.all false
set_option maxRecDepth 100000
set_option maxHeartbeats 4000000
namespace K0
open PySem PySem.Spec PyProof.Rows L2
section
variable {X : Cx} {o e : Expr} {es : List Expr} {to : TE} {t : TA} {apos cpos : Pos}
/-- t.index(k), k in t -/
def tTIx (to : TE) (t : TA) : TE := fun σ H Q => to σ H fun x H1 => ∃ l ns, x = V.ref l ∧ TupF H1 l ns ∧ t σ H1 fun xs H2 => ∃ k, xs = [V.int k] ∧ k ∈ ns ∧ TupF H2 l ns ∧ Q (.int ((ns.idxOf k : Nat) : Int)) H2
theorem pe_tix (ho : PE X o to) (ha : PA X (e :: es) t)
    (hbase : attributeBase o "index" X.env (eval o X.env) = eval o X.env := by rfl)
    (hfew : ((backTo cpos (starEach (e :: es) X.env)).all (fun x => !x.1) && (backToKw cpos (keywordEach [] X.env)).all (fun x => x.1.isSome)
      && decide ((e :: es).length + ([] : List Keyword).length + (if ([] : List Keyword).isEmpty then 0 else 1) < 30)) = true := by rfl)
    (hline : (apos.endLine == cpos.line) = true := by rfl) (hs : starEach (e :: es) X.env = (false, eval e X.env) :: starEach es X.env := by rfl) (hplain : (backTo cpos (starEach es X.env)).any (·.1) = false := by rfl) :
    PE X (.Call (.Attribute o "index" apos) (e :: es) [] cpos) (tTIx to t) := by
  refine ⟨fun pins s σ H Q I h => ?_⟩
  refine wpAny_Call_method_late hbase hfew hline rfl (thn (ho.run pins s σ H _ I h) fun v s1 ⟨x, H1, I1, r1, l, ns, ex, ⟨ob, hl, hd⟩, q1⟩ => ?_)
  subst ex
  cases r1
  have g1 := (show ObjOk X.prog X.w H1 s1.heap l (.frz ob (.tup (ns.map V.int))) from I1.hok l _ hl)
  obtain ⟨gob, _, its, rv, gt⟩ := g1
  have gT : s1.heap.IsTuple l its.toArray := gt
  obtain ⟨ob2, ho2, hc2, _⟩ := id gT
  refine ⟨"tuple", "tuple.index", PySem.F.plainAttrs_tuple, PySem.F.slot_tuple_index, PySem.F.type_tuple_index, ⟨ob2, ho2, hc2⟩, (fun z hz => by cases hz; exact ⟨ob, gob, hd⟩), ?_⟩
  have hA := ha.run cpos pins s1 σ H1 _ I1 q1
  rw [hs] at hA ⊢
  refine Calls.callWith_builtin (by show (false || (backTo cpos (starEach es X.env)).any (·.1)) = false; rw [hplain] <;> rfl) (Calls.evalArgs_plain ?_)
  refine thn hA fun us s2 ⟨vs, H2, I2, r2, k, ek, hk, hF2, q2⟩ => ?_
  subst ek
  obtain ⟨u, rfl, tt, rfl⟩ := vals1 r2
  obtain ⟨its2, rv2, p2, hz2⟩ := I2.tuple (hF2.sq (K := X.K))
  exact PySem.SeqAt.tuple_index_ints (show s2.heap.IsTuple l its2.toArray from p2) rv2.ints hk ⟨.int _, H2, I2.tok _, ⟨_, rfl⟩, q2⟩
end
theorem fwG_good {n : Int} : ∀ {ns sn : List Int}, Good n (sn ++ ns) → fwG n (ns.map PyData.int) sn = none
  | [], _, _ => rfl
  | i :: ns, sn, h => by
    have hi := h.rng i (List.mem_append_right _ List.mem_cons_self)
    have nd := List.nodup_append.mp h.nd
    have e : okAt n sn (.int i) = true := decide_eq_true ⟨hi.1, hi.2, fun m => nd.2.2 i m i List.mem_cons_self rfl⟩
    rw [List.map_cons, fwG, e, if_pos rfl]
    refine fwG_good (sn := sn ++ [i]) ?_
    rw [List.append_assoc]
    exact h
theorem asc_unique : ∀ {l m : List Int}, l.Pairwise (· < ·) → m.Pairwise (· < ·) → (∀ x, x ∈ l ↔ x ∈ m) → l = m
  | [], [], _, _, _ => rfl
  | [], b :: m, _, _, h => by cases (h b).mpr List.mem_cons_self
  | a :: l, [], _, _, h => by cases (h a).mp List.mem_cons_self
  | a :: l, b :: m, hl, hm, h => by
    obtain ⟨al, ll⟩ := List.pairwise_cons.mp hl
    obtain ⟨bm, mm⟩ := List.pairwise_cons.mp hm
    have e : a = b := by
      rcases List.mem_cons.mp ((h a).mp List.mem_cons_self) with e | e
      · exact e
      rcases List.mem_cons.mp ((h b).mpr List.mem_cons_self) with e2 | e2
      · exact e2.symm
      have h1 := al b e2
      have h2 := bm a e
      omega
    subst e
    rw [asc_unique ll mm fun x => ⟨fun hx => ?_, fun hx => ?_⟩]
    · rcases List.mem_cons.mp ((h x).mp (List.mem_cons_of_mem _ hx)) with e | e
      · rw [e] at hx
        have := al a hx
        omega
      · exact e
    · rcases List.mem_cons.mp ((h x).mpr (List.mem_cons_of_mem _ hx)) with e | e
      · rw [e] at hx
        have := bm a hx
        omega
      · exact e
theorem inV_ints (x : Int) (ns : List Int) : inV (V.int x) (ns.map V.int) = decide (x ∈ ns) := by
  unfold inV
  induction ns with
  | nil => rfl
  | cons n ns ih =>
    rw [List.map_cons, List.any_cons, ih]
    have : eqV (V.int n) (V.int x) = decide (n = x) := rfl
    by_cases e : n = x
    · subst e; simp [this]
    · rw [this, decide_eq_false e, Bool.false_or]
      have : ¬ x = n := fun z => e z.symm
      simp [this]
end K0
set_option Elab.async false
set_option linter.all false
set_option maxRecDepth 100000
set_option maxHeartbeats 4000000
namespace K0
open PySem PySem.Spec PyProof.Rows L2
section
variable {P : Program} {w : World} {K : PySem.W.Frag} {mg : Str → Option Value} {base : Heap} {f : Addr} {fd : FuncData}
/-- part, of a list that is a set of things in order -/
def partIn (ns : List Int) (q : List Pr) (z : Pr) : Prop := ∃ y ∈ q, y.1 ∈ ns ∧ y.2 ∈ ns ∧ z = (((ns.idxOf y.1 : Nat) : Int), ((ns.idxOf y.2 : Nat) : Int))
def spPt (C : Addr) : Sp := fun vs H Q _ => ∃ (p a : Addr) (n : Int) (q : List Pr) (ns : List Int), vs = [.ref p, .ref a] ∧ WebAt C H p n q ∧ H a = some (.lst (ns.map V.int)) ∧ Good n ns ∧ ns.Pairwise (· < ·) ∧
  ∀ q', Cl ns.length q' → (∀ z : Pr, z ∈ q' ↔ partIn ns q z) → ∀ H' r, Same H H' → H r = none → WebAt C (New H H') r ns.length q' → Q (.ref r) H'
theorem sc_pt : FnScope ["self", "things", "kept", "pairs", "x", "y"] ["self", "things"] (defScope (s_w 4)) := ⟨rfl, rfl, rfl, by decide +kernel, rfl, by decide +kernel, by decide +kernel⟩
theorem idx_lt {ns : List Int} (h : ns.Pairwise (· < ·)) {x y : Int} (hx : x ∈ ns) (hy : y ∈ ns) (l : x < y) : ns.idxOf x < ns.idxOf y := by
  have ix := List.idxOf_lt_length_iff.mpr hx
  have iy := List.idxOf_lt_length_iff.mpr hy
  rcases Nat.lt_trichotomy (ns.idxOf x) (ns.idxOf y) with c | c | c
  · exact c
  · have e1 := List.getElem_idxOf ix
    have e2 := List.getElem_idxOf iy
    simp only [c] at e1
    rw [e1] at e2
    omega
  · have := List.pairwise_iff_getElem.mp h _ _ iy ix c
    rw [List.getElem_idxOf, List.getElem_idxOf] at this
    omega
theorem ok_pt {C CN CW CP : Addr} (F : Fun K "part" "Web.part" (s_w 4) f fd) (B : Blt2 mg) (T : WebC K C) (WK : WebK P w K mg base C CN CW) (CS : Df P w K mg base "check_things" 4 ["many", "things"] (spCs K CP)) :
    FnOk P w K mg base (L2.CX P w) 6 f fd ["self", "things"] (spPt C) := by
  refine F.okX sc_pt (fun vs H Q E h => ?_) (fun cdv A outer s H vs Q E hr h => ?_)
  · obtain ⟨p, a, n, q, ns, rfl, _⟩ := h
    rfl
  · obtain ⟨p, a, n, q, ns, rfl, W, ha, gd, srt, k⟩ := h
    obtain ⟨⟨ddx, c, m, l0, h1, h2, h3, h4, h5⟩, cl, n0, n8⟩ := id W
    have nd := sc_pt.nd
    have hu := hr.units
    have hr4 : Room 4 _ := hr.mono (by decide)
    refine ⟨_, pss_cons (ps_set (i := 2) nd rfl (.inr rfl) (pe_df CS hr4 (by rfl) passUp (pa_cons (pe_fld (pv 0) rfl) (pa_cons (pv 1) pa_nil))))
      (pss_cons (ps_setLc (i := 3) (own := [("x", 4), ("y", 5)]) (g := gTup K 2 (gCons (gName 4) (gCons (gName 5) gNil))) (tt := tAnd (tTest (tOp (rIn K false) (tVar 4) (tVar 2))) (tTest (tOp (rIn K false) (tVar 5) (tVar 2))))
          (te := tTup (tCons (tTIx (tVar 2) (tCons (tVar 4) tNil)) (tCons (tTIx (tVar 2) (tCons (tVar 5) tNil)) tNil))) rfl nd rfl (by rfl) (by rfl) (pi_tup (pe_fld (pv 0) rfl))
        (blkOk_by (N := ["self", "things", "kept", "pairs", "x", "y"]) (sc := defScope (s_w 4)) (by decide +kernel)) (fun _ _ _ _ _ => pg_tup rfl (pgs_cons (pg_name (i := 4) nd rfl (.inl rfl)) (pgs_cons (pg_name (i := 5) nd rfl (.inl rfl)) pgs_nil)))
        (fun _ _ _ _ _ => pts_one (PW.pt (pw_and (pt_cmpR op_in_seq (pv 4) (pv 2) (by rfl)) (pw_and1 (pt_cmpR op_in_seq (pv 5) (pv 2) (by rfl))))))
        (fun _ _ _ _ _ => pe_tup (pa_cons (pe_tix (pv 2) (pa_cons (pv 4) pa_nil)) (pa_cons (pe_tix (pv 2) (pa_cons (pv 5) pa_nil)) pa_nil))))
      (pss_one (ps_ret (pe_web WK hr (by rfl) passUp (pa_cons (pe_callB call_len_seq (by rfl) B.len PySem.boot_len (pa_cons (pv 2) pa_nil)) (pa_cons (pv 3) pa_nil)))))), ?_⟩
    have ds := DtAll.ints H ns
    refine ⟨_, rfl, p, C, ddx, _, _, rfl, h1, T.cl, T.nm, wf_many _ _ _, _, rfl, n, a, _, rfl, by omega, .lst ha ds, fun _ => ⟨⟨_, ha, ds⟩, fun H1 t ns' s1 nt hF srt' mem => ?_⟩, fun i e => ?_⟩
    case refine_2 =>
      rw [fwG_good (sn := []) gd] at e
      cases e
    have ens : ns' = ns := asc_unique srt' srt fun x => by
      rw [mem]
      simp
    subst ens
    refine ⟨_, rfl, p, C, ddx, _, _, rfl, s1 _ _ h1, T.cl, T.nc, wf_clashes _ _ _, c, rfl, ⟨_, SqT.of (s1 _ _ h2)⟩, fun D nD => ?_⟩
    have hp0 : PrsAt H l0 := h4
    have few : l0.length ≤ 28 := by
      have := W.cl.few W.n8
      rw [h3, List.length_map] at this
      exact this
    let good : Pr → Bool := fun z => decide (z.1 ∈ ns') && decide (z.2 ∈ ns')
    let ix : Pr → Pr := fun z => (((ns'.idxOf z.1 : Nat) : Int), ((ns'.idxOf z.2 : Nat) : Int))
    refine lc_it (walk_tup (K := K) (a := c) (xs := l0.map fun z => V.ref z.1)) (fun i H' => Same H1 H' ∧ ∃ l : List (Addr × Pr), H' D = some (.lst (l.map fun z => V.ref z.1)) ∧ l.map (·.2) = ((q.take i).filter good).map ix ∧ PrsAt H' l)
      ⟨same_upd nD, [], upd_same, rfl, fun z hz => by cases hz⟩ (fun i H' _ z => SqT.of (z.1 _ _ (s1 _ _ h2))) (fun i v H' H2 hi z y => ?_) (fun H' z => ?_)
    · obtain ⟨rfl, hv⟩ := y
      obtain ⟨sm, l, hD, el, hp⟩ := z
      rw [List.getElem?_map] at hv
      obtain ⟨z0, hz0, rfl⟩ := Option.map_eq_some_iff.mp hv
      have hq0 : q[i]? = some z0.2 := by rw [h3, List.getElem?_map, hz0]; rfl
      have mem0 := List.mem_of_getElem? hz0
      have hz1 := (hp0.mono (s1.trans sm)) z0 mem0
      obtain ⟨b0, x0, y0⟩ := z0
      dsimp only at hz1 hq0
      have hF2 := hF.mono sm
      have fl : (ns'.map V.int).all flatV = true := List.all_eq_true.mpr fun v hv => by
        obtain ⟨_, _, rfl⟩ := List.mem_map.mp hv
        rfl
      have lenL : l.length ≤ 28 := by
        have e := congrArg List.length el
        rw [List.length_map, List.length_map] at e
        have g1 := List.length_filter_le good (q.take i)
        rw [List.length_take] at g1
        have := W.cl.few W.n8
        omega
      refine ⟨b0, _, rfl, SqT.of hz1, rfl, _, _, rfl, _, _, rfl, rfl, rfl, ?_⟩
      refine ⟨_, rfl, _, rfl, t, _, rfl, .inr hF2.sq, rfl, fl, _, rfl, ?_⟩
      rw [if_neg Bool.false_ne_true, inV_ints]
      have take1 : (q.take (i + 1)).filter good = (q.take i).filter good ++ (if good (x0, y0) = true then [(x0, y0)] else []) := by
        rw [take_at hq0, List.filter_append]
        congr 1
        cases e : good (x0, y0) <;> simp [e]
      by_cases mx : x0 ∈ ns'
      · rw [decide_eq_true mx]
        refine iteT ⟨_, rfl, _, rfl, t, _, rfl, .inr hF2.sq, rfl, fl, _, rfl, ?_⟩
        rw [if_neg Bool.false_ne_true, inV_ints]
        by_cases my : y0 ∈ ns'
        · rw [decide_eq_true my]
          have eg : good (x0, y0) = true := by
            show (decide (x0 ∈ ns') && decide (y0 ∈ ns')) = true
            rw [decide_eq_true mx, decide_eq_true my]
            rfl
          rw [eg, if_pos rfl] at take1
          refine iteT ⟨_, rfl, t, ns', rfl, hF2, _, rfl, x0, rfl, mx, hF2, _, rfl, t, ns', rfl, hF2, _, rfl, y0, rfl, my, hF2, (by show 2 ≤ sizeLine; decide), fun u nu => ?_⟩
          have s2 : Same H2 (upd H2 u (.tup [.int ((ns'.idxOf x0 : Nat) : Int), .int ((ns'.idxOf y0 : Nat) : Int)])) := same_upd nu
          refine ⟨_, s2 _ _ hD, by rw [List.length_map, sizeLine_eq]; omega, fun b o e => ?_, l ++ [(u, ix (x0, y0))], ?_, ?_, fun z hz => ?_⟩
          · rw [upd_ne (ne_of_none e nD)]
            exact s2 _ _ (sm _ _ e)
          · rw [upd_same, List.map_append]
            rfl
          · rw [List.map_append, el, take1, List.map_append]
            rfl
          · have hz2 : (upd H2 u (.tup [.int ((ns'.idxOf x0 : Nat) : Int), .int ((ns'.idxOf y0 : Nat) : Int)])) z.1 = some (.tup [.int z.2.1, .int z.2.2]) := by
              rcases List.mem_append.mp hz with hz | hz
              · exact s2 _ _ (hp z hz)
              · rw [List.mem_singleton.mp hz]
                exact upd_same
            have zD : z.1 ≠ D := fun e => by
              rw [e, s2 _ _ hD] at hz2
              cases hz2
            rw [upd_ne zD]
            exact hz2
        · rw [decide_eq_false my]
          have eg : good (x0, y0) = false := by
            show (decide (x0 ∈ ns') && decide (y0 ∈ ns')) = false
            rw [decide_eq_true mx, decide_eq_false my]
            rfl
          rw [eg, if_neg Bool.false_ne_true, List.append_nil] at take1
          exact iteF ⟨sm, l, hD, by rw [take1]; exact el, hp⟩
      · rw [decide_eq_false mx]
        have eg : good (x0, y0) = false := by
          show (decide (x0 ∈ ns') && decide (y0 ∈ ns')) = false
          rw [decide_eq_false mx]
          rfl
        rw [eg, if_neg Bool.false_ne_true, List.append_nil] at take1
        exact iteF (iteF ⟨sm, l, hD, by rw [take1]; exact el, hp⟩)
    · obtain ⟨sm, l, hD, el, hp⟩ := z
      have el0 : (l0.map fun z => V.ref z.1).length = q.length := by rw [h3, List.length_map, List.length_map]
      rw [el0, List.take_length] at el
      have s12 := s1.trans sm
      refine ⟨_, rfl, t, _, rfl, .inr (hF.mono sm).sq, ?_⟩
      have dt : DtAll H' (l.map fun z => V.ref z.1) ((l.map (·.2)).map prD) := by
        rw [List.map_map]
        exact dtAll_prs hp
      have rng : ∀ z ∈ l.map (·.2), 0 ≤ z.1 ∧ z.1 < z.2 ∧ z.2 < (ns'.length : Int) := fun z hz => by
        rw [el] at hz
        obtain ⟨y, hy, rfl⟩ := List.mem_map.mp hz
        obtain ⟨hy1, hy2⟩ := List.mem_filter.mp hy
        obtain ⟨g1, g2⟩ := Bool.and_eq_true_iff.mp (show (decide (y.1 ∈ ns') && decide (y.2 ∈ ns')) = true from hy2)
        have r := cl.rng y hy1
        have := idx_lt srt (of_decide_eq_true g1) (of_decide_eq_true g2) r.2.1
        have := List.idxOf_lt_length_iff.mpr (of_decide_eq_true g2)
        show 0 ≤ ((ns'.idxOf y.1 : Nat) : Int) ∧ ((ns'.idxOf y.1 : Nat) : Int) < ((ns'.idxOf y.2 : Nat) : Int) ∧ ((ns'.idxOf y.2 : Nat) : Int) < (ns'.length : Int)
        omega
      have len8 : (ns'.length : Int) ≤ 8 := by
        have := len_sub ns' ((List.range 8).map fun (k : Nat) => (k : Int)) gd.nd fun k hk => by
          obtain ⟨a, b⟩ := gd.rng k hk
          exact List.mem_map.mpr ⟨k.toNat, List.mem_range.mpr (by omega), by omega⟩
        rw [List.length_map, List.length_range] at this
        omega
      rw [List.length_map]
      refine ⟨_, rfl, D, .int (ns'.length : Int), .int (ns'.length : Int), _, rfl, .int _, .lst hD dt, fun z => ?_, fun n' e h0 => ?_⟩
      · have z' : ¬ ((0 : Int) ≤ (ns'.length : Int)) := of_decide_eq_false z
        omega
      · cases e
        refine ⟨len8, fun ps hps q' hq' hm H5 r' s5 nr W' => ?_, fun x y hxy => ?_⟩
        · rw [entsOf_prs rng] at hps
          cases hps
          refine k q' hq' (fun z => ?_) H5 r' (s12.trans s5) (s12.free nr) (W'.mono (new_mono (fun b e1 _ => s12.free e1) (Same.refl _)))
          rw [hm, el]
          refine ⟨fun hz => ?_, fun hz => ?_⟩
          · obtain ⟨y, hy, e⟩ := List.mem_map.mp hz
            obtain ⟨hy1, hy2⟩ := List.mem_filter.mp hy
            obtain ⟨g1, g2⟩ := Bool.and_eq_true_iff.mp (show (decide (y.1 ∈ ns') && decide (y.2 ∈ ns')) = true from hy2)
            exact ⟨y, hy1, of_decide_eq_true g1, of_decide_eq_true g2, e.symm⟩
          · obtain ⟨y, hy1, g1, g2, e⟩ := hz
            refine List.mem_map.mpr ⟨y, List.mem_filter.mpr ⟨hy1, ?_⟩, e.symm⟩
            show (decide (y.1 ∈ ns') && decide (y.2 ∈ ns')) = true
            rw [decide_eq_true g1, decide_eq_true g2]
            rfl
        · rw [entsOf_prs rng] at hxy
          cases hxy
end
end K0
set_option Elab.async false
set_option linter.all false
set_option maxRecDepth 100000
set_option maxHeartbeats 4000000
namespace K0
open PySem PySem.Spec PyProof.Rows L2
section
variable {P : Program} {w : World} {K : PySem.W.Frag} {mg : Str → Option Value} {base : Heap} {f : Addr} {fd : FuncData}
def others (m : Nat) (x : Int) : List Int := ((List.range m).filter fun (k : Nat) => !decide ((k : Int) = x)).map fun (k : Nat) => (k : Int)
theorem others_asc (m : Nat) (x : Int) : (others m x).Pairwise (· < ·) := by
  unfold others
  refine List.pairwise_map.mpr (List.Pairwise.imp (fun {a b} h => Int.ofNat_lt.mpr h) (List.Pairwise.filter _ List.pairwise_lt_range))
theorem mem_others {m : Nat} {x k : Int} : k ∈ others m x ↔ (0 ≤ k ∧ k < m) ∧ k ≠ x := by
  unfold others
  constructor
  · intro h
    obtain ⟨j, hj, rfl⟩ := List.mem_map.mp h
    obtain ⟨h1, h2⟩ := List.mem_filter.mp hj
    have := List.mem_range.mp h1
    refine ⟨by omega, fun e => ?_⟩
    rw [decide_eq_true e] at h2
    cases h2
  · rintro ⟨h, ne⟩
    refine List.mem_map.mpr ⟨k.toNat, List.mem_filter.mpr ⟨List.mem_range.mpr (by omega), ?_⟩, by omega⟩
    rw [decide_eq_false (by omega)]
    rfl
theorem others_len {m : Nat} {x : Int} (h : 0 ≤ x ∧ x < m) : ((others m x).length : Int) = (m : Int) - 1 := by
  have nd : ((List.range m).map fun (k : Nat) => (k : Int)).Nodup := by
    refine List.pairwise_map.mpr (List.Pairwise.imp (fun {a b} h => ?_) List.nodup_range)
    omega
  have e : others m x = ((List.range m).map fun (k : Nat) => (k : Int)).erase x := by
    rw [nd.erase_eq_filter]
    unfold others
    rw [List.filter_map]
    rfl
  rw [e, List.length_erase_of_mem (List.mem_map.mpr ⟨x.toNat, List.mem_range.mpr (by omega), by omega⟩)]
  rw [List.length_map, List.length_range]
  omega
/-- without -/
def spWo (C CT : Addr) : Sp := fun vs H Q E => ∃ (p : Addr) (vx : V) (dx : PyData) (n : Int) (q : List Pr), vs = [.ref p, vx] ∧ WebAt C H p n q ∧ Dt H vx dx ∧
  (isTh n dx = false → Rz CT [("thing", vx)] H E) ∧
  ∀ x : Int, dx = .int x → (0 ≤ x ∧ x < n) → ∀ q', Cl (n - 1) q' → (∀ z : Pr, z ∈ q' ↔ partIn (others n.toNat x) q z) → ∀ H' r, Same H H' → H r = none → WebAt C (New H H') r (n - 1) q' → Q (.ref r) H'
theorem sc_wo : FnScope ["self", "x", "thing"] ["self", "x"] (defScope (s_w 5)) := ⟨rfl, rfl, rfl, by decide +kernel, rfl, by decide +kernel, by decide +kernel⟩
theorem ok_wo {C CT : Addr} (F : Fun K "without" "Web.without" (s_w 5) f fd) (B : Blt2 mg) (T : WebC K C) (CH : Df P w K mg base "check_thing" 3 ["many", "thing"] (spCt CT)) (PT : Mt P w K mg base C "part" 6 ["self", "things"] (spPt C)) :
    FnOk P w K mg base (L2.CX P w) 7 f fd ["self", "x"] (spWo C CT) := by
  refine F.okX sc_wo (fun vs H Q E h => ?_) (fun cdv A outer s H vs Q E hr h => ?_)
  · obtain ⟨p, vx, dx, n, q, rfl, _⟩ := h
    rfl
  · obtain ⟨p, vx, dx, n, q, rfl, W, hx, k1, k2⟩ := h
    obtain ⟨⟨ddx, c, m, l0, h1, h2, h3, h4, h5⟩, cl, n0, n8⟩ := id W
    have nd := sc_wo.nd
    have hr3 : Room 3 _ := hr.mono (by decide)
    refine ⟨_, pss_cons (ps_expr (pe_df CH hr3 (by rfl) passUp (pa_cons (pe_fld (pv 0) rfl) (pa_cons (pv 1) pa_nil))))
      (pss_one (ps_ret (pe_mt1 PT hr passUp (pv 0) (pa_cons (pe_lc (own := [("thing", 2)]) (g := gName 2) (tt := tTest (tOp rNe (tVar 2) (tVar 1))) (te := tVar 2) rfl nd (pi_range1 (by rfl) B.range (pa_cons (pe_fld (pv 0) rfl) pa_nil))
        (blkOk_by (N := ["self", "x", "thing"]) (sc := defScope (s_w 5)) (by decide +kernel)) (fun _ _ _ _ _ => pg_name (i := 2) nd rfl (.inl rfl)) (fun _ _ _ _ _ => pts_one (pt_cmpR op_ne (pv 2) (pv 1) (by rfl))) (fun _ _ _ _ _ => pv 2)) pa_nil)))), ?_⟩
    refine ⟨_, rfl, p, C, ddx, _, _, rfl, h1, T.cl, T.nm, wf_many _ _ _, _, rfl, n, vx, dx, rfl, hx, fun t1 H1 s1 => ?_, k1⟩
    obtain ⟨x, rfl, rfl, hx0⟩ := th_int hx t1
    refine ⟨_, rfl, p, ddx, _, rfl, s1 _ _ h1, wf_no _ _ _ (by decide +kernel) (by decide +kernel) (by decide +kernel), ?_⟩
    refine ⟨_, rfl, p, C, ddx, _, _, rfl, s1 _ _ h1, T.cl, T.nm, wf_many _ _ _, n, rfl, by omega, by omega, fun D nD => ?_⟩
    let ok : Nat → Bool := fun k => !decide ((k : Int) = x)
    refine lc_range (lo := 0) (n := n.toNat) (fun i H' => Same H1 H' ∧ H' D = some (.lst (nvs (((List.range n.toNat).take i).filter ok)))) ⟨same_upd nD, upd_same⟩ (fun i H' hi ⟨sm, hD⟩ => ?_) (fun H' ⟨sm, hD⟩ => ?_)
    · refine ⟨rfl, ?_⟩
      rw [Int.zero_add]
      refine ⟨_, rfl, _, rfl, rfl, _, rfl, ?_⟩
      rw [dec_int]
      cases e : ok i with
      | false =>
        have e' : (!decide ((i : Int) = x)) = false := e
        rw [show (!((i : Int) == x)) = false from e']
        refine iteF ⟨sm, ?_⟩
        rw [filter_take _ _ hi, e]
        simpa using hD
      | true =>
        have e' : (!decide ((i : Int) = x)) = true := e
        rw [show (!((i : Int) == x)) = true from e']
        refine iteT ⟨_, rfl, _, hD, ?_, fun b o eb => ?_, ?_⟩
        · rw [nvs_len, sizeLine_eq]
          have g1 := List.length_filter_le ok ((List.range n.toNat).take i)
          rw [List.length_take, List.length_range] at g1
          omega
        · rw [upd_ne (ne_of_none eb nD)]
          exact sm _ _ eb
        · rw [upd_same, filter_take _ _ hi, e]
          unfold nvs
          rw [List.map_append]
          rfl
    · rw [List.take_of_length_le (by rw [List.length_range]; exact Nat.le_refl _)] at hD
      have eD : nvs ((List.range n.toNat).filter ok) = (others n.toNat x).map V.int := by
        unfold nvs others
        rw [List.map_map]
        rfl
      rw [eD] at hD
      have s12 := s1.trans sm
      have el := others_len (m := n.toNat) (x := x) (by omega)
      have en : ((others n.toNat x).length : Int) = n - 1 := by omega
      refine ⟨p, D, n, q, others n.toNat x, rfl, W.mono s12, hD, ⟨List.Pairwise.imp (fun {a b} h => by omega) (others_asc _ _), fun k hk => ?_⟩, others_asc _ _, fun q' hq' hm H5 r' s5 nr W' => ?_⟩
      · have := mem_others.mp hk
        omega
      · rw [en] at hq' W'
        exact k2 x rfl hx0 q' hq' hm H5 r' (s12.trans s5) (s12.free nr) (W'.mono (new_mono (fun b e1 _ => s12.free e1) (Same.refl _)))
end
end K0
set_option Elab.async false
set_option linter.all false
set_option maxRecDepth 100000
set_option maxHeartbeats 4000000
namespace K0
open PySem PySem.Spec PyProof.Rows L2
/-! ### list(o), where o's __iter__ gives a tuple's iterator and its __len__ a number -/
def TItO (c it : Addr) (i : Nat) : HO := .ext fun h => h.IsTupleIter it c i
theorem titO_ok {P : Program} {w : World} {H : Hp} {h : Heap} {c it : Addr} {i : Nat} (e : h.IsTupleIter it c i) : ObjOk P w H h it (TItO c it i) := by
  obtain ⟨o, ho, r⟩ := id e
  exact ⟨e, ⟨o, ho⟩, fun h1 h2 q k => q.at fun o z => k o z⟩
def AnyO (it : Addr) : HO := .ext fun h => ∃ o, h.get? it = some o
theorem anyO_ok {P : Program} {w : World} {H : Hp} {h : Heap} {it : Addr} (e : ∃ o, h.get? it = some o) : ObjOk P w H h it (AnyO it) := ⟨e, e, fun h1 h2 ⟨o, z⟩ k => ⟨o, k o z⟩⟩
section
variable {prog : Program} {w : World} {A : Around} {E : Value → Shared → Prop} {s : Shared}
theorem callIterT {l : Addr} {items : Array Value} {Q : Value → Shared → Prop} (hl : s.heap.IsTuple l items) (h : Q (.ref s.heap.objs.size) { s with heap := s.heap.push { cls := .type "tuple_iterator", data := .fields #[.ref l, .int 0 0] } }) :
    wpAny (model prog w) A (call (.builtin "iter") [.ref l]) Q E s := by
  refine Calls.call_function_entry (by decide +kernel) (by decide +kernel) PySem.W.kdk_entry_iter (PySem.W.kdk_args_iter _) ?_
  unfold Builtin.«iter»
  refine wpAny_bind (m := someArgs "iter" 1 2 _) (wpAny_of_eq (a := [Value.ref l]) (by first | rfl | kernel_rfl!) ?_)
  show wpAny _ _ (pyIter (.ref l) >>= _) _ _ _
  exact wpAny_bind (wpAny_pyIter_tuple hl (wpAny_pure ⟨_, rfl, h⟩))
theorem nextEndT {it t : Addr} {i : Nat} {items : Array Value} {Q : Option Value → Shared → Prop} (hh : A.handled = none)
    (hit : s.heap.IsTupleIter it t i) (ht : s.heap.IsTuple t items) (hx : items[i]? = none)
    (hQ : ∀ h', Heap.ExtBut it s.heap h' → (∃ u, h'.get? it = some u) → Q none { s with heap := h' }) : wpAny (model prog w) A (pyNext (.ref it)) Q E s := by
  obtain ⟨o, ho, hc, hd⟩ := id hit
  obtain ⟨ol, hol, _, nl, hdl⟩ := ht
  unfold pyNext
  refine wpAny_bind (wpAny_attempt (wpAny_callSpecial?_slot (name := Str.ofString "__next__") hit.typeIs F.slot_tuple_iterator_next
    (wpAny_call_entry F.slot_tuple_iterator_next hit.typeIs F.entry_tuple_iterator_next ?_ (F.args_tuple_iterator_next_1 _))))
  show wpAny _ _ (field (.ref it) 0 >>= _) _ _ s
  refine wpAny_bind (wpAny_field ho hd (x := .ref t) rfl ?_)
  show wpAny _ _ (if (Value.ref t == Value.none) = true then _ else _) _ _ s
  rw [if_neg (show ¬ ((Value.ref t == Value.none) = true) from Bool.false_ne_true)]
  show wpAny _ _ (field (.ref it) 1 >>= _) _ _ s
  refine wpAny_bind (wpAny_field ho hd (x := .int i 0) rfl ?_)
  show wpAny _ _ (seqItems? (.ref t) >>= _) _ _ s
  refine wpAny_bind (wpAny_seqItems hol hdl ?_)
  simp only [Int.toNat_natCast, hx]
  refine wpAny_bind (wpAny_rule (wpAny_bind (wpAny_setField ho hd (by simp) ?_)))
  show wpAny _ _ (newExc (.type "StopIteration") [] >>= _) _ _ _
  refine wpAny_bind ?_
  simp only [newExc, newTuple]
  refine wpAny_bind (wpAny_newObj_type ?_ (by size_fits))
  refine wpAny_bind (m := firstArgMember _ _) (wpAny_of_eq (a := Value.none) (by first | rfl | (simp only [firstArgMember]; rfl)) ?_)
  refine wpAny_newObj_type ?_ (by size_fits)
  simp only [raiseNew]
  refine wpAny_bind (wpAny_handled ?_)
  first | rw [show A.in1.handled = none from hh] | rw [hh]
  refine wpAny_bind (wpAny_pure (wpAny_throw ?_))
  refine wpAny_bind (wpAny_isInstance (T := "StopIteration") (b := true) ⟨_, Heap.get?_push_size _ rfl, rfl⟩ isSubtype_stop ?_)
  refine wpAny_pure (hQ _ (((Heap.SameBut.update ..).extBut.push _).push _) ⟨_, Heap.get?_push_of_some _ (Heap.get?_push_of_some _ (Heap.get?_update_self _ ho (Obj.isFreed_of_fields (Obj.data_mapFields hd _))))⟩)
end
section
variable {X : Cx}
theorem cr_iterT : CallR X (.builtin "iter") (fun xs H Q => ∃ l zs, xs = [.ref l] ∧ SqT X.K H l zs ∧ ∀ it, H it = none → Q (.ref it) (upd H it (TItO l it 0))) := by
  intro pins s σ H xs us Q I r h
  obtain ⟨l, zs, rfl, hq, q⟩ := h
  obtain ⟨u, rfl, ru⟩ := vals1 r
  cases ru
  obtain ⟨its, rv, pl, hz⟩ := I.tuple hq
  refine callIterT (show s.heap.IsTuple l its.toArray from pl) ?_
  exact ⟨.ref s.heap.objs.size, _, I.laid (t' := s.toks) (fun b u e => Heap.get?_push_of_some _ e) (Nat.le_refl _) (titO_ok ⟨_, Heap.get?_push_size _ rfl, rfl, rfl⟩), rfl, q _ (I.hok.fresh (Nat.le_refl _))⟩
variable {pins : List (Addr × Obj)} {σ : L2.St} {A1 : Around} {Rs : Result → Shared → Prop} {c it q : Addr} {xs : List V}
theorem loopT (hh : A1.handled = none) (hz : xs.length ≤ sizeLine) (ne1 : c ≠ it) (ne2 : c ≠ q) (ne3 : it ≠ q) : ∀ (k i : Nat) (H : Hp) (s : Shared), xs.length - i = k → i ≤ xs.length → Inv X pins σ H s → H it = some (TItO c it i) → H c = some (.tup xs) → H q = some (.lst (xs.take i)) →
    (∀ H' s', Inv X pins σ H' s' → (∀ b o, H b = some o → b ≠ it → b ≠ q → H' b = some o) → H' q = some (.lst xs) → Rs (.ok (.ret .none)) s') →
    codeAny (model X.prog X.w) A1 (.builtin "list.extend.loop" ⟨[.ref q, .ref it, .none], []⟩) Rs s := by
  intro k
  induction k with
  | zero =>
    intro i H s hk hi I hit hc hq fin
    have e : i = xs.length := by omega
    subst e
    obtain ⟨its, rv, p, hz'⟩ := I.tuple (SqT.of (K := X.K) hc)
    have st : s.heap.IsTupleIter it c xs.length := (I.hok it _ hit).1
    refine codeAny_builtin PySem.F.entry_extend_loop ?_
    rw [Around.under_plainId PySem.F.plain_extend_loop _]
    show wpAny _ A1.in1 (pyNext (.ref it) >>= _) _ _ s
    refine wpAny_bind (nextEndT (A := A1.in1) (show A1.in1.handled = none from hh) st (show s.heap.IsTuple c its.toArray from p) (by have := rv.length; simp; omega) fun h' eb ex => ?_)
    have I1 : Inv X pins σ (upd H it (AnyO it)) { s with heap := h' } := I.write (x := it) (e := it) (t' := s.toks) (by rw [hit]; exact True.intro) (.inl rfl) (fun b o nb z => eb b o nb z) ex (anyO_ok ex)
    refine wpAny_pure (fin _ _ I1 (fun b o e n1 n2 => by rw [upd_ne n1]; exact e) ?_)
    rw [upd_ne ne3.symm, hq, List.take_length]
  | succ k ih =>
    intro i H s hk hi I hit hc hq fin
    have hlt : i < xs.length := by omega
    obtain ⟨its, rv, p, hz'⟩ := I.tuple (SqT.of (K := X.K) hc)
    obtain ⟨u, hu, ru⟩ := rv.get (List.getElem?_eq_getElem hlt)
    have st : s.heap.IsTupleIter it c i := (I.hok it _ hit).1
    refine codeAny_builtin PySem.F.entry_extend_loop ?_
    rw [Around.under_plainId PySem.F.plain_extend_loop _]
    show wpAny _ A1.in1 (pyNext (.ref it) >>= _) _ _ s
    refine wpAny_bind (wpAny_pyNext_tuple_item st (show s.heap.IsTuple c its.toArray from p) (x := u) (by simpa using hu) fun h' st' sb => ?_)
    have I1 : Inv X pins σ (upd H it (TItO c it (i + 1))) { s with heap := h' } := I.write (x := it) (e := it) (t' := s.toks) (by rw [hit]; exact True.intro) (.inl rfl) (fun b o nb z => (sb.2 b nb).trans z) (let ⟨o, ho, _⟩ := st'; ⟨o, ho⟩) (titO_ok st')
    have hq1 : (upd H it (TItO c it (i + 1))) q = some (.lst (xs.take i)) := by rw [upd_ne ne3.symm]; exact hq
    obtain ⟨z, its2, n, r2, hl, e⟩ := I1.lstM hq1
    have l2 : its2.length = i := by rw [← hl, List.length_take]; omega
    show wpAny _ A1.in1 (updateSeq q (·.push u) >>= _) _ _ _
    have et : xs.take i ++ [xs[i]] = xs.take (i + 1) := by rw [List.take_succ, List.getElem?_eq_getElem hlt]; rfl
    refine wpAny_bind (wpAny_updateSeq e rfl (wpAny_pure ⟨plainId_quiet PySem.F.plain_extend_loop _, ?_⟩) (by rw [List.size_toArray]; omega) (by show (its2.toArray.push u).size ≤ sizeLine + 1; rw [Array.size_push, List.size_toArray]; omega))
    have I2 := I1.lset (f := (·.push u)) (its' := its2 ++ [u]) (t' := s.toks) hq1 e (by simp) (r2.append (.cons ru .nil)) (by rw [List.length_append, List.length_singleton, List.length_take]; omega)
    rw [et] at I2
    refine ih (i + 1) _ _ (by omega) (by omega) I2 (by rw [upd_ne ne3, upd_same]) (by rw [upd_ne ne2, upd_ne ne1]; exact hc) upd_same fun H' s' I' keep hq' => fin H' s' I' (fun b o eb n1 n2 => keep b o (by rw [upd_ne n2, upd_ne n1]; exact eb) n1 n2) hq'
end
end K0
set_option Elab.async false
set_option linter.all false
set_option maxRecDepth 100000
set_option maxHeartbeats 4000000
namespace K0
open PySem PySem.Spec PyProof.Rows L2
section
variable {X : Cx} {pins : List (Addr × Obj)} {σ : L2.St} {H : Hp} {s : Shared}
/-- a def that raises nothing -/
theorem run_any0 {A : Around} {n : Nat} {f : Addr} {fd : FuncData} {ps : List Str} {sp : Sp} {Q : VK} {vs : List V} {us : List Value} (sb : Sub X n A) (F : FnOk X.prog X.w X.K X.mg X.base (L2.CX X.prog X.w) n f fd ps sp) (hb : Binds X.K fd ps [])
    (I : Inv X pins σ H s) (r : Vals vs us) (h : sp vs H Q (fun _ _ _ => False)) : wpAny (model X.prog X.w) A (call (.ref f) us) (EP X pins σ Q) (fun _ _ => False) s := by
  have e0 : Env0 X.prog X.w X.K X.mg X.base A X.stack s H := by
    have e := I.env0
    exact ⟨by rw [sb.fr]; exact e.frames, e.mod, e.bs, e.bsz, e.funs, e.frf, e.hok, e.bare⟩
  have hl := F.len _ _ _ _ h
  have hl2 : us.length = ps.length := by rw [← hl, r.length]
  refine wpAny_call (codeAny_mono (F.run A X.stack s H ⟨us, []⟩ us vs Q _ sb.room e0 (by
    have := hb s us I.kIn (by simpa using hl2)
    simpa using this) r h) fun r s' hq => ?_)
  cases r with
  | error e =>
    obtain ⟨_, _, _, _, _, _, _, _, _, _, _, _, z⟩ := hq
    exact z.elim
  | ok fl =>
    cases fl with
    | ret w => exact I.after hq
    | next => exact False.elim hq
    | brk => exact False.elim hq
    | cont => exact False.elim hq
end
section
variable {P : Program} {w : World} {K : PySem.W.Frag} {mg : Str → Option Value} {base : Heap} {f : Addr} {fd : FuncData}
def spIr (C : Addr) : Sp := fun vs H Q _ => ∃ (p : Addr) (n : Int) (q : List Pr), vs = [.ref p] ∧ WebAt C H p n q ∧ ∀ H' it c xs, Same H H' → H it = none → H' it = some (TItO c it 0) → H' c = some (.tup xs) → DtAll H' xs (q.map prD) → Q (.ref it) H'
theorem sc_ir : FnScope ["self"] ["self"] (defScope (s_w 15)) := ⟨rfl, rfl, rfl, by decide +kernel, rfl, by decide +kernel, by decide +kernel⟩
theorem ok_ir {C : Addr} (F : Fun K "__iter__" "Web.__iter__" (s_w 15) f fd) (B : Blt2 mg) (T : WebC K C) : FnOk P w K mg base (L2.CX P w) 1 f fd ["self"] (spIr C) := by
  refine F.okX sc_ir (fun vs H Q E h => ?_) (fun cdv A outer s H vs Q E hr h => ?_)
  · obtain ⟨p, n, q, rfl, _⟩ := h
    rfl
  · obtain ⟨p, n, q, rfl, W, k⟩ := h
    obtain ⟨ddx, c, m, xs, h1, h2, h3⟩ := W.tuple
    refine ⟨_, pss_one (ps_ret (pe_callB cr_iterT (by rfl) B.iter (by decide +kernel) (pa_cons (pe_fld (pv 0) rfl) pa_nil))), ?_⟩
    refine ⟨_, rfl, p, C, ddx, _, _, rfl, h1, T.cl, T.nc, wf_clashes _ _ _, c, xs, rfl, SqT.of h2, fun it nit => ?_⟩
    have s1 : Same H (upd H it (TItO c it 0)) := same_upd nit
    exact k _ it c xs s1 nit upd_same (s1 _ _ h2) (h3.mono s1)
end
section
variable {X : Cx} {pins : List (Addr × Obj)} {σ : L2.St} {H : Hp} {s : Shared} {C : Addr}
/-- the number of things is asked for -/
theorem hintW {A1 : Around} {E : Value → Shared → Prop} {Q : Bool → Shared → Prop} {p : Addr} {n : Int} {q : List Pr} (LN : Mt X.prog X.w X.K X.mg X.base C "__len__" 1 ["self"] (spLn C)) (sb : Sub X 2 A1) (I : Inv X pins σ H s) (W : WebAt C H p n q)
    (h : ∀ b s', (∃ H', Same H H' ∧ Inv X pins σ H' s') → Q b s') : wpAny (model X.prog X.w) A1 (Builtin.List.listLengthHint (.ref p)) Q E s := by
  obtain ⟨f, fd, c, hm, hfn, _, hs, F, b⟩ := LN.ex
  obtain ⟨⟨ddx, cc, m, l0, h1, h2, h3, h4, h5⟩, cl, n0, n8⟩ := id W
  obtain ⟨mA, J, _⟩ := ins_get I.hok h1
  obtain ⟨od, J, _⟩ := J.look
  obtain ⟨mm, hF⟩ := I.fr
  unfold Builtin.List.listLengthHint
  refine wpAny_bind (wpAny_bind (J.type.here ((PySem.W.looks_findIn I.kIn hs).here ?_)))
  refine PySem.W.KFB.if_not rfl ?_
  refine wpAny_ite_split (fun _ => ?_) (fun z => absurd rfl z)
  refine wpAny_bind (wpAny_rule ?_)
  refine wpAny_bind (wpAny_attempt (wpAny_mono (PySem.W.len_K (Q := fun r s' => ∃ k t, r = Value.int ((k : Nat) : Int) t ∧ k ≤ 8 ∧ ∃ H', Same H H' ∧ Inv X pins σ H' s') (E := fun _ _ => False) hF I.ok.mod.kin J hs hfn
    (wpAny_mono (run_any0 (vs := [.ref p]) (Q := fun v H' => v = .int ((n.toNat : Nat) : Int) ∧ Same H H') sb.in1 F b I (.cons rfl .nil) ⟨p, n, q, rfl, W, fun H' sm => ⟨rfl, sm⟩⟩) (fun r s' z => ?_) fun _ _ z => z.elim)) (fun r s' z => ?_) fun _ _ z => z.elim))
  · obtain ⟨w, H', I', rw', ew, sm⟩ := z
    subst ew
    obtain ⟨t, rfl⟩ := rw'
    exact ⟨⟨by omega, by omega⟩, n.toNat, _, rfl, by omega, H', sm, I'.tok _⟩
  · obtain ⟨k, t, rfl, hk, hI⟩ := z
    refine wpAny_bind (m := asInt? (.int ((k : Nat) : Int) t)) (wpAny_pure ?_)
    dsimp only
    rw [if_neg (by rw [Int.toNat_natCast, notLongL (by rw [sizeLine_eq]; omega)]; decide)]
    exact wpAny_pure (h _ s' hI)
end
end K0
set_option Elab.async false
set_option linter.all false
set_option maxRecDepth 100000
set_option maxHeartbeats 4000000
namespace K0
open PySem PySem.Spec PyProof.Rows L2
theorem dtAll_keep {H H' : Hp} (k : ∀ b ys, H b = some (.tup ys) → H' b = some (.tup ys)) : ∀ {q : List Pr} {xs : List V}, DtAll H xs (q.map prD) → DtAll H' xs (q.map prD)
  | [], _, h => by
    cases h
    exact .nil
  | p :: q, _, h => by
    cases h with
    | cons h1 h2 =>
      cases h1 with
      | tup e h =>
        cases h with
        | cons a b =>
          cases b with
          | cons c d =>
            cases a
            cases c
            cases d
            exact .cons (.tup (k _ _ e) (.cons (.int _) (.cons (.int _) .nil))) (dtAll_keep k h2)
section
variable {X : Cx} {pins : List (Addr × Obj)} {σ : L2.St} {H : Hp} {s : Shared} {C : Addr}
theorem extendW {A1 : Around} {Rs : Result → Shared → Prop} {a q : Addr} {n : Int} {qq : List Pr} (IR : Mt X.prog X.w X.K X.mg X.base C "__iter__" 1 ["self"] (spIr C)) (LN : Mt X.prog X.w X.K X.mg X.base C "__len__" 1 ["self"] (spLn C)) (sb : Sub X 3 A1) (hh : A1.handled = none)
    (I : Inv X pins σ H s) (W : WebAt C H a n qq) (hq : H q = some (.lst [])) (hdone : ∀ H' s' ys, Inv X pins σ H' s' → (∀ b o, H b = some o → b ≠ q → H' b = some o) → H' q = some (.lst ys) → DtAll H' ys (qq.map prD) → Rs (.ok (.ret .none)) s') :
    wpAny (model X.prog X.w) A1.in1 (Builtin.List.listExtendWith (.ref q) (.ref a) .none)
      (fun fin s' => match fin with | .done f => Rs (.ok f) s' | .again c' => c'.quiet = true ∧ codeAny (model X.prog X.w) A1 c' Rs s') (fun e s' => Rs (.error e) s') s := by
  obtain ⟨⟨ddx, cc, m, l0, h1, h2, h3, h4, h5⟩, cl, n0, n8⟩ := id W
  have hne : q ≠ a := ne_of hq h1 (fun z => nomatch z)
  obtain ⟨fi, fdi, _, _, hfi, _, hsi, Fi, bi⟩ := IR.ex
  obtain ⟨mA, J, _⟩ := ins_get I.hok h1
  obtain ⟨od, J, _⟩ := J.look
  obtain ⟨m0, hF⟩ := I.fr
  unfold Builtin.List.listExtendWith
  refine wpAny_bind (J.type.here ?_)
  have e1 : Builtin.List.listSameRef (.ref q) (.ref a) = false := by simp [Builtin.List.listSameRef, hne]
  have e2 : (Value.ref C == Value.type "list") = false := rfl
  have e3 : (Value.ref C == Value.type "tuple") = false := rfl
  simp only [e1, e2, e3, Bool.or_false, Bool.false_eq_true, if_false]
  refine wpAny_bind (PySem.W.owit_iter hF I.ok.mod.kin J hsi hfi (wpAny_mono (run_any0 (vs := [.ref a])
    (Q := fun v H' => ∃ it c xs, v = .ref it ∧ Same H H' ∧ H it = none ∧ H' it = some (TItO c it 0) ∧ H' c = some (.tup xs) ∧ DtAll H' xs (qq.map prD)) sb.in1 (Fi.mono (by decide)) bi I (.cons rfl .nil) ⟨a, n, qq, rfl, W, fun H' it c xs g1 g2 g3 g4 g5 => ⟨it, c, xs, rfl, g1, g2, g3, g4, g5⟩⟩) (fun r s' z => ?_) fun _ _ z => z.elim))
  obtain ⟨w, H', I', rw', it, c, xs, ew, sm, nit, hit, hc, hx⟩ := z
  subst ew
  cases rw'
  have st : s'.heap.IsTupleIter it c 0 := (I'.hok it _ hit).1
  unfold PySem.W.OwitIt
  refine wpAny_specialOf (name := Str.ofString "__next__") st.typeIs PySem.F.slot_tuple_iterator_next.lookup ?_
  refine wpAny_bind (wpAny_holding (hintW LN sb.in1 I' (W.mono sm) fun room s2 hI2 => ?_))
  obtain ⟨H2, sm2, I2⟩ := hI2
  have s12 := sm.trans sm2
  have hq2 := s12 _ _ hq
  obtain ⟨z, its, k, r3, hl3, e4⟩ := I2.lstM hq2
  cases r3
  have ne1 : c ≠ it := ne_of hc hit (fun z => nomatch z)
  have ne2 : c ≠ q := ne_of (sm2 _ _ hc) hq2 (fun z => nomatch z)
  have ne3 : it ≠ q := fun e => by rw [e, hq] at nit; cases nit
  have hxs : xs.length ≤ sizeLine := by
    obtain ⟨_, _, _, hz⟩ := I'.tuple (SqT.of (K := X.K) hc)
    exact hz
  have fin : ∀ H3 s3, Inv X pins σ H3 s3 → (∀ b o, H2 b = some o → b ≠ it → b ≠ q → H3 b = some o) → H3 q = some (.lst xs) → Rs (.ok (.ret .none)) s3 := fun H3 s3 I3 keep hq3 => by
    refine hdone H3 s3 xs I3 (fun b o e nq => keep b o (s12 _ _ e) (fun e' => by rw [e', nit] at e; cases e) nq) hq3 ?_
    exact dtAll_keep (fun b ys e => keep b _ e (fun e' => by rw [e', sm2 _ _ hit] at e; cases e) (fun e' => by rw [e', hq2] at e; cases e)) (hx.mono sm2)
  refine wpAny_ite_split (fun _ => ?_) (fun _ => wpAny_pure ⟨plainId_quiet PySem.F.plain_extend_loop _, loopT hh hxs ne1 ne2 ne3 _ 0 H2 s2 rfl (Nat.zero_le _) I2 (sm2 _ _ hit) (sm2 _ _ hc) (by rw [List.take_zero]; exact hq2) fin⟩)
  refine wpAny_bind (wpAny_rule ?_)
  refine wpAny_bind ?_
  show wpAny _ _ (updateSeq q (·.push .none) >>= fun _ => updateSeq q (·.pop)) _ _ _
  refine wpAny_bind (wpAny_updateSeq e4 rfl ?_)
  have I3 := I2.lset (f := (·.push Value.none)) (its' := [Value.none]) (ys := [.non]) (t' := s2.toks) hq2 e4 (by simp) (.cons rfl .nil) (by rw [List.length_singleton, sizeLine_eq]; decide)
  obtain ⟨z4, its4, k4, r4, hl4, e5⟩ := I3.lstM upd_same
  obtain ⟨u4, rfl, ru4⟩ := r4.one
  refine wpAny_updateSeq e5 rfl ?_ (by show 1 ≤ sizeLine; rw [sizeLine_eq]; decide) (by show 0 ≤ sizeLine + 1; exact Nat.zero_le _)
  have I4 := I3.lset (f := (·.pop)) (its := [u4]) (its' := []) (ys := []) (t' := s2.toks) upd_same e5 (by rfl) .nil (Nat.zero_le _)
  rw [upd_upd] at I4
  have hH : upd H2 q (.lst []) = H2 := by
    funext b
    by_cases hb : b = q
    · rw [hb, upd_same, hq2]
    · rw [upd_ne hb]
  rw [hH] at I4
  exact wpAny_pure ⟨plainId_quiet PySem.F.plain_extend_loop _, loopT hh hxs ne1 ne2 ne3 _ 0 H2 _ rfl (Nat.zero_le _) I4 (sm2 _ _ hit) (sm2 _ _ hc) (by rw [List.take_zero]; exact hq2) fin⟩
/-- list(web) -/
theorem cr_listW (hc : X.calm = true) (IR : Mt X.prog X.w X.K X.mg X.base C "__iter__" 1 ["self"] (spIr C)) (LN : Mt X.prog X.w X.K X.mg X.base C "__len__" 1 ["self"] (spLn C)) (hr : Room 4 X.A) :
    CallR X (.type "list") (fun xs H Q => ∃ a n q, xs = [.ref a] ∧ WebAt C H a n q ∧ ∀ H' l ys, Same H H' → H l = none → H' l = some (.lst ys) → DtAll H' ys (q.map prD) → Q (.ref l) H') := by
  intro pins s σ H xs us Q I rv h
  obtain ⟨a, n, q, rfl, W, k⟩ := h
  obtain ⟨u, rfl, ru⟩ := rv.one
  cases ru
  have sb : Sub X 3 X.A.in1 := Sub.in1 (⟨hr, rfl⟩ : Sub X 4 X.A)
  refine callType_codes (Q₁ := fun obj s₁ => obj = .ref s.heap.objs.size ∧ s₁ = { s with heap := s.heap.push { cls := .type "list", data := .seq #[] } }) PySem.F.called_list (PySem.F.typeCall_list_1 _) PySem.F.entry_list_init
    (code_list_new _ ⟨rfl, rfl⟩) fun obj s₁ h₁ => ?_
  obtain ⟨rfl, rfl⟩ := h₁
  have hS : (s.heap.push { cls := .type "list", data := .seq #[] }).get? s.heap.objs.size = some { cls := .type "list", data := .seq #[] } := Heap.get?_push_size _ rfl
  refine ⟨⟨_, hS, rfl⟩, PySem.F.args_list_init_2 _ _, ?_⟩
  have fr : H s.heap.objs.size = none := I.hok.fresh (Nat.le_refl _)
  have I1 : Inv X pins σ (upd H s.heap.objs.size (.lst [])) { s with heap := s.heap.push { cls := .type "list", data := .seq #[] } } := I.lnew (its := []) (t' := s.toks) .nil (Nat.zero_le _)
  show wpAny _ _ (do let old ← Builtin.List.listItems (.ref s.heap.objs.size); Builtin.List.listUpdate (.ref s.heap.objs.size) (fun _ => #[]); letGo old.toList.reverse; Builtin.List.listExtendWith (.ref s.heap.objs.size) (.ref a) .none) _ _ _
  refine wpAny_bind ?_
  unfold Builtin.List.listItems
  refine wpAny_bind (wpAny_seqItems hS rfl (wpAny_pure ?_))
  show wpAny _ _ (updateSeq s.heap.objs.size (fun _ => #[]) >>= fun _ => letGo (#[] : Array Value).toList.reverse >>= fun _ => Builtin.List.listExtendWith (.ref s.heap.objs.size) (.ref a) .none) _ _ _
  refine wpAny_bind (wpAny_updateSeq hS rfl ?_)
  have I2 := I1.lset (f := fun _ => #[]) (its := []) (its' := []) (ys := []) (t' := s.toks) upd_same hS rfl .nil (Nat.zero_le _)
  rw [upd_upd] at I2
  refine wpAny_bind (wpAny_letGo ?_)
  have s1 : Same H (upd H s.heap.objs.size (.lst [])) := same_upd fr
  exact extendW (A1 := X.A.in1) (Rs := wants (fun r s₂ => r = .none ∧ EP X pins σ Q (.ref s.heap.objs.size) s₂) X.xe) IR LN sb (show X.A.handled = none from I.ok.hd hc) I2 (W.mono s1) upd_same
    fun H' s' ys I' keep hq' hx => ⟨rfl, .ref s.heap.objs.size, H', I', rfl, k H' _ ys (fun b o e => keep b o (s1 _ _ e) (ne_of_none e fr)) fr hq' hx⟩
end
end K0
set_option Elab.async false
set_option linter.all false
set_option maxRecDepth 100000
set_option maxHeartbeats 4000000
/-! several clauses, each with or without a name -/
namespace K0
open PySem PySem.Spec PyProof.Rows L2
abbrev Clause := Value × Option Nat × (Addr → Value → Option Addr → TS)
/-- how a clause's suite ends where its name's slot is i -/
def gone (i : Nat) (D : Ends) : Ends := { nx := fun σ' H' => D.nx (σ'.set i none) H', rt := D.rt, bk := fun σ' H' => D.bk (σ'.set i none) H', ct := fun σ' H' => D.ct (σ'.set i none) H' }
def wCl (K : PySem.W.Frag) (Wout : WX) (D : Ends) : List Clause → WX
  | [] => Wout
  | (c, none, ts) :: r => fun cls d σ H => ∃ b, PySem.W.exmOne K cls c = some b ∧ (b = true → ∀ a, H a = none → ts a cls d D σ H) ∧ (b = false → wCl K Wout D r cls d σ H)
  | (c, some i, ts) :: r => fun cls d σ H => ∃ b, PySem.W.exmOne K cls c = some b ∧ (b = true → ∀ a, H a = none → ts a cls d (gone i D) (σ.set i (some (.ref a))) H) ∧ (b = false → wCl K Wout D r cls d σ H)
inductive ClsOk (X : Cx) : List ExceptHandler → List Clause → Prop
  | nil : ClsOk X [] []
  | cons {x : Str} {c : Value} {ts : Addr → Value → Option Addr → TS} {b₀ : Stmt} {suite : List Stmt} {np pos' : Pos} {hds : List ExceptHandler} {l : List Clause} (hc : Names X x c)
      (hsu : ∀ (a : Addr) (oe : Obj) (cls : Value) (d : Option Addr) (pn : List (Addr × Obj)), Zc cls d oe → (∃ vs, oe.data = .fields vs) → PSs (X.suite a ((a, oe) :: pn)) (b₀ :: suite) (ts a cls d)) (r : ClsOk X hds l) :
      ClsOk X (.ExceptHandler (some (.Name x np)) none (b₀ :: suite) pos' :: hds) ((c, none, ts) :: l)
  | as {x n : Str} {c : Value} {i : Nat} {ts : Addr → Value → Option Addr → TS} {b₀ : Stmt} {suite : List Stmt} {np pos' : Pos} {hds : List ExceptHandler} {l : List Clause} (hN : X.N.Nodup) (hi : X.N[i]? = some n) (hln : X.env.kindOf n = some .local) (hc : Names X x c)
      (hsu : ∀ (a : Addr) (oe : Obj) (cls : Value) (d : Option Addr) (pn : List (Addr × Obj)), Zc cls d oe → (∃ vs, oe.data = .fields vs) → PSs (X.suite a ((a, oe) :: pn)) (b₀ :: suite) (ts a cls d)) (r : ClsOk X hds l) :
      ClsOk X (.ExceptHandler (some (.Name x np)) (some n) (b₀ :: suite) pos' :: hds) ((c, some i, ts) :: l)
section
variable {X : Cx} {body : List Stmt} {h₀ : ExceptHandler} {hds : List ExceptHandler} {l : List Clause} {pos : Pos} {tb : WX → TS} {Wout : WX}
theorem ps_try_any (hs : X.stack = X.env :: X.outer) (hf : X.env.frame = some X.env.locals) (tk : Takes X Wout)
    (hb : ∀ (W : WX) (pn : List (Addr × Obj)) (xe : Value → Shared → Prop), Takes (X.tr pn xe) W → PassesOwn (model X.prog X.w) X.A X.env xe → PSs (X.tr pn xe) body (tb W))
    (hh : ClsOk X (h₀ :: hds) l) : PS X (.Try body (h₀ :: hds) [] [] pos) (fun D σ H => tb (wCl X.K Wout D l) D σ H) := by
  refine ⟨fun pins s σ H D I h => ?_⟩
  have ok := I.ok
  have hfr : X.A.frames = some (X.env :: X.outer) := by rw [ok.frames, hs]
  refine wpAny_Try_except ?_
  refine wpAny_mono ((hb (wCl X.K Wout D l) (X.pn ++ pins) (fun e s₁ => wpAny (model X.prog X.w) X.A (noteFrame e X.env) (fun _ s₂ => wpAny (model X.prog X.w) X.A (setFlight e none) (fun _ s₃ =>
    wpAny (model X.prog X.w) X.A (handleBy e X.env (h₀ :: hds)) (SP X pins D) X.xe s₃) X.xe s₂) X.xe s₁) (fun u s' xx => ?_) PassesOwn.looking).run [] s σ H D (I.toTry _) h) (fun f s1 hsp => ?_) (fun e s1 he => he)
  · obtain ⟨a, B, sI, pins', σ', H', cls, d, rfl, J', nb, up, sky, na, os, ag, w⟩ := xx
    have J : Inv X pins σ' H' sI := J'.ofTry ok
    have sky' : Sky B (X.env :: X.outer) a (Zc cls d) X.env.locals s'.heap := by rw [← hs]; exact sky
    show wpAny (model X.prog X.w) X.A (noteFrame (.ref a) X.env) _ _ _
    refine Sky.land Zc.steady hfr hf sky' fun h3 fl3 up3 => ?_
    have J3 : Inv X pins σ' H' { s' with heap := h3 } := J.landed nb fl3.1 (up.trans up3) os ag
    obtain ⟨oe3, vs3, he3, hz3, hd3⟩ := fl3.there
    have notFr : ∀ {h : Heap} {o : Obj} {vs : Array Value}, h.FunFrames B (X.env :: X.outer) → h.get? a = some o → o.data = .fields vs → a ∉ frs (X.env :: X.outer) := fun {h o vs} ff e dd hm => by
      obtain ⟨_, o', e', hnf⟩ := ff.mem hm
      rw [e] at e'
      cases e'
      exact hnf _ dd
    have nfr := notFr fl3.2.2.1 he3 hd3
    have nL : a ≠ X.env.locals := fun z => nfr (List.mem_filterMap.mpr ⟨X.env, List.mem_cons_self, by rw [hf, z]⟩)
    have nF : a ∉ X.fs := fun hm => by
      obtain ⟨e, he, q⟩ := List.mem_filterMap.mp hm
      exact nfr (List.mem_filterMap.mpr ⟨e, List.mem_cons_of_mem _ he, q⟩)
    have S3 := J3.suite he3 hd3 na nL nF
    have LT : PySem.W.Looks (model X.prog X.w) h3 (typeOf (.ref a)) cls := fun A Q E s k q => wpAny_typeOf_ref (k _ _ he3) (by rw [hz3.1]; exact q)
    have test : ∀ {x : Str} {np : Pos} {c : Value} {Q : Value → Shared → Prop} {E : Value → Shared → Prop}, Names X x c → Q c { s' with heap := h3 } → wpAny (model X.prog X.w) (X.A.mark (some (.ref a))) (eval (.Name x np) X.env) Q E { s' with heap := h3 } := fun {x np c Q E} hc q => by
      obtain ⟨hg, hdbg, hm | ⟨hm, hv, hnn⟩⟩ := hc
      · exact ld_glob (X := X.suite a ((a, oe3) :: (X.pn ++ pins))) S3 hg hm q hdbg
      · exact ld_blt (X := X.suite a ((a, oe3) :: (X.pn ++ pins))) S3 hg hm hv q hnn hdbg
    have go : ∀ {hds' : List ExceptHandler} {l' : List Clause}, ClsOk X hds' l' → wCl X.K Wout D l' cls d σ' H' → wpAny (model X.prog X.w) X.A (handleBy (.ref a) X.env hds') (SP X pins D) X.xe { s' with heap := h3 } := by
      intro hds' l' hk
      induction hk with
      | nil =>
        intro w
        refine wpAny_handleBy_nil ?_
        obtain ⟨k1, k2, k3, oe, vs, T, oT, ts', he, hz, hd, h1, hr⟩ := id fl3
        unfold PySem.passOn
        refine wpAny_bind (wpAny_field he hd h1 ?_)
        rw [if_neg (show ¬ ((Value.ref T == Value.none) = true) from by simp)]
        have fin : wpAny (model X.prog X.w) X.A (setFlight (.ref a) X.env.frame) (fun _ s4 => wpAny (model X.prog X.w) X.A (throw (.ref a) : Sem Flow) (SP X pins D) X.xe s4) X.xe { s' with heap := h3 } := by
          rw [hf]
          refine HandSPX.setFlight_upZ fl3 fun h4 hh4 up4 => wpAny_throw (tk _ _ ?_)
          exact ⟨a, B, sI, pins, σ', H', cls, d, rfl, J, nb, (up.trans up3).trans up4, .inr (.inr (by rw [hs]; exact hh4)), na, os, ag, w⟩
        first
          | exact wpAny_bind (wpAny_pure (wpAny_bind fin))
          | exact wpAny_bind fin
      | @cons x c ts b₀ suite np pos' hds2 l2 hc hsu r ih =>
        intro w
        obtain ⟨b, hb1, hyes, hno⟩ := w
        refine wpAny_handleBy_cons (codeAny_handlers_test ?_) (by intro q; cases q)
        have LM := PySem.W.exm_one (M := model X.prog X.w) (J3.kIn) LT hb1
        refine test hc (LM.here ?_)
        cases b with
        | true =>
          refine codeAny_handlers_suite ?_
          refine HandSPX.lands_againZ fl3 fun h4 fl4 up4 => ?_
          have J4 : Inv X pins σ' H' { s' with heap := h4 } := J.landed nb fl4.1 ((up.trans up3).trans up4) os ag
          obtain ⟨oe4, vs4, he4, hz4, hd4⟩ := fl4.there
          have S4 := J4.suite he4 hd4 na nL nF
          refine wpAny_mono ((hsu a oe4 cls d (X.pn ++ pins) hz4 ⟨_, hd4⟩).run [] _ _ H' _ S4 (hyes rfl a na)) (fun f s6 hsp => ?_) (fun _ _ z => False.elim z)
          cases f with
          | next =>
            obtain ⟨σ6, H6, S6, q6⟩ := hsp
            exact ⟨_, _, S6.unsuite ok, q6⟩
          | brk =>
            obtain ⟨σ6, H6, S6, q6⟩ := hsp
            exact ⟨_, _, S6.unsuite ok, q6⟩
          | cont =>
            obtain ⟨σ6, H6, S6, q6⟩ := hsp
            exact ⟨_, _, S6.unsuite ok, q6⟩
          | ret u =>
            obtain ⟨v6, σ6, H6, S6, r6, q6⟩ := hsp
            exact ⟨_, _, _, S6.unsuite ok, r6, q6⟩
        | false =>
          show wpAny _ X.A (handleBy (.ref a) X.env hds2) _ _ _
          exact ih (hno rfl)
      | @as x n c i ts b₀ suite np pos' hds2 l2 hN hi hln hc hsu r ih =>
        intro w
        obtain ⟨b, hb1, hyes, hno⟩ := w
        refine wpAny_handleBy_cons (codeAny_handlers_test ?_) (by intro q; cases q)
        have LM := PySem.W.exm_one (M := model X.prog X.w) (J3.kIn) LT hb1
        refine test hc (LM.here ?_)
        cases b with
        | true =>
          refine codeAny_handlers_suite_as ?_
          refine HandSPX.lands_againZ fl3 fun h4 fl4 up4 => ?_
          have J4 : Inv X pins σ' H' { s' with heap := h4 } := J.landed nb fl4.1 ((up.trans up3).trans up4) os ag
          obtain ⟨oe4, vs4, he4, hz4, hd4⟩ := fl4.there
          have S4 := J4.suite he4 hd4 na nL nF
          refine store_ok (X := X.suite a ((a, oe4) :: (X.pn ++ pins))) (v := .ref a) S4 hN hi (.inl hln) rfl (fun s5 S5 => ?_) (.inr hln)
          refine wpAny_mono ((hsu a oe4 cls d (X.pn ++ pins) hz4 ⟨_, hd4⟩).run [] s5 _ H' _ S5 (hyes rfl a na)) (fun f s6 hsp => ?_) (fun _ _ z => False.elim z)
          have end_ : ∀ {σ6 : L2.St} {H6 : Hp} {Q : Shared → Prop}, Inv (X.suite a ((a, oe4) :: (X.pn ++ pins))) [] σ6 H6 s6 → (∀ s7, Inv X pins (σ6.set i none) H6 s7 → Q s7) →
              wpAny (model X.prog X.w) X.A (do bindName X.env n .none; unbindBehindTheSuite X.env n pos') (fun _ s7 => Q s7) X.xe s6 := fun {σ6 H6 Q} S6 hq => gone_ok (S6.unsuite ok) hN hi hln hq
          cases f with
          | next =>
            obtain ⟨σ6, H6, S6, q6⟩ := hsp
            exact end_ S6 fun s7 J7 => ⟨_, _, J7, q6⟩
          | brk =>
            obtain ⟨σ6, H6, S6, q6⟩ := hsp
            exact end_ S6 fun s7 J7 => ⟨_, _, J7, q6⟩
          | cont =>
            obtain ⟨σ6, H6, S6, q6⟩ := hsp
            exact end_ S6 fun s7 J7 => ⟨_, _, J7, q6⟩
          | ret u =>
            obtain ⟨v6, σ6, H6, S6, r6, q6⟩ := hsp
            exact end_ S6 fun s7 J7 => ⟨_, _, _, J7, r6, q6⟩
        | false =>
          show wpAny _ X.A (handleBy (.ref a) X.env hds2) _ _ _
          exact ih (hno rfl)
    exact go hh w
  · cases f with
    | next =>
      obtain ⟨σ', H', J', q⟩ := hsp
      exact wpAny_execs_nil ⟨σ', H', J'.ofTry ok, q⟩
    | brk =>
      obtain ⟨σ', H', J', q⟩ := hsp
      exact ⟨σ', H', J'.ofTry ok, q⟩
    | cont =>
      obtain ⟨σ', H', J', q⟩ := hsp
      exact ⟨σ', H', J'.ofTry ok, q⟩
    | ret u =>
      obtain ⟨v, σ', H', J', r, q⟩ := hsp
      exact ⟨v, σ', H', J'.ofTry ok, r, q⟩
end
end K0
set_option Elab.async false
set_option linter.all false
set_option maxRecDepth 100000
set_option maxHeartbeats 4000000
namespace K0
open PySem PySem.Spec PyProof.Rows L2
/-! ### the law's small helpers -/
theorem passE0 {X : Cx} : Passes (L2.CX X.prog X.w) X (fun _ _ _ => False) := fun _ _ _ _ _ _ _ hq => by
  obtain ⟨_, _, _, _, _, _, _, _, _, _, _, _, z⟩ := hq
  exact z.elim
theorem pe_sel {X : Cx} {e : Expr} {t : L2.St → TE} (h : ∀ σ0, PE X e (t σ0)) : PE X e (fun σ H Q => t σ σ H Q) := ⟨fun pins s σ H Q I hq => (h σ).run pins s σ H Q I hq⟩
def reprD : PyData → Option Str
  | .none => some "None"
  | .bool b => some (if b then "True" else "False")
  | .int i => if i.natAbs < 1000 then some (Str.ofString (toString i)) else none
  | _ => none
theorem cr_repr {X : Cx} : CallR X (.builtin "repr") (fun xs H Q => ∃ v d x, xs = [v] ∧ Dt H v d ∧ reprD d = some x ∧ Q (.str x) H) := by
  intro pins s σ H xs us Q I r h
  obtain ⟨v, d, x, rfl, hv, e, q⟩ := h
  obtain ⟨u, rfl, ru⟩ := vals1 r
  cases hv with
  | non =>
    cases e
    cases ru
    exact PySem.P.repr_of_none ⟨.str _, H, I.tok _, ⟨_, rfl⟩, q⟩
  | bl b =>
    cases e
    cases ru
    exact PySem.P.repr_of_bool ⟨.str _, H, I.tok _, ⟨_, rfl⟩, q⟩
  | int i =>
    have e' : (if i.natAbs < 1000 then some (Str.ofString (toString i)) else none) = some x := e
    by_cases hi : i.natAbs < 1000
    · rw [if_pos hi] at e'
      cases e'
      obtain ⟨t, rfl⟩ := ru
      refine PySem.P.repr_of_int ?_ ⟨.str _, H, I.tok _, ⟨_, rfl⟩, q⟩
      by_cases z : i.natAbs = 0
      · rw [z]
        decide
      · exact Nat.lt_of_lt_of_le ((Nat.log2_lt z).mpr (Nat.lt_of_lt_of_le hi (by decide : 1000 ≤ 2 ^ 10))) (by decide)
    · rw [if_neg hi] at e'
      cases e'
  | str x => cases e
  | lst _ _ => cases e
  | tup _ _ => cases e
section
variable {P : Program} {w : World} {K : PySem.W.Frag} {mg : Str → Option Value} {base : Heap} {f : Addr} {fd : FuncData}
abbrev s_li : Stmt := top 28
abbrev s_ri : Stmt := top 33
abbrev s_du : Stmt := top 36
abbrev s_sy : Stmt := top 37
theorem sc_li : FnScope ["_law_value"] ["_law_value"] (defScope s_li) := ⟨rfl, rfl, rfl, by decide +kernel, rfl, by decide +kernel, by decide +kernel⟩
theorem ok_li (F : Fun K "_law_int" "_law_int" s_li f fd) (B : Blt2 mg) : FnOk P w K mg base (L2.CX P w) 1 f fd ["_law_value"] spInt := by
  refine F.okX sc_li (fun vs H Q E h => ?_) (fun cdv A outer s H vs Q E hr h => ?_)
  · obtain ⟨v, d, rfl, _⟩ := h
    rfl
  · obtain ⟨v, d, rfl, hv, q⟩ := h
    refine ⟨_, pss_one (ps_ret (pe_and
      (pe_callB call_isi (by rfl) B.isi (by decide +kernel) (pa_cons (pv 0) (pa_cons (pe_bltn (v := .ty "int") (by rfl) B.int (by decide +kernel) rfl) pa_nil)))
      (pe_one (pe_not (pe_callB call_isi (by rfl) B.isi (by decide +kernel) (pa_cons (pv 0) (pa_cons (pe_bltn (v := .ty "bool") (by rfl) B.bool (by decide +kernel) rfl) pa_nil))))))), ?_⟩
    cases hv with
    | non => exact ⟨_, rfl, _, _, _, _, _, rfl, .ty _, .base .non, kit_ty (r := false) (by decide +kernel), _, rfl, iteF q⟩
    | bl b => exact ⟨_, rfl, _, _, _, _, _, rfl, .ty _, .base (.bl b), kit_ty (r := true) (by decide +kernel), _, rfl, iteT ⟨_, rfl, _, _, _, _, _, rfl, .ty _, .base (.bl b), kit_ty (r := true) (by decide +kernel), _, rfl, q⟩⟩
    | int i => exact ⟨_, rfl, _, _, _, _, _, rfl, .ty _, .base (.int i), kit_ty (r := true) (by decide +kernel), _, rfl, iteT ⟨_, rfl, _, _, _, _, _, rfl, .ty _, .base (.int i), kit_ty (r := false) (by decide +kernel), _, rfl, q⟩⟩
    | str x => exact ⟨_, rfl, _, _, _, _, _, rfl, .ty _, .base (.str x), kit_ty (r := false) (by decide +kernel), _, rfl, iteF q⟩
    | tup e _ => exact ⟨_, rfl, _, _, _, _, _, rfl, .ty _, .base (.tup e), kit_ty (r := false) (by decide +kernel), _, rfl, iteF q⟩
    | lst e _ => exact ⟨_, rfl, _, _, _, _, _, rfl, .ty _, .base (.lst e), kit_ty (r := false) (by decide +kernel), _, rfl, iteF q⟩
/-- _law_is_due -/
def spDu : Sp := fun vs H Q _ => ∃ i k, vs = [.int i, .int k] ∧ Ret (.bl (i == k)) H Q
theorem sc_du : FnScope ["_law_told", "_law_due"] ["_law_told", "_law_due"] (defScope s_du) := ⟨rfl, rfl, rfl, by decide +kernel, rfl, by decide +kernel, by decide +kernel⟩
theorem ok_du (F : Fun K "_law_is_due" "_law_is_due" s_du f fd) (LI : Df P w K mg base "_law_int" 1 ["_law_value"] spInt) : FnOk P w K mg base (L2.CX P w) 2 f fd ["_law_told", "_law_due"] spDu := by
  refine F.okX sc_du (fun vs H Q E h => ?_) (fun cdv A outer s H vs Q E hr h => ?_)
  · obtain ⟨i, k, rfl, _⟩ := h
    rfl
  · obtain ⟨i, k, rfl, q⟩ := h
    refine ⟨_, pss_one (ps_ret (pe_and (pe_df LI hr (by rfl) passUp (pa_cons (pv 0) pa_nil)) (pe_one (pe_cmpR op_eq (pv 0) (pv 1) (nomark _))))), ?_⟩
    refine ⟨_, rfl, .int i, .int i, rfl, .int i, _, rfl, iteT ⟨_, rfl, _, rfl, rfl, ?_⟩⟩
    rw [dec_int]
    exact q.now
/-- _law_says -/
def spSy : Sp := fun vs H Q _ => ∃ a b, vs = [.bl a, .bl b] ∧ Ret (.bl (a == b)) H Q
theorem sc_sy : FnScope ["_law_told", "_law_due"] ["_law_told", "_law_due"] (defScope s_sy) := ⟨rfl, rfl, rfl, by decide +kernel, rfl, by decide +kernel, by decide +kernel⟩
theorem ok_sy (F : Fun K "_law_says" "_law_says" s_sy f fd) (B : Blt2 mg) : FnOk P w K mg base (L2.CX P w) 1 f fd ["_law_told", "_law_due"] spSy := by
  refine F.okX sc_sy (fun vs H Q E h => ?_) (fun cdv A outer s H vs Q E hr h => ?_)
  · obtain ⟨i, k, rfl, _⟩ := h
    rfl
  · obtain ⟨a, b, rfl, q⟩ := h
    refine ⟨_, pss_one (ps_ret (pe_and (pe_callB call_isi (by rfl) B.isi (by decide +kernel) (pa_cons (pv 0) (pa_cons (pe_bltn (v := .ty "bool") (by rfl) B.bool (by decide +kernel) rfl) pa_nil))) (pe_one (pe_cmpR op_eq (pv 0) (pv 1) (nomark _))))), ?_⟩
    refine ⟨_, rfl, _, _, _, _, _, rfl, .ty _, .base (.bl a), kit_ty (r := true) (by decide +kernel), _, rfl, iteT ⟨_, rfl, _, rfl, rfl, ?_⟩⟩
    have e : decide (V.bl a = V.bl b) = (a == b) := by cases a <;> cases b <;> rfl
    rw [e]
    exact q.now
end
theorem intsT_lay : ∀ ns : List Int, PyData.canLayAll0 (ns.map PyData.int) = true
  | [] => by simp [PyData.canLayAll0]
  | n :: r => by rw [List.map_cons]; simp only [PyData.canLayAll0, PyData.canLay0]; rw [intsT_lay r]; rfl
theorem intsT_depth : ∀ ns : List Int, PyData.depthAll (ns.map PyData.int) ≤ 0
  | [] => by simp [PyData.depthAll]
  | n :: r => by rw [List.map_cons]; simp only [PyData.depthAll, PyData.depth]; exact Nat.max_le.mpr ⟨Nat.le_refl _, intsT_depth r⟩
theorem intsT_shaped (ns : List Int) : SeqAt.shaped (.tuple (ns.map PyData.int)) = true := by
  unfold SeqAt.shaped
  rw [Bool.and_eq_true, decide_eq_true_iff]
  refine ⟨by simp only [PyData.canLay0]; exact intsT_lay ns, ?_⟩
  simp only [PyData.depth]
  have := intsT_depth ns
  omega
theorem intsL_shaped (ns : List Int) : SeqAt.shaped (.list (ns.map PyData.int)) = true := by
  unfold SeqAt.shaped
  rw [Bool.and_eq_true, decide_eq_true_iff]
  refine ⟨by simp only [PyData.canLay0]; exact intsT_lay ns, ?_⟩
  simp only [PyData.depth]
  have := intsT_depth ns
  omega
theorem ints_eqv (a b : List Int) : PyData.eqvAll (a.map PyData.int) (b.map PyData.int) = decide (a = b) := PySem.W.eqvAll_map a b
theorem intsT_eqv (a b : List Int) : PyData.eqv (.tuple (a.map PyData.int)) (.tuple (b.map PyData.int)) = decide (a = b) := by
  rw [PyData.eqv]
  exact ints_eqv a b
theorem intsL_eqv (a b : List Int) : PyData.eqv (.list (a.map PyData.int)) (.list (b.map PyData.int)) = decide (a = b) := by
  rw [PyData.eqv]
  exact ints_eqv a b
section
variable {P : Program} {w : World} {K : PySem.W.Frag} {mg : Str → Option Value} {base : Heap} {f : Addr} {fd : FuncData}
/-- _law_row_is -/
def spRi : Sp := fun vs H Q _ => ∃ (a b : Addr) (ms ns : List Int), vs = [.ref a, .ref b] ∧ H a = some (.tup (ms.map V.int)) ∧ (H b = some (.lst (ns.map V.int)) ∨ H b = some (.tup (ns.map V.int))) ∧ Ret (.bl (decide (ms = ns))) H Q
theorem sc_ri : FnScope ["_law_told", "_law_due", "_law_x"] ["_law_told", "_law_due"] (defScope s_ri) := ⟨rfl, rfl, rfl, by decide +kernel, rfl, by decide +kernel, by decide +kernel⟩
theorem ok_ri (F : Fun K "_law_row_is" "_law_row_is" s_ri f fd) (B : Blt2 mg) (LI : Df P w K mg base "_law_int" 1 ["_law_value"] spInt) : FnOk P w K mg base (L2.CX P w) 2 f fd ["_law_told", "_law_due"] spRi := by
  refine F.okX sc_ri (fun vs H Q E h => ?_) (fun cdv A outer s H vs Q E hr h => ?_)
  · obtain ⟨a, b, ms, ns, rfl, _⟩ := h
    rfl
  · obtain ⟨a, b, ms, ns, rfl, ha, hb, q⟩ := h
    have nd := sc_ri.nd
    have hu := hr.units
    refine ⟨_, pss_cons (ps_if (PW.pt (pw_or (pt_not (pt_val (pe_callB call_isi (by rfl) B.isi (by decide +kernel) (pa_cons (pv 0) (pa_cons (pe_bltn (v := .ty "tuple") (by rfl) B.tuple (by decide +kernel) rfl) pa_nil)))))
        (pw_or1 (pt_cmpR (op_neD hu) (pv 0) (pe_callTy call_tuple_of (by rfl) B.tuple (by decide +kernel) (pa_cons (pv 1) pa_nil)) (by rfl))))) (pss_one (ps_ret pe_bl)) pss_nil)
      (pss_one (ps_ret (pe_cmpR op_eq (pe_callB call_len_seq (by rfl) B.len PySem.boot_len (pa_cons (pe_lc (own := [("_law_x", 2)]) (g := gName 2) (tt := tNot (tTest (tCall spInt [] (fun _ _ _ => False) (tCons (tVar 2) tNil)))) (te := tVar 2) rfl nd (pi_tup (pv 0))
        (blkOk_by (N := ["_law_told", "_law_due", "_law_x"]) (sc := defScope s_ri) (by decide +kernel)) (fun _ _ _ _ _ => pg_name (i := 2) nd rfl (.inl rfl)) (fun _ _ _ _ _ => pts_one (pt_not (pt_val (pe_df LI hr (by rfl) passE0 (pa_cons (pv 2) pa_nil))))) (fun _ _ _ _ _ => pv 2)) pa_nil)) pe_int (nomark _)))), ?_⟩
    have ty : TyX K H (.ref a) (.type "tuple") := .base (.tup ha)
    refine ⟨_, rfl, _, _, _, _, _, rfl, .ty _, ty, kit_ty (r := true) (by decide +kernel), _, rfl, iteF ⟨_, rfl, _, rfl, b, ns.map V.int, rfl, ?_⟩⟩
    rcases hb with hb | hb
    · refine .inl ⟨SqL.of hb, fun c nc => ?_⟩
      have s1 : Same H (upd H c (.tup (ns.map V.int))) := same_upd nc
      refine ⟨.tuple (ms.map .int), .tuple (ns.map .int), (Dt.tup (s1 _ _ ha) (DtAll.ints _ ms)).dp, (Dt.tup upd_same (DtAll.ints _ ns)).dp, intsT_shaped _, intsT_shaped _, _, rfl, ?_⟩
      rw [intsT_eqv]
      by_cases e : ms = ns
      · rw [decide_eq_true e]
        refine iteF ⟨_, rfl, a, rfl, ⟨_, SqT.of (s1 _ _ ha)⟩, fun D nD => ?_⟩
        refine lc_it (walk_tup (K := K) (a := a) (xs := ms.map V.int)) (fun i H' => Same (upd H c (.tup (ns.map V.int))) H' ∧ H' D = some (.lst [])) ⟨same_upd nD, upd_same⟩ (fun i H' _ z => SqT.of (z.1 _ _ (s1 _ _ ha))) (fun i v H' H2 hi z y => ?_) (fun H' z => ?_)
        · obtain ⟨rfl, hv⟩ := y
          rw [List.getElem?_map] at hv
          obtain ⟨k, hk, rfl⟩ := Option.map_eq_some_iff.mp hv
          exact ⟨rfl, _, rfl, .int k, .int k, rfl, .int k, _, rfl, iteF z⟩
        · refine ⟨D, _, rfl, .inl (SqL.of z.2), rfl, ?_⟩
          have := q H' ((s1).trans z.1)
          rw [decide_eq_true e] at this
          exact this
      · rw [decide_eq_false e]
        have := q (upd H c (.tup (ns.map V.int))) s1
        rw [decide_eq_false e] at this
        exact iteT this
    · refine .inr ⟨SqT.of hb, ?_⟩
      refine ⟨.tuple (ms.map .int), .tuple (ns.map .int), (Dt.tup ((Same.refl H) _ _ ha) (DtAll.ints _ ms)).dp, (Dt.tup hb (DtAll.ints _ ns)).dp, intsT_shaped _, intsT_shaped _, _, rfl, ?_⟩
      rw [intsT_eqv]
      by_cases e : ms = ns
      · rw [decide_eq_true e]
        refine iteF ⟨_, rfl, a, rfl, ⟨_, SqT.of ((Same.refl H) _ _ ha)⟩, fun D nD => ?_⟩
        refine lc_it (walk_tup (K := K) (a := a) (xs := ms.map V.int)) (fun i H' => Same H H' ∧ H' D = some (.lst [])) ⟨same_upd nD, upd_same⟩ (fun i H' _ z => SqT.of (z.1 _ _ ((Same.refl H) _ _ ha))) (fun i v H' H2 hi z y => ?_) (fun H' z => ?_)
        · obtain ⟨rfl, hv⟩ := y
          rw [List.getElem?_map] at hv
          obtain ⟨k, hk, rfl⟩ := Option.map_eq_some_iff.mp hv
          exact ⟨rfl, _, rfl, .int k, .int k, rfl, .int k, _, rfl, iteF z⟩
        · refine ⟨D, _, rfl, .inl (SqL.of z.2), rfl, ?_⟩
          have := q H' (((Same.refl H)).trans z.1)
          rw [decide_eq_true e] at this
          exact this
      · rw [decide_eq_false e]
        have := q H (Same.refl H)
        rw [decide_eq_false e] at this
        exact iteT this
end
end K0
set_option Elab.async false
set_option linter.all false
set_option maxRecDepth 100000
set_option maxHeartbeats 4000000
namespace K0
open PySem PySem.Spec PyProof.Rows L2
def sameAt (ps qs : List Pr) (k : Nat) : Bool := decide ([(ps.getD k (0, 0)).1, (ps.getD k (0, 0)).2] = [(qs.getD k (0, 0)).1, (qs.getD k (0, 0)).2])
theorem sameAt_all {ps qs : List Pr} (hl : ps.length = qs.length) : (((((List.range qs.length).filter fun k => !sameAt ps qs k).length : Nat) : Int) == 0) = decide (ps = qs) := by
  rw [Bool.eq_iff_iff, beq_iff_eq, decide_eq_true_iff]
  have e1 : ((((List.range qs.length).filter fun k => !sameAt ps qs k).length : Nat) : Int) = 0 ↔ (List.range qs.length).filter (fun k => !sameAt ps qs k) = [] := by
    rw [← List.length_eq_zero_iff]
    omega
  rw [e1, List.filter_eq_nil_iff]
  constructor
  · intro h
    refine List.ext_getElem hl fun i h1 h2 => ?_
    have := h i (List.mem_range.mpr h2)
    have e : sameAt ps qs i = true := by
      cases z : sameAt ps qs i with
      | true => rfl
      | false => rw [z] at this; exact absurd rfl this
    have e := of_decide_eq_true e
    rw [List.getD_eq_getElem?_getD, List.getD_eq_getElem?_getD, List.getElem?_eq_getElem h1, List.getElem?_eq_getElem h2] at e
    simp only [Option.getD_some, List.cons.injEq, and_true] at e
    exact Prod.ext e.1 e.2
  · intro h k _
    subst h
    unfold sameAt
    simp
section
variable {P : Program} {w : World} {K : PySem.W.Frag} {mg : Str → Option Value} {base : Heap} {f : Addr} {fd : FuncData}
abbrev s_rr : Stmt := top 34
abbrev s_wis : Stmt := top 35
/-- _law_rows_are -/
def SqP (H : Hp) (b : Addr) (qs : List Pr) : Prop := ∃ ys, (H b = some (.lst ys) ∨ H b = some (.tup ys)) ∧ DtAll H ys (qs.map prD)
def spRr : Sp := fun vs H Q _ => ∃ (a b : Addr) (xs : List V) (ps qs : List Pr), vs = [.ref a, .ref b] ∧ H a = some (.tup xs) ∧ DtAll H xs (ps.map prD) ∧ SqP H b qs ∧ qs.length ≤ 1000 ∧ Ret (.bl (decide (ps = qs))) H Q
theorem sc_rr : FnScope ["_law_told", "_law_due", "_law_k"] ["_law_told", "_law_due"] (defScope s_rr) := ⟨rfl, rfl, rfl, by decide +kernel, rfl, by decide +kernel, by decide +kernel⟩
theorem ok_rr (F : Fun K "_law_rows_are" "_law_rows_are" s_rr f fd) (B : Blt2 mg) (RI : Df P w K mg base "_law_row_is" 2 ["_law_told", "_law_due"] spRi) : FnOk P w K mg base (L2.CX P w) 3 f fd ["_law_told", "_law_due"] spRr := by
  refine F.okX sc_rr (fun vs H Q E h => ?_) (fun cdv A outer s H vs Q E hr h => ?_)
  · obtain ⟨a, b, xs, ps, qs, rfl, _⟩ := h
    rfl
  · obtain ⟨a, b, xs, ps, qs, rfl, ha, hx, ⟨ys, hb, hy⟩, few, k⟩ := h
    have nd := sc_rr.nd
    have lx := hx.len
    have ly := hy.len
    rw [List.length_map] at lx ly
    have hbS : ∀ {H'}, Same H H' → SqL K H' b ys ∨ SqT K H' b ys := fun {H'} sm => hb.elim (fun z => .inl (SqL.of (sm _ _ z))) fun z => .inr (SqT.of (sm _ _ z))
    refine ⟨_, pss_cons (ps_if (PW.pt (pw_or (pt_not (pt_val (pe_callB call_isi (by rfl) B.isi (by decide +kernel) (pa_cons (pv 0) (pa_cons (pe_bltn (v := .ty "tuple") (by rfl) B.tuple (by decide +kernel) rfl) pa_nil)))))
        (pw_or1 (pt_cmpR op_ne (pe_callB call_len_seq (by rfl) B.len PySem.boot_len (pa_cons (pv 0) pa_nil)) (pe_callB call_len_seq (by rfl) B.len PySem.boot_len (pa_cons (pv 1) pa_nil)) (by rfl))))) (pss_one (ps_ret pe_bl)) pss_nil)
      (pss_one (ps_ret (pe_cmpR op_eq (pe_callB call_len_seq (by rfl) B.len PySem.boot_len (pa_cons (pe_lc (own := [("_law_k", 2)]) (g := gName 2)
        (tt := tNot (tTest (tCall spRi [] (fun _ _ _ => False) (tCons (tOp (rIxT K) (tVar 0) (tVar 2)) (tCons (tOp (fun x y H Q => rIxL K x y H Q ∨ rIxT K x y H Q) (tVar 1) (tVar 2)) tNil))))) (te := tVar 2) rfl nd
        (pi_range1 (by rfl) B.range (pa_cons (pe_callB call_len_seq (by rfl) B.len PySem.boot_len (pa_cons (pv 1) pa_nil)) pa_nil))
        (blkOk_by (N := ["_law_told", "_law_due", "_law_k"]) (sc := defScope s_rr) (by decide +kernel)) (fun _ _ _ _ _ => pg_name (i := 2) nd rfl (.inl rfl))
        (fun _ _ _ _ _ => pts_one (pt_not (pt_val (pe_df RI hr (by rfl) passE0 (pa_cons (pe_ix ix_tup (pv 0) (pv 2) (fun _ _ => rfl)) (pa_cons (pe_ix (IxR.or ix_list ix_tup) (pv 1) (pv 2) (fun _ _ => rfl)) pa_nil)))))) (fun _ _ _ _ _ => pv 2)) pa_nil)) pe_int (nomark _)))), ?_⟩
    refine ⟨_, rfl, _, _, _, _, _, rfl, .ty _, .base (.tup ha), kit_ty (r := true) (by decide +kernel), _, rfl, iteF ⟨_, rfl, a, xs, rfl, .inr (SqT.of ha), _, rfl, b, ys, rfl, hbS (Same.refl H), rfl, _, rfl, ?_⟩⟩
    rw [dec_int, lx, ly]
    by_cases el : ps.length = qs.length
    · rw [show (!(((ps.length : Nat) : Int) == ((qs.length : Nat) : Int))) = false by simp [el]]
      refine iteF ⟨_, rfl, b, ys, rfl, hbS (Same.refl H), _, rfl, by omega, by omega, fun D nD => ?_⟩
      rw [ly]
      refine lc_range (lo := 0) (n := qs.length) (fun i H' => Same H H' ∧ H' D = some (.lst (nvs (((List.range qs.length).take i).filter fun k => !sameAt ps qs k)))) ⟨same_upd nD, upd_same⟩ (fun i H' hi ⟨sm, hD⟩ => ?_) (fun H' ⟨sm, hD⟩ => ?_)
      · refine ⟨rfl, ?_⟩
        rw [Int.zero_add]
        have hi1 : i < xs.length := by omega
        have hi2 : i < ys.length := by omega
        obtain ⟨p, pa, ep, e1, hp⟩ := dta_map (hx.mono sm) (List.getElem?_eq_getElem hi1)
        obtain ⟨q, qa, eq, e2, hq⟩ := dta_map (hy.mono sm) (List.getElem?_eq_getElem hi2)
        refine ⟨_, rfl, _, rfl, a, xs, (i : Int), _, rfl, rfl, SqT.of (sm _ _ ha), atI_nat (List.getElem?_eq_getElem hi1), _, rfl, _, rfl, ?_⟩
        have go : ∀ {Q : VK}, Q ys[i] H' → (rIxL K (.ref b) (.int (i : Int)) H' Q ∨ rIxT K (.ref b) (.int (i : Int)) H' Q) := fun {Q} q => (hbS sm).elim (fun z => .inl ⟨b, ys, _, _, rfl, rfl, z, atI_nat (List.getElem?_eq_getElem hi2), q⟩) fun z => .inr ⟨b, ys, _, _, rfl, rfl, z, atI_nat (List.getElem?_eq_getElem hi2), q⟩
        refine go ?_
        rw [e1, e2]
        refine ⟨pa, qa, [p.1, p.2], [q.1, q.2], rfl, hp, .inr hq, fun H2 s2 => ⟨_, rfl, ?_⟩⟩
        have es : decide ([p.1, p.2] = [q.1, q.2]) = sameAt ps qs i := by
          unfold sameAt
          rw [List.getD_eq_getElem?_getD, List.getD_eq_getElem?_getD, ep, eq]
          rfl
        rw [es]
        have hD2 := s2 _ _ hD
        have sm2 := sm.trans s2
        cases z : sameAt ps qs i with
        | true =>
          refine iteF ⟨sm2, ?_⟩
          rw [filter_take _ _ hi, z]
          simpa using hD2
        | false =>
          refine iteT ⟨_, rfl, _, hD2, ?_, fun c o ec => ?_, ?_⟩
          · rw [nvs_len, sizeLine_eq]
            have g1 := List.length_filter_le (fun k => !sameAt ps qs k) ((List.range qs.length).take i)
            rw [List.length_take, List.length_range] at g1
            omega
          · rw [upd_ne (ne_of_none ec nD)]
            exact sm2 _ _ ec
          · rw [upd_same, filter_take _ _ hi, z]
            unfold nvs
            rw [List.map_append]
            rfl
      · rw [List.take_of_length_le (by rw [List.length_range]; exact Nat.le_refl _)] at hD
        refine ⟨D, _, rfl, .inl (SqL.of hD), rfl, ?_⟩
        rw [dec_int, nvs_len, sameAt_all el]
        exact k H' sm
    · rw [show (!(((ps.length : Nat) : Int) == ((qs.length : Nat) : Int))) = true by simp; omega]
      have := k.now
      rw [decide_eq_false (fun e => el (by rw [e]))] at this
      exact iteT this
/-- _law_web_is -/
def spWis (C : Addr) : Sp := fun vs H Q _ => ∃ (p b : Addr) (n m : Int) (q qs : List Pr), vs = [.ref p, .int m, .ref b] ∧ WebAt C H p n q ∧ SqP H b qs ∧ qs.length ≤ 1000 ∧ Ret (.bl (decide (n = m) && decide (q = qs))) H Q
theorem sc_wis : FnScope ["_law_web", "_law_many", "_law_pairs"] ["_law_web", "_law_many", "_law_pairs"] (defScope s_wis) := ⟨rfl, rfl, rfl, by decide +kernel, rfl, by decide +kernel, by decide +kernel⟩
theorem SqP.mono {H H' : Hp} (s : Same H H') {b : Addr} {qs : List Pr} : SqP H b qs → SqP H' b qs := fun ⟨ys, h, d⟩ => ⟨ys, h.elim (fun z => .inl (s _ _ z)) fun z => .inr (s _ _ z), d.mono s⟩
theorem ok_wis {C : Addr} (F : Fun K "_law_web_is" "_law_web_is" s_wis f fd) (B : Blt2 mg) (T : WebI K C) (g : mg "Web" = some (.ref C)) (LI : Df P w K mg base "_law_int" 1 ["_law_value"] spInt) (RR : Df P w K mg base "_law_rows_are" 3 ["_law_told", "_law_due"] spRr)
    (LN : Mt P w K mg base C "__len__" 1 ["self"] (spLn C)) : FnOk P w K mg base (L2.CX P w) 4 f fd ["_law_web", "_law_many", "_law_pairs"] (spWis C) := by
  refine F.okX sc_wis (fun vs H Q E h => ?_) (fun cdv A outer s H vs Q E hr h => ?_)
  · obtain ⟨p, b, n, m, q, qs, rfl, _⟩ := h
    rfl
  · obtain ⟨p, b, n, m, q, qs, rfl, W, hs, few, k⟩ := h
    obtain ⟨ddx, c, mm, xs, h1, h2, h3⟩ := W.tuple
    have hr1 : Room 1 _ := hr.mono (by decide)
    have hr2 : Room 2 _ := hr.mono (by decide)
    refine ⟨_, pss_cons (ps_if (PW.pt (pw_or (pt_not (pt_val (pe_callB call_isi (by rfl) B.isi (by decide +kernel) (pa_cons (pv 0) (pa_cons (pe_glob (v := .ref C) (by rfl) g rfl) pa_nil)))))
        (pw_or (pt_not (pt_val (pe_df LI hr1 (by rfl) passUp (pa_cons (pe_fld (pv 0) rfl) pa_nil)))) (pw_or1 (pt_cmpR op_ne (pe_fld (pv 0) rfl) (pv 1) (by rfl)))))) (pss_one (ps_ret pe_bl)) pss_nil)
      (pss_one (ps_ret (pe_and (pe_df RR hr (by rfl) passUp (pa_cons (pe_fld (pv 0) rfl) (pa_cons (pv 2) pa_nil))) (pe_one (pe_cmpR op_eq (pe_callB (cr_lenO LN hr2 passUp) (by rfl) B.len PySem.boot_len (pa_cons (pv 0) pa_nil)) (pv 1) (nomark _)))))), ?_⟩
    refine ⟨_, rfl, ?_⟩
    dsimp only [tCons, tC, tNil]
    refine isi_web T (.inl ⟨rfl, p, n, q, rfl, W⟩) ?_
    refine ⟨_, rfl, iteF ⟨_, rfl, p, C, ddx, _, _, rfl, h1, T.cl, T.nm, wf_many _ _ _, .int n, .int n, rfl, .int n, _, rfl, iteF ⟨_, rfl, p, C, ddx, _, _, rfl, h1, T.cl, T.nm, wf_many _ _ _, _, rfl, rfl, _, rfl, ?_⟩⟩⟩
    rw [dec_int]
    by_cases en : n = m
    · subst en
      rw [show (!(n == n)) = false by simp]
      refine iteF ⟨_, rfl, p, C, ddx, _, _, rfl, h1, T.cl, T.nc, wf_clashes _ _ _, _, rfl, c, b, xs, q, qs, rfl, h2, h3, hs, few, fun H1 s1 => ⟨_, rfl, ?_⟩⟩
      by_cases eq : q = qs
      · rw [decide_eq_true eq]
        refine iteT ⟨_, rfl, p, ddx, _, rfl, s1 _ _ h1, p, n, q, rfl, W.mono s1, fun H2 s2 => ⟨n.toNat, rfl, by have := W.n8; omega, _, rfl, rfl, ?_⟩⟩
        rw [dec_int, show (((n.toNat : Nat) : Int) == n) = true by rw [beq_iff_eq]; have := W.n0; omega]
        have := k H2 (s1.trans s2)
        rw [decide_eq_true rfl, decide_eq_true eq] at this
        exact this
      · rw [decide_eq_false eq]
        have := k H1 s1
        rw [decide_eq_true rfl, decide_eq_false eq] at this
        exact iteF this
    · rw [show (!(n == m)) = true by simp [en]]
      have := k.now
      rw [decide_eq_false en, Bool.false_and] at this
      exact iteT this
end
end K0
set_option Elab.async false
set_option linter.all false
set_option maxRecDepth 100000
set_option maxHeartbeats 4000000
namespace K0
open PySem PySem.Spec PyProof.Rows L2
/-! ### rows of pairs that grow in their order -/
structure Lx (n : Int) (P : Pr → Prop) (i c : Int) (rs : List Pr) : Prop where
  srt : rs.Pairwise plt
  mem : ∀ z, z ∈ rs ↔ (0 ≤ z.1 ∧ z.1 < z.2 ∧ z.2 < n) ∧ (z.1 < i ∨ (z.1 = i ∧ z.2 < c)) ∧ P z
theorem Lx.start {n : Int} {P : Pr → Prop} : Lx n P 0 1 [] := ⟨.nil, fun z => ⟨fun h => (by cases h), fun ⟨h1, h2, _⟩ => (by omega)⟩⟩
theorem Lx.row {n : Int} {P : Pr → Prop} {i : Int} {rs : List Pr} (h : Lx n P i n rs) : Lx n P (i + 1) (i + 2) rs := ⟨h.srt, fun z => by
  rw [h.mem]
  constructor
  · rintro ⟨h1, h2, h3⟩
    exact ⟨h1, by omega, h3⟩
  · rintro ⟨h1, h2, h3⟩
    exact ⟨h1, by omega, h3⟩⟩
theorem Lx.skip {n : Int} {P : Pr → Prop} {i c : Int} {rs : List Pr} (h : Lx n P i c rs) (no : ¬ P (i, c)) : Lx n P i (c + 1) rs := ⟨h.srt, fun z => by
  rw [h.mem]
  constructor
  · rintro ⟨h1, h2, h3⟩
    exact ⟨h1, by omega, h3⟩
  · rintro ⟨h1, h2, h3⟩
    refine ⟨h1, ?_, h3⟩
    rcases h2 with h2 | ⟨h2, h4⟩
    · exact .inl h2
    · refine .inr ⟨h2, ?_⟩
      rcases Int.lt_or_le z.2 c with h5 | h5
      · exact h5
      · exact absurd h3 (by rw [show z = (i, c) from Prod.ext h2 (by omega)]; exact no)⟩
theorem Lx.add {n : Int} {P : Pr → Prop} {i c : Int} {rs : List Pr} (h : Lx n P i c rs) (yes : P (i, c)) (r : 0 ≤ i ∧ i < c ∧ c < n) : Lx n P i (c + 1) (rs ++ [(i, c)]) := ⟨by
  rw [List.pairwise_append]
  refine ⟨h.srt, by simp, fun a ha b hb => ?_⟩
  rw [List.mem_singleton.mp hb]
  have := ((h.mem a).mp ha).2.1
  exact this, fun z => by
  rw [List.mem_append, h.mem, List.mem_singleton]
  constructor
  · rintro (⟨h1, h2, h3⟩ | e)
    · exact ⟨h1, by omega, h3⟩
    · rw [e]
      exact ⟨r, .inr ⟨rfl, by dsimp only; omega⟩, yes⟩
  · rintro ⟨h1, h2, h3⟩
    by_cases e : z = (i, c)
    · exact .inr e
    · refine .inl ⟨h1, ?_, h3⟩
      rcases h2 with h2 | ⟨h2, h4⟩
      · exact .inl h2
      · refine .inr ⟨h2, ?_⟩
        rcases Int.lt_or_le z.2 c with h5 | h5
        · exact h5
        · exact absurd (Prod.ext h2 (by omega)) e⟩
theorem Lx.change {n : Int} {P P' : Pr → Prop} {i c : Int} {rs : List Pr} (h : Lx n P i c rs) (e : ∀ z, (z.1 < i ∨ (z.1 = i ∧ z.2 < c)) → (P z ↔ P' z)) : Lx n P' i c rs := ⟨h.srt, fun z => by
  rw [h.mem]
  exact and_congr Iff.rfl (and_congr_right fun b => e z b)⟩
theorem Lx.fin {n : Int} {P : Pr → Prop} {c : Int} {rs : List Pr} (h : Lx n P n c rs) : ∀ z, z ∈ rs ↔ (0 ≤ z.1 ∧ z.1 < z.2 ∧ z.2 < n) ∧ P z := fun z => by
  rw [h.mem]
  constructor
  · rintro ⟨h1, _, h3⟩
    exact ⟨h1, h3⟩
  · rintro ⟨h1, h3⟩
    exact ⟨h1, .inl (by omega), h3⟩
theorem Lx.cl {n : Int} {P : Pr → Prop} {i c : Int} {rs : List Pr} (h : Lx n P i c rs) : Cl n rs := ⟨h.srt, fun z hz => ((h.mem z).mp hz).1⟩
/-- the list at D holds the new pairs rs -/
def Grow (H : Hp) (D : Addr) (rs : List Pr) : Prop := ∃ l : List (Addr × Pr), H D = some (.lst (l.map fun z => V.ref z.1)) ∧ l.map (·.2) = rs ∧ PrsAt H l
theorem Grow.mono {H H' : Hp} {D : Addr} {rs : List Pr} (s : Same H H') : Grow H D rs → Grow H' D rs := fun ⟨l, h, e, p⟩ => ⟨l, s _ _ h, e, p.mono s⟩
theorem Grow.push {H : Hp} {D u : Addr} {rs : List Pr} {x y : Int} (g : Grow H D rs) (nu : H u = none) {xs : List V} (hx : H D = some (.lst xs)) : Grow (upd (upd H u (.tup [.int x, .int y])) D (.lst (xs ++ [.ref u]))) D (rs ++ [(x, y)]) := by
  obtain ⟨l, h, e, p⟩ := g
  rw [h] at hx
  cases hx
  refine ⟨l ++ [(u, (x, y))], by rw [upd_same, List.map_append]; rfl, by rw [List.map_append, e]; rfl, fun z hz => ?_⟩
  have s2 : Same H (upd H u (.tup [.int x, .int y])) := same_upd nu
  have hz2 : (upd H u (.tup [.int x, .int y])) z.1 = some (.tup [.int z.2.1, .int z.2.2]) := by
    rcases List.mem_append.mp hz with hz | hz
    · exact s2 _ _ (p z hz)
    · rw [List.mem_singleton.mp hz]
      exact upd_same
  have zD : z.1 ≠ D := fun e => by
    rw [e, s2 _ _ h] at hz2
    cases hz2
  rw [upd_ne zD]
  exact hz2
theorem Grow.at {H : Hp} {D : Addr} {rs : List Pr} (g : Grow H D rs) : ∃ xs, H D = some (.lst xs) ∧ xs.length = rs.length ∧ DtAll H xs (rs.map prD) := by
  obtain ⟨l, h, e, p⟩ := g
  refine ⟨_, h, by rw [← e, List.length_map, List.length_map], ?_⟩
  rw [← e, List.map_map]
  exact dtAll_prs p
theorem prs_any {q : List Pr} {p : Pr} : ((q.map prD).any fun z => PyData.eqv z (prD p)) = decide (p ∈ q) := by
  induction q with
  | nil => rfl
  | cons a q ih =>
    rw [List.map_cons, List.any_cons, ih, prD_eqv]
    by_cases e : a = p
    · subst e; simp
    · have : ¬ p = a := fun z => e z.symm
      simp [e, this]
/-- a list of pairs -/
def Ls (H : Hp) (b : Addr) (q : List Pr) : Prop := ∃ ys, H b = some (.lst ys) ∧ DtAll H ys (q.map prD)
theorem Ls.mono {H H' : Hp} (s : Same H H') {b : Addr} {q : List Pr} : Ls H b q → Ls H' b q := fun ⟨ys, h, d⟩ => ⟨ys, s _ _ h, d.mono s⟩
theorem Ls.dp {K : PySem.W.Frag} {H : Hp} {b : Addr} {q : List Pr} : Ls H b q → Dp K H (.ref b) (.list (q.map prD)) := fun ⟨ys, h, d⟩ => (Dt.lst h d).dp
theorem Ls.sqp {H : Hp} {b : Addr} {q : List Pr} : Ls H b q → SqP H b q := fun ⟨ys, h, d⟩ => ⟨ys, .inl h, d⟩
theorem Ls.sq {K : PySem.W.Frag} {H : Hp} {b : Addr} {q : List Pr} : Ls H b q → Sq K H b (q.map prD) := fun ⟨ys, h, d⟩ => .lst h d
theorem Grow.ls {H : Hp} {D : Addr} {rs : List Pr} (g : Grow H D rs) : Ls H D rs := let ⟨xs, h, _, d⟩ := g.at; ⟨xs, h, d⟩
end K0
set_option Elab.async false
set_option linter.all false
set_option maxRecDepth 100000
set_option maxHeartbeats 4000000
namespace K0
open PySem PySem.Spec PyProof.Rows L2
theorem hasP_mm {n : Int} {q : List Pr} (h : Cl n q) (x y : Nat) : decide (((min (x : Int) y, max (x : Int) y) : Pr) ∈ q) = hasP q x y := by
  unfold hasP
  rw [Bool.eq_iff_iff, Bool.or_eq_true, decide_eq_true_iff, decide_eq_true_iff, decide_eq_true_iff]
  rcases Nat.lt_trichotomy x y with c | c | c
  · rw [show min (x : Int) y = x by omega, show max (x : Int) y = y by omega]
    refine ⟨.inl, fun z => z.elim (fun z => z) fun z => ?_⟩
    have := h.rng _ z
    dsimp only at this
    omega
  · subst c
    rw [show min (x : Int) x = x by omega, show max (x : Int) x = x by omega]
    exact ⟨.inl, fun z => z.elim (fun z => z) fun z => z⟩
  · rw [show min (x : Int) y = y by omega, show max (x : Int) y = x by omega]
    refine ⟨.inr, fun z => z.elim (fun z => ?_) fun z => z⟩
    have := h.rng _ z
    dsimp only at this
    omega
def rMinI : List V → Hp → VK → Prop := fun xs H Q => ∃ i j : Int, xs = [.int i, .int j] ∧ Q (.int (if j < i then j else i)) H
def rMaxI : List V → Hp → VK → Prop := fun xs H Q => ∃ i j : Int, xs = [.int i, .int j] ∧ Q (.int (if j > i then j else i)) H
theorem c_min {X : Cx} (hc : X.calm = true) : CallR X (.builtin "min") rMinI := call_min2 hc
theorem c_max {X : Cx} (hc : X.calm = true) : CallR X (.builtin "max") rMaxI := call_max2 hc
section
variable {P : Program} {w : World} {K : PySem.W.Frag} {mg : Str → Option Value} {base : Heap} {f : Addr} {fd : FuncData}
abbrev s_ne : Stmt := top 30
abbrev s_bw : Stmt := top 38
abbrev s_co : Stmt := top 29
abbrev s_pa : Stmt := top 31
/-- _law_near -/
def spNe : Sp := fun vs H Q _ => ∃ (b : Addr) (n : Int) (x : Nat) (q : List Pr), vs = [.int n, .ref b, .int (x : Int)] ∧ 0 ≤ n ∧ n ≤ 8 ∧ Cl n q ∧ Ls H b q ∧ ∀ H' a, Same H H' → H a = none → H' a = some (.lst (nvs (nearOf n q x))) → Q (.ref a) H'
theorem sc_ne : FnScope ["_law_many", "_law_pairs", "_law_x", "_law_y"] ["_law_many", "_law_pairs", "_law_x"] (defScope s_ne) := ⟨rfl, rfl, rfl, by decide +kernel, rfl, by decide +kernel, by decide +kernel⟩
theorem ok_ne (F : Fun K "_law_near" "_law_near" s_ne f fd) (B : Blt2 mg) : FnOk P w K mg base (L2.CX P w) 2 f fd ["_law_many", "_law_pairs", "_law_x"] spNe := by
  refine F.okX sc_ne (fun vs H Q E h => ?_) (fun cdv A outer s H vs Q E hr h => ?_)
  · obtain ⟨b, n, x, q, rfl, _⟩ := h
    rfl
  · obtain ⟨b, n, x, q, rfl, n0, n8, cl, hl, k⟩ := h
    have nd := sc_ne.nd
    have hu : (A.deeper (envOfC "_law_near" (defScope s_ne) s.heap.objs.size f cdv)).units + 65 < cLine := by have := hr.un; omega
    refine ⟨_, pss_one (ps_ret (pe_lc (own := [("_law_y", 3)]) (g := gName 3)
      (tt := tTest (tOp (rInD K) (tTup (tCons (tCB rMinI (tCons (tVar 2) (tCons (tVar 3) tNil))) (tCons (tCB rMaxI (tCons (tVar 2) (tCons (tVar 3) tNil))) tNil))) (tVar 1)))
      (te := tVar 3) rfl nd (pi_range1 (by rfl) B.range (pa_cons (pv 0) pa_nil))
        (blkOk_by (N := ["_law_many", "_law_pairs", "_law_x", "_law_y"]) (sc := defScope s_ne) (by decide +kernel)) (fun _ _ _ _ _ => pg_name (i := 3) nd rfl (.inl rfl))
        (fun _ _ _ _ _ => pts_one (pt_cmpR (op_inD hu) (pe_tup (pa_cons (pe_callB (c_min rfl) (by rfl) B.min (by decide +kernel) (pa_cons (pv 2) (pa_cons (pv 3) pa_nil))) (pa_cons (pe_callB (c_max rfl) (by rfl) B.max (by decide +kernel) (pa_cons (pv 2) (pa_cons (pv 3) pa_nil))) pa_nil))) (pv 1) (by rfl))) (fun _ _ _ _ _ => pv 3))), ?_⟩
    refine ⟨_, rfl, n, rfl, by omega, by omega, fun D nD => ?_⟩
    refine lc_range (lo := 0) (n := n.toNat) (fun i H' => Same H H' ∧ H' D = some (.lst (nvs (((List.range n.toNat).take i).filter (hasP q x))))) ⟨same_upd nD, upd_same⟩ (fun i H' hi ⟨sm, hD⟩ => ?_) (fun H' ⟨sm, hD⟩ => ?_)
    · refine ⟨rfl, ?_⟩
      rw [Int.zero_add]
      refine ⟨_, rfl, _, rfl, _, _, rfl, _, rfl, _, rfl, _, _, rfl, (by show 2 ≤ sizeLine; decide), fun t nt => ?_⟩
      rw [min2, max2]
      have s2 : Same H' (upd H' t (.tup [.int (min (x : Int) i), .int (max (x : Int) i)])) := same_upd nt
      refine ⟨_, rfl, prD (min (x : Int) i, max (x : Int) i), _, (dt_pr (p := (min (x : Int) i, max (x : Int) i)) upd_same).dp, (hl.mono (sm.trans s2)).dp, prD_shaped _, prsL_shaped _, _, rfl, ?_⟩
      rw [prs_any, hasP_mm cl]
      cases e : hasP q x i with
      | false =>
        refine iteF ⟨sm.trans s2, ?_⟩
        rw [filter_take _ _ hi, e, s2 _ _ hD]
        simp
      | true =>
        refine iteT ⟨_, rfl, _, s2 _ _ hD, ?_, fun b o eb => ?_, ?_⟩
        · rw [nvs_len, sizeLine_eq]
          have g1 := List.length_filter_le (hasP q x) ((List.range n.toNat).take i)
          rw [List.length_take, List.length_range] at g1
          omega
        · rw [upd_ne (ne_of_none eb nD)]
          exact s2 _ _ (sm _ _ eb)
        · rw [upd_same, filter_take _ _ hi, e]
          unfold nvs
          rw [List.map_append]
          rfl
    · rw [List.take_of_length_le (by rw [List.length_range]; exact Nat.le_refl _)] at hD
      exact k H' D sm nD hD
/-- _law_backward -/
def spBw : Sp := fun vs H Q _ => ∃ (b : Addr) (xs : List V), vs = [.ref b] ∧ H b = some (.lst xs) ∧ xs.length ≤ 1000 ∧ ∀ H' a, Same H H' → H a = none → H' a = some (.lst xs.reverse) → Q (.ref a) H'
theorem sc_bw : FnScope ["_law_things", "_law_k"] ["_law_things"] (defScope s_bw) := ⟨rfl, rfl, rfl, by decide +kernel, rfl, by decide +kernel, by decide +kernel⟩
def rLenI (K : PySem.W.Frag) : List V → Hp → VK → Prop := fun xs H Q => ∃ p ys, xs = [.ref p] ∧ (SqL K H p ys ∨ SqT K H p ys) ∧ Q (.int ys.length) H
theorem c_len {X : Cx} : CallR X (.builtin "len") (rLenI X.K) := call_len_seq
def rSubI : R2 := rI0 fun i j => .int (i - j)
theorem o_sub {X : Cx} : OpR X (binaryOp .Sub) rSubI := op_sub
theorem ok_bw (F : Fun K "_law_backward" "_law_backward" s_bw f fd) (B : Blt2 mg) : FnOk P w K mg base (L2.CX P w) 1 f fd ["_law_things"] spBw := by
  refine F.okX sc_bw (fun vs H Q E h => ?_) (fun cdv A outer s H vs Q E hr h => ?_)
  · obtain ⟨b, xs, rfl, _⟩ := h
    rfl
  · obtain ⟨b, xs, rfl, hb, few, k⟩ := h
    have nd := sc_bw.nd
    refine ⟨_, pss_one (ps_ret (pe_lc (own := [("_law_k", 1)]) (g := gName 1) (tt := tYes)
      (te := tOp (rIxL K) (tVar 0) (tOp rSubI (tOp rSubI (tCB (rLenI K) (tCons (tVar 0) tNil)) (tC (.int 1))) (tVar 1))) rfl nd (pi_range1 (by rfl) B.range (pa_cons (pe_callB c_len (by rfl) B.len PySem.boot_len (pa_cons (pv 0) pa_nil)) pa_nil))
        (blkOk_by (N := ["_law_things", "_law_k"]) (sc := defScope s_bw) (by decide +kernel)) (fun _ _ _ _ _ => pg_name (i := 1) nd rfl (.inl rfl)) (fun _ _ _ _ _ => pts_nil)
        (fun _ _ _ _ _ => pe_ix ix_list (pv 0) (pe_op o_sub (pe_op o_sub (pe_callB c_len (by rfl) B.len PySem.boot_len (pa_cons (pv 0) pa_nil)) pe_int) (pv 1)) (fun _ _ => rfl)))), ?_⟩
    refine ⟨_, rfl, b, xs, rfl, .inl (SqL.of hb), _, rfl, by omega, by omega, fun D nD => ?_⟩
    rw [Int.toNat_natCast]
    refine lc_range (lo := 0) (n := xs.length) (fun i H' => Same H H' ∧ H' D = some (.lst (xs.reverse.take i))) ⟨same_upd nD, upd_same⟩ (fun i H' hi ⟨sm, hD⟩ => ?_) (fun H' ⟨sm, hD⟩ => ?_)
    · refine ⟨rfl, ?_⟩
      rw [Int.zero_add]
      have hi2 : i < xs.reverse.length := by rw [List.length_reverse]; exact hi
      have ej : xs[xs.length - 1 - i]? = some (xs.reverse[i]) := by
        rw [List.getElem?_eq_getElem (by omega), List.getElem_reverse]
      refine ⟨_, rfl, _, rfl, b, xs, rfl, .inl (SqL.of (sm _ _ hb)), _, _, rfl, rfl, _, rfl, _, _, rfl, rfl, b, xs, ((xs.length - 1 - i : Nat) : Int), _, rfl, ?_, SqL.of (sm _ _ hb), atI_nat ej, _, hD, ?_, fun c o ec => ?_, ?_⟩
      · have e0 : ((xs.length : Nat) : Int) - 1 - (i : Int) = ((xs.length - 1 - i : Nat) : Int) := by omega
        exact congrArg V.int e0
      · rw [List.length_take, List.length_reverse, sizeLine_eq]
        omega
      · rw [upd_ne (ne_of_none ec nD)]
        exact sm _ _ ec
      · rw [upd_same, List.take_succ, List.getElem?_eq_getElem hi2]
        rfl
    · rw [show xs.length = xs.reverse.length from List.length_reverse.symm, List.take_length] at hD
      exact k H' D sm nD hD
end
end K0
set_option Elab.async false
set_option linter.all false
set_option maxRecDepth 100000
set_option maxHeartbeats 4000000
namespace K0
open PySem PySem.Spec PyProof.Rows L2
section
variable {P : Program} {w : World} {K : PySem.W.Frag} {mg : Str → Option Value} {base : Heap} {f : Addr} {fd : FuncData}
/-- _law_contrary -/
def spCo : Sp := fun vs H Q _ => ∃ (b : Addr) (n : Int) (q : List Pr), vs = [.int n, .ref b] ∧ 0 ≤ n ∧ n ≤ 8 ∧ Ls H b q ∧ ∀ H' a rs, Same H H' → H a = none → Grow H' a rs → Lx n (fun z => z ∉ q) n (n + 1) rs → Q (.ref a) H'
theorem sc_co : FnScope ["_law_many", "_law_pairs", "_law_rest", "_law_x", "_law_y"] ["_law_many", "_law_pairs"] (defScope s_co) := ⟨rfl, rfl, rfl, by decide +kernel, rfl, by decide +kernel, by decide +kernel⟩
theorem same_keep {H H' : Hp} {D : Addr} {o : HO} (n : H D = none) (s : Same H H') : Same H (upd H' D o) := fun b u e => by
  rw [upd_ne (ne_of_none e n)]
  exact s b u e
theorem ok_co (F : Fun K "_law_contrary" "_law_contrary" s_co f fd) (B : Blt2 mg) : FnOk P w K mg base (L2.CX P w) 1 f fd ["_law_many", "_law_pairs"] spCo := by
  refine F.okX sc_co (fun vs H Q E h => ?_) (fun cdv A outer s H vs Q E hr h => ?_)
  · obtain ⟨b, n, q, rfl, _⟩ := h
    rfl
  · obtain ⟨b, n, q, rfl, n0, n8, hl, k⟩ := h
    have nd := sc_co.nd
    have hu : (A.deeper (envOfC "_law_contrary" (defScope s_co) s.heap.objs.size f cdv)).units + 65 < cLine := by have := hr.un; omega
    refine ⟨_, pss_cons (ps_set (i := 2) nd rfl (.inl rfl) (pe_lst pa_nil))
      (pss_cons (ps_for (passes_of rfl) rfl (pi_range1 (by rfl) B.range (pa_cons (pv 0) pa_nil)) (pg_name (i := 3) nd rfl (.inl rfl))
        (pss_one (ps_for (passes_of rfl) rfl (pi_range2 (by rfl) B.range (pa_cons (pe_op op_add (pv 3) pe_int) (pa_cons (pv 0) pa_nil))) (pg_name (i := 4) nd rfl (.inl rfl))
          (pss_one (ps_if (pt_cmpR (op_notInD hu) (pe_tup (pa_cons (pv 3) (pa_cons (pv 4) pa_nil))) (pv 1) (by rfl)) (pss_one (ps_expr (pe_lapp (pv 2) (pa_cons (pe_tup (pa_cons (pv 3) (pa_cons (pv 4) pa_nil))) pa_nil)))) pss_nil)))))
      (pss_one (ps_ret (pv 2)))), ?_⟩
    refine ⟨by show 0 ≤ sizeLine; exact Nat.zero_le _, fun D nD => ?_⟩
    let P1 : Nat → L2.St → Hp → Prop := fun i σ H' => ∃ o3 o4 rs, σ = [some (.int n), some (.ref b), some (.ref D), o3, o4] ∧ Same H H' ∧ Grow H' D rs ∧ Lx n (fun z => z ∉ q) i (i + 1) rs
    refine ⟨_, rfl, n, rfl, by omega, by omega, for_range (n := n.toNat) P1 ⟨none, none, [], rfl, same_upd nD, ⟨[], upd_same, rfl, fun z hz => by cases hz⟩, by simpa using Lx.start⟩ (fun i σ H' hi h => ?_) (fun σ H' h => ?_)⟩
    · obtain ⟨o3, o4, rs, rfl, sm, g, lx⟩ := h
      rw [Int.zero_add]
      let P2 : Nat → L2.St → Hp → Prop := fun t σ H' => ∃ o4 rs, σ = [some (.int n), some (.ref b), some (.ref D), some (.int (i : Int)), o4] ∧ Same H H' ∧ Grow H' D rs ∧ Lx n (fun z => z ∉ q) i ((i : Int) + 1 + t) rs
      refine ⟨_, rfl, _, _, rfl, rfl, _, rfl, _, _, rfl, ⟨by omega, by omega, by omega, by omega⟩, for_range (n := (n - ((i : Int) + 1)).toNat) P2 ⟨o4, rs, rfl, sm, g, by simpa using lx⟩ (fun t σ H2 ht h => ?_) (fun σ H2 h => ?_)⟩
      · obtain ⟨o4, rs, rfl, sm, g, lx⟩ := h
        refine ⟨_, rfl, _, rfl, (by show 2 ≤ sizeLine; decide), fun u nu => ?_⟩
        have s2 : Same H2 (upd H2 u (.tup [.int (i : Int), .int ((i : Int) + 1 + t)])) := same_upd nu
        refine ⟨_, rfl, prD ((i : Int), (i : Int) + 1 + t), _, (dt_pr (p := ((i : Int), (i : Int) + 1 + t)) upd_same).dp, (hl.mono (sm.trans s2)).dp, prD_shaped _, prsL_shaped _, _, rfl, ?_⟩
        rw [prs_any]
        have g2 := g.mono s2
        have r : 0 ≤ (i : Int) ∧ (i : Int) < (i : Int) + 1 + t ∧ (i : Int) + 1 + t < n := by omega
        by_cases m : (((i : Int), (i : Int) + 1 + t) : Pr) ∈ q
        · rw [decide_eq_true m]
          refine iteF ⟨_, rs, rfl, sm.trans s2, g2, ?_⟩
          have := lx.skip (by exact fun z => z m)
          rw [Int.add_assoc] at this
          exact_mod_cast this
        · rw [decide_eq_false m]
          obtain ⟨xs, hx, lxs, _⟩ := g2.at
          have few := lx.cl.few (by omega)
          refine iteT ⟨_, rfl, .inl ⟨rfl, xs, SqL.of hx⟩, _, rfl, _, rfl, (by show 2 ≤ sizeLine; decide), fun v nv => ?_⟩
          have s3 : Same (upd H2 u (.tup [.int (i : Int), .int ((i : Int) + 1 + t)])) (upd (upd H2 u (.tup [.int (i : Int), .int ((i : Int) + 1 + t)])) v (.tup [.int (i : Int), .int ((i : Int) + 1 + t)])) := same_upd nv
          refine ⟨D, xs, _, rfl, rfl, s3 _ _ hx, by rw [sizeLine_eq]; omega, ?_⟩
          refine ⟨_, rs ++ [((i : Int), (i : Int) + 1 + t)], rfl, same_keep nD ((sm.trans s2).trans s3), g2.push nv hx, ?_⟩
          have := lx.add m r
          rw [Int.add_assoc] at this
          exact_mod_cast this
      · obtain ⟨o4, rs, rfl, sm, g, lx⟩ := h
        rw [show (i : Int) + 1 + ((n - ((i : Int) + 1)).toNat : Int) = n by omega] at lx
        refine ⟨_, _, rs, rfl, sm, g, ?_⟩
        have := lx.row
        rw [show (i : Int) + 2 = (i : Int) + 1 + 1 by omega] at this
        exact_mod_cast this
    · obtain ⟨o3, o4, rs, rfl, sm, g, lx⟩ := h
      rw [show ((n.toNat : Nat) : Int) = n by omega] at lx
      exact ⟨_, rfl, k H' D rs sm nD g lx⟩
/-- _law_part -/
def spPa : Sp := fun vs H Q _ => ∃ (b t : Addr) (q : List Pr) (ts : List Int), vs = [.ref b, .ref t] ∧ Ls H b q ∧ H t = some (.lst (ts.map V.int)) ∧ ts.length ≤ 8 ∧
  ∀ H' a rs, Same H H' → H a = none → Grow H' a rs → Lx ts.length (fun z => ((ts.getD z.1.toNat 0, ts.getD z.2.toNat 0) : Pr) ∈ q) ts.length (ts.length + 1) rs → Q (.ref a) H'
theorem sc_pa : FnScope ["_law_pairs", "_law_things", "_law_kept", "_law_i", "_law_j"] ["_law_pairs", "_law_things"] (defScope s_pa) := ⟨rfl, rfl, rfl, by decide +kernel, rfl, by decide +kernel, by decide +kernel⟩
theorem ok_pa (F : Fun K "_law_part" "_law_part" s_pa f fd) (B : Blt2 mg) : FnOk P w K mg base (L2.CX P w) 1 f fd ["_law_pairs", "_law_things"] spPa := by
  refine F.okX sc_pa (fun vs H Q E h => ?_) (fun cdv A outer s H vs Q E hr h => ?_)
  · obtain ⟨b, t, q, ts, rfl, _⟩ := h
    rfl
  · obtain ⟨b, tt, q, ts, rfl, hl, ht0, n8, k⟩ := h
    have nd := sc_pa.nd
    have hu : (A.deeper (envOfC "_law_part" (defScope s_pa) s.heap.objs.size f cdv)).units + 65 < cLine := by have := hr.un; omega
    refine ⟨_, pss_cons (ps_set (i := 2) nd rfl (.inl rfl) (pe_lst pa_nil))
      (pss_cons (ps_for (passes_of rfl) rfl (pi_range1 (by rfl) B.range (pa_cons (pe_callB c_len (by rfl) B.len PySem.boot_len (pa_cons (pv 1) pa_nil)) pa_nil)) (pg_name (i := 3) nd rfl (.inl rfl))
        (pss_one (ps_for (passes_of rfl) rfl (pi_range2 (by rfl) B.range (pa_cons (pe_op op_add (pv 3) pe_int) (pa_cons (pe_callB c_len (by rfl) B.len PySem.boot_len (pa_cons (pv 1) pa_nil)) pa_nil))) (pg_name (i := 4) nd rfl (.inl rfl))
          (pss_one (ps_if (pt_cmpR (op_inD hu) (pe_tup (pa_cons (pe_ix ix_list (pv 1) (pv 3) (fun _ _ => rfl)) (pa_cons (pe_ix ix_list (pv 1) (pv 4) (fun _ _ => rfl)) pa_nil))) (pv 0) (by rfl)) (pss_one (ps_expr (pe_lapp (pv 2) (pa_cons (pe_tup (pa_cons (pv 3) (pa_cons (pv 4) pa_nil))) pa_nil)))) pss_nil)))))
      (pss_one (ps_ret (pv 2)))), ?_⟩
    refine ⟨by show 0 ≤ sizeLine; exact Nat.zero_le _, fun D nD => ?_⟩
    have s0 : Same H (upd H D (.lst [])) := same_upd nD
    have eL : (ts.map V.int).length = ts.length := List.length_map _
    obtain ⟨n, en⟩ : ∃ n : Int, n = ts.length := ⟨_, rfl⟩
    rw [← en] at k
    let PP : Pr → Prop := fun z => ((ts.getD z.1.toNat 0, ts.getD z.2.toNat 0) : Pr) ∈ q
    have tAt : ∀ {j : Nat}, j < ts.length → atI (ts.map V.int) (j : Int) = some (V.int (ts.getD j 0)) := fun {j} hj => atI_nat (by rw [List.getElem?_map, List.getElem?_eq_getElem hj, List.getD_eq_getElem?_getD, List.getElem?_eq_getElem hj]; rfl)
    let P1 : Nat → L2.St → Hp → Prop := fun i σ H' => ∃ o3 o4 rs, σ = [some (.ref b), some (.ref tt), some (.ref D), o3, o4] ∧ Same H H' ∧ Grow H' D rs ∧ Lx n PP i (i + 1) rs
    refine ⟨_, rfl, tt, _, rfl, .inl (SqL.of (s0 _ _ ht0)), _, rfl, by rw [eL]; omega, by rw [eL]; omega, ?_⟩
    rw [eL, Int.toNat_natCast]
    refine for_range (n := ts.length) P1 ⟨none, none, [], rfl, same_upd nD, ⟨[], upd_same, rfl, fun z hz => by cases hz⟩, by simpa using Lx.start⟩ (fun i σ H' hi h => ?_) (fun σ H' h => ?_)
    · obtain ⟨o3, o4, rs, rfl, sm, g, lx⟩ := h
      rw [Int.zero_add]
      let P2 : Nat → L2.St → Hp → Prop := fun t σ H' => ∃ o4 rs, σ = [some (.ref b), some (.ref tt), some (.ref D), some (.int (i : Int)), o4] ∧ Same H H' ∧ Grow H' D rs ∧ Lx n PP i ((i : Int) + 1 + t) rs
      refine ⟨_, rfl, _, _, rfl, rfl, _, rfl, tt, _, rfl, .inl (SqL.of (sm _ _ ht0)), _, _, rfl, ⟨by omega, by omega, by rw [eL]; omega, by rw [eL]; omega⟩, ?_⟩
      rw [eL, ← en]
      refine for_range (n := (n - ((i : Int) + 1)).toNat) P2 ⟨o4, rs, rfl, sm, g, by simpa using lx⟩ (fun t σ H2 ht h => ?_) (fun σ H2 h => ?_)
      · obtain ⟨o4, rs, rfl, sm, g, lx⟩ := h
        have ej : (i : Int) + 1 + t = ((i + 1 + t : Nat) : Int) := by omega
        rw [ej] at lx ⊢
        have hj : i + 1 + t < ts.length := by omega
        refine ⟨_, rfl, _, rfl, tt, _, (i : Int), _, rfl, rfl, SqL.of (sm _ _ ht0), tAt hi, _, rfl, _, rfl, tt, _, ((i + 1 + t : Nat) : Int), _, rfl, rfl, SqL.of (sm _ _ ht0), tAt hj, (by show 2 ≤ sizeLine; decide), fun u nu => ?_⟩
        have s2 : Same H2 (upd H2 u (.tup [.int (ts.getD i 0), .int (ts.getD (i + 1 + t) 0)])) := same_upd nu
        refine ⟨_, rfl, prD (ts.getD i 0, ts.getD (i + 1 + t) 0), _, (dt_pr (p := (ts.getD i 0, ts.getD (i + 1 + t) 0)) upd_same).dp, (hl.mono (sm.trans s2)).dp, prD_shaped _, prsL_shaped _, _, rfl, ?_⟩
        rw [prs_any]
        have g2 := g.mono s2
        have r : 0 ≤ (i : Int) ∧ (i : Int) < ((i + 1 + t : Nat) : Int) ∧ ((i + 1 + t : Nat) : Int) < n := by omega
        have ePP : PP ((i : Int), ((i + 1 + t : Nat) : Int)) ↔ ((ts.getD i 0, ts.getD (i + 1 + t) 0) : Pr) ∈ q := Iff.rfl
        have e1 : ((i + 1 + t : Nat) : Int) + 1 = (i : Int) + 1 + ((t + 1 : Nat) : Int) := by omega
        by_cases m : ((ts.getD i 0, ts.getD (i + 1 + t) 0) : Pr) ∈ q
        · rw [decide_eq_true m]
          obtain ⟨xs, hx, lxs, _⟩ := g2.at
          have few := lx.cl.few (by omega)
          refine iteT ⟨_, rfl, .inl ⟨rfl, xs, SqL.of hx⟩, _, rfl, _, rfl, (by show 2 ≤ sizeLine; decide), fun v nv => ?_⟩
          have s3 : Same (upd H2 u (.tup [.int (ts.getD i 0), .int (ts.getD (i + 1 + t) 0)])) (upd (upd H2 u (.tup [.int (ts.getD i 0), .int (ts.getD (i + 1 + t) 0)])) v (.tup [.int (i : Int), .int ((i + 1 + t : Nat) : Int)])) := same_upd nv
          refine ⟨D, xs, _, rfl, rfl, s3 _ _ hx, by rw [sizeLine_eq]; omega, ?_⟩
          refine ⟨_, rs ++ [((i : Int), ((i + 1 + t : Nat) : Int))], rfl, same_keep nD ((sm.trans s2).trans s3), g2.push nv hx, ?_⟩
          have := lx.add (ePP.mpr m) r
          rw [e1] at this
          exact this
        · rw [decide_eq_false m]
          refine iteF ⟨_, rs, rfl, sm.trans s2, g2, ?_⟩
          have := lx.skip (fun z => m (ePP.mp z))
          rw [e1] at this
          exact this
      · obtain ⟨o4, rs, rfl, sm, g, lx⟩ := h
        rw [show (i : Int) + 1 + ((n - ((i : Int) + 1)).toNat : Int) = n by omega] at lx
        refine ⟨_, _, rs, rfl, sm, g, ?_⟩
        have := lx.row
        rw [show (i : Int) + 2 = (i : Int) + 1 + 1 by omega] at this
        exact_mod_cast this
    · obtain ⟨o3, o4, rs, rfl, sm, g, lx⟩ := h
      rw [← en] at lx
      exact ⟨_, rfl, k H' D rs sm nD g lx⟩
end
end K0
set_option Elab.async false
set_option linter.all false
set_option maxRecDepth 100000
set_option maxHeartbeats 4000000
namespace K0
open PySem PySem.Spec PyProof.Rows L2
/-- draws that are left -/
def DrO (H : Hp) (d : Addr) : Prop := ∃ ns : List Int, H d = some (.lst (ns.map V.int)) ∧ ∀ k ∈ ns, 0 ≤ k
def DrN (H : Hp) (d : Addr) (n : Nat) : Prop := ∃ ns : List Int, H d = some (.lst (ns.map V.int)) ∧ (∀ k ∈ ns, 0 ≤ k) ∧ ns.length ≤ n
theorem same_del {H H' : Hp} {d : Addr} (s : Same (del H d) H') : Same (del H d) (del H' d) := fun b o e => by
  by_cases hb : b = d
  · rw [hb, del_same] at e
    cases e
  · rw [del_ne hb]
    exact s b o e
theorem del_sub {H : Hp} {d : Addr} : Same (del H d) H := fun b o e => by
  by_cases hb : b = d
  · rw [hb, del_same] at e
    cases e
  · rw [del_ne hb] at e
    exact e
theorem del_upd {H : Hp} {d : Addr} {o : HO} : Same (del H d) (upd H d o) := fun b u e => by
  by_cases hb : b = d
  · rw [hb, del_same] at e
    cases e
  · rw [del_ne hb] at e
    rw [upd_ne hb]
    exact e
section
variable {X : Cx} {o e : Expr} {to : TE} {apos cpos : Pos}
theorem pe_lpop (ho : PE X o to) (hbase : attributeBase o "pop" X.env (eval o X.env) = eval o X.env := by rfl) (hline : (apos.endLine == cpos.line) = true := by rfl) :
    PE X (.Call (.Attribute o "pop" apos) [] [] cpos) (tBM0 X.K "list" rPop to) := pe_bm0 PySem.F.plainAttrs_list PySem.F.slot_list_pop PySem.F.type_list_pop mt_pop ho hbase hline
theorem pe_lrev (ho : PE X o to) (hbase : attributeBase o "reverse" X.env (eval o X.env) = eval o X.env := by rfl) (hline : (apos.endLine == cpos.line) = true := by rfl) :
    PE X (.Call (.Attribute o "reverse" apos) [] [] cpos) (tBM0 X.K "list" rReverse to) := pe_bm0 PySem.F.plainAttrs_list PySem.F.slot_list_reverse PySem.F.type_list_reverse mt_reverse ho hbase hline
end
section
variable {P : Program} {w : World} {K : PySem.W.Frag} {mg : Str → Option Value} {base : Heap} {f : Addr} {fd : FuncData}
abbrev s_tk : Stmt := top 27
abbrev s_dr : Stmt := top 26
/-- _law_take -/
def spTk : Sp := fun vs H Q _ => ∃ (d : Addr) (m : Int), vs = [.ref d, .int m] ∧ 0 < m ∧ DrO H d ∧ ∀ r H', 0 ≤ r → r < m → Same (del H d) H' → DrO H' d → Q (.int r) H'
theorem sc_tk : FnScope ["_law_draws_here", "_law_many"] ["_law_draws_here", "_law_many"] (defScope s_tk) := ⟨rfl, rfl, rfl, by decide +kernel, rfl, by decide +kernel, by decide +kernel⟩
theorem ok_tk (F : Fun K "_law_take" "_law_take" s_tk f fd) (B : Blt2 mg) : FnOk P w K mg base (L2.CX P w) 1 f fd ["_law_draws_here", "_law_many"] spTk := by
  refine F.okX sc_tk (fun vs H Q E h => ?_) (fun cdv A outer s H vs Q E hr h => ?_)
  · obtain ⟨d, m, rfl, _⟩ := h
    rfl
  · obtain ⟨d, m, rfl, m0, ⟨ns, hd, nn⟩, k⟩ := h
    refine ⟨_, pss_cons (ps_if (pt_cmpR op_eq (pe_callB call_len_seq (by rfl) B.len PySem.boot_len (pa_cons (pv 0) pa_nil)) pe_int (nomark _)) (pss_one (ps_ret pe_int)) pss_nil)
      (pss_one (ps_ret (pe_op op_mod (pe_callTy call_int1 (by rfl) B.int (by decide +kernel) (pa_cons (pe_lpop (pv 0)) pa_nil)) (pv 1)))), ?_⟩
    refine ⟨_, rfl, d, _, rfl, .inl (SqL.of hd), rfl, _, rfl, ?_⟩
    rw [dec_int, List.length_map]
    by_cases e : ns = []
    · subst e
      exact iteT (k 0 H (Int.le_refl _) m0 del_sub ⟨[], hd, nn⟩)
    · have l0 : 0 < ns.length := List.length_pos_iff.mpr e
      rw [show (((ns.length : Nat) : Int) == 0) = false by rw [beq_eq_false_iff_ne]; omega]
      have hlt : ns.length - 1 < ns.length := by omega
      refine iteF ⟨_, rfl, .inl ⟨rfl, _, SqL.of hd⟩, d, _, .int ns[ns.length - 1], rfl, rfl, hd, by rw [List.length_map, List.getElem?_map, List.getElem?_eq_getElem hlt]; rfl, ?_⟩
      refine .inl ⟨_, rfl, _, rfl, _, _, rfl, rfl, m0, ?_⟩
      refine k _ _ (Int.emod_nonneg _ (by omega)) (Int.emod_lt_of_pos _ m0) del_upd ⟨ns.dropLast, by rw [upd_same, List.map_dropLast], fun j hj => nn j (List.dropLast_subset _ hj)⟩
/-- _law_draws -/
def spDr (K : PySem.W.Frag) : Sp := fun vs H Q _ => ∃ (l : Addr) (ms : List Int), vs = [.ref l] ∧ SqL K H l (ms.map V.int) ∧ ∀ H' d, Same H H' → H d = none → DrO H' d → Q (.ref d) H'
theorem sc_dr : FnScope ["_law_script", "_law_draws_here", "_law_at", "_law_cell", "_law_k", "_law_number"] ["_law_script"] (defScope s_dr) := ⟨rfl, rfl, rfl, by decide +kernel, rfl, by decide +kernel, by decide +kernel⟩
theorem DrN.push {H : Hp} {d : Addr} {n : Nat} {x : Int} (h : DrN H d n) (hx : 0 ≤ x) {xs : List V} (e : H d = some (.lst xs)) : DrN (upd H d (.lst (xs ++ [.int x]))) d (n + 1) := by
  obtain ⟨ns, h1, h2, h3⟩ := h
  rw [h1] at e
  cases e
  refine ⟨ns ++ [x], by rw [upd_same, List.map_append]; rfl, fun k hk => ?_, by rw [List.length_append]; exact Nat.add_le_add_right h3 1⟩
  rcases List.mem_append.mp hk with hk | hk
  · exact h2 k hk
  · rw [List.mem_singleton.mp hk]
    exact hx
theorem DrN.at {H : Hp} {d : Addr} {n : Nat} (h : DrN H d n) : ∃ xs, H d = some (.lst xs) ∧ xs.length ≤ n := by
  obtain ⟨ns, h1, h2, h3⟩ := h
  exact ⟨_, h1, by rw [List.length_map]; exact h3⟩
theorem DrN.up {H : Hp} {d : Addr} {n m : Nat} (h : DrN H d n) (l : n ≤ m) : DrN H d m := by
  obtain ⟨ns, h1, h2, h3⟩ := h
  exact ⟨ns, h1, h2, Nat.le_trans h3 l⟩
theorem SqL.sm {K : PySem.W.Frag} {H H' : Hp} {a : Addr} {xs : List V} (h : SqL K H a xs) (s : Same H H') : SqL K H' a xs := h.ext fun b o e => s b o e
theorem ok_dr (F : Fun K "_law_draws" "_law_draws" s_dr f fd) (B : Blt2 mg) : FnOk P w K mg base (L2.CX P w) 1 f fd ["_law_script"] (spDr K) := by
  refine F.okX sc_dr (fun vs H Q E h => ?_) (fun cdv A outer s H vs Q E hr h => ?_)
  · obtain ⟨l, ms, rfl, _⟩ := h
    rfl
  · obtain ⟨l, ms, rfl, hl, k⟩ := h
    have nd := sc_dr.nd
    refine ⟨_, pss_cons (ps_set (i := 1) nd rfl (.inl rfl) (pe_lst pa_nil))
      (pss_cons (ps_for (passes_of rfl) rfl (pi_range1 (by rfl) B.range (pa_cons (pe_callB (c_min rfl) (by rfl) B.min (by decide +kernel) (pa_cons (pe_callB c_len (by rfl) B.len PySem.boot_len (pa_cons (pv 0) pa_nil)) (pa_cons pe_int pa_nil))) pa_nil)) (pg_name (i := 2) nd rfl (.inl rfl))
        (pss_cons (ps_set (i := 3) nd rfl (.inl rfl) (pe_callTy call_int1 (by rfl) B.int (by decide +kernel) (pa_cons (pe_ix ix_list (pv 0) (pv 2) (fun _ _ => rfl)) pa_nil)))
        (pss_cons (ps_if (pt_cmpR op_lt (pv 3) pe_int (nomark _)) (pss_one (ps_set (i := 3) nd rfl (.inl rfl) (pe_op op_sub pe_int (pv 3)))) pss_nil)
        (pss_one (ps_if (pt_cmpR op_ge (pv 3) (pe_op op_pow pe_int pe_int) (nomark _))
          (pss_one (ps_for (passes_of rfl) rfl (pi_range1 (by rfl) B.range (pa_cons pe_int pa_nil)) (pg_name (i := 4) nd rfl (.inl rfl))
            (pss_one (ps_if (pt_cmpR op_gt (pv 3) pe_int (nomark _))
              (pss_cons (ps_expr (pe_lapp (pv 1) (pa_cons (pe_op op_mod (pe_callTy call_int1 (by rfl) B.int (by decide +kernel) (pa_cons (pv 3) pa_nil)) pe_int) pa_nil)))
              (pss_one (ps_set (i := 3) nd rfl (.inl rfl) (pe_op op_fdiv (pv 3) pe_int)))) pss_nil))))
          (pss_cons (ps_set (i := 5) nd rfl (.inl rfl) (pe_op op_mod (pe_callTy call_int1 (by rfl) B.int (by decide +kernel) (pa_cons (pe_op op_add (pe_op op_add (pe_op op_mul (pv 3) pe_int) (pe_op op_mul (pv 2) pe_int)) pe_int) pa_nil)) pe_int))
          (pss_one (ps_for (passes_of rfl) rfl (pi_range1 (by rfl) B.range (pa_cons pe_int pa_nil)) (pg_name (i := 4) nd rfl (.inl rfl))
            (pss_cons (ps_set (i := 5) nd rfl (.inl rfl) (pe_op op_mod (pe_callTy call_int1 (by rfl) B.int (by decide +kernel) (pa_cons (pe_op op_add (pe_op op_add (pe_op op_add (pe_op op_mul (pv 5) (pv 5)) (pe_op op_mul (pv 4) pe_int)) (pv 2)) pe_int) pa_nil)) pe_int))
            (pss_one (ps_expr (pe_lapp (pv 1) (pa_cons (pv 5) pa_nil)))))))))))))
      (pss_cons (ps_expr (pe_lrev (pv 1)))
      (pss_one (ps_ret (pv 1))))), ?_⟩
    refine ⟨by show 0 ≤ sizeLine; exact Nat.zero_le _, fun D nD => ?_⟩
    have s0 : Same H (upd H D (.lst [])) := same_upd nD
    have eL : (ms.map V.int).length = ms.length := List.length_map _
    refine ⟨_, rfl, l, _, rfl, .inl (SqL.sm hl s0), _, _, rfl, ?_⟩
    rw [eL]
    obtain ⟨J, eJ⟩ : ∃ J : Int, J = if (63 : Int) < ((ms.length : Nat) : Int) then 63 else ((ms.length : Nat) : Int) := ⟨_, rfl⟩
    rw [← eJ]
    have hJ : 0 ≤ J ∧ J ≤ 63 ∧ J ≤ ((ms.length : Nat) : Int) := by
      rw [eJ]
      split <;> omega
    let P1 : Nat → L2.St → Hp → Prop := fun i σ H' => ∃ o2 o3 o4 o5, σ = [some (.ref l), some (.ref D), o2, o3, o4, o5] ∧ Same H H' ∧ DrN H' D (60 * i)
    refine ⟨J, rfl, by omega, by omega, for_range (n := J.toNat) P1 ⟨none, none, none, none, rfl, s0, [], upd_same, (fun k hk => by cases hk), Nat.zero_le _⟩ (fun i σ H' hi h => ?_) (fun σ H' h => ?_)⟩
    · obtain ⟨o2, o3, o4, o5, rfl, sm, dn⟩ := h
      rw [Int.zero_add]
      have hi2 : i < ms.length := by omega
      have at0 : atI (ms.map V.int) (i : Int) = some (V.int ms[i]) := atI_nat (by rw [List.getElem?_map, List.getElem?_eq_getElem hi2]; rfl)
      refine ⟨_, rfl, _, rfl, l, _, (i : Int), _, rfl, rfl, SqL.sm hl sm, at0, .inl ⟨_, rfl, ?_⟩⟩
      generalize ms[i] = c
      refine ⟨_, rfl, _, _, rfl, rfl, _, rfl, ?_⟩
      by_cases c0 : c < 0
      · rw [decide_eq_true c0]
        refine iteT ⟨_, rfl, _, _, rfl, rfl, ?_⟩
        have c1 : 0 ≤ 1 - c := by omega
        refine ⟨_, rfl, _, _, rfl, rfl, ⟨by decide, by decide, by decide⟩, _, _, rfl, rfl, decide ((1000000000000000000 : Int) ≤ (1 - c)), rfl, ?_⟩
        by_cases big : (1000000000000000000 : Int) ≤ (1 - c)
        · rw [decide_eq_true big]
          refine iteT ?_
          let P2 : Nat → L2.St → Hp → Prop := fun t σ H' => ∃ o4 c, σ = [some (.ref l), some (.ref D), some (.int (i : Int)), some (.int c), o4, o5] ∧ 0 ≤ c ∧ Same H H' ∧ DrN H' D (60 * i + t)
          refine ⟨60, rfl, by decide, by decide, for_range (n := 60) P2 ⟨o4, (1 - c), rfl, c1, sm, dn⟩ (fun t σ H2 ht h => ?_) (fun σ H2 h => ?_)⟩
          · obtain ⟨o4, c, rfl, c1, sm, dn⟩ := h
            refine ⟨_, rfl, _, _, rfl, rfl, _, rfl, ?_⟩
            by_cases g0 : 0 < c
            · rw [decide_eq_true g0]
              obtain ⟨xs, hx, lx⟩ := dn.at
              refine iteT ⟨_, rfl, .inl ⟨rfl, xs, SqL.of hx⟩, _, rfl, .inl ⟨_, rfl, _, _, rfl, rfl, (by show (0 : Int) < 24; decide), D, xs, _, rfl, rfl, hx, by rw [sizeLine_eq]; omega, ?_⟩⟩
              refine ⟨_, rfl, _, _, rfl, rfl, ⟨by decide, by decide⟩, _, c / 24, rfl, Int.ediv_nonneg c1 (by decide), same_keep nD sm, dn.push (Int.emod_nonneg _ (by decide)) hx⟩
            · rw [decide_eq_false g0]
              exact iteF ⟨_, c, rfl, c1, sm, dn.up (by omega)⟩
          · obtain ⟨o4, c, rfl, c1, sm, dn⟩ := h
            exact ⟨_, _, _, _, rfl, sm, dn.up (by omega)⟩
        · rw [decide_eq_false big]
          have cl : (1 - c) < 1000000000000000000 := Int.not_le.mp big
          refine iteF ⟨_, rfl, _, _, rfl, rfl, .inl ⟨by omega, by omega⟩, _, rfl, _, _, rfl, rfl, .inl ⟨by omega, by omega⟩, _, _, rfl, rfl, _, _, rfl, rfl, .inl ⟨_, rfl, _, _, rfl, rfl, (by show (0 : Int) < 2147483647; decide), ?_⟩⟩
          have v1 : 0 ≤ ((1 - c) * 48947 + (i : Int) * 60493 + 7) % 2147483647 ∧ ((1 - c) * 48947 + (i : Int) * 60493 + 7) % 2147483647 < 2147483647 := ⟨Int.emod_nonneg _ (by decide), Int.emod_lt_of_pos _ (by decide)⟩
          let P3 : Nat → L2.St → Hp → Prop := fun t σ H' => ∃ o4 v, σ = [some (.ref l), some (.ref D), some (.int (i : Int)), some (.int (1 - c)), o4, some (.int v)] ∧ (0 ≤ v ∧ v < 2147483647) ∧ Same H H' ∧ DrN H' D (60 * i + t)
          refine ⟨6, rfl, by decide, by decide, for_range (n := 6) P3 ⟨o4, ((1 - c) * 48947 + (i : Int) * 60493 + 7) % 2147483647, rfl, v1, sm, dn⟩ (fun t σ H2 ht h => ?_) (fun σ H2 h => ?_)⟩
          · obtain ⟨o4, v, rfl, v1, sm, dn⟩ := h
            refine ⟨_, rfl, _, rfl, _, _, rfl, rfl, .inl ⟨by omega, by omega⟩, _, rfl, _, _, rfl, rfl, .inl ⟨by omega, by omega⟩, _, _, rfl, rfl, _, rfl, _, _, rfl, rfl, _, _, rfl, rfl, .inl ⟨_, rfl, _, _, rfl, rfl, (by show (0 : Int) < 2147483587; decide), ?_⟩⟩
            have w1 : 0 ≤ (v * v + (0 + (t : Int)) * 38447 + (i : Int) + 11) % 2147483587 ∧ (v * v + (0 + (t : Int)) * 38447 + (i : Int) + 11) % 2147483587 < 2147483587 := ⟨Int.emod_nonneg _ (by decide), Int.emod_lt_of_pos _ (by decide)⟩
            obtain ⟨xs, hx, lx⟩ := dn.at
            refine ⟨_, rfl, .inl ⟨rfl, xs, SqL.of hx⟩, _, rfl, D, xs, _, rfl, rfl, hx, by rw [sizeLine_eq]; omega, ?_⟩
            exact ⟨_, (v * v + (0 + (t : Int)) * 38447 + (i : Int) + 11) % 2147483587, rfl, ⟨w1.1, Int.lt_trans w1.2 (by decide)⟩, same_keep nD sm, dn.push w1.1 hx⟩
          · obtain ⟨o4, v, rfl, v1, sm, dn⟩ := h
            exact ⟨_, _, _, _, rfl, sm, dn.up (by omega)⟩
      · rw [decide_eq_false c0]
        refine iteF ?_
        have c1 : 0 ≤ c := by omega
        refine ⟨_, rfl, _, _, rfl, rfl, ⟨by decide, by decide, by decide⟩, _, _, rfl, rfl, decide ((1000000000000000000 : Int) ≤ c), rfl, ?_⟩
        by_cases big : (1000000000000000000 : Int) ≤ c
        · rw [decide_eq_true big]
          refine iteT ?_
          let P2 : Nat → L2.St → Hp → Prop := fun t σ H' => ∃ o4 c, σ = [some (.ref l), some (.ref D), some (.int (i : Int)), some (.int c), o4, o5] ∧ 0 ≤ c ∧ Same H H' ∧ DrN H' D (60 * i + t)
          refine ⟨60, rfl, by decide, by decide, for_range (n := 60) P2 ⟨o4, c, rfl, c1, sm, dn⟩ (fun t σ H2 ht h => ?_) (fun σ H2 h => ?_)⟩
          · obtain ⟨o4, c, rfl, c1, sm, dn⟩ := h
            refine ⟨_, rfl, _, _, rfl, rfl, _, rfl, ?_⟩
            by_cases g0 : 0 < c
            · rw [decide_eq_true g0]
              obtain ⟨xs, hx, lx⟩ := dn.at
              refine iteT ⟨_, rfl, .inl ⟨rfl, xs, SqL.of hx⟩, _, rfl, .inl ⟨_, rfl, _, _, rfl, rfl, (by show (0 : Int) < 24; decide), D, xs, _, rfl, rfl, hx, by rw [sizeLine_eq]; omega, ?_⟩⟩
              refine ⟨_, rfl, _, _, rfl, rfl, ⟨by decide, by decide⟩, _, c / 24, rfl, Int.ediv_nonneg c1 (by decide), same_keep nD sm, dn.push (Int.emod_nonneg _ (by decide)) hx⟩
            · rw [decide_eq_false g0]
              exact iteF ⟨_, c, rfl, c1, sm, dn.up (by omega)⟩
          · obtain ⟨o4, c, rfl, c1, sm, dn⟩ := h
            exact ⟨_, _, _, _, rfl, sm, dn.up (by omega)⟩
        · rw [decide_eq_false big]
          have cl : c < 1000000000000000000 := Int.not_le.mp big
          refine iteF ⟨_, rfl, _, _, rfl, rfl, .inl ⟨by omega, by omega⟩, _, rfl, _, _, rfl, rfl, .inl ⟨by omega, by omega⟩, _, _, rfl, rfl, _, _, rfl, rfl, .inl ⟨_, rfl, _, _, rfl, rfl, (by show (0 : Int) < 2147483647; decide), ?_⟩⟩
          have v1 : 0 ≤ (c * 48947 + (i : Int) * 60493 + 7) % 2147483647 ∧ (c * 48947 + (i : Int) * 60493 + 7) % 2147483647 < 2147483647 := ⟨Int.emod_nonneg _ (by decide), Int.emod_lt_of_pos _ (by decide)⟩
          let P3 : Nat → L2.St → Hp → Prop := fun t σ H' => ∃ o4 v, σ = [some (.ref l), some (.ref D), some (.int (i : Int)), some (.int c), o4, some (.int v)] ∧ (0 ≤ v ∧ v < 2147483647) ∧ Same H H' ∧ DrN H' D (60 * i + t)
          refine ⟨6, rfl, by decide, by decide, for_range (n := 6) P3 ⟨o4, (c * 48947 + (i : Int) * 60493 + 7) % 2147483647, rfl, v1, sm, dn⟩ (fun t σ H2 ht h => ?_) (fun σ H2 h => ?_)⟩
          · obtain ⟨o4, v, rfl, v1, sm, dn⟩ := h
            refine ⟨_, rfl, _, rfl, _, _, rfl, rfl, .inl ⟨by omega, by omega⟩, _, rfl, _, _, rfl, rfl, .inl ⟨by omega, by omega⟩, _, _, rfl, rfl, _, rfl, _, _, rfl, rfl, _, _, rfl, rfl, .inl ⟨_, rfl, _, _, rfl, rfl, (by show (0 : Int) < 2147483587; decide), ?_⟩⟩
            have w1 : 0 ≤ (v * v + (0 + (t : Int)) * 38447 + (i : Int) + 11) % 2147483587 ∧ (v * v + (0 + (t : Int)) * 38447 + (i : Int) + 11) % 2147483587 < 2147483587 := ⟨Int.emod_nonneg _ (by decide), Int.emod_lt_of_pos _ (by decide)⟩
            obtain ⟨xs, hx, lx⟩ := dn.at
            refine ⟨_, rfl, .inl ⟨rfl, xs, SqL.of hx⟩, _, rfl, D, xs, _, rfl, rfl, hx, by rw [sizeLine_eq]; omega, ?_⟩
            exact ⟨_, (v * v + (0 + (t : Int)) * 38447 + (i : Int) + 11) % 2147483587, rfl, ⟨w1.1, Int.lt_trans w1.2 (by decide)⟩, same_keep nD sm, dn.push w1.1 hx⟩
          · obtain ⟨o4, v, rfl, v1, sm, dn⟩ := h
            exact ⟨_, _, _, _, rfl, sm, dn.up (by omega)⟩
    · obtain ⟨o2, o3, o4, o5, rfl, sm, dn⟩ := h
      obtain ⟨ns, h1, h2, h3⟩ := dn
      refine ⟨_, rfl, .inl ⟨rfl, _, SqL.of h1⟩, D, _, rfl, rfl, h1, _, rfl, ?_⟩
      exact k _ D (same_keep nD sm) nD ⟨ns.reverse, by rw [upd_same, List.map_reverse], fun j hj => h2 j (List.mem_reverse.mp hj)⟩
end
end K0
set_option Elab.async false
set_option linter.all false
set_option maxRecDepth 100000
set_option maxHeartbeats 4000000
namespace K0
open PySem PySem.Spec PyProof.Rows L2
theorem del_upd_ne {H : Hp} {a d : Addr} {o : HO} (h : a ≠ d) : del (upd H a o) d = upd (del H d) a o := by
  funext b
  by_cases hb : b = d
  · rw [hb, del_same, upd_ne h.symm, del_same]
  · rw [del_ne hb]
    by_cases ha : b = a
    · rw [ha, upd_same, upd_same]
    · rw [upd_ne ha, upd_ne ha, del_ne hb]
theorem DrO.ne {H : Hp} {d u : Addr} (h : DrO H d) (n : H u = none) : u ≠ d := fun e => by
  obtain ⟨ns, h1, _⟩ := h
  rw [e, h1] at n
  cases n
theorem DrO.upd {H : Hp} {d u : Addr} {o : HO} (h : DrO H d) (n : u ≠ d) : DrO (upd H u o) d := by
  obtain ⟨ns, h1, h2⟩ := h
  exact ⟨ns, by rw [upd_ne n.symm]; exact h1, h2⟩
/-- new things, the draws apart -/
theorem sd_upd {H H' : Hp} {d u : Addr} {o : HO} (s : Same (del H d) H') (n : H u = none) (ne : u ≠ d) : Same (del H d) (upd H' u o) := fun b v e => by
  have : b ≠ u := fun z => by
    rw [z, del_ne ne, n] at e
    cases e
  rw [upd_ne this]
  exact s b v e
theorem sd_trans {H H1 H2 : Hp} {d : Addr} (a : Same (del H d) H1) (b : Same (del H1 d) H2) : Same (del H d) H2 := (same_del a).trans b
theorem sd_none {H H' : Hp} {d a : Addr} (s : Same (del H d) H') (n : H' a = none) (ne : a ≠ d) : H a = none := by
  cases e : H a with
  | none => rfl
  | some o =>
    have := s a o (by rw [del_ne ne]; exact e)
    rw [this] at n
    cases n
section
variable {P : Program} {w : World} {K : PySem.W.Frag} {mg : Str → Option Value} {base : Heap} {f : Addr} {fd : FuncData}
abbrev s_se : Stmt := top 32
abbrev s_sh : Stmt := top 39
abbrev s_wd : Stmt := top 40
/-- _law_set -/
def spSe : Sp := fun vs H Q _ => ∃ (d : Addr) (n : Int), vs = [.ref d, .int n] ∧ 0 ≤ n ∧ n ≤ 8 ∧ DrO H d ∧
  ∀ H' a (ns : List Int), Same (del H d) H' → DrO H' d → H a = none → H' a = some (.lst (ns.map V.int)) → ns.Pairwise (· < ·) → (∀ k ∈ ns, 0 ≤ k ∧ k < n) → Q (.ref a) H'
theorem sc_se : FnScope ["_law_draws_here", "_law_many", "_law_x"] ["_law_draws_here", "_law_many"] (defScope s_se) := ⟨rfl, rfl, rfl, by decide +kernel, rfl, by decide +kernel, by decide +kernel⟩
theorem ok_se (F : Fun K "_law_set" "_law_set" s_se f fd) (B : Blt2 mg) (TK : Df P w K mg base "_law_take" 1 ["_law_draws_here", "_law_many"] spTk) : FnOk P w K mg base (L2.CX P w) 2 f fd ["_law_draws_here", "_law_many"] spSe := by
  refine F.okX sc_se (fun vs H Q E h => ?_) (fun cdv A outer s H vs Q E hr h => ?_)
  · obtain ⟨d, n, rfl, _⟩ := h
    rfl
  · obtain ⟨d, n, rfl, n0, n8, dr, k⟩ := h
    have nd := sc_se.nd
    refine ⟨_, pss_one (ps_ret (pe_lc (own := [("_law_x", 2)]) (g := gName 2) (tt := tTest (tOp rEq (tCall spTk [] (fun _ _ _ => False) (tCons (tVar 0) (tCons (tC (.int 2)) tNil))) (tC (.int 1)))) (te := tVar 2) rfl nd (pi_range1 (by rfl) B.range (pa_cons (pv 1) pa_nil))
        (blkOk_by (N := ["_law_draws_here", "_law_many", "_law_x"]) (sc := defScope s_se) (by decide +kernel)) (fun _ _ _ _ _ => pg_name (i := 2) nd rfl (.inl rfl)) (fun _ _ _ _ _ => pts_one (pt_cmpR op_eq (pe_df TK hr (by rfl) passE0 (pa_cons (pv 0) (pa_cons pe_int pa_nil))) pe_int (by rfl))) (fun _ _ _ _ _ => pv 2))), ?_⟩
    refine ⟨_, rfl, n, rfl, by omega, by omega, fun D nD => ?_⟩
    have Dd := dr.ne nD
    refine lc_range (lo := 0) (n := n.toNat) (fun i H' => Same (del H d) H' ∧ DrO H' d ∧ ∃ ns : List Int, H' D = some (.lst (ns.map V.int)) ∧ ns.Pairwise (· < ·) ∧ (∀ k ∈ ns, 0 ≤ k ∧ k < i) ∧ ns.length ≤ i)
      ⟨sd_upd del_sub nD Dd, dr.upd Dd, [], upd_same, .nil, (fun k hk => by cases hk), Nat.zero_le _⟩ (fun i H' hi h => ?_) (fun H' h => ?_)
    · obtain ⟨sm, dr', ns, hD, srt, rng, len⟩ := h
      refine ⟨rfl, ?_⟩
      rw [Int.zero_add]
      refine ⟨_, rfl, d, 2, rfl, by decide, dr', fun r H2 r0 r1 s2 dr2 => ⟨rfl, _, rfl, ?_⟩⟩
      have hD2 := s2 _ _ (by rw [del_ne Dd]; exact hD)
      have sm2 := sd_trans sm s2
      have rng2 : ∀ k ∈ ns, 0 ≤ k ∧ k < ((i + 1 : Nat) : Int) := fun k hk => by have := rng k hk; omega
      by_cases e : V.int r = V.int 1
      · rw [decide_eq_true e]
        refine iteT ⟨_, rfl, _, hD2, by rw [List.length_map, sizeLine_eq]; omega, sd_upd sm2 nD Dd, dr2.upd Dd, ns ++ [(i : Int)], by rw [upd_same, List.map_append]; rfl, ?_, fun k hk => ?_, by rw [List.length_append]; exact Nat.add_le_add_right len 1⟩
        · rw [List.pairwise_append]
          refine ⟨srt, by simp, fun a ha b hb => ?_⟩
          rw [List.mem_singleton.mp hb]
          exact (rng a ha).2
        · rcases List.mem_append.mp hk with hk | hk
          · exact rng2 k hk
          · rw [List.mem_singleton.mp hk]
            omega
      · rw [decide_eq_false e]
        exact iteF ⟨sm2, dr2, ns, hD2, srt, rng2, by omega⟩
    · obtain ⟨sm, dr', ns, hD, srt, rng, len⟩ := h
      exact k H' D ns sm dr' nD hD srt fun k hk => by have := rng k hk; omega
/-- _law_web_drawn, of at most 7 things -/
def spWd : Sp := fun vs H Q _ => ∃ (d : Addr), vs = [.ref d, .int 7] ∧ DrO H d ∧
  ∀ H' a b (n : Int) (q : List Pr), Same (del H d) H' → DrO H' d → H a = none → H b = none → H' a = some (.lst [.int n, .ref b]) → Grow (del H' d) b q → 2 ≤ n → n ≤ 7 → Cl n q → Q (.ref a) H'
theorem sc_wd : FnScope ["_law_draws_here", "_law_most", "_law_many", "_law_share", "_law_pairs", "_law_x", "_law_y"] ["_law_draws_here", "_law_most"] (defScope s_wd) := ⟨rfl, rfl, rfl, by decide +kernel, rfl, by decide +kernel, by decide +kernel⟩
theorem ok_wd (F : Fun K "_law_web_drawn" "_law_web_drawn" s_wd f fd) (B : Blt2 mg) (TK : Df P w K mg base "_law_take" 1 ["_law_draws_here", "_law_many"] spTk) : FnOk P w K mg base (L2.CX P w) 2 f fd ["_law_draws_here", "_law_most"] spWd := by
  refine F.okX sc_wd (fun vs H Q E h => ?_) (fun cdv A outer s H vs Q E hr h => ?_)
  · obtain ⟨d, rfl, _⟩ := h
    rfl
  · obtain ⟨d, rfl, dr, k⟩ := h
    have nd := sc_wd.nd
    refine ⟨_, pss_cons (ps_set (i := 2) nd rfl (.inl rfl) (pe_op op_add pe_int (pe_op op_mod (pe_callTy call_int1 (by rfl) B.int (by decide +kernel) (pa_cons (pe_op op_add pe_int (pe_df TK hr (by rfl) passUp (pa_cons (pv 0) (pa_cons pe_int pa_nil)))) pa_nil)) (pe_op op_sub (pv 1) pe_int))))
      (pss_cons (ps_set (i := 3) nd rfl (.inl rfl) (pe_op op_add pe_int (pe_df TK hr (by rfl) passUp (pa_cons (pv 0) (pa_cons pe_int pa_nil)))))
      (pss_cons (ps_set (i := 4) nd rfl (.inl rfl) (pe_lst pa_nil))
      (pss_cons (ps_for (passes_of rfl) rfl (pi_range1 (by rfl) B.range (pa_cons (pv 2) pa_nil)) (pg_name (i := 5) nd rfl (.inl rfl))
        (pss_one (ps_for (passes_of rfl) rfl (pi_range2 (by rfl) B.range (pa_cons (pe_op op_add (pv 5) pe_int) (pa_cons (pv 2) pa_nil))) (pg_name (i := 6) nd rfl (.inl rfl))
          (pss_one (ps_if (pt_cmpR op_eq (pe_op op_mod (pe_callTy call_int1 (by rfl) B.int (by decide +kernel) (pa_cons (pe_op op_add (pe_op op_sub (pv 6) (pv 5)) (pe_df TK hr (by rfl) passUp (pa_cons (pv 0) (pa_cons pe_int pa_nil)))) pa_nil)) (pv 3)) pe_int (nomark _))
            (pss_one (ps_expr (pe_lapp (pv 4) (pa_cons (pe_tup (pa_cons (pv 5) (pa_cons (pv 6) pa_nil))) pa_nil)))) pss_nil)))))
      (pss_one (ps_ret (pe_lst (pa_cons (pv 2) (pa_cons (pv 4) pa_nil)))))))), ?_⟩
    refine ⟨_, rfl, d, 24, rfl, by decide, dr, fun r1 H1 a1 b1 s1 dr1 => ?_⟩
    refine ⟨_, _, rfl, rfl, .inl ⟨_, rfl, _, rfl, _, _, rfl, rfl, _, _, rfl, rfl, (by show (0 : Int) < 7 - 1; decide), _, _, rfl, rfl, ?_⟩⟩
    obtain ⟨N, eN⟩ : ∃ N : Int, N = 2 + (2 + r1) % (7 - 1) := ⟨_, rfl⟩
    have hN : 2 ≤ N ∧ N ≤ 7 := by
      have h1 : 0 ≤ (2 + r1) % 6 := Int.emod_nonneg _ (by decide)
      have h2 : (2 + r1) % 6 < 6 := Int.emod_lt_of_pos _ (by decide)
      have e : (2 + r1) % (7 - 1) = (2 + r1) % 6 := rfl
      omega
    refine ⟨_, rfl, d, 2, rfl, by decide, dr1, fun r2 H2 a2 b2 s2 dr2 => ⟨_, _, rfl, rfl, ?_⟩⟩
    refine ⟨by show 0 ≤ sizeLine; exact Nat.zero_le _, fun D nD => ?_⟩
    have Dd := dr2.ne nD
    have s12 := sd_trans s1 s2
    have hD : H D = none := sd_none s12 nD Dd
    let P1 : Nat → L2.St → Hp → Prop := fun i σ H' => ∃ o5 o6 rs P, σ = [some (.ref d), some (.int 7), some (.int N), some (.int (2 + r2)), some (.ref D), o5, o6] ∧ Same (del H d) H' ∧ DrO H' d ∧ Grow (del H' d) D rs ∧ Lx N P i (i + 1) rs
    refine ⟨_, rfl, N, by rw [eN], by omega, by omega, for_range (n := N.toNat) P1 ⟨none, none, [], fun _ => True, by rw [eN]; rfl, sd_upd s12 hD Dd, dr2.upd Dd, ⟨[], by rw [del_ne Dd, upd_same]; rfl, rfl, fun z hz => by cases hz⟩, by simpa using Lx.start⟩ (fun i σ H' hi h => ?_) (fun σ H' h => ?_)⟩
    · obtain ⟨o5, o6, rs, PP, rfl, sm, dr', g, lx⟩ := h
      rw [Int.zero_add]
      let P2 : Nat → L2.St → Hp → Prop := fun t σ H' => ∃ o6 rs P, σ = [some (.ref d), some (.int 7), some (.int N), some (.int (2 + r2)), some (.ref D), some (.int (i : Int)), o6] ∧ Same (del H d) H' ∧ DrO H' d ∧ Grow (del H' d) D rs ∧ Lx N P i ((i : Int) + 1 + t) rs
      refine ⟨_, rfl, _, _, rfl, rfl, _, rfl, _, _, rfl, ⟨by omega, by omega, by omega, by omega⟩, for_range (n := (N - ((i : Int) + 1)).toNat) P2 ⟨o6, rs, PP, rfl, sm, dr', g, by simpa using lx⟩ (fun t σ H2 ht h => ?_) (fun σ H2 h => ?_)⟩
      · obtain ⟨o6, rs, PP, rfl, sm, dr', g, lx⟩ := h
        refine ⟨_, rfl, _, rfl, _, _, rfl, rfl, _, rfl, d, 6, rfl, by decide, dr', fun r H3 r0 r6 s3 dr3 => ?_⟩
        refine ⟨_, _, rfl, rfl, .inl ⟨_, rfl, _, rfl, _, _, rfl, rfl, (by show 0 < 2 + r2; omega), rfl, _, rfl, ?_⟩⟩
        have sm3 := sd_trans sm s3
        have g3 := g.mono (same_del s3)
        have r' : 0 ≤ (i : Int) ∧ (i : Int) < (i : Int) + 1 + t ∧ (i : Int) + 1 + t < N := by omega
        have e1 : (i : Int) + 1 + t + 1 = (i : Int) + 1 + ((t + 1 : Nat) : Int) := by omega
        refine ite2 (fun _ => ?_) (fun _ => ?_)
        case refine_1 =>
          obtain ⟨xs, hx, lxs, _⟩ := g3.at
          have hx3 : H3 D = some (.lst xs) := by rw [del_ne Dd] at hx; exact hx
          have few := lx.cl.few (by omega)
          refine ⟨_, rfl, .inl ⟨rfl, xs, SqL.of hx3⟩, _, rfl, _, rfl, (by show 2 ≤ sizeLine; decide), fun u nu => ?_⟩
          have ud := dr3.ne nu
          have s4 : Same H3 (upd H3 u (.tup [.int (i : Int), .int ((i : Int) + 1 + t)])) := same_upd nu
          refine ⟨D, xs, _, rfl, rfl, s4 _ _ hx3, by rw [sizeLine_eq]; omega, ?_⟩
          refine ⟨_, rs ++ [((i : Int), (i : Int) + 1 + t)], fun z => PP z ∨ z = ((i : Int), (i : Int) + 1 + t), rfl, sd_upd (sd_upd sm3 (sd_none sm3 nu ud) ud) hD Dd, (dr3.upd ud).upd Dd, ?_, ?_⟩
          · rw [del_upd_ne Dd, del_upd_ne ud]
            exact g3.push (by rw [del_ne ud]; exact nu) hx
          · have lx' : Lx N (fun z => PP z ∨ z = ((i : Int), (i : Int) + 1 + t)) i ((i : Int) + 1 + t) rs := lx.change fun z hz => ⟨.inl, fun h => h.elim (fun h => h) fun h => by rw [h] at hz; dsimp only at hz; omega⟩
            have := lx'.add (.inr rfl) r'
            rw [e1] at this
            exact this
        case refine_2 =>
          refine ⟨_, rs, fun z => PP z ∧ z ≠ ((i : Int), (i : Int) + 1 + t), rfl, sm3, dr3, g3, ?_⟩
          have lx' : Lx N (fun z => PP z ∧ z ≠ ((i : Int), (i : Int) + 1 + t)) i ((i : Int) + 1 + t) rs := lx.change fun z hz => ⟨fun h => ⟨h, fun h => by rw [h] at hz; dsimp only at hz; omega⟩, fun h => h.1⟩
          have := lx'.skip (fun z => z.2 rfl)
          rw [e1] at this
          exact this
      · obtain ⟨o6, rs, PP, rfl, sm, dr', g, lx⟩ := h
        rw [show (i : Int) + 1 + ((N - ((i : Int) + 1)).toNat : Int) = N by omega] at lx
        refine ⟨_, _, rs, PP, rfl, sm, dr', g, ?_⟩
        have := lx.row
        rw [show (i : Int) + 2 = (i : Int) + 1 + 1 by omega] at this
        exact_mod_cast this
    · obtain ⟨o5, o6, rs, PP, rfl, sm, dr', g, lx⟩ := h
      refine ⟨_, rfl, _, rfl, (by show 2 ≤ sizeLine; decide), fun a na => ?_⟩
      have ad := dr'.ne na
      have hA : H a = none := sd_none sm na ad
      refine k _ a D N rs (sd_upd sm hA ad) (dr'.upd ad) hA hD upd_same ?_ hN.1 hN.2 lx.cl
      rw [del_upd_ne ad]
      exact g.mono (same_upd (by rw [del_ne ad]; exact na))
end
end K0
set_option Elab.async false
set_option linter.all false
set_option maxRecDepth 100000
set_option maxHeartbeats 4000000
namespace K0
open PySem PySem.Spec PyProof.Rows L2
/-- an entry of what is told: a tuple, or a list of its own -/
inductive TEn (A : Addr) (H0 G : Hp) : V → Pr → Prop
  | tup {a : Addr} {x y : Int} : G a = some (.tup [.int x, .int y]) → TEn A H0 G (.ref a) (x, y)
  | lst {a : Addr} {x y : Int} : H0 a = none → a ≠ A → G a = some (.lst [.int x, .int y]) → TEn A H0 G (.ref a) (x, y)
inductive TEs (A : Addr) (H0 G : Hp) : List V → List Pr → Prop
  | nil : TEs A H0 G [] []
  | cons {v : V} {p : Pr} {vs : List V} {ps : List Pr} : TEn A H0 G v p → TEs A H0 G vs ps → TEs A H0 G (v :: vs) (p :: ps)
theorem TEs.imp {A B : Addr} {H0 G G' : Hp} (h : ∀ v p, TEn A H0 G v p → TEn B H0 G' v p) : ∀ {vs : List V} {ps : List Pr}, TEs A H0 G vs ps → TEs B H0 G' vs ps
  | _, _, .nil => .nil
  | _, _, .cons a t => .cons (h _ _ a) (t.imp h)
theorem TEs.len {A : Addr} {H0 G : Hp} : ∀ {vs : List V} {ps : List Pr}, TEs A H0 G vs ps → vs.length = ps.length
  | _, _, .nil => rfl
  | _, _, .cons _ t => congrArg (· + 1) t.len
theorem TEs.snoc {A : Addr} {H0 G : Hp} {v : V} {p : Pr} (h : TEn A H0 G v p) : ∀ {vs : List V} {ps : List Pr}, TEs A H0 G vs ps → TEs A H0 G (vs ++ [v]) (ps ++ [p])
  | _, _, .nil => .cons h .nil
  | _, _, .cons a t => .cons a (t.snoc h)
theorem TEn.mono {A : Addr} {H0 G G' : Hp} (s : Same G G') {v : V} {p : Pr} : TEn A H0 G v p → TEn A H0 G' v p
  | .tup e => .tup (s _ _ e)
  | .lst n ne e => .lst n ne (s _ _ e)
theorem TEn.updA {A : Addr} {H0 G : Hp} {zs : List V} {o : HO} (hA : G A = some (.lst zs)) {v : V} {p : Pr} : TEn A H0 G v p → TEn A H0 (upd G A o) v p
  | .tup e => .tup (by rw [upd_ne (ne_of e hA (fun z => nomatch z))]; exact e)
  | .lst n ne e => .lst n ne (by rw [upd_ne ne]; exact e)
theorem TEn.newA {A B : Addr} {H0 G : Hp} (n : G B = none) {v : V} {p : Pr} : TEn A H0 G v p → TEn B H0 G v p
  | .tup e => .tup e
  | .lst n' _ e => .lst n' (ne_of_none e n) e
def norm (p : Pr) : Pr := (min p.1 p.2, max p.1 p.2)
/-- what is told of the row q, some pairs of it turned, some told twice -/
structure Told (n : Int) (q ps : List Pr) : Prop where
  into : ∀ p ∈ ps, norm p ∈ q
  all : ∀ z ∈ q, z ∈ ps.map norm
section
variable {P : Program} {w : World} {K : PySem.W.Frag} {mg : Str → Option Value} {base : Heap} {f : Addr} {fd : FuncData}
/-- _law_shaken -/
def spSh : Sp := fun vs H Q _ => ∃ (d b : Addr) (n : Int) (q : List Pr), vs = [.ref d, .ref b] ∧ DrO H d ∧ Ls (del H d) b q ∧ Cl n q ∧ n ≤ 8 ∧
  ∀ H' a xs ps, Same (del H d) H' → DrO H' d → H a = none → a ≠ d → (del H' d) a = some (.lst xs) → TEs a H (del H' d) xs ps → ps.length ≤ 60 → Told n q ps → Q (.ref a) H'
theorem sc_sh : FnScope ["_law_draws_here", "_law_pairs", "_law_told", "_law_pair", "_law_how", "_law_one"] ["_law_draws_here", "_law_pairs"] (defScope s_sh) := ⟨rfl, rfl, rfl, by decide +kernel, rfl, by decide +kernel, by decide +kernel⟩
/-- behind i turns -/
structure ShI (H H' : Hp) (d A : Addr) (q : List Pr) (i : Nat) : Prop where
  sm : Same (del H d) H'
  dr : DrO H' d
  hA : H A = none
  Ad : A ≠ d
  ex : ∃ xs ps, (del H' d) A = some (.lst xs) ∧ TEs A H (del H' d) xs ps ∧ ps.length ≤ 2 * i ∧ (∀ p ∈ ps, norm p ∈ q) ∧ ∀ z ∈ q.take i, z ∈ ps.map norm
theorem norm_of {n : Int} {q : List Pr} (h : Cl n q) {p : Pr} (m : p ∈ q) : norm p = p ∧ norm (p.2, p.1) = p := by
  have := h.rng p m
  unfold norm
  obtain ⟨x, y⟩ := p
  dsimp only at this ⊢
  exact ⟨Prod.ext (by dsimp only; omega) (by dsimp only; omega), Prod.ext (by dsimp only; omega) (by dsimp only; omega)⟩
/-- the list told, as it stands -/
structure Sh0 (H H' : Hp) (d A : Addr) (xs : List V) (ps : List Pr) : Prop where
  sm : Same (del H d) H'
  dr : DrO H' d
  hA : H A = none
  Ad : A ≠ d
  gA : (del H' d) A = some (.lst xs)
  tes : TEs A H (del H' d) xs ps
theorem Sh0.at {H H' : Hp} {d A : Addr} {xs : List V} {ps : List Pr} (h : Sh0 H H' d A xs ps) : H' A = some (.lst xs) := by
  have := h.gA
  rw [del_ne h.Ad] at this
  exact this
theorem Sh0.new {H H' : Hp} {d A u : Addr} {o : HO} {xs : List V} {ps : List Pr} (h : Sh0 H H' d A xs ps) (n : H' u = none) : Sh0 H (upd H' u o) d A xs ps := by
  have ud := h.dr.ne n
  have s : Same (del H' d) (del (upd H' u o) d) := by rw [del_upd_ne ud]; exact same_upd (by rw [del_ne ud]; exact n)
  exact ⟨sd_upd h.sm (sd_none h.sm n ud) ud, h.dr.upd ud, h.hA, h.Ad, s _ _ h.gA, h.tes.imp fun v p t => t.mono s⟩
theorem Sh0.push {H H' : Hp} {d A : Addr} {xs : List V} {ps : List Pr} {v : V} {e : Pr} (h : Sh0 H H' d A xs ps) (te : TEn A H (del H' d) v e) : Sh0 H (upd H' A (.lst (xs ++ [v]))) d A (xs ++ [v]) (ps ++ [e]) := by
  refine ⟨sd_upd h.sm h.hA h.Ad, h.dr.upd h.Ad, h.hA, h.Ad, by rw [del_ne h.Ad, upd_same], ?_⟩
  rw [del_upd_ne h.Ad]
  exact (h.tes.imp fun v p t => t.updA h.gA).snoc (te.updA h.gA)
theorem Sh0.cat {H H' : Hp} {d A L M B : Addr} {xs : List V} {ps : List Pr} {x y : Int} (h : Sh0 H H' d A xs ps) (nL : H' L = none) (nM : (upd H' L (.lst [.int x, .int y])) M = none) (nB : (upd (upd H' L (.lst [.int x, .int y])) M (.lst [.ref L])) B = none) :
    Sh0 H (upd (upd (upd H' L (.lst [.int x, .int y])) M (.lst [.ref L])) B (.lst ([.ref L] ++ xs))) d B (.ref L :: xs) ((x, y) :: ps) := by
  have h1 := h.new (o := .lst [.int x, .int y]) nL
  have h2 := h1.new (o := .lst [.ref L]) nM
  have h3 := h2.new (o := .lst ([.ref L] ++ xs)) nB
  have Bd := h2.dr.ne nB
  have Ld := h.dr.ne nL
  have Md := h1.dr.ne nM
  have hB : H B = none := sd_none h2.sm nB Bd
  have nB2 : (del (upd (upd H' L (.lst [.int x, .int y])) M (.lst [.ref L])) d) B = none := by rw [del_ne Bd]; exact nB
  have sB : Same (del (upd (upd H' L (.lst [.int x, .int y])) M (.lst [.ref L])) d) (del (upd (upd (upd H' L (.lst [.int x, .int y])) M (.lst [.ref L])) B (.lst ([.ref L] ++ xs))) d) := by
    rw [del_upd_ne (H := upd (upd H' L (.lst [.int x, .int y])) M (.lst [.ref L])) Bd]
    exact same_upd nB2
  have gL : (del (upd (upd H' L (.lst [.int x, .int y])) M (.lst [.ref L])) d) L = some (.lst [.int x, .int y]) := by
    rw [del_ne Ld]
    exact (same_upd nM) _ _ upd_same
  refine ⟨h3.sm, h3.dr, hB, Bd, by rw [del_ne Bd, upd_same]; rfl, .cons (.lst (sd_none h.sm nL Ld) (ne_of_none gL nB2) (sB _ _ gL)) (h2.tes.imp fun v p t => (t.newA nB2).mono sB)⟩
theorem ok_sh (F : Fun K "_law_shaken" "_law_shaken" s_sh f fd) (B : Blt2 mg) (TK : Df P w K mg base "_law_take" 1 ["_law_draws_here", "_law_many"] spTk) : FnOk P w K mg base (L2.CX P w) 2 f fd ["_law_draws_here", "_law_pairs"] spSh := by
  refine F.okX sc_sh (fun vs H Q E h => ?_) (fun cdv A outer s H vs Q E hr h => ?_)
  · obtain ⟨d, b, n, q, rfl, _⟩ := h
    rfl
  · obtain ⟨d, b, n, q, rfl, dr, ⟨ys, hb, hy⟩, cl, n8, k⟩ := h
    have nd := sc_sh.nd
    refine ⟨_, pss_cons (ps_set (i := 2) nd rfl (.inl rfl) (pe_lst pa_nil))
      (pss_cons (ps_for (passes_of rfl) rfl (pi_list (pv 1)) (pg_name (i := 3) nd rfl (.inl rfl))
        (pss_cons (ps_set (i := 4) nd rfl (.inl rfl) (pe_df TK hr (by rfl) passUp (pa_cons (pv 0) (pa_cons pe_int pa_nil))))
        (pss_cons (ps_set (i := 5) nd rfl (.inl rfl) (pe_tup (pa_cons (pe_ix ix_tup (pv 3) pe_int (fun _ _ => rfl)) (pa_cons (pe_ix ix_tup (pv 3) pe_int (fun _ _ => rfl)) pa_nil))))
        (pss_cons (ps_if (PW.pt (pw_or (pt_cmpR op_eq (pv 4) pe_int (nomark _)) (pw_or1 (pt_cmpR op_eq (pv 4) pe_int (nomark _)))))
          (pss_one (ps_set (i := 5) nd rfl (.inl rfl) (pe_tup (pa_cons (pe_ix ix_tup (pv 3) pe_int (fun _ _ => rfl)) (pa_cons (pe_ix ix_tup (pv 3) pe_int (fun _ _ => rfl)) pa_nil))))) pss_nil)
        (pss_cons (ps_if (pt_cmpR op_ge (pv 4) pe_int (nomark _)) (pss_one (ps_set (i := 2) nd rfl (.inl rfl) (pe_op op_cat (pe_lst (pa_cons (pe_callTy call_list_of (by rfl) B.list (by decide +kernel) (pa_cons (pv 5) pa_nil)) pa_nil)) (pv 2))))
          (pss_one (ps_expr (pe_lapp (pv 2) (pa_cons (pv 5) pa_nil)))))
        (pss_one (ps_if (pt_cmpR op_eq (pv 4) pe_int (nomark _)) (pss_one (ps_expr (pe_lapp (pv 2) (pa_cons (pv 3) pa_nil)))) pss_nil)))))))
      (pss_one (ps_ret (pv 2)))), ?_⟩
    refine ⟨by show 0 ≤ sizeLine; exact Nat.zero_le _, fun D nD => ?_⟩
    have Dd := dr.ne nD
    have bd : b ≠ d := fun e => by rw [e, del_same] at hb; cases hb
    have hbH : H b = some (.lst ys) := del_sub _ _ hb
    have ly := hy.len
    rw [List.length_map] at ly
    have few := cl.few n8
    let Pv : Nat → L2.St → Hp → Prop := fun i σ H' => ∃ A o3 o4 o5, σ = [some (.ref d), some (.ref b), some (.ref A), o3, o4, o5] ∧ ShI H H' d A q i
    have s0 : Same (del H d) (upd H D (.lst [])) := sd_upd del_sub nD Dd
    refine ⟨_, rfl, b, rfl, ⟨ys, SqL.of (s0 _ _ hb)⟩, for_list (K := K) (a := b) (xs := ys) Pv ⟨D, none, none, none, rfl, s0, dr.upd Dd, nD, Dd, [], [], by rw [del_ne Dd, upd_same], .nil, Nat.zero_le _, (fun p hp => by cases hp), fun z hz => by cases hz⟩ (fun i σ H' _ p => ?_) (fun i v σ H' hi p => ?_) (fun σ H' p => ?_)⟩
    · obtain ⟨A, _, _, _, _, S⟩ := p
      exact SqL.of (S.sm _ _ hb)
    · obtain ⟨A, o3, o4, o5, rfl, S⟩ := p
      obtain ⟨p, pa, hp, rfl, hpa⟩ := dta_map hy hi
      have mem := List.mem_of_getElem? hp
      have pd : pa ≠ d := fun e => by rw [e, del_same] at hpa; cases hpa
      obtain ⟨nm1, nm2⟩ := norm_of cl mem
      obtain ⟨xs, ps, gA, tes, lps, into, all⟩ := S.ex
      refine ⟨_, rfl, d, 4, rfl, by decide, S.dr, fun r H1 r0 r4 s1 dr1 => ?_⟩
      have sm1 := sd_trans S.sm s1
      have gA1 := (same_del s1) _ _ gA
      have tes1 := tes.imp (fun v p h => h.mono (same_del s1))
      have hp1 := sm1 _ _ hpa
      refine ⟨_, rfl, _, _, _, _, rfl, rfl, SqT.of hp1, rfl, _, rfl, _, _, _, _, rfl, rfl, SqT.of hp1, rfl, (by show 2 ≤ sizeLine; decide), fun u nu => ?_⟩
      have Z1 : Sh0 H H1 d A xs ps := ⟨sm1, dr1, S.hA, S.Ad, gA1, tes1⟩
      have Z2 := Z1.new (o := .tup [.int p.1, .int p.2]) nu
      have ud := dr1.ne nu
      have s2 : Same H1 (upd H1 u (.tup [.int p.1, .int p.2])) := same_upd nu
      have lxs := tes.len
      have lim : xs.length + 2 < sizeLine := by rw [sizeLine_eq]; have := (List.getElem?_eq_some_iff.mp hp).1; omega
      have gu : (del (upd H1 u (.tup [.int p.1, .int p.2])) d) u = some (.tup [.int p.1, .int p.2]) := by rw [del_ne ud, upd_same]
      have tk1 : q.take (i + 1) = q.take i ++ [p] := take_at hp
      have covered : ∀ {ps' : List Pr}, (∀ e ∈ ps, e ∈ ps') → (∃ e ∈ ps', norm e = p) → ∀ z ∈ q.take (i + 1), z ∈ ps'.map norm := fun {ps'} sub ⟨e, he, en⟩ z hz => by
        rw [tk1] at hz
        rcases List.mem_append.mp hz with hz | hz
        · obtain ⟨e', he', e2⟩ := List.mem_map.mp (all z hz)
          exact List.mem_map.mpr ⟨e', sub e' he', e2⟩
        · rw [List.mem_singleton.mp hz]
          exact List.mem_map.mpr ⟨e, he, en⟩
      have inq : ∀ {ps' : List Pr}, (∀ e ∈ ps', e ∈ ps ∨ e = (p.1, p.2) ∨ e = (p.2, p.1)) → ∀ e ∈ ps', norm e ∈ q := fun {ps'} h e he => by
        rcases h e he with h | h | h
        · exact into e h
        · rw [h]
          rw [show ((p.1, p.2) : Pr) = p from rfl, nm1]
          exact mem
        · rw [h, nm2]
          exact mem
      obtain rfl | rfl | rfl | rfl : r = 0 ∨ r = 1 ∨ r = 2 ∨ r = 3 := by omega
      · refine ⟨_, rfl, rfl, false, rfl, iteF ⟨_, rfl, rfl, false, rfl, iteF ⟨_, rfl, _, _, rfl, rfl, false, rfl, iteF ⟨_, rfl, .inl ⟨rfl, xs, SqL.of Z2.at⟩, _, rfl, A, xs, _, rfl, rfl, Z2.at, by omega, ⟨_, rfl, rfl, false, rfl, iteF ?_⟩⟩⟩⟩⟩
        have Z3 := Z2.push (v := .ref u) (e := (p.1, p.2)) (.tup gu)
        exact ⟨A, _, _, _, rfl, Z3.sm, Z3.dr, Z3.hA, Z3.Ad, _, _, Z3.gA, Z3.tes, by rw [List.length_append]; simp; omega, inq fun e he => by simp at he; rcases he with he | he; exact .inl he; exact .inr (.inl he), covered (fun e he => List.mem_append_left _ he) ⟨(p.1, p.2), by simp, nm1⟩⟩
      · refine ⟨_, rfl, rfl, true, rfl, iteT ⟨_, rfl, _, _, _, _, rfl, rfl, SqT.of (s2 _ _ hp1), rfl, _, rfl, _, _, _, _, rfl, rfl, SqT.of (s2 _ _ hp1), rfl, (by show 2 ≤ sizeLine; decide), fun w nw => ?_⟩⟩
        have Z3 := Z2.new (o := .tup [.int p.2, .int p.1]) nw
        have wd := Z2.dr.ne nw
        refine ⟨_, rfl, _, _, rfl, rfl, false, rfl, iteF ⟨_, rfl, .inl ⟨rfl, xs, SqL.of Z3.at⟩, _, rfl, A, xs, _, rfl, rfl, Z3.at, by omega, ⟨_, rfl, rfl, false, rfl, iteF ?_⟩⟩⟩
        have Z4 := Z3.push (v := .ref w) (e := (p.2, p.1)) (.tup (by rw [del_ne wd, upd_same]))
        exact ⟨A, _, _, _, rfl, Z4.sm, Z4.dr, Z4.hA, Z4.Ad, _, _, Z4.gA, Z4.tes, by rw [List.length_append]; simp; omega, inq fun e he => by simp at he; rcases he with he | he; exact .inl he; exact .inr (.inr he), covered (fun e he => List.mem_append_left _ he) ⟨(p.2, p.1), by simp, nm2⟩⟩
      · refine ⟨_, rfl, rfl, false, rfl, iteF ⟨_, rfl, rfl, false, rfl, iteF ⟨_, rfl, _, _, rfl, rfl, true, rfl, iteT ?_⟩⟩⟩
        refine ⟨_, rfl, u, _, rfl, .inr (SqT.of upd_same), fun L nL => ⟨(by show 1 ≤ sizeLine; decide), fun M nM => ?_⟩⟩
        have ZM := (Z2.new (o := .lst [.int p.1, .int p.2]) nL).new (o := .lst [.ref L]) nM
        refine ⟨_, rfl, M, A, [.ref L], xs, rfl, rfl, upd_same, ZM.at, by show 1 + _ ≤ _; omega, fun A' nA' => ⟨_, rfl, rfl, false, rfl, iteF ?_⟩⟩
        have Z4 := Z2.cat nL nM nA'
        exact ⟨A', _, _, _, rfl, Z4.sm, Z4.dr, Z4.hA, Z4.Ad, _, _, Z4.gA, Z4.tes, by rw [List.length_cons]; omega, inq fun e he => by simp at he; rcases he with he | he; exact .inr (.inl he); exact .inl he, covered (fun e he => List.mem_cons_of_mem _ he) ⟨(p.1, p.2), by simp, nm1⟩⟩
      · refine ⟨_, rfl, rfl, false, rfl, iteF ⟨_, rfl, rfl, true, rfl, iteT ⟨_, rfl, _, _, _, _, rfl, rfl, SqT.of (s2 _ _ hp1), rfl, _, rfl, _, _, _, _, rfl, rfl, SqT.of (s2 _ _ hp1), rfl, (by show 2 ≤ sizeLine; decide), fun w nw => ?_⟩⟩⟩
        have Z3 := Z2.new (o := .tup [.int p.2, .int p.1]) nw
        have wd := Z2.dr.ne nw
        refine ⟨_, rfl, _, _, rfl, rfl, true, rfl, iteT ?_⟩
        refine ⟨_, rfl, w, _, rfl, .inr (SqT.of upd_same), fun L nL => ⟨(by show 1 ≤ sizeLine; decide), fun M nM => ?_⟩⟩
        have ZM := (Z3.new (o := .lst [.int p.2, .int p.1]) nL).new (o := .lst [.ref L]) nM
        refine ⟨_, rfl, M, A, [.ref L], xs, rfl, rfl, upd_same, ZM.at, by show 1 + _ ≤ _; omega, fun A' nA' => ?_⟩
        have Z4 := Z3.cat nL nM nA'
        refine ⟨_, rfl, rfl, true, rfl, iteT ⟨_, rfl, .inl ⟨rfl, _, SqL.of Z4.at⟩, _, rfl, A', _, _, rfl, rfl, Z4.at, by rw [List.length_cons]; omega, ?_⟩⟩
        have Z5 := Z4.push (v := .ref pa) (e := (p.1, p.2)) (.tup ((same_del (Z4.sm)) _ _ hpa))
        exact ⟨A', _, _, _, rfl, Z5.sm, Z5.dr, Z5.hA, Z5.Ad, _, _, Z5.gA, Z5.tes, by rw [List.length_append, List.length_cons]; simp; omega, inq fun e he => by simp at he; rcases he with he | he | he; exact .inr (.inr he); exact .inl he; exact .inr (.inl he), covered (fun e he => List.mem_append_left _ (List.mem_cons_of_mem _ he)) ⟨(p.1, p.2), by simp, nm1⟩⟩
    · obtain ⟨A, _, _, _, rfl, S⟩ := p
      obtain ⟨xs, ps, gA, tes, lps, into, all⟩ := S.ex
      rw [ly, List.take_length] at all
      exact ⟨_, rfl, k H' A xs ps S.sm S.dr S.hA S.Ad gA tes (by omega) ⟨into, all⟩⟩
end
end K0
set_option Elab.async false
set_option linter.all false
set_option maxRecDepth 100000
set_option maxHeartbeats 4000000
namespace K0
open PySem PySem.Spec PyProof.Rows L2
/-! ### calls whose exceptions are caught here -/
section
variable {X : Cx} {pins : List (Addr × Obj)} {σ : L2.St} {H : Hp} {s : Shared}
theorem run_anyS {A : Around} {n : Nat} {f : Addr} {fd : FuncData} {ps : List Str} {sp : Sp} {E : XK} {Q : VK} {vs : List V} {us : List Value} {CX : CXT} (sb : Sub X n A) (F : FnOk X.prog X.w X.K X.mg X.base CX n f fd ps sp) (hb : Binds X.K fd ps []) (hx : PassesAt CX X σ E)
    (I : Inv X pins σ H s) (r : Vals vs us) (h : sp vs H Q E) : wpAny (model X.prog X.w) A (call (.ref f) us) (EP X pins σ Q) X.xe s := by
  have e0 : Env0 X.prog X.w X.K X.mg X.base A X.stack s H := by
    have e := I.env0
    exact ⟨by rw [sb.fr]; exact e.frames, e.mod, e.bs, e.bsz, e.funs, e.frf, e.hok, e.bare⟩
  have hl := F.len _ _ _ _ h
  have hl2 : us.length = ps.length := by rw [← hl, r.length]
  refine wpAny_call (codeAny_mono (F.run A X.stack s H ⟨us, []⟩ us vs Q E sb.room e0 (by
    have := hb s us I.kIn (by simpa using hl2)
    simpa using this) r h) fun r s' hq => ?_)
  cases r with
  | error e => exact hx pins H s e s' I hq
  | ok fl =>
    cases fl with
    | ret w => exact I.after hq
    | next => exact False.elim hq
    | brk => exact False.elim hq
    | cont => exact False.elim hq
theorem run_makeS {CX : CXT} {k : Nat} {C f : Addr} {fd : FuncData} {ps : List Str} {sp : Sp} {E : XK} {Q : VK} {us : List Value} {vs : List V} (M : Mk X.K C f) (F : FnOk X.prog X.w X.K X.mg X.base CX k f fd ps sp) (hr : Room (k + 1) X.A) (hb : Binds X.K fd ps [])
    (hx : PassesAt CX X σ E) (I : Inv X pins σ H s) (r : Vals vs us)
    (h : ∀ x dx, H x = none → H dx = none → dx ≠ x → sp (.ref x :: vs) (upd (upd H dx (.own x)) x (.ins C dx [])) (fun v H2 => v = .non ∧ Q (.ref x) H2) E) :
    wpAny (model X.prog X.w) X.A (call (.ref C) us) (EP X pins σ Q) X.xe s := by
  have hq := h (s.heap.objs.size + 1) s.heap.objs.size (I.hok.fresh (Nat.le_succ _)) (I.hok.fresh (Nat.le_refl _)) (Nat.ne_of_lt (Nat.lt_succ_self _))
  have I2 := Inv.made (C := C) I
  have r2 : Vals (V.ref (s.heap.objs.size + 1) :: vs) (Value.ref (s.heap.objs.size + 1) :: us) := .cons rfl r
  have hl : (Value.ref (s.heap.objs.size + 1) :: us).length = ps.length := by
    have e := r2.length
    rw [F.len _ _ _ _ hq] at e
    exact e.symm
  have b2 := hb { s with heap := (s.heap.push PySem.W.emptyDict).push (PySem.W.instObj C s.heap.objs.size) } (Value.ref (s.heap.objs.size + 1) :: us) I2.kIn (by simpa using hl)
  rw [List.append_nil] at b2
  refine wpAny_call (make_map (f := f) I.kIn M.makes M.init (beq_iff_eq.mp M.fn) (codeAny_mono (F.run _ X.stack _ _ ⟨Value.ref (s.heap.objs.size + 1) :: us, []⟩ (Value.ref (s.heap.objs.size + 1) :: us) _ _ E (hr.make C us [])
    (I2.env0.make C us []) b2 r2 hq) fun r s' hq' => ?_))
  cases r with
  | error e => exact hx pins _ _ e s' I2 hq'
  | ok fl =>
    cases fl with
    | ret u =>
      obtain ⟨v, H', I3, rv, ev, q3⟩ := I2.after hq'
      subst ev
      exact ⟨rv, ⟨V.ref (s.heap.objs.size + 1), H', I3, rfl, q3⟩⟩
    | next => exact False.elim hq'
    | brk => exact False.elim hq'
    | cont => exact False.elim hq'
variable {C CN CW : Addr} {m : Str} {k : Nat} {ps : List Str} {sp : Sp} {E : L2.St → XK} {o e : Expr} {es : List Expr} {ta tb : TE} {t : TA} {p apos pos : Pos}
theorem pe_webS (T : WebK X.prog X.w X.K X.mg X.base C CN CW) (hr : Room 5 X.A) (hg : Gl X "Web") (hx : ∀ σ, PassesAt (L2.CX X.prog X.w) X σ (E σ)) (ha : PA X (e :: es) t)
    (he : starEach (e :: es) X.env = (false, eval e X.env) :: starEach es X.env := by rfl) (hpl : (backTo pos (starEach es X.env)).any (·.1) = false := by rfl) :
    PE X (.Call (.Name "Web" p) (e :: es) [] pos) (tCallS (spMk X.K C CN CW) E t) := by
  obtain ⟨f, fd, M, F, b, _⟩ := T.ex
  refine ⟨fun pins s σ H Q I h => ?_⟩
  refine wpAny_Call_Name_kw (ld_glob I hg T.g ?_ (by decide))
  refine PySem.W.callWith_K (h₀ := X.base) I.ok.mod.kin M.kp (thn (ha.run pos pins s σ H _ I h) fun us s1 ⟨vs, H1, I1, r, q⟩ => ⟨I1.kIn, ?_⟩) he hpl
  exact run_makeS M F hr b (hx σ) I1 r fun x dx nx ndx ne => spMk_in q x dx nx ndx ne
def tMethS (C : Addr) (m : Str) (sp : Sp) (E : L2.St → XK) (ta : TE) (t : TA) : TE := fun σ H Q => ta σ H fun x H1 => ∃ a dx fs, x = .ref a ∧ H1 a = some (.ins C dx fs) ∧ fs.lookup m = none ∧ t σ H1 fun vs H2 => sp (x :: vs) H2 Q (E σ)
theorem pe_mtS {pl : Sem Bool} (T : Mt X.prog X.w X.K X.mg X.base C m k ps sp) (hr : Room k X.A) (hx : ∀ σ, PassesAt (L2.CX X.prog X.w) X σ (E σ)) (he : PE X o ta) (ha : PA X (e :: es) t)
    (hst : starEach (e :: es) X.env = (false, eval e X.env) :: starEach es X.env := by rfl) (hpl : (backTo pos (starEach es X.env)).any (·.1) = false := by rfl)
    (ht : eval (.Call (.Attribute o m apos) (e :: es) [] pos) X.env = (do
      let ov ← eval o X.env
      standAt apos.atName
      let (f, first) ← holding [ov] (getMethod ov m pl)
      callWith pos f first (backTo pos (starEach (e :: es) X.env)) (backToKw pos (keywordEach [] X.env))) := by rfl) : PE X (.Call (.Attribute o m apos) (e :: es) [] pos) (tMethS C m sp E ta t) := by
  obtain ⟨f, fd, c, hm, _, _, _, F, b⟩ := T.ex
  refine ⟨fun pins s σ H Q I h => ?_⟩
  refine PySem.W.methodCall_KW (pl := pl) (thn (he.run pins s σ H _ I h) fun u s1 ⟨x, H1, I1, rx, a, dx, fs, ex, ea, l, q⟩ => ?_) ht
  subst ex
  obtain rfl : u = Value.ref a := rx
  refine getmeth_ok I1 ea c hm l ?_
  refine PySem.W.callWith_K (first := [.ref a]) (h₀ := X.base) I.ok.mod.kin hm.kp (thn (ha.run pos pins s1 σ H1 _ I1 q) fun us s2 ⟨vs, H2, I2, r, q2⟩ => ⟨I2.kIn, ?_⟩) hst hpl
  exact run_anyS (vs := .ref a :: vs) (us := .ref a :: us) ⟨hr, rfl⟩ F b (hx σ) I2 (.cons rfl r) q2
def rIxOS (C : Addr) (sp : Sp) (E : L2.St → XK) (σ : L2.St) : R2 := fun x y H Q => ∃ a dx fs, x = .ref a ∧ H a = some (.ins C dx fs) ∧ sp [.ref a, y] H Q (E σ)
theorem pe_ixOS {a b : Expr} (T : Mt X.prog X.w X.K X.mg X.base C "__getitem__" k ps sp) (hr : Room (k + 1) X.A) (hx : ∀ σ, PassesAt (L2.CX X.prog X.w) X σ (E σ)) (ha : PE X a ta) (hb : PE X b tb)
    (hsl : ∀ (x : Addr) (i : Value), subscripted b true (.ref x) i = runValue (.builtin "lifetime.subscript" ⟨[.ref x, i], []⟩) := by intro _ _; with_unfolding_all rfl) : PE X (.Subscript a b pos) (fun σ => tOp (rIxOS C sp E σ) ta tb σ) := by
  refine ⟨fun pins s σ H Q I h => ?_⟩
  refine Subscript_ (binT ha hb I h fun v u s2 x y H2 I2 rx ry q => ?_)
  obtain ⟨p, dx, fs, rfl, hp, q⟩ := q
  obtain ⟨f, fd, c, hm, hfn, hf, hs, F, bb⟩ := T.ex
  cases rx
  obtain ⟨mA, J, _⟩ := ins_get I2.hok hp
  obtain ⟨od, J, _⟩ := J.look
  obtain ⟨m, hF⟩ := I2.fr
  exact PySem.W.sub_K hF I2.ok.mod.kin J hs hf hfn (run_anyS (vs := [.ref p, y]) (A := X.A.in1) ⟨hr.in1, rfl⟩ F bb (hx σ) I2 (.cons rfl (.cons ry .nil)) q) (hsl p u)
end
/-- what the except clauses of the law look at -/
structure ErrL (K : PySem.W.Frag) (CN CW CT CP CF CO : Addr) : Prop where
  nn : PySem.W.exmOne K (.ref CN) (.ref CN) = some true
  wn : PySem.W.exmOne K (.ref CW) (.ref CN) = some false
  ww : PySem.W.exmOne K (.ref CW) (.ref CW) = some true
  np : PySem.W.exmOne K (.ref CN) (.ref CP) = some false
  nf : PySem.W.exmOne K (.ref CN) (.ref CF) = some true
  wp : PySem.W.exmOne K (.ref CW) (.ref CP) = some false
  wf : PySem.W.exmOne K (.ref CW) (.ref CF) = some true
  tt : PySem.W.exmOne K (.ref CT) (.ref CT) = some true
  pt : PySem.W.exmOne K (.ref CP) (.ref CT) = some false
  pp : PySem.W.exmOne K (.ref CP) (.ref CP) = some true
  xN : XfC K CN
  xW : XfC K CW
  xT : XfC K CT
  xP : XfC K CP
  fN : PySem.W.findIn K (.ref CN) "name" = some none
  fX : PySem.W.findIn K (.ref CW) "x" = some none
  fY : PySem.W.findIn K (.ref CW) "y" = some none
  fT : PySem.W.findIn K (.ref CT) "thing" = some none
  fP : PySem.W.findIn K (.ref CP) "place" = some none
/-- the names of the error classes -/
structure ErrN (mg : Str → Option Value) (CN CW CT CP CF CO : Addr) : Prop where
  n : mg "BadNumber" = some (.ref CN)
  w : mg "BadWeb" = some (.ref CW)
  t : mg "BadThing" = some (.ref CT)
  p : mg "BadPart" = some (.ref CP)
  f : mg "BadForm" = some (.ref CF)
  o : mg "OrdersError" = some (.ref CO)
def NewS (ss : List Str) (H : Hp) (Q : VK) : Prop := ∀ H' t, Same H H' → H t = none → H' t = some (.tup (ss.map V.str)) → Q (.ref t) H'
section
variable {P : Program} {w : World} {K : PySem.W.Frag} {mg : Str → Option Value} {base : Heap} {f : Addr} {fd : FuncData}
abbrev s_tw : Stmt := top 41
/-- _law_try_web, where Web(..) refuses -/
def spTw (K : PySem.W.Frag) : Sp := fun vs H Q _ => ∃ (a : Addr) (v : V) (d : PyData) (ds : List PyData), vs = [v, .ref a] ∧ Dt H v d ∧ Sq K H a ds ∧ (okN 0 d = false → NewS ["number", "many"] H Q) ∧
  (∀ n, d = .int n → 0 ≤ n → n ≤ 8 ∧ ∃ x y sx sy, entsOf n ds = .error (x, y) ∧ reprD x = some sx ∧ reprD y = some sy ∧ NewS ["web", sx, sy] H Q)
theorem sc_tw : FnScope ["_law_many", "_law_clashes", "_law_told", "error"] ["_law_many", "_law_clashes"] (defScope s_tw) := ⟨rfl, rfl, rfl, by decide +kernel, rfl, by decide +kernel, by decide +kernel⟩
theorem ok_tw {C CN CW CT CP CF CO : Addr} (F : Fun K "_law_try_web" "_law_try_web" s_tw f fd) (B : Blt2 mg) (WK : WebK P w K mg base C CN CW) (L : ErrL K CN CW CT CP CF CO) (N : ErrN mg CN CW CT CP CF CO) : FnOk P w K mg base (L2.CX P w) 6 f fd ["_law_many", "_law_clashes"] (spTw K) := by
  refine F.okX sc_tw (fun vs H Q E h => ?_) (fun cdv A outer s H vs Q E hr h => ?_)
  · obtain ⟨a, v, d, ds, rfl, _⟩ := h
    rfl
  · obtain ⟨a, v, d, ds, rfl, hv, hs, k1, k2⟩ := h
    have nd := sc_tw.nd
    refine ⟨_, pss_cons (ps_set (i := 2) nd rfl (.inl rfl) (pe_tup (pa_cons pe_str (pa_cons pe_str pa_nil))))
      (pss_cons (ps_try_any (tb := fun W => tDrop (tCallS (spMk K C CN CW) (WE W) (tCons (tVar 0) (tCons (tVar 1) tNil)))) rfl rfl (takes_of rfl rfl rfl rfl) (fun W pn xe tk _ => pss_one (ps_expr (pe_webS WK hr (by rfl) (fun σ => passAt tk σ) (pa_cons (pv 0) (pa_cons (pv 1) pa_nil)))))
        (.as nd (i := 3) rfl rfl ⟨rfl, by decide, .inl N.n⟩ (fun a oe cls d pn hz hf => pss_one (ps_set (i := 2) nd rfl (.inl rfl) (pe_tup (pa_cons pe_str (pa_cons (pe_xf L.xN L.fN hz hf (pv 3)) pa_nil)))))
        (.as nd (i := 3) rfl rfl ⟨rfl, by decide, .inl N.w⟩ (fun a oe cls d pn hz hf => pss_one (ps_set (i := 2) nd rfl (.inl rfl) (pe_tup (pa_cons pe_str (pa_cons (pe_callB cr_repr (by rfl) B.repr (by decide +kernel) (pa_cons (pe_xf L.xW L.fX hz hf (pv 3)) pa_nil)) (pa_cons (pe_callB cr_repr (by rfl) B.repr (by decide +kernel) (pa_cons (pe_xf L.xW L.fY hz hf (pv 3)) pa_nil)) pa_nil))))))
        (.cons ⟨rfl, by decide, .inl N.o⟩ (fun a oe cls d pn hz hf => pss_one (ps_set (i := 2) nd rfl (.inl rfl) (pe_tup (pa_cons pe_str (pa_cons pe_str pa_nil))))) .nil))))
      (pss_one (ps_ret (pv 2)))), ?_⟩
    refine ⟨by show 2 ≤ sizeLine; decide, fun t nt => ?_⟩
    have s1 : Same H (upd H t (.tup [.str "made", .str ""])) := same_upd nt
    refine ⟨_, rfl, _, rfl, a, v, d, ds, rfl, hv.mono s1, hs.mono s1, fun bad H' e sm he => ?_, fun n en h0 => ?_⟩
    · refine ⟨true, L.nn, fun _ x nx => ?_, fun z => nomatch z⟩
      refine ⟨_, rfl, rfl, rfl, e, _, _, rfl, he, rfl, (by show 2 ≤ sizeLine; decide), fun u nu => ⟨_, rfl, ?_⟩⟩
      exact k1 bad _ u ((s1.trans sm).trans (same_upd nu)) ((s1.trans sm).free nu) upd_same
    · obtain ⟨n8, x, y, sx, sy, hxy, hx, hy, k⟩ := k2 n en h0
      refine ⟨n8, fun ps hps => ?_, fun x' y' hxy' H' e vx vy sm dx dy he => ?_⟩
      · rw [hxy] at hps
        cases hps
      · rw [hxy] at hxy'
        cases hxy'
        refine ⟨false, L.wn, (fun z => nomatch z), fun _ => ⟨true, L.ww, fun _ a na => ?_, fun z => nomatch z⟩⟩
        refine ⟨_, rfl, rfl, rfl, e, _, _, rfl, he, rfl, vx, x, sx, rfl, dx, hx, ?_⟩
        refine ⟨_, rfl, rfl, rfl, e, _, _, rfl, he, rfl, vy, y, sy, rfl, dy, hy, (by show 3 ≤ sizeLine; decide), fun u nu => ⟨_, rfl, ?_⟩⟩
        exact k _ u ((s1.trans sm).trans (same_upd nu)) ((s1.trans sm).free nu) upd_same
end
end K0
set_option Elab.async false
set_option linter.all false
set_option maxRecDepth 100000
set_option maxHeartbeats 4000000
namespace K0
open PySem PySem.Spec PyProof.Rows L2
section
variable {P : Program} {w : World} {K : PySem.W.Frag} {mg : Str → Option Value} {base : Heap} {f : Addr} {fd : FuncData}
abbrev s_tf : Stmt := top 42
abbrev s_tt : Stmt := top 43
/-- _law_try_form, where Web(..) refuses -/
def spTf (K : PySem.W.Frag) : Sp := fun vs H Q _ => ∃ (a : Addr) (v : V) (d : PyData) (ds : List PyData), vs = [v, .ref a] ∧ Dt H v d ∧ Sq K H a ds ∧ (∀ n, d = .int n → 0 ≤ n → n ≤ 8 ∧ ∃ x y, entsOf n ds = .error (x, y)) ∧ Ret (.str "form") H Q
theorem sc_tf : FnScope ["_law_many", "_law_clashes", "_law_told"] ["_law_many", "_law_clashes"] (defScope s_tf) := ⟨rfl, rfl, rfl, by decide +kernel, rfl, by decide +kernel, by decide +kernel⟩
theorem ok_tf {C CN CW CT CP CF CO : Addr} (F : Fun K "_law_try_form" "_law_try_form" s_tf f fd) (B : Blt2 mg) (WK : WebK P w K mg base C CN CW) (L : ErrL K CN CW CT CP CF CO) (N : ErrN mg CN CW CT CP CF CO) : FnOk P w K mg base (L2.CX P w) 6 f fd ["_law_many", "_law_clashes"] (spTf K) := by
  refine F.okX sc_tf (fun vs H Q E h => ?_) (fun cdv A outer s H vs Q E hr h => ?_)
  · obtain ⟨a, v, d, ds, rfl, _⟩ := h
    rfl
  · obtain ⟨a, v, d, ds, rfl, hv, hs, k2, k⟩ := h
    have nd := sc_tf.nd
    refine ⟨_, pss_cons (ps_set (i := 2) nd rfl (.inl rfl) pe_str)
      (pss_cons (ps_try_any (tb := fun W => tDrop (tCallS (spMk K C CN CW) (WE W) (tCons (tVar 0) (tCons (tVar 1) tNil)))) rfl rfl (takes_of rfl rfl rfl rfl) (fun W pn xe tk _ => pss_one (ps_expr (pe_webS WK hr (by rfl) (fun σ => passAt tk σ) (pa_cons (pv 0) (pa_cons (pv 1) pa_nil)))))
        (.cons ⟨rfl, by decide, .inl N.p⟩ (fun a oe cls d pn hz hf => pss_one (ps_set (i := 2) nd rfl (.inl rfl) pe_str))
        (.cons ⟨rfl, by decide, .inl N.f⟩ (fun a oe cls d pn hz hf => pss_one (ps_set (i := 2) nd rfl (.inl rfl) pe_str)) .nil)))
      (pss_one (ps_ret (pv 2)))), ?_⟩
    refine ⟨_, rfl, _, rfl, a, v, d, ds, rfl, hv, hs, fun bad H' e sm he => ?_, fun n en h0 => ?_⟩
    · exact ⟨false, L.np, (fun z => nomatch z), fun _ => ⟨true, L.nf, fun _ x nx => ⟨_, rfl, k H' sm⟩, fun z => nomatch z⟩⟩
    · obtain ⟨n8, x, y, hxy⟩ := k2 n en h0
      refine ⟨n8, fun ps hps => ?_, fun x' y' hxy' H' e vx vy sm dx dy he => ?_⟩
      · rw [hxy] at hps
        cases hps
      · exact ⟨false, L.wp, (fun z => nomatch z), fun _ => ⟨true, L.wf, fun _ x nx => ⟨_, rfl, k H' sm⟩, fun z => nomatch z⟩⟩
/-- what is wrong with the things that are passed -/
inductive ThB (n : Int) : Int → PyData → PyData → PyData → Prop
  | fst {k : Int} {dx dy : PyData} : 0 ≤ k → k ≤ 4 → isTh n dx = false → ThB n k dx dy dx
  | snd1 {dx dy : PyData} : isTh n dx = true → isTh n dy = false → ThB n 1 dx dy dy
  | snd3 {dx dy : PyData} : isTh n dx = true → isTh n dy = false → ThB n 3 dx dy dy
  | eq3 {dx dy : PyData} : isTh n dx = true → isTh n dy = true → PyData.eqv dx dy = true → ThB n 3 dx dy dy
/-- _law_try_thing, where the web refuses -/
def spTt (K : PySem.W.Frag) (C : Addr) : Sp := fun vs H Q _ => ∃ (p : Addr) (k : Int) (vx vy : V) (n : Int) (q : List Pr), vs = [.ref p, .int k, vx, vy] ∧ WebAt C H p n q ∧ n ≤ 7 ∧
  ((∃ dx dy e s, Dt H vx dx ∧ Dt H vy dy ∧ ThB n k dx dy e ∧ reprD e = some s ∧ NewS ["thing", s] H Q) ∨
   (k = 5 ∧ ∃ a ds i s, vx = .ref a ∧ Sq K H a ds ∧ fwG n ds [] = some i ∧ reprD (.int ((i : Nat) : Int)) = some s ∧ NewS ["part", s] H Q))
theorem sc_tt : FnScope ["_law_web", "_law_deed", "_law_x", "_law_y", "_law_told", "error"] ["_law_web", "_law_deed", "_law_x", "_law_y"] (defScope s_tt) := ⟨rfl, rfl, rfl, by decide +kernel, rfl, by decide +kernel, by decide +kernel⟩
def ifD (i : Int) (t : TS) : TS := tIfS (tTest (tOp rEq (tVar 1) (tC (.int i)))) t tNext
theorem ok_tt {C CN CW CT CP CF CO : Addr} (F : Fun K "_law_try_thing" "_law_try_thing" s_tt f fd) (B : Blt2 mg) (L : ErrL K CN CW CT CP CF CO) (N : ErrN mg CN CW CT CP CF CO)
    (NR : Mt P w K mg base C "near" 4 ["self", "x"] (spNr C CT)) (CL : Mt P w K mg base C "clash" 4 ["self", "x", "y"] (spCl C CT)) (WO : Mt P w K mg base C "without" 7 ["self", "x"] (spWo C CT)) (ST : Mt P w K mg base C "settled" 6 ["self", "x", "y", "clashing"] (spSt C CT))
    (GI : Mt P w K mg base C "__getitem__" 5 ["self", "at"] (spNr C CT)) (WT : Mt P w K mg base C "with_thing" 6 ["self", "near"] (spWt K C CP)) : FnOk P w K mg base (L2.CX P w) 8 f fd ["_law_web", "_law_deed", "_law_x", "_law_y"] (spTt K C) := by
  refine F.okX sc_tt (fun vs H Q E h => ?_) (fun cdv A outer s H vs Q E hr h => ?_)
  · obtain ⟨p, k, vx, vy, n, q, rfl, _⟩ := h
    rfl
  · obtain ⟨p, k, vx, vy, n, q, rfl, W, n7, hk⟩ := h
    obtain ⟨⟨ddx, c, m, l0, h1, h2, h3, h4, h5⟩, cl, n0, n8⟩ := id W
    have nd := sc_tt.nd
    have hr4 : Room 4 _ := hr.mono (by decide)
    have hr6 : Room 6 _ := hr.mono (by decide)
    refine ⟨_, pss_cons (ps_set (i := 4) nd rfl (.inl rfl) (pe_tup (pa_cons pe_str (pa_cons pe_str pa_nil))))
      (pss_cons (ps_try_any (tb := fun W => tSeq (ifD 0 (tDrop (tMethS C "near" (spNr C CT) (WE W) (tVar 0) (tCons (tVar 2) tNil))))
          (tSeq (ifD 1 (tDrop (tMethS C "clash" (spCl C CT) (WE W) (tVar 0) (tCons (tVar 2) (tCons (tVar 3) tNil)))))
          (tSeq (ifD 2 (tDrop (tMethS C "without" (spWo C CT) (WE W) (tVar 0) (tCons (tVar 2) tNil))))
          (tSeq (ifD 3 (tDrop (tMethS C "settled" (spSt C CT) (WE W) (tVar 0) (tCons (tVar 2) (tCons (tVar 3) (tCons (tC (.bl true)) tNil))))))
          (tSeq (ifD 4 (tAsg (fun σ => tOp (rIxOS C (spNr C CT) (WE W) σ) (tVar 0) (tVar 2) σ) (gName 4)))
          (ifD 5 (tDrop (tMethS C "with_thing" (spWt K C CP) (WE W) (tVar 0) (tCons (tVar 2) tNil))))))))) rfl rfl (takes_of rfl rfl rfl rfl)
        (fun W pn xe tk _ => pss_cons (ps_if (pt_cmpR op_eq (pv 1) pe_int (nomark _)) (pss_one (ps_expr (pe_mtS NR hr4 (fun σ => passAt tk σ) (pv 0) (pa_cons (pv 2) pa_nil)))) pss_nil)
          (pss_cons (ps_if (pt_cmpR op_eq (pv 1) pe_int (nomark _)) (pss_one (ps_expr (pe_mtS CL hr4 (fun σ => passAt tk σ) (pv 0) (pa_cons (pv 2) (pa_cons (pv 3) pa_nil))))) pss_nil)
          (pss_cons (ps_if (pt_cmpR op_eq (pv 1) pe_int (nomark _)) (pss_one (ps_expr (pe_mtS WO hr (fun σ => passAt tk σ) (pv 0) (pa_cons (pv 2) pa_nil)))) pss_nil)
          (pss_cons (ps_if (pt_cmpR op_eq (pv 1) pe_int (nomark _)) (pss_one (ps_expr (pe_mtS ST hr6 (fun σ => passAt tk σ) (pv 0) (pa_cons (pv 2) (pa_cons (pv 3) (pa_cons pe_bl pa_nil)))))) pss_nil)
          (pss_cons (ps_if (pt_cmpR op_eq (pv 1) pe_int (nomark _)) (pss_one (ps_set (i := 4) nd rfl (.inl rfl) (pe_ixOS GI hr6 (fun σ => passAt tk σ) (pv 0) (pv 2)))) pss_nil)
          (pss_one (ps_if (pt_cmpR op_eq (pv 1) pe_int (nomark _)) (pss_one (ps_expr (pe_mtS WT hr6 (fun σ => passAt tk σ) (pv 0) (pa_cons (pv 2) pa_nil)))) pss_nil)))))))
        (.as nd (i := 5) rfl rfl ⟨rfl, by decide, .inl N.t⟩ (fun a oe cls d pn hz hf => pss_one (ps_set (i := 4) nd rfl (.inl rfl) (pe_tup (pa_cons pe_str (pa_cons (pe_callB cr_repr (by rfl) B.repr (by decide +kernel) (pa_cons (pe_xf L.xT L.fT hz hf (pv 5)) pa_nil)) pa_nil)))))
        (.as nd (i := 5) rfl rfl ⟨rfl, by decide, .inl N.p⟩ (fun a oe cls d pn hz hf => pss_one (ps_set (i := 4) nd rfl (.inl rfl) (pe_tup (pa_cons pe_str (pa_cons (pe_callB cr_repr (by rfl) B.repr (by decide +kernel) (pa_cons (pe_xf L.xP L.fP hz hf (pv 5)) pa_nil)) pa_nil)))))
        (.cons ⟨rfl, by decide, .inl N.o⟩ (fun a oe cls d pn hz hf => pss_one (ps_set (i := 4) nd rfl (.inl rfl) (pe_tup (pa_cons pe_str (pa_cons pe_str pa_nil))))) .nil))))
      (pss_one (ps_ret (pv 4)))), ?_⟩
    refine ⟨by show 2 ≤ sizeLine; decide, fun t nt => ?_⟩
    have s1 : Same H (upd H t (.tup [.str "made", .str ""])) := same_upd nt
    have W1 := W.mono s1
    rcases hk with ⟨dx, dy, e, s, hx, hy, tb, hs, ks⟩ | ⟨rfl, a, ds, i, s, rfl, hq, fw, hs, ks⟩
    · have hx1 := hx.mono s1
      have hy1 := hy.mono s1
      cases tb with
      | fst k0 k4 bad =>
        obtain rfl | rfl | rfl | rfl | rfl : k = 0 ∨ k = 1 ∨ k = 2 ∨ k = 3 ∨ k = 4 := by omega
        · exact ⟨_, rfl, rfl, true, rfl, iteT ⟨_, rfl, p, ddx, _, rfl, s1 _ _ h1, wf_no _ _ _ (by decide +kernel) (by decide +kernel) (by decide +kernel), _, rfl, p, vx, dx, n, q, rfl, W1, hx1, fun _ => (fun H' d sm he => ⟨true, L.tt, fun _ x nx => ⟨_, rfl, rfl, rfl, d, _, _, rfl, he, rfl, vx, dx, s, rfl, hx.mono (s1.trans sm), hs, (by show 2 ≤ sizeLine; decide), fun u nu => ⟨_, rfl, ks _ u ((s1.trans sm).trans (same_upd nu)) ((s1.trans sm).free nu) upd_same⟩⟩, fun z => nomatch z⟩), (fun x ex hlt => by exfalso; subst ex; have z : ¬ (0 ≤ (x : Int) ∧ (x : Int) < n) := of_decide_eq_false bad; omega)⟩⟩
        · exact ⟨_, rfl, rfl, false, rfl, iteF ⟨_, rfl, rfl, true, rfl, iteT ⟨_, rfl, p, ddx, _, rfl, s1 _ _ h1, wf_no _ _ _ (by decide +kernel) (by decide +kernel) (by decide +kernel), _, rfl, _, rfl, p, vx, vy, dx, dy, n, q, rfl, W1, hx1, hy1, fun _ => (fun H' d sm he => ⟨true, L.tt, fun _ x nx => ⟨_, rfl, rfl, rfl, d, _, _, rfl, he, rfl, vx, dx, s, rfl, hx.mono (s1.trans sm), hs, (by show 2 ≤ sizeLine; decide), fun u nu => ⟨_, rfl, ks _ u ((s1.trans sm).trans (same_upd nu)) ((s1.trans sm).free nu) upd_same⟩⟩, fun z => nomatch z⟩), (fun z => by rw [bad] at z; cases z), (fun x y ex ey hlt hlt2 => by exfalso; subst ex; have z : ¬ (0 ≤ (x : Int) ∧ (x : Int) < n) := of_decide_eq_false bad; omega)⟩⟩⟩
        · exact ⟨_, rfl, rfl, false, rfl, iteF ⟨_, rfl, rfl, false, rfl, iteF ⟨_, rfl, rfl, true, rfl, iteT ⟨_, rfl, p, ddx, _, rfl, s1 _ _ h1, wf_no _ _ _ (by decide +kernel) (by decide +kernel) (by decide +kernel), _, rfl, p, vx, dx, n, q, rfl, W1, hx1, fun _ => (fun H' d sm he => ⟨true, L.tt, fun _ x nx => ⟨_, rfl, rfl, rfl, d, _, _, rfl, he, rfl, vx, dx, s, rfl, hx.mono (s1.trans sm), hs, (by show 2 ≤ sizeLine; decide), fun u nu => ⟨_, rfl, ks _ u ((s1.trans sm).trans (same_upd nu)) ((s1.trans sm).free nu) upd_same⟩⟩, fun z => nomatch z⟩), (fun x ex hr => by exfalso; subst ex; have z : ¬ (0 ≤ x ∧ x < n) := of_decide_eq_false bad; exact z hr)⟩⟩⟩⟩
        · exact ⟨_, rfl, rfl, false, rfl, iteF ⟨_, rfl, rfl, false, rfl, iteF ⟨_, rfl, rfl, false, rfl, iteF ⟨_, rfl, rfl, true, rfl, iteT ⟨_, rfl, p, ddx, _, rfl, s1 _ _ h1, wf_no _ _ _ (by decide +kernel) (by decide +kernel) (by decide +kernel), _, rfl, _, rfl, p, vx, vy, true, dx, dy, n, q, rfl, W1, hx1, hy1, fun _ => (fun H' d sm he => ⟨true, L.tt, fun _ x nx => ⟨_, rfl, rfl, rfl, d, _, _, rfl, he, rfl, vx, dx, s, rfl, hx.mono (s1.trans sm), hs, (by show 2 ≤ sizeLine; decide), fun u nu => ⟨_, rfl, ks _ u ((s1.trans sm).trans (same_upd nu)) ((s1.trans sm).free nu) upd_same⟩⟩, fun z => nomatch z⟩), (fun z => by rw [bad] at z; cases z), (fun z => by rw [bad] at z; cases z), (fun x y ex ey hr hr2 ne => by exfalso; subst ex; have z : ¬ (0 ≤ x ∧ x < n) := of_decide_eq_false bad; exact z hr)⟩⟩⟩⟩⟩
        · exact ⟨_, rfl, rfl, false, rfl, iteF ⟨_, rfl, rfl, false, rfl, iteF ⟨_, rfl, rfl, false, rfl, iteF ⟨_, rfl, rfl, false, rfl, iteF ⟨_, rfl, rfl, true, rfl, iteT ⟨_, rfl, _, rfl, p, ddx, _, rfl, s1 _ _ h1, p, vx, dx, n, q, rfl, W1, hx1, fun _ => (fun H' d sm he => ⟨true, L.tt, fun _ x nx => ⟨_, rfl, rfl, rfl, d, _, _, rfl, he, rfl, vx, dx, s, rfl, hx.mono (s1.trans sm), hs, (by show 2 ≤ sizeLine; decide), fun u nu => ⟨_, rfl, ks _ u ((s1.trans sm).trans (same_upd nu)) ((s1.trans sm).free nu) upd_same⟩⟩, fun z => nomatch z⟩), (fun x ex hlt => by exfalso; subst ex; have z : ¬ (0 ≤ (x : Int) ∧ (x : Int) < n) := of_decide_eq_false bad; omega)⟩⟩⟩⟩⟩⟩
      | snd1 ok bad =>
        exact ⟨_, rfl, rfl, false, rfl, iteF ⟨_, rfl, rfl, true, rfl, iteT ⟨_, rfl, p, ddx, _, rfl, s1 _ _ h1, wf_no _ _ _ (by decide +kernel) (by decide +kernel) (by decide +kernel), _, rfl, _, rfl, p, vx, vy, dx, dy, n, q, rfl, W1, hx1, hy1, (fun z => by rw [ok] at z; cases z), fun _ _ => (fun H' d sm he => ⟨true, L.tt, fun _ x nx => ⟨_, rfl, rfl, rfl, d, _, _, rfl, he, rfl, vy, dy, s, rfl, hy.mono (s1.trans sm), hs, (by show 2 ≤ sizeLine; decide), fun u nu => ⟨_, rfl, ks _ u ((s1.trans sm).trans (same_upd nu)) ((s1.trans sm).free nu) upd_same⟩⟩, fun z => nomatch z⟩), (fun x y ex ey hlt hlt2 => by exfalso; subst ey; have z : ¬ (0 ≤ (y : Int) ∧ (y : Int) < n) := of_decide_eq_false bad; omega)⟩⟩⟩
      | snd3 ok bad =>
        exact ⟨_, rfl, rfl, false, rfl, iteF ⟨_, rfl, rfl, false, rfl, iteF ⟨_, rfl, rfl, false, rfl, iteF ⟨_, rfl, rfl, true, rfl, iteT ⟨_, rfl, p, ddx, _, rfl, s1 _ _ h1, wf_no _ _ _ (by decide +kernel) (by decide +kernel) (by decide +kernel), _, rfl, _, rfl, p, vx, vy, true, dx, dy, n, q, rfl, W1, hx1, hy1, (fun z => by rw [ok] at z; cases z), fun _ _ => (fun H' d sm he => ⟨true, L.tt, fun _ x nx => ⟨_, rfl, rfl, rfl, d, _, _, rfl, he, rfl, vy, dy, s, rfl, hy.mono (s1.trans sm), hs, (by show 2 ≤ sizeLine; decide), fun u nu => ⟨_, rfl, ks _ u ((s1.trans sm).trans (same_upd nu)) ((s1.trans sm).free nu) upd_same⟩⟩, fun z => nomatch z⟩), (fun _ z => by rw [bad] at z; cases z), (fun x y ex ey hr hr2 ne => by exfalso; subst ey; have z : ¬ (0 ≤ y ∧ y < n) := of_decide_eq_false bad; exact z hr2)⟩⟩⟩⟩⟩
      | eq3 ok ok2 eq =>
        exact ⟨_, rfl, rfl, false, rfl, iteF ⟨_, rfl, rfl, false, rfl, iteF ⟨_, rfl, rfl, false, rfl, iteF ⟨_, rfl, rfl, true, rfl, iteT ⟨_, rfl, p, ddx, _, rfl, s1 _ _ h1, wf_no _ _ _ (by decide +kernel) (by decide +kernel) (by decide +kernel), _, rfl, _, rfl, p, vx, vy, true, dx, dy, n, q, rfl, W1, hx1, hy1, (fun z => by rw [ok] at z; cases z), (fun _ z => by rw [ok2] at z; cases z), fun _ _ _ => (fun H' d sm he => ⟨true, L.tt, fun _ x nx => ⟨_, rfl, rfl, rfl, d, _, _, rfl, he, rfl, vy, dy, s, rfl, hy.mono (s1.trans sm), hs, (by show 2 ≤ sizeLine; decide), fun u nu => ⟨_, rfl, ks _ u ((s1.trans sm).trans (same_upd nu)) ((s1.trans sm).free nu) upd_same⟩⟩, fun z => nomatch z⟩), (fun x y ex ey hr hr2 ne => by exfalso; subst ex; subst ey; rw [PyData.eqv] at eq; exact ne (beq_iff_eq.mp eq))⟩⟩⟩⟩⟩
    · exact ⟨_, rfl, rfl, false, rfl, iteF ⟨_, rfl, rfl, false, rfl, iteF ⟨_, rfl, rfl, false, rfl, iteF ⟨_, rfl, rfl, false, rfl, iteF ⟨_, rfl, rfl, false, rfl, iteF ⟨_, rfl, rfl, true, rfl, iteT ⟨_, rfl, p, ddx, _, rfl, s1 _ _ h1, wf_no _ _ _ (by decide +kernel) (by decide +kernel) (by decide +kernel), _, rfl, p, a, n, q, ds, rfl, W1, n7, hq.mono s1, (fun z => by rw [fw] at z; cases z), fun i' e' => by rw [fw] at e'; cases e'; exact (fun H' d sm he => ⟨false, L.pt, (fun z => nomatch z), fun _ => ⟨true, L.pp, fun _ x nx => ⟨_, rfl, rfl, rfl, d, _, _, rfl, he, rfl, _, .int ((i : Nat) : Int), s, rfl, .int _, hs, (by show 2 ≤ sizeLine; decide), fun u nu => ⟨_, rfl, ks _ u ((s1.trans sm).trans (same_upd nu)) ((s1.trans sm).free nu) upd_same⟩⟩, fun z => nomatch z⟩⟩)⟩⟩⟩⟩⟩⟩⟩
end
end K0
set_option Elab.async false
set_option linter.all false
set_option maxRecDepth 100000
set_option maxHeartbeats 4000000
namespace K0
open PySem PySem.Spec PyProof.Rows L2
abbrev heapOf {H H' : Hp} (_ : Same H H') : Hp := H'
theorem nvs_int (l : List Nat) : nvs l = (l.map fun (k : Nat) => (k : Int)).map V.int := by
  unfold nvs
  rw [List.map_map]
  rfl
theorem inW_xy {n : Int} {q : List Pr} {x y : Nat} (hx : (x : Int) < n) (hy : (y : Int) < n) : inW n q (.tuple [.int (x : Int), .int (y : Int)]) = hasP q x y := by
  show (decide (0 ≤ (x : Int) ∧ (x : Int) < n ∧ 0 ≤ (y : Int) ∧ (y : Int) < n) && hasP q ((x : Int).toNat) ((y : Int).toNat)) = _
  rw [decide_eq_true ⟨Int.natCast_nonneg x, hx, Int.natCast_nonneg y, hy⟩, Int.toNat_natCast, Int.toNat_natCast]
  rfl
section
variable {P : Program} {w : World} {K : PySem.W.Frag} {mg : Str → Option Value} {base : Heap} {f : Addr} {fd : FuncData}
/-- the property many_clashes -/
structure PrW (P : Program) (w : World) (K : PySem.W.Frag) (mg : Str → Option Value) (base : Heap) (C : Addr) : Prop where
  ex : ∃ (p g : Addr) (fd : FuncData), Cls K C ∧ PropOf K C "many_clashes" p g ∧ FnOk P w K mg base (L2.CX P w) 1 g fd ["self"] (spMc C) ∧ Binds K fd ["self"] []
theorem pe_mc {X : Cx} {C : Addr} {e : Expr} {pos : Pos} {ta : L2.TE} (T : PrW X.prog X.w X.K X.mg X.base C) (hr : Room 2 X.A) (he : PE X e ta) (hab : attributeBase e "many_clashes" X.env (eval e X.env) = eval e X.env) :
    PE X (.Attribute e "many_clashes" pos) (tProp C (spMc C) [] (fun _ _ _ => False) ta) := by
  obtain ⟨p, g, fd, c, hp, F, b⟩ := T.ex
  exact pe_prop he c hp F hr b .nil (passE0 (X := X.nox)) hab
abbrev s_as : Stmt := top 44
/-- all that the law has and is handed of the program's web -/
structure WebM (P : Program) (w : World) (K : PySem.W.Frag) (mg : Str → Option Value) (base : Heap) (C CN CW CT CP : Addr) : Prop where
  T : WebI K C
  WK : WebK P w K mg base C CN CW
  NR : Mt P w K mg base C "near" 4 ["self", "x"] (spNr C CT)
  CL : Mt P w K mg base C "clash" 4 ["self", "x", "y"] (spCl C CT)
  WO : Mt P w K mg base C "without" 7 ["self", "x"] (spWo C CT)
  ST : Mt P w K mg base C "settled" 6 ["self", "x", "y", "clashing"] (spSt C CT)
  GI : Mt P w K mg base C "__getitem__" 5 ["self", "at"] (spNr C CT)
  WT : Mt P w K mg base C "with_thing" 6 ["self", "near"] (spWt K C CP)
  LN : Mt P w K mg base C "__len__" 1 ["self"] (spLn C)
  IR : Mt P w K mg base C "__iter__" 1 ["self"] (spIr C)
  IN : Mt P w K mg base C "__contains__" 5 ["self", "x"] (spIn C)
  EQ : Mt P w K mg base C "__eq__" 1 ["self", "other"] (spEqW C)
  MC : PrW P w K mg base C
/-- _law_asked -/
def spAs (C : Addr) : Sp := fun vs H Q _ => ∃ (p b : Addr) (n : Int) (q : List Pr), vs = [.ref p, .int n, .ref b] ∧ WebAt C H p n q ∧ Ls H b q ∧ Ret (.bl true) H Q
theorem sc_as : FnScope ["_law_web", "_law_many", "_law_pairs", "_law_x", "_law_near_here", "_law_y", "_law_due", "_law_odd"] ["_law_web", "_law_many", "_law_pairs"] (defScope s_as) := ⟨rfl, rfl, rfl, by decide +kernel, rfl, by decide +kernel, by decide +kernel⟩
theorem ok_as {C CN CW CT CP : Addr} (F : Fun K "_law_asked" "_law_asked" s_as f fd) (B : Blt2 mg) (M : WebM P w K mg base C CN CW CT CP) (WI : Df P w K mg base "_law_web_is" 4 ["_law_web", "_law_many", "_law_pairs"] (spWis C)) (RR : Df P w K mg base "_law_rows_are" 3 ["_law_told", "_law_due"] spRr)
    (RI : Df P w K mg base "_law_row_is" 2 ["_law_told", "_law_due"] spRi) (DU : Df P w K mg base "_law_is_due" 2 ["_law_told", "_law_due"] spDu) (SY : Df P w K mg base "_law_says" 1 ["_law_told", "_law_due"] spSy) (NE : Df P w K mg base "_law_near" 2 ["_law_many", "_law_pairs", "_law_x"] spNe) :
    FnOk P w K mg base (L2.CX P w) 7 f fd ["_law_web", "_law_many", "_law_pairs"] (spAs C) := by
  refine F.okX sc_as (fun vs H Q E h => ?_) (fun cdv A outer s H vs Q E hr h => ?_)
  · obtain ⟨p, b, n, q, rfl, _⟩ := h
    rfl
  · obtain ⟨p, b, n, q, rfl, W, hl, k⟩ := h
    obtain ⟨⟨ddx, c, m, l0, h1, h2, h3, h4, h5⟩, cl, n0, n8⟩ := id W
    have nd := sc_as.nd
    have hu : (A.deeper (envOfC "_law_asked" (defScope s_as) s.heap.objs.size f cdv)).units + 65 < cLine := by have := hr.un; omega
    have r1 : Room 1 _ := hr.mono (by decide)
    have r2 : Room 2 _ := hr.mono (by decide)
    have r3 : Room 3 _ := hr.mono (by decide)
    have r4 : Room 4 _ := hr.mono (by decide)
    have r5 : Room 5 _ := hr.mono (by decide)
    refine ⟨_, pss_cons (ps_if (PW.pt (pw_or (pt_not (pt_val (pe_df WI r4 (by rfl) passUp (pa_cons (pv 0) (pa_cons (pv 1) (pa_cons (pv 2) pa_nil))))))
        (pw_or1 (pt_not (pt_val (pe_df RR r3 (by rfl) passUp (pa_cons (pe_callTy call_tuple_of (by rfl) B.tuple (by decide +kernel) (pa_cons (pe_callTy (cr_listW rfl M.IR M.LN r4) (by rfl) B.list (by decide +kernel) (pa_cons (pv 0) pa_nil)) pa_nil)) (pa_cons (pv 2) pa_nil)))))))) (pss_one (ps_ret pe_bl)) pss_nil)
      (pss_cons (ps_if (pt_not (pt_val (pe_df DU r2 (by rfl) passUp (pa_cons (pe_mc M.MC r2 (pv 0) (by rfl)) (pa_cons (pe_callB c_len (by rfl) B.len PySem.boot_len (pa_cons (pv 2) pa_nil)) pa_nil))))) (pss_one (ps_ret pe_bl)) pss_nil)
      (pss_cons (ps_for (passes_of rfl) rfl (pi_range1 (by rfl) B.range (pa_cons (pv 1) pa_nil)) (pg_name (i := 3) nd rfl (.inl rfl))
        (pss_cons (ps_set (i := 4) nd rfl (.inl rfl) (pe_df NE r2 (by rfl) passUp (pa_cons (pv 1) (pa_cons (pv 2) (pa_cons (pv 3) pa_nil)))))
        (pss_cons (ps_if (PW.pt (pw_or (pt_not (pt_val (pe_df RI r2 (by rfl) passUp (pa_cons (pe_mt1 M.NR r4 passUp (pv 0) (pa_cons (pv 3) pa_nil)) (pa_cons (pv 4) pa_nil)))))
          (pw_or1 (pt_not (pt_val (pe_df RI r2 (by rfl) passUp (pa_cons (pe_ixO M.GI hr passUp (pv 0) (pv 3)) (pa_cons (pv 4) pa_nil)))))))) (pss_one (ps_ret pe_bl)) pss_nil)
        (pss_one (ps_for (passes_of rfl) rfl (pi_range1 (by rfl) B.range (pa_cons (pv 1) pa_nil)) (pg_name (i := 5) nd rfl (.inl rfl))
          (pss_cons (ps_set (i := 6) nd rfl (.inl rfl) (pe_cmpR (op_inD hu) (pe_tup (pa_cons (pe_callB (c_min rfl) (by rfl) B.min (by decide +kernel) (pa_cons (pv 3) (pa_cons (pv 5) pa_nil))) (pa_cons (pe_callB (c_max rfl) (by rfl) B.max (by decide +kernel) (pa_cons (pv 3) (pa_cons (pv 5) pa_nil))) pa_nil))) (pv 2) (by rfl)))
          (pss_one (ps_if (PW.pt (pw_or (pt_not (pt_val (pe_df SY r1 (by rfl) passUp (pa_cons (pe_mt1 M.CL r4 passUp (pv 0) (pa_cons (pv 3) (pa_cons (pv 5) pa_nil))) (pa_cons (pv 6) pa_nil)))))
            (pw_or1 (pt_cmpR op_ne (pe_cmpR (op_inO M.IN r5 passUp) (pe_tup (pa_cons (pv 3) (pa_cons (pv 5) pa_nil))) (pv 0) (by rfl)) (pv 6) (by rfl))))) (pss_one (ps_ret pe_bl)) pss_nil))))))))
      (pss_cons (ps_for (passes_of rfl) rfl (pi_list (pe_lst (pa_cons (pe_tup (pa_cons pe_int pa_nil)) (pa_cons (pe_tup (pa_cons pe_int (pa_cons pe_int (pa_cons pe_int pa_nil)))) (pa_cons (pe_tup (pa_cons (pv 1) (pa_cons pe_int pa_nil))) (pa_cons (pe_tup (pa_cons pe_int (pa_cons (pv 1) pa_nil)))
          (pa_cons (pe_tup (pa_cons (pe_op op_sub pe_int pe_int) (pa_cons pe_int pa_nil))) (pa_cons (pe_tup (pa_cons pe_bl (pa_cons pe_int pa_nil))) (pa_cons (pe_lst (pa_cons pe_int (pa_cons pe_int pa_nil))) (pa_cons pe_non (pa_cons pe_int (pa_cons pe_str pa_nil)))))))))))) (pg_name (i := 7) nd rfl (.inl rfl))
        (pss_one (ps_if (pt_cmpR (op_inO M.IN r5 passUp) (pv 7) (pv 0) (by rfl)) (pss_one (ps_ret pe_bl)) pss_nil)))
      (pss_cons (ps_for (passes_of rfl) rfl (pi_list (pe_lst (pa_cons (pe_tup (pa_cons pe_non (pa_cons pe_int pa_nil))) (pa_cons (pe_tup (pa_cons pe_str (pa_cons pe_int pa_nil))) (pa_cons (pe_tup (pa_cons (pe_lst (pa_cons pe_int pa_nil)) (pa_cons pe_int pa_nil)))
          (pa_cons (pe_tup (pa_cons (pe_tup (pa_cons pe_int (pa_cons pe_int pa_nil))) (pa_cons pe_int pa_nil))) (pa_cons (pe_tup (pa_cons pe_int (pa_cons pe_non pa_nil))) pa_nil))))))) (pg_name (i := 7) nd rfl (.inl rfl))
        (pss_one (ps_if (pt_cmpR (op_inO M.IN r5 passUp) (pv 7) (pv 0) (by rfl)) (pss_one (ps_ret pe_bl)) pss_nil)))
      (pss_one (ps_ret pe_bl)))))), ?_⟩
    obtain ⟨ys, hb, hy⟩ := id hl
    have ly := hy.len
    rw [List.length_map] at ly
    have few : q.length ≤ 28 := cl.few n8
    have tt : decide (q = q) = true := decide_eq_true rfl
    have tn : (decide (n = n) && decide (q = q)) = true := by rw [tt, decide_eq_true rfl]; rfl
    have thI : ∀ i : Nat, (i : Int) < n → isTh n (.int (i : Int)) = false → False := fun i hi z => (of_decide_eq_false z : ¬ (0 ≤ (i : Int) ∧ (i : Int) < n)) ⟨Int.natCast_nonneg i, hi⟩
    refine ⟨_, rfl, _, rfl, _, rfl, p, b, n, n, q, q, rfl, W, hl.sqp, by omega, fun H1 s1 => ⟨true, congrArg V.bl tn, iteF ?_⟩⟩
    refine ⟨_, rfl, p, n, q, rfl, W.mono s1, fun H2 l zs s2 nl hl2 hz => ⟨l, zs, rfl, .inl ⟨SqL.of hl2, fun t nt => ?_⟩⟩⟩
    have s12 := s1.trans s2
    have s3 : Same H2 (upd H2 t (.tup zs)) := same_upd nt
    have s13 := s12.trans s3
    refine ⟨_, rfl, t, b, zs, q, q, rfl, upd_same, hz.mono s3, (hl.mono s13).sqp, by omega, fun H4 s4 => ⟨true, congrArg V.bl tt, iteF ?_⟩⟩
    have s14 := s13.trans s4
    refine ⟨_, rfl, p, ddx, _, rfl, s14 _ _ h1, p, n, q, rfl, W.mono s14, fun H5 s5 => ?_⟩
    have s15 := s14.trans s5
    refine ⟨_, rfl, b, ys, rfl, .inl (SqL.of (s15 _ _ hb)), _, _, rfl, fun H6 s6 => ⟨true, congrArg V.bl (by rw [ly]; simp), iteF ?_⟩⟩
    have s16 := s15.trans s6
    let P1 : Nat → L2.St → Hp → Prop := fun i σ H' => ∃ o3 o4 o5 o6, σ = [some (.ref p), some (.int n), some (.ref b), o3, o4, o5, o6, none] ∧ Same H H'
    refine ⟨_, rfl, n, rfl, by omega, by omega, for_range (n := n.toNat) P1 ⟨none, none, none, none, rfl, s16⟩ (fun i σ H' hi h => ?_) (fun σ H' h => ?_)⟩
    · obtain ⟨o3, o4, o5, o6, rfl, sm⟩ := h
      rw [Int.zero_add]
      have hiN : (i : Int) < n := by omega
      refine ⟨_, rfl, _, rfl, _, rfl, b, n, i, q, rfl, n0, n8, cl, hl.mono sm, fun H2 a s2 na ha => ?_⟩
      have m2 := sm.trans s2
      refine ⟨_, rfl, p, ddx, _, rfl, m2 _ _ h1, wf_no _ _ _ (by decide +kernel) (by decide +kernel) (by decide +kernel), _, rfl, p, _, .int (i : Int), n, q, rfl, W.mono m2, .int _, fun bad => (thI i hiN bad).elim, fun x ex hlt H3 t s3 nt ht => ?_⟩
      obtain rfl : i = x := by
        cases ex
        rfl
      rw [nvs_int] at ht ha
      refine ⟨_, rfl, t, a, _, _, rfl, ht, .inl (s3 _ _ ha), fun H4 s4 => ⟨true, congrArg V.bl (decide_eq_true rfl), iteF ?_⟩⟩
      have m4 := (m2.trans s3).trans s4
      have ha4 := s4 _ _ (s3 _ _ ha)
      refine ⟨_, rfl, _, rfl, p, ddx, _, rfl, m4 _ _ h1, p, _, .int (i : Int), n, q, rfl, W.mono m4, .int _, fun bad => (thI i hiN bad).elim, fun x ex hlt H5 t5 s5 nt5 ht5 => ?_⟩
      obtain rfl : i = x := by
        cases ex
        rfl
      rw [nvs_int] at ht5
      refine ⟨_, rfl, t5, a, _, _, rfl, ht5, .inl (s5 _ _ ha4), fun H6 s6 => ⟨true, congrArg V.bl (decide_eq_true rfl), iteF ?_⟩⟩
      have m6 := (m4.trans s5).trans s6
      let P2 : Nat → L2.St → Hp → Prop := fun j σ H' => ∃ o5 o6, σ = [some (.ref p), some (.int n), some (.ref b), some (.int (i : Int)), some (.ref a), o5, o6, none] ∧ Same H H'
      refine ⟨_, rfl, n, rfl, by omega, by omega, for_range (n := n.toNat) P2 ⟨o5, o6, rfl, m6⟩ (fun j σ H' hj h => ?_) (fun σ H' h => ?_)⟩
      · obtain ⟨o5, o6, rfl, sm⟩ := h
        rw [Int.zero_add]
        have hjN : (j : Int) < n := by omega
        refine ⟨_, rfl, _, rfl, _, _, rfl, _, rfl, _, rfl, _, _, rfl, (by show 2 ≤ sizeLine; decide), fun u nu => ?_⟩
        rw [min2, max2]
        have s2 : Same H' (upd H' u (.tup [.int (min (i : Int) j), .int (max (i : Int) j)])) := same_upd nu
        have m2 := sm.trans s2
        refine ⟨_, rfl, prD (min (i : Int) j, max (i : Int) j), _, (dt_pr (p := (min (i : Int) j, max (i : Int) j)) upd_same).dp, (hl.mono m2).dp, prD_shaped _, prsL_shaped _, ?_⟩
        rw [prs_any, hasP_mm cl]
        refine ⟨_, rfl, p, ddx, _, rfl, m2 _ _ h1, wf_no _ _ _ (by decide +kernel) (by decide +kernel) (by decide +kernel), _, rfl, _, rfl, p, _, _, .int (i : Int), .int (j : Int), n, q, rfl, W.mono m2, .int _, .int _, fun bad => (thI i hiN bad).elim, fun _ bad => (thI j hjN bad).elim, fun x y ex ey hx hy H5 s5 => ?_⟩
        obtain rfl : i = x := by
          cases ex
          rfl
        obtain rfl : j = y := by
          cases ey
          rfl
        have m5 := m2.trans s5
        refine ⟨_, rfl, _, _, rfl, fun H6 s6 => ⟨true, congrArg V.bl (by simp), iteF ?_⟩⟩
        have m6 := m5.trans s6
        refine ⟨_, rfl, _, rfl, (by show 2 ≤ sizeLine; decide), fun v nv => ?_⟩
        have s7 : Same H6 (upd H6 v (.tup [.int (i : Int), .int (j : Int)])) := same_upd nv
        have m7 := m6.trans s7
        refine ⟨_, rfl, p, ddx, _, rfl, m7 _ _ h1, p, _, .tuple [.int (i : Int), .int (j : Int)], n, q, rfl, W.mono m7, .tup upd_same (.cons (.int _) (.cons (.int _) .nil)), fun H8 s8 => ⟨_, rfl, _, rfl, rfl, false, ?_, iteF ⟨_, _, rfl, m7.trans s8⟩⟩⟩
        rw [inW_xy hiN hjN]
        show V.bl (!decide (V.bl _ = V.bl _)) = _
        rw [decide_eq_true rfl]
        rfl
      · obtain ⟨o5, o6, rfl, sm⟩ := h
        exact ⟨_, _, _, _, rfl, sm⟩
    · obtain ⟨o3, o4, o5, o6, rfl, sm⟩ := h
      -- entries that are no pairs of things
      have mH := sm
      refine ⟨by show 1 ≤ sizeLine; decide, fun t1 n1 => ?_⟩
      have s1 := same_upd (o := .tup [.int 0]) n1
      refine ⟨by show 3 ≤ sizeLine; decide, fun t2 n2 => ?_⟩
      have s2 := same_upd (o := .tup [.int 0, .int 1, .int 0]) n2
      refine ⟨_, rfl, by show 2 ≤ sizeLine; decide, fun t3 n3 => ?_⟩
      have s3 := same_upd (o := .tup [.int n, .int 0]) n3
      refine ⟨_, rfl, by show 2 ≤ sizeLine; decide, fun t4 n4 => ?_⟩
      have s4 := same_upd (o := .tup [.int 0, .int n]) n4
      refine ⟨_, _, rfl, rfl, by show 2 ≤ sizeLine; decide, fun t5 n5 => ?_⟩
      have s5 := same_upd (o := .tup [.int (0 - 1), .int 0]) n5
      refine ⟨by show 2 ≤ sizeLine; decide, fun t6 n6 => ?_⟩
      have s6 := same_upd (o := .tup [.bl true, .int 0]) n6
      refine ⟨by show 2 ≤ sizeLine; decide, fun t7 n7 => ?_⟩
      have s7 := same_upd (o := .lst [.int 0, .int 1]) n7
      refine ⟨by show 10 ≤ sizeLine; decide, fun D nD => ?_⟩
      have s8 := same_upd (o := .lst [.ref t1, .ref t2, .ref t3, .ref t4, .ref t5, .ref t6, .ref t7, .non, .int 3, .str "01"]) nD
      have mD := mH.trans (((((((s1.trans s2).trans s3).trans s4).trans s5).trans s6).trans s7).trans s8)
      have da : DtAll _ _ [.tuple [.int 0], .tuple [.int 0, .int 1, .int 0], .tuple [.int n, .int 0], .tuple [.int 0, .int n], .tuple [.int (0 - 1), .int 0], .tuple [.bool true, .int 0], .list [.int 0, .int 1], .none, .int 3, .str "01"] := (.cons ((Dt.tup upd_same (.cons (.int _) .nil)).mono ((((((s2.trans s3).trans s4).trans s5).trans s6).trans s7).trans s8)) (.cons ((Dt.tup upd_same (.cons (.int _) (.cons (.int _) (.cons (.int _) .nil)))).mono (((((s3.trans s4).trans s5).trans s6).trans s7).trans s8)) (.cons ((Dt.tup upd_same (.cons (.int _) (.cons (.int _) .nil))).mono ((((s4.trans s5).trans s6).trans s7).trans s8)) (.cons ((Dt.tup upd_same (.cons (.int _) (.cons (.int _) .nil))).mono (((s5.trans s6).trans s7).trans s8)) (.cons ((Dt.tup upd_same (.cons (.int _) (.cons (.int _) .nil))).mono ((s6.trans s7).trans s8)) (.cons ((Dt.tup upd_same (.cons (.bl _) (.cons (.int _) .nil))).mono (s7.trans s8)) (.cons ((Dt.lst upd_same (.cons (.int _) (.cons (.int _) .nil))).mono s8) (.cons .non (.cons (.int _) (.cons (.str _) .nil))))))))))
      have no : ∀ d ∈ ([.tuple [.int 0], .tuple [.int 0, .int 1, .int 0], .tuple [.int n, .int 0], .tuple [.int 0, .int n], .tuple [.int (0 - 1), .int 0], .tuple [.bool true, .int 0], .list [.int 0, .int 1], .none, .int 3, .str "01"] : List PyData), inW n q d = false := by
        intro d hd
        simp only [List.mem_cons, List.not_mem_nil, or_false] at hd
        rcases hd with rfl | rfl | rfl | rfl | rfl | rfl | rfl | rfl | rfl | rfl <;> first | rfl | (show (decide _ && _) = false; rw [decide_eq_false (by omega)]; rfl)
      let P3 : Nat → L2.St → Hp → Prop := fun i σ H' => ∃ o7, σ = [some (.ref p), some (.int n), some (.ref b), o3, o4, o5, o6, o7] ∧ Same (heapOf mD) H'
      refine ⟨D, rfl, ⟨_, SqL.of upd_same⟩, for_list (K := K) (a := D) (xs := [.ref t1, .ref t2, .ref t3, .ref t4, .ref t5, .ref t6, .ref t7, .non, .int 3, .str "01"]) P3 ⟨_, rfl, Same.refl _⟩ (fun i σ H' _ h => SqL.of (h.choose_spec.2 _ _ upd_same)) (fun i v σ H' hi h => ?_) (fun σ H' h => ?_)⟩
      · obtain ⟨o7, rfl, sE⟩ := h
        obtain ⟨d, hd, hv⟩ := da.at hi
        have mE := mD.trans sE
        refine ⟨_, rfl, _, rfl, p, ddx, _, rfl, mE _ _ h1, p, v, d, n, q, rfl, W.mono mE, hv.mono sE, fun H2 s2 => ⟨_, rfl, false, ?_, iteF ⟨_, rfl, sE.trans s2⟩⟩⟩
        rw [no d (List.mem_of_getElem? hd)]
      · obtain ⟨o7, rfl, sE⟩ := h
        have mE := mD.trans sE
        have mH := mE
        refine ⟨by show 2 ≤ sizeLine; decide, fun t1 n1 => ?_⟩
        have s1 := same_upd (o := .tup [.non, .int 0]) n1
        refine ⟨by show 2 ≤ sizeLine; decide, fun t2 n2 => ?_⟩
        have s2 := same_upd (o := .tup [.str "0", .int 1]) n2
        refine ⟨by show 1 ≤ sizeLine; decide, fun t3 n3 => ?_⟩
        have s3 := same_upd (o := .lst [.int 0]) n3
        refine ⟨by show 2 ≤ sizeLine; decide, fun t4 n4 => ?_⟩
        have s4 := same_upd (o := .tup [.ref t3, .int 1]) n4
        refine ⟨by show 2 ≤ sizeLine; decide, fun t5 n5 => ?_⟩
        have s5 := same_upd (o := .tup [.int 0, .int 1]) n5
        refine ⟨by show 2 ≤ sizeLine; decide, fun t6 n6 => ?_⟩
        have s6 := same_upd (o := .tup [.ref t5, .int 0]) n6
        refine ⟨by show 2 ≤ sizeLine; decide, fun t7 n7 => ?_⟩
        have s7 := same_upd (o := .tup [.int 0, .non]) n7
        refine ⟨by show 5 ≤ sizeLine; decide, fun D nD => ?_⟩
        have s8 := same_upd (o := .lst [.ref t1, .ref t2, .ref t4, .ref t6, .ref t7]) nD
        have mD := mH.trans (((((((s1.trans s2).trans s3).trans s4).trans s5).trans s6).trans s7).trans s8)
        have da : DtAll _ [.ref t1, .ref t2, .ref t4, .ref t6, .ref t7] [.tuple [.none, .int 0], .tuple [.str "0", .int 1], .tuple [.list [.int 0], .int 1], .tuple [.tuple [.int 0, .int 1], .int 0], .tuple [.int 0, .none]] :=
          .cons ((Dt.tup upd_same (.cons .non (.cons (.int _) .nil))).mono ((((((s2.trans s3).trans s4).trans s5).trans s6).trans s7).trans s8)) (.cons ((Dt.tup upd_same (.cons (.str _) (.cons (.int _) .nil))).mono (((((s3.trans s4).trans s5).trans s6).trans s7).trans s8))
            (.cons ((Dt.tup upd_same (.cons ((Dt.lst upd_same (.cons (.int _) .nil)).mono s4) (.cons (.int _) .nil))).mono (((s5.trans s6).trans s7).trans s8))
            (.cons ((Dt.tup upd_same (.cons ((Dt.tup upd_same (.cons (.int _) (.cons (.int _) .nil))).mono s6) (.cons (.int _) .nil))).mono (s7.trans s8)) (.cons ((Dt.tup upd_same (.cons (.int _) (.cons .non .nil))).mono s8) .nil))))
        have no : ∀ d ∈ ([.tuple [.none, .int 0], .tuple [.str "0", .int 1], .tuple [.list [.int 0], .int 1], .tuple [.tuple [.int 0, .int 1], .int 0], .tuple [.int 0, .none]] : List PyData), inW n q d = false := by
          intro d hd
          simp only [List.mem_cons, List.not_mem_nil, or_false] at hd
          rcases hd with rfl | rfl | rfl | rfl | rfl <;> rfl
        let P3 : Nat → L2.St → Hp → Prop := fun i σ H' => ∃ o7, σ = [some (.ref p), some (.int n), some (.ref b), o3, o4, o5, o6, o7] ∧ Same (heapOf mD) H'
        refine ⟨D, rfl, ⟨_, SqL.of upd_same⟩, for_list (K := K) (a := D) (xs := [.ref t1, .ref t2, .ref t4, .ref t6, .ref t7]) P3 ⟨_, rfl, Same.refl _⟩ (fun i σ H' _ h => SqL.of (h.choose_spec.2 _ _ upd_same)) (fun i v σ H' hi h => ?_) (fun σ H' h => ?_)⟩
        · obtain ⟨o7, rfl, sE⟩ := h
          obtain ⟨d, hd, hv⟩ := da.at hi
          have mE := mD.trans sE
          refine ⟨_, rfl, _, rfl, p, ddx, _, rfl, mE _ _ h1, p, v, d, n, q, rfl, W.mono mE, hv.mono sE, fun H2 s2 => ⟨_, rfl, false, ?_, iteF ⟨_, rfl, sE.trans s2⟩⟩⟩
          rw [no d (List.mem_of_getElem? hd)]
        · obtain ⟨o7, rfl, sE⟩ := h
          exact k _ (mD.trans sE)
end
end K0
set_option Elab.async false
set_option linter.all false
set_option maxRecDepth 100000
set_option maxHeartbeats 4000000
namespace K0
open PySem PySem.Spec PyProof.Rows L2
theorem cut_take (xs : List V) (k : Nat) : cutV xs none (some (k : Int)) = xs.take k := by
  unfold cutV HT.sIx
  simp only [Nat.sub_zero, List.drop_zero]
  by_cases h : xs.length ≤ k
  · rw [List.take_of_length_le h]
    refine List.take_of_length_le ?_
    split <;> omega
  · congr 1
    split <;> omega
theorem cut_drop (xs : List V) (k : Nat) (h : k ≤ xs.length) : cutV xs (some (k : Int)) none = xs.drop k := by
  have e : HT.sIx xs.length 0 (some (k : Int)) = k := by
    unfold HT.sIx
    simp only
    split <;> omega
  have e2 : HT.sIx xs.length xs.length none = xs.length := rfl
  unfold cutV
  rw [e, e2]
  refine List.take_of_length_le ?_
  rw [List.length_drop]
  exact Nat.le_refl _
theorem cl_eq {n m : Int} {q q' : List Pr} (h : Cl n q) (h' : Cl m q') (e : ∀ z, z ∈ q' ↔ z ∈ q) : q' = q := srt_unique h'.srt h.srt e
theorem Cl.up {n m : Int} {q : List Pr} (h : Cl n q) (l : n ≤ m) : Cl m q := ⟨h.srt, fun p hp => by have := h.rng p hp; omega⟩
/-- Web(n, ..) on a list of pairs that holds just those of r, once or more -/
theorem mk_ls {K : PySem.W.Frag} {C CN CW : Addr} {H : Hp} {b : Addr} {n : Int} {ps : List Pr} {Q : VK} {E : XK} (hl : Ls H b ps) (rng : ∀ z ∈ ps, 0 ≤ z.1 ∧ z.1 < z.2 ∧ z.2 < n) (h0 : 0 ≤ n) (h8 : n ≤ 8)
    (k : ∀ H' p q, Same H H' → H p = none → Cl n q → (∀ z, z ∈ q ↔ z ∈ ps) → WebAt C (New H H') p n q → Q (.ref p) H') : spMk K C CN CW [.int n, .ref b] H Q E := by
  refine ⟨b, .int n, .int n, ps.map prD, rfl, .int n, hl.sq, fun z => ?_, fun m e _ => ?_⟩
  · have z' : ¬ (0 ≤ n) := of_decide_eq_false z
    exact absurd h0 z'
  · cases e
    refine ⟨h8, fun ps' hps q cq hm H' p sm np W => ?_, fun x y hxy => ?_⟩
    · rw [entsOf_prs rng] at hps
      cases hps
      exact k H' p q sm np cq hm W
    · rw [entsOf_prs rng] at hxy
      cases hxy
end K0
set_option Elab.async false
set_option linter.all false
set_option maxRecDepth 100000
set_option maxHeartbeats 4000000
namespace K0
open PySem PySem.Spec PyProof.Rows L2
theorem DtAll.rev {H : Hp} : ∀ {vs : List V} {ds : List PyData}, DtAll H vs ds → DtAll H vs.reverse ds.reverse
  | _, _, .nil => .nil
  | _, _, .cons h t => by
    rw [List.reverse_cons, List.reverse_cons]
    exact t.rev.app (.cons h .nil)
section
variable {K : PySem.W.Frag} {C : Addr} {H : Hp} {p p1 b : Addr} {n m : Int} {q q1 : List Pr} {Q : VK} {E : XK}
theorem eqO_web (T : WebI K C) (W : WebAt C H p n q) (W1 : WebAt C H p1 m q1) (k : Ret (.bl (decide (n = m) && decide (q = q1))) H Q) : rEqO K C (spEqW C) E (.ref p) (.ref p1) H Q := by
  obtain ⟨dx, c, mm, xs, h1, _⟩ := W.tuple
  obtain ⟨dx', c', mm', xs', h1', _⟩ := W1.tuple
  exact ⟨p, dx, _, _, rfl, h1, .ins h1', by simp [PySem.W.notFirst], p, _, n, q, rfl, W, .inl ⟨p1, m, q1, rfl, W1, fun H2 s2 => ⟨_, rfl, k H2 s2⟩⟩⟩
theorem eqO_lst (T : WebI K C) (W : WebAt C H p n q) (hl : Ls H b q1) (k : Ret (.bl false) H Q) : rEqO K C (spEqW C) E (.ref p) (.ref b) H Q := by
  obtain ⟨dx, c, mm, xs, h1, _⟩ := W.tuple
  obtain ⟨ys, hb, hy⟩ := hl
  exact ⟨p, dx, _, _, rfl, h1, .lst hb, T.nf "list" (by simp), p, _, n, q, rfl, W, .inr ⟨_, .lst hb hy, fun H2 s2 => ⟨_, rfl, k H2 s2⟩⟩⟩
theorem eqO_int (T : WebI K C) (W : WebAt C H p n q) (k : Ret (.bl false) H Q) : rEqO K C (spEqW C) E (.ref p) (.int m) H Q := by
  obtain ⟨dx, c, mm, xs, h1, _⟩ := W.tuple
  exact ⟨p, dx, _, _, rfl, h1, .int m, T.nf "int" (by simp), p, _, n, q, rfl, W, .inr ⟨_, .int m, fun H2 s2 => ⟨_, rfl, k H2 s2⟩⟩⟩
end
section
variable {P : Program} {w : World} {K : PySem.W.Frag} {mg : Str → Option Value} {base : Heap} {f : Addr} {fd : FuncData}
abbrev s_eq : Stmt := top 45
/-- _law_equal -/
def spLe (C : Addr) : Sp := fun vs H Q _ => ∃ (p b : Addr) (n : Int) (q : List Pr), vs = [.ref p, .int n, .ref b] ∧ WebAt C H p n q ∧ n ≤ 7 ∧ Ls H b q ∧ Ret (.bl true) H Q
theorem sc_eq : FnScope ["_law_web", "_law_many", "_law_pairs", "_law_pair", "_law_other"] ["_law_web", "_law_many", "_law_pairs"] (defScope s_eq) := ⟨rfl, rfl, rfl, by decide +kernel, rfl, by decide +kernel, by decide +kernel⟩
theorem ok_eq {C CN CW CT CP : Addr} (F : Fun K "_law_equal" "_law_equal" s_eq f fd) (B : Blt2 mg) (M : WebM P w K mg base C CN CW CT CP) (SY : Df P w K mg base "_law_says" 1 ["_law_told", "_law_due"] spSy) (BW : Df P w K mg base "_law_backward" 1 ["_law_things"] spBw)
    (CO : Df P w K mg base "_law_contrary" 1 ["_law_many", "_law_pairs"] spCo) : FnOk P w K mg base (L2.CX P w) 6 f fd ["_law_web", "_law_many", "_law_pairs"] (spLe C) := by
  refine F.okX sc_eq (fun vs H Q E h => ?_) (fun cdv A outer s H vs Q E hr h => ?_)
  · obtain ⟨p, b, n, q, rfl, _⟩ := h
    rfl
  · obtain ⟨p, b, n, q, rfl, W, n7, hl, k⟩ := h
    have nd := sc_eq.nd
    have hu := hr.units
    have r1 : Room 1 _ := hr.mono (by decide)
    refine ⟨_, pss_cons (ps_if (PW.pt (pw_or (pt_not (pt_val (pe_df SY r1 (by rfl) passUp (pa_cons (pe_cmpR (op_eqO M.EQ r1 passUp) (pv 0) (pe_web M.WK hr (by rfl) passUp (pa_cons (pv 1) (pa_cons (pv 2) pa_nil))) (by rfl)) (pa_cons pe_bl pa_nil)))))
        (pw_or1 (pt_not (pt_val (pe_df SY r1 (by rfl) passUp (pa_cons (pe_cmpR (op_eqO M.EQ r1 passUp) (pe_web M.WK hr (by rfl) passUp (pa_cons (pv 1) (pa_cons (pe_df BW r1 (by rfl) passUp (pa_cons (pv 2) pa_nil)) pa_nil))) (pv 0) (by rfl)) (pa_cons pe_bl pa_nil)))))))) (pss_one (ps_ret pe_bl)) pss_nil)
      (pss_cons (ps_if (PW.pt (pw_or (pt_cmpR (op_eqO M.EQ r1 passUp) (pv 0) (pe_web M.WK hr (by rfl) passUp (pa_cons (pe_op op_add (pv 1) pe_int) (pa_cons (pv 2) pa_nil))) (by rfl))
        (pw_or (pt_cmpR (op_eqO M.EQ r1 passUp) (pv 0) (pv 2) (by rfl)) (pw_or1 (pt_cmpR (op_eqO M.EQ r1 passUp) (pv 0) (pv 1) (by rfl)))))) (pss_one (ps_ret pe_bl)) pss_nil)
      (pss_cons (ps_for (passes_of rfl) rfl (pi_list (pe_slice sl_list (pv 2) po_none (po_some pe_int))) (pg_name (i := 3) nd rfl (.inr rfl))
        (pss_one (ps_if (pt_cmpR (op_eqO M.EQ r1 passUp) (pv 0) (pe_web M.WK hr (by rfl) passUp (pa_cons (pv 1) (pa_cons (pe_lc (own := [("_law_other", 4)]) (g := gName 4) (tt := tTest (tOp (rNeD K) (tVar 4) (tVar 3))) (te := tVar 4) rfl nd (pi_list (pv 2))
            (blkOk_by (N := ["_law_web", "_law_many", "_law_pairs", "_law_pair", "_law_other"]) (sc := defScope s_eq) (by decide +kernel)) (fun _ _ _ _ _ => pg_name (i := 4) nd rfl (.inl rfl)) (fun _ _ _ _ _ => pts_one (pt_cmpR (op_neD hu) (pv 4) (pv 3) (by rfl))) (fun _ _ _ _ _ => pv 4)) pa_nil))) (by rfl)) (pss_one (ps_ret pe_bl)) pss_nil)))
      (pss_cons (ps_for (passes_of rfl) rfl (pi_list (pe_slice sl_list (pe_df CO r1 (by rfl) passUp (pa_cons (pv 1) (pa_cons (pv 2) pa_nil))) po_none (po_some pe_int))) (pg_name (i := 3) nd rfl (.inr rfl))
        (pss_one (ps_if (pt_cmpR (op_eqO M.EQ r1 passUp) (pv 0) (pe_web M.WK hr (by rfl) passUp (pa_cons (pv 1) (pa_cons (pe_op op_cat (pv 2) (pe_lst (pa_cons (pv 3) pa_nil))) pa_nil))) (by rfl)) (pss_one (ps_ret pe_bl)) pss_nil)))
      (pss_one (ps_ret pe_bl))))), ?_⟩
    have cl := W.cl
    have n0 := W.n0
    obtain ⟨ys, hb, hy⟩ := id hl
    have ly := hy.len
    rw [List.length_map] at ly
    have few : q.length ≤ 28 := cl.few W.n8
    have rng1 : ∀ z ∈ q, 0 ≤ z.1 ∧ z.1 < z.2 ∧ z.2 < n + 1 := fun z hz => by have := cl.rng z hz; omega
    have tn : (decide (n = n) && decide (q = q)) = true := by simp
    -- web == Web(many, pairs)
    refine ⟨_, rfl, _, rfl, _, rfl, ?_⟩
    dsimp only [tNil]
    refine mk_ls hl cl.rng n0 W.n8 fun H1 p1 q1 s1 np1 c1 e1 W1 => ?_
    have W1' : WebAt C H1 p1 n q1 := W1.mono same_new
    obtain rfl : q1 = q := cl_eq cl c1 e1
    refine eqO_web M.T (W.mono s1) W1' fun H2 s2 => ?_
    have s12 := s1.trans s2
    refine ⟨_, _, rfl, fun H3 s3 => ⟨true, congrArg V.bl (by rw [tn]; rfl), iteF ?_⟩⟩
    have s13 := s12.trans s3
    -- Web(many, backward) == web
    refine ⟨_, rfl, _, rfl, b, ys, rfl, s13 _ _ hb, by omega, fun H4 a4 s4 na4 ha4 => ?_⟩
    have s14 := s13.trans s4
    have hl4 : Ls H4 a4 q1.reverse := ⟨_, ha4, by rw [List.map_reverse]; exact (hy.mono s14).rev⟩
    dsimp only [tNil]
    refine mk_ls hl4 (fun z hz => cl.rng z (List.mem_reverse.mp hz)) n0 W.n8 fun H5 p5 q5 s5 np5 c5 e5 W5 => ?_
    have W5' : WebAt C H5 p5 n q5 := W5.mono same_new
    obtain rfl : q5 = q1 := cl_eq cl c5 fun z => (e5 z).trans List.mem_reverse
    have s15 := s14.trans s5
    refine ⟨_, rfl, eqO_web M.T W5' (W.mono s15) fun H6 s6 => ?_⟩
    have s16 := s15.trans s6
    refine ⟨_, _, rfl, fun H7 s7 => ⟨true, congrArg V.bl (by rw [tn]; rfl), iteF ?_⟩⟩
    have s17 := s16.trans s7
    -- web == Web(many + 1, pairs), pairs, many
    refine ⟨_, rfl, _, rfl, _, _, rfl, rfl, _, rfl, ?_⟩
    dsimp only [tNil]
    refine mk_ls (hl.mono s17) rng1 (by omega) (by omega) fun H8 p8 q8 s8 np8 c8 e8 W8 => ?_
    have s18 := s17.trans s8
    refine eqO_web M.T (W.mono s18) (W8.mono same_new) fun H9 s9 => ⟨false, congrArg V.bl (by rw [decide_eq_false (by omega)]; rfl), iteF ?_⟩
    have s19 := s18.trans s9
    refine ⟨_, rfl, _, rfl, eqO_lst M.T (W.mono s19) (hl.mono s19) fun H10 s10 => ⟨_, rfl, iteF ?_⟩⟩
    have s20 := s19.trans s10
    refine ⟨_, rfl, _, rfl, eqO_int M.T (W.mono s20) fun H11 s11 => ⟨_, rfl, iteF ?_⟩⟩
    have s21 := s20.trans s11
    -- a pair less
    refine ⟨_, rfl, 2, rfl, b, ys, rfl, SqL.of (s21 _ _ hb), fun D nD => ?_⟩
    rw [show (some (2 : Int)) = some ((2 : Nat) : Int) from rfl, cut_take]
    have sD : Same H11 (upd H11 D (.lst (ys.take 2))) := same_upd nD
    have mD := s21.trans sD
    let P1 : Nat → L2.St → Hp → Prop := fun i σ H' => ∃ o3, σ = [some (.ref p), some (.int n), some (.ref b), o3, none] ∧ Same (heapOf mD) H'
    refine ⟨D, rfl, ⟨_, SqL.of upd_same⟩, for_list (K := K) (a := D) (xs := ys.take 2) P1 ⟨_, rfl, Same.refl _⟩ (fun i σ H' _ h => SqL.of (h.choose_spec.2 _ _ upd_same)) (fun i v σ H' hi h => ?_) (fun σ H' h => ?_)⟩
    · obtain ⟨o3, rfl, sE⟩ := h
      have mE := mD.trans sE
      have hi' : ys[i]? = some v := by
        rw [List.getElem?_take] at hi
        split at hi
        · exact hi
        · cases hi
      obtain ⟨z0, pa, hz0, rfl, hpa⟩ := dta_map hy hi'
      have mem0 := List.mem_of_getElem? hz0
      refine ⟨_, rfl, _, rfl, _, rfl, b, rfl, ⟨_, SqL.of (mE _ _ hb)⟩, fun G nG => ?_⟩
      refine lc_it (walk_list (K := K) (a := b) (xs := ys)) (fun j H2 => Same H' H2 ∧ ∃ zs, H2 G = some (.lst zs) ∧ DtAll H2 zs (((q5.take j).filter fun z => !decide (z = z0)).map prD) ∧ zs.length ≤ j)
        ⟨same_upd nG, [], upd_same, .nil, Nat.zero_le _⟩ (fun j H2 _ z => SqL.of (z.1 _ _ (mE _ _ hb))) (fun j u H2 H3 hj z y => ?_) (fun H2 z => ?_)
      · obtain ⟨rfl, hu'⟩ := y
        obtain ⟨sm, zs, hG, dz, lz⟩ := z
        have m3 := mE.trans sm
        obtain ⟨z1, pb, hz1, rfl, hpb⟩ := dta_map (hy.mono m3) hu'
        refine ⟨rfl, _, rfl, _, rfl, prD z1, prD z0, (dt_pr hpb).dp, (dt_pr (m3 _ _ hpa)).dp, prD_shaped _, prD_shaped _, _, rfl, ?_⟩
        rw [prD_eqv]
        have tk : (q5.take (j + 1)).filter (fun z => !decide (z = z0)) = (q5.take j).filter (fun z => !decide (z = z0)) ++ (if (!decide (z1 = z0)) = true then [z1] else []) := by
          rw [take_at hz1, List.filter_append]
          congr 1
          cases e : (!decide (z1 = z0)) <;> simp [e]
        have hlt : j < q5.length := (List.getElem?_eq_some_iff.mp hz1).1
        cases e : (!decide (z1 = z0)) with
        | false =>
          rw [e, if_neg Bool.false_ne_true, List.append_nil] at tk
          exact iteF ⟨sm, zs, hG, by rw [tk]; exact dz, by omega⟩
        | true =>
          rw [e, if_pos rfl] at tk
          have sG : ∀ {o}, Same H' (upd H3 G o) := same_keep nG sm
          refine iteT ⟨_, rfl, _, hG, by rw [sizeLine_eq]; omega, sG, zs ++ [.ref pb], upd_same, ?_, by rw [List.length_append]; exact Nat.add_le_add_right lz 1⟩
          rw [tk, List.map_append]
          have kp : ∀ b' ys', H3 b' = some (.tup ys') → (upd H3 G (.lst (zs ++ [.ref pb]))) b' = some (.tup ys') := fun b' ys' e' => by
            rw [upd_ne (ne_of e' hG (fun z => nomatch z))]
            exact e'
          refine (dtAll_keep kp dz).app (.cons (dt_pr (kp _ _ hpb)) .nil)
      · obtain ⟨sm, zs, hG, dz, lz⟩ := z
        rw [ly, List.take_length] at dz
        have m3 := mE.trans sm
        dsimp only [tNil]
        refine mk_ls ⟨zs, hG, dz⟩ (fun z hz => cl.rng z (List.mem_filter.mp hz).1) n0 W.n8 fun H4 p4 q4 s4 np4 c4 e4 W4 => ?_
        have m4 := m3.trans s4
        have ne : ¬ q5 = q4 := fun e => by
          have := (e4 z0).mp (e ▸ mem0)
          have z' := (List.mem_filter.mp this).2
          rw [decide_eq_true rfl] at z'
          cases z'
        refine eqO_web M.T (W.mono m4) (W4.mono same_new) fun H5 s5 => ⟨false, congrArg V.bl (by rw [decide_eq_false ne, Bool.and_false]), iteF ?_⟩
        exact ⟨_, rfl, ((sE.trans sm).trans s4).trans s5⟩
    · obtain ⟨o3, rfl, sE⟩ := h
      have mE := mD.trans sE
      -- a pair more
      refine ⟨_, rfl, _, rfl, b, n, q5, rfl, n0, W.n8, hl.mono mE, fun H2 a2 rs s2 na2 g2 lx => ?_⟩
      have m2 := mE.trans s2
      obtain ⟨xs2, hx2, lx2, dx2⟩ := g2.at
      refine ⟨2, rfl, a2, xs2, rfl, SqL.of hx2, fun G nG => ?_⟩
      rw [show (some (2 : Int)) = some ((2 : Nat) : Int) from rfl, cut_take]
      have sG : Same H2 (upd H2 G (.lst (xs2.take 2))) := same_upd nG
      have mG := m2.trans sG
      let P2 : Nat → L2.St → Hp → Prop := fun i σ H' => ∃ o3, σ = [some (.ref p), some (.int n), some (.ref b), o3, none] ∧ Same (heapOf mG) H'
      refine ⟨G, rfl, ⟨_, SqL.of upd_same⟩, for_list (K := K) (a := G) (xs := xs2.take 2) P2 ⟨_, rfl, Same.refl _⟩ (fun i σ H' _ h => SqL.of (h.choose_spec.2 _ _ upd_same)) (fun i v σ H' hi h => ?_) (fun σ H' h => ?_)⟩
      · obtain ⟨o3, rfl, sF⟩ := h
        have mF := mG.trans sF
        have hi' : xs2[i]? = some v := by
          rw [List.getElem?_take] at hi
          split at hi
          · exact hi
          · cases hi
        obtain ⟨z0, pa, hz0, rfl, hpa⟩ := dta_map dx2 hi'
        have mem0 := (lx.fin z0).mp (List.mem_of_getElem? hz0)
        refine ⟨_, rfl, _, rfl, _, rfl, _, rfl, (by show 1 ≤ sizeLine; decide), fun t nt => ?_⟩
        have sT : Same H' (upd H' t (.lst [.ref pa])) := same_upd nt
        have mT := mF.trans sT
        refine ⟨b, t, ys, [.ref pa], rfl, rfl, mT _ _ hb, upd_same, by show ys.length + 1 ≤ _; rw [sizeLine_eq]; omega, fun u nu => ?_⟩
        have sU := same_upd (o := .lst (ys ++ [.ref pa])) nu
        have mU := mT.trans sU
        have hpaU := sU _ _ (sT _ _ (sF _ _ (sG _ _ hpa)))
        have lsU : Ls (heapOf mU) u (q5 ++ [z0]) := ⟨_, upd_same, by rw [List.map_append]; exact (hy.mono mU).app (.cons (dt_pr hpaU) .nil)⟩
        dsimp only [tNil]
        refine mk_ls lsU (fun z hz => ?_) n0 W.n8 fun H4 p4 q4 s4 np4 c4 e4 W4 => ?_
        · rcases List.mem_append.mp hz with hz | hz
          · exact cl.rng z hz
          · rw [List.mem_singleton.mp hz]
            exact mem0.1
        · have m4 := mU.trans s4
          have ne : ¬ q5 = q4 := fun e => mem0.2 (by rw [e]; exact (e4 z0).mpr (List.mem_append_right _ (List.mem_singleton.mpr rfl)))
          refine eqO_web M.T (W.mono m4) (W4.mono same_new) fun H5 s5 => ⟨false, congrArg V.bl (by rw [decide_eq_false ne, Bool.and_false]), iteF ?_⟩
          exact ⟨_, rfl, (((sF.trans sT).trans sU).trans s4).trans s5⟩
      · obtain ⟨o3, rfl, sF⟩ := h
        exact k _ (mG.trans sF)
end
end K0
set_option Elab.async false
set_option linter.all false
set_option maxRecDepth 100000
set_option maxHeartbeats 4000000
namespace K0
open PySem PySem.Spec PyProof.Rows L2
/-! ### sorted pairs -/
def kH (H : Hp) : V → Int × Int
  | .ref a => match H a with
    | some (.tup [.int x, .int y]) => (x, y)
    | _ => (0, 0)
  | _ => (0, 0)
theorem kH_at {H : Hp} {a : Addr} {p : Pr} (h : H a = some (.tup [.int p.1, .int p.2])) : kH H (.ref a) = p := by
  show (match H a with | some (.tup [.int x, .int y]) => (x, y) | _ => (0, 0)) = p
  rw [h]
theorem dta_kH {H : Hp} : ∀ {xs : List V} {ps : List Pr}, DtAll H xs (ps.map prD) → xs.map (kH H) = ps ∧ ∀ x ∈ xs, ∃ t, x = V.ref t ∧ H t = some (.tup [.int (kH H x).1, .int (kH H x).2])
  | xs, [], h => by
    cases h
    exact ⟨rfl, fun x hx => by cases hx⟩
  | xs, p :: ps, h => by
    cases h with
    | cons h1 h2 =>
      obtain ⟨e, hh⟩ := dta_kH h2
      cases h1 with
      | tup ea h =>
        cases h with
        | cons a b =>
          cases b with
          | cons c d =>
            cases a
            cases c
            cases d
            have ek := kH_at ea
            refine ⟨by rw [List.map_cons, ek, e], fun x hx => ?_⟩
            rcases List.mem_cons.mp hx with hx | hx
            · rw [hx, ek]
              exact ⟨_, rfl, ea⟩
            · exact hh x hx
theorem dta_of {H : Hp} {k : V → Int × Int} : ∀ {ys : List V}, (∀ y ∈ ys, ∃ t, y = V.ref t ∧ H t = some (.tup [.int (k y).1, .int (k y).2])) → DtAll H ys ((ys.map k).map prD)
  | [], _ => .nil
  | y :: ys, h => by
    obtain ⟨t, e, ht⟩ := h y List.mem_cons_self
    subst e
    exact .cons (dt_pr ht) (dta_of fun z hz => h z (List.mem_cons_of_mem _ hz))
theorem cr_srtP {X : Cx} : CallR X (.builtin "sorted") (fun xs H Q => ∃ a ps, xs = [.ref a] ∧ Ls H a ps ∧ ps.Nodup ∧ ∀ H' p rs, Same H H' → H p = none → Ls H' p rs → rs.Pairwise plt → (∀ z, z ∈ rs ↔ z ∈ ps) → rs.length = ps.length → Q (.ref p) H') := by
  intro pins s σ H xs us Q I r h
  obtain ⟨a, ps, rfl, ⟨ys, ha, hy⟩, nd, k⟩ := h
  obtain ⟨e, hh⟩ := dta_kH hy
  refine cr_sortedPO pins s σ H _ us Q I r ⟨a, ys, kH H, rfl, SqL.of ha, hh, fun zs p srt stb np => ?_⟩
  have sm : Same H (upd H p (.lst zs)) := same_upd np
  have pm : (zs.map (kH H)).Perm ps := by
    rw [← e]
    exact stb.perm.map _
  have nd2 : (zs.map (kH H)).Nodup := pm.nodup_iff.mpr nd
  refine k _ p (zs.map (kH H)) sm np ⟨zs, upd_same, dta_of fun y hy' => ?_⟩ ?_ (fun z => pm.mem_iff) pm.length_eq
  · obtain ⟨t, e1, e2⟩ := hh y (stb.perm.mem_iff.mp hy')
    exact ⟨t, e1, sm _ _ e2⟩
  · have s2 : (zs.map (kH H)).Pairwise fun x y => SrtO.lexB y x = false := List.pairwise_map.mpr srt
    refine List.Pairwise.imp₂ (fun x y h1 h2 => ?_) s2 nd2
    have := SrtO.lexB_no.mp h1
    have ne : x.1 ≠ y.1 ∨ x.2 ≠ y.2 := by
      by_cases e1 : x.1 = y.1
      · exact .inr fun e2 => h2 (Prod.ext e1 e2)
      · exact .inl e1
    unfold plt
    omega
end K0
set_option Elab.async false
set_option linter.all false
set_option maxRecDepth 100000
set_option maxHeartbeats 4000000
namespace K0
open PySem PySem.Spec PyProof.Rows L2
theorem part_eq {n : Int} {q : List Pr} (cl : Cl n q) {ts : List Int} (srt : ts.Pairwise (· < ·)) (z : Pr) : partIn ts q z ↔ (0 ≤ z.1 ∧ z.1 < z.2 ∧ z.2 < (ts.length : Int)) ∧ ((ts.getD z.1.toNat 0, ts.getD z.2.toNat 0) : Pr) ∈ q := by
  have nd : ts.Nodup := List.Pairwise.imp (fun {a b} h => by omega) srt
  constructor
  · rintro ⟨y, hy, h1, h2, rfl⟩
    have l1 := List.idxOf_lt_length_iff.mpr h1
    have l2 := List.idxOf_lt_length_iff.mpr h2
    have := idx_lt srt h1 h2 (cl.rng y hy).2.1
    refine ⟨⟨by dsimp only; omega, by dsimp only; omega, by dsimp only; omega⟩, ?_⟩
    dsimp only
    rw [Int.toNat_natCast, Int.toNat_natCast, List.getD_eq_getElem?_getD, List.getD_eq_getElem?_getD, List.getElem?_eq_getElem l1, List.getElem?_eq_getElem l2, Option.getD_some, Option.getD_some, List.getElem_idxOf, List.getElem_idxOf]
    exact hy
  · rintro ⟨⟨a, b, c⟩, h⟩
    have l1 : z.1.toNat < ts.length := by omega
    have l2 : z.2.toNat < ts.length := by omega
    rw [List.getD_eq_getElem?_getD, List.getD_eq_getElem?_getD, List.getElem?_eq_getElem l1, List.getElem?_eq_getElem l2, Option.getD_some, Option.getD_some] at h
    refine ⟨_, h, List.getElem_mem _, List.getElem_mem _, ?_⟩
    dsimp only
    rw [nd.idxOf_getElem, nd.idxOf_getElem]
    exact Prod.ext (by dsimp only; omega) (by dsimp only; omega)
theorem DrO.mono {H H' : Hp} {d : Addr} (h : DrO H d) (s : Same H H') : DrO H' d := let ⟨ns, h1, h2⟩ := h; ⟨ns, s _ _ h1, h2⟩
theorem filter_cl {n : Int} {q : List Pr} (h : Cl n q) (p : Pr → Bool) : Cl n (q.filter p) := ⟨List.Pairwise.filter _ h.srt, fun z hz => h.rng z (List.mem_filter.mp hz).1⟩
section
variable {P : Program} {w : World} {K : PySem.W.Frag} {mg : Str → Option Value} {base : Heap} {f : Addr} {fd : FuncData}
abbrev s_ch : Stmt := top 46
/-- _law_changed -/
def spCh (C : Addr) : Sp := fun vs H Q _ => ∃ (d p b : Addr) (n : Int) (q : List Pr), vs = [.ref d, .ref p, .int n, .ref b] ∧ DrO H d ∧ WebAt C (del H d) p n q ∧ Ls (del H d) b q ∧ 2 ≤ n ∧ n ≤ 7 ∧ ∀ H', Same (del H d) H' → DrO H' d → Q (.bl true) H'
abbrev nCh : List Str := ["_law_draws_here", "_law_web", "_law_many", "_law_pairs", "_law_near_here", "_law_handed", "_law_more", "_law_x", "_law_y", "_law_pair", "_law_others", "_law_things", "_law_other", "_law_z"]
theorem sc_ch : FnScope ["_law_draws_here", "_law_web", "_law_many", "_law_pairs", "_law_near_here", "_law_handed", "_law_more", "_law_x", "_law_y", "_law_pair", "_law_others", "_law_things", "_law_other", "_law_z"] ["_law_draws_here", "_law_web", "_law_many", "_law_pairs"] (defScope s_ch) := ⟨rfl, rfl, rfl, by decide +kernel, rfl, by decide +kernel, by decide +kernel⟩
theorem ok_ch {C CN CW CT CP : Addr} (F : Fun K "_law_changed" "_law_changed" s_ch f fd) (B : Blt2 mg) (M : WebM P w K mg base C CN CW CT CP) (SE : Df P w K mg base "_law_set" 2 ["_law_draws_here", "_law_many"] spSe) (BW : Df P w K mg base "_law_backward" 1 ["_law_things"] spBw)
    (WI : Df P w K mg base "_law_web_is" 4 ["_law_web", "_law_many", "_law_pairs"] (spWis C)) (RI : Df P w K mg base "_law_row_is" 2 ["_law_told", "_law_due"] spRi) (TK : Df P w K mg base "_law_take" 1 ["_law_draws_here", "_law_many"] spTk) (PA : Df P w K mg base "_law_part" 1 ["_law_pairs", "_law_things"] spPa) :
    FnOk P w K mg base (L2.CX P w) 8 f fd ["_law_draws_here", "_law_web", "_law_many", "_law_pairs"] (spCh C) := by
  refine F.okX sc_ch (fun vs H Q E h => ?_) (fun cdv A outer s H vs Q E hr h => ?_)
  · obtain ⟨d, p, b, n, q, rfl, _⟩ := h
    rfl
  · obtain ⟨d, p, b, n, q, rfl, dr, W, hl, n2, n7, k⟩ := h
    have nd := sc_ch.nd
    have hu := hr.units
    have r1 : Room 1 _ := hr.mono (by decide)
    have r2 : Room 2 _ := hr.mono (by decide)
    have r4 : Room 4 _ := hr.mono (by decide)
    have r6 : Room 6 _ := hr.mono (by decide)
    refine ⟨_, pss_cons (ps_set (i := 4) nd rfl (.inl rfl) (pe_df SE r2 (by rfl) passUp (pa_cons (pv 0) (pa_cons (pv 2) pa_nil))))
      (pss_cons (ps_set (i := 5) nd rfl (.inl rfl) (pe_df BW r1 (by rfl) passUp (pa_cons (pv 4) pa_nil)))
      (pss_cons (ps_set (i := 6) nd rfl (.inl rfl) (pe_mt1 M.WT r6 passUp (pv 1) (pa_cons (pv 5) pa_nil)))
      (pss_cons (ps_if (pt_not (pt_val (pe_df WI r4 (by rfl) passUp (pa_cons (pv 6) (pa_cons (pe_op op_add (pv 2) pe_int) (pa_cons (pe_callB cr_srtP (by rfl) B.sorted (by decide +kernel) (pa_cons (pe_op op_cat (pv 3)
          (pe_lc (own := [("_law_x", 7)]) (g := gName 7) rfl nd (pi_list (pv 4)) (blkOk_by (N := nCh) (sc := defScope s_ch) (by decide +kernel)) (fun _ _ _ _ _ => pg_name (i := 7) nd rfl (.inl rfl)) (fun _ _ _ _ _ => pts_nil) (fun _ _ _ _ _ => pe_tup (pa_cons (pv 7) (pa_cons (pv 2) pa_nil))))) pa_nil)) pa_nil)))))) (pss_one (ps_ret pe_bl)) pss_nil)
      (pss_cons (ps_if (PW.pt (pw_or (pt_cmpR (op_neD hu) (pv 5) (pe_df BW r1 (by rfl) passUp (pa_cons (pv 4) pa_nil)) (by rfl)) (pw_or1 (pt_not (pt_val (pe_df RI r2 (by rfl) passUp (pa_cons (pe_mt1 M.NR r4 passUp (pv 6) (pa_cons (pv 2) pa_nil)) (pa_cons (pv 4) pa_nil)))))))) (pss_one (ps_ret pe_bl)) pss_nil)
      (pss_cons (ps_set (i := 7) nd rfl (.inr rfl) (pe_df TK r1 (by rfl) passUp (pa_cons (pv 0) (pa_cons (pv 2) pa_nil))))
      (pss_cons (ps_set (i := 8) nd rfl (.inl rfl) (pe_op op_mod (pe_callTy call_int1 (by rfl) B.int (by decide +kernel) (pa_cons (pe_op op_add (pe_op op_add (pv 7) pe_int) (pe_df TK r1 (by rfl) passUp (pa_cons (pv 0) (pa_cons (pe_op op_sub (pv 2) pe_int) pa_nil)))) pa_nil)) (pv 2)))
      (pss_cons (ps_set (i := 9) nd rfl (.inr rfl) (pe_tup (pa_cons (pe_callB (c_min rfl) (by rfl) B.min (by decide +kernel) (pa_cons (pv 7) (pa_cons (pv 8) pa_nil))) (pa_cons (pe_callB (c_max rfl) (by rfl) B.max (by decide +kernel) (pa_cons (pv 7) (pa_cons (pv 8) pa_nil))) pa_nil))))
      (pss_cons (ps_setLc (i := 10) (own := [("_law_other", 12)]) (g := gName 12) (tt := tTest (tOp (rNeD K) (tVar 12) (tVar 9))) (te := tVar 12) rfl nd rfl (by rfl) (by rfl) (pi_list (pv 3)) (blkOk_by (N := nCh) (sc := defScope s_ch) (by decide +kernel)) (fun _ _ _ _ _ => pg_name (i := 12) nd rfl (.inl rfl))
          (fun _ _ _ _ _ => pts_one (pt_cmpR (op_neD hu) (pv 12) (pv 9) (by rfl))) (fun _ _ _ _ _ => pv 12))
      (pss_cons (ps_if (pt_not (pt_val (pe_df WI r4 (by rfl) passUp (pa_cons (pe_mt1 M.ST r6 passUp (pv 1) (pa_cons (pv 7) (pa_cons (pv 8) (pa_cons pe_bl pa_nil)))) (pa_cons (pv 2) (pa_cons (pe_callB cr_srtP (by rfl) B.sorted (by decide +kernel) (pa_cons (pe_op op_cat (pv 10) (pe_lst (pa_cons (pv 9) pa_nil))) pa_nil)) pa_nil)))))) (pss_one (ps_ret pe_bl)) pss_nil)
      (pss_cons (ps_if (pt_not (pt_val (pe_df WI r4 (by rfl) passUp (pa_cons (pe_mt1 M.ST r6 passUp (pv 1) (pa_cons (pv 7) (pa_cons (pv 8) (pa_cons pe_bl pa_nil)))) (pa_cons (pv 2) (pa_cons (pv 10) pa_nil)))))) (pss_one (ps_ret pe_bl)) pss_nil)
      (pss_cons (ps_setLc (i := 11) (own := [("_law_z", 13)]) (g := gName 13) (tt := tTest (tOp rNe (tVar 13) (tVar 7))) (te := tVar 13) rfl nd rfl (by rfl) (by rfl) (pi_range1 (by rfl) B.range (pa_cons (pv 2) pa_nil)) (blkOk_by (N := nCh) (sc := defScope s_ch) (by decide +kernel)) (fun _ _ _ _ _ => pg_name (i := 13) nd rfl (.inl rfl))
          (fun _ _ _ _ _ => pts_one (pt_cmpR op_ne (pv 13) (pv 7) (by rfl))) (fun _ _ _ _ _ => pv 13))
      (pss_one (ps_ret (pe_df WI r4 (by rfl) passUp (pa_cons (pe_mt1 M.WO hr passUp (pv 1) (pa_cons (pv 7) pa_nil)) (pa_cons (pe_op op_sub (pv 2) pe_int) (pa_cons (pe_df PA r1 (by rfl) passUp (pa_cons (pv 3) (pa_cons (pv 11) pa_nil))) pa_nil))))))))))))))))), ?_⟩
    have n0 : 0 ≤ n := by omega
    have cl := W.cl
    obtain ⟨ys, hb, hy⟩ := id hl
    have ly := hy.len
    rw [List.length_map] at ly
    have few : q.length ≤ 28 := cl.few (by omega)
    have tn : ∀ (x : Int) (z : List Pr), (decide (x = x) && decide (z = z)) = true := fun x z => by simp
    obtain ⟨ddx, cc, mm, xs0, w1, _⟩ := W.tuple
    -- near_here, handed
    refine ⟨_, rfl, _, rfl, d, n, rfl, n0, by omega, dr, fun H1 a ns m1 dr1 nA ha srt rng => ?_⟩
    have gd : Good n ns := ⟨List.Pairwise.imp (fun {a b} h => by omega) srt, rng⟩
    have lenN := gd.few (by omega)
    refine ⟨_, rfl, a, _, rfl, ha, by rw [List.length_map]; omega, fun H2 a2 s2 na2 ha2 => ?_⟩
    have ha2' : H2 a2 = some (.lst (ns.reverse.map V.int)) := by rw [ha2, List.map_reverse]
    have gdr : Good n ns.reverse := ⟨(List.reverse_perm ns).nodup_iff.mpr gd.nd, fun k hk => rng k (List.mem_reverse.mp hk)⟩
    have fwR : fwG n (ns.reverse.map .int) [] = none := fwG_good (sn := []) (by rw [List.nil_append]; exact gdr)
    have m2 := m1.trans s2
    have dr2 := dr1.mono s2
    -- more
    refine ⟨_, rfl, p, ddx, _, rfl, m2 _ _ w1, wf_no _ _ _ (by decide +kernel) (by decide +kernel) (by decide +kernel), _, rfl, p, a2, n, q, ns.reverse.map .int, rfl, W.mono m2, n7, .lst ha2' (DtAll.ints _ _), fun _ => ⟨⟨_, ha2', DtAll.ints _ _⟩, fun q3 c3 e3 H3 p3 s3 np3 W3 => ?_⟩, fun i e => by rw [fwR] at e; cases e⟩
    have W3' : WebAt C H3 p3 (n + 1) q3 := W3.mono same_new
    have e3' : ∀ z, z ∈ q3 ↔ z ∈ q ∨ (z.1 ∈ ns ∧ z.2 = n) := fun z => by
      rw [e3]
      refine or_congr Iff.rfl (and_congr ?_ Iff.rfl)
      simp
    have m3 := m2.trans s3
    have dr3 := dr2.mono s3
    have ha3 := s3 _ _ (s2 _ _ ha)
    have ha23 := s3 _ _ ha2'
    refine ⟨_, rfl, _, rfl, _, _, rfl, rfl, _, rfl, _, rfl, a, rfl, ⟨_, SqL.of ha3⟩, fun G nG => ?_⟩
    refine lc_it (walk_list (K := K) (a := a) (xs := ns.map V.int)) (fun i H' => Same H3 H' ∧ Grow H' G ((ns.take i).map fun k => (k, n))) ⟨same_upd nG, ⟨[], upd_same, rfl, fun z hz => by cases hz⟩⟩ (fun i H' _ z => SqL.of (z.1 _ _ ha3)) (fun i v H' H4 hi z y => ?_) (fun H4 z => ?_)
    · obtain ⟨rfl, hv⟩ := y
      obtain ⟨sm, g⟩ := z
      rw [List.getElem?_map] at hv
      obtain ⟨k0, hk0, rfl⟩ := Option.map_eq_some_iff.mp hv
      obtain ⟨zs, hz, lz, _⟩ := g.at
      refine ⟨rfl, ?_⟩
      refine ⟨_, rfl, _, rfl, (by show 2 ≤ sizeLine; decide), fun u nu => ?_⟩
      have s5 := same_upd (o := .tup [.int k0, .int n]) nu
      refine ⟨_, s5 _ _ hz, by rw [lz, List.length_map, List.length_take, sizeLine_eq]; omega, same_keep nG (sm.trans s5), ?_⟩
      rw [take_at hk0, List.map_append]
      exact g.push nu hz
    · obtain ⟨sm, g⟩ := z
      rw [List.length_map, List.take_length] at g
      obtain ⟨zs, hz, lz, dz⟩ := g.at
      rw [List.length_map] at lz
      have m4 := m3.trans sm
      refine ⟨b, G, ys, zs, rfl, rfl, m4 _ _ hb, hz, by rw [sizeLine_eq]; omega, fun u nu => ?_⟩
      have s5 := same_upd (o := .lst (ys ++ zs)) nu
      have m5 := m4.trans s5
      have ls5 : Ls (heapOf m5) u (q ++ ns.map fun k => (k, n)) := ⟨_, upd_same, by rw [List.map_append]; exact (hy.mono m5).app (dz.mono s5)⟩
      have nd5 : (q ++ ns.map fun k => ((k, n) : Pr)).Nodup := by
        rw [List.nodup_append]
        refine ⟨pairwise_nodup cl.srt, List.pairwise_map.mpr (List.Pairwise.imp (fun {a b} h e => by cases e; omega) srt), fun x hx y hy e => ?_⟩
        obtain ⟨k0, _, rfl⟩ := List.mem_map.mp hy
        have := cl.rng x hx
        rw [e] at this
        dsimp only at this
        omega
      refine ⟨u, _, rfl, ls5, nd5, fun H6 r6 rs s6 nr6 ls6 srt6 mem6 len6 => ?_⟩
      obtain rfl : rs = q3 := srt_unique srt6 c3.srt fun z => by
        rw [mem6, e3', List.mem_append]
        refine or_congr Iff.rfl ⟨fun h => ?_, fun ⟨h1, h2⟩ => ?_⟩
        · obtain ⟨k0, h', rfl⟩ := List.mem_map.mp h
          exact ⟨h', rfl⟩
        · exact List.mem_map.mpr ⟨z.1, h1, Prod.ext rfl h2.symm⟩
      have s36 := (sm.trans s5).trans s6
      rw [List.length_append, List.length_map] at len6
      refine ⟨p3, r6, n + 1, n + 1, rs, rs, rfl, W3'.mono s36, ls6.sqp, by omega, fun H7 s7 => ⟨true, congrArg V.bl (tn _ _), iteF ?_⟩⟩
      have s37 := s36.trans s7
      -- handed is as it was
      refine ⟨_, rfl, _, rfl, a, _, rfl, s37 _ _ ha3, by rw [List.length_map]; omega, fun H8 a8 s8 na8 ha8 => ?_⟩
      have ha8' : H8 a8 = some (.lst (ns.reverse.map V.int)) := by rw [ha8, List.map_reverse]
      have s38 := s37.trans s8
      refine ⟨.list (ns.reverse.map .int), .list (ns.reverse.map .int), (Dt.lst (s38 _ _ ha23) (DtAll.ints _ _)).dp, (Dt.lst ha8' (DtAll.ints _ _)).dp, intsL_shaped _, intsL_shaped _, false, by rw [intsL_eqv, decide_eq_true rfl]; rfl, iteF ?_⟩
      -- more.near(many)
      obtain ⟨ddx3, cc3, mm3, xs3, w3, _⟩ := W3'.tuple
      refine ⟨_, rfl, p3, ddx3, _, rfl, s38 _ _ w3, wf_no _ _ _ (by decide +kernel) (by decide +kernel) (by decide +kernel), _, rfl, p3, _, .int n, n + 1, rs, rfl, W3'.mono s38, .int n, fun bad => ?_, fun x ex hlt H9 t s9 nt ht => ?_⟩
      · exact absurd (⟨n0, by omega⟩ : 0 ≤ n ∧ n < n + 1) (of_decide_eq_false bad)
      have exn : n = (x : Int) := by cases ex; rfl
      have enr : ((nearOf (n + 1) rs x).map fun (k : Nat) => (k : Int)) = ns := by
        refine asc_unique ?_ srt fun k => ?_
        · unfold nearOf
          exact List.pairwise_map.mpr (List.Pairwise.imp (fun {a b} h => Int.ofNat_lt.mpr h) (List.Pairwise.filter _ List.pairwise_lt_range))
        · unfold nearOf
          constructor
          · intro h
            obtain ⟨j, hj, rfl⟩ := List.mem_map.mp h
            have h2 := (List.mem_filter.mp hj).2
            unfold hasP at h2
            rcases Bool.or_eq_true_iff.mp h2 with h3 | h3
            · have h4 := of_decide_eq_true h3
              have := c3.rng _ h4
              dsimp only at this
              have hj1 := List.mem_range.mp (List.mem_filter.mp hj).1
              omega
            · have h4 := (e3' _).mp (of_decide_eq_true h3)
              rcases h4 with h4 | h4
              · have := cl.rng _ h4
                dsimp only at this
                omega
              · exact h4.1
          · intro h
            have hk := rng k h
            refine List.mem_map.mpr ⟨k.toNat, List.mem_filter.mpr ⟨List.mem_range.mpr (by omega), ?_⟩, by omega⟩
            unfold hasP
            rw [Bool.or_eq_true_iff]
            refine .inr (decide_eq_true ((e3' _).mpr (.inr ⟨?_, exn.symm⟩)))
            rw [show ((k.toNat : Nat) : Int) = k by omega]
            exact h
      rw [nvs_int, enr] at ht
      have s39 := s38.trans s9
      refine ⟨_, rfl, t, a, ns, ns, rfl, ht, .inl (s39 _ _ ha3), fun H10 s10 => ⟨true, congrArg V.bl (decide_eq_true rfl), iteF ?_⟩⟩
      have s310 := s39.trans s10
      have m10 := m3.trans s310
      have dr10 := dr3.mono s310
      -- x, y, pair
      refine ⟨_, rfl, _, rfl, d, n, rfl, by omega, dr10, fun x H11 x0 xn s11 dr11 => ?_⟩
      have m11 := sd_trans m10 s11
      refine ⟨_, rfl, _, _, rfl, rfl, _, rfl, _, rfl, _, _, rfl, rfl, d, n - 1, rfl, by omega, dr11, fun r H12 r0 rn s12 dr12 => ?_⟩
      have m12 := sd_trans m11 s12
      refine ⟨_, _, rfl, rfl, .inl ⟨_, rfl, _, rfl, _, _, rfl, rfl, by show 0 < n; omega, ?_⟩⟩
      have hY : 0 ≤ (x + 1 + r) % n ∧ (x + 1 + r) % n < n ∧ x ≠ (x + 1 + r) % n := by
        refine ⟨Int.emod_nonneg _ (by omega), Int.emod_lt_of_pos _ (by omega), ?_⟩
        by_cases c : x + 1 + r < n
        · rw [Int.emod_eq_of_lt (by omega) c]
          omega
        · have e : (x + 1 + r) % n = (x + 1 + r - n) % n := by rw [Int.sub_emod, Int.emod_self, Int.sub_zero, Int.emod_emod]
          rw [e, Int.emod_eq_of_lt (by omega) (by omega)]
          omega
      refine ⟨_, rfl, _, rfl, _, _, rfl, _, rfl, _, rfl, _, _, rfl, (by show 2 ≤ sizeLine; decide), fun t2 nt2 => ?_⟩
      rw [min2, max2]
      obtain ⟨pr, epr⟩ : ∃ pr : Pr, pr = (min x ((x + 1 + r) % n), max x ((x + 1 + r) % n)) := ⟨_, rfl⟩
      have t2d := dr12.ne nt2
      have s13 : Same H12 (upd H12 t2 (.tup [.int (min x ((x + 1 + r) % n)), .int (max x ((x + 1 + r) % n))])) := same_upd nt2
      have m13 := m12.trans s13
      have dr13 := dr12.mono s13
      have ht2 : (upd H12 t2 (.tup [.int (min x ((x + 1 + r) % n)), .int (max x ((x + 1 + r) % n))])) t2 = some (.tup [.int pr.1, .int pr.2]) := by rw [upd_same, epr]
      have rpr : 0 ≤ pr.1 ∧ pr.1 < pr.2 ∧ pr.2 < n := by
        rw [epr]
        dsimp only
        omega
      refine ⟨_, rfl, b, rfl, ⟨_, SqL.of (m13 _ _ hb)⟩, fun O nO => ?_⟩
      refine lc_it (walk_list (K := K) (a := b) (xs := ys)) (fun j H' => Same (heapOf s13) H' ∧ ∃ zs, H' O = some (.lst zs) ∧ DtAll H' zs (((q.take j).filter fun z => !decide (z = pr)).map prD) ∧ zs.length ≤ j)
        ⟨same_upd nO, [], upd_same, .nil, Nat.zero_le _⟩ (fun j H' _ z => SqL.of (z.1 _ _ (m13 _ _ hb))) (fun j u H' H'' hj z y => ?_) (fun H14 z => ?_)
      · obtain ⟨rfl, hu'⟩ := y
        obtain ⟨sm, zs, hG, dz, lz⟩ := z
        have m3 := m13.trans sm
        obtain ⟨z1, pb, hz1, rfl, hpb⟩ := dta_map (hy.mono m3) hu'
        refine ⟨rfl, _, rfl, _, rfl, prD z1, prD pr, (dt_pr hpb).dp, (dt_pr (sm _ _ ht2)).dp, prD_shaped _, prD_shaped _, _, rfl, ?_⟩
        rw [prD_eqv]
        have tk : (q.take (j + 1)).filter (fun z => !decide (z = pr)) = (q.take j).filter (fun z => !decide (z = pr)) ++ (if (!decide (z1 = pr)) = true then [z1] else []) := by
          rw [take_at hz1, List.filter_append]
          congr 1
          cases e : (!decide (z1 = pr)) <;> simp [e]
        have hlt : j < q.length := (List.getElem?_eq_some_iff.mp hz1).1
        cases e : (!decide (z1 = pr)) with
        | false =>
          rw [e, if_neg Bool.false_ne_true, List.append_nil] at tk
          exact iteF ⟨sm, zs, hG, by rw [tk]; exact dz, by omega⟩
        | true =>
          rw [e, if_pos rfl] at tk
          refine iteT ⟨_, rfl, _, hG, by rw [sizeLine_eq]; omega, same_keep nO sm, zs ++ [.ref pb], upd_same, ?_, by rw [List.length_append]; exact Nat.add_le_add_right lz 1⟩
          rw [tk, List.map_append]
          have kp : ∀ b' ys', H'' b' = some (.tup ys') → (upd H'' O (.lst (zs ++ [.ref pb]))) b' = some (.tup ys') := fun b' ys' e' => by
            rw [upd_ne (ne_of e' hG (fun z => nomatch z))]
            exact e'
          exact (dtAll_keep kp dz).app (.cons (dt_pr (kp _ _ hpb)) .nil)
      · obtain ⟨sm14, zs, hO, dz, lz⟩ := z
        rw [ly, List.take_length] at dz
        have m14 := m13.trans sm14
        have ht14 := sm14 _ _ ht2
        have Nx : isTh n (.int x) = false → False := fun z => (of_decide_eq_false z : ¬ (0 ≤ x ∧ x < n)) ⟨x0, xn⟩
        have Ny : isTh n (.int ((x + 1 + r) % n)) = false → False := fun z => (of_decide_eq_false z : ¬ (0 ≤ ((x + 1 + r) % n) ∧ ((x + 1 + r) % n) < n)) ⟨hY.1, hY.2.1⟩
        have Ne : PyData.eqv (.int x) (.int ((x + 1 + r) % n)) = true → False := fun z => by
          rw [PyData.eqv] at z
          exact hY.2.2 (beq_iff_eq.mp z)
        -- settled, clashing
        refine ⟨_, rfl, p, ddx, _, rfl, m14 _ _ w1, wf_no _ _ _ (by decide +kernel) (by decide +kernel) (by decide +kernel), _, rfl, _, rfl, p, _, _, true, .int x, .int ((x + 1 + r) % n), n, q, rfl, W.mono m14, .int _, .int _, fun z => (Nx z).elim, fun _ z => (Ny z).elim, fun _ _ z => (Ne z).elim, fun x' y' ex ey hx hy' ne q4 c4 e4 H15 p4 s15 np4 W4 => ?_⟩
        cases ex
        cases ey
        rw [← epr] at e4
        have W4' : WebAt C H15 p4 n q4 := W4.mono same_new
        have m15 := m14.trans s15
        refine ⟨_, rfl, _, rfl, _, rfl, (by show 1 ≤ sizeLine; decide), fun t3 n3 => ?_⟩
        have s16 := same_upd (o := .lst [.ref t2]) n3
        refine ⟨O, t3, zs, [.ref t2], rfl, rfl, s16 _ _ (s15 _ _ hO), upd_same, by show zs.length + 1 ≤ _; rw [sizeLine_eq]; omega, fun u nu => ?_⟩
        have s17 := same_upd (o := .lst (zs ++ [.ref t2])) nu
        have s147 := (s15.trans s16).trans s17
        have ls17 : Ls (heapOf s147) u (q.filter (fun z => !decide (z = pr)) ++ [pr]) := ⟨_, upd_same, by rw [List.map_append]; exact (dz.mono s147).app (.cons (dt_pr (s147 _ _ ht14)) .nil)⟩
        have memF : ∀ z, z ∈ q.filter (fun z => !decide (z = pr)) ↔ z ∈ q ∧ z ≠ pr := fun z => by
          rw [List.mem_filter]
          refine and_congr Iff.rfl ⟨fun h e => ?_, fun h => ?_⟩
          · rw [decide_eq_true e] at h
            cases h
          · rw [decide_eq_false h]
            rfl
        have nd17 : (q.filter (fun z => !decide (z = pr)) ++ [pr]).Nodup := by
          rw [List.nodup_append]
          refine ⟨pairwise_nodup (List.Pairwise.filter _ cl.srt), by simp, fun a ha b hb e => ?_⟩
          rw [List.mem_singleton.mp hb] at e
          exact ((memF a).mp ha).2 e
        have lF := List.length_filter_le (fun z => !decide (z = pr)) q
        refine ⟨u, _, rfl, ls17, nd17, fun H18 r6 rs4 s18 nr6 ls18 srt18 mem18 len18 => ?_⟩
        obtain rfl : rs4 = q4 := srt_unique srt18 c4.srt fun z => by
          rw [mem18, e4, List.mem_append, memF, List.mem_singleton]
          simp
        rw [List.length_append, List.length_singleton] at len18
        have s158 := (s16.trans s17).trans s18
        refine ⟨p4, r6, n, n, rs4, rs4, rfl, W4'.mono s158, ls18.sqp, by omega, fun H19 s19 => ⟨true, congrArg V.bl (tn _ _), iteF ?_⟩⟩
        have m19 := (m15.trans s158).trans s19
        have s14_19 := ((s15.trans s158).trans s19)
        -- settled, a gap
        refine ⟨_, rfl, p, ddx, _, rfl, m19 _ _ w1, wf_no _ _ _ (by decide +kernel) (by decide +kernel) (by decide +kernel), _, rfl, _, rfl, p, _, _, false, .int x, .int ((x + 1 + r) % n), n, q, rfl, W.mono m19, .int _, .int _, fun z => (Nx z).elim, fun _ z => (Ny z).elim, fun _ _ z => (Ne z).elim, fun x' y' ex ey hx hy' ne q5 c5 e5 H20 p5 s20 np5 W5 => ?_⟩
        cases ex
        cases ey
        rw [← epr] at e5
        obtain rfl : q.filter (fun z => !decide (z = pr)) = q5 := srt_unique (List.Pairwise.filter _ cl.srt) c5.srt fun z => by
          rw [memF, e5]
          simp
        have s14_20 := s14_19.trans s20
        refine ⟨_, rfl, _, rfl, p5, O, n, n, _, q.filter (fun z => !decide (z = pr)), rfl, W5.mono same_new, ⟨zs, .inl (s14_20 _ _ hO), dz.mono s14_20⟩, by omega, fun H21 s21 => ⟨true, congrArg V.bl (tn _ _), iteF ?_⟩⟩
        have m21 := (m19.trans s20).trans s21
        -- things
        refine ⟨_, rfl, n, rfl, by omega, by omega, fun T nT => ?_⟩
        let ok : Nat → Bool := fun k => !decide ((k : Int) = x)
        refine lc_range (lo := 0) (n := n.toNat) (fun i H' => Same H21 H' ∧ H' T = some (.lst (nvs (((List.range n.toNat).take i).filter ok)))) ⟨same_upd nT, upd_same⟩ (fun i H' hi ⟨sm, hD⟩ => ?_) (fun H22 ⟨sm, hD⟩ => ?_)
        · refine ⟨rfl, ?_⟩
          rw [Int.zero_add]
          refine ⟨_, rfl, _, rfl, rfl, _, rfl, ?_⟩
          rw [dec_int]
          cases e : ok i with
          | false =>
            have e' : (!decide ((i : Int) = x)) = false := e
            rw [show (!((i : Int) == x)) = false from e']
            refine iteF ⟨sm, ?_⟩
            rw [filter_take _ _ hi, e]
            simpa using hD
          | true =>
            have e' : (!decide ((i : Int) = x)) = true := e
            rw [show (!((i : Int) == x)) = true from e']
            refine iteT ⟨_, rfl, _, hD, ?_, same_keep nT sm, ?_⟩
            · rw [nvs_len, sizeLine_eq]
              have g1 := List.length_filter_le ok ((List.range n.toNat).take i)
              rw [List.length_take, List.length_range] at g1
              omega
            · rw [upd_same, filter_take _ _ hi, e]
              unfold nvs
              rw [List.map_append]
              rfl
        · rw [List.take_of_length_le (by rw [List.length_range]; exact Nat.le_refl _)] at hD
          have eD : nvs ((List.range n.toNat).filter ok) = (others n.toNat x).map V.int := by
            unfold nvs others
            rw [List.map_map]
            rfl
          rw [eD] at hD
          have m22 := m21.trans sm
          have el := others_len (m := n.toNat) (x := x) (by omega)
          refine ⟨_, rfl, p, ddx, _, rfl, m22 _ _ w1, wf_no _ _ _ (by decide +kernel) (by decide +kernel) (by decide +kernel), _, rfl, p, _, .int x, n, q, rfl, W.mono m22, .int _, fun z => (Nx z).elim, fun x' ex hx q7 c7 e7 H23 p7 s23 np7 W7 => ?_⟩
          cases ex
          have m23 := m22.trans s23
          refine ⟨_, rfl, _, _, rfl, rfl, _, rfl, _, rfl, b, T, q, others n.toNat x, rfl, hl.mono m23, s23 _ _ hD, by omega, fun H24 a7 rs s24 na7 g7 lx => ?_⟩
          obtain rfl : rs = q7 := srt_unique lx.srt c7.srt fun z => by rw [lx.fin, e7, part_eq cl (others_asc _ _)]
          have few7 := lx.cl.few (by omega)
          refine ⟨p7, a7, n - 1, n - 1, rs, rs, rfl, (W7.mono same_new).mono s24, g7.ls.sqp, by omega, fun H25 s25 => ?_⟩
          rw [tn]
          have m25 := (m23.trans s24).trans s25
          exact k H25 m25 (dr13.mono ((((((sm14.trans s14_20).trans s21).trans sm).trans s23).trans s24).trans s25))
end
end K0
set_option Elab.async false
set_option linter.all false
set_option maxRecDepth 100000
set_option maxHeartbeats 4000000
namespace K0
open PySem PySem.Spec PyProof.Rows L2
theorem sdel {H : Hp} {d u : Addr} {o : HO} (dr : DrO H d) (n : H u = none) : Same (del H d) (del (upd H u o) d) := by
  rw [del_upd_ne (dr.ne n)]
  exact same_upd (by rw [del_ne (dr.ne n)]; exact n)
theorem gdel {H : Hp} {d u : Addr} {o : HO} (dr : DrO H d) (n : H u = none) : (del (upd H u o) d) u = some o := by
  rw [del_ne (dr.ne n), upd_same]
theorem DrO.up {H : Hp} {d u : Addr} {o : HO} (dr : DrO H d) (n : H u = none) : DrO (L2.upd H u o) d := dr.upd (dr.ne n)
theorem delF {H H' : Hp} {d : Addr} (s : Same H H') : Same (del H d) (del H' d) := fun b o e => by
  by_cases hb : b = d
  · rw [hb, del_same] at e
    cases e
  · rw [del_ne hb] at e ⊢
    exact s b o e
def strD (ss : List Str) : PyData := .tuple (ss.map PyData.str)
theorem strOk_of (s : String) : PyData.strOk (Str.ofString s) = true := by
  rw [Str.ofString_eq_toList]
  unfold PyData.strOk
  rw [List.all_toArray, List.all_eq_true]
  intro x hx
  obtain ⟨c, _, rfl⟩ := List.mem_map.mp hx
  have h := c.valid
  refine decide_eq_true ?_
  show c.val.toNat < 1114112
  rcases h with h | h
  · exact Nat.lt_of_lt_of_le h (by decide)
  · exact h.2
theorem reprD_ok {d : PyData} {s : Str} (h : reprD d = some s) : PyData.strOk s = true := by
  cases d with
  | none => cases h; exact strOk_of _
  | bool b => cases h; cases b <;> exact strOk_of _
  | int i =>
    have h' : (if i.natAbs < 1000 then some (Str.ofString (toString i)) else none) = some s := h
    by_cases hi : i.natAbs < 1000
    · rw [if_pos hi] at h'
      cases h'
      exact strOk_of _
    · rw [if_neg hi] at h'
      cases h'
  | str x => cases h
  | list x => cases h
  | tuple x => cases h
  | dict x => cases h
theorem strs_lay {ss : List Str} (h : ∀ x ∈ ss, PyData.strOk x = true) : PyData.canLayAll0 (ss.map PyData.str) = true := by
  induction ss with
  | nil => simp [PyData.canLayAll0]
  | cons n r ih =>
    rw [List.map_cons]
    simp only [PyData.canLayAll0, PyData.canLay0]
    rw [ih fun x hx => h x (List.mem_cons_of_mem _ hx), h n List.mem_cons_self]
    rfl
theorem strs_depth : ∀ ss : List Str, PyData.depthAll (ss.map PyData.str) ≤ 0
  | [] => by simp [PyData.depthAll]
  | n :: r => by rw [List.map_cons]; simp only [PyData.depthAll, PyData.depth]; exact Nat.max_le.mpr ⟨Nat.le_refl _, strs_depth r⟩
theorem strD_shaped {ss : List Str} (h : ∀ x ∈ ss, PyData.strOk x = true) : SeqAt.shaped (strD ss) = true := by
  unfold SeqAt.shaped strD
  rw [Bool.and_eq_true, decide_eq_true_iff]
  refine ⟨by simp only [PyData.canLay0]; exact strs_lay h, ?_⟩
  simp only [PyData.depth]
  have := strs_depth ss
  omega
theorem strD_eqv (a b : List Str) : PyData.eqv (strD a) (strD b) = decide (a = b) := by
  unfold strD
  rw [PyData.eqv]
  exact PySem.W.eqvAll_map a b
theorem DtAll.strs (H : Hp) : ∀ ss : List Str, DtAll H (ss.map V.str) (ss.map PyData.str)
  | [] => .nil
  | n :: r => .cons (.str n) (DtAll.strs H r)
theorem dt_strs {H : Hp} {t : Addr} {ss : List Str} (h : H t = some (.tup (ss.map V.str))) : Dt H (.ref t) (strD ss) := .tup h (DtAll.strs H ss)
/-- the pairs that are none -/
def badD (n : Int) : List PyData := [.tuple [.int 0, .int 0], .tuple [.int (0 - 1), .int 0], .tuple [.int 0, .int n], .tuple [.int n, .int (0 - 1)], .tuple [.int 0, .bool true], .tuple [.none, .int 0], .list [.int 1, .int 1]]
def oddD : List PyData := [.tuple [], .tuple [.int 0], .tuple [.int 0, .int 1, .int 0], .int 3, .none, .str "01", .list [.int 0]]
theorem repr_small {i : Int} (h : i.natAbs < 1000) : reprD (.int i) = some (Str.ofString (toString i)) := if_pos h
theorem ent_int {n x y : Int} {d : PyData} (e : pairOf d = some (.int x, .int y)) (no : ¬ (0 ≤ x ∧ x < n ∧ 0 ≤ y ∧ y < n ∧ x ≠ y)) : entOf n d = .error (.int x, .int y) := by
  unfold entOf
  rw [e]
  dsimp only
  rw [if_neg no]
theorem bad_is {n : Int} (h2 : 2 ≤ n) (h7 : n ≤ 7) {d : PyData} (hd : d ∈ badD n) : ∃ x y sx sy, pairOf d = some (x, y) ∧ entOf n d = .error (x, y) ∧ reprD x = some sx ∧ reprD y = some sy := by
  unfold badD at hd
  simp only [List.mem_cons, List.not_mem_nil, or_false] at hd
  have sm : ∀ i : Int, -1 ≤ i → i ≤ 7 → i.natAbs < 1000 := fun i a b => by omega
  rcases hd with rfl | rfl | rfl | rfl | rfl | rfl | rfl
  · exact ⟨_, _, _, _, rfl, ent_int rfl (by omega), repr_small (by decide), repr_small (by decide)⟩
  · exact ⟨_, _, _, _, rfl, ent_int rfl (by omega), repr_small (by decide), repr_small (by decide)⟩
  · exact ⟨_, _, _, _, rfl, ent_int rfl (by omega), repr_small (by decide), repr_small (sm n (by omega) h7)⟩
  · exact ⟨_, _, _, _, rfl, ent_int rfl (by omega), repr_small (sm n (by omega) h7), repr_small (by decide)⟩
  · exact ⟨_, _, _, _, rfl, rfl, repr_small (by decide), rfl⟩
  · exact ⟨_, _, _, _, rfl, rfl, rfl, repr_small (by decide)⟩
  · exact ⟨_, _, _, _, rfl, ent_int rfl (by omega), repr_small (by decide), repr_small (by decide)⟩
theorem odd_is {n : Int} {d : PyData} (hd : d ∈ oddD) : entOf n d = .error (.none, .none) := by
  unfold oddD at hd
  simp only [List.mem_cons, List.not_mem_nil, or_false] at hd
  rcases hd with rfl | rfl | rfl | rfl | rfl | rfl | rfl <;> rfl
theorem ents_at {n : Int} {q : List Pr} (rng : ∀ z ∈ q, 0 ≤ z.1 ∧ z.1 < z.2 ∧ z.2 < n) {d : PyData} {e : PyData × PyData} {r : List PyData} (h : entOf n d = .error e) : entsOf n (q.map prD ++ d :: r) = .error e := by
  rw [entsOf_app (entsOf_prs rng), entsOf, h]
theorem ix0 {K : PySem.W.Frag} {H : Hp} {a : Addr} {vx vy : V} {Q : VK} (h : H a = some (.tup [vx, vy]) ∨ H a = some (.lst [vx, vy])) (q : Q vx H) : rIxL K (.ref a) (.int 0) H Q ∨ rIxT K (.ref a) (.int 0) H Q :=
  h.elim (fun h => .inr ⟨a, _, 0, vx, rfl, rfl, SqT.of h, rfl, q⟩) fun h => .inl ⟨a, _, 0, vx, rfl, rfl, SqL.of h, rfl, q⟩
theorem ix1 {K : PySem.W.Frag} {H : Hp} {a : Addr} {vx vy : V} {Q : VK} (h : H a = some (.tup [vx, vy]) ∨ H a = some (.lst [vx, vy])) (q : Q vy H) : rIxL K (.ref a) (.int 1) H Q ∨ rIxT K (.ref a) (.int 1) H Q :=
  h.elim (fun h => .inr ⟨a, _, 1, vy, rfl, rfl, SqT.of h, rfl, q⟩) fun h => .inl ⟨a, _, 1, vy, rfl, rfl, SqL.of h, rfl, q⟩
section
variable {P : Program} {w : World} {K : PySem.W.Frag} {mg : Str → Option Value} {base : Heap} {f : Addr} {fd : FuncData}
abbrev s_rf : Stmt := top 47
/-- _law_refused -/
def spRf : Sp := fun vs H Q _ => ∃ (d b : Addr) (n : Int) (q : List Pr), vs = [.ref d, .int n, .ref b] ∧ DrO H d ∧ Ls (del H d) b q ∧ Cl n q ∧ 2 ≤ n ∧ n ≤ 7 ∧ ∀ H', Same (del H d) H' → DrO H' d → Q (.bl true) H'
theorem sc_rf : FnScope ["_law_draws_here", "_law_many", "_law_pairs", "_law_bads", "_law_one", "_law_other", "_law_place", "_law_due", "_law_odds", "_law_odd", "_law_number"] ["_law_draws_here", "_law_many", "_law_pairs"] (defScope s_rf) := ⟨rfl, rfl, rfl, by decide +kernel, rfl, by decide +kernel, by decide +kernel⟩
theorem ok_rf (F : Fun K "_law_refused" "_law_refused" s_rf f fd) (B : Blt2 mg) (TK : Df P w K mg base "_law_take" 1 ["_law_draws_here", "_law_many"] spTk) (TW : Df P w K mg base "_law_try_web" 6 ["_law_many", "_law_clashes"] (spTw K)) (TF : Df P w K mg base "_law_try_form" 6 ["_law_many", "_law_clashes"] (spTf K)) :
    FnOk P w K mg base (L2.CX P w) 7 f fd ["_law_draws_here", "_law_many", "_law_pairs"] spRf := by
  refine F.okX sc_rf (fun vs H Q E h => ?_) (fun cdv A outer s H vs Q E hr h => ?_)
  · obtain ⟨d, b, n, q, rfl, _⟩ := h
    rfl
  · obtain ⟨d, b, n, q, rfl, dr, hl, cl, n2, n7, k⟩ := h
    have nd := sc_rf.nd
    have hu := hr.units
    have r1 : Room 1 _ := hr.mono (by decide)
    refine ⟨_, pss_cons (ps_set (i := 3) nd rfl (.inl rfl) (pe_lst (pa_cons (pe_tup (pa_cons pe_int (pa_cons pe_int pa_nil))) (pa_cons (pe_tup (pa_cons (pe_op op_sub pe_int pe_int) (pa_cons pe_int pa_nil))) (pa_cons (pe_tup (pa_cons pe_int (pa_cons (pv 1) pa_nil))) (pa_cons (pe_tup (pa_cons (pv 1) (pa_cons (pe_op op_sub pe_int pe_int) pa_nil)))
        (pa_cons (pe_tup (pa_cons pe_int (pa_cons pe_bl pa_nil))) (pa_cons (pe_tup (pa_cons pe_non (pa_cons pe_int pa_nil))) (pa_cons (pe_lst (pa_cons pe_int (pa_cons pe_int pa_nil))) pa_nil)))))))))
      (pss_cons (ps_set (i := 4) nd rfl (.inl rfl) (pe_ix ix_list (pv 3) (pe_df TK r1 (by rfl) passUp (pa_cons (pv 0) (pa_cons pe_int pa_nil))) (fun _ _ => rfl)))
      (pss_cons (ps_set (i := 5) nd rfl (.inl rfl) (pe_ix ix_list (pv 3) (pe_df TK r1 (by rfl) passUp (pa_cons (pv 0) (pa_cons pe_int pa_nil))) (fun _ _ => rfl)))
      (pss_cons (ps_set (i := 6) nd rfl (.inl rfl) (pe_df TK r1 (by rfl) passUp (pa_cons (pv 0) (pa_cons (pe_op op_add (pe_callB c_len (by rfl) B.len PySem.boot_len (pa_cons (pv 2) pa_nil)) pe_int) pa_nil))))
      (pss_cons (ps_set (i := 7) nd rfl (.inl rfl) (pe_tup (pa_cons pe_str (pa_cons (pe_callB cr_repr (by rfl) B.repr (by decide +kernel) (pa_cons (pe_ix (IxR.or ix_list ix_tup) (pv 4) pe_int (fun _ _ => rfl)) pa_nil)) (pa_cons (pe_callB cr_repr (by rfl) B.repr (by decide +kernel) (pa_cons (pe_ix (IxR.or ix_list ix_tup) (pv 4) pe_int (fun _ _ => rfl)) pa_nil)) pa_nil)))))
      (pss_cons (ps_if (pt_cmpR (op_neD hu) (pe_df TW hr (by rfl) passUp (pa_cons (pv 1) (pa_cons (pe_op op_cat (pe_op op_cat (pe_op op_cat (pe_slice sl_list (pv 2) po_none (po_some (pv 6))) (pe_lst (pa_cons (pv 4) pa_nil))) (pe_slice sl_list (pv 2) (po_some (pv 6)) po_none)) (pe_lst (pa_cons (pv 5) pa_nil))) pa_nil))) (pv 7) (by rfl)) (pss_one (ps_ret pe_bl)) pss_nil)
      (pss_cons (ps_set (i := 8) nd rfl (.inl rfl) (pe_lst (pa_cons (pe_tup pa_nil) (pa_cons (pe_tup (pa_cons pe_int pa_nil)) (pa_cons (pe_tup (pa_cons pe_int (pa_cons pe_int (pa_cons pe_int pa_nil)))) (pa_cons pe_int (pa_cons pe_non (pa_cons pe_str (pa_cons (pe_lst (pa_cons pe_int pa_nil)) pa_nil)))))))))
      (pss_cons (ps_set (i := 9) nd rfl (.inl rfl) (pe_ix ix_list (pv 8) (pe_df TK r1 (by rfl) passUp (pa_cons (pv 0) (pa_cons pe_int pa_nil))) (fun _ _ => rfl)))
      (pss_cons (ps_if (pt_cmpR (op_neD hu) (pe_df TW hr (by rfl) passUp (pa_cons (pv 1) (pa_cons (pe_op op_cat (pe_op op_cat (pe_slice sl_list (pv 2) po_none (po_some (pv 6))) (pe_lst (pa_cons (pv 9) (pa_cons (pv 4) pa_nil)))) (pe_slice sl_list (pv 2) (po_some (pv 6)) po_none)) pa_nil))) (pe_tup (pa_cons pe_str (pa_cons pe_str (pa_cons pe_str pa_nil)))) (by rfl)) (pss_one (ps_ret pe_bl)) pss_nil)
      (pss_cons (ps_if (PW.pt (pw_or (pt_cmpR (op_neD hu) (pe_df TW hr (by rfl) passUp (pa_cons (pv 1) (pa_cons (pe_lst (pa_cons (pv 4) (pa_cons (pv 9) pa_nil))) pa_nil))) (pv 7) (by rfl)) (pw_or1 (pt_cmpR op_ne (pe_df TF hr (by rfl) passUp (pa_cons (pv 1) (pa_cons (pe_lst (pa_cons (pv 4) pa_nil)) pa_nil))) pe_str (by rfl))))) (pss_one (ps_ret pe_bl)) pss_nil)
      (pss_cons (ps_for (passes_of rfl) rfl (pi_list (pe_lst (pa_cons (pe_op op_sub pe_int pe_int) (pa_cons pe_bl (pa_cons pe_non pa_nil))))) (pg_name (i := 10) nd rfl (.inl rfl))
        (pss_one (ps_if (pt_cmpR (op_neD hu) (pe_df TW hr (by rfl) passUp (pa_cons (pv 10) (pa_cons (pe_lst (pa_cons (pv 4) pa_nil)) pa_nil))) (pe_tup (pa_cons pe_str (pa_cons pe_str pa_nil))) (by rfl)) (pss_one (ps_ret pe_bl)) pss_nil)))
      (pss_one (ps_ret (pe_and (pe_cmpR (op_eqD hu) (pe_df TW hr (by rfl) passUp (pa_cons pe_int (pa_cons (pe_lst (pa_cons (pe_tup (pa_cons pe_int (pa_cons pe_int pa_nil))) pa_nil)) pa_nil))) (pe_tup (pa_cons pe_str (pa_cons pe_str (pa_cons pe_str pa_nil)))) (by rfl))
        (pe_one (pe_cmpR op_eq (pe_df TF hr (by rfl) passUp (pa_cons (pe_op op_sub pe_int pe_int) (pa_cons (pe_lst pa_nil) pa_nil))) pe_str (by rfl)))))))))))))))), ?_⟩
    obtain ⟨ys, hb, hy⟩ := id hl
    have ly := hy.len
    rw [List.length_map] at ly
    have few : q.length ≤ 28 := cl.few (by omega)
    have n0 : 0 ≤ n := by omega
    have dr0 := dr
    refine ⟨by show 2 ≤ sizeLine; decide, fun t1 nw1 => ?_⟩
    have u1 := sdel (o := .tup [.int 0, .int 0]) dr0 nw1
    have g1 := gdel (o := .tup [.int 0, .int 0]) dr0 nw1
    have dr1 := dr0.up (o := .tup [.int 0, .int 0]) nw1
    refine ⟨_, _, rfl, rfl, by show 2 ≤ sizeLine; decide, fun t2 nw2 => ?_⟩
    have u2 := sdel (o := .tup [.int (0 - 1), .int 0]) dr1 nw2
    have g2 := gdel (o := .tup [.int (0 - 1), .int 0]) dr1 nw2
    have dr2 := dr1.up (o := .tup [.int (0 - 1), .int 0]) nw2
    refine ⟨_, rfl, by show 2 ≤ sizeLine; decide, fun t3 nw3 => ?_⟩
    have u3 := sdel (o := .tup [.int 0, .int n]) dr2 nw3
    have g3 := gdel (o := .tup [.int 0, .int n]) dr2 nw3
    have dr3 := dr2.up (o := .tup [.int 0, .int n]) nw3
    refine ⟨_, rfl, _, _, rfl, rfl, by show 2 ≤ sizeLine; decide, fun t4 nw4 => ?_⟩
    have u4 := sdel (o := .tup [.int n, .int (0 - 1)]) dr3 nw4
    have g4 := gdel (o := .tup [.int n, .int (0 - 1)]) dr3 nw4
    have dr4 := dr3.up (o := .tup [.int n, .int (0 - 1)]) nw4
    refine ⟨by show 2 ≤ sizeLine; decide, fun t5 nw5 => ?_⟩
    have u5 := sdel (o := .tup [.int 0, .bl true]) dr4 nw5
    have g5 := gdel (o := .tup [.int 0, .bl true]) dr4 nw5
    have dr5 := dr4.up (o := .tup [.int 0, .bl true]) nw5
    refine ⟨by show 2 ≤ sizeLine; decide, fun t6 nw6 => ?_⟩
    have u6 := sdel (o := .tup [.non, .int 0]) dr5 nw6
    have g6 := gdel (o := .tup [.non, .int 0]) dr5 nw6
    have dr6 := dr5.up (o := .tup [.non, .int 0]) nw6
    refine ⟨by show 2 ≤ sizeLine; decide, fun t7 nw7 => ?_⟩
    have u7 := sdel (o := .lst [.int 1, .int 1]) dr6 nw7
    have g7 := gdel (o := .lst [.int 1, .int 1]) dr6 nw7
    have dr7 := dr6.up (o := .lst [.int 1, .int 1]) nw7
    refine ⟨by show 7 ≤ sizeLine; decide, fun L nL => ?_⟩
    have u8 := sdel (o := .lst [.ref t1, .ref t2, .ref t3, .ref t4, .ref t5, .ref t6, .ref t7]) dr7 nL
    have g8 := gdel (o := .lst [.ref t1, .ref t2, .ref t3, .ref t4, .ref t5, .ref t6, .ref t7]) dr7 nL
    have dr8 := dr7.up (o := .lst [.ref t1, .ref t2, .ref t3, .ref t4, .ref t5, .ref t6, .ref t7]) nL
    have da : DtAll _ [.ref t1, .ref t2, .ref t3, .ref t4, .ref t5, .ref t6, .ref t7] (badD n) := .cons ((Dt.tup g1 (.cons (.int _) (.cons (.int _) .nil))).mono ((((((u2.trans u3).trans u4).trans u5).trans u6).trans u7).trans u8)) (.cons ((Dt.tup g2 (.cons (.int _) (.cons (.int _) .nil))).mono (((((u3.trans u4).trans u5).trans u6).trans u7).trans u8)) (.cons ((Dt.tup g3 (.cons (.int _) (.cons (.int _) .nil))).mono ((((u4.trans u5).trans u6).trans u7).trans u8)) (.cons ((Dt.tup g4 (.cons (.int _) (.cons (.int _) .nil))).mono (((u5.trans u6).trans u7).trans u8)) (.cons ((Dt.tup g5 (.cons (.int _) (.cons (.bl _) .nil))).mono ((u6.trans u7).trans u8)) (.cons ((Dt.tup g6 (.cons .non (.cons (.int _) .nil))).mono (u7.trans u8)) (.cons ((Dt.lst g7 (.cons (.int _) (.cons (.int _) .nil))).mono u8) .nil))))))
    have M8 := (((((((u1.trans u2).trans u3).trans u4).trans u5).trans u6).trans u7).trans u8)
    -- one, other, place
    have pick : ∀ {r : Int}, 0 ≤ r → r < 7 → ∃ v e, atI ([.ref t1, .ref t2, .ref t3, .ref t4, .ref t5, .ref t6, .ref t7] : List V) r = some v ∧ e ∈ badD n ∧ Dt (heapOf M8) v e := fun {r} r0 r7 => by
      obtain ⟨j, rfl⟩ := Int.eq_ofNat_of_zero_le r0
      have hj : j < ([.ref t1, .ref t2, .ref t3, .ref t4, .ref t5, .ref t6, .ref t7] : List V).length := by show j < 7; omega
      obtain ⟨e, he, hv⟩ := da.at (List.getElem?_eq_getElem hj)
      exact ⟨_, e, atI_nat (List.getElem?_eq_getElem hj), List.mem_of_getElem? he, hv⟩
    refine ⟨_, rfl, _, rfl, d, 7, rfl, by decide, dr8, fun r H9 r0 r7 s9 dr9 => ?_⟩
    obtain ⟨v1, d1, at1, in1, dv1⟩ := pick r0 r7
    have S9 := same_del s9
    refine ⟨L, _, _, _, rfl, rfl, SqL.of (s9 _ _ g8), at1, ?_⟩
    refine ⟨_, rfl, _, rfl, d, 7, rfl, by decide, dr9, fun r' H10 r0' r7' s10 dr10 => ?_⟩
    obtain ⟨v2, d2, at2, in2, dv2⟩ := pick r0' r7'
    have S10 := S9.trans (same_del s10)
    refine ⟨L, _, _, _, rfl, rfl, SqL.of (s10 _ _ (S9 _ _ g8)), at2, ?_⟩
    have M10 := M8.trans S10
    refine ⟨_, rfl, _, rfl, b, ys, rfl, .inl (SqL.of (del_sub _ _ (M10 _ _ hb))), _, _, rfl, rfl, d, ((ys.length : Nat) : Int) + 1, rfl, by omega, dr10, fun kk H11 k0 kl s11 dr11 => ?_⟩
    obtain ⟨kn, rfl⟩ := Int.eq_ofNat_of_zero_le k0
    have hkn : kn ≤ ys.length := by omega
    have S11 := S10.trans (same_del s11)
    -- due
    obtain ⟨x, y, sx, sy, ep, ee, hsx, hsy⟩ := bad_is n2 n7 in1
    have dv11 := dv1.mono S11
    obtain ⟨a1, vx, vy, rfl, h1, hx1, hy1⟩ := pair_at dv11 ep
    have h1' := h1.imp (del_sub _ _) (del_sub _ _)
    refine ⟨_, rfl, ix0 h1' ?_⟩
    refine ⟨vx, x, sx, rfl, hx1.mono del_sub, hsx, ?_⟩
    refine ⟨_, rfl, ix1 h1' ?_⟩
    refine ⟨vy, y, sy, rfl, hy1.mono del_sub, hsy, (by show 3 ≤ sizeLine; decide), fun td ntd => ?_⟩
    have S12 := S11.trans (sdel (o := .tup [.str "web", .str sx, .str sy]) dr11 ntd)
    have dr12 := dr11.up (o := .tup [.str "web", .str sx, .str sy]) ntd
    have gtd := upd_same (H := H11) (a := td) (o := .tup [.str "web", .str sx, .str sy])
    have gtdd := gdel (o := .tup [.str "web", .str sx, .str sy]) dr11 ntd
    have M12 := M8.trans S12
    obtain ⟨H12, eH12⟩ : ∃ H12, H12 = upd H11 td (.tup [.str "web", .str sx, .str sy]) := ⟨_, rfl⟩
    rw [← eH12] at S12 dr12 gtd gtdd M12 ⊢
    have hb12 : H12 b = some (.lst ys) := del_sub _ _ (M12 _ _ hb)
    have hy12 : DtAll H12 ys (q.map prD) := (hy.mono M12).mono del_sub
    have dv12 : Dt H12 (.ref a1) d1 := (dv1.mono S12).mono del_sub
    have dw12 : Dt H12 v2 d2 := (dv2.mono S12).mono del_sub
    have ok3 : ∀ z ∈ ([Str.ofString "web", sx, sy] : List Str), PyData.strOk z = true := fun z hz => by
      simp only [List.mem_cons, List.not_mem_nil, or_false] at hz
      rcases hz with rfl | rfl | rfl
      · exact strOk_of _
      · exact reprD_ok hsx
      · exact reprD_ok hsy
    -- the first test
    refine ⟨_, rfl, _, rfl, _, rfl, _, rfl, b, ys, rfl, SqL.of hb12, fun p1 np1 => ?_⟩
    rw [cut_take]
    have e1 := same_upd (o := .lst (ys.take kn)) np1
    refine ⟨_, rfl, (by show 1 ≤ sizeLine; decide), fun p2 np2 => ?_⟩
    have e2 := same_upd (o := .lst [.ref a1]) np2
    refine ⟨p1, p2, _, _, rfl, rfl, e2 _ _ upd_same, upd_same, by rw [List.length_take, sizeLine_eq]; show _ + 1 ≤ _; omega, fun p3 np3 => ?_⟩
    have e3 := same_upd (o := .lst (ys.take kn ++ [.ref a1])) np3
    have E3 := (e1.trans e2).trans e3
    refine ⟨_, rfl, _, rfl, _, rfl, b, ys, rfl, SqL.of (E3 _ _ hb12), fun p4 np4 => ?_⟩
    rw [cut_drop _ _ hkn]
    have e4 := same_upd (o := .lst (ys.drop kn)) np4
    refine ⟨p3, p4, _, _, rfl, rfl, e4 _ _ upd_same, upd_same, by rw [List.length_append, List.length_take, List.length_drop, sizeLine_eq]; show _ + 1 + _ ≤ _; omega, fun p5 np5 => ?_⟩
    have e5 := same_upd (o := .lst (ys.take kn ++ [.ref a1] ++ ys.drop kn)) np5
    refine ⟨_, rfl, (by show 1 ≤ sizeLine; decide), fun p6 np6 => ?_⟩
    have e6 := same_upd (o := .lst [v2]) np6
    refine ⟨p5, p6, _, _, rfl, rfl, e6 _ _ upd_same, upd_same, by rw [List.length_append, List.length_append, List.length_take, List.length_drop, sizeLine_eq]; show _ + 1 + _ + 1 ≤ _; omega, fun p7 np7 => ?_⟩
    have e7 := same_upd (o := .lst (ys.take kn ++ [.ref a1] ++ ys.drop kn ++ [v2])) np7
    have E7 := (((E3.trans e4).trans e5).trans e6).trans e7
    have dl7 : DtAll (heapOf E7) (ys.take kn ++ [.ref a1] ++ ys.drop kn ++ [v2]) ((q.take kn).map prD ++ d1 :: ((q.drop kn).map prD ++ [d2])) := by
      have e : (q.take kn).map prD ++ d1 :: ((q.drop kn).map prD ++ [d2]) = (q.map prD).take kn ++ [d1] ++ (q.map prD).drop kn ++ [d2] := by simp [List.map_take, List.map_drop]
      rw [e]
      have hyE := hy12.mono E7
      exact ((((hyE.take kn).app (.cons (dv12.mono E7) .nil)).app (hyE.drop kn)).app (.cons (dw12.mono E7) .nil))
    have rngT : ∀ z ∈ q.take kn, 0 ≤ z.1 ∧ z.1 < z.2 ∧ z.2 < n := fun z hz => cl.rng z (List.mem_of_mem_take hz)
    have nok : okN 0 (.int n) = false → False := fun z => (of_decide_eq_false z : ¬ (0 ≤ n)) n0
    refine ⟨p7, .int n, .int n, _, rfl, .int n, .lst upd_same dl7, fun z => (nok z).elim, fun m em h0 => ?_⟩
    cases em
    refine ⟨by omega, x, y, sx, sy, ents_at rngT ee, hsx, hsy, fun H13 tr s13 ntr htr => ?_⟩
    have E13 := E7.trans s13
    refine ⟨_, rfl, strD ["web", sx, sy], strD ["web", sx, sy], (dt_strs htr).dp, (dt_strs (E13 _ _ gtd)).dp, strD_shaped ok3, strD_shaped ok3, false, by rw [strD_eqv, decide_eq_true rfl]; rfl, iteF ?_⟩
    have dr13 := dr12.mono E13
    -- odds
    refine ⟨by show 0 ≤ sizeLine; exact Nat.zero_le _, fun o1 no1 => ?_⟩
    have c1 := sdel (o := .tup []) dr13 no1
    have q1 := gdel (o := .tup []) dr13 no1
    have do1 := dr13.up (o := .tup []) no1
    refine ⟨by show 1 ≤ sizeLine; decide, fun o2 no2 => ?_⟩
    have c2 := sdel (o := .tup [.int 0]) do1 no2
    have q2 := gdel (o := .tup [.int 0]) do1 no2
    have do2 := do1.up (o := .tup [.int 0]) no2
    refine ⟨by show 3 ≤ sizeLine; decide, fun o3 no3 => ?_⟩
    have c3 := sdel (o := .tup [.int 0, .int 1, .int 0]) do2 no3
    have q3 := gdel (o := .tup [.int 0, .int 1, .int 0]) do2 no3
    have do3 := do2.up (o := .tup [.int 0, .int 1, .int 0]) no3
    refine ⟨by show 1 ≤ sizeLine; decide, fun o4 no4 => ?_⟩
    have c4 := sdel (o := .lst [.int 0]) do3 no4
    have q4 := gdel (o := .lst [.int 0]) do3 no4
    have do4 := do3.up (o := .lst [.int 0]) no4
    refine ⟨by show 7 ≤ sizeLine; decide, fun LO nLO => ?_⟩
    have c5 := sdel (o := .lst [.ref o1, .ref o2, .ref o3, .int 3, .non, .str "01", .ref o4]) do4 nLO
    have q5 := gdel (o := .lst [.ref o1, .ref o2, .ref o3, .int 3, .non, .str "01", .ref o4]) do4 nLO
    have do5 := do4.up (o := .lst [.ref o1, .ref o2, .ref o3, .int 3, .non, .str "01", .ref o4]) nLO
    have od : DtAll _ [.ref o1, .ref o2, .ref o3, .int 3, .non, .str "01", .ref o4] oddD := .cons ((Dt.tup q1 .nil).mono (((c2.trans c3).trans c4).trans c5)) (.cons ((Dt.tup q2 (.cons (.int _) .nil)).mono ((c3.trans c4).trans c5)) (.cons ((Dt.tup q3 (.cons (.int _) (.cons (.int _) (.cons (.int _) .nil)))).mono (c4.trans c5)) (.cons (.int _) (.cons .non (.cons (.str _) (.cons ((Dt.lst q4 (.cons (.int _) .nil)).mono c5) .nil))))))
    have C5 := (((c1.trans c2).trans c3).trans c4).trans c5
    refine ⟨_, rfl, _, rfl, d, 7, rfl, by decide, do5, fun ro H20 ro0 ro7 s20 dr20 => ?_⟩
    obtain ⟨vo, dO, ato, ino, dvo⟩ : ∃ v e, atI ([.ref o1, .ref o2, .ref o3, .int 3, .non, .str "01", .ref o4] : List V) ro = some v ∧ e ∈ oddD ∧ Dt (heapOf C5) v e := by
      obtain ⟨j, rfl⟩ := Int.eq_ofNat_of_zero_le ro0
      have hj : j < ([.ref o1, .ref o2, .ref o3, .int 3, .non, .str "01", .ref o4] : List V).length := by show j < 7; omega
      obtain ⟨e, he, hv⟩ := od.at (List.getElem?_eq_getElem hj)
      exact ⟨_, e, atI_nat (List.getElem?_eq_getElem hj), List.mem_of_getElem? he, hv⟩
    refine ⟨LO, _, _, _, rfl, rfl, SqL.of (s20 _ _ q5), ato, ?_⟩
    have eo : entOf n dO = .error (.none, .none) := odd_is ino
    have C20 := same_del s20
    have Z20 := ((delF (d := d) E13).trans C5).trans C20
    have hb20 : H20 b = some (.lst ys) := del_sub _ _ (Z20 _ _ (M12 _ _ hb))
    have hy20 : DtAll H20 ys (q.map prD) := ((hy.mono M12).mono Z20).mono del_sub
    have dv20 : Dt H20 (.ref a1) d1 := ((dv1.mono S12).mono Z20).mono del_sub
    have do20 : Dt H20 vo dO := (dvo.mono C20).mono del_sub
    have gt20 : H20 td = some (.tup [.str "web", .str sx, .str sy]) := del_sub _ _ (Z20 _ _ gtdd)
    have M20 := M12.trans Z20
    have okN3 : ∀ z ∈ ([Str.ofString "web", Str.ofString "None", Str.ofString "None"] : List Str), PyData.strOk z = true := fun z hz => by
      simp only [List.mem_cons, List.not_mem_nil, or_false] at hz
      rcases hz with rfl | rfl | rfl <;> exact strOk_of _
    -- the second test
    refine ⟨_, rfl, _, rfl, _, rfl, _, rfl, b, ys, rfl, SqL.of hb20, fun p1 np1 => ?_⟩
    rw [cut_take]
    have f1 := same_upd (o := .lst (ys.take kn)) np1
    refine ⟨_, rfl, _, rfl, (by show 2 ≤ sizeLine; decide), fun p2 np2 => ?_⟩
    have f2 := same_upd (o := .lst [vo, .ref a1]) np2
    refine ⟨p1, p2, _, _, rfl, rfl, f2 _ _ upd_same, upd_same, by rw [List.length_take, sizeLine_eq]; show _ + 2 ≤ _; omega, fun p3 np3 => ?_⟩
    have f3 := same_upd (o := .lst (ys.take kn ++ [vo, .ref a1])) np3
    have F3 := (f1.trans f2).trans f3
    refine ⟨_, rfl, _, rfl, _, rfl, b, ys, rfl, SqL.of (F3 _ _ hb20), fun p4 np4 => ?_⟩
    rw [cut_drop _ _ hkn]
    have f4 := same_upd (o := .lst (ys.drop kn)) np4
    refine ⟨p3, p4, _, _, rfl, rfl, f4 _ _ upd_same, upd_same, by rw [List.length_append, List.length_take, List.length_drop, sizeLine_eq]; show _ + 2 + _ ≤ _; omega, fun p5 np5 => ?_⟩
    have f5 := same_upd (o := .lst (ys.take kn ++ [vo, .ref a1] ++ ys.drop kn)) np5
    have F5 := (F3.trans f4).trans f5
    have dl5 : DtAll (heapOf F5) (ys.take kn ++ [vo, .ref a1] ++ ys.drop kn) ((q.take kn).map prD ++ dO :: (d1 :: (q.drop kn).map prD)) := by
      have e : (q.take kn).map prD ++ dO :: (d1 :: (q.drop kn).map prD) = (q.map prD).take kn ++ [dO, d1] ++ (q.map prD).drop kn := by simp [List.map_take, List.map_drop]
      rw [e]
      have hyE := hy20.mono F5
      exact (((hyE.take kn).app (.cons (do20.mono F5) (.cons (dv20.mono F5) .nil))).app (hyE.drop kn))
    refine ⟨p5, .int n, .int n, _, rfl, .int n, .lst upd_same dl5, fun z => (nok z).elim, fun m em h0 => ?_⟩
    cases em
    refine ⟨by omega, .none, .none, "None", "None", ents_at rngT eo, rfl, rfl, fun H21 tr s21 ntr htr => ?_⟩
    have F21 := F5.trans s21
    refine ⟨by show 3 ≤ sizeLine; decide, fun tq ntq => ?_⟩
    have f22 := same_upd (o := .tup [.str "web", .str "None", .str "None"]) ntq
    refine ⟨strD ["web", "None", "None"], strD ["web", "None", "None"], (dt_strs (f22 _ _ htr)).dp, (dt_strs (ss := ["web", "None", "None"]) upd_same).dp, strD_shaped okN3, strD_shaped okN3, false, by rw [strD_eqv, decide_eq_true rfl]; rfl, iteF ?_⟩
    have F22 := F21.trans f22
    -- the third test
    refine ⟨_, rfl, _, rfl, _, rfl, (by show 2 ≤ sizeLine; decide), fun p1 np1 => ?_⟩
    have h23 := same_upd (o := .lst [.ref a1, vo]) np1
    have F23 := F22.trans h23
    refine ⟨p1, .int n, .int n, [d1, dO], rfl, .int n, .lst upd_same (.cons (dv20.mono F23) (.cons (do20.mono F23) .nil)), fun z => (nok z).elim, fun m em h0 => ?_⟩
    cases em
    refine ⟨by omega, x, y, sx, sy, by rw [entsOf, ee], hsx, hsy, fun H24 tr s24 ntr htr => ?_⟩
    have F24 := F23.trans s24
    refine ⟨_, rfl, strD ["web", sx, sy], strD ["web", sx, sy], (dt_strs htr).dp, (dt_strs (F24 _ _ gt20)).dp, strD_shaped ok3, strD_shaped ok3, false, by rw [strD_eqv, decide_eq_true rfl]; rfl, iteF ?_⟩
    refine ⟨_, rfl, _, rfl, (by show 1 ≤ sizeLine; decide), fun p1 np1 => ?_⟩
    have h25 := same_upd (o := .lst [.ref a1]) np1
    have F25 := F24.trans h25
    refine ⟨p1, .int n, .int n, [d1], rfl, .int n, .lst upd_same (.cons (dv20.mono F25) .nil), fun m em h0 => ?_, fun H26 s26 => ⟨rfl, false, rfl, iteF ?_⟩⟩
    · cases em
      exact ⟨by omega, x, y, by rw [entsOf, ee]⟩
    have F26 := F25.trans s26
    -- no numbers
    refine ⟨_, _, rfl, rfl, (by show 3 ≤ sizeLine; decide), fun G nG => ?_⟩
    have h27 := same_upd (o := .lst [.int (0 - 1), .bl true, .non]) nG
    have F27 := F26.trans h27
    have okNm : ∀ z ∈ ([Str.ofString "number", Str.ofString "many"] : List Str), PyData.strOk z = true := fun z hz => by
      simp only [List.mem_cons, List.not_mem_nil, or_false] at hz
      rcases hz with rfl | rfl <;> exact strOk_of _
    let P1 : Nat → L2.St → Hp → Prop := fun i σ H' => ∃ o10, σ = [some (.ref d), some (.int n), some (.ref b), some (.ref L), some (.ref a1), some v2, some (.int (kn : Int)), some (.ref td), some (.ref LO), some vo, o10] ∧ Same (heapOf F27) H'
    refine ⟨G, rfl, ⟨_, SqL.of upd_same⟩, for_list (K := K) (a := G) (xs := [.int (0 - 1), .bl true, .non]) P1 ⟨_, rfl, Same.refl _⟩ (fun i σ H' _ h => SqL.of (h.choose_spec.2 _ _ upd_same)) (fun i v σ H' hi h => ?_) (fun σ H' h => ?_)⟩
    · obtain ⟨o10, rfl, sE⟩ := h
      have FE := F27.trans sE
      obtain ⟨dn, hdn, bad, no⟩ : ∃ dn, (∀ H0 : Hp, Dt H0 v dn) ∧ okN 0 dn = false ∧ ∀ m, dn = .int m → ¬ 0 ≤ m := by
        have := List.mem_of_getElem? hi
        simp only [List.mem_cons, List.not_mem_nil, or_false] at this
        rcases this with rfl | rfl | rfl
        · exact ⟨_, fun _ => .int _, rfl, fun m e => by cases e; omega⟩
        · exact ⟨_, fun _ => .bl _, rfl, fun m e => by cases e⟩
        · exact ⟨_, fun _ => .non, rfl, fun m e => by cases e⟩
      refine ⟨_, rfl, _, rfl, (by show 1 ≤ sizeLine; decide), fun p1 np1 => ?_⟩
      have h28 := same_upd (o := .lst [.ref a1]) np1
      refine ⟨p1, v, dn, [d1], rfl, hdn _, .lst upd_same (.cons (dv20.mono (FE.trans h28)) .nil), fun _ H29 tr s29 ntr htr => ?_, fun m em h0 => absurd h0 (no m em)⟩
      refine ⟨by show 2 ≤ sizeLine; decide, fun tq ntq => ?_⟩
      have h30 := same_upd (o := .tup [.str "number", .str "many"]) ntq
      refine ⟨strD ["number", "many"], strD ["number", "many"], (dt_strs (h30 _ _ htr)).dp, (dt_strs (ss := ["number", "many"]) upd_same).dp, strD_shaped okNm, strD_shaped okNm, false, by rw [strD_eqv, decide_eq_true rfl]; rfl, iteF ?_⟩
      exact ⟨_, rfl, ((sE.trans h28).trans s29).trans h30⟩
    · obtain ⟨o10, rfl, sE⟩ := h
      have FE := F27.trans sE
      refine ⟨by show 2 ≤ sizeLine; decide, fun tz ntz => ⟨by show 1 ≤ sizeLine; decide, fun p1 np1 => ?_⟩⟩
      have h31 := same_upd (o := .tup [.int 0, .int 0]) ntz
      have h32 := same_upd (o := .lst [.ref tz]) np1
      have F32 := (FE.trans h31).trans h32
      refine ⟨p1, .int 0, .int 0, [.tuple [.int 0, .int 0]], rfl, .int 0, .lst upd_same (.cons ((Dt.tup upd_same (.cons (.int _) (.cons (.int _) .nil))).mono h32) .nil), (fun z => nomatch z), fun m em h0 => ?_⟩
      cases em
      refine ⟨by decide, .int 0, .int 0, "0", "0", rfl, rfl, rfl, fun H33 tr s33 ntr htr => ?_⟩
      refine ⟨by show 3 ≤ sizeLine; decide, fun tq ntq => ?_⟩
      have h34 := same_upd (o := .tup [.str "web", .str "0", .str "0"]) ntq
      have okZ : ∀ z ∈ ([Str.ofString "web", Str.ofString "0", Str.ofString "0"] : List Str), PyData.strOk z = true := fun z hz => by
        simp only [List.mem_cons, List.not_mem_nil, or_false] at hz
        rcases hz with rfl | rfl | rfl <;> exact strOk_of _
      refine ⟨strD ["web", "0", "0"], strD ["web", "0", "0"], (dt_strs (h34 _ _ htr)).dp, (dt_strs (ss := ["web", "0", "0"]) upd_same).dp, strD_shaped okZ, strD_shaped okZ, true, by rw [strD_eqv, decide_eq_true rfl], iteT ?_⟩
      have F34 := (F32.trans s33).trans h34
      refine ⟨_, _, rfl, rfl, (by show 0 ≤ sizeLine; exact Nat.zero_le _), fun p1 np1 => ?_⟩
      have h35 := same_upd (o := .lst []) np1
      refine ⟨p1, .int (0 - 1), .int (0 - 1), [], rfl, .int _, .lst upd_same .nil, fun m em h0 => ?_, fun H36 s36 => ⟨rfl, ?_⟩⟩
      · cases em
        exact absurd h0 (by decide)
      have F36 := (F34.trans h35).trans s36
      exact k H36 ((M20.trans (delF (d := d) F36)).trans del_sub) (dr20.mono F36)
end
end K0
set_option Elab.async false
set_option linter.all false
set_option maxRecDepth 100000
set_option maxHeartbeats 4000000
namespace K0
open PySem PySem.Spec PyProof.Rows L2
section
variable {P : Program} {w : World} {K : PySem.W.Frag} {mg : Str → Option Value} {base : Heap} {f : Addr} {fd : FuncData}
abbrev s_rt : Stmt := top 48
/-- _law_refused_things -/
def spRt (C : Addr) : Sp := fun vs H Q _ => ∃ (p : Addr) (n : Int) (q : List Pr), vs = [.ref p, .int n] ∧ WebAt C H p n q ∧ 2 ≤ n ∧ n ≤ 7 ∧ Ret (.bl true) H Q
theorem sc_rt : FnScope ["_law_web", "_law_many", "_law_bad", "_law_deed"] ["_law_web", "_law_many"] (defScope s_rt) := ⟨rfl, rfl, rfl, by decide +kernel, rfl, by decide +kernel, by decide +kernel⟩
theorem fw_bad {n : Int} (h : 0 < n) {d e : PyData} (no : isTh n d = false) : fwG n [.int 0, d, e] [] = some 1 := by
  have a : okAt n [] (.int 0) = true := decide_eq_true ⟨by omega, h, by simp⟩
  have b : okAt n ([] ++ [toI (.int 0)]) d = false := by
    cases d with
    | int i =>
      have z : ¬ (0 ≤ i ∧ i < n) := of_decide_eq_false no
      exact decide_eq_false fun y => z ⟨y.1, y.2.1⟩
    | _ => rfl
  rw [fwG, a, if_pos rfl, fwG, b, if_neg (by simp)]
  rfl
theorem fw_101 {n : Int} (h : 2 ≤ n) : fwG n [.int 1, .int 0, .int 1] [] = some 2 := by
  have a : okAt n [] (.int 1) = true := decide_eq_true ⟨by omega, by omega, by simp⟩
  have b : okAt n ([] ++ [toI (.int 1)]) (.int 0) = true := decide_eq_true ⟨by omega, by omega, by simp [toI]⟩
  have c : okAt n (([] ++ [toI (.int 1)]) ++ [toI (.int 0)]) (.int 1) = false := decide_eq_false fun y => y.2.2 (by simp [toI])
  rw [fwG, a, if_pos rfl, fwG, b, if_pos rfl, fwG, c, if_neg (by simp)]
  rfl
theorem ok_rt {C : Addr} (F : Fun K "_law_refused_things" "_law_refused_things" s_rt f fd) (B : Blt2 mg) (TT : Df P w K mg base "_law_try_thing" 8 ["_law_web", "_law_deed", "_law_x", "_law_y"] (spTt K C)) : FnOk P w K mg base (L2.CX P w) 9 f fd ["_law_web", "_law_many"] (spRt C) := by
  refine F.okX sc_rt (fun vs H Q E h => ?_) (fun cdv A outer s H vs Q E hr h => ?_)
  · obtain ⟨p, n, q, rfl, _⟩ := h
    rfl
  · obtain ⟨p, n, q, rfl, W, n2, n7, k⟩ := h
    have nd := sc_rt.nd
    have hu := hr.units
    refine ⟨_, pss_cons (ps_for (passes_of rfl) rfl (pi_list (pe_lst (pa_cons (pv 1) (pa_cons (pe_op op_sub pe_int pe_int) (pa_cons pe_bl (pa_cons pe_non pa_nil)))))) (pg_name (i := 2) nd rfl (.inl rfl))
        (pss_cons (ps_for (passes_of rfl) rfl (pi_list (pe_lst (pa_cons pe_int (pa_cons pe_int (pa_cons pe_int (pa_cons pe_int (pa_cons pe_int pa_nil))))))) (pg_name (i := 3) nd rfl (.inl rfl))
          (pss_one (ps_if (pt_cmpR (op_neD hu) (pe_df TT hr (by rfl) passUp (pa_cons (pv 0) (pa_cons (pv 3) (pa_cons (pv 2) (pa_cons (pe_op op_add (pv 1) pe_int) pa_nil))))) (pe_tup (pa_cons pe_str (pa_cons (pe_callB cr_repr (by rfl) B.repr (by decide +kernel) (pa_cons (pv 2) pa_nil)) pa_nil))) (by rfl)) (pss_one (ps_ret pe_bl)) pss_nil)))
        (pss_cons (ps_if (pt_cmpR (op_neD hu) (pe_df TT hr (by rfl) passUp (pa_cons (pv 0) (pa_cons pe_int (pa_cons pe_int (pa_cons (pv 2) pa_nil))))) (pe_tup (pa_cons pe_str (pa_cons (pe_callB cr_repr (by rfl) B.repr (by decide +kernel) (pa_cons (pv 2) pa_nil)) pa_nil))) (by rfl)) (pss_one (ps_ret pe_bl)) pss_nil)
        (pss_cons (ps_if (pt_cmpR (op_neD hu) (pe_df TT hr (by rfl) passUp (pa_cons (pv 0) (pa_cons pe_int (pa_cons pe_int (pa_cons (pv 2) pa_nil))))) (pe_tup (pa_cons pe_str (pa_cons (pe_callB cr_repr (by rfl) B.repr (by decide +kernel) (pa_cons (pv 2) pa_nil)) pa_nil))) (by rfl)) (pss_one (ps_ret pe_bl)) pss_nil)
        (pss_one (ps_if (pt_cmpR (op_neD hu) (pe_df TT hr (by rfl) passUp (pa_cons (pv 0) (pa_cons pe_int (pa_cons (pe_lst (pa_cons pe_int (pa_cons (pv 2) (pa_cons pe_int pa_nil)))) (pa_cons pe_int pa_nil))))) (pe_tup (pa_cons pe_str (pa_cons pe_str pa_nil))) (by rfl)) (pss_one (ps_ret pe_bl)) pss_nil))))))
      (pss_cons (ps_if (pt_cmpR (op_neD hu) (pe_df TT hr (by rfl) passUp (pa_cons (pv 0) (pa_cons pe_int (pa_cons (pe_tup (pa_cons pe_int (pa_cons pe_int (pa_cons pe_int pa_nil)))) (pa_cons pe_int pa_nil))))) (pe_tup (pa_cons pe_str (pa_cons pe_str pa_nil))) (by rfl)) (pss_one (ps_ret pe_bl)) pss_nil)
      (pss_one (ps_ret (pe_cmpR (op_eqD hu) (pe_df TT hr (by rfl) passUp (pa_cons (pv 0) (pa_cons pe_int (pa_cons pe_int (pa_cons pe_int pa_nil))))) (pe_tup (pa_cons pe_str (pa_cons pe_str pa_nil))) (by rfl))))), ?_⟩
    have ok2 : ∀ {a s : Str}, PyData.strOk a = true → PyData.strOk s = true → ∀ z ∈ ([a, s] : List Str), PyData.strOk z = true := fun {a s} ha hs z hz => by
      simp only [List.mem_cons, List.not_mem_nil, or_false] at hz
      rcases hz with rfl | rfl
      · exact ha
      · exact hs
    have h0 : isTh n (.int 0) = true := decide_eq_true ⟨by omega, by omega⟩
    have h1 : isTh n (.int 1) = true := decide_eq_true ⟨by omega, by omega⟩
    refine ⟨_, rfl, _, _, rfl, rfl, (by show 4 ≤ sizeLine; decide), fun G nG => ?_⟩
    have e1 := same_upd (o := .lst [.int n, .int (0 - 1), .bl true, .non]) nG
    let P1 : Nat → L2.St → Hp → Prop := fun i σ H' => ∃ o2 o3, σ = [some (.ref p), some (.int n), o2, o3] ∧ Same (heapOf e1) H'
    refine ⟨G, rfl, ⟨_, SqL.of upd_same⟩, for_list (K := K) (a := G) (xs := [.int n, .int (0 - 1), .bl true, .non]) P1 ⟨_, _, rfl, Same.refl _⟩ (fun i σ H' _ h => SqL.of (h.choose_spec.choose_spec.2 _ _ upd_same)) (fun i v σ H' hi h => ?_) (fun σ H' h => ?_)⟩
    · obtain ⟨o2, o3, rfl, sE⟩ := h
      obtain ⟨db, s, hv, no, hs⟩ : ∃ db s, (∀ H0 : Hp, Dt H0 v db) ∧ isTh n db = false ∧ reprD db = some s := by
        have := List.mem_of_getElem? hi
        simp only [List.mem_cons, List.not_mem_nil, or_false] at this
        rcases this with rfl | rfl | rfl | rfl
        · exact ⟨_, _, fun _ => .int _, decide_eq_false (by omega), repr_small (by omega)⟩
        · exact ⟨_, _, fun _ => .int _, (show decide ((0 : Int) ≤ 0 - 1 ∧ (0 : Int) - 1 < n) = false from decide_eq_false (by omega)), repr_small (by decide)⟩
        · exact ⟨_, _, fun _ => .bl _, rfl, rfl⟩
        · exact ⟨_, _, fun _ => .non, rfl, rfl⟩
      have okT := ok2 (a := "thing") (strOk_of _) (reprD_ok hs)
      have okP : ∀ z ∈ ([Str.ofString "part", Str.ofString "1"] : List Str), PyData.strOk z = true := ok2 (strOk_of _) (strOk_of _)
      refine ⟨by show 5 ≤ sizeLine; decide, fun J nJ => ?_⟩
      have e2 := same_upd (o := .lst [.int 0, .int 1, .int 2, .int 3, .int 4]) nJ
      have E2 := (e1.trans sE).trans e2
      let P2 : Nat → L2.St → Hp → Prop := fun i σ H' => ∃ o3, σ = [some (.ref p), some (.int n), some v, o3] ∧ Same (heapOf E2) H'
      refine ⟨J, rfl, ⟨_, SqL.of upd_same⟩, for_list (K := K) (a := J) (xs := [.int 0, .int 1, .int 2, .int 3, .int 4]) P2 ⟨_, rfl, Same.refl _⟩ (fun i σ H' _ h => SqL.of (h.choose_spec.2 _ _ upd_same)) (fun i u σ H' hi h => ?_) (fun σ H' h => ?_)⟩
      · obtain ⟨o3, rfl, sF⟩ := h
        have F := E2.trans sF
        obtain ⟨dd, rfl, d0, d4⟩ : ∃ dd : Int, u = .int dd ∧ 0 ≤ dd ∧ dd ≤ 4 := by
          have := List.mem_of_getElem? hi
          simp only [List.mem_cons, List.not_mem_nil, or_false] at this
          rcases this with rfl | rfl | rfl | rfl | rfl <;> exact ⟨_, rfl, by decide, by decide⟩
        refine ⟨_, rfl, _, rfl, _, rfl, _, rfl, _, _, rfl, rfl, p, dd, v, _, n, q, rfl, W.mono F, n7, .inl ⟨db, .int (n + 1), db, s, hv _, .int _, .fst d0 d4 no, hs, fun H2 tr s2 ntr htr => ?_⟩⟩
        refine ⟨_, rfl, v, db, s, rfl, hv _, hs, (by show 2 ≤ sizeLine; decide), fun tq ntq => ?_⟩
        have s3 := same_upd (o := .tup [.str "thing", .str s]) ntq
        refine ⟨strD ["thing", s], strD ["thing", s], (dt_strs (s3 _ _ htr)).dp, (dt_strs (ss := ["thing", s]) upd_same).dp, strD_shaped okT, strD_shaped okT, false, by rw [strD_eqv, decide_eq_true rfl]; rfl, iteF ?_⟩
        exact ⟨_, rfl, (sF.trans s2).trans s3⟩
      · obtain ⟨o3, rfl, sF⟩ := h
        have F := E2.trans sF
        refine ⟨_, rfl, _, rfl, p, 1, .int 0, v, n, q, rfl, W.mono F, n7, .inl ⟨.int 0, db, db, s, .int 0, hv _, .snd1 h0 no, hs, fun H2 tr s2 ntr htr => ?_⟩⟩
        refine ⟨_, rfl, v, db, s, rfl, hv _, hs, (by show 2 ≤ sizeLine; decide), fun tq ntq => ?_⟩
        have s3 := same_upd (o := .tup [.str "thing", .str s]) ntq
        refine ⟨strD ["thing", s], strD ["thing", s], (dt_strs (s3 _ _ htr)).dp, (dt_strs (ss := ["thing", s]) upd_same).dp, strD_shaped okT, strD_shaped okT, false, by rw [strD_eqv, decide_eq_true rfl]; rfl, iteF ?_⟩
        have F3 := (F.trans s2).trans s3
        refine ⟨_, rfl, _, rfl, p, 3, .int 0, v, n, q, rfl, W.mono F3, n7, .inl ⟨.int 0, db, db, s, .int 0, hv _, .snd3 h0 no, hs, fun H4 tr s4 ntr htr => ?_⟩⟩
        refine ⟨_, rfl, v, db, s, rfl, hv _, hs, (by show 2 ≤ sizeLine; decide), fun tq ntq => ?_⟩
        have s5 := same_upd (o := .tup [.str "thing", .str s]) ntq
        refine ⟨strD ["thing", s], strD ["thing", s], (dt_strs (s5 _ _ htr)).dp, (dt_strs (ss := ["thing", s]) upd_same).dp, strD_shaped okT, strD_shaped okT, false, by rw [strD_eqv, decide_eq_true rfl]; rfl, iteF ?_⟩
        have F5 := (F3.trans s4).trans s5
        refine ⟨_, rfl, _, rfl, (by show 3 ≤ sizeLine; decide), fun p6 np6 => ?_⟩
        have s6 := same_upd (o := .lst [.int 0, v, .int 0]) np6
        have F6 := F5.trans s6
        refine ⟨p, 5, .ref p6, .int 0, n, q, rfl, W.mono F6, n7, .inr ⟨rfl, p6, [.int 0, db, .int 0], 1, "1", rfl, .lst upd_same (.cons (.int _) (.cons (hv _) (.cons (.int _) .nil))), fw_bad (by omega) no, rfl, fun H7 tr s7 ntr htr => ?_⟩⟩
        refine ⟨by show 2 ≤ sizeLine; decide, fun tq ntq => ?_⟩
        have s8 := same_upd (o := .tup [.str "part", .str "1"]) ntq
        refine ⟨strD ["part", "1"], strD ["part", "1"], (dt_strs (s8 _ _ htr)).dp, (dt_strs (ss := ["part", "1"]) upd_same).dp, strD_shaped okP, strD_shaped okP, false, by rw [strD_eqv, decide_eq_true rfl]; rfl, iteF ?_⟩
        exact ⟨_, _, rfl, ((((((((sE.trans e2).trans sF).trans s2).trans s3).trans s4).trans s5).trans s6).trans s7).trans s8⟩
    · obtain ⟨o2, o3, rfl, sE⟩ := h
      have E := e1.trans sE
      have okP : ∀ z ∈ ([Str.ofString "part", Str.ofString "2"] : List Str), PyData.strOk z = true := ok2 (strOk_of _) (strOk_of _)
      have okT : ∀ z ∈ ([Str.ofString "thing", Str.ofString "1"] : List Str), PyData.strOk z = true := ok2 (strOk_of _) (strOk_of _)
      refine ⟨_, rfl, (by show 3 ≤ sizeLine; decide), fun p6 np6 => ?_⟩
      have s6 := same_upd (o := .tup [.int 1, .int 0, .int 1]) np6
      have F6 := E.trans s6
      refine ⟨p, 5, .ref p6, .int 0, n, q, rfl, W.mono F6, n7, .inr ⟨rfl, p6, [.int 1, .int 0, .int 1], 2, "2", rfl, .tup upd_same (.cons (.int _) (.cons (.int _) (.cons (.int _) .nil))), fw_101 n2, rfl, fun H7 tr s7 ntr htr => ?_⟩⟩
      refine ⟨by show 2 ≤ sizeLine; decide, fun tq ntq => ?_⟩
      have s8 := same_upd (o := .tup [.str "part", .str "2"]) ntq
      refine ⟨strD ["part", "2"], strD ["part", "2"], (dt_strs (s8 _ _ htr)).dp, (dt_strs (ss := ["part", "2"]) upd_same).dp, strD_shaped okP, strD_shaped okP, false, by rw [strD_eqv, decide_eq_true rfl]; rfl, iteF ?_⟩
      have F8 := (F6.trans s7).trans s8
      refine ⟨_, rfl, p, 3, .int 1, .int 1, n, q, rfl, W.mono F8, n7, .inl ⟨.int 1, .int 1, .int 1, "1", .int 1, .int 1, .eq3 h1 h1 (by rw [PyData.eqv]; rfl), rfl, fun H9 tr s9 ntr htr => ?_⟩⟩
      refine ⟨by show 2 ≤ sizeLine; decide, fun tq ntq => ?_⟩
      have s10 := same_upd (o := .tup [.str "thing", .str "1"]) ntq
      refine ⟨strD ["thing", "1"], strD ["thing", "1"], (dt_strs (s10 _ _ htr)).dp, (dt_strs (ss := ["thing", "1"]) upd_same).dp, strD_shaped okT, strD_shaped okT, ?_⟩
      rw [strD_eqv, decide_eq_true rfl]
      exact k _ ((F8.trans s9).trans s10)
end
end K0
set_option Elab.async false
set_option linter.all false
set_option maxRecDepth 100000
set_option maxHeartbeats 4000000
namespace K0
open PySem PySem.Spec PyProof.Rows L2
theorem tes_ents {A : Addr} {H0 G : Hp} {n : Int} {q : List Pr} (cl : Cl n q) : ∀ {xs : List V} {ps : List Pr}, TEs A H0 G xs ps → (∀ p ∈ ps, norm p ∈ q) → ∃ ds, DtAll G xs ds ∧ entsOf n ds = .ok (ps.map norm)
  | _, _, .nil, _ => ⟨[], .nil, rfl⟩
  | _, _, .cons (p := p) h t, into => by
    obtain ⟨ds, d1, d2⟩ := tes_ents cl t fun z hz => into z (List.mem_cons_of_mem _ hz)
    have r := cl.rng _ (into p List.mem_cons_self)
    unfold norm at r
    dsimp only at r
    have c : 0 ≤ p.1 ∧ p.1 < n ∧ 0 ≤ p.2 ∧ p.2 < n ∧ p.1 ≠ p.2 := by omega
    cases h with
    | @tup a x y e =>
      refine ⟨.tuple [.int x, .int y] :: ds, .cons (.tup e (.cons (.int _) (.cons (.int _) .nil))) d1, ?_⟩
      have : entOf n (.tuple [.int x, .int y]) = .ok (norm (x, y)) := by
        unfold entOf pairOf
        dsimp only
        rw [if_pos c]
        rfl
      rw [entsOf, this, d2]
      rfl
    | @lst a x y n' ne e =>
      refine ⟨.list [.int x, .int y] :: ds, .cons (.lst e (.cons (.int _) (.cons (.int _) .nil))) d1, ?_⟩
      have : entOf n (.list [.int x, .int y]) = .ok (norm (x, y)) := by
        unfold entOf pairOf
        dsimp only
        rw [if_pos c]
        rfl
      rw [entsOf, this, d2]
      rfl
theorem TEs.at {A : Addr} {H0 G : Hp} : ∀ {xs : List V} {ps : List Pr} {i : Nat} {v : V}, TEs A H0 G xs ps → xs[i]? = some v → ∃ p, ps[i]? = some p ∧ TEn A H0 G v p
  | _, _, _, _, .nil, e => by simp at e
  | _, _, 0, _, .cons h _, e => by
    have z := Option.some.inj e
    subst z
    exact ⟨_, rfl, h⟩
  | _, _, i + 1, _, .cons _ t, e => TEs.at (i := i) t e
theorem TEn.two {A : Addr} {H0 G : Hp} {v : V} {p : Pr} (h : TEn A H0 G v p) : ∃ a, v = .ref a ∧ (G a = some (.tup [.int p.1, .int p.2]) ∨ G a = some (.lst [.int p.1, .int p.2])) := by
  cases h with
  | tup e => exact ⟨_, rfl, .inl e⟩
  | lst n ne e => exact ⟨_, rfl, .inr e⟩
section
variable {P : Program} {w : World} {K : PySem.W.Frag} {mg : Str → Option Value} {base : Heap} {f : Addr} {fd : FuncData}
abbrev s_lw : Stmt := top 49
def spLw (K : PySem.W.Frag) : Sp := fun vs H Q _ => ∃ (a : Addr) (ns : List Int), vs = [.ref a] ∧ SqL K H a (ns.map V.int) ∧ ∀ H', Q (.bl true) H'
theorem sc_lw : FnScope ["_law_script", "_law_draws_here", "_law_case", "_law_many", "_law_pairs", "_law_told", "_law_one", "_law_kept", "_law_web", "_law_k"] ["_law_script"] (defScope s_lw) := ⟨rfl, rfl, rfl, by decide +kernel, rfl, by decide +kernel, by decide +kernel⟩
theorem ok_lw {C CN CW CT CP : Addr} (F : Fun K "law" "law" s_lw f fd) (B : Blt2 mg) (M : WebM P w K mg base C CN CW CT CP) (DR : Df P w K mg base "_law_draws" 1 ["_law_script"] (spDr K)) (WD : Df P w K mg base "_law_web_drawn" 2 ["_law_draws_here", "_law_most"] spWd)
    (SH : Df P w K mg base "_law_shaken" 2 ["_law_draws_here", "_law_pairs"] spSh) (AS : Df P w K mg base "_law_asked" 7 ["_law_web", "_law_many", "_law_pairs"] (spAs C)) (LE : Df P w K mg base "_law_equal" 6 ["_law_web", "_law_many", "_law_pairs"] (spLe C))
    (CH : Df P w K mg base "_law_changed" 8 ["_law_draws_here", "_law_web", "_law_many", "_law_pairs"] (spCh C)) (RF : Df P w K mg base "_law_refused" 7 ["_law_draws_here", "_law_many", "_law_pairs"] spRf) (RT : Df P w K mg base "_law_refused_things" 9 ["_law_web", "_law_many"] (spRt C))
    (TT : Df P w K mg base "_law_try_thing" 8 ["_law_web", "_law_deed", "_law_x", "_law_y"] (spTt K C)) : FnOk P w K mg base (L2.CX P w) 10 f fd ["_law_script"] (spLw K) := by
  refine F.okX sc_lw (fun vs H Q E h => ?_) (fun cdv A outer s H vs Q E hr h => ?_)
  · obtain ⟨l, ms, rfl, _⟩ := h
    rfl
  · obtain ⟨l, ms, rfl, hs, k⟩ := h
    have nd := sc_lw.nd
    have hu := hr.units
    have r1 : Room 1 _ := hr.mono (by decide)
    have r2 : Room 2 _ := hr.mono (by decide)
    have r5 : Room 5 _ := hr.mono (by decide)
    have r6 : Room 6 _ := hr.mono (by decide)
    have r7 : Room 7 _ := hr.mono (by decide)
    have r8 : Room 8 _ := hr.mono (by decide)
    refine ⟨_, pss_cons (ps_set (i := 1) nd rfl (.inl rfl) (pe_df DR r1 (by rfl) passUp (pa_cons (pv 0) pa_nil)))
      (pss_cons (ps_set (i := 2) nd rfl (.inl rfl) (pe_df WD r2 (by rfl) passUp (pa_cons (pv 1) (pa_cons pe_int pa_nil))))
      (pss_cons (ps_set (i := 3) nd rfl (.inl rfl) (pe_ix ix_list (pv 2) pe_int (fun _ _ => rfl)))
      (pss_cons (ps_set (i := 4) nd rfl (.inl rfl) (pe_ix ix_list (pv 2) pe_int (fun _ _ => rfl)))
      (pss_cons (ps_set (i := 5) nd rfl (.inl rfl) (pe_df SH r2 (by rfl) passUp (pa_cons (pv 1) (pa_cons (pv 4) pa_nil))))
      (pss_cons (ps_setLc (i := 7) (own := [("_law_one", 6)]) (g := gName 6) (tt := tYes) (te := tTup (tCons (tOp (fun x y H Q => rIxL K x y H Q ∨ rIxT K x y H Q) (tVar 6) (tC (.int 0))) (tCons (tOp (fun x y H Q => rIxL K x y H Q ∨ rIxT K x y H Q) (tVar 6) (tC (.int 1))) tNil)))
          rfl nd rfl (by rfl) (by rfl) (pi_list (pv 5)) (blkOk_by (N := ["_law_script", "_law_draws_here", "_law_case", "_law_many", "_law_pairs", "_law_told", "_law_one", "_law_kept", "_law_web", "_law_k"]) (sc := defScope s_lw) (by decide +kernel)) (fun _ _ _ _ _ => pg_name (i := 6) nd rfl (.inl rfl)) (fun _ _ _ _ _ => pts_nil)
          (fun _ _ _ _ _ => pe_tup (pa_cons (pe_ix (IxR.or ix_list ix_tup) (pv 6) pe_int (fun _ _ => rfl)) (pa_cons (pe_ix (IxR.or ix_list ix_tup) (pv 6) pe_int (fun _ _ => rfl)) pa_nil))))
      (pss_cons (ps_set (i := 8) nd rfl (.inl rfl) (pe_web M.WK r5 (by rfl) passUp (pa_cons (pv 3) (pa_cons (pv 5) pa_nil))))
      (pss_cons (ps_if (pt_cmpR (op_neD hu) (pe_lc (own := [("_law_one", 6)]) (g := gName 6) (tt := tYes) (te := tTup (tCons (tOp (fun x y H Q => rIxL K x y H Q ∨ rIxT K x y H Q) (tVar 6) (tC (.int 0))) (tCons (tOp (fun x y H Q => rIxL K x y H Q ∨ rIxT K x y H Q) (tVar 6) (tC (.int 1))) tNil)))
          rfl nd (pi_list (pv 5)) (blkOk_by (N := ["_law_script", "_law_draws_here", "_law_case", "_law_many", "_law_pairs", "_law_told", "_law_one", "_law_kept", "_law_web", "_law_k"]) (sc := defScope s_lw) (by decide +kernel)) (fun _ _ _ _ _ => pg_name (i := 6) nd rfl (.inl rfl)) (fun _ _ _ _ _ => pts_nil)
          (fun _ _ _ _ _ => pe_tup (pa_cons (pe_ix (IxR.or ix_list ix_tup) (pv 6) pe_int (fun _ _ => rfl)) (pa_cons (pe_ix (IxR.or ix_list ix_tup) (pv 6) pe_int (fun _ _ => rfl)) pa_nil)))) (pv 7) (by rfl)) (pss_one (ps_ret pe_bl)) pss_nil)
      (pss_cons (ps_for (passes_of rfl) rfl (pi_range1 (by rfl) B.range (pa_cons (pe_callB c_len (by rfl) B.len PySem.boot_len (pa_cons (pv 5) pa_nil)) pa_nil)) (pg_name (i := 9) nd rfl (.inl rfl))
        (pss_cons (ps_set (i := 6) nd rfl (.inl rfl) (pe_ix ix_list (pv 5) (pv 9) (fun _ _ => rfl)))
        (pss_one (ps_if (pt_val (pe_callB call_isi (by rfl) B.isi (by decide +kernel) (pa_cons (pv 6) (pa_cons (pe_bltn (v := .ty "list") (by rfl) B.list (by decide +kernel) rfl) pa_nil)))) (pss_one (ps_asg (pv 3) (pg_sub (pv 6) pe_int set_list))) pss_nil))))
      (pss_cons (ps_expr (pe_lapp (pv 5) (pa_cons (pe_tup (pa_cons pe_int (pa_cons pe_int pa_nil))) pa_nil)))
      (pss_cons (ps_if (PW.pt (pw_or (pt_not (pt_val (pe_df AS r7 (by rfl) passUp (pa_cons (pv 8) (pa_cons (pv 3) (pa_cons (pv 4) pa_nil)))))) (pw_or1 (pt_not (pt_val (pe_df LE r6 (by rfl) passUp (pa_cons (pv 8) (pa_cons (pv 3) (pa_cons (pv 4) pa_nil))))))))) (pss_one (ps_ret pe_bl)) pss_nil)
      (pss_cons (ps_if (PW.pt (pw_or (pt_not (pt_val (pe_df CH r8 (by rfl) passUp (pa_cons (pv 1) (pa_cons (pv 8) (pa_cons (pv 3) (pa_cons (pv 4) pa_nil))))))) (pw_or1 (pt_not (pt_val (pe_df RF r7 (by rfl) passUp (pa_cons (pv 1) (pa_cons (pv 3) (pa_cons (pv 4) pa_nil))))))))) (pss_one (ps_ret pe_bl)) pss_nil)
      (pss_cons (ps_if (PW.pt (pw_or (pt_not (pt_val (pe_df RT hr (by rfl) passUp (pa_cons (pv 8) (pa_cons (pv 3) pa_nil))))) (pw_or1 (pt_not (pt_val (pe_df AS r7 (by rfl) passUp (pa_cons (pv 8) (pa_cons (pv 3) (pa_cons (pv 4) pa_nil))))))))) (pss_one (ps_ret pe_bl)) pss_nil)
      (pss_cons (ps_if (PW.pt (pw_or (pt_not (pt_val (pe_df AS r7 (by rfl) passUp (pa_cons (pe_web1 M.WK r5 (by rfl) passUp (pa_cons pe_int pa_nil)) (pa_cons pe_int (pa_cons (pe_lst pa_nil) pa_nil)))))) (pw_or1 (pt_not (pt_val (pe_df AS r7 (by rfl) passUp (pa_cons (pe_web M.WK r5 (by rfl) passUp (pa_cons pe_int (pa_cons (pe_tup pa_nil) pa_nil))) (pa_cons pe_int (pa_cons (pe_lst pa_nil) pa_nil))))))))) (pss_one (ps_ret pe_bl)) pss_nil)
      (pss_one (ps_ret (pe_cmpR (op_eqD hu) (pe_df TT r8 (by rfl) passUp (pa_cons (pe_web1 M.WK r5 (by rfl) passUp (pa_cons pe_int pa_nil)) (pa_cons pe_int (pa_cons pe_int (pa_cons pe_int pa_nil))))) (pe_tup (pa_cons pe_str (pa_cons pe_str pa_nil))) (by rfl))))))))))))))))), ?_⟩
    -- draws
    refine ⟨_, rfl, l, ms, rfl, hs, fun H1 d s1 nd1 dr1 => ?_⟩
    refine ⟨_, rfl, d, rfl, dr1, fun H2 a b n q s2 dr2 na nb ha g2 n2 n7 cl => ?_⟩
    refine ⟨_, rfl, a, [.int n, .ref b], 0, .int n, rfl, rfl, SqL.of ha, rfl, ?_⟩
    refine ⟨_, rfl, a, [.int n, .ref b], 1, .ref b, rfl, rfl, SqL.of ha, rfl, ?_⟩
    refine ⟨_, rfl, _, rfl, d, b, n, q, rfl, dr2, g2.ls, cl, by omega, fun H3 a3 xs ps s3 dr3 na3 a3d gA tes lps told => ?_⟩
    have hA3 : H3 a3 = some (.lst xs) := del_sub _ _ gA
    have lxs := tes.len
    have few : q.length ≤ 28 := cl.few (by omega)
    have two : ∀ {i : Nat} {v : V}, xs[i]? = some v → ∃ p e, ps[i]? = some p ∧ v = .ref e ∧ (H3 e = some (.tup [.int p.1, .int p.2]) ∨ H3 e = some (.lst [.int p.1, .int p.2])) := fun {i v} h => by
      obtain ⟨p, hp, te⟩ := tes.at h
      obtain ⟨e, rfl, he⟩ := te.two
      exact ⟨p, e, hp, rfl, he.imp (del_sub _ _) (del_sub _ _)⟩
    -- kept
    refine ⟨_, rfl, a3, rfl, ⟨_, SqL.of hA3⟩, fun G nG => ?_⟩
    refine lc_it (walk_list (K := K) (a := a3) (xs := xs)) (fun i H' => Same H3 H' ∧ Grow H' G (ps.take i)) ⟨same_upd nG, ⟨[], upd_same, rfl, fun z hz => by cases hz⟩⟩ (fun i H' _ z => SqL.of (z.1 _ _ hA3)) (fun i v H' H'' hi z y => ?_) (fun H4 z => ?_)
    · obtain ⟨rfl, hv⟩ := y
      obtain ⟨sm, g⟩ := z
      obtain ⟨p, e, hp, rfl, he⟩ := two hv
      have he' := he.imp (sm _ _) (sm _ _)
      obtain ⟨zs, hz, lz, _⟩ := g.at
      refine ⟨rfl, ?_⟩
      refine ⟨_, rfl, ix0 he' ?_⟩
      refine ⟨_, rfl, ix1 he' ?_⟩
      refine ⟨(by show 2 ≤ sizeLine; decide), fun u nu => ?_⟩
      have s5 := same_upd (o := .tup [.int p.1, .int p.2]) nu
      refine ⟨_, s5 _ _ hz, by rw [lz, List.length_take, sizeLine_eq]; omega, same_keep nG (sm.trans s5), ?_⟩
      rw [take_at hp]
      exact g.push nu hz
    obtain ⟨s34, g4⟩ := z
    rw [lxs, List.take_length] at g4
    -- the web
    obtain ⟨ds, dd, de⟩ := tes_ents cl tes told.into
    have nok : okN 0 (.int n) = false → False := fun z => (of_decide_eq_false z : ¬ (0 ≤ n)) (by omega)
    refine ⟨_, rfl, _, rfl, a3, .int n, .int n, ds, rfl, .int n, .lst (s34 _ _ hA3) ((dd.mono del_sub).mono s34), fun z => (nok z).elim, fun m em h0 => ?_⟩
    cases em
    refine ⟨by omega, fun ps' hps q' c' e' H5 w s45 nw W => ?_, fun x y hxy => by rw [de] at hxy; cases hxy⟩
    rw [de] at hps
    cases hps
    obtain rfl : q' = q := cl_eq cl c' fun z => (e' z).trans ⟨fun h => by
      obtain ⟨p, hp, rfl⟩ := List.mem_map.mp h
      exact told.into p hp, told.all z⟩
    have s35 := s34.trans s45
    -- told is as it was
    refine ⟨_, rfl, a3, rfl, ⟨_, SqL.of (s35 _ _ hA3)⟩, fun G2 nG2 => ?_⟩
    refine lc_it (walk_list (K := K) (a := a3) (xs := xs)) (fun i H' => Same H5 H' ∧ Grow H' G2 (ps.take i)) ⟨same_upd nG2, ⟨[], upd_same, rfl, fun z hz => by cases hz⟩⟩ (fun i H' _ z => SqL.of (z.1 _ _ (s35 _ _ hA3))) (fun i v H' H'' hi z y => ?_) (fun H6 z => ?_)
    · obtain ⟨rfl, hv⟩ := y
      obtain ⟨sm, g⟩ := z
      obtain ⟨p, e, hp, rfl, he⟩ := two hv
      have he' := he.imp ((s35.trans sm) _ _) ((s35.trans sm) _ _)
      obtain ⟨zs, hz, lz, _⟩ := g.at
      refine ⟨rfl, ?_⟩
      refine ⟨_, rfl, ix0 he' ?_⟩
      refine ⟨_, rfl, ix1 he' ?_⟩
      refine ⟨(by show 2 ≤ sizeLine; decide), fun u nu => ?_⟩
      have s5 := same_upd (o := .tup [.int p.1, .int p.2]) nu
      refine ⟨_, s5 _ _ hz, by rw [lz, List.length_take, sizeLine_eq]; omega, same_keep nG2 (sm.trans s5), ?_⟩
      rw [take_at hp]
      exact g.push nu hz
    obtain ⟨s56, g6⟩ := z
    rw [lxs, List.take_length] at g6
    have s36 := s35.trans s56
    refine ⟨_, rfl, .list (ps.map prD), .list (ps.map prD), g6.ls.dp, (g4.ls.mono (s45.trans s56)).dp, prsL_shaped _, prsL_shaped _, false, by rw [prsL_eqv, decide_eq_true rfl]; rfl, iteF ?_⟩
    -- the lists told are changed
    have nN : ∀ {e : Addr}, H4 e ≠ none → (New H4 H5) e = none := fun {e} h => by
      unfold New
      cases z : H4 e with
      | none => exact absurd z h
      | some _ => rfl
    have h2d : H2 d ≠ none := fun z => by
      obtain ⟨_, h, _⟩ := dr2
      rw [z] at h
      cases h
    let P1 : Nat → L2.St → Hp → Prop := fun i σ H' => ∃ o6 o9, σ = [some (.ref l), some (.ref d), some (.ref a), some (.int n), some (.ref b), some (.ref a3), o6, some (.ref G), some (.ref w), o9] ∧ Same (del H2 d) H' ∧ DrO H' d ∧ Same (New H4 H5) H' ∧ H' a3 = some (.lst xs) ∧
      ∀ v ∈ xs, ∃ e, v = .ref e ∧ ((∃ zs, H' e = some (.tup zs)) ∨ (H2 e = none ∧ e ≠ a3 ∧ H4 e ≠ none ∧ ∃ y1 y2, H' e = some (.lst [y1, y2])))
    refine ⟨_, rfl, a3, xs, rfl, .inl (SqL.of (s36 _ _ hA3)), _, rfl, by omega, by omega, ?_⟩
    rw [Int.toNat_natCast]
    refine for_range (n := xs.length) P1 ⟨none, none, rfl, s3.trans s36, dr3.mono s36, same_new.trans s56, s36 _ _ hA3, fun v hv => ?_⟩ (fun i σ H' hi h => ?_) (fun σ H7 h => ?_)
    · obtain ⟨i, hi, rfl⟩ := List.getElem_of_mem hv
      obtain ⟨p, hp, te⟩ := tes.at (List.getElem?_eq_getElem hi)
      generalize xs[i] = v at te
      cases te with
      | tup e => exact ⟨_, rfl, .inl ⟨_, s36 _ _ (del_sub _ _ e)⟩⟩
      | lst n' ne e => exact ⟨_, rfl, .inr ⟨n', ne, (by rw [s34 _ _ (del_sub _ _ e)]; exact fun z => by cases z), _, _, s36 _ _ (del_sub _ _ e)⟩⟩
    · obtain ⟨o6, o9, rfl, sm, dr', sN, hA, ent⟩ := h
      rw [Int.zero_add]
      obtain ⟨e, ev, he⟩ := ent xs[i] (List.getElem_mem hi)
      refine ⟨_, rfl, _, rfl, a3, xs, (i : Int), .ref e, rfl, rfl, SqL.of hA, atI_nat (by rw [List.getElem?_eq_getElem hi, ev]), ?_⟩
      rcases he with ⟨zs, he⟩ | ⟨n2e, nea, n4e, y1, y2, he⟩
      · exact ⟨_, rfl, _, _, _, _, _, rfl, .ty _, .base (.tup he), kit_ty (r := false) (by decide +kernel), _, rfl, iteF ⟨_, _, rfl, sm, dr', sN, hA, ent⟩⟩
      · refine ⟨_, rfl, _, _, _, _, _, rfl, .ty _, .base (.lst he), kit_ty (r := true) (by decide +kernel), _, rfl, iteT ⟨_, rfl, _, rfl, e, [y1, y2], 0, 0, rfl, rfl, he, rfl, ?_⟩⟩
        have ed : e ≠ d := fun z => h2d (by rw [← z]; exact n2e)
        refine ⟨_, _, rfl, same_keep (by rw [del_ne ed]; exact n2e) sm, dr'.upd ed, same_keep (nN n4e) sN, by rw [upd_ne nea.symm]; exact hA, fun v hv => ?_⟩
        obtain ⟨e2, ev2, he2⟩ := ent v hv
        refine ⟨e2, ev2, ?_⟩
        rcases he2 with ⟨zs, he2⟩ | ⟨m1, m2, m3, z1, z2, he2⟩
        · exact .inl ⟨zs, by rw [upd_ne (ne_of he2 he (fun z => nomatch z))]; exact he2⟩
        · by_cases ee : e2 = e
          · exact .inr ⟨m1, m2, m3, .int n, y2, by rw [ee, upd_same]; rfl⟩
          · exact .inr ⟨m1, m2, m3, z1, z2, by rw [upd_ne ee]; exact he2⟩
    obtain ⟨o6, o9, rfl, sm7, dr7, sN7, hA7, _⟩ := h
    -- told.append((0, 0))
    refine ⟨_, rfl, .inl ⟨rfl, xs, SqL.of hA7⟩, (by show 2 ≤ sizeLine; decide), fun t nt => ?_⟩
    have s8 : Same H7 (upd H7 t (.tup [.int 0, .int 0])) := same_upd nt
    refine ⟨a3, xs, _, rfl, rfl, s8 _ _ hA7, by rw [sizeLine_eq]; omega, ?_⟩
    obtain ⟨H8, eH8⟩ : ∃ H8, H8 = upd (upd H7 t (.tup [.int 0, .int 0])) a3 (.lst (xs ++ [.ref t])) := ⟨_, rfl⟩
    have sm8 : Same (del H2 d) H8 := by rw [eH8]; exact same_keep (by rw [del_ne a3d]; exact na3) (same_keep (sm7.free nt) sm7)
    have sN8 : Same (New H4 H5) H8 := by rw [eH8]; exact same_keep (nN (by rw [s34 _ _ hA3]; exact fun z => by cases z)) (same_keep (sN7.free nt) sN7)
    have dr8 : DrO H8 d := by rw [eH8]; exact (dr7.up nt).upd a3d
    rw [← eH8]
    have nwd : (New H4 H5) d = none := nN (by rw [show H4 d = H4 d from rfl]; obtain ⟨_, h, _⟩ := dr3; rw [s34 _ _ h]; exact fun z => by cases z)
    have nDel : ∀ {H' : Hp}, Same (New H4 H5) H' → Same (New H4 H5) (del H' d) := fun {H'} s c o e => by
      have : c ≠ d := fun z => by rw [z, nwd] at e; cases e
      rw [del_ne this]
      exact s c o e
    -- asked, equal
    refine ⟨_, rfl, _, rfl, _, rfl, w, b, n, q', rfl, W.mono sN8, g2.ls.mono sm8, fun H9 s9 => ⟨true, rfl, iteF ?_⟩⟩
    have sm9 := sm8.trans s9
    have sN9 := sN8.trans s9
    refine ⟨_, rfl, _, rfl, _, rfl, w, b, n, q', rfl, W.mono sN9, n7, g2.ls.mono sm9, fun H10 s10 => ⟨true, rfl, iteF ?_⟩⟩
    have sm10 := sm9.trans s10
    have sN10 := sN9.trans s10
    have dr10 := (dr8.mono s9).mono s10
    -- changed, refused
    have Wd10 := W.mono (nDel sN10)
    have Ld10 := g2.ls.mono (same_del sm10)
    refine ⟨_, rfl, _, rfl, _, rfl, _, rfl, d, w, b, n, q', rfl, dr10, Wd10, Ld10, n2, n7, fun H11 s11 dr11 => ⟨true, rfl, iteF ?_⟩⟩
    have Ld11 := Ld10.mono (same_del s11)
    have Wd11 := Wd10.mono (same_del s11)
    refine ⟨_, rfl, _, rfl, _, rfl, d, b, n, q', rfl, dr11, Ld11, cl, n2, n7, fun H12 s12 dr12 => ⟨true, rfl, iteF ?_⟩⟩
    have W12 := Wd11.mono s12
    have L12 := Ld11.mono s12
    -- refused things, asked again
    refine ⟨_, rfl, _, rfl, w, n, q', rfl, W12, n2, n7, fun H13 s13 => ⟨true, rfl, iteF ?_⟩⟩
    refine ⟨_, rfl, _, rfl, _, rfl, w, b, n, q', rfl, W12.mono s13, L12.mono s13, fun H14 s14 => ⟨true, rfl, iteF ?_⟩⟩
    -- no thing, one thing
    have none_ : ∀ {q0 : List Pr}, (∀ z, z ∈ q0 ↔ z ∈ ([] : List Pr)) → q0 = [] := fun {q0} h => List.eq_nil_iff_forall_not_mem.mpr fun z hz => by cases (h z).mp hz
    refine fun e0 he0 => ⟨e0, .int 0, .int 0, [], rfl, .int 0, .kon he0 rfl, (fun z => nomatch z), fun m em h0 => ?_⟩
    cases em
    refine ⟨by decide, fun ps' hps q0 c0 e0' H15 w0 s15 nw0 W0 => ?_, fun x y hxy => by cases hxy⟩
    cases hps
    obtain rfl := none_ e0'
    refine ⟨by show 0 ≤ sizeLine; exact Nat.zero_le _, fun b0 nb0 => ?_⟩
    have s16 := same_upd (o := .lst []) nb0
    refine ⟨w0, b0, 0, [], rfl, (W0.mono same_new).mono s16, ⟨[], upd_same, .nil⟩, fun H17 s17 => ⟨true, rfl, iteF ?_⟩⟩
    refine ⟨by show 0 ≤ sizeLine; exact Nat.zero_le _, fun t1 nt1 => ?_⟩
    refine ⟨t1, .int 1, .int 1, [], rfl, .int 1, .tup upd_same .nil, (fun z => nomatch z), fun m em h0 => ?_⟩
    cases em
    refine ⟨by decide, fun ps' hps q1 c1 e1' H18 w1 s18 nw1 W1 => ?_, fun x y hxy => by cases hxy⟩
    cases hps
    obtain rfl := none_ e1'
    refine ⟨by show 0 ≤ sizeLine; exact Nat.zero_le _, fun b1 nb1 => ?_⟩
    have s19 := same_upd (o := .lst []) nb1
    refine ⟨w1, b1, 1, [], rfl, (W1.mono same_new).mono s19, ⟨[], upd_same, .nil⟩, fun H20 s20 => ⟨true, rfl, iteF ?_⟩⟩
    -- the last
    refine fun e2 he2 => ⟨e2, .int 0, .int 0, [], rfl, .int 0, .kon he2 rfl, (fun z => nomatch z), fun m em h0 => ?_⟩
    cases em
    refine ⟨by decide, fun ps' hps q2 c2 e2' H21 w2 s21 nw2 W2 => ?_, fun x y hxy => by cases hxy⟩
    cases hps
    obtain rfl := none_ e2'
    refine ⟨w2, 0, .int 0, .int 0, 0, [], rfl, W2.mono same_new, by decide, .inl ⟨.int 0, .int 0, .int 0, "0", .int 0, .int 0, .fst (by decide) (by decide) rfl, rfl, fun H22 tr s22 ntr htr => ?_⟩⟩
    refine ⟨by show 2 ≤ sizeLine; decide, fun tq ntq => ?_⟩
    have s23 := same_upd (o := .tup [.str "thing", .str "0"]) ntq
    have okT : ∀ z ∈ ([Str.ofString "thing", Str.ofString "0"] : List Str), PyData.strOk z = true := fun z hz => by
      simp only [List.mem_cons, List.not_mem_nil, or_false] at hz
      rcases hz with rfl | rfl <;> exact strOk_of _
    refine ⟨strD ["thing", "0"], strD ["thing", "0"], (dt_strs (s23 _ _ htr)).dp, (dt_strs (ss := ["thing", "0"]) upd_same).dp, strD_shaped okT, strD_shaped okT, ?_⟩
    rw [strD_eqv, decide_eq_true rfl]
    exact k _
end
end K0
set_option Elab.async false
set_option linter.all false
set_option maxRecDepth 100000
set_option maxHeartbeats 4000000
namespace K0
open PySem PySem.Spec PyProof.Rows L2
/-! ### what the top has written -/
/-- a def of the top -/
structure DG (K : PySem.W.Frag) (x : Str) (st : Stmt) : Prop where
  ex : ∃ (f : Addr) (fd : FuncData), PySem.W.nsIn K mainGlobals x = some (some (.ref f)) ∧ Fun K x x st f fd
/-- a method of the class at C -/
structure MG (K : PySem.W.Frag) (C : Addr) (m q : Str) (st : Stmt) : Prop where
  ex : ∃ (f : Addr) (fd : FuncData), PySem.W.findIn K (.ref C) m = some (some (.ref f)) ∧ PySem.W.isFn K (.ref f) = true ∧ PySem.W.fnIn K f = true ∧ Fun K m q st f fd
/-- an error class with its own __init__ -/
structure EG (K : PySem.W.Frag) (x : Str) (C : Addr) (fl : List Str) (q : Str) (st : Stmt) : Prop where
  T : ErrC K C fl
  g : PySem.W.nsIn K mainGlobals x = some (some (.ref C))
  ex : ∃ (f : Addr) (fd : FuncData), PySem.W.findIn K (.ref C) "__init__" = some (some (.ref f)) ∧ PySem.W.typeIn K (.ref f) = some (.type "function") ∧ Fun K "__init__" q st f fd
/-- a def with one default, the def's own name x where it is the top's -/
structure XG (K : PySem.W.Frag) (x q : Str) (st : Stmt) (f : Addr) (v : V) : Prop where
  ex : ∃ fd : FuncData, FunD K x q (defArgs st) (defBody st) (defScope st) [v] [] f fd
theorem FnOk.up {P : Program} {w : World} {K : PySem.W.Frag} {mg : Str → Option Value} {base : Heap} {CX : CXT} {k : Nat} {f : Addr} {fd : FuncData} {ps : List Str} {sp : Sp} (F : FnOk P w K mg base CX0 k f fd ps sp) : FnOk P w K mg base CX k f fd ps sp :=
  ⟨F.len, fun A outer s H args us vs Q E hr he hb hv hs Γ p hc hΓ => wpCode_mono (fun r s' h => by
    cases r with
    | ok v => cases v <;> exact h
    | error e => exact h.elim) (F.run A outer s H args us vs Q E hr he hb hv hs Γ p hc hΓ)⟩
section
variable {P : Program} {w : World} {K : PySem.W.Frag} {mg : Str → Option Value} {base h : Heap} {x q m : Str} {st : Stmt} {k : Nat} {ps : List Str} {sp : Sp} {C : Addr}
theorem DG.df (g : DG K x st) (X : K.In h) (G : h.Ns mainGlobals mg) (ok : ∀ f fd, Fun K x x st f fd → FnOk P w K mg base (L2.CX P w) k f fd ps sp)
    (hb : ∀ (kV doc pm : Value) (an : Option Addr) (cdv ct : Value) (us : List Value), us.length = ps.length → bindArgs (PySem.W.fnOf x x (defArgs st) (defBody st) (defScope st) .none kV doc pm an cdv ct) ⟨us, []⟩ = pure (ps.zip us)) : Df P w K mg base x k ps sp := by
  obtain ⟨f, fd, e, F⟩ := g.ex
  exact ⟨f, fd, PySem.W.mg_of X G e, F.kp, ok f fd F, F.binds hb⟩
theorem MG.mt (g : MG K C m q st) (c : Cls K C) (ok : ∀ f fd, Fun K m q st f fd → FnOk P w K mg base (L2.CX P w) k f fd ps sp)
    (hb : ∀ (kV doc pm : Value) (an : Option Addr) (cdv ct : Value) (us : List Value), us.length = ps.length → bindArgs (PySem.W.fnOf m q (defArgs st) (defBody st) (defScope st) .none kV doc pm an cdv ct) ⟨us, []⟩ = pure (ps.zip us)) : Mt P w K mg base C m k ps sp := by
  obtain ⟨f, fd, e, i, n, F⟩ := g.ex
  exact ⟨f, fd, c, ⟨e, i, F.kp⟩, i, n, e, ok f fd F, F.binds hb⟩
theorem EG.er {fl : List Str} (g : EG K x C fl q st) (X : K.In h) (G : h.Ns mainGlobals mg) (ok : ∀ f fd, Fun K "__init__" q st f fd → FnOk P w K mg base CX0 1 f fd ps sp)
    (hb : ∀ (kV doc pm : Value) (an : Option Addr) (cdv ct : Value) (us : List Value), us.length = ps.length → bindArgs (PySem.W.fnOf "__init__" q (defArgs st) (defBody st) (defScope st) .none kV doc pm an cdv ct) ⟨us, []⟩ = pure (ps.zip us)) : Er P w K mg base x C fl ps sp := by
  obtain ⟨f, fd, e, i, F⟩ := g.ex
  exact ⟨g.T, PySem.W.mg_of X G g.g, f, fd, e, i, ok f fd F, F.binds hb⟩
end
/-- a def at f -/
structure PG (K : PySem.W.Frag) (x q : Str) (st : Stmt) (f : Addr) : Prop where
  ex : ∃ fd : FuncData, Fun K x q st f fd
/-- the empty tuple that the top has made -/
structure EmT (K : PySem.W.Frag) (e : Addr) : Prop where
  ex : ∃ (o : Obj) (its : Array Value) (n : Nat), K.lookup e = some o ∧ o.cls = .type "tuple" ∧ o.data = .seq its n ∧ its = #[]
theorem em_mk {K : PySem.W.Frag} {e : Addr} {o : Obj} {its : Array Value} {n : Nat} (l : K.lookup e = some o) (x : o.cls = .type "tuple") (y : o.data = .seq its n) (z : its = #[]) : EmT K e := ⟨o, its, n, l, x, y, z⟩
theorem EmT.sq {K : PySem.W.Frag} {e : Addr} (h : EmT K e) (H : Hp) : SqT K H e [] := by
  obtain ⟨o, its, n, h1, h2, h3, rfl⟩ := h.ex
  exact .inr ⟨o, #[], n, h1, h2, h3, Nat.zero_le _, .nil⟩
theorem kit_no {K : PySem.W.Frag} {C : Addr} {T : String} (h1 : PySem.W.hasDictIn K C = true) (h2 : PySem.W.typeIn K (.ref C) = some (.type "type")) (h3 : PySem.W.subIn K (.type T) (.ref C) = some false) : PySem.W.kitOne K (.type T) (.ref C) = some false := by
  obtain ⟨cd, hc, _⟩ := PySem.W.any_some h1
  have e2 : ((PySem.W.clsIn K C).isSome && PySem.W.typeIn K (.ref C) == some (.type "type")) = true := by rw [hc, h2] <;> rfl
  have e1 : ¬ (((Value.type T) == .ref C) = true) := fun z => nomatch beq_iff_eq.mp z
  show (if ((Value.type T) == .ref C) = true then some true else (if ((PySem.W.clsIn K C).isSome && PySem.W.typeIn K (.ref C) == some (.type "type")) = true then PySem.W.subIn K (.type T) (.ref C) else none)) = some false
  rw [if_neg e1, if_pos e2]
  exact h3
theorem kit_self {K : PySem.W.Frag} {C : Addr} : PySem.W.kitOne K (.ref C) (.ref C) = some true := by
  unfold PySem.W.kitOne
  rw [if_pos (beq_iff_eq.mpr rfl)]
theorem ErrC.xf {K : PySem.W.Frag} {C : Addr} {fl : List Str} (T : ErrC K C fl) : XfC K C := ⟨T.ga, T.gg, T.exC, T.hd⟩
theorem ErrC.exm {K : PySem.W.Frag} {C : Addr} {fl : List Str} (T : ErrC K C fl) {cls : Value} {b : Bool} (h : PySem.W.subIn K cls (.ref C) = some b) : PySem.W.exmOne K cls (.ref C) = some b := PySem.W.exm_ref T.exC T.hd T.tyC h
theorem fun_of {K : PySem.W.Frag} {x q : Str} {st : Stmt} {oc : Value} {od an : Option Addr} {osl : Array (Option Value)} {kV doc pm cdv ct : Value} {ar : Arguments} {bo : List Stmt} {sc : Scope} {o : Obj} {f : Addr}
  (l : K.lookup f = some o) (e : o = ⟨oc, od, .func (PySem.W.fnOf x q ar bo sc .none kV doc pm an cdv ct), osl⟩) (e1 : ar = defArgs st) (e2 : bo = defBody st) (e3 : sc = defScope st) (c : PySem.W.codeIn K cdv q = true) (k : PySem.W.keepIn K (.ref f) = true) : ∃ fd, Fun K x q st f fd := by
  subst e1 e2 e3 e
  exact ⟨_, ⟨oc, od, kV, doc, pm, an, cdv, ct, osl, rfl, l, c⟩, k⟩
theorem dg_mk {K : PySem.W.Frag} {q : Str} {st : Stmt} {oc : Value} {od an : Option Addr} {osl : Array (Option Value)} {kV doc pm cdv ct : Value} {ar : Arguments} {bo : List Stmt} {sc : Scope} {o : Obj} {f : Addr}
  (a : PySem.W.nsIn K mainGlobals q = some (some (.ref f))) (l : K.lookup f = some o) (e : o = ⟨oc, od, .func (PySem.W.fnOf q q ar bo sc .none kV doc pm an cdv ct), osl⟩) (e1 : ar = defArgs st) (e2 : bo = defBody st) (e3 : sc = defScope st) (c : PySem.W.codeIn K cdv q = true) (k : PySem.W.keepIn K (.ref f) = true) : DG K q st := by
  obtain ⟨fd, F⟩ := fun_of l e e1 e2 e3 c k
  exact ⟨f, fd, a, F⟩
theorem mg_mk {K : PySem.W.Frag} {C : Addr} {m q : Str} {st : Stmt} {oc : Value} {od an : Option Addr} {osl : Array (Option Value)} {kV doc pm cdv ct : Value} {ar : Arguments} {bo : List Stmt} {sc : Scope} {o : Obj} {f : Addr}
  (a : PySem.W.findIn K (.ref C) m = some (some (.ref f))) (i : PySem.W.isFn K (.ref f) = true) (n : PySem.W.fnIn K f = true) (l : K.lookup f = some o) (e : o = ⟨oc, od, .func (PySem.W.fnOf m q ar bo sc .none kV doc pm an cdv ct), osl⟩) (e1 : ar = defArgs st) (e2 : bo = defBody st) (e3 : sc = defScope st) (c : PySem.W.codeIn K cdv q = true) (k : PySem.W.keepIn K (.ref f) = true) : MG K C m q st := by
  obtain ⟨fd, F⟩ := fun_of l e e1 e2 e3 c k
  exact ⟨f, fd, a, i, n, F⟩
theorem pg_mk {K : PySem.W.Frag} {m q : Str} {st : Stmt} {oc : Value} {od an : Option Addr} {osl : Array (Option Value)} {kV doc pm cdv ct : Value} {ar : Arguments} {bo : List Stmt} {sc : Scope} {o : Obj} {f : Addr}
  (l : K.lookup f = some o) (e : o = ⟨oc, od, .func (PySem.W.fnOf m q ar bo sc .none kV doc pm an cdv ct), osl⟩) (e1 : ar = defArgs st) (e2 : bo = defBody st) (e3 : sc = defScope st) (c : PySem.W.codeIn K cdv q = true) (k : PySem.W.keepIn K (.ref f) = true) : PG K m q st f := by
  obtain ⟨fd, F⟩ := fun_of l e e1 e2 e3 c k
  exact ⟨fd, F⟩
theorem eg_mk {K : PySem.W.Frag} {x : Str} {C : Addr} {fl : List Str} {q : Str} {st : Stmt} {oc : Value} {od an : Option Addr} {osl : Array (Option Value)} {kV doc pm cdv ct : Value} {ar : Arguments} {bo : List Stmt} {sc : Scope} {o : Obj} {f : Addr} {oC : Obj} {nm qn : Str} {N : Addr} {bs bm : List Value} {sn : List Str} {sub : List Value} {ab : Bool} {col : Option Bool} {dd : Option Addr} {m0 m1 m2 m3 m5 : Option Value}
  (g : PySem.W.nsIn K mainGlobals x = some (some (.ref C))) (xl : K.lookup C = some oC) (xe : oC = excClassObj nm qn C N bs bm true sn sub ab col dd m0 m1 m2 m3 m5 "Exception.__new__") (xb : (tailOf bm == exT) = true)
  (sa : PySem.W.findIn K (.ref C) "__setattr__" = some (some (.builtin "object.__setattr__"))) (ga : PySem.W.findIn K (.ref C) "__getattribute__" = some (some (.builtin "BaseException.__getattribute__"))) (gg : PySem.W.findIn K (.ref C) "__getattr__" = some none)
  (ex : PySem.W.subIn K (.ref C) (.type "BaseException") = some true) (ty : PySem.W.typeIn K (.ref C) = some (.type "type")) (kc : PySem.W.keepIn K (.ref C) = true) (hd : PySem.W.hasDictIn K C = true) (no : ∀ z ∈ fl, PySem.W.findIn K (.ref C) z = some none)
  (i : PySem.W.findIn K (.ref C) "__init__" = some (some (.ref f))) (t : PySem.W.typeIn K (.ref f) = some (.type "function")) (l : K.lookup f = some o) (e : o = ⟨oc, od, .func (PySem.W.fnOf "__init__" q ar bo sc .none kV doc pm an cdv ct), osl⟩) (e1 : ar = defArgs st) (e2 : bo = defBody st) (e3 : sc = defScope st) (c : PySem.W.codeIn K cdv q = true) (k : PySem.W.keepIn K (.ref f) = true) : EG K x C fl q st := by
  obtain ⟨fd, F⟩ := fun_of l e e1 e2 e3 c k
  subst xe
  exact ⟨⟨⟨nm, qn, N, bs, bm, sn, sub, ab, col, dd, m0, m1, m2, m3, m5, xl, xb⟩, sa, ga, gg, ex, ty, kc, hd, no⟩, g, f, fd, i, t, F⟩
theorem xg_mk {K : PySem.W.Frag} {x q : Str} {st : Stmt} {v : V} {oc : Value} {od an : Option Addr} {osl : Array (Option Value)} {kV doc pm cdv ct : Value} {ar : Arguments} {bo : List Stmt} {sc : Scope} {o : Obj} {f : Addr} {dV : Value} {T : Addr} {oT : Obj} {its : List Value} {n : Nat}
  (l : K.lookup f = some o) (e : o = ⟨oc, od, .func (PySem.W.fnOf x q ar bo sc dV kV doc pm an cdv ct), osl⟩) (e1 : ar = defArgs st) (e2 : bo = defBody st) (e3 : sc = defScope st) (c : PySem.W.codeIn K cdv q = true) (k : PySem.W.keepIn K (.ref f) = true) (d : dV = .ref T) (t : K.lookup T = some oT) (y : oT.data = .seq its.toArray n) (r : Vals [v] its) : XG K x q st f v := by
  subst e1 e2 e3 e
  exact ⟨_, ⟨oc, od, dV, kV, doc, pm, an, cdv, ct, osl, rfl, l, c, .inr ⟨by simp, T, oT, its, n, d, t, y, r⟩, .inl rfl⟩, k⟩
theorem all_mk {P : Program} {w : World} {K : PySem.W.Frag} {h : Heap} {mg : Str → Option Value} {fa C CN CW CT CP CF CO fi f0 e0 p g : Addr} {rest : List Value} (X : K.In h) (G : h.Ns mainGlobals mg) (hfa : mg "law" = some (.ref fa))
    (eN : EG K "BadNumber" CN ["name"] "BadNumber.__init__" s_e1)
    (eW : EG K "BadWeb" CW ["x", "y"] "BadWeb.__init__" s_eW)
    (eT : EG K "BadThing" CT ["thing"] "BadThing.__init__" s_eT)
    (eP : EG K "BadPart" CP ["place"] "BadPart.__init__" s_eP)
    (aF : PySem.W.nsIn K mainGlobals "BadForm" = some (some (.ref CF)))
    (aO : PySem.W.nsIn K mainGlobals "OrdersError" = some (some (.ref CO)))
    (xF : PySem.W.subIn K (.ref CF) (.type "BaseException") = some true)
    (hF : PySem.W.hasDictIn K CF = true)
    (tF : PySem.W.typeIn K (.ref CF) = some (.type "type"))
    (snn : PySem.W.subIn K (.ref CN) (.ref CN) = some true)
    (swn : PySem.W.subIn K (.ref CW) (.ref CN) = some false)
    (sww : PySem.W.subIn K (.ref CW) (.ref CW) = some true)
    (snp : PySem.W.subIn K (.ref CN) (.ref CP) = some false)
    (snf : PySem.W.subIn K (.ref CN) (.ref CF) = some true)
    (swp : PySem.W.subIn K (.ref CW) (.ref CP) = some false)
    (swf : PySem.W.subIn K (.ref CW) (.ref CF) = some true)
    (stt : PySem.W.subIn K (.ref CT) (.ref CT) = some true)
    (spt : PySem.W.subIn K (.ref CP) (.ref CT) = some false)
    (spp : PySem.W.subIn K (.ref CP) (.ref CP) = some true)
    (aC : PySem.W.nsIn K mainGlobals "Web" = some (some (.ref C)))
    (pg : PySem.W.plainGet K C Str.empty = true)
    (hd : PySem.W.hasDictIn K C = true)
    (po : PySem.W.plainOver K C = true)
    (sa : PySem.W.findIn K (.ref C) "__setattr__" = some (some (.builtin "object.__setattr__")))
    (nm : PySem.W.findIn K (.ref C) "many" = some none)
    (nc : PySem.W.findIn K (.ref C) "clashes" = some none)
    (nk : PySem.W.findIn K (.ref C) "masks" = some none)
    (mk : PySem.W.makesIn K C = true)
    (kC : PySem.W.keepIn K (.ref C) = true)
    (ha : PySem.W.findIn K (.ref C) "__class__" = some (some (.builtin "object.__class__")))
    (hn : PySem.W.specialIn K (.builtin "object.__class__") "__get__" = some (some (.builtin "getset_descriptor.__get__")))
    (tk : PySem.W.takesIn K (.builtin "object.__class__") = some true)
    (hm : PySem.W.mroIn K C (.type "object") = some true)
    (tC : PySem.W.typeIn K (.ref C) = some (.type "type"))
    (t0 : PySem.W.subIn K (.type "NoneType") (.ref C) = some false)
    (t1 : PySem.W.subIn K (.type "bool") (.ref C) = some false)
    (t2 : PySem.W.subIn K (.type "int") (.ref C) = some false)
    (t3 : PySem.W.subIn K (.type "str") (.ref C) = some false)
    (t4 : PySem.W.subIn K (.type "list") (.ref C) = some false)
    (t5 : PySem.W.subIn K (.type "tuple") (.ref C) = some false)
    (q0 : PySem.W.notFirst K C (.type "int") = true)
    (q1 : PySem.W.notFirst K C (.type "list") = true)
    (i1 : PySem.W.findIn K (.ref C) "__init__" = some (some (.ref fi)))
    (i2 : PySem.W.isFn K (.ref fi) = true)
    (i3 : XG K "__init__" "Web.__init__" s_wi fi (.ref e0))
    (i4 : EmT K e0)
    (n1 : PySem.W.nsIn K mainGlobals "check_number" = some (some (.ref f0)))
    (n3 : XG K "check_number" "check_number" s_check_number f0 (.int 0))
    (p1 : PySem.W.findIn K (.ref C) "many_clashes" = some (some (.ref p)))
    (p2 : PySem.W.specialIn K (.ref p) "__get__" = some (some (.builtin "property.__get__")))
    (p3 : PySem.W.takesIn K (.ref p) = some true)
    (p4 : PySem.W.recIn K p "property" = some (.ref g :: rest))
    (p5 : PG K "many_clashes" "Web.many_clashes" (s_w 1) g)
    (mCL : MG K C "clash" "Web.clash" (s_w 2))
    (mNR : MG K C "near" "Web.near" (s_w 3))
    (mPT : MG K C "part" "Web.part" (s_w 4))
    (mWO : MG K C "without" "Web.without" (s_w 5))
    (mWT : MG K C "with_thing" "Web.with_thing" (s_w 6))
    (mST : MG K C "settled" "Web.settled" (s_w 7))
    (mEQ : MG K C "__eq__" "Web.__eq__" (s_w 11))
    (mLN : MG K C "__len__" "Web.__len__" (s_w 12))
    (mIN : MG K C "__contains__" "Web.__contains__" (s_w 13))
    (mGI : MG K C "__getitem__" "Web.__getitem__" (s_w 14))
    (mIR : MG K C "__iter__" "Web.__iter__" (s_w 15))
    (z0 : PySem.W.nsIn K mainGlobals "isinstance" = some none)
    (z1 : PySem.W.nsIn K mainGlobals "int" = some none)
    (z2 : PySem.W.nsIn K mainGlobals "bool" = some none)
    (z3 : PySem.W.nsIn K mainGlobals "list" = some none)
    (z4 : PySem.W.nsIn K mainGlobals "tuple" = some none)
    (z5 : PySem.W.nsIn K mainGlobals "len" = some none)
    (z6 : PySem.W.nsIn K mainGlobals "set" = some none)
    (z7 : PySem.W.nsIn K mainGlobals "min" = some none)
    (z8 : PySem.W.nsIn K mainGlobals "max" = some none)
    (z9 : PySem.W.nsIn K mainGlobals "sorted" = some none)
    (z10 : PySem.W.nsIn K mainGlobals "range" = some none)
    (z11 : PySem.W.nsIn K mainGlobals "enumerate" = some none)
    (z12 : PySem.W.nsIn K mainGlobals "repr" = some none)
    (z13 : PySem.W.nsIn K mainGlobals "iter" = some none)
    (dII : DG K "is_int" s_is_int)
    (dIP : DG K "is_pair" s_is_pair)
    (dTH : DG K "is_thing" s_is_thing)
    (dCT : DG K "check_thing" s_check_thing)
    (dC2 : DG K "check_two_things" s_check_two)
    (dFW : DG K "first_wrong" s_fw)
    (dCS : DG K "check_things" s_cs)
    (dTI : DG K "things_in" s_ti)
    (dNM : DG K "near_masks" s_nm)
    (dCC : DG K "checked_clashes" s_cc)
    (dDR : DG K "_law_draws" s_dr)
    (dTK : DG K "_law_take" s_tk)
    (dLI : DG K "_law_int" s_li)
    (dCO : DG K "_law_contrary" s_co)
    (dNE : DG K "_law_near" s_ne)
    (dPA : DG K "_law_part" s_pa)
    (dSE : DG K "_law_set" s_se)
    (dRI : DG K "_law_row_is" s_ri)
    (dRR : DG K "_law_rows_are" s_rr)
    (dWI : DG K "_law_web_is" s_wis)
    (dDU : DG K "_law_is_due" s_du)
    (dSY : DG K "_law_says" s_sy)
    (dBW : DG K "_law_backward" s_bw)
    (dSH : DG K "_law_shaken" s_sh)
    (dWD : DG K "_law_web_drawn" s_wd)
    (dTW : DG K "_law_try_web" s_tw)
    (dTF : DG K "_law_try_form" s_tf)
    (dTT : DG K "_law_try_thing" s_tt)
    (dAS : DG K "_law_asked" s_as)
    (dLE : DG K "_law_equal" s_eq)
    (dCH : DG K "_law_changed" s_ch)
    (dRF : DG K "_law_refused" s_rf)
    (dRT : DG K "_law_refused_things" s_rt)
    (dLW : DG K "law" s_lw) :
    ∃ fd : FuncData, (∀ (s : Shared) (v : Value), BindsTo s fd ⟨[v], []⟩ [("_law_script", v)]) ∧ ∀ base : Heap, K.In base → base.Ns mainGlobals mg → FnOk P w K mg base (L2.CX P w) 10 fa fd ["_law_script"] (spLw K) := by
  have B : Blt2 mg := ⟨⟨PySem.W.mg_none_of X G z0, PySem.W.mg_none_of X G z1, PySem.W.mg_none_of X G z2, PySem.W.mg_none_of X G z3, PySem.W.mg_none_of X G z4, PySem.W.mg_none_of X G z5⟩, PySem.W.mg_none_of X G z6, PySem.W.mg_none_of X G z7, PySem.W.mg_none_of X G z8, PySem.W.mg_none_of X G z9, PySem.W.mg_none_of X G z10, PySem.W.mg_none_of X G z11, PySem.W.mg_none_of X G z12, PySem.W.mg_none_of X G z13⟩
  have N : ErrN mg CN CW CT CP CF CO := ⟨PySem.W.mg_of X G eN.g, PySem.W.mg_of X G eW.g, PySem.W.mg_of X G eT.g, PySem.W.mg_of X G eP.g, PySem.W.mg_of X G aF, PySem.W.mg_of X G aO⟩
  have L : ErrL K CN CW CT CP CF CO := ⟨eN.T.exm snn, eN.T.exm swn, eW.T.exm sww, eP.T.exm snp, PySem.W.exm_ref xF hF tF snf, eP.T.exm swp, PySem.W.exm_ref xF hF tF swf, eT.T.exm stt, eT.T.exm spt, eP.T.exm spp,
    eN.T.xf, eW.T.xf, eT.T.xf, eP.T.xf, eN.T.no _ (by simp), eW.T.no _ (by simp), eW.T.no _ (by simp), eT.T.no _ (by simp), eP.T.no _ (by simp)⟩
  have c : Cls K C := ⟨pg, hd, po, sa⟩
  have TW : WebC K C := ⟨c, nm, nc, nk⟩
  have T : WebI K C := ⟨TW, ha, hn, tk, hm, kit_self, fun T hT => kit_no hd tC (by
    rcases List.mem_cons.mp hT with rfl | hT; exact t0
    rcases List.mem_cons.mp hT with rfl | hT; exact t1
    rcases List.mem_cons.mp hT with rfl | hT; exact t2
    rcases List.mem_cons.mp hT with rfl | hT; exact t3
    rcases List.mem_cons.mp hT with rfl | hT; exact t4
    rcases List.mem_cons.mp hT with rfl | hT; exact t5
    cases hT), fun T hT => by
    rcases List.mem_cons.mp hT with rfl | hT; exact q0
    rcases List.mem_cons.mp hT with rfl | hT; exact q1
    cases hT⟩
  have gW : mg "Web" = some (.ref C) := PySem.W.mg_of X G aC
  obtain ⟨fl, fdl, el, Fl⟩ := dLW.ex
  have el' := hfa.symm.trans (PySem.W.mg_of X G el)
  cases el'
  refine ⟨fdl, fun s v => ?_, fun base _ _ => ?_⟩
  · obtain ⟨oc, od, kV, doc, pm, an, cdv, ct, osl, rfl, _, _⟩ := Fl.ex
    exact .of_eq rfl
  have eNR : Er P w K mg base "BadNumber" CN ["name"] ["self", "name"] (spE1 CN "name") := eN.er X G (fun f fd F => ok_e1 F eN.T) (fun _ _ _ _ _ _ us hl => match us, hl with | [_, _], _ => rfl)
  have eTR : Er P w K mg base "BadThing" CT ["thing"] ["self", "thing"] (spE1 CT "thing") := eT.er X G (fun f fd F => ok_eT F eT.T) (fun _ _ _ _ _ _ us hl => match us, hl with | [_, _], _ => rfl)
  have ePR : Er P w K mg base "BadPart" CP ["place"] ["self", "place"] (spE1 CP "place") := eP.er X G (fun f fd F => ok_eP F eP.T) (fun _ _ _ _ _ _ us hl => match us, hl with | [_, _], _ => rfl)
  have eWR : Er P w K mg base "BadWeb" CW ["x", "y"] ["self", "x", "y"] (spE2 CW "x" "y") := eW.er X G (fun f fd F => ok_eW F eW.T) (fun _ _ _ _ _ _ us hl => match us, hl with | [_, _, _], _ => rfl)
  have II : Df P w K mg base "is_int" 1 ["value"] (spInt) := dII.df X G (fun f fd F => FnOk.up (ok_int F B.toBlt)) (fun _ _ _ _ _ _ us hl => match us, hl with | [_], _ => rfl)
  have IP : Df P w K mg base "is_pair" 1 ["value"] (spPair) := dIP.df X G (fun f fd F => FnOk.up (ok_pair F B.toBlt)) (fun _ _ _ _ _ _ us hl => match us, hl with | [_], _ => rfl)
  have TH : Df P w K mg base "is_thing" 2 ["many", "value"] (spTh) := dTH.df X G (fun f fd F => ok_th F II) (fun _ _ _ _ _ _ us hl => match us, hl with | [_, _], _ => rfl)
  have CHt : Df P w K mg base "check_thing" 3 ["many", "thing"] (spCt CT) := dCT.df X G (fun f fd F => ok_ct F TH eTR) (fun _ _ _ _ _ _ us hl => match us, hl with | [_, _], _ => rfl)
  have C2 : Df P w K mg base "check_two_things" 4 ["many", "x", "y"] (spC2 CT) := dC2.df X G (fun f fd F => ok_c2 F CHt eTR) (fun _ _ _ _ _ _ us hl => match us, hl with | [_, _, _], _ => rfl)
  have FW : Df P w K mg base "first_wrong" 3 ["many", "things"] (spFw K) := dFW.df X G (fun f fd F => ok_fw F B TH) (fun _ _ _ _ _ _ us hl => match us, hl with | [_, _], _ => rfl)
  have CS : Df P w K mg base "check_things" 4 ["many", "things"] (spCs K CP) := dCS.df X G (fun f fd F => ok_cs F B FW ePR) (fun _ _ _ _ _ _ us hl => match us, hl with | [_, _], _ => rfl)
  have TI : Df P w K mg base "things_in" 1 ["mask"] (spTi) := dTI.df X G (fun f fd F => ok_ti F B) (fun _ _ _ _ _ _ us hl => match us, hl with | [_], _ => rfl)
  have NM : Df P w K mg base "near_masks" 1 ["many", "clashes"] (spNm) := dNM.df X G (fun f fd F => ok_nm F B) (fun _ _ _ _ _ _ us hl => match us, hl with | [_, _], _ => rfl)
  have CC : Df P w K mg base "checked_clashes" 3 ["many", "clashes"] (spCC K CW) := dCC.df X G (fun f fd F => ok_cc F B IP TH eWR) (fun _ _ _ _ _ _ us hl => match us, hl with | [_, _], _ => rfl)
  have CNum : DfD P w K mg base "check_number" 3 ["value", "name", "least"] [.int 0] (spCn CN) := by
    obtain ⟨fd, F⟩ := n3.ex
    obtain ⟨ds, v, b⟩ := F.binds1 (ps := ["value", "name", "least"]) 2 0 (by simp) rfl fun _ _ _ _ _ _ _ us its l1 l2 => match us, its, l1, l2 with | [_, _], [_], _, _ => ⟨_, rfl, rfl⟩
    exact ⟨f0, fd, ds, PySem.W.mg_of X G n1, F.kp, ok_cn F II eNR, v, b⟩
  have WK : WebK P w K mg base C CN CW := by
    obtain ⟨fd, F⟩ := i3.ex
    obtain ⟨ds, v, b⟩ := F.binds1 (ps := ["self", "many", "clashes"]) 2 0 (by simp) rfl fun _ _ _ _ _ _ _ us its l1 l2 => match us, its, l1, l2 with | [_, _], [_], _, _ => ⟨_, rfl, rfl⟩
    obtain ⟨ds2, v2, b2⟩ := F.binds1 (ps := ["self", "many", "clashes"]) 3 1 (by simp) rfl fun _ _ _ _ _ _ _ us its l1 l2 => match us, its, l1, l2 with | [_, _, _], [_], _, _ => ⟨_, rfl, rfl⟩
    have w1 : Vals [V.ref e0] ds := v
    have w2 : Vals [] ds2 := v2
    cases w2
    cases w1 with
    | cons r1 r2 =>
      cases r2
      cases r1
      exact ⟨gW, fi, fd, ⟨mk, i1, i2, kC⟩, ok_wi F TW CNum CC NM, b2, e0, i4.sq, b⟩
  have CL : Mt P w K mg base C "clash" 4 ["self", "x", "y"] (spCl C CT) := mCL.mt c (fun f fd F => ok_cl F TW CHt) (fun _ _ _ _ _ _ us hl => match us, hl with | [_, _, _], _ => rfl)
  have NR : Mt P w K mg base C "near" 4 ["self", "x"] (spNr C CT) := mNR.mt c (fun f fd F => ok_nr F TW CHt TI) (fun _ _ _ _ _ _ us hl => match us, hl with | [_, _], _ => rfl)
  have PT : Mt P w K mg base C "part" 6 ["self", "things"] (spPt C) := mPT.mt c (fun f fd F => ok_pt F B TW WK CS) (fun _ _ _ _ _ _ us hl => match us, hl with | [_, _], _ => rfl)
  have WO : Mt P w K mg base C "without" 7 ["self", "x"] (spWo C CT) := mWO.mt c (fun f fd F => ok_wo F B TW CHt PT) (fun _ _ _ _ _ _ us hl => match us, hl with | [_, _], _ => rfl)
  have WT : Mt P w K mg base C "with_thing" 6 ["self", "near"] (spWt K C CP) := mWT.mt c (fun f fd F => ok_wt F B TW WK CS) (fun _ _ _ _ _ _ us hl => match us, hl with | [_, _], _ => rfl)
  have ST : Mt P w K mg base C "settled" 6 ["self", "x", "y", "clashing"] (spSt C CT) := mST.mt c (fun f fd F => ok_st F B TW WK C2) (fun _ _ _ _ _ _ us hl => match us, hl with | [_, _, _, _], _ => rfl)
  have EQ : Mt P w K mg base C "__eq__" 1 ["self", "other"] (spEqW C) := mEQ.mt c (fun f fd F => ok_eqw F B T gW) (fun _ _ _ _ _ _ us hl => match us, hl with | [_, _], _ => rfl)
  have LN : Mt P w K mg base C "__len__" 1 ["self"] (spLn C) := mLN.mt c (fun f fd F => ok_ln F B TW) (fun _ _ _ _ _ _ us hl => match us, hl with | [_], _ => rfl)
  have IN : Mt P w K mg base C "__contains__" 5 ["self", "x"] (spIn C) := mIN.mt c (fun f fd F => ok_in F B TW TH CL nm) (fun _ _ _ _ _ _ us hl => match us, hl with | [_, _], _ => rfl)
  have GI : Mt P w K mg base C "__getitem__" 5 ["self", "at"] (spNr C CT) := mGI.mt c (fun f fd F => ok_gi F NR) (fun _ _ _ _ _ _ us hl => match us, hl with | [_, _], _ => rfl)
  have IR : Mt P w K mg base C "__iter__" 1 ["self"] (spIr C) := mIR.mt c (fun f fd F => ok_ir F B TW) (fun _ _ _ _ _ _ us hl => match us, hl with | [_], _ => rfl)
  have MC : PrW P w K mg base C := by
    obtain ⟨fd, F⟩ := p5.ex
    exact ⟨p, g, fd, c, ⟨p1, p2, p3, rest, p4⟩, ok_mc F B TW, F.binds (ps := ["self"]) (fun _ _ _ _ _ _ us hl => match us, hl with | [_], _ => rfl)⟩
  have M : WebM P w K mg base C CN CW CT CP := ⟨T, WK, NR, CL, WO, ST, GI, WT, LN, IR, IN, EQ, MC⟩
  have DR : Df P w K mg base "_law_draws" 1 ["_law_script"] (spDr K) := dDR.df X G (fun f fd F => ok_dr F B) (fun _ _ _ _ _ _ us hl => match us, hl with | [_], _ => rfl)
  have TK : Df P w K mg base "_law_take" 1 ["_law_draws_here", "_law_many"] (spTk) := dTK.df X G (fun f fd F => ok_tk F B) (fun _ _ _ _ _ _ us hl => match us, hl with | [_, _], _ => rfl)
  have LI : Df P w K mg base "_law_int" 1 ["_law_value"] (spInt) := dLI.df X G (fun f fd F => ok_li F B) (fun _ _ _ _ _ _ us hl => match us, hl with | [_], _ => rfl)
  have CO' : Df P w K mg base "_law_contrary" 1 ["_law_many", "_law_pairs"] (spCo) := dCO.df X G (fun f fd F => ok_co F B) (fun _ _ _ _ _ _ us hl => match us, hl with | [_, _], _ => rfl)
  have NE : Df P w K mg base "_law_near" 2 ["_law_many", "_law_pairs", "_law_x"] (spNe) := dNE.df X G (fun f fd F => ok_ne F B) (fun _ _ _ _ _ _ us hl => match us, hl with | [_, _, _], _ => rfl)
  have PA : Df P w K mg base "_law_part" 1 ["_law_pairs", "_law_things"] (spPa) := dPA.df X G (fun f fd F => ok_pa F B) (fun _ _ _ _ _ _ us hl => match us, hl with | [_, _], _ => rfl)
  have SE : Df P w K mg base "_law_set" 2 ["_law_draws_here", "_law_many"] (spSe) := dSE.df X G (fun f fd F => ok_se F B TK) (fun _ _ _ _ _ _ us hl => match us, hl with | [_, _], _ => rfl)
  have RI : Df P w K mg base "_law_row_is" 2 ["_law_told", "_law_due"] (spRi) := dRI.df X G (fun f fd F => ok_ri F B LI) (fun _ _ _ _ _ _ us hl => match us, hl with | [_, _], _ => rfl)
  have RR : Df P w K mg base "_law_rows_are" 3 ["_law_told", "_law_due"] (spRr) := dRR.df X G (fun f fd F => ok_rr F B RI) (fun _ _ _ _ _ _ us hl => match us, hl with | [_, _], _ => rfl)
  have WI : Df P w K mg base "_law_web_is" 4 ["_law_web", "_law_many", "_law_pairs"] (spWis C) := dWI.df X G (fun f fd F => ok_wis F B T gW LI RR LN) (fun _ _ _ _ _ _ us hl => match us, hl with | [_, _, _], _ => rfl)
  have DU : Df P w K mg base "_law_is_due" 2 ["_law_told", "_law_due"] (spDu) := dDU.df X G (fun f fd F => ok_du F LI) (fun _ _ _ _ _ _ us hl => match us, hl with | [_, _], _ => rfl)
  have SY : Df P w K mg base "_law_says" 1 ["_law_told", "_law_due"] (spSy) := dSY.df X G (fun f fd F => ok_sy F B) (fun _ _ _ _ _ _ us hl => match us, hl with | [_, _], _ => rfl)
  have BW : Df P w K mg base "_law_backward" 1 ["_law_things"] (spBw) := dBW.df X G (fun f fd F => ok_bw F B) (fun _ _ _ _ _ _ us hl => match us, hl with | [_], _ => rfl)
  have SH : Df P w K mg base "_law_shaken" 2 ["_law_draws_here", "_law_pairs"] (spSh) := dSH.df X G (fun f fd F => ok_sh F B TK) (fun _ _ _ _ _ _ us hl => match us, hl with | [_, _], _ => rfl)
  have WD : Df P w K mg base "_law_web_drawn" 2 ["_law_draws_here", "_law_most"] (spWd) := dWD.df X G (fun f fd F => ok_wd F B TK) (fun _ _ _ _ _ _ us hl => match us, hl with | [_, _], _ => rfl)
  have TW' : Df P w K mg base "_law_try_web" 6 ["_law_many", "_law_clashes"] (spTw K) := dTW.df X G (fun f fd F => ok_tw F B WK L N) (fun _ _ _ _ _ _ us hl => match us, hl with | [_, _], _ => rfl)
  have TF : Df P w K mg base "_law_try_form" 6 ["_law_many", "_law_clashes"] (spTf K) := dTF.df X G (fun f fd F => ok_tf F B WK L N) (fun _ _ _ _ _ _ us hl => match us, hl with | [_, _], _ => rfl)
  have TT : Df P w K mg base "_law_try_thing" 8 ["_law_web", "_law_deed", "_law_x", "_law_y"] (spTt K C) := dTT.df X G (fun f fd F => ok_tt F B L N NR CL WO ST GI WT) (fun _ _ _ _ _ _ us hl => match us, hl with | [_, _, _, _], _ => rfl)
  have AS : Df P w K mg base "_law_asked" 7 ["_law_web", "_law_many", "_law_pairs"] (spAs C) := dAS.df X G (fun f fd F => ok_as F B M WI RR RI DU SY NE) (fun _ _ _ _ _ _ us hl => match us, hl with | [_, _, _], _ => rfl)
  have LE : Df P w K mg base "_law_equal" 6 ["_law_web", "_law_many", "_law_pairs"] (spLe C) := dLE.df X G (fun f fd F => ok_eq F B M SY BW CO') (fun _ _ _ _ _ _ us hl => match us, hl with | [_, _, _], _ => rfl)
  have CH : Df P w K mg base "_law_changed" 8 ["_law_draws_here", "_law_web", "_law_many", "_law_pairs"] (spCh C) := dCH.df X G (fun f fd F => ok_ch F B M SE BW WI RI TK PA) (fun _ _ _ _ _ _ us hl => match us, hl with | [_, _, _, _], _ => rfl)
  have RF : Df P w K mg base "_law_refused" 7 ["_law_draws_here", "_law_many", "_law_pairs"] (spRf) := dRF.df X G (fun f fd F => ok_rf F B TK TW' TF) (fun _ _ _ _ _ _ us hl => match us, hl with | [_, _, _], _ => rfl)
  have RT : Df P w K mg base "_law_refused_things" 9 ["_law_web", "_law_many"] (spRt C) := dRT.df X G (fun f fd F => ok_rt F B TT) (fun _ _ _ _ _ _ us hl => match us, hl with | [_, _], _ => rfl)
  exact ok_lw Fl B M DR WD SH AS LE CH RF RT TT
theorem walk {l : PySem.W.OpenLaw} {q : Program} {loose : List Str} {XP : (Str → Option Value) → Heap → Prop} {YP : World → Heap → Prop} {d : DefRec} {K : Params → PySem.W.Frag} (hn : l.most = some 63) (hdf : d.params.defaults = [])
    (hY : ∀ (w : World) (h : Heap), YP w h → (K w.params).In h)
    (F : ∀ (w : World) (mg : Str → Option Value) (fa : Addr) (h : Heap), (K w.params).In h → h.Ns mainGlobals mg → mg d.name = some (.ref fa) →
      ∃ fd : FuncData, (∀ (s : Shared) (u : Value), BindsTo s fd ⟨[u], []⟩ [("_law_script", u)]) ∧ ∀ base : Heap, (K w.params).In base → base.Ns mainGlobals mg → FnOk l.prog w (K w.params) mg base (L2.CX l.prog w) 10 fa fd ["_law_script"] (spLw (K w.params))) :
    PySem.W.WalkO q loose XP YP l.row.toRowW d [] (fun f vs => PySem.call f vs) :=
  L2.walk_of (n := 63) (k := 10) (x := "_law_script") (CX := fun w => L2.CX l.prog w) (sp := fun w => spLw (K w.params)) hn (by decide) hdf ⟨rfl, by decide, by decide⟩ hY F (fun _ _ a ns _ _ hS => ⟨a, ns, rfl, hS, fun _ => rfl⟩)
    fun _ _ _ _ _ z => by
      obtain ⟨_, _, _, _, _, _, _, _, _, _, _, _, z⟩ := z
      exact z
end K0
set_option Elab.async false
set_option maxRecDepth 100000
open PySem PySem.W PyProof.Rows
set_option maxRecDepth 100000 in
set_option maxHeartbeats 0 in
theorem PySem.Challenge.cw_perfectorders_k00_webs_and_what_they_ref_holds : PySem.Challenge.rw_perfectorders_k00_webs_and_what_they_ref.Holds := by
  w_on; o_law; k_head; (case hw => w_witness2)
  k_fill
  refine K0.walk (l := PySem.Challenge.rw_perfectorders_k00_webs_and_what_they_ref) rfl rfl (fun w h Y => PySem.W.kIn_of Y) ?F
  case F =>
    intro w mg fa h KX G hmg
    refine' K0.all_mk KX G hmg ?eN ?eW ?eT ?eP ?aF ?aO ?xF ?hF ?tF ?snn ?swn ?sww ?snp ?snf ?swp ?swf ?stt ?spt ?spp ?aC ?pg ?hd ?po ?sa ?nm ?nc ?nk ?mk ?kC ?ha ?hn ?tk ?hm ?tC ?t0 ?t1 ?t2 ?t3 ?t4 ?t5 ?q0 ?q1 ?i1 ?i2 ?i3 ?i4 ?n1 ?n3 ?p1 ?p2 ?p3 ?p4 ?p5 ?mCL ?mNR ?mPT ?mWO ?mWT ?mST ?mEQ ?mLN ?mIN ?mGI ?mIR ?z0 ?z1 ?z2 ?z3 ?z4 ?z5 ?z6 ?z7 ?z8 ?z9 ?z10 ?z11 ?z12 ?z13 ?dII ?dIP ?dTH ?dCT ?dC2 ?dFW ?dCS ?dTI ?dNM ?dCC ?dDR ?dTK ?dLI ?dCO ?dNE ?dPA ?dSE ?dRI ?dRR ?dWI ?dDU ?dSY ?dBW ?dSH ?dWD ?dTW ?dTF ?dTT ?dAS ?dLE ?dCH ?dRF ?dRT ?dLW
    (case eN => (refine' K0.eg_mk ?eN_g ?eN_xl ?eN_xe ?eN_xb ?eN_sa ?eN_ga ?eN_gg ?eN_ex ?eN_ty ?eN_kc ?eN_hd ?eN_no ?eN_i ?eN_t ?eN_l ?eN_e ?eN_e1 ?eN_e2 ?eN_e3 ?eN_c ?eN_k; (case eN_g => k_is); (case eN_xl => k_is); (case eN_xe => exact rfl); (case eN_xb => decide +kernel); (case eN_sa => k_is); (case eN_ga => k_is); (case eN_gg => k_is); (case eN_ex => k_is); (case eN_ty => k_is); (case eN_kc => k_is); (case eN_hd => k_is); (case eN_no => (intro f hf; (repeat (first | (cases hf; done) | (rcases List.mem_cons.mp hf with rfl | hf; k_is))))); (case eN_i => k_is); (case eN_t => k_is); (case eN_l => k_is); (case eN_e => exact rfl); (case eN_e1 => exact rfl); (case eN_e2 => exact rfl); (case eN_e3 => exact rfl); (case eN_c => k_is); (case eN_k => k_is)))
    (case eW => (refine' K0.eg_mk ?eW_g ?eW_xl ?eW_xe ?eW_xb ?eW_sa ?eW_ga ?eW_gg ?eW_ex ?eW_ty ?eW_kc ?eW_hd ?eW_no ?eW_i ?eW_t ?eW_l ?eW_e ?eW_e1 ?eW_e2 ?eW_e3 ?eW_c ?eW_k; (case eW_g => k_is); (case eW_xl => k_is); (case eW_xe => exact rfl); (case eW_xb => decide +kernel); (case eW_sa => k_is); (case eW_ga => k_is); (case eW_gg => k_is); (case eW_ex => k_is); (case eW_ty => k_is); (case eW_kc => k_is); (case eW_hd => k_is); (case eW_no => (intro f hf; (repeat (first | (cases hf; done) | (rcases List.mem_cons.mp hf with rfl | hf; k_is))))); (case eW_i => k_is); (case eW_t => k_is); (case eW_l => k_is); (case eW_e => exact rfl); (case eW_e1 => exact rfl); (case eW_e2 => exact rfl); (case eW_e3 => exact rfl); (case eW_c => k_is); (case eW_k => k_is)))
    (case eT => (refine' K0.eg_mk ?eT_g ?eT_xl ?eT_xe ?eT_xb ?eT_sa ?eT_ga ?eT_gg ?eT_ex ?eT_ty ?eT_kc ?eT_hd ?eT_no ?eT_i ?eT_t ?eT_l ?eT_e ?eT_e1 ?eT_e2 ?eT_e3 ?eT_c ?eT_k; (case eT_g => k_is); (case eT_xl => k_is); (case eT_xe => exact rfl); (case eT_xb => decide +kernel); (case eT_sa => k_is); (case eT_ga => k_is); (case eT_gg => k_is); (case eT_ex => k_is); (case eT_ty => k_is); (case eT_kc => k_is); (case eT_hd => k_is); (case eT_no => (intro f hf; (repeat (first | (cases hf; done) | (rcases List.mem_cons.mp hf with rfl | hf; k_is))))); (case eT_i => k_is); (case eT_t => k_is); (case eT_l => k_is); (case eT_e => exact rfl); (case eT_e1 => exact rfl); (case eT_e2 => exact rfl); (case eT_e3 => exact rfl); (case eT_c => k_is); (case eT_k => k_is)))
    (case eP => (refine' K0.eg_mk ?eP_g ?eP_xl ?eP_xe ?eP_xb ?eP_sa ?eP_ga ?eP_gg ?eP_ex ?eP_ty ?eP_kc ?eP_hd ?eP_no ?eP_i ?eP_t ?eP_l ?eP_e ?eP_e1 ?eP_e2 ?eP_e3 ?eP_c ?eP_k; (case eP_g => k_is); (case eP_xl => k_is); (case eP_xe => exact rfl); (case eP_xb => decide +kernel); (case eP_sa => k_is); (case eP_ga => k_is); (case eP_gg => k_is); (case eP_ex => k_is); (case eP_ty => k_is); (case eP_kc => k_is); (case eP_hd => k_is); (case eP_no => (intro f hf; (repeat (first | (cases hf; done) | (rcases List.mem_cons.mp hf with rfl | hf; k_is))))); (case eP_i => k_is); (case eP_t => k_is); (case eP_l => k_is); (case eP_e => exact rfl); (case eP_e1 => exact rfl); (case eP_e2 => exact rfl); (case eP_e3 => exact rfl); (case eP_c => k_is); (case eP_k => k_is)))
    (case aF => k_is)
    (case aO => k_is)
    (case xF => k_is)
    (case hF => k_is)
    (case tF => k_is)
    (case snn => first | k_is | rfl)
    (case swn => first | k_is | rfl)
    (case sww => first | k_is | rfl)
    (case snp => first | k_is | rfl)
    (case snf => first | k_is | rfl)
    (case swp => first | k_is | rfl)
    (case swf => first | k_is | rfl)
    (case stt => first | k_is | rfl)
    (case spt => first | k_is | rfl)
    (case spp => first | k_is | rfl)
    (case aC => k_is)
    (case pg => k_is)
    (case hd => k_is)
    (case po => k_is)
    (case sa => k_is)
    (case nm => k_is)
    (case nc => k_is)
    (case nk => k_is)
    (case mk => k_is)
    (case kC => k_is)
    (case ha => k_is)
    (case hn => k_is)
    (case tk => k_is)
    (case hm => k_is)
    (case tC => k_is)
    (case t0 => k_is)
    (case t1 => k_is)
    (case t2 => k_is)
    (case t3 => k_is)
    (case t4 => k_is)
    (case t5 => k_is)
    (case q0 => k_is)
    (case q1 => k_is)
    (case i1 => k_is)
    (case i2 => k_is)
    (case i3 => (refine' K0.xg_mk ?i3_l ?i3_e ?i3_e1 ?i3_e2 ?i3_e3 ?i3_c ?i3_k ?i3_d ?i3_t ?i3_y ?i3_r; (case i3_l => k_is); (case i3_e => exact rfl); (case i3_e1 => exact rfl); (case i3_e2 => exact rfl); (case i3_e3 => exact rfl); (case i3_c => k_is); (case i3_k => k_is); (case i3_d => exact rfl); (case i3_t => k_is); (case i3_y => exact rfl); (case i3_r => first | exact .cons rfl .nil | exact .cons ⟨_, rfl⟩ .nil)))
    (case i4 => (refine' K0.em_mk ?i4_l ?i4_x ?i4_y ?i4_z; (case i4_l => k_is); (case i4_x => exact rfl); (case i4_y => exact rfl); (case i4_z => exact rfl)))
    (case n1 => k_is)
    (case n3 => (refine' K0.xg_mk ?n3_l ?n3_e ?n3_e1 ?n3_e2 ?n3_e3 ?n3_c ?n3_k ?n3_d ?n3_t ?n3_y ?n3_r; (case n3_l => k_is); (case n3_e => exact rfl); (case n3_e1 => exact rfl); (case n3_e2 => exact rfl); (case n3_e3 => exact rfl); (case n3_c => k_is); (case n3_k => k_is); (case n3_d => exact rfl); (case n3_t => k_is); (case n3_y => exact rfl); (case n3_r => first | exact .cons rfl .nil | exact .cons ⟨_, rfl⟩ .nil)))
    (case p1 => k_is)
    (case p2 => k_is)
    (case p3 => k_is)
    (case p4 => k_is)
    (case p5 => (refine' K0.pg_mk ?p5_l ?p5_e ?p5_e1 ?p5_e2 ?p5_e3 ?p5_c ?p5_k; (case p5_l => k_is); (case p5_e => exact rfl); (case p5_e1 => exact rfl); (case p5_e2 => exact rfl); (case p5_e3 => exact rfl); (case p5_c => k_is); (case p5_k => k_is)))
    (case mCL => (refine' K0.mg_mk ?mCL_a ?mCL_i ?mCL_n ?mCL_l ?mCL_e ?mCL_e1 ?mCL_e2 ?mCL_e3 ?mCL_c ?mCL_k; (case mCL_a => k_is); (case mCL_i => k_is); (case mCL_n => k_is); (case mCL_l => k_is); (case mCL_e => exact rfl); (case mCL_e1 => exact rfl); (case mCL_e2 => exact rfl); (case mCL_e3 => exact rfl); (case mCL_c => k_is); (case mCL_k => k_is)))
    (case mNR => (refine' K0.mg_mk ?mNR_a ?mNR_i ?mNR_n ?mNR_l ?mNR_e ?mNR_e1 ?mNR_e2 ?mNR_e3 ?mNR_c ?mNR_k; (case mNR_a => k_is); (case mNR_i => k_is); (case mNR_n => k_is); (case mNR_l => k_is); (case mNR_e => exact rfl); (case mNR_e1 => exact rfl); (case mNR_e2 => exact rfl); (case mNR_e3 => exact rfl); (case mNR_c => k_is); (case mNR_k => k_is)))
    (case mPT => (refine' K0.mg_mk ?mPT_a ?mPT_i ?mPT_n ?mPT_l ?mPT_e ?mPT_e1 ?mPT_e2 ?mPT_e3 ?mPT_c ?mPT_k; (case mPT_a => k_is); (case mPT_i => k_is); (case mPT_n => k_is); (case mPT_l => k_is); (case mPT_e => exact rfl); (case mPT_e1 => exact rfl); (case mPT_e2 => exact rfl); (case mPT_e3 => exact rfl); (case mPT_c => k_is); (case mPT_k => k_is)))
    (case mWO => (refine' K0.mg_mk ?mWO_a ?mWO_i ?mWO_n ?mWO_l ?mWO_e ?mWO_e1 ?mWO_e2 ?mWO_e3 ?mWO_c ?mWO_k; (case mWO_a => k_is); (case mWO_i => k_is); (case mWO_n => k_is); (case mWO_l => k_is); (case mWO_e => exact rfl); (case mWO_e1 => exact rfl); (case mWO_e2 => exact rfl); (case mWO_e3 => exact rfl); (case mWO_c => k_is); (case mWO_k => k_is)))
    (case mWT => (refine' K0.mg_mk ?mWT_a ?mWT_i ?mWT_n ?mWT_l ?mWT_e ?mWT_e1 ?mWT_e2 ?mWT_e3 ?mWT_c ?mWT_k; (case mWT_a => k_is); (case mWT_i => k_is); (case mWT_n => k_is); (case mWT_l => k_is); (case mWT_e => exact rfl); (case mWT_e1 => exact rfl); (case mWT_e2 => exact rfl); (case mWT_e3 => exact rfl); (case mWT_c => k_is); (case mWT_k => k_is)))
    (case mST => (refine' K0.mg_mk ?mST_a ?mST_i ?mST_n ?mST_l ?mST_e ?mST_e1 ?mST_e2 ?mST_e3 ?mST_c ?mST_k; (case mST_a => k_is); (case mST_i => k_is); (case mST_n => k_is); (case mST_l => k_is); (case mST_e => exact rfl); (case mST_e1 => exact rfl); (case mST_e2 => exact rfl); (case mST_e3 => exact rfl); (case mST_c => k_is); (case mST_k => k_is)))
    (case mEQ => (refine' K0.mg_mk ?mEQ_a ?mEQ_i ?mEQ_n ?mEQ_l ?mEQ_e ?mEQ_e1 ?mEQ_e2 ?mEQ_e3 ?mEQ_c ?mEQ_k; (case mEQ_a => k_is); (case mEQ_i => k_is); (case mEQ_n => k_is); (case mEQ_l => k_is); (case mEQ_e => exact rfl); (case mEQ_e1 => exact rfl); (case mEQ_e2 => exact rfl); (case mEQ_e3 => exact rfl); (case mEQ_c => k_is); (case mEQ_k => k_is)))
    (case mLN => (refine' K0.mg_mk ?mLN_a ?mLN_i ?mLN_n ?mLN_l ?mLN_e ?mLN_e1 ?mLN_e2 ?mLN_e3 ?mLN_c ?mLN_k; (case mLN_a => k_is); (case mLN_i => k_is); (case mLN_n => k_is); (case mLN_l => k_is); (case mLN_e => exact rfl); (case mLN_e1 => exact rfl); (case mLN_e2 => exact rfl); (case mLN_e3 => exact rfl); (case mLN_c => k_is); (case mLN_k => k_is)))
    (case mIN => (refine' K0.mg_mk ?mIN_a ?mIN_i ?mIN_n ?mIN_l ?mIN_e ?mIN_e1 ?mIN_e2 ?mIN_e3 ?mIN_c ?mIN_k; (case mIN_a => k_is); (case mIN_i => k_is); (case mIN_n => k_is); (case mIN_l => k_is); (case mIN_e => exact rfl); (case mIN_e1 => exact rfl); (case mIN_e2 => exact rfl); (case mIN_e3 => exact rfl); (case mIN_c => k_is); (case mIN_k => k_is)))
    (case mGI => (refine' K0.mg_mk ?mGI_a ?mGI_i ?mGI_n ?mGI_l ?mGI_e ?mGI_e1 ?mGI_e2 ?mGI_e3 ?mGI_c ?mGI_k; (case mGI_a => k_is); (case mGI_i => k_is); (case mGI_n => k_is); (case mGI_l => k_is); (case mGI_e => exact rfl); (case mGI_e1 => exact rfl); (case mGI_e2 => exact rfl); (case mGI_e3 => exact rfl); (case mGI_c => k_is); (case mGI_k => k_is)))
    (case mIR => (refine' K0.mg_mk ?mIR_a ?mIR_i ?mIR_n ?mIR_l ?mIR_e ?mIR_e1 ?mIR_e2 ?mIR_e3 ?mIR_c ?mIR_k; (case mIR_a => k_is); (case mIR_i => k_is); (case mIR_n => k_is); (case mIR_l => k_is); (case mIR_e => exact rfl); (case mIR_e1 => exact rfl); (case mIR_e2 => exact rfl); (case mIR_e3 => exact rfl); (case mIR_c => k_is); (case mIR_k => k_is)))
    (case z0 => k_is)
    (case z1 => k_is)
    (case z2 => k_is)
    (case z3 => k_is)
    (case z4 => k_is)
    (case z5 => k_is)
    (case z6 => k_is)
    (case z7 => k_is)
    (case z8 => k_is)
    (case z9 => k_is)
    (case z10 => k_is)
    (case z11 => k_is)
    (case z12 => k_is)
    (case z13 => k_is)
    (case dII => (refine' K0.dg_mk ?dII_a ?dII_l ?dII_e ?dII_e1 ?dII_e2 ?dII_e3 ?dII_c ?dII_k; (case dII_a => k_is); (case dII_l => k_is); (case dII_e => exact rfl); (case dII_e1 => exact rfl); (case dII_e2 => exact rfl); (case dII_e3 => exact rfl); (case dII_c => k_is); (case dII_k => k_is)))
    (case dIP => (refine' K0.dg_mk ?dIP_a ?dIP_l ?dIP_e ?dIP_e1 ?dIP_e2 ?dIP_e3 ?dIP_c ?dIP_k; (case dIP_a => k_is); (case dIP_l => k_is); (case dIP_e => exact rfl); (case dIP_e1 => exact rfl); (case dIP_e2 => exact rfl); (case dIP_e3 => exact rfl); (case dIP_c => k_is); (case dIP_k => k_is)))
    (case dTH => (refine' K0.dg_mk ?dTH_a ?dTH_l ?dTH_e ?dTH_e1 ?dTH_e2 ?dTH_e3 ?dTH_c ?dTH_k; (case dTH_a => k_is); (case dTH_l => k_is); (case dTH_e => exact rfl); (case dTH_e1 => exact rfl); (case dTH_e2 => exact rfl); (case dTH_e3 => exact rfl); (case dTH_c => k_is); (case dTH_k => k_is)))
    (case dCT => (refine' K0.dg_mk ?dCT_a ?dCT_l ?dCT_e ?dCT_e1 ?dCT_e2 ?dCT_e3 ?dCT_c ?dCT_k; (case dCT_a => k_is); (case dCT_l => k_is); (case dCT_e => exact rfl); (case dCT_e1 => exact rfl); (case dCT_e2 => exact rfl); (case dCT_e3 => exact rfl); (case dCT_c => k_is); (case dCT_k => k_is)))
    (case dC2 => (refine' K0.dg_mk ?dC2_a ?dC2_l ?dC2_e ?dC2_e1 ?dC2_e2 ?dC2_e3 ?dC2_c ?dC2_k; (case dC2_a => k_is); (case dC2_l => k_is); (case dC2_e => exact rfl); (case dC2_e1 => exact rfl); (case dC2_e2 => exact rfl); (case dC2_e3 => exact rfl); (case dC2_c => k_is); (case dC2_k => k_is)))
    (case dFW => (refine' K0.dg_mk ?dFW_a ?dFW_l ?dFW_e ?dFW_e1 ?dFW_e2 ?dFW_e3 ?dFW_c ?dFW_k; (case dFW_a => k_is); (case dFW_l => k_is); (case dFW_e => exact rfl); (case dFW_e1 => exact rfl); (case dFW_e2 => exact rfl); (case dFW_e3 => exact rfl); (case dFW_c => k_is); (case dFW_k => k_is)))
    (case dCS => (refine' K0.dg_mk ?dCS_a ?dCS_l ?dCS_e ?dCS_e1 ?dCS_e2 ?dCS_e3 ?dCS_c ?dCS_k; (case dCS_a => k_is); (case dCS_l => k_is); (case dCS_e => exact rfl); (case dCS_e1 => exact rfl); (case dCS_e2 => exact rfl); (case dCS_e3 => exact rfl); (case dCS_c => k_is); (case dCS_k => k_is)))
    (case dTI => (refine' K0.dg_mk ?dTI_a ?dTI_l ?dTI_e ?dTI_e1 ?dTI_e2 ?dTI_e3 ?dTI_c ?dTI_k; (case dTI_a => k_is); (case dTI_l => k_is); (case dTI_e => exact rfl); (case dTI_e1 => exact rfl); (case dTI_e2 => exact rfl); (case dTI_e3 => exact rfl); (case dTI_c => k_is); (case dTI_k => k_is)))
    (case dNM => (refine' K0.dg_mk ?dNM_a ?dNM_l ?dNM_e ?dNM_e1 ?dNM_e2 ?dNM_e3 ?dNM_c ?dNM_k; (case dNM_a => k_is); (case dNM_l => k_is); (case dNM_e => exact rfl); (case dNM_e1 => exact rfl); (case dNM_e2 => exact rfl); (case dNM_e3 => exact rfl); (case dNM_c => k_is); (case dNM_k => k_is)))
    (case dCC => (refine' K0.dg_mk ?dCC_a ?dCC_l ?dCC_e ?dCC_e1 ?dCC_e2 ?dCC_e3 ?dCC_c ?dCC_k; (case dCC_a => k_is); (case dCC_l => k_is); (case dCC_e => exact rfl); (case dCC_e1 => exact rfl); (case dCC_e2 => exact rfl); (case dCC_e3 => exact rfl); (case dCC_c => k_is); (case dCC_k => k_is)))
    (case dDR => (refine' K0.dg_mk ?dDR_a ?dDR_l ?dDR_e ?dDR_e1 ?dDR_e2 ?dDR_e3 ?dDR_c ?dDR_k; (case dDR_a => k_is); (case dDR_l => k_is); (case dDR_e => exact rfl); (case dDR_e1 => exact rfl); (case dDR_e2 => exact rfl); (case dDR_e3 => exact rfl); (case dDR_c => k_is); (case dDR_k => k_is)))
    (case dTK => (refine' K0.dg_mk ?dTK_a ?dTK_l ?dTK_e ?dTK_e1 ?dTK_e2 ?dTK_e3 ?dTK_c ?dTK_k; (case dTK_a => k_is); (case dTK_l => k_is); (case dTK_e => exact rfl); (case dTK_e1 => exact rfl); (case dTK_e2 => exact rfl); (case dTK_e3 => exact rfl); (case dTK_c => k_is); (case dTK_k => k_is)))
    (case dLI => (refine' K0.dg_mk ?dLI_a ?dLI_l ?dLI_e ?dLI_e1 ?dLI_e2 ?dLI_e3 ?dLI_c ?dLI_k; (case dLI_a => k_is); (case dLI_l => k_is); (case dLI_e => exact rfl); (case dLI_e1 => exact rfl); (case dLI_e2 => exact rfl); (case dLI_e3 => exact rfl); (case dLI_c => k_is); (case dLI_k => k_is)))
    (case dCO => (refine' K0.dg_mk ?dCO_a ?dCO_l ?dCO_e ?dCO_e1 ?dCO_e2 ?dCO_e3 ?dCO_c ?dCO_k; (case dCO_a => k_is); (case dCO_l => k_is); (case dCO_e => exact rfl); (case dCO_e1 => exact rfl); (case dCO_e2 => exact rfl); (case dCO_e3 => exact rfl); (case dCO_c => k_is); (case dCO_k => k_is)))
    (case dNE => (refine' K0.dg_mk ?dNE_a ?dNE_l ?dNE_e ?dNE_e1 ?dNE_e2 ?dNE_e3 ?dNE_c ?dNE_k; (case dNE_a => k_is); (case dNE_l => k_is); (case dNE_e => exact rfl); (case dNE_e1 => exact rfl); (case dNE_e2 => exact rfl); (case dNE_e3 => exact rfl); (case dNE_c => k_is); (case dNE_k => k_is)))
    (case dPA => (refine' K0.dg_mk ?dPA_a ?dPA_l ?dPA_e ?dPA_e1 ?dPA_e2 ?dPA_e3 ?dPA_c ?dPA_k; (case dPA_a => k_is); (case dPA_l => k_is); (case dPA_e => exact rfl); (case dPA_e1 => exact rfl); (case dPA_e2 => exact rfl); (case dPA_e3 => exact rfl); (case dPA_c => k_is); (case dPA_k => k_is)))
    (case dSE => (refine' K0.dg_mk ?dSE_a ?dSE_l ?dSE_e ?dSE_e1 ?dSE_e2 ?dSE_e3 ?dSE_c ?dSE_k; (case dSE_a => k_is); (case dSE_l => k_is); (case dSE_e => exact rfl); (case dSE_e1 => exact rfl); (case dSE_e2 => exact rfl); (case dSE_e3 => exact rfl); (case dSE_c => k_is); (case dSE_k => k_is)))
    (case dRI => (refine' K0.dg_mk ?dRI_a ?dRI_l ?dRI_e ?dRI_e1 ?dRI_e2 ?dRI_e3 ?dRI_c ?dRI_k; (case dRI_a => k_is); (case dRI_l => k_is); (case dRI_e => exact rfl); (case dRI_e1 => exact rfl); (case dRI_e2 => exact rfl); (case dRI_e3 => exact rfl); (case dRI_c => k_is); (case dRI_k => k_is)))
    (case dRR => (refine' K0.dg_mk ?dRR_a ?dRR_l ?dRR_e ?dRR_e1 ?dRR_e2 ?dRR_e3 ?dRR_c ?dRR_k; (case dRR_a => k_is); (case dRR_l => k_is); (case dRR_e => exact rfl); (case dRR_e1 => exact rfl); (case dRR_e2 => exact rfl); (case dRR_e3 => exact rfl); (case dRR_c => k_is); (case dRR_k => k_is)))
    (case dWI => (refine' K0.dg_mk ?dWI_a ?dWI_l ?dWI_e ?dWI_e1 ?dWI_e2 ?dWI_e3 ?dWI_c ?dWI_k; (case dWI_a => k_is); (case dWI_l => k_is); (case dWI_e => exact rfl); (case dWI_e1 => exact rfl); (case dWI_e2 => exact rfl); (case dWI_e3 => exact rfl); (case dWI_c => k_is); (case dWI_k => k_is)))
    (case dDU => (refine' K0.dg_mk ?dDU_a ?dDU_l ?dDU_e ?dDU_e1 ?dDU_e2 ?dDU_e3 ?dDU_c ?dDU_k; (case dDU_a => k_is); (case dDU_l => k_is); (case dDU_e => exact rfl); (case dDU_e1 => exact rfl); (case dDU_e2 => exact rfl); (case dDU_e3 => exact rfl); (case dDU_c => k_is); (case dDU_k => k_is)))
    (case dSY => (refine' K0.dg_mk ?dSY_a ?dSY_l ?dSY_e ?dSY_e1 ?dSY_e2 ?dSY_e3 ?dSY_c ?dSY_k; (case dSY_a => k_is); (case dSY_l => k_is); (case dSY_e => exact rfl); (case dSY_e1 => exact rfl); (case dSY_e2 => exact rfl); (case dSY_e3 => exact rfl); (case dSY_c => k_is); (case dSY_k => k_is)))
    (case dBW => (refine' K0.dg_mk ?dBW_a ?dBW_l ?dBW_e ?dBW_e1 ?dBW_e2 ?dBW_e3 ?dBW_c ?dBW_k; (case dBW_a => k_is); (case dBW_l => k_is); (case dBW_e => exact rfl); (case dBW_e1 => exact rfl); (case dBW_e2 => exact rfl); (case dBW_e3 => exact rfl); (case dBW_c => k_is); (case dBW_k => k_is)))
    (case dSH => (refine' K0.dg_mk ?dSH_a ?dSH_l ?dSH_e ?dSH_e1 ?dSH_e2 ?dSH_e3 ?dSH_c ?dSH_k; (case dSH_a => k_is); (case dSH_l => k_is); (case dSH_e => exact rfl); (case dSH_e1 => exact rfl); (case dSH_e2 => exact rfl); (case dSH_e3 => exact rfl); (case dSH_c => k_is); (case dSH_k => k_is)))
    (case dWD => (refine' K0.dg_mk ?dWD_a ?dWD_l ?dWD_e ?dWD_e1 ?dWD_e2 ?dWD_e3 ?dWD_c ?dWD_k; (case dWD_a => k_is); (case dWD_l => k_is); (case dWD_e => exact rfl); (case dWD_e1 => exact rfl); (case dWD_e2 => exact rfl); (case dWD_e3 => exact rfl); (case dWD_c => k_is); (case dWD_k => k_is)))
    (case dTW => (refine' K0.dg_mk ?dTW_a ?dTW_l ?dTW_e ?dTW_e1 ?dTW_e2 ?dTW_e3 ?dTW_c ?dTW_k; (case dTW_a => k_is); (case dTW_l => k_is); (case dTW_e => exact rfl); (case dTW_e1 => exact rfl); (case dTW_e2 => exact rfl); (case dTW_e3 => exact rfl); (case dTW_c => k_is); (case dTW_k => k_is)))
    (case dTF => (refine' K0.dg_mk ?dTF_a ?dTF_l ?dTF_e ?dTF_e1 ?dTF_e2 ?dTF_e3 ?dTF_c ?dTF_k; (case dTF_a => k_is); (case dTF_l => k_is); (case dTF_e => exact rfl); (case dTF_e1 => exact rfl); (case dTF_e2 => exact rfl); (case dTF_e3 => exact rfl); (case dTF_c => k_is); (case dTF_k => k_is)))
    (case dTT => (refine' K0.dg_mk ?dTT_a ?dTT_l ?dTT_e ?dTT_e1 ?dTT_e2 ?dTT_e3 ?dTT_c ?dTT_k; (case dTT_a => k_is); (case dTT_l => k_is); (case dTT_e => exact rfl); (case dTT_e1 => exact rfl); (case dTT_e2 => exact rfl); (case dTT_e3 => exact rfl); (case dTT_c => k_is); (case dTT_k => k_is)))
    (case dAS => (refine' K0.dg_mk ?dAS_a ?dAS_l ?dAS_e ?dAS_e1 ?dAS_e2 ?dAS_e3 ?dAS_c ?dAS_k; (case dAS_a => k_is); (case dAS_l => k_is); (case dAS_e => exact rfl); (case dAS_e1 => exact rfl); (case dAS_e2 => exact rfl); (case dAS_e3 => exact rfl); (case dAS_c => k_is); (case dAS_k => k_is)))
    (case dLE => (refine' K0.dg_mk ?dLE_a ?dLE_l ?dLE_e ?dLE_e1 ?dLE_e2 ?dLE_e3 ?dLE_c ?dLE_k; (case dLE_a => k_is); (case dLE_l => k_is); (case dLE_e => exact rfl); (case dLE_e1 => exact rfl); (case dLE_e2 => exact rfl); (case dLE_e3 => exact rfl); (case dLE_c => k_is); (case dLE_k => k_is)))
    (case dCH => (refine' K0.dg_mk ?dCH_a ?dCH_l ?dCH_e ?dCH_e1 ?dCH_e2 ?dCH_e3 ?dCH_c ?dCH_k; (case dCH_a => k_is); (case dCH_l => k_is); (case dCH_e => exact rfl); (case dCH_e1 => exact rfl); (case dCH_e2 => exact rfl); (case dCH_e3 => exact rfl); (case dCH_c => k_is); (case dCH_k => k_is)))
    (case dRF => (refine' K0.dg_mk ?dRF_a ?dRF_l ?dRF_e ?dRF_e1 ?dRF_e2 ?dRF_e3 ?dRF_c ?dRF_k; (case dRF_a => k_is); (case dRF_l => k_is); (case dRF_e => exact rfl); (case dRF_e1 => exact rfl); (case dRF_e2 => exact rfl); (case dRF_e3 => exact rfl); (case dRF_c => k_is); (case dRF_k => k_is)))
    (case dRT => (refine' K0.dg_mk ?dRT_a ?dRT_l ?dRT_e ?dRT_e1 ?dRT_e2 ?dRT_e3 ?dRT_c ?dRT_k; (case dRT_a => k_is); (case dRT_l => k_is); (case dRT_e => exact rfl); (case dRT_e1 => exact rfl); (case dRT_e2 => exact rfl); (case dRT_e3 => exact rfl); (case dRT_c => k_is); (case dRT_k => k_is)))
    (case dLW => (refine' K0.dg_mk ?dLW_a ?dLW_l ?dLW_e ?dLW_e1 ?dLW_e2 ?dLW_e3 ?dLW_c ?dLW_k; (case dLW_a => k_is); (case dLW_l => k_is); (case dLW_e => exact rfl); (case dLW_e1 => exact rfl); (case dLW_e2 => exact rfl); (case dLW_e3 => exact rfl); (case dLW_c => k_is); (case dLW_k => k_is)))
