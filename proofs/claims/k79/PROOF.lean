import PyProof.Rows.All
import Wide.All
import OpenK.AllK
import Wide.FinOn
import HandS.ForMost
import HandS.ForExc
import HandS.IsInst
import HandS.Strs
import HandS.TupSets
import HandS.TryMany
import HandS.ExcInit
import HandS.NoneIn
import HandS.Property
import HandS.ExcField
import HandS.Defaults
import KE.BitLaws
import HandS.WideBits
import HandS.Steps
import HandS.Walk
import KE.GoesMore
import HandS.OwnEq
import KE.Datum
import HandS.Star
import HandS.RaiseMore
import HandS.Deep
import HandS.SortRule
import HandS.Zip
import HandS.ClsMeth
import HandS.SortInts
import HandS.Style
import HandS.Conv
import HandS.TupAny
import HandS.ExcIs
import PySem.Challenge.RW_perfectorders_k79_one_core_however_taken
set_option Elab.async false
set_option linter.all false
set_option maxRecDepth 100000
set_option maxHeartbeats 2000000
namespace K0
open PySem PySem.Spec PyProof.Rows L2
def top (i : Nat) : Stmt := PySem.Challenge.pw_perfectorders_k79_one_core_however_taken.main.body.getD i (.Pass ⟨0, 0, 0, 0⟩)
abbrev s_is_int : Stmt := top 11
abbrev s_is_pair : Stmt := top 12
abbrev s_is_thing : Stmt := top 13
/-- the built-in names that the top leaves as they are -/
structure Blt (mg : Str → Option Value) : Prop where
  isi : mg "isinstance" = none
  int : mg "int" = none
  bool : mg "bool" = none
  list : mg "list" = none
  tuple : mg "tuple" = none
  len : mg "len" = none
section
variable {P : Program} {w : World} {K : PySem.W.Frag} {mg : Str → Option Value} {base : Heap}
inductive Plain (K : PySem.W.Frag) (H : Hp) : V → Bool → Prop where
  | non : Plain K H .non false
  | bl (b : Bool) : Plain K H (.bl b) false
  | int (i : Int) : Plain K H (.int i) true
  | str (x : Str) : Plain K H (.str x) false
  | tup {a : Addr} {xs : List V} (e : H a = some (.tup xs)) : Plain K H (.ref a) false
  | lst {a : Addr} {xs : List V} (e : H a = some (.lst xs)) : Plain K H (.ref a) false
def spIsInt (K : PySem.W.Frag) : Sp := fun vs H Q _ => ∃ v b, vs = [v] ∧ Plain K H v b ∧ Q (.bl b) H
theorem sc_is_int : FnScope ["value"] ["value"] (defScope s_is_int) := ⟨rfl, rfl, rfl, by decide +kernel, rfl, by decide +kernel, by decide +kernel⟩
theorem ok_is_int {f : Addr} {fd : FuncData} (F : Fun K "is_int" "is_int" s_is_int f fd) (B : Blt mg) : FnOk P w K mg base CX0 1 f fd ["value"] (spIsInt K) := by
  refine F.ok sc_is_int (fun vs H Q E h => ?_) (fun cdv A outer s H vs Q E hr h => ?_)
  · obtain ⟨v, b, rfl, _⟩ := h
    rfl
  · obtain ⟨v, b, rfl, hv, q⟩ := h
    refine ⟨_, pss_one (ps_ret (pe_and
      (pe_callB call_isi (by rfl) B.isi (by decide +kernel) (pa_cons (pv 0) (pa_cons (pe_bltn (v := .ty "int") (by rfl) B.int (by decide +kernel) rfl) pa_nil)))
      (pe_one (pe_not (pe_callB call_isi (by rfl) B.isi (by decide +kernel) (pa_cons (pv 0) (pa_cons (pe_bltn (v := .ty "bool") (by rfl) B.bool (by decide +kernel) rfl) pa_nil))))))), ?_⟩
    cases hv with
    | non =>
      exact ⟨_, rfl, _, _, _, _, _, rfl, .ty _, .base .non, kit_ty (r := false) (by decide +kernel), _, rfl, iteF q⟩
    | bl b =>
      exact ⟨_, rfl, _, _, _, _, _, rfl, .ty _, .base (.bl b), kit_ty (r := true) (by decide +kernel), _, rfl, iteT ⟨_, rfl, _, _, _, _, _, rfl, .ty _, .base (.bl b), kit_ty (r := true) (by decide +kernel), _, rfl, q⟩⟩
    | int i =>
      exact ⟨_, rfl, _, _, _, _, _, rfl, .ty _, .base (.int i), kit_ty (r := true) (by decide +kernel), _, rfl, iteT ⟨_, rfl, _, _, _, _, _, rfl, .ty _, .base (.int i), kit_ty (r := false) (by decide +kernel), _, rfl, q⟩⟩
    | str x =>
      exact ⟨_, rfl, _, _, _, _, _, rfl, .ty _, .base (.str x), kit_ty (r := false) (by decide +kernel), _, rfl, iteF q⟩
    | tup e =>
      exact ⟨_, rfl, _, _, _, _, _, rfl, .ty _, .base (.tup e), kit_ty (r := false) (by decide +kernel), _, rfl, iteF q⟩
    | lst e =>
      exact ⟨_, rfl, _, _, _, _, _, rfl, .ty _, .base (.lst e), kit_ty (r := false) (by decide +kernel), _, rfl, iteF q⟩
end
end K0
set_option Elab.async false
set_option linter.all false
set_option maxRecDepth 100000
set_option maxHeartbeats 2000000
namespace K0
open PySem PySem.Spec PyProof.Rows L2
/-! ### data that stands in the heap -/
mutual
inductive Dt (H : Hp) : V → PyData → Prop
  | non : Dt H .non .none
  | bl (b : Bool) : Dt H (.bl b) (.bool b)
  | int (i : Int) : Dt H (.int i) (.int i)
  | str (x : Str) : Dt H (.str x) (.str x)
  | lst {a : Addr} {xs : List V} {ds : List PyData} : H a = some (.lst xs) → DtAll H xs ds → Dt H (.ref a) (.list ds)
  | tup {a : Addr} {xs : List V} {ds : List PyData} : H a = some (.tup xs) → DtAll H xs ds → Dt H (.ref a) (.tuple ds)
inductive DtAll (H : Hp) : List V → List PyData → Prop
  | nil : DtAll H [] []
  | cons {v : V} {vs : List V} {d : PyData} {ds : List PyData} : Dt H v d → DtAll H vs ds → DtAll H (v :: vs) (d :: ds)
end
mutual
theorem Dt.mono {H H' : Hp} (s : Same H H') : ∀ {v : V} {d : PyData}, Dt H v d → Dt H' v d
  | _, _, .non => .non
  | _, _, .bl b => .bl b
  | _, _, .int i => .int i
  | _, _, .str x => .str x
  | _, _, .lst e h => .lst (s _ _ e) (DtAll.mono s h)
  | _, _, .tup e h => .tup (s _ _ e) (DtAll.mono s h)
theorem DtAll.mono {H H' : Hp} (s : Same H H') : ∀ {v : List V} {d : List PyData}, DtAll H v d → DtAll H' v d
  | _, _, .nil => .nil
  | _, _, .cons h t => .cons (Dt.mono s h) (DtAll.mono s t)
end
mutual
theorem Dt.dp {K : PySem.W.Frag} {H : Hp} : ∀ {v : V} {d : PyData}, Dt H v d → Dp K H v d
  | _, _, .non => .non
  | _, _, .bl b => .bl b
  | _, _, .int i => .int i
  | _, _, .str x => .str x
  | _, _, .lst e h => .lst (SqL.of e) (DtAll.dp h)
  | _, _, .tup e h => .tup (SqT.of e) (DtAll.dp h)
theorem DtAll.dp {K : PySem.W.Frag} {H : Hp} : ∀ {v : List V} {d : List PyData}, DtAll H v d → DpAll K H v d
  | _, _, .nil => .nil
  | _, _, .cons h t => .cons (Dt.dp h) (DtAll.dp t)
end
theorem DtAll.len {H : Hp} : ∀ {vs : List V} {ds : List PyData}, DtAll H vs ds → vs.length = ds.length
  | _, _, .nil => rfl
  | _, _, .cons _ t => congrArg (· + 1) t.len
theorem DtAll.at {H : Hp} : ∀ {vs : List V} {ds : List PyData} {i : Nat} {v : V}, DtAll H vs ds → vs[i]? = some v → ∃ d, ds[i]? = some d ∧ Dt H v d
  | _, _, _, _, .nil, e => by simp at e
  | _, _, 0, _, .cons h _, e => by
    have z := Option.some.inj e
    subst z
    exact ⟨_, rfl, h⟩
  | _, _, i + 1, _, .cons _ t, e => DtAll.at (i := i) t e
theorem DtAll.app {H : Hp} : ∀ {vs ws : List V} {ds es : List PyData}, DtAll H vs ds → DtAll H ws es → DtAll H (vs ++ ws) (ds ++ es)
  | _, _, _, _, .nil, h => h
  | _, _, _, _, .cons a t, h => .cons a (t.app h)
theorem DtAll.take {H : Hp} : ∀ {vs : List V} {ds : List PyData} (n : Nat), DtAll H vs ds → DtAll H (vs.take n) (ds.take n)
  | _, _, 0, _ => .nil
  | _, _, _ + 1, .nil => .nil
  | _, _, n + 1, .cons h t => .cons h (t.take n)
theorem DtAll.drop {H : Hp} : ∀ {vs : List V} {ds : List PyData} (n : Nat), DtAll H vs ds → DtAll H (vs.drop n) (ds.drop n)
  | _, _, 0, h => h
  | _, _, _ + 1, .nil => .nil
  | _, _, n + 1, .cons _ t => t.drop n
theorem DtAll.ints (H : Hp) : ∀ ns : List Int, DtAll H (ns.map V.int) (ns.map PyData.int)
  | [] => .nil
  | n :: r => .cons (.int n) (DtAll.ints H r)
theorem same_upd {H : Hp} {p : Addr} {o : HO} (h : H p = none) : Same H (upd H p o) := fun b u e => by
  rw [upd_ne (ne_of_none e h)]
  exact e
/-- is a whole number, and no truth value -/
def isI : PyData → Bool
  | .int _ => true
  | _ => false
def tyD : PyData → String
  | .none => "NoneType"
  | .bool _ => "bool"
  | .int _ => "int"
  | .str _ => "str"
  | .list _ => "list"
  | .tuple _ => "tuple"
  | .dict _ => "dict"
theorem Dt.ty {K : PySem.W.Frag} {H : Hp} {v : V} {d : PyData} (h : Dt H v d) : TyX K H v (.type (tyD d)) := by
  cases h with
  | non => exact .base .non
  | bl b => exact .base (.bl b)
  | int i => exact .base (.int i)
  | str x => exact .base (.str x)
  | lst e _ => exact .base (.lst e)
  | tup e _ => exact .base (.tup e)
/-! ### is_int and its like -/
section
variable {P : Program} {w : World} {K : PySem.W.Frag} {mg : Str → Option Value} {base : Heap}
def spInt : Sp := fun vs H Q _ => ∃ v d, vs = [v] ∧ Dt H v d ∧ Q (.bl (isI d)) H
theorem plain_dt {H : Hp} {v : V} {d : PyData} (h : Dt H v d) : Plain K H v (isI d) := by
  cases h with
  | non => exact .non
  | bl b => exact .bl b
  | int i => exact .int i
  | str x => exact .str x
  | lst e _ => exact .lst e
  | tup e _ => exact .tup e
theorem ok_int {f : Addr} {fd : FuncData} (F : Fun K "is_int" "is_int" s_is_int f fd) (B : Blt mg) : FnOk P w K mg base CX0 1 f fd ["value"] spInt :=
  (ok_is_int F B).imp fun vs H Q E h => by
    obtain ⟨v, d, e, hv, q⟩ := h
    exact ⟨v, isI d, e, plain_dt hv, q⟩
def isPairD : PyData → Bool
  | .list xs => xs.length == 2
  | .tuple xs => xs.length == 2
  | _ => false
theorem len_two (ds : List PyData) : ((ds.length : Int) == 2) = (ds.length == 2) := by
  rw [Bool.eq_iff_iff, beq_iff_eq, beq_iff_eq]
  omega
/-- what leaves all that was tracked -/
def Ret (v : V) (H : Hp) (Q : VK) : Prop := ∀ H', Same H H' → Q v H'
theorem Ret.now {v : V} {H : Hp} {Q : VK} (h : Ret v H Q) : Q v H := h H (Same.refl H)
def spPair : Sp := fun vs H Q _ => ∃ v d, vs = [v] ∧ Dt H v d ∧ Ret (.bl (isPairD d)) H Q
theorem sc_is_pair : FnScope ["value"] ["value"] (defScope s_is_pair) := ⟨rfl, rfl, rfl, by decide +kernel, rfl, by decide +kernel, by decide +kernel⟩
theorem kit2 {K : PySem.W.Frag} {t : String} {b1 b2 : Bool} (h1 : kitB t "list" = some b1) (h2 : kitB t "tuple" = some b2) : PySem.W.kitAny K (.type t) [.type "list", .type "tuple"] = some (b1 || b2) := by
  refine kitAny_cons (kit_ty h1) (fun e => ?_) (fun e => by rw [e]; rfl)
  refine kitAny_cons (kit_ty h2) (fun e2 => ?_) (fun e2 => by rw [e, e2]; rfl)
  rw [e, e2]
  exact kitAny_nil
theorem ok_pair {f : Addr} {fd : FuncData} (F : Fun K "is_pair" "is_pair" s_is_pair f fd) (B : Blt mg) : FnOk P w K mg base CX0 1 f fd ["value"] spPair := by
  refine F.ok sc_is_pair (fun vs H Q E h => ?_) (fun cdv A outer s H vs Q E hr h => ?_)
  · obtain ⟨v, d, rfl, _⟩ := h
    rfl
  · obtain ⟨v, d, rfl, hv, q⟩ := h
    refine ⟨_, pss_one (ps_ret (pe_and
      (pe_callB call_isiT (by rfl) B.isi (by decide +kernel) (pa_cons (pv 0) (pa_cons (pe_tup (pa_cons (pe_bltn (v := .ty "list") (by rfl) B.list (by decide +kernel) rfl) (pa_cons (pe_bltn (v := .ty "tuple") (by rfl) B.tuple (by decide +kernel) rfl) pa_nil))) pa_nil)))
      (pe_one (pe_cmpR op_eq (pe_callB call_len_seq (by rfl) B.len PySem.boot_len (pa_cons (pv 0) pa_nil)) pe_int (nomark _))))), ?_⟩
    refine ⟨_, rfl, by show 2 ≤ sizeLine; decide, fun t ht => ?_⟩
    have sm : Same H (upd H t (.tup [.ty "list", .ty "tuple"])) := same_upd ht
    have cl : Paired ClsV [V.ty "list", V.ty "tuple"] [Value.type "list", Value.type "tuple"] := .cons (.ty _) (.cons (.ty _) .nil)
    have ty : TyX K _ v _ := (hv.mono sm).ty
    cases hv with
    | non => exact ⟨_, _, _, _, _, _, rfl, upd_same, cl, ty, kit2 (b1 := false) (b2 := false) (by decide +kernel) (by decide +kernel), _, rfl, iteF (q _ sm)⟩
    | bl b => exact ⟨_, _, _, _, _, _, rfl, upd_same, cl, ty, kit2 (t := "bool") (b1 := false) (b2 := false) (by decide +kernel) (by decide +kernel), _, rfl, iteF (q _ sm)⟩
    | int b => exact ⟨_, _, _, _, _, _, rfl, upd_same, cl, ty, kit2 (t := "int") (b1 := false) (b2 := false) (by decide +kernel) (by decide +kernel), _, rfl, iteF (q _ sm)⟩
    | str b => exact ⟨_, _, _, _, _, _, rfl, upd_same, cl, ty, kit2 (t := "str") (b1 := false) (b2 := false) (by decide +kernel) (by decide +kernel), _, rfl, iteF (q _ sm)⟩
    | @lst a xs ds e h =>
      refine ⟨_, _, _, _, _, _, rfl, upd_same, cl, ty, kit2 (t := "list") (b1 := true) (b2 := false) (by decide +kernel) (by decide +kernel), _, rfl, iteT ⟨_, rfl, _, xs, rfl, .inl (SqL.of (sm _ _ e)), rfl, ?_⟩⟩
      rw [dec_int, h.len, show ((ds.length : Int) == 2) = isPairD (.list ds) from len_two ds]
      exact q _ sm
    | @tup a xs ds e h =>
      refine ⟨_, _, _, _, _, _, rfl, upd_same, cl, ty, kit2 (t := "tuple") (b1 := false) (b2 := true) (by decide +kernel) (by decide +kernel), _, rfl, iteT ⟨_, rfl, _, xs, rfl, .inr (SqT.of (sm _ _ e)), rfl, ?_⟩⟩
      rw [dec_int, h.len, show ((ds.length : Int) == 2) = isPairD (.tuple ds) from len_two ds]
      exact q _ sm
end
end K0
set_option Elab.async false
set_option linter.all false
set_option maxRecDepth 100000
set_option maxHeartbeats 2000000
/-! own error classes below Exception that store their arguments -/
namespace K0
open PySem PySem.Spec PyProof.Rows L2
/-- the classes behind the own ones -/
def tailOf : List Value → List Value
  | .ref _ :: r => tailOf r
  | l => l
abbrev exT : List Value := [.type "Exception", .type "BaseException", .type "object"]
theorem tail_refuse (self : Value) (wh : Str) : ∀ l : List Value, refuseLoop self wh l = refuseLoop self wh (tailOf l)
  | .ref C :: r => (refuseLoop_ref self wh C r).trans (tail_refuse self wh r)
  | [] => rfl
  | .none :: _ | .ellipsis :: _ | .notImplemented :: _ | .bool _ :: _ | .int _ _ :: _ | .float _ _ :: _ | .str _ _ :: _ | .bytes _ _ :: _ | .type _ :: _ | .builtin _ :: _ => rfl
theorem tail_has (Y : String) : ∀ l : List Value, l.contains (.type Y) = (tailOf l).contains (.type Y)
  | .ref C :: r => by
    rw [List.contains_cons, tail_has Y r]
    rfl
  | [] => rfl
  | .none :: _ | .ellipsis :: _ | .notImplemented :: _ | .bool _ :: _ | .int _ _ :: _ | .float _ _ :: _ | .str _ _ :: _ | .bytes _ _ :: _ | .type _ :: _ | .builtin _ :: _ => rfl
theorem tail_ne : ∀ l : List Value, tailOf l = exT → l.isEmpty = false
  | [], e => by cases e
  | _ :: _, _ => rfl
section
open Builtin Builtin.ObjectAttr PySem.HandSPX PySem.OEX
variable {prog : Program} {w : World} {A : Around} {R : Result → Shared → Prop} {hp : Heap} {g : Array GenState} {d : Drawn} {t : Nat} {os : OsState} {K : PySem.W.Frag} {name : Str} {tk : Tok} {v : Value} {x C : Addr} {fv : Array Value} {cd : ClassData}
/-- what is looked up ahead of a store to an exception of the class at C -/
structure Sto (prog : Program) (w : World) (K : PySem.W.Frag) (hp : Heap) (x C : Addr) (name : Str) (cd : ClassData) : Prop where
  ty : PySem.W.Looks (model prog w) hp (typeOf (.ref x)) (.ref C)
  sub : PySem.W.Looks (model prog w) hp (isInstance (.ref x) (.type "object")) true
  mro : PySem.W.Looks (model prog w) hp (mroOf (.ref C)) cd.mro
  cls : PySem.W.Looks (model prog w) hp (classData C) cd
  fnd : PySem.W.Looks (model prog w) hp (typeLookup (.ref C) name) none
  ref : ∀ self : Value, refuseLoop self "__setattr__" cd.mro = pure ()
theorem sto_of (X : K.In hp) {ox : Obj} {od : Option Obj} (I : PySem.W.InstAt hp x ox C od) (hcd : PySem.W.clsIn K C = some cd) (hm : tailOf cd.mro = exT) (ha : PySem.W.findIn K (.ref C) name = some none) : Sto prog w K hp x C name cd where
  ty := I.type
  sub := I.type.andThen (PySem.W.looks_mroIn X (by
    have h1 : cd.mro.contains (.type "object") = true := by rw [tail_has, hm]; decide +kernel
    unfold PySem.W.mroIn
    rw [hcd, Option.bind_some, if_neg (by rw [tail_ne _ hm]; decide), h1]))
  mro := (PySem.W.looks_clsIn X hcd).andThen .now
  cls := PySem.W.looks_clsIn X hcd
  fnd := PySem.W.looks_findIn X ha
  ref := fun self => by rw [tail_refuse, hm]; exact PySem.F.store_Exception.passes self
theorem osaE (S : Sto prog w K hp x C name cd) (hq : wpAny (model prog w) (A.in1) (storeInOwnDict (.ref x) (.ref C) (.str name tk) name v false) (fun fin s' => match fin with | .done f => R (.ok f) s' | .again c => c.quiet = true ∧ codeAny (model prog w) A c R s') (fun e s' => R (.error e) s') ⟨hp, g, d, t, os⟩) :
    codeAny (model prog w) A (.call (.builtin "object.__setattr__") ⟨[.ref x, .str name tk, v], []⟩) R ⟨hp, g, d, t, os⟩ := by
  have SF := PySem.F.store_object
  refine codeAny_call_builtin SF.slot.plain SF.entry (@PySem.W.check_slot (model prog w) _ _ ⟨hp, g, d, t, os⟩ "object.__setattr__" "object" "__setattr__" (.ref x) [.str name tk, v] [] _ SF.kind SF.split S.sub (SF.args (.ref x) (.str name tk) v) ?_)
  rw [PySem.W.osa_eq, refuse_eq]
  refine wpAny_bind (wpAny_bind (S.ty.at (wpAny_bind (S.mro.at ?_))))
  rw [S.ref]
  refine wpAny_pure (wpAny_bind (S.ty.at (wpAny_bind (S.fnd.at (wpAny_bind ((show PySem.W.Looks (model prog w) hp (storeTaker? none) none from .now).at ?_))))))
  exact hq
theorem osaE_new (X : K.In hp) (hx : hp.get? x = some { cls := .ref C, data := .fields fv }) (hcd : PySem.W.clsIn K C = some cd) (hm : tailOf cd.mro = exT) (hh : cd.hasDict = true) (ha : PySem.W.findIn K (.ref C) name = some none)
    (hq : ∀ h' tk' dx, (∀ b o, b ≠ x → hp.get? b = some o → h'.get? b = some o) → hp.objs.size ≤ dx → dx ≠ x → h'.get? x = some { cls := .ref C, dict := some dx, data := .fields fv } →
      h'.Ns1 dx (fun y => if y = name then some v else none) → R (.ok (.ret .none)) ⟨h', g, d, tk', os⟩) :
    codeAny (model prog w) A (.call (.builtin "object.__setattr__") ⟨[.ref x, .str name tk, v], []⟩) R ⟨hp, g, d, t, os⟩ := by
  have hxs : x ≠ hp.objs.size := Nat.ne_of_lt (Heap.lt_size hx)
  have S : Sto prog w K hp x C name cd := sto_of X (od := none) ⟨hx, rfl, rfl, trivial⟩ hcd hm ha
  refine osaE S ?_
  have hcls := S.cls
  obtain ⟨nm, bs, mro, ns, qn, hd, sn, sb, ab, col, del⟩ := cd
  dsimp only at hh
  subst hh
  unfold storeInOwnDict ownDictForStores
  repeat (first | with_reducible refine store_in_new ?_ ?_ | with_reducible refine wpAny_loadPart_at hx ?_ | with_reducible refine hcls.at ?_ | wp_step)
  · exact ⟨_, #[], _, (Heap.get?_update_ne _ _ _ _ hxs.symm).trans (Heap.get?_push_at rfl rfl), rfl, fun e he => absurd he (by simp), fun _ => rfl⟩
  · intro h' tk' hn' hs
    have hx1 : (hp.push { cls := .type "dict", data := .dict #[] }).get? x = some { cls := .ref C, data := .fields fv } := Heap.get?_push_of_some _ hx
    have old : ∀ b o, b ≠ x → hp.get? b = some o → h'.get? b = some o := fun b o hb ho =>
      (hs.2 b (Nat.ne_of_lt (Heap.lt_size ho))).trans ((Heap.get?_update_ne _ _ _ _ hb).trans (Heap.get?_push_of_some _ ho))
    exact hq h' tk' hp.objs.size old (Nat.le_refl _) hxs.symm ((hs.2 x hxs).trans (Heap.get?_update_self _ hx1 rfl)) hn'
theorem osaE_old {dx : Addr} {m0 : Str → Option Value} {nl : List Str} (X : K.In hp) (hx : hp.get? x = some { cls := .ref C, dict := some dx, data := .fields fv }) (hns : hp.Ns1 dx m0) (hw : Within m0 nl) (hz : nl.length ≤ 1000)
    (hcd : PySem.W.clsIn K C = some cd) (hm : tailOf cd.mro = exT) (hh : cd.hasDict = true) (ha : PySem.W.findIn K (.ref C) name = some none)
    (hq : ∀ h' tk', (∀ b o, b ≠ dx → hp.get? b = some o → h'.get? b = some o) → h'.Ns1 dx (fun y => if y = name then some v else m0 y) → R (.ok (.ret .none)) ⟨h', g, d, tk', os⟩) :
    codeAny (model prog w) A (.call (.builtin "object.__setattr__") ⟨[.ref x, .str name tk, v], []⟩) R ⟨hp, g, d, t, os⟩ := by
  obtain ⟨oD, esD, epD, hoD, hdD, _⟩ := hns.count hw
  have S : Sto prog w K hp x C name cd := sto_of X (od := some oD) ⟨hx, rfl, rfl, hoD⟩ hcd hm ha
  refine osaE S ?_
  have hcls := S.cls
  obtain ⟨nm, bs, mro, ns, qn, hd, sn, sb, ab, col, del⟩ := cd
  dsimp only at hh
  subst hh
  unfold storeInOwnDict ownDictForStores
  repeat (first | with_reducible refine store_in_old hns hw hz ?_ | with_reducible refine wpAny_loadPart_at hx ?_ | with_reducible refine hcls.at ?_ | wp_step)
  exact fun h' tk' hn' hs => hq h' tk' (fun b o hb ho => (hs.2 b hb).trans ho) hn'
end
/-! ### over the abstract heap -/
/-- what the written part says of such a class at C: its own names are not among fs -/
structure ErrC (K : PySem.W.Frag) (C : Addr) (fs : List Str) : Prop where
  cls : ∃ nm q N bs bm sn sub ab col dd k0 k1 k2 k3 k5, K.lookup C = some (excClassObj nm q C N bs bm true sn sub ab col dd k0 k1 k2 k3 k5 "Exception.__new__") ∧ (tailOf bm == exT) = true
  sa : PySem.W.findIn K (.ref C) "__setattr__" = some (some (.builtin "object.__setattr__"))
  ga : PySem.W.findIn K (.ref C) "__getattribute__" = some (some (.builtin "BaseException.__getattribute__"))
  gg : PySem.W.findIn K (.ref C) "__getattr__" = some none
  exC : PySem.W.subIn K (.ref C) (.type "BaseException") = some true
  tyC : PySem.W.typeIn K (.ref C) = some (.type "type")
  kC : PySem.W.keepIn K (.ref C) = true
  hd : PySem.W.hasDictIn K C = true
  no : ∀ f ∈ fs, PySem.W.findIn K (.ref C) f = some none
theorem ErrC.data {K : PySem.W.Frag} {C : Addr} {fs : List Str} (T : ErrC K C fs) : ∃ cd, PySem.W.clsIn K C = some cd ∧ tailOf cd.mro = exT ∧ cd.hasDict = true := by
  obtain ⟨nm, q, N, bs, bm, sn, sub, ab, col, dd, k0, k1, k2, k3, k5, hC, hbm⟩ := T.cls
  refine ⟨{ name := nm, bases := bs, mro := .ref C :: bm, ns := N, qualname := q, hasDict := true, slotNames := sn, subclasses := sub, abstract := ab, collection := col, hasDel := false }, ?_, beq_iff_eq.mp hbm, rfl⟩
  unfold PySem.W.clsIn
  rw [hC]
section
variable {X : Cx} {pins : List (Addr × Obj)} {σ : L2.St} {H : Hp} {s : Shared} {a C dx : Addr} {f : Str} {y : V} {u : Value} {fl : List Str} {fs : List (Str × V)} {Q : Unit → Shared → Prop} {E : Value → Shared → Prop} {A : Around}
/-- the first store: the exception gets its dict -/
theorem stE_new (T : ErrC X.K C fl) (I : Inv X pins σ H s) (e : H a = some (exo a C none)) (hno : f ∈ fl) (ry : RelV y u)
    (h : ∀ dx s', H dx = none → dx ≠ a → Inv X pins σ (upd (upd H dx (exd dx [(f, y)])) a (exo a C (some dx))) s' → Q () s') : wpAny (model X.prog X.w) A (setAttr (.ref a) f u) Q E s := by
  obtain ⟨cd, hcl, hm, hdd⟩ := T.data
  obtain ⟨t1, ho⟩ := exo_at I.hok e
  obtain ⟨hp, g, d, t, os⟩ := s
  refine PySem.W.set_plain I.kIn (ox := { cls := .ref C, dict := none, data := .fields #[.ref t1, .none, .none, .none, .bool false, .none] }) (od := none) ⟨ho, rfl, rfl, trivial⟩ T.sa ?_
  refine osaE_new I.kIn ho hcl hm hdd (T.no f hno) (fun h' tk' dx k dn dne hx hn => ?_)
  have hnd : H dx = none := I.hok.fresh dn
  have lt : ∀ {b : Addr} {o : Obj}, hp.get? b = some o → b ≠ dx := fun q => Nat.ne_of_lt (Nat.lt_of_lt_of_le (Heap.lt_size q) dn)
  have na : ∀ {b : Addr}, H b = none → b ≠ a := fun {b} n z => by rw [z, e] at n; cases n
  refine h dx _ hnd dne (I.un (t' := tk') { keep := fun b o q n _ _ => k b o (na n) q, slot := fun b o q n _ _ => ⟨o.slots, k b o (na n) q⟩, free := fun b o q n _ => ?_, there := fun b o q _ => ?_, tups := fun b xs q => ?_, frzs := fun b o v q => ?_, tbls := fun b ps q => ⟨#[], ?_⟩ } fun b o q => ?_)
  · rw [upd_ne (na n), upd_ne (lt q)]
    exact n
  · rcases Nat.decEq b a with hb | hb
    · exact ⟨o, k b o hb q⟩
    · exact ⟨_, by rw [hb]; exact hx⟩
  · rw [upd_ne (at_ne e q exo_tup), upd_ne (ne_of_none q hnd)]
    exact q
  · rw [upd_ne (at_ne e q exo_frz), upd_ne (ne_of_none q hnd)]
    exact q
  · rw [upd_ne (at_ne e q exo_tbl), upd_ne (ne_of_none q hnd), q]
    simp
  · by_cases hb : b = a
    · subst hb
      rw [upd_same] at q
      cases q
      exact exo_ok hx
    rw [upd_ne hb] at q
    by_cases hdx : b = dx
    · subst hdx
      rw [upd_same] at q
      cases q
      exact exd_ok hn (relO_put (fs := []) ry fun g => True.intro)
    rw [upd_ne hdx] at q
    refine (I.hok b o q).stay (fun c v hc z => k c v ?_ z) (fun c hc => ?_) (fun c xs hc => ?_)
    · rcases hc with hc | hc
      · rw [hc]; exact hb
      · exact at_ne e hc exo_own
    · rw [upd_ne (at_ne e hc exo_own), upd_ne (ne_of_none hc hnd)]
      exact hc
    · rw [upd_ne (at_ne e hc exo_tup), upd_ne (ne_of_none hc hnd)]
      exact hc
/-- a further store -/
theorem stE_old (T : ErrC X.K C fl) (I : Inv X pins σ H s) (e : H a = some (exo a C (some dx))) (ed : H dx = some (exd dx fs)) (hl : fs.length ≤ 900) (hno : f ∈ fl) (ry : RelV y u)
    (h : ∀ s', Inv X pins σ (upd H dx (exd dx ((f, y) :: fs))) s' → Q () s') : wpAny (model X.prog X.w) A (setAttr (.ref a) f u) Q E s := by
  obtain ⟨cd, hcl, hm, hdd⟩ := T.data
  obtain ⟨t1, ho⟩ := exo_at I.hok e
  obtain ⟨mA, hns, rel⟩ := exd_at I.hok ed
  have hw := within_of rel
  obtain ⟨hp, g, d, t, os⟩ := s
  obtain ⟨oD, _, _, hoD, _, _⟩ := hns.count hw
  refine PySem.W.set_plain I.kIn (ox := { cls := .ref C, dict := some dx, data := .fields #[.ref t1, .none, .none, .none, .bool false, .none] }) (od := some oD) ⟨ho, rfl, rfl, hoD⟩ T.sa ?_
  refine osaE_old I.kIn ho hns hw (by rw [List.length_map]; omega) hcl hm hdd (T.no f hno) (fun h' tk' k hn => ?_)
  have there : ∃ o, h'.get? dx = some o := by
    obtain ⟨o, _, _, e', _⟩ := hn
    exact ⟨o, e'⟩
  exact h _ (I.write (t' := tk') (x := dx) (e := dx) (o := exd dx ((f, y) :: fs)) (by rw [ed]; trivial) (.inl rfl) k there (exd_ok hn (relO_put ry rel)))
end
/-- self.f = e in the __init__ of such a class -/
def tStE (K : PySem.W.Frag) (fl : List Str) (f : Str) (to te : TE) : TS := fun D σ H => te σ H fun y H1 => to σ H1 fun x H2 => ∃ a C : Addr, x = .ref a ∧ ErrC K C fl ∧ f ∈ fl ∧
  ((H2 a = some (exo a C none) ∧ ∀ dx, H2 dx = none → dx ≠ a → D.nx σ (upd (upd H2 dx (exd dx [(f, y)])) a (exo a C (some dx)))) ∨
    ∃ (dx : Addr) (fs : List (Str × V)), H2 a = some (exo a C (some dx)) ∧ H2 dx = some (exd dx fs) ∧ fs.length ≤ 900 ∧ D.nx σ (upd H2 dx (exd dx ((f, y) :: fs))))
/-- C(e, ..): a new exception; behind it stand its class, its dict -/
def tMkE (C : Addr) (sp : Sp) (ta : TA) : L2.St → Hp → XK → Prop := fun σ H Q => ta σ H fun vs H1 => vs.length ≤ 1000 ∧ ∀ a, H1 a = none → sp (.ref a :: vs) (upd H1 a (exo a C none))
  (fun v H2 => v = .non ∧ ∃ (d : Addr) (fs : List (Str × V)), H2 a = some (exo a C (some d)) ∧ H2 d = some (exd d fs) ∧ H1 d = none ∧ Q (.ref C) (some d) (upd (del H2 a) d (.xd fs))) (fun _ _ _ => False)
section
variable {X : Cx} {o e : Expr} {es : List Expr} {to te : TE} {ta : TA} {f : Str} {p p' pos : Pos} {fl : List Str}
theorem ps_stE (ho : PE X o to) (he : PE X e te) (hs : swapsWith e (some (.Attribute o f p')) pos.line X.env = pure false := by rfl) : PS X (.Assign [.Attribute o f p'] e pos) (tStE X.K fl f to te) := by
  refine ⟨fun pins s σ H D I h => ?_⟩
  refine plainObj_wpAny_Assign_Attribute (thn (he.run pins s σ H _ I h) fun v s1 ⟨y, H1, I1, r1, q1⟩ => thn (ho.run pins s1 σ H1 _ I1 q1) fun u s2 ⟨x, H2, I2, r2, a, C, ex, T, hno, q⟩ => ?_) hs
  subst ex
  cases (show u = Value.ref a from r2)
  rcases q with ⟨ea, q⟩ | ⟨dx, fs, ea, ed, hl, q⟩
  · exact stE_new T I2 ea hno r1 fun dx s' n ne J => ⟨σ, _, J, q dx n ne⟩
  · exact stE_old T I2 ea ed hl hno r1 fun s' J => ⟨σ, _, J, q⟩
theorem pmk_E {CX : CXT} {x : Str} {C fI : Addr} {k : Nat} {fd : FuncData} {ps : List Str} {sp : Sp} (T : ErrC X.K C fl) (iC : PySem.W.findIn X.K (.ref C) "__init__" = some (some (.ref fI))) (tI : PySem.W.typeIn X.K (.ref fI) = some (.type "function"))
    (F1 : FnOk X.prog X.w X.K X.mg X.base CX k fI fd ps sp) (hr : Room (k + 1) X.A) (hb : Binds X.K fd ps []) (hx : Passes CX X (fun _ _ _ => False)) (hg : Gl X x) (hm : X.mg x = some (.ref C)) (ha : PA X (e :: es) ta)
    (hdb : (x == ("__debug__" : Str)) = false := by decide) (he : starEach (e :: es) X.env = (false, eval e X.env) :: starEach es X.env := by rfl) (hpl : (backTo pos (starEach es X.env)).any (·.1) = false := by rfl) :
    PMk X (.Call (.Name x p) (e :: es) [] pos) (tMkE C sp ta) := by
  intro pins s σ H Q I h
  obtain ⟨nm, q, N, bs, bm, sn, sub, ab, col, dd, k0, k1, k2, k3, k5, hC, hbm⟩ := T.cls
  have hbm' : tailOf bm = exT := beq_iff_eq.mp hbm
  refine wpAny_Call_Name_kw (ld_glob I hg hm ?_ hdb)
  refine PySem.W.callWith_K (h₀ := X.base) I.ok.mod.kin T.kC (thn (ha.run pos pins s σ H _ I h) fun us s1 ⟨vs, H1, I1, r1, hz, q1⟩ => ⟨I1.kIn, ?_⟩) he hpl
  show wpAny _ _ (call (.ref C) us) _ _ _
  obtain ⟨hp, g, dr, tk, os⟩ := s1
  have big : hp.objs.size ≤ hp.objs.size + 1 := Nat.le_succ _
  have hq := q1 (hp.objs.size + 1) (I1.hok.fresh big)
  have kk : ∀ b o, hp.get? b = some o → ((hp.push (PySem.W.kdv_tup us)).push (PySem.HandSPX.excO C hp.objs.size)).get? b = some o := fun b o e => Heap.get?_push_of_some _ (Heap.get?_push_of_some _ e)
  have hget : ((hp.push (PySem.W.kdv_tup us)).push (PySem.HandSPX.excO C hp.objs.size)).get? (hp.objs.size + 1) = some (PySem.HandSPX.excO C hp.objs.size) := by heap_get
  have I2 := I1.laid (t' := tk) (a := hp.objs.size + 1) (o := exo (hp.objs.size + 1) C none) (h' := (hp.push (PySem.W.kdv_tup us)).push (PySem.HandSPX.excO C hp.objs.size)) kk big (exo_ok hget)
  have r2 : Vals (V.ref (hp.objs.size + 1) :: vs) (Value.ref (hp.objs.size + 1) :: us) := .cons rfl r1
  have hl : (Value.ref (hp.objs.size + 1) :: us ++ []).length = ps.length := by
    rw [List.append_nil, ← r2.length]
    exact F1.len _ _ _ _ hq
  have hus : us.length ≤ sizeLine := by
    rw [← Paired.length r1, sizeLine_eq]
    omega
  have bnd := hb _ (Value.ref (hp.objs.size + 1) :: us) I2.kIn hl
  rw [List.append_nil] at bnd
  refine wpAny_call (PySem.HandSPX.call_own PySem.F.excBase_Exception (fun Y => (tail_has Y bm).trans (by rw [hbm'])) (I1.kIn _ _ hC) (PySem.W.looks_findIn I1.kIn iC) (fun self => PySem.W.bind_fn I1.kIn self tI) hus
    (codeAny_mono (F1.run _ X.stack _ _ ⟨Value.ref (hp.objs.size + 1) :: us, []⟩ (Value.ref (hp.objs.size + 1) :: us) _ _ (fun _ _ _ => False) (hr.make C us []) (I2.env0.make C us []) bnd r2 hq) fun r s' hq' => ?_))
  rcases r with er | fl'
  · exact hx pins σ _ _ er s' I2 hq'
  · cases fl' with
    | ret u =>
      obtain ⟨v, H2, os2, bare2, un2, hok2, rv, ev, d, fs, ea, ed, hd1, q2⟩ := hq'
      subst ev
      obtain ⟨h2, g2, d2, t2, os'⟩ := s'
      exact ⟨rv, mk_end (raises_own T.exC T.tyC) I1 big kk un2 hok2 os2 bare2 ea ed hd1 q2⟩
    | next => exact hq'.elim
    | brk => exact hq'.elim
    | cont => exact hq'.elim
/-- raise C(e, ..) -/
theorem ps_raiseE {CX : CXT} {W : WX} {x : Str} {C fI : Addr} {k : Nat} {fd : FuncData} {ps : List Str} {sp : Sp} {pos2 : Pos} (hc : X.calm = true) (tk : Takes X W) (T : ErrC X.K C fl) (iC : PySem.W.findIn X.K (.ref C) "__init__" = some (some (.ref fI))) (tI : PySem.W.typeIn X.K (.ref fI) = some (.type "function"))
    (F1 : FnOk X.prog X.w X.K X.mg X.base CX k fI fd ps sp) (hr : Room (k + 1) X.A) (hb : Binds X.K fd ps []) (hx : Passes CX X (fun _ _ _ => False)) (hg : Gl X x) (hm : X.mg x = some (.ref C)) (ha : PA X (e :: es) ta)
    (hdb : (x == ("__debug__" : Str)) = false := by decide) (he : starEach (e :: es) X.env = (false, eval e X.env) :: starEach es X.env := by rfl) (hpl : (backTo pos (starEach es X.env)).any (·.1) = false := by rfl) :
    PS X (.Raise (some (.Call (.Name x p) (e :: es) [] pos)) none pos2) (fun _ σ H => tMkE C sp ta σ H fun cls d H' => W cls d σ H') := ps_raise hc tk (pmk_E T iC tI F1 hr hb hx hg hm ha hdb he hpl)
end
end K0
set_option Elab.async false
set_option linter.all false
set_option maxRecDepth 100000
set_option maxHeartbeats 2000000
namespace K0
open PySem PySem.Spec PyProof.Rows L2
theorem PS_imp {X : Cx} {st : Stmt} {t t' : TS} (h : PS X st t) (i : ∀ D σ H, t' D σ H → t D σ H) : PS X st t' := ⟨fun pins s σ H D I q => h.run pins s σ H D I (i D σ H q)⟩
/-- a def that lets nothing out is one that may -/
theorem up0 {P : Program} {w : World} {K : PySem.W.Frag} {mg : Str → Option Value} {base : Heap} {CX : CXT} {k : Nat} {f : Addr} {fd : FuncData} {ps : List Str} {sp : Sp} (F : FnOk P w K mg base CX0 k f fd ps sp) : FnOk P w K mg base CX k f fd ps sp :=
  ⟨F.len, fun A outer s H args us vs Q E hr he hb hv hs => codeAny_mono (F.run A outer s H args us vs Q E hr he hb hv hs) fun r s' h => by
    cases r with
    | error e => exact False.elim h
    | ok fl => cases fl <;> exact h⟩
theorem passN {X : Cx} : Passes CX0 X (fun _ _ _ => False) := fun _ _ _ _ _ _ _ h => h.elim
theorem passUp {P : Program} {w : World} {K : PySem.W.Frag} {mg : Str → Option Value} {base : Heap} {N : List Str} {qual : Str} {sc : Scope} {f : Addr} {cd : Value} {A : Around} {outer : List Env} {s : Shared} {H : Hp} {E : XK} :
    Passes (L2.CX P w) (cxOf (L2.CX P w) P w K mg base N qual sc f cd A outer s H E) E := passes_call (takes_of rfl rfl rfl rfl) fun _ _ _ _ h => h
/-! ### the __init__ of an error with one, with two fields -/
abbrev s_e1 : Stmt := inClass (top 4) 0
abbrev s_eW : Stmt := inClass (top 5) 0
abbrev s_eT : Stmt := inClass (top 6) 0
def spE1 (C : Addr) (f : Str) : Sp := fun vs H Q _ => ∃ (a : Addr) (v : V), vs = [.ref a, v] ∧ H a = some (exo a C none) ∧ ∀ dx, H dx = none → dx ≠ a → Q .non (upd (upd H dx (exd dx [(f, v)])) a (exo a C (some dx)))
def spE2 (C : Addr) (f g : Str) : Sp := fun vs H Q _ => ∃ (a : Addr) (v u : V), vs = [.ref a, v, u] ∧ H a = some (exo a C none) ∧ ∀ dx, H dx = none → dx ≠ a → Q .non (upd (upd (upd H dx (exd dx [(f, v)])) a (exo a C (some dx))) dx (exd dx [(g, u), (f, v)]))
section
variable {P : Program} {w : World} {K : PySem.W.Frag} {mg : Str → Option Value} {base : Heap} {f C : Addr} {fd : FuncData}
theorem sc_e1 : FnScope ["self", "name"] ["self", "name"] (defScope s_e1) := ⟨rfl, rfl, rfl, by decide +kernel, rfl, by decide +kernel, by decide +kernel⟩
theorem ok_e1 (F : Fun K "__init__" "BadNumber.__init__" s_e1 f fd) (T : ErrC K C ["name"]) : FnOk P w K mg base CX0 1 f fd ["self", "name"] (spE1 C "name") := by
  refine F.ok sc_e1 (fun vs H Q E h => ?_) (fun cdv A outer s H vs Q E hr h => ?_)
  · obtain ⟨a, v, rfl, _⟩ := h
    rfl
  · obtain ⟨a, v, rfl, ha, q⟩ := h
    refine ⟨_, pss_one (ps_stE (fl := ["name"]) (pv 0) (pv 1)), ?_⟩
    exact ⟨_, rfl, _, rfl, a, C, rfl, T, by decide, .inl ⟨ha, fun dx n ne => q dx n ne⟩⟩
theorem sc_eT : FnScope ["self", "thing"] ["self", "thing"] (defScope s_eT) := ⟨rfl, rfl, rfl, by decide +kernel, rfl, by decide +kernel, by decide +kernel⟩
theorem ok_eT (F : Fun K "__init__" "BadThing.__init__" s_eT f fd) (T : ErrC K C ["thing"]) : FnOk P w K mg base CX0 1 f fd ["self", "thing"] (spE1 C "thing") := by
  refine F.ok sc_eT (fun vs H Q E h => ?_) (fun cdv A outer s H vs Q E hr h => ?_)
  · obtain ⟨a, v, rfl, _⟩ := h
    rfl
  · obtain ⟨a, v, rfl, ha, q⟩ := h
    refine ⟨_, pss_one (ps_stE (fl := ["thing"]) (pv 0) (pv 1)), ?_⟩
    exact ⟨_, rfl, _, rfl, a, C, rfl, T, by decide, .inl ⟨ha, fun dx n ne => q dx n ne⟩⟩
theorem sc_eW : FnScope ["self", "x", "y"] ["self", "x", "y"] (defScope s_eW) := ⟨rfl, rfl, rfl, by decide +kernel, rfl, by decide +kernel, by decide +kernel⟩
theorem ok_eW (F : Fun K "__init__" "BadWeb.__init__" s_eW f fd) (T : ErrC K C ["x", "y"]) : FnOk P w K mg base CX0 1 f fd ["self", "x", "y"] (spE2 C "x" "y") := by
  refine F.ok sc_eW (fun vs H Q E h => ?_) (fun cdv A outer s H vs Q E hr h => ?_)
  · obtain ⟨a, v, u, rfl, _⟩ := h
    rfl
  · obtain ⟨a, v, u, rfl, ha, q⟩ := h
    refine ⟨_, pss_cons (ps_stE (fl := ["x", "y"]) (pv 0) (pv 1)) (pss_one (ps_stE (fl := ["x", "y"]) (pv 0) (pv 2))), ?_⟩
    refine ⟨_, rfl, _, rfl, a, C, rfl, T, by decide, .inl ⟨ha, fun dx n ne => ?_⟩⟩
    exact ⟨_, rfl, _, rfl, a, C, rfl, T, by decide, .inr ⟨dx, _, upd_same, (by rw [upd_ne ne, upd_same]), (by show 1 ≤ 900; decide), q dx n ne⟩⟩
end
/-! ### raising them -/
/-- an error class with its __init__, as it stands behind the top -/
structure Er (P : Program) (w : World) (K : PySem.W.Frag) (mg : Str → Option Value) (base : Heap) (x : Str) (C : Addr) (fl ps : List Str) (sp : Sp) : Prop where
  T : ErrC K C fl
  g : mg x = some (.ref C)
  ex : ∃ (fI : Addr) (fd : FuncData), PySem.W.findIn K (.ref C) "__init__" = some (some (.ref fI)) ∧ PySem.W.typeIn K (.ref fI) = some (.type "function") ∧ FnOk P w K mg base CX0 1 fI fd ps sp ∧ Binds K fd ps []
section
variable {X : Cx} {e e2 : Expr} {te te2 : TE} {x f g : Str} {C : Addr} {W : WX} {p pos pos2 : Pos}
def tRz1 (C : Addr) (f : Str) (W : WX) (te : TE) : TS := fun _ σ H => te σ H fun v H1 => ∀ d, H1 d = none → W (.ref C) (some d) σ (upd H1 d (.xd [(f, v)]))
theorem ps_rz1 (hc : X.calm = true) (tk : Takes X W) (T : Er X.prog X.w X.K X.mg X.base x C [f] ["self", f] (spE1 C f)) (hr : Room 2 X.A) (hg : Gl X x) (he : PE X e te)
    (mono : ∀ σ H (Q Q' : VK), (∀ v H', Q v H' → Q' v H') → te σ H Q → te σ H Q')
    (hdb : (x == ("__debug__" : Str)) = false := by decide) (hs : starEach [e] X.env = (false, eval e X.env) :: starEach [] X.env := by rfl) (hpl : (backTo pos (starEach [] X.env)).any (·.1) = false := by rfl) :
    PS X (.Raise (some (.Call (.Name x p) [e] [] pos)) none pos2) (tRz1 C f W te) := by
  obtain ⟨fI, fd, i1, i2, F, b⟩ := T.ex
  refine PS_imp (ps_raiseE hc tk T.T i1 i2 F hr b passN hg T.g (pa_cons he pa_nil hs) hdb hs hpl) fun D σ H q => ?_
  refine mono σ H _ _ (fun v H1 q1 => ?_) q
  refine ⟨by show 1 ≤ 1000; decide, fun a ha => ⟨a, v, rfl, upd_same, fun dx n ne => ⟨rfl, dx, [(f, v)], upd_same, ?_, ?_, ?_⟩⟩⟩
  · rw [upd_ne ne, upd_same]
  · rw [upd_ne ne] at n
    exact n
  · have n' : H1 dx = none := by rw [upd_ne ne] at n; exact n
    have z := q1 dx n'
    have eq : upd (del (upd (upd (upd H1 a (exo a C none)) dx (exd dx [(f, v)])) a (exo a C (some dx))) a) dx (HO.xd [(f, v)]) = upd H1 dx (.xd [(f, v)]) := by
      funext b
      by_cases hb : b = dx
      · rw [hb, upd_same, upd_same]
      · rw [upd_ne hb, upd_ne hb]
        by_cases hba : b = a
        · rw [hba, del_same, ha]
        · rw [del_ne hba, upd_ne hba, upd_ne hb, upd_ne hba]
    rw [eq]
    exact z
def tRz2 (C : Addr) (f g : Str) (W : WX) (te te2 : TE) : TS := fun _ σ H => te σ H fun v H0 => te2 σ H0 fun u H1 => ∀ d, H1 d = none → W (.ref C) (some d) σ (upd H1 d (.xd [(g, u), (f, v)]))
theorem ps_rz2 (hc : X.calm = true) (tk : Takes X W) (T : Er X.prog X.w X.K X.mg X.base x C [f, g] ["self", f, g] (spE2 C f g)) (hr : Room 2 X.A) (hg : Gl X x) (he : PE X e te) (he2 : PE X e2 te2)
    (mono : ∀ σ H (Q Q' : VK), (∀ v H', Q v H' → Q' v H') → te σ H Q → te σ H Q') (mono2 : ∀ σ H (Q Q' : VK), (∀ v H', Q v H' → Q' v H') → te2 σ H Q → te2 σ H Q')
    (hdb : (x == ("__debug__" : Str)) = false := by decide) (hs : starEach [e, e2] X.env = (false, eval e X.env) :: starEach [e2] X.env := by rfl) (hs2 : starEach [e2] X.env = (false, eval e2 X.env) :: starEach [] X.env := by rfl) (hpl : (backTo pos (starEach [e2] X.env)).any (·.1) = false := by rfl) :
    PS X (.Raise (some (.Call (.Name x p) [e, e2] [] pos)) none pos2) (tRz2 C f g W te te2) := by
  obtain ⟨fI, fd, i1, i2, F, b⟩ := T.ex
  refine PS_imp (ps_raiseE hc tk T.T i1 i2 F hr b passN hg T.g (pa_cons he (pa_cons he2 pa_nil hs2) hs) hdb hs hpl) fun D σ H q => ?_
  refine mono σ H _ _ (fun v H0 q0 => mono2 σ H0 _ _ (fun u H1 q1 => ?_) q0) q
  refine ⟨by show 2 ≤ 1000; decide, fun a ha => ⟨a, v, u, rfl, upd_same, fun dx n ne => ⟨rfl, dx, [(g, u), (f, v)], ?_, upd_same, ?_, ?_⟩⟩⟩
  · rw [upd_ne ne.symm, upd_same]
  · rw [upd_ne ne] at n
    exact n
  · have n' : H1 dx = none := by rw [upd_ne ne] at n; exact n
    have z := q1 dx n'
    have eq : upd (del (upd (upd (upd (upd H1 a (exo a C none)) dx (exd dx [(f, v)])) a (exo a C (some dx))) dx (exd dx [(g, u), (f, v)])) a) dx (HO.xd [(g, u), (f, v)]) = upd H1 dx (.xd [(g, u), (f, v)]) := by
      funext b
      by_cases hb : b = dx
      · rw [hb, upd_same, upd_same]
      · rw [upd_ne hb, upd_ne hb]
        by_cases hba : b = a
        · rw [hba, del_same, ha]
        · rw [del_ne hba, upd_ne hb, upd_ne hba, upd_ne hb, upd_ne hba]
    rw [eq]
    exact z
end
theorem mono_var (i : Nat) : ∀ (σ : L2.St) (H : Hp) (Q Q' : VK), (∀ v H', Q v H' → Q' v H') → tVar i σ H Q → tVar i σ H Q' := fun _ _ _ _ h ⟨v, e, q⟩ => ⟨v, e, h _ _ q⟩
theorem mono_c (v : V) : ∀ (σ : L2.St) (H : Hp) (Q Q' : VK), (∀ v H', Q v H' → Q' v H') → tC v σ H Q → tC v σ H Q' := fun _ _ _ _ h q => h _ _ q
end K0
set_option Elab.async false
set_option linter.all false
set_option maxRecDepth 100000
set_option maxHeartbeats 2000000
namespace K0
open PySem PySem.Spec PyProof.Rows L2
abbrev s_check_number : Stmt := top 14
/-- a def of the program as it stands: its name, its promise -/
structure Df (P : Program) (w : World) (K : PySem.W.Frag) (mg : Str → Option Value) (base : Heap) (x : Str) (k : Nat) (ps : List Str) (sp : Sp) : Prop where
  ex : ∃ (f : Addr) (fd : FuncData), mg x = some (.ref f) ∧ PySem.W.keepIn K (.ref f) = true ∧ FnOk P w K mg base (L2.CX P w) k f fd ps sp ∧ Binds K fd ps []
/-- the call of such a def -/
theorem pe_df {X : Cx} {x : Str} {k : Nat} {ps : List Str} {sp : Sp} {E : XK} {e : Expr} {es : List Expr} {t : TA} {p pos : Pos} (T : Df X.prog X.w X.K X.mg X.base x k ps sp) (hr : Room k X.A) (hg : Gl X x) (hx : Passes (L2.CX X.prog X.w) X E) (ha : PA X (e :: es) t)
    (hdb : (x == ("__debug__" : Str)) = false := by decide) (he : starEach (e :: es) X.env = (false, eval e X.env) :: starEach es X.env := by rfl) (hpl : (backTo pos (starEach es X.env)).any (·.1) = false := by rfl) :
    PE X (.Call (.Name x p) (e :: es) [] pos) (tCall sp [] E t) := by
  obtain ⟨f, fd, g, kp, F, b⟩ := T.ex
  exact pe_call F hr hg g kp b .nil hx ha hdb he hpl
section
variable {P : Program} {w : World} {K : PySem.W.Frag} {mg : Str → Option Value} {base : Heap} {f : Addr} {fd : FuncData}
/-- a raise of the error at C, with these fields -/
def Rz (C : Addr) (fs : List (Str × V)) (H : Hp) (E : XK) : Prop := ∀ H' d, Same H H' → H' d = some (.xd fs) → E (.ref C) (some d) H'
theorem Rz.at {C : Addr} {fs : List (Str × V)} {H H1 : Hp} {E : XK} (r : Rz C fs H E) (s : Same H H1) {d : Addr} (n : H1 d = none) : E (.ref C) (some d) (upd H1 d (.xd fs)) := r _ d (s.trans (same_upd n)) upd_same
def isTh (n : Int) : PyData → Bool
  | .int i => decide (0 ≤ i ∧ i < n)
  | _ => false
def spTh : Sp := fun vs H Q _ => ∃ n v d, vs = [.int n, v] ∧ Dt H v d ∧ Ret (.bl (isTh n d)) H Q
theorem sc_th : FnScope ["many", "value"] ["many", "value"] (defScope s_is_thing) := ⟨rfl, rfl, rfl, by decide +kernel, rfl, by decide +kernel, by decide +kernel⟩
theorem ok_th (F : Fun K "is_thing" "is_thing" s_is_thing f fd) (I : Df P w K mg base "is_int" 1 ["value"] spInt) : FnOk P w K mg base (L2.CX P w) 2 f fd ["many", "value"] spTh := by
  refine F.okX sc_th (fun vs H Q E h => ?_) (fun cdv A outer s H vs Q E hr h => ?_)
  · obtain ⟨n, v, d, rfl, _⟩ := h
    rfl
  · obtain ⟨n, v, d, rfl, hv, q⟩ := h
    refine ⟨_, pss_one (ps_ret (pe_and (pe_df I hr (by rfl) passUp (pa_cons (pv 1) pa_nil)) (pe_one (pe_chain op_le op_lt pe_int (pv 1) (pv 0))))), ?_⟩
    refine ⟨_, rfl, v, d, rfl, hv, ?_⟩
    cases hv with
    | int i =>
      refine ⟨_, rfl, iteT ⟨_, rfl, _, _, rfl, rfl, _, rfl, ?_⟩⟩
      by_cases h0 : 0 ≤ i
      · rw [decide_eq_true h0]
        refine iteT ⟨_, rfl, _, _, rfl, rfl, ?_⟩
        have e : isTh n (.int i) = decide (i < n) := by
          show decide (0 ≤ i ∧ i < n) = decide (i < n)
          simp [h0]
        rw [e] at q
        exact q.now
      · rw [decide_eq_false h0]
        have e : isTh n (.int i) = false := by
          show decide (0 ≤ i ∧ i < n) = false
          simp [h0]
        rw [e] at q
        exact iteF q.now
    | non => exact ⟨_, rfl, iteF q.now⟩
    | bl b => exact ⟨_, rfl, iteF q.now⟩
    | str b => exact ⟨_, rfl, iteF q.now⟩
    | lst e h => exact ⟨_, rfl, iteF q.now⟩
    | tup e h => exact ⟨_, rfl, iteF q.now⟩
end
end K0
set_option Elab.async false
set_option linter.all false
set_option maxRecDepth 100000
set_option maxHeartbeats 2000000
namespace K0
open PySem PySem.Spec PyProof.Rows L2
section
variable {P : Program} {w : World} {K : PySem.W.Frag} {mg : Str → Option Value} {base : Heap} {f : Addr} {fd : FuncData}
/-- check_number(value, name, least): the value, or BadNumber of the name -/
def okN (l : Int) : PyData → Bool
  | .int i => decide (l ≤ i)
  | _ => false
def spCn (C : Addr) : Sp := fun vs H Q E => ∃ (v : V) (d : PyData) (x : Str) (l : Int), vs = [v, .str x, .int l] ∧ Dt H v d ∧ (okN l d = true → Q v H) ∧ (okN l d = false → Rz C [("name", .str x)] H E)
theorem sc_cn : FnScope ["value", "name", "least"] ["value", "name", "least"] (defScope s_check_number) := ⟨rfl, rfl, rfl, by decide +kernel, rfl, by decide +kernel, by decide +kernel⟩
theorem ok_cn {C : Addr} (F : FunD K "check_number" "check_number" (defArgs s_check_number) (defBody s_check_number) (defScope s_check_number) [.int 0] [] f fd) (I : Df P w K mg base "is_int" 1 ["value"] spInt) (T : Er P w K mg base "BadNumber" C ["name"] ["self", "name"] (spE1 C "name")) :
    FnOk P w K mg base (L2.CX P w) 3 f fd ["value", "name", "least"] (spCn C) := by
  refine F.ok sc_cn (fun vs H Q E h => ?_) (fun cdv A outer s H vs Q E hr h => ?_)
  · obtain ⟨v, d, x, l, rfl, _⟩ := h
    rfl
  · obtain ⟨v, d, x, l, rfl, hv, q1, q2⟩ := h
    have hr1 : Room 1 _ := hr.mono (by decide)
    refine ⟨_, pss_cons (ps_if (PW.pt (pw_or (pt_not (pt_val (pe_df I hr1 (by rfl) passUp (pa_cons (pv 0) pa_nil)))) (pw_or1 (pt_cmpR op_lt (pv 0) (pv 2) (nomark _)))))
      (pss_one (ps_rz1 rfl (takes_of rfl rfl rfl rfl) T hr (by rfl) (pv 1) (mono_var 1))) pss_nil) (pss_one (ps_ret (pv 0))), ?_⟩
    refine ⟨_, rfl, v, d, rfl, hv, _, rfl, ?_⟩
    cases hv with
    | int i =>
      refine iteF ⟨_, rfl, _, rfl, _, _, rfl, rfl, _, rfl, ?_⟩
      by_cases c : i < l
      · rw [decide_eq_true c]
        have e : okN l (.int i) = false := by
          show decide (l ≤ i) = false
          simp [c]
        exact iteT ⟨_, rfl, fun dd nd => (q2 e).at (Same.refl _) nd⟩
      · rw [decide_eq_false c]
        have e : okN l (.int i) = true := by
          show decide (l ≤ i) = true
          simp
          omega
        exact iteF ⟨_, rfl, q1 e⟩
    | non => exact iteT ⟨_, rfl, fun dd nd => (q2 rfl).at (Same.refl _) nd⟩
    | bl b => exact iteT ⟨_, rfl, fun dd nd => (q2 rfl).at (Same.refl _) nd⟩
    | str b => exact iteT ⟨_, rfl, fun dd nd => (q2 rfl).at (Same.refl _) nd⟩
    | lst e h => exact iteT ⟨_, rfl, fun dd nd => (q2 rfl).at (Same.refl _) nd⟩
    | tup e h => exact iteT ⟨_, rfl, fun dd nd => (q2 rfl).at (Same.refl _) nd⟩
theorem th_int {n : Int} {H : Hp} {v : V} {d : PyData} (h : Dt H v d) (t : isTh n d = true) : ∃ i, v = .int i ∧ d = .int i ∧ 0 ≤ i ∧ i < n := by
  cases h with
  | int i =>
    have z : 0 ≤ i ∧ i < n := of_decide_eq_true t
    exact ⟨i, rfl, rfl, z⟩
  | non => cases t
  | bl b => cases t
  | str b => cases t
  | lst e h => cases t
  | tup e h => cases t
end
end K0
set_option Elab.async false
set_option linter.all false
set_option maxRecDepth 100000
set_option maxHeartbeats 2000000
/-! a set of tuples of ints that grows item by item -/
namespace K0
open PySem PySem.Spec PyProof.Rows L2
section
variable {X : Cx}
theorem cr_setT0 : CallR X (.type "set") (fun xs H Q => xs = [] ∧ ∀ p, H p = none → Q (.ref p) (upd H p (SetTO X.prog X.w p []))) := by
  intro pins s σ H xs us Q I r h
  obtain ⟨rfl, q⟩ := h
  cases r
  refine setR_new fun _ => ?_
  have get : (s.heap.push { cls := .type "set", dict := none, data := .set #[] 0 (.fresh 0 0 (!X.w.params.followText "set-order")) }).get? s.heap.objs.size = some { cls := .type "set", dict := none, data := .set #[] 0 (.fresh 0 0 (!X.w.params.followText "set-order")) } := Heap.get?_push_size _ rfl
  have R := setTR_fresh (P := X.prog) (w := X.w) get
  exact ⟨.ref _, _, I.laid (t' := s.toks) (fun b u e => Heap.get?_push_of_some _ e) (Nat.le_refl _) (setTO_new R.t0), rfl, q _ (I.hok.fresh (Nat.le_refl _))⟩
/-- what is asked ahead of found.add(t) -/
def rTAdd (K : PySem.W.Frag) (P : Program) (w : World) : V → List V → Hp → VK → Prop := fun x xs H Q => ∃ (a b : Addr) (k : List Int) (L : List (Addr × List Int)), x = V.ref a ∧ xs = [V.ref b] ∧ H a = some (SetTO P w a L) ∧
  (∀ p ∈ L, SqT K H p.1 (p.2.map V.int)) ∧ SqT K H b (k.map V.int) ∧ L.length + 1 < 64 ∧
  ∀ L', (k ∈ L.map (·.2) → L' = L) → (k ∉ L.map (·.2) → L'.Perm ((b, k) :: L)) → Q .non (upd H a (SetTO P w a L'))
theorem mt_tadd (hu : X.A.units + 64 < cLine) : MtR X "set.add" (rTAdd X.K X.prog X.w) := by
  intro pins s σ H x xs v us Q I rx rxs h
  obtain ⟨a, b, k, L, rfl, rfl, ha, hL, hb, few, q⟩ := h
  cases rx
  rw [Vals.ref1 rxs]
  have R0 : SetT0 X.prog X.w s.heap a L := (I.hok a _ ha).1
  obtain ⟨es, ep, t, R⟩ := R0.full fun p hp => I.isT (hL p hp)
  obtain ⟨o, ho, hex, hd⟩ := R.ob
  have tid : s.TypeIs (.ref a) "set" := ⟨o, ho, hex.1⟩
  refine wpAny_call_entry PySem.F.slot_set_add tid PySem.F.entry_set_add ?_ (PySem.F.args_set_add_2 _ _)
  unfold Builtin.«set.add» Builtin.Frozenset.oneOther
  simp only [List.isEmpty_nil, bind_assoc]
  unfold Builtin.Frozenset.addrOf setAdd
  refine wpAny_bind (wpAny_pure ?_)
  try dsimp only
  refine wpAny_bind (wpAny_pure ?_)
  try dsimp only
  refine wpAny_bind ?_
  refine wpAny_holding ?_
  have hx := I.isT hb
  have hin : ∀ B : Around, B.units ≤ X.A.units + 8 → B.units < cLine := fun B h => by omega
  refine wpAny_bind (wpAny_pyHash_tuple (ks := k) (hin _ ?_) hx ?_)
  · first | exact Nat.le_add_right _ 8 | (show X.A.units + 1 ≤ X.A.units + 8; omega)
  refine add_at (s := { s with toks := s.toks + (k.length + 1) }) R hx (hin _ ?_) few fun bb h' L' es' ep' t' hsb hS2 c1 c2 => ?_
  case _ => first | exact Nat.le_add_right _ 8 | (show X.A.units + 1 ≤ X.A.units + 8; omega)
  show wpAny _ _ (ret Value.none) _ _ _
  have he : ∃ u, h'.get? a = some u := by
    obtain ⟨o2, ho2, _⟩ := hS2.ob
    exact ⟨o2, ho2⟩
  exact wpAny_pure ⟨_, rfl, .non, _, I.write (e := a) (t' := s.toks + (k.length + 1)) (by rw [ha]; trivial) (.inl rfl) (fun b u hb hu => (hsb.2 b hb).trans hu) he (setTO_new hS2.t0), rfl, q L' c1 c2⟩
def tTAdd (K : PySem.W.Frag) (P : Program) (w : World) (to : TE) (t : TA) : TE := fun σ H Q => to σ H fun x H1 => (∃ a L, x = V.ref a ∧ H1 a = some (SetTO P w a L)) ∧ t σ H1 fun xs H2 => rTAdd K P w x xs H2 Q
variable {o e : Expr} {es : List Expr} {to : TE} {t : TA} {apos cpos : Pos}
theorem pe_tadd (hu : X.A.units + 64 < cLine) (ho : PE X o to) (ha : PA X (e :: es) t)
    (hbase : attributeBase o "add" X.env (eval o X.env) = eval o X.env := by rfl)
    (hfew : ((backTo cpos (starEach (e :: es) X.env)).all (fun x => !x.1) && (backToKw cpos (keywordEach [] X.env)).all (fun x => x.1.isSome) && decide ((e :: es).length + ([] : List Keyword).length + (if ([] : List Keyword).isEmpty then 0 else 1) < 30)) = true := by rfl)
    (hline : (apos.endLine == cpos.line) = true := by rfl) (hs : starEach (e :: es) X.env = (false, eval e X.env) :: starEach es X.env := by rfl) (hplain : (backTo cpos (starEach es X.env)).any (·.1) = false := by rfl) :
    PE X (.Call (.Attribute o "add" apos) (e :: es) [] cpos) (tTAdd X.K X.prog X.w to t) := by
  refine ⟨fun pins s σ H Q I h => ?_⟩
  refine wpAny_Call_method_late hbase hfew hline rfl (thn (ho.run pins s σ H _ I h) fun v s1 ⟨x, H1, I1, r1, ty, q1⟩ => ?_)
  obtain ⟨a, L, rfl, hka⟩ := ty
  obtain ⟨es', ep', t', ⟨ob, hob, hex, hdd⟩, _⟩ := SetT0.ex (I1.hok a _ hka).1
  cases r1
  refine ⟨"set", "set.add", PySem.F.plainAttrs_set, PySem.F.slot_set_add, PySem.F.type_set_add, ⟨ob, hob, hex.1⟩, (fun z hz => by cases hz; exact ⟨ob, hob, hex.2.1⟩), ?_⟩
  have hA := ha.run cpos pins s1 σ H1 _ I1 q1
  rw [hs] at hA ⊢
  refine Calls.callWith_builtin (by show (false || (backTo cpos (starEach es X.env)).any (·.1)) = false; rw [hplain]; rfl) (Calls.evalArgs_plain ?_)
  exact thn hA fun us s2 ⟨vs, H2, I2, r2, q2⟩ => mt_tadd hu pins s2 σ H2 (.ref a) vs (.ref a) us Q I2 rfl r2 q2
end
end K0
set_option Elab.async false
set_option linter.all false
set_option maxRecDepth 100000
set_option maxHeartbeats 2000000
namespace K0
open PySem PySem.Spec PyProof.Rows L2
/-! ### plain facts -/
theorem bor_nat (a b : Nat) : Builtin.bitOr (a : Int) (b : Int) = ((a ||| b : Nat) : Int) := by
  have h1 : ¬ 0 ≤ Builtin.bitNot (a : Int) := by unfold Builtin.bitNot; omega
  have h2 : ¬ 0 ≤ Builtin.bitNot (b : Int) := by unfold Builtin.bitNot; omega
  have n : ∀ c : Nat, Builtin.bitNot (Builtin.bitNot (c : Int)) = (c : Int) := fun c => by unfold Builtin.bitNot; omega
  unfold Builtin.bitOr
  rw [bitAnd_nn h1 h2, n, n, n, Int.toNat_natCast, Int.toNat_natCast]
theorem len_sub {α : Type} [DecidableEq α] : ∀ (l m : List α), l.Nodup → (∀ x ∈ l, x ∈ m) → l.length ≤ m.length
  | [], _, _, _ => Nat.zero_le _
  | a :: l, m, hn, hs => by
    have ha : a ∈ m := hs a List.mem_cons_self
    obtain ⟨hna, hnl⟩ := List.nodup_cons.mp hn
    have ih := len_sub l (m.erase a) hnl fun x hx => (List.mem_erase_of_ne (fun e => hna (by rw [← e]; exact hx))).mpr (hs x (List.mem_cons_of_mem _ hx))
    rw [List.length_erase_of_mem ha] at ih
    have := List.length_pos_of_mem ha
    rw [List.length_cons]
    omega
/-! ### pairs -/
abbrev Pr := Int × Int
/-- below, as tuples are -/
def plt (p q : Pr) : Prop := p.1 < q.1 ∨ (p.1 = q.1 ∧ p.2 < q.2)
theorem plt_irrefl {p : Pr} : ¬ plt p p := by unfold plt; omega
theorem plt_asymm {p q : Pr} (h : plt p q) : ¬ plt q p := by unfold plt at *; omega
theorem srt_unique : ∀ {l m : List Pr}, l.Pairwise plt → m.Pairwise plt → (∀ x, x ∈ l ↔ x ∈ m) → l = m
  | [], [], _, _, _ => rfl
  | [], b :: m, _, _, h => by cases (h b).mpr List.mem_cons_self
  | a :: l, [], _, _, h => by cases (h a).mp List.mem_cons_self
  | a :: l, b :: m, hl, hm, h => by
    obtain ⟨al, ll⟩ := List.pairwise_cons.mp hl
    obtain ⟨bm, mm⟩ := List.pairwise_cons.mp hm
    have e : a = b := by
      rcases List.mem_cons.mp ((h a).mp List.mem_cons_self) with e | e
      · exact e
      rcases List.mem_cons.mp ((h b).mpr List.mem_cons_self) with e2 | e2
      · exact e2.symm
      exact absurd (al b e2) (plt_asymm (bm a e))
    subst e
    rw [srt_unique ll mm fun x => ⟨fun hx => ?_, fun hx => ?_⟩]
    · rcases List.mem_cons.mp ((h x).mp (List.mem_cons_of_mem _ hx)) with e | e
      · rw [e] at hx
        exact absurd (al a hx) plt_irrefl
      · exact e
    · rcases List.mem_cons.mp ((h x).mpr (List.mem_cons_of_mem _ hx)) with e | e
      · rw [e] at hx
        exact absurd (bm a hx) plt_irrefl
      · exact e
/-- all pairs x < y < n stand among these -/
def code8 : List Pr := (List.range 16).flatMap fun (x : Nat) => ((List.range 16).filter fun (y : Nat) => decide (x < y)).map fun (y : Nat) => ((x : Int), (y : Int))
theorem code8_len : code8.length = 120 := by decide +kernel
theorem mem_code8 {p : Pr} (h : 0 ≤ p.1 ∧ p.1 < p.2 ∧ p.2 < 16) : p ∈ code8 := by
  obtain ⟨x, y⟩ := p
  obtain ⟨h1, h2, h3⟩ := h
  obtain ⟨a, rfl⟩ := Int.eq_ofNat_of_zero_le h1
  obtain ⟨b, rfl⟩ := Int.eq_ofNat_of_zero_le (show (0 : Int) ≤ y by omega)
  unfold code8
  refine List.mem_flatMap.mpr ⟨a, List.mem_range.mpr (by omega), List.mem_map.mpr ⟨b, List.mem_filter.mpr ⟨List.mem_range.mpr (by omega), decide_eq_true (by omega)⟩, rfl⟩⟩
/-- a row of clashes as a web holds it -/
structure Cl (n : Int) (q : List Pr) : Prop where
  srt : q.Pairwise plt
  rng : ∀ p ∈ q, 0 ≤ p.1 ∧ p.1 < p.2 ∧ p.2 < n
theorem pairwise_nodup {l : List Pr} (h : l.Pairwise plt) : l.Nodup := List.Pairwise.imp (R := plt) (S := fun a b => a ≠ b) (fun {a b} hab e => plt_irrefl (p := b) (by rw [e] at hab; exact hab)) h
theorem few28 {n : Int} {q : List Pr} (hn : n ≤ 16) (nd : q.Nodup) (rng : ∀ p ∈ q, 0 ≤ p.1 ∧ p.1 < p.2 ∧ p.2 < n) : q.length ≤ 120 := by
  rw [← code8_len]
  exact len_sub q code8 nd fun p hp => mem_code8 ⟨(rng p hp).1, (rng p hp).2.1, Int.lt_of_lt_of_le (rng p hp).2.2 hn⟩
theorem Cl.few {n : Int} {q : List Pr} (h : Cl n q) (hn : n ≤ 16) : q.length ≤ 120 := few28 hn (pairwise_nodup h.srt) h.rng
/-! ### what an entry of clashes is worth -/
def pairOf : PyData → Option (PyData × PyData)
  | .list [x, y] => some (x, y)
  | .tuple [x, y] => some (x, y)
  | _ => none
def entOf (n : Int) (d : PyData) : Except (PyData × PyData) Pr :=
  match pairOf d with
  | none => .error (.none, .none)
  | some (.int x, .int y) => if 0 ≤ x ∧ x < n ∧ 0 ≤ y ∧ y < n ∧ x ≠ y then .ok (min x y, max x y) else .error (.int x, .int y)
  | some (x, y) => .error (x, y)
/-- all entries, or the first bad one -/
def entsOf (n : Int) : List PyData → Except (PyData × PyData) (List Pr)
  | [] => .ok []
  | d :: r => match entOf n d with
    | .error e => .error e
    | .ok p => match entsOf n r with
      | .error e => .error e
      | .ok ps => .ok (p :: ps)
theorem entsOf_app {n : Int} : ∀ {ds es : List PyData} {ps : List Pr}, entsOf n ds = .ok ps → entsOf n (ds ++ es) = (match entsOf n es with | .error e => .error e | .ok qs => .ok (ps ++ qs))
  | [], es, ps, h => by
    cases h
    show entsOf n es = _
    cases entsOf n es <;> rfl
  | d :: r, es, ps, h => by
    rw [entsOf] at h
    rw [List.cons_append, entsOf]
    cases e : entOf n d with
    | error x => rw [e] at h; cases h
    | ok p =>
      rw [e] at h
      dsimp only at h ⊢
      cases e2 : entsOf n r with
      | error x => rw [e2] at h; cases h
      | ok qs =>
        rw [e2] at h
        cases h
        rw [entsOf_app e2]
        cases entsOf n es <;> rfl
theorem entOf_rng {n : Int} {d : PyData} {p : Pr} (h : entOf n d = .ok p) : 0 ≤ p.1 ∧ p.1 < p.2 ∧ p.2 < n := by
  unfold entOf at h
  split at h
  · cases h
  · split at h
    · cases h
      dsimp only
      omega
    · cases h
  · cases h
theorem pairOf_is (d : PyData) : isPairD d = (pairOf d).isSome := by
  unfold isPairD pairOf
  cases d with
  | list xs =>
    match xs with
    | [] => rfl
    | [_] => rfl
    | [_, _] => rfl
    | _ :: _ :: _ :: r => simp
  | tuple xs =>
    match xs with
    | [] => rfl
    | [_] => rfl
    | [_, _] => rfl
    | _ :: _ :: _ :: r => simp
  | _ => rfl
end K0
set_option Elab.async false
set_option linter.all false
set_option maxRecDepth 100000
set_option maxHeartbeats 2000000
namespace K0
open PySem PySem.Spec PyProof.Rows L2
abbrev s_cc : Stmt := top 25
theorem pi_or {X : Cx} {tg it : Expr} {w1 w2 : TI} (h1 : PI X tg it w1) (h2 : PI X tg it w2) : PI X tg it (fun σ H R => w1 σ H R ∨ w2 σ H R) := ⟨fun pins s σ H R I h => h.elim (h1.run pins s σ H R I) (h2.run pins s σ H R I)⟩
theorem pg_or {X : Cx} {tg : Expr} {w1 w2 : TG} (h1 : PG X tg w1) (h2 : PG X tg w2) : PG X tg (fun v σ H Q => w1 v σ H Q ∨ w2 v σ H Q) := ⟨fun pins s σ H v u Q I r h => h.elim (h1.run pins s σ H v u Q I r) (h2.run pins s σ H v u Q I r)⟩
/-- a list or tuple of data, or the () that the program was loaded with -/
inductive Sq (K : PySem.W.Frag) (H : Hp) (a : Addr) (ds : List PyData) : Prop where
  | lst {xs : List V} (e : H a = some (.lst xs)) (h : DtAll H xs ds)
  | tup {xs : List V} (e : H a = some (.tup xs)) (h : DtAll H xs ds)
  | kon (e : ∀ H' : Hp, SqT K H' a []) (z : ds = [])
  | frz {o : Obj} {xs : List V} (e : H a = some (.frz o (.tup xs))) (h : DtAll H xs ds)
theorem Sq.mono {K : PySem.W.Frag} {H H' : Hp} (s : Same H H') {a : Addr} {ds : List PyData} : Sq K H a ds → Sq K H' a ds
  | .lst e h => .lst (s _ _ e) (h.mono s)
  | .tup e h => .tup (s _ _ e) (h.mono s)
  | .kon e z => .kon e z
  | .frz e h => .frz (s _ _ e) (h.mono s)
theorem SqT.frz {K : PySem.W.Frag} {H : Hp} {a : Addr} {o : Obj} {xs : List V} (e : H a = some (.frz o (.tup xs))) : SqT K H a xs := .inl (.inr ⟨o, e⟩)
def prD (p : Pr) : PyData := .tuple [.int p.1, .int p.2]
theorem dt_pr {H : Hp} {t : Addr} {p : Pr} (h : H t = some (.tup [.int p.1, .int p.2])) : Dt H (.ref t) (prD p) := .tup h (.cons (.int _) (.cons (.int _) .nil))
theorem dtAll_prs {H : Hp} : ∀ {l : List (Addr × Pr)}, (∀ z ∈ l, H z.1 = some (.tup [.int z.2.1, .int z.2.2])) → DtAll H (l.map fun z => V.ref z.1) (l.map fun z => prD z.2)
  | [], _ => .nil
  | z :: r, h => .cons (dt_pr (h z List.mem_cons_self)) (dtAll_prs fun y hy => h y (List.mem_cons_of_mem _ hy))
section
variable {P : Program} {w : World} {K : PySem.W.Frag} {mg : Str → Option Value} {base : Heap} {f : Addr} {fd : FuncData}
structure Blt2 (mg : Str → Option Value) : Prop extends Blt mg where
  set : mg "set" = none
  min : mg "min" = none
  max : mg "max" = none
  sorted : mg "sorted" = none
  range : mg "range" = none
  enum : mg "enumerate" = none
  repr : mg "repr" = none
  iter : mg "iter" = none
/-- a new tuple of the pairs q -/
def NewQ (q : List Pr) (H : Hp) (Q : VK) : Prop := ∀ H' a xs, Same H H' → H a = none → H' a = some (.tup xs) → (∃ l : List (Addr × Pr), xs = l.map (fun z => V.ref z.1) ∧ q = l.map (·.2) ∧ ∀ z ∈ l, H z.1 = none ∧ H' z.1 = some (.tup [.int z.2.1, .int z.2.2])) → Q (.ref a) H'
/-- checked_clashes: the clashes as a web holds them, or BadWeb of the first bad entry -/
def spCC (K : PySem.W.Frag) (C : Addr) : Sp := fun vs H Q E => ∃ n a ds, vs = [.int n, .ref a] ∧ n ≤ 16 ∧ ds.length ≤ 62 ∧ Sq K H a ds ∧
  (∀ ps, entsOf n ds = .ok ps → ∀ q, Cl n q → (∀ p, p ∈ q ↔ p ∈ ps) → NewQ q H Q) ∧
  (∀ x y, entsOf n ds = .error (x, y) → ∀ H' d vx vy, Same H H' → Dt H' vx x → Dt H' vy y → H' d = some (.xd [("y", vy), ("x", vx)]) → E (.ref C) (some d) H')
/-- behind some items: the set at s holds the pairs ps, its tuples at their places -/
structure Sofar (P : Program) (w : World) (H0 H : Hp) (s : Addr) (n : Int) (ps : List Pr) : Prop where
  same : Same H0 H
  new : H0 s = none
  set : ∃ L : List (Addr × List Int), H s = some (SetTO P w s L) ∧ (L.map (·.2)).Nodup ∧ (∀ z ∈ L, H0 z.1 = none ∧ H z.1 = some (.tup (z.2.map V.int)) ∧ ∃ p ∈ ps, z.2 = [p.1, p.2]) ∧ ∀ p ∈ ps, ([p.1, p.2] : List Int) ∈ L.map (·.2)
theorem pair_at {H : Hp} {v : V} {d dx dy : PyData} (h : Dt H v d) (e : pairOf d = some (dx, dy)) : ∃ a vx vy, v = .ref a ∧ (H a = some (.tup [vx, vy]) ∨ H a = some (.lst [vx, vy])) ∧ Dt H vx dx ∧ Dt H vy dy := by
  cases h with
  | @lst a xs ds ea h =>
    match ds, h, e with
    | [_, _], .cons h1 (.cons h2 .nil), e =>
      cases e
      exact ⟨a, _, _, rfl, .inr ea, h1, h2⟩
  | @tup a xs ds ea h =>
    match ds, h, e with
    | [_, _], .cons h1 (.cons h2 .nil), e =>
      cases e
      exact ⟨a, _, _, rfl, .inl ea, h1, h2⟩
  | non => cases e
  | bl b => cases e
  | int i => cases e
  | str x => cases e
theorem Sofar.start {H : Hp} {s : Addr} {n : Int} (ns : H s = none) : Sofar P w H (upd H s (SetTO P w s [])) s n [] :=
  ⟨same_upd ns, ns, [], upd_same, List.nodup_nil, fun z hz => (by cases hz), fun p hp => (by cases hp)⟩
theorem Sofar.far {H0 H H1 : Hp} {s : Addr} {n : Int} {ps : List Pr} (h : Sofar P w H0 H s n ps) (e : Same H H1) : Sofar P w H0 H1 s n ps := by
  obtain ⟨L, h1, h2, h3, h4⟩ := h.set
  exact ⟨h.same.trans e, h.new, L, e _ _ h1, h2, fun z hz => ⟨(h3 z hz).1, e _ _ (h3 z hz).2.1, (h3 z hz).2.2⟩, h4⟩
/-- the set holds few -/
theorem Sofar.few {H0 H : Hp} {s : Addr} {n : Int} {ps : List Pr} {L : List (Addr × List Int)} (nd : (L.map (·.2)).Nodup) (hL : ∀ z ∈ L, ∃ p ∈ ps, z.2 = [p.1, p.2]) : L.length ≤ ps.length := by
  let g : Addr × List Int → Pr := fun z => (z.2.getD 0 0, z.2.getD 1 0)
  have hg : ∀ z ∈ L, g z ∈ ps ∧ z.2 = [(g z).1, (g z).2] := fun z hz => by
    obtain ⟨p, hp, e⟩ := hL z hz
    have eg : g z = p := by
      show (z.2.getD 0 0, z.2.getD 1 0) = p
      rw [e]
      rfl
    rw [eg]
    exact ⟨hp, e⟩
  have nd2 : (L.map g).Nodup := by
    refine List.pairwise_map.mpr ?_
    refine List.Pairwise.imp_of_mem (fun {a b} ha hb hne e => ?_) (List.pairwise_map.mp nd)
    refine hne ?_
    rw [(hg a ha).2, (hg b hb).2, e]
  have := len_sub (L.map g) ps nd2 fun p hp => by
    obtain ⟨z, hz, e⟩ := List.mem_map.mp hp
    rw [← e]
    exact (hg z hz).1
  rw [List.length_map] at this
  exact this
theorem Sofar.add {H0 H : Hp} {s b : Addr} {n : Int} {ps : List Pr} {p : Pr} {L L' : List (Addr × List Int)} (hS : H0 s = none) (sm : Same H0 H) (h1 : H s = some (SetTO P w s L)) (h2 : (L.map (·.2)).Nodup)
    (h3 : ∀ z ∈ L, H0 z.1 = none ∧ H z.1 = some (.tup (z.2.map V.int)) ∧ ∃ p ∈ ps, z.2 = [p.1, p.2]) (h4 : ∀ p ∈ ps, ([p.1, p.2] : List Int) ∈ L.map (·.2)) (hb : H0 b = none) (hbt : H b = some (.tup [.int p.1, .int p.2]))
    (c1 : ([p.1, p.2] : List Int) ∈ L.map (·.2) → L' = L) (c2 : ([p.1, p.2] : List Int) ∉ L.map (·.2) → L'.Perm ((b, [p.1, p.2]) :: L)) : Sofar P w H0 (upd H s (SetTO P w s L')) s n (ps ++ [p]) := by
  have sm2 : Same H0 (upd H s (SetTO P w s L')) := fun c o e => by
    rw [upd_ne (ne_of_none e hS)]
    exact sm c o e
  have tup_ne : ∀ {c : Addr} {xs : List V}, H c = some (.tup xs) → c ≠ s := fun {c xs} e z => by
    rw [z, h1] at e
    cases e
  by_cases m : ([p.1, p.2] : List Int) ∈ L.map (·.2)
  · have e := c1 m
    subst e
    refine ⟨sm2, hS, _, upd_same, h2, fun z hz => ?_, fun q hq => ?_⟩
    · obtain ⟨a1, a2, q, hq, a3⟩ := h3 z hz
      exact ⟨a1, by rw [upd_ne (tup_ne a2)]; exact a2, q, List.mem_append_left _ hq, a3⟩
    · rcases List.mem_append.mp hq with hq | hq
      · exact h4 q hq
      · rw [List.mem_singleton.mp hq]
        exact m
  · have pm := c2 m
    refine ⟨sm2, hS, _, upd_same, ?_, fun z hz => ?_, fun q hq => ?_⟩
    · refine (pm.map (·.2)).nodup_iff.mpr ?_
      rw [List.map_cons]
      exact List.nodup_cons.mpr ⟨m, h2⟩
    · rcases List.mem_cons.mp (pm.mem_iff.mp hz) with e | hz
      · rw [e]
        exact ⟨hb, by rw [upd_ne (tup_ne hbt)]; exact hbt, p, List.mem_append_right _ (List.mem_singleton.mpr rfl), rfl⟩
      · obtain ⟨a1, a2, q, hq, a3⟩ := h3 z hz
        exact ⟨a1, by rw [upd_ne (tup_ne a2)]; exact a2, q, List.mem_append_left _ hq, a3⟩
    · rw [(pm.map (·.2)).mem_iff, List.map_cons]
      rcases List.mem_append.mp hq with hq | hq
      · exact List.mem_cons_of_mem _ (h4 q hq)
      · rw [List.mem_singleton.mp hq]
        exact List.mem_cons_self
/-- what is sorted at the end -/
theorem Sofar.fin {n : Int} {ps : List Pr} {L L' : List (Addr × List Int)} (hn : n ≤ 16) (rng : ∀ p ∈ ps, 0 ≤ p.1 ∧ p.1 < p.2 ∧ p.2 < n) (hL : ∀ z ∈ L, ∃ p ∈ ps, z.2 = [p.1, p.2]) (all : ∀ p ∈ ps, ([p.1, p.2] : List Int) ∈ L.map (·.2)) (pm : L'.Perm L)
    (nd : (L'.map (·.2)).Nodup) (ord : L'.Pairwise fun q r => TS.code 64 q.2 ≤ TS.code 64 r.2) :
    ∃ l : List (Addr × Pr), L' = l.map (fun z => (z.1, [z.2.1, z.2.2])) ∧ Cl n (l.map (·.2)) ∧ ∀ p, p ∈ l.map (·.2) ↔ p ∈ ps := by
  let g : Addr × List Int → Addr × Pr := fun z => (z.1, z.2.getD 0 0, z.2.getD 1 0)
  have hg : ∀ z ∈ L', (g z).2 ∈ ps ∧ z = ((g z).1, [(g z).2.1, (g z).2.2]) := fun z hz => by
    obtain ⟨p, hp, e⟩ := hL z (pm.mem_iff.mp hz)
    have eg : (g z).2 = p := by
      show (z.2.getD 0 0, z.2.getD 1 0) = p
      rw [e]
      rfl
    refine ⟨by rw [eg]; exact hp, ?_⟩
    rw [eg, ← e]
  have mem : ∀ p, p ∈ (L'.map g).map (·.2) ↔ p ∈ ps := fun p => by
    rw [List.map_map]
    constructor
    · intro hp
      obtain ⟨z, hz, e⟩ := List.mem_map.mp hp
      rw [← e]
      exact (hg z hz).1
    · intro hp
      obtain ⟨z, hz, e⟩ := List.mem_map.mp (all p hp)
      refine List.mem_map.mpr ⟨z, pm.mem_iff.mpr hz, ?_⟩
      show (z.2.getD 0 0, z.2.getD 1 0) = p
      rw [e]
      rfl
  refine ⟨L'.map g, ?_, ⟨?_, fun p hp => rng p ((mem p).mp hp)⟩, mem⟩
  · rw [List.map_map]
    refine (List.map_congr_left fun z hz => ?_).trans (List.map_id _) |>.symm
    exact ((hg z hz).2).symm
  · rw [List.map_map]
    refine List.pairwise_map.mpr ?_
    have both := ord.and (List.pairwise_map.mp nd)
    refine List.Pairwise.imp_of_mem (fun {a b} ha hb hab => ?_) both
    obtain ⟨h1, h2⟩ := hab
    obtain ⟨ra, ea⟩ := hg a ha
    obtain ⟨rb, eb⟩ := hg b hb
    have r1 := rng _ ra
    have r2 := rng _ rb
    rw [ea, eb] at h1 h2
    have z := pair_lt h1 h2 (by omega) (by omega) (by omega) (by omega)
    exact z
end
end K0
set_option Elab.async false
set_option linter.all false
set_option maxRecDepth 100000
set_option maxHeartbeats 4000000
namespace K0
open PySem PySem.Spec PyProof.Rows L2
section
variable {P : Program} {w : World} {K : PySem.W.Frag} {mg : Str → Option Value} {base : Heap} {f : Addr} {fd : FuncData}
theorem sc_cc : FnScope ["many", "clashes", "pairs", "pair", "x", "y"] ["many", "clashes"] (defScope s_cc) := ⟨rfl, rfl, rfl, by decide +kernel, rfl, by decide +kernel, by decide +kernel⟩
theorem take_at {α : Type} {l : List α} {i : Nat} {x : α} (h : l[i]? = some x) : l.take (i + 1) = l.take i ++ [x] := by
  rw [List.take_succ, h]
  rfl
theorem drop_at {α : Type} {l : List α} {i : Nat} {x : α} (h : l[i]? = some x) : l = l.take i ++ x :: l.drop (i + 1) := by
  obtain ⟨hi, e⟩ := List.getElem?_eq_some_iff.mp h
  rw [← e, ← List.drop_eq_getElem_cons hi, List.take_append_drop]
theorem ents_bad {n : Int} {ds : List PyData} {i : Nat} {d : PyData} {ps : List Pr} {x y : PyData} (h1 : entsOf n (ds.take i) = .ok ps) (hd : ds[i]? = some d) (e : entOf n d = .error (x, y)) : entsOf n ds = .error (x, y) := by
  rw [drop_at hd, entsOf_app h1, entsOf, e]
theorem ents_good {n : Int} {ds : List PyData} {i : Nat} {d : PyData} {ps : List Pr} {p : Pr} (h1 : entsOf n (ds.take i) = .ok ps) (hd : ds[i]? = some d) (e : entOf n d = .ok p) : entsOf n (ds.take (i + 1)) = .ok (ps ++ [p]) := by
  rw [take_at hd, entsOf_app h1, entsOf, e]
  rfl
theorem ents_rng {n : Int} : ∀ {ds : List PyData} {ps : List Pr}, entsOf n ds = .ok ps → ∀ p ∈ ps, 0 ≤ p.1 ∧ p.1 < p.2 ∧ p.2 < n
  | [], ps, h => by
    cases h
    exact fun p hp => by cases hp
  | d :: r, ps, h => by
    rw [entsOf] at h
    cases e : entOf n d with
    | error x => rw [e] at h; cases h
    | ok q =>
      rw [e] at h
      dsimp only at h
      cases e2 : entsOf n r with
      | error x => rw [e2] at h; cases h
      | ok qs =>
        rw [e2] at h
        cases h
        intro p hp
        rcases List.mem_cons.mp hp with hp | hp
        · rw [hp]; exact entOf_rng e
        · exact ents_rng e2 p hp
/-- a loop over a list or tuple of data that the body leaves as it is -/
theorem ents_len {n : Int} : ∀ {ds : List PyData} {ps : List Pr}, entsOf n ds = .ok ps → ps.length = ds.length
  | [], ps, h => by
    cases h
    rfl
  | d :: r, ps, h => by
    rw [entsOf] at h
    cases e : entOf n d with
    | error x => rw [e] at h; cases h
    | ok q =>
      rw [e] at h
      dsimp only at h
      cases e2 : entsOf n r with
      | error x => rw [e2] at h; cases h
      | ok qs =>
        rw [e2] at h
        cases h
        rw [List.length_cons, List.length_cons, ents_len e2]
theorem tfor_sq {K : PySem.W.Frag} {i : Nat} {a : Addr} {ds : List PyData} {g : TG} {tb : TS} {D : Ends} {σ : L2.St} {H H0 : Hp} (hv : σ[i]? = some (some (.ref a))) (h : Sq K H0 a ds) (Pv : Nat → L2.St → Hp → Prop) (h0 : Pv 0 σ H)
    (hl : ∀ j σ H', Pv j σ H' → ∀ o, H0 a = some o → H' a = some o)
    (hs : ∀ j v d σ H', ds[j]? = some d → Dt H0 v d → Pv j σ H' → g v σ H' fun σ2 H2 => tb { D with nx := Pv (j + 1), ct := Pv (j + 1), bk := D.nx } σ2 H2) (hd : ∀ σ H', Pv ds.length σ H' → D.nx σ H') :
    tFor (fun σ H R => iList K (tVar i) σ H R ∨ iTup K (tVar i) σ H R) g tb D σ H := by
  cases h with
  | @lst xs e h =>
    refine .inl ⟨_, hv, a, rfl, ⟨xs, SqL.of (hl 0 _ _ h0 _ e)⟩, for_list (K := K) (a := a) (xs := xs) Pv h0 (fun j σ H' _ p => SqL.of (hl j σ H' p _ e)) (fun j v σ H' hj p => ?_) (fun σ H' p => ?_)⟩
    · obtain ⟨d, hd, hdt⟩ := h.at hj
      exact hs j v d σ H' hd hdt p
    · rw [h.len] at p
      exact hd σ H' p
  | @tup xs e h =>
    refine .inr ⟨_, hv, a, rfl, ⟨xs, SqT.of (hl 0 _ _ h0 _ e)⟩, for_tup (K := K) (a := a) (xs := xs) Pv h0 (fun j σ H' _ p => SqT.of (hl j σ H' p _ e)) (fun j v σ H' hj p => ?_) (fun σ H' p => ?_)⟩
    · obtain ⟨d, hd, hdt⟩ := h.at hj
      exact hs j v d σ H' hd hdt p
    · rw [h.len] at p
      exact hd σ H' p
  | @frz o xs e h =>
    refine .inr ⟨_, hv, a, rfl, ⟨xs, SqT.frz (hl 0 _ _ h0 _ e)⟩, for_tup (K := K) (a := a) (xs := xs) Pv h0 (fun j σ H' _ p => SqT.frz (hl j σ H' p _ e)) (fun j v σ H' hj p => ?_) (fun σ H' p => ?_)⟩
    · obtain ⟨d, hd, hdt⟩ := h.at hj
      exact hs j v d σ H' hd hdt p
    · rw [h.len] at p
      exact hd σ H' p
  | kon e z =>
    refine .inr ⟨_, hv, a, rfl, ⟨[], e _⟩, for_tup (K := K) (a := a) (xs := []) Pv h0 (fun j σ H' _ p => e _) (fun j v σ H' hj p => ?_) (fun σ H' p => ?_)⟩
    · cases hj
    · rw [z] at hd
      exact hd σ H' p
theorem entOf_ok {n : Int} {d : PyData} {p : Pr} (h : entOf n d = .ok p) : ∃ i k, pairOf d = some (.int i, .int k) ∧ (0 ≤ i ∧ i < n) ∧ (0 ≤ k ∧ k < n) ∧ i ≠ k := by
  unfold entOf at h
  split at h
  · cases h
  · rename_i x y e
    split at h
    · rename_i c
      exact ⟨x, y, e, ⟨c.1, c.2.1⟩, ⟨c.2.2.1, c.2.2.2.1⟩, c.2.2.2.2⟩
    · cases h
  · cases h
theorem entOf_err {n : Int} {d x y : PyData} (e : pairOf d = some (x, y)) (no : ∀ p, entOf n d ≠ .ok p) : entOf n d = .error (x, y) := by
  cases q : entOf n d with
  | ok p => exact absurd q (no p)
  | error z =>
    unfold entOf at q
    rw [e] at q
    split at q
    · rename_i w; cases w
    · rename_i w
      cases w
      split at q
      · cases q
      · exact q.symm
    · rename_i w
      cases w
      exact q.symm
theorem min2 (x y : Int) : (if y < x then y else x) = min x y := by omega
theorem max2 (x y : Int) : (if y > x then y else x) = max x y := by omega
theorem ok_cc {C : Addr} (F : Fun K "checked_clashes" "checked_clashes" s_cc f fd) (B : Blt2 mg) (IP : Df P w K mg base "is_pair" 1 ["value"] spPair) (TH : Df P w K mg base "is_thing" 2 ["many", "value"] spTh)
    (T : Er P w K mg base "BadWeb" C ["x", "y"] ["self", "x", "y"] (spE2 C "x" "y")) : FnOk P w K mg base (L2.CX P w) 3 f fd ["many", "clashes"] (spCC K C) := by
  refine F.okX sc_cc (fun vs H Q E h => ?_) (fun cdv A outer s H vs Q E hr h => ?_)
  · obtain ⟨n, a, ds, rfl, _⟩ := h
    rfl
  · obtain ⟨n, a, ds, rfl, hn, h62, hs, kq, ke⟩ := h
    have hr1 : Room 1 _ := hr.mono (by decide)
    have hu := hr.units
    have nd := sc_cc.nd
    refine ⟨_, pss_cons (ps_set (i := 2) nd rfl (.inl rfl) (pe_callTy0 cr_setT0 (by rfl) B.set (by decide +kernel)))
      (pss_cons (ps_for (passes_of rfl) rfl (pi_or (pi_list (pv 1)) (pi_tup (pv 1))) (pg_name (i := 3) nd rfl (.inl rfl))
        (pss_cons (ps_if (pt_not (pt_val (pe_df IP hr1 (by rfl) passUp (pa_cons (pv 3) pa_nil)))) (pss_one (ps_rz2 rfl (takes_of rfl rfl rfl rfl) T hr (by rfl) pe_non pe_non (mono_c .non) (mono_c .non))) pss_nil)
        (pss_cons (ps_asg (pv 3) (pg_or (pg_tup rfl (pgs_cons (pg_name (i := 4) nd rfl (.inl rfl)) (pgs_cons (pg_name (i := 5) nd rfl (.inl rfl)) pgs_nil))) (pg_unl rfl (pgs_cons (pg_name (i := 4) nd rfl (.inl rfl)) (pgs_cons (pg_name (i := 5) nd rfl (.inl rfl)) pgs_nil)))))
        (pss_cons (ps_if (PW.pt (pw_or (pt_not (pt_val (pe_df TH hr (by rfl) passUp (pa_cons (pv 0) (pa_cons (pv 4) pa_nil))))) (pw_or (pt_not (pt_val (pe_df TH hr (by rfl) passUp (pa_cons (pv 0) (pa_cons (pv 5) pa_nil))))) (pw_or1 (pt_cmpR op_eq (pv 4) (pv 5) (nomark _))))))
            (pss_one (ps_rz2 rfl (takes_of rfl rfl rfl rfl) T hr (by rfl) (pv 4) (pv 5) (mono_var 4) (mono_var 5))) pss_nil)
        (pss_one (ps_expr (pe_tadd hu (pv 2) (pa_cons (pe_tup (pa_cons (pe_callB (call_min2 rfl) (by rfl) B.min (by decide +kernel) (pa_cons (pv 4) (pa_cons (pv 5) pa_nil))) (pa_cons (pe_callB (call_max2 rfl) (by rfl) B.max (by decide +kernel) (pa_cons (pv 4) (pa_cons (pv 5) pa_nil))) pa_nil))) pa_nil))))))))
      (pss_one (ps_ret (pe_callTy call_tuple_of (by rfl) B.tuple (by decide +kernel) (pa_cons (pe_callB (cr_sortedT rfl) (by rfl) B.sorted (by decide +kernel) (pa_cons (pv 2) pa_nil)) pa_nil))))), ?_⟩
    refine ⟨rfl, fun s0 ns => ?_⟩
    -- the loop's word
    let Pv : Nat → L2.St → Hp → Prop := fun i σ H' => ∃ o3 o4 o5 ps, σ = [some (.int n), some (.ref a), some (.ref s0), o3, o4, o5] ∧ entsOf n (ds.take i) = .ok ps ∧ Sofar P w H H' s0 n ps
    have h0 : Pv 0 [some (.int n), some (.ref a), some (.ref s0), none, none, none] (upd H s0 (SetTO P w s0 [])) := ⟨none, none, none, [], rfl, rfl, Sofar.start ns⟩
    have sm0 : Same H (upd H s0 (SetTO P w s0 [])) := same_upd ns
    refine tfor_sq rfl hs Pv h0 (fun j σ H' p o e => ?_) (fun j v d σ H' hj hv p => ?_) (fun σ H' p => ?_)
    · obtain ⟨_, _, _, ps, _, _, S⟩ := p
      exact S.same _ _ e
    · obtain ⟨o3, o4, o5, ps, rfl, hps, S⟩ := p
      have hvH : Dt H' v d := hv.mono S.same
      refine ⟨_, rfl, v, d, rfl, hvH, fun H1 s1 => ⟨_, rfl, ?_⟩⟩
      cases ep : pairOf d with
      | none =>
        rw [pairOf_is, ep]
        refine iteT fun dd nd' => ?_
        have eb : entOf n d = .error (.none, .none) := by unfold entOf; rw [ep]
        exact ke .none .none (ents_bad hps hj eb) _ dd .non .non ((S.same.trans s1).trans (same_upd nd')) .non .non upd_same
      | some xy =>
        obtain ⟨dx, dy⟩ := xy
        rw [pairOf_is, ep]
        refine iteF ?_
        have S1 := S.far s1
        obtain ⟨b, vx, vy, rfl, hb, hx, hy⟩ := pair_at (hvH.mono s1) ep
        refine ⟨_, rfl, ?_⟩
        have un : ∀ (Q : L2.St → Hp → Prop), Q [some (.int n), some (.ref a), some (.ref s0), some (.ref b), some vx, some vy] H1 → (gTup K 2 (gCons (gName 4) (gCons (gName 5) gNil)) (.ref b) [some (.int n), some (.ref a), some (.ref s0), some (.ref b), o4, o5] H1 Q ∨ gUnl K 2 (gCons (gName 4) (gCons (gName 5) gNil)) (.ref b) [some (.int n), some (.ref a), some (.ref s0), some (.ref b), o4, o5] H1 Q) := fun Q q => by
          rcases hb with hb | hb
          · exact .inl ⟨b, _, rfl, SqT.of hb, rfl, vx, _, rfl, vy, _, rfl, rfl, q⟩
          · exact .inr ⟨b, _, rfl, SqL.of hb, rfl, vx, _, rfl, vy, _, rfl, rfl, q⟩
        refine un _ ?_
        -- the first is a thing?
        have bad : (∀ p, entOf n d ≠ .ok p) → ∀ H2 dd, Same H1 H2 → H2 dd = none → E (.ref C) (some dd) (upd H2 dd (.xd [("y", vy), ("x", vx)])) := fun no H2 dd s2 nd' => by
          have eb := entOf_err ep no
          have s3 := s2.trans (same_upd (o := .xd [("y", vy), ("x", vx)]) nd')
          exact ke dx dy (ents_bad hps hj eb) _ dd vx vy (S1.same.trans s3) (hx.mono s3) (hy.mono s3) upd_same
        refine ⟨_, rfl, _, rfl, n, vx, dx, rfl, hx, fun H2 s2 => ⟨_, rfl, ?_⟩⟩
        cases tx : isTh n dx with
        | false =>
          refine iteT ⟨_, rfl, _, rfl, fun dd nd' => bad (fun p e => ?_) _ dd s2 nd'⟩
          obtain ⟨i, k, e1, c1, c2, c3⟩ := entOf_ok e
          rw [ep] at e1
          cases e1
          rw [show isTh n (.int i) = true from decide_eq_true c1] at tx
          cases tx
        | true =>
          obtain ⟨i, rfl, rfl, hi⟩ := th_int hx tx
          refine iteF ⟨_, rfl, _, rfl, n, vy, dy, rfl, hy.mono s2, fun H3 s3 => ⟨_, rfl, ?_⟩⟩
          have s23 := s2.trans s3
          cases ty : isTh n dy with
          | false =>
            refine iteT ⟨_, rfl, _, rfl, fun dd nd' => bad (fun p e => ?_) _ dd s23 nd'⟩
            obtain ⟨i', k, e1, c1, c2, c3⟩ := entOf_ok e
            rw [ep] at e1
            cases e1
            rw [show isTh n (.int k) = true from decide_eq_true c2] at ty
            cases ty
          | true =>
            obtain ⟨k, rfl, rfl, hk⟩ := th_int hy ty
            refine iteF ⟨_, rfl, _, rfl, rfl, _, rfl, ?_⟩
            rw [dec_int]
            cases eq : (i == k) with
            | true =>
              refine iteT ⟨_, rfl, _, rfl, fun dd nd' => bad (fun p e => ?_) _ dd s23 nd'⟩
              obtain ⟨i', k', e1, c1, c2, c3⟩ := entOf_ok e
              rw [ep] at e1
              cases e1
              exact c3 (beq_iff_eq.mp eq)
            | false =>
              have ne : i ≠ k := fun z => by rw [z] at eq; simp at eq
              have eo : entOf n d = .ok (min i k, max i k) := by
                unfold entOf
                rw [ep]
                dsimp only
                rw [if_pos ⟨hi.1, hi.2, hk.1, hk.2, ne⟩]
              have S3 := S1.far s23
              obtain ⟨L, l1, l2, l3, l4⟩ := S3.set
              refine iteF ⟨_, rfl, ⟨s0, L, rfl, l1⟩, ?_⟩
              refine ⟨_, rfl, _, rfl, _, _, rfl, _, rfl, _, rfl, _, _, rfl, (by show 2 ≤ sizeLine; decide), fun t nt => ?_⟩
              rw [min2, max2]
              have s4 : Same H3 (upd H3 t (.tup [.int (min i k), .int (max i k)])) := same_upd nt
              have rng := ents_rng hps
              have few := Sofar.few (H0 := H) (H := H3) (s := s0) (n := n) l2 (fun z hz => (l3 z hz).2.2)
              have elen := ents_len hps
              rw [List.length_take] at elen
              refine ⟨s0, t, [min i k, max i k], L, rfl, rfl, s4 _ _ l1, fun z hz => SqT.of (s4 _ _ (l3 z hz).2.1), SqT.of upd_same, by omega, fun L' c1 c2 => ?_⟩
              refine ⟨_, _, _, ps ++ [(min i k, max i k)], rfl, ents_good hps hj eo, ?_⟩
              exact Sofar.add (p := (min i k, max i k)) S3.new (S3.same.trans s4) (s4 _ _ l1) l2 (fun z hz => ⟨(l3 z hz).1, s4 _ _ (l3 z hz).2.1, (l3 z hz).2.2⟩) l4 ((S3.same).free nt) upd_same c1 c2
    · obtain ⟨o3, o4, o5, ps, rfl, hps, S⟩ := p
      rw [List.take_length] at hps
      obtain ⟨L, l1, l2, l3, l4⟩ := S.set
      have rng := ents_rng hps
      refine ⟨_, rfl, s0, L, 2, 64, rfl, l1, fun z hz => SqT.of (l3 z hz).2.1, by decide, fun z hz => ?_, fun L' p pm nd' _ ord np => ?_⟩
      · obtain ⟨p, hp, e⟩ := (l3 z hz).2.2
        have := rng p hp
        rw [e]
        refine ⟨rfl, fun m hm => ?_⟩
        simp only [List.mem_cons, List.not_mem_nil, or_false] at hm
        omega
      · refine ⟨p, _, rfl, .inl ⟨SqL.of upd_same, fun l nl => ?_⟩⟩
        obtain ⟨ll, e1, hq, hmem⟩ := Sofar.fin hn rng (fun z hz => (l3 z hz).2.2) l4 pm nd' ord
        have s5 : Same H' (upd H' p (.lst (L'.map fun q => V.ref q.1))) := same_upd np
        have s6 := s5.trans (same_upd (o := .tup (L'.map fun q => V.ref q.1)) nl)
        refine kq ps hps _ hq hmem _ l (L'.map fun q => V.ref q.1) (S.same.trans s6) ((S.same.trans s5).free nl) upd_same ⟨ll, ?_, rfl, fun z hz => ?_⟩
        · rw [e1, List.map_map]
          rfl
        · have hz' : (z.1, [z.2.1, z.2.2]) ∈ L := pm.mem_iff.mp (by rw [e1]; exact List.mem_map.mpr ⟨z, hz, rfl⟩)
          have := l3 _ hz'
          exact ⟨this.1, s6 _ _ this.2.1⟩
end
end K0
set_option Elab.async false
set_option linter.all false
set_option maxRecDepth 100000
set_option maxHeartbeats 4000000
namespace K0
open PySem PySem.Spec PyProof.Rows L2
/-! ### masks -/
def mStep (ms : List Nat) (p : Pr) : List Nat :=
  let ms1 := ms.set p.1.toNat (ms.getD p.1.toNat 0 ||| 2 ^ p.2.toNat)
  ms1.set p.2.toNat (ms1.getD p.2.toNat 0 ||| 2 ^ p.1.toNat)
def mOf (n : Nat) (q : List Pr) : List Nat := q.foldl mStep (List.replicate n 0)
theorem mStep_len (ms : List Nat) (p : Pr) : (mStep ms p).length = ms.length := by simp [mStep]
theorem mFold_len : ∀ (q : List Pr) (ms : List Nat), (q.foldl mStep ms).length = ms.length
  | [], _ => rfl
  | p :: q, ms => by rw [List.foldl_cons, mFold_len q, mStep_len]
theorem mOf_len (n : Nat) (q : List Pr) : (mOf n q).length = n := by unfold mOf; rw [mFold_len, List.length_replicate]
theorem getD_set {l : List Nat} {i j v : Nat} (hi : i < l.length) : (l.set i v).getD j 0 = if j = i then v else l.getD j 0 := by
  rw [List.getD_eq_getElem?_getD, List.getElem?_set, List.getD_eq_getElem?_getD]
  by_cases e : i = j
  · subst e
    simp [hi]
  · rw [if_neg e, if_neg (fun z => e z.symm)]
/-- do x and y clash by the row q? -/
def hasP (q : List Pr) (x y : Nat) : Bool := decide (((x : Int), (y : Int)) ∈ q) || decide (((y : Int), (x : Int)) ∈ q)
theorem mStep_bit {ms : List Nat} {p : Pr} (h1 : 0 ≤ p.1) (h2 : p.1 < p.2) (h3 : p.2.toNat < ms.length) (x y : Nat) :
    ((mStep ms p).getD x 0).testBit y = ((ms.getD x 0).testBit y || (decide (x = p.1.toNat ∧ y = p.2.toNat) || decide (x = p.2.toNat ∧ y = p.1.toNat))) := by
  have a : p.1.toNat < ms.length := by omega
  have ne : p.1.toNat ≠ p.2.toNat := by omega
  unfold mStep
  dsimp only
  rw [getD_set (by rw [List.length_set]; exact h3), getD_set a, getD_set a]
  by_cases e2 : x = p.2.toNat
  · subst e2
    rw [if_pos rfl, if_neg (Ne.symm ne), Nat.testBit_or, Nat.testBit_two_pow]
    have : decide (p.2.toNat = p.1.toNat ∧ y = p.2.toNat) = false := decide_eq_false (fun z => ne z.1.symm)
    rw [this, Bool.false_or]
    congr 1
    simp only [true_and]
    exact decide_eq_decide.mpr ⟨fun h => h.symm, fun h => h.symm⟩
  · rw [if_neg e2]
    have z2 : decide (x = p.2.toNat ∧ y = p.1.toNat) = false := decide_eq_false (fun z => e2 z.1)
    rw [z2, Bool.or_false]
    by_cases e1 : x = p.1.toNat
    · subst e1
      rw [if_pos rfl, Nat.testBit_or, Nat.testBit_two_pow]
      congr 1
      simp only [true_and]
      exact decide_eq_decide.mpr ⟨fun h => h.symm, fun h => h.symm⟩
    · rw [if_neg e1, decide_eq_false (fun z : x = p.1.toNat ∧ y = p.2.toNat => e1 z.1), Bool.or_false]
theorem mFold_bit {n : Nat} : ∀ (q : List Pr) (ms : List Nat), ms.length = n → (∀ p ∈ q, 0 ≤ p.1 ∧ p.1 < p.2 ∧ p.2 < n) → ∀ x y, ((q.foldl mStep ms).getD x 0).testBit y = ((ms.getD x 0).testBit y || hasP q x y)
  | [], ms, _, _, x, y => by simp [hasP]
  | p :: q, ms, hl, h, x, y => by
    obtain ⟨a, b, c⟩ := h p List.mem_cons_self
    rw [List.foldl_cons, mFold_bit q (mStep ms p) (by rw [mStep_len]; exact hl) (fun r hr => h r (List.mem_cons_of_mem _ hr)) x y, mStep_bit a b (by omega)]
    rw [Bool.or_assoc]
    congr 1
    unfold hasP
    obtain ⟨p1, p2⟩ := p
    dsimp only at a b c ⊢
    have e1 : decide ((((x : Int), (y : Int)) : Pr) ∈ (p1, p2) :: q) = (decide (x = p1.toNat ∧ y = p2.toNat) || decide (((x : Int), (y : Int)) ∈ q)) := by
      rw [Bool.eq_iff_iff, Bool.or_eq_true, decide_eq_true_iff, decide_eq_true_iff, decide_eq_true_iff, List.mem_cons, Prod.mk.injEq]
      constructor
      · rintro (⟨h1, h2⟩ | h)
        · exact .inl ⟨by omega, by omega⟩
        · exact .inr h
      · rintro (⟨h1, h2⟩ | h)
        · exact .inl ⟨by omega, by omega⟩
        · exact .inr h
    have e2 : decide ((((y : Int), (x : Int)) : Pr) ∈ (p1, p2) :: q) = (decide (x = p2.toNat ∧ y = p1.toNat) || decide (((y : Int), (x : Int)) ∈ q)) := by
      rw [Bool.eq_iff_iff, Bool.or_eq_true, decide_eq_true_iff, decide_eq_true_iff, decide_eq_true_iff, List.mem_cons, Prod.mk.injEq]
      constructor
      · rintro (⟨h1, h2⟩ | h)
        · exact .inl ⟨by omega, by omega⟩
        · exact .inr h
      · rintro (⟨h1, h2⟩ | h)
        · exact .inl ⟨by omega, by omega⟩
        · exact .inr h
    rw [e1, e2]
    generalize decide (x = p1.toNat ∧ y = p2.toNat) = b1
    generalize decide (x = p2.toNat ∧ y = p1.toNat) = b2
    generalize decide (((x : Int), (y : Int)) ∈ q) = b3
    generalize decide (((y : Int), (x : Int)) ∈ q) = b4
    cases b1 <;> cases b2 <;> cases b3 <;> cases b4 <;> rfl
theorem mOf_bit {n : Nat} {q : List Pr} (h : Cl n q) (x y : Nat) : ((mOf n q).getD x 0).testBit y = hasP q x y := by
  unfold mOf
  rw [mFold_bit (n := n) q _ (by simp) h.rng x y]
  rw [List.getD_eq_getElem?_getD, List.getElem?_replicate]
  split <;> simp
end K0
set_option Elab.async false
set_option linter.all false
set_option maxRecDepth 100000
set_option maxHeartbeats 4000000
namespace K0
open PySem PySem.Spec PyProof.Rows L2
abbrev s_nm : Stmt := top 23
theorem dta_map {H : Hp} : ∀ {xs : List V} {q : List Pr} {i : Nat} {v : V}, DtAll H xs (q.map prD) → xs[i]? = some v → ∃ p a, q[i]? = some p ∧ v = .ref a ∧ H a = some (.tup [.int p.1, .int p.2]) := by
  intro xs q i v h e
  obtain ⟨d, hd, hv⟩ := h.at e
  rw [List.getElem?_map] at hd
  cases hq : q[i]? with
  | none => rw [hq] at hd; cases hd
  | some p =>
    rw [hq] at hd
    cases hd
    cases hv with
    | tup ea h2 =>
      cases h2 with
      | cons h3 h4 =>
        cases h4 with
        | cons h5 h6 =>
          cases h6
          cases h3
          cases h5
          exact ⟨p, _, rfl, rfl, ea⟩
section
variable {P : Program} {w : World} {K : PySem.W.Frag} {mg : Str → Option Value} {base : Heap} {f : Addr} {fd : FuncData}
def nvs (ms : List Nat) : List V := ms.map fun (k : Nat) => V.int (k : Int)
def spNm : Sp := fun vs H Q _ => ∃ (n : Int) (c : Addr) (xs : List V) (q : List Pr), vs = [.int n, .ref c] ∧ 0 ≤ n ∧ n ≤ 16 ∧ Cl n q ∧ H c = some (.tup xs) ∧ DtAll H xs (q.map prD) ∧
  ∀ H' m, Same H H' → H m = none → H' m = some (.tup (nvs (mOf n.toNat q))) → Q (.ref m) H'
theorem sc_nm : FnScope ["many", "clashes", "masks", "x", "y"] ["many", "clashes"] (defScope s_nm) := ⟨rfl, rfl, rfl, by decide +kernel, rfl, by decide +kernel, by decide +kernel⟩
theorem ixN_nat {n k : Nat} (h : k < n) : ixN n (k : Int) = some k := by
  unfold ixN
  rw [if_pos (Int.natCast_nonneg k), if_pos (by omega), Int.toNat_natCast]
theorem nvs_at {ms : List Nat} {k : Nat} (h : k < ms.length) : atI (nvs ms) (k : Int) = some (V.int ((ms.getD k 0 : Nat) : Int)) := by
  refine atI_nat ?_
  unfold nvs
  rw [List.getElem?_map, List.getElem?_eq_getElem h, List.getD_eq_getElem?_getD, List.getElem?_eq_getElem h]
  rfl
theorem nvs_set (ms : List Nat) (k v : Nat) : (nvs ms).set k (V.int (v : Int)) = nvs (ms.set k v) := by
  unfold nvs
  rw [List.map_set]
theorem nvs_len (ms : List Nat) : (nvs ms).length = ms.length := by unfold nvs; rw [List.length_map]
theorem rep_nvs (n : Nat) : (List.replicate n [V.int 0]).flatten = nvs (List.replicate n 0) := by
  unfold nvs
  rw [List.map_replicate]
  induction n with
  | zero => rfl
  | succ n ih => rw [List.replicate_succ, List.flatten_cons, ih, List.replicate_succ]; rfl
theorem shl1 (y : Nat) : (1 : Int) * 2 ^ ((y : Int).toNat) = ((2 ^ y : Nat) : Int) := by
  rw [Int.one_mul, Int.toNat_natCast]
  exact (Int.natCast_pow 2 y).symm
theorem OpR_imp {X : Cx} {f : Value → Value → Sem Value} {r r' : R2} (h : OpR X f r) (i : ∀ x y H Q, r' x y H Q → r x y H Q) : OpR X f r' := fun pins s σ H x y u v Q I rx ry q => h pins s σ H x y u v Q I rx ry (i _ _ _ _ q)
theorem op_orN {X : Cx} : OpR X (binaryOp .BitOr) (fun x y H Q => ∃ a b : Nat, x = .int (a : Int) ∧ y = .int (b : Int) ∧ Q (.int ((a ||| b : Nat) : Int)) H) := OpR_imp op_or fun x y H Q ⟨a, b, ex, ey, q⟩ => ⟨_, _, ex, ey, by show Q (.int (Builtin.bitOr (a : Int) (b : Int))) H; rw [bor_nat]; exact q⟩
theorem op_shl1 {X : Cx} : OpR X (binaryOp .LShift) (fun x y H Q => ∃ k : Nat, x = .int 1 ∧ y = .int (k : Int) ∧ k ≤ 1000 ∧ Q (.int ((2 ^ k : Nat) : Int)) H) := OpR_imp op_shl fun x y H Q ⟨k, ex, ey, hk, q⟩ => ⟨_, _, ex, ey, ⟨by omega, by omega, by decide⟩, by show Q (.int (1 * 2 ^ ((k : Int).toNat))) H; rw [shl1]; exact q⟩
theorem ok_nm (F : Fun K "near_masks" "near_masks" s_nm f fd) (B : Blt2 mg) : FnOk P w K mg base (L2.CX P w) 1 f fd ["many", "clashes"] spNm := by
  refine up0 (F.ok sc_nm (fun vs H Q E h => ?_) (fun cdv A outer s H vs Q E hr h => ?_))
  · obtain ⟨n, c, xs, q, rfl, _⟩ := h
    rfl
  · obtain ⟨n, c, xs, q, rfl, h0, h8, hq, hc, hx, kq⟩ := h
    have nd := sc_nm.nd
    obtain ⟨m, rfl⟩ := Int.eq_ofNat_of_zero_le h0
    rw [Int.toNat_natCast] at kq
    refine ⟨_, pss_cons (ps_set (i := 2) nd rfl (.inl rfl) (pe_op op_rep (pe_lst (pa_cons pe_int pa_nil)) (pv 0)))
      (pss_cons (ps_for PassesOwn.never rfl (pi_tup (pv 1)) (pg_tup rfl (pgs_cons (pg_name (i := 3) nd rfl (.inl rfl)) (pgs_cons (pg_name (i := 4) nd rfl (.inl rfl)) pgs_nil)))
        (pss_cons (ps_asg (pe_op op_orN (pe_ix ix_list (pv 2) (pv 3) (fun _ _ => rfl)) (pe_op op_shl1 pe_int (pv 4))) (pg_sub (pv 2) (pv 3) set_list))
        (pss_one (ps_asg (pe_op op_orN (pe_ix ix_list (pv 2) (pv 4) (fun _ _ => rfl)) (pe_op op_shl1 pe_int (pv 3))) (pg_sub (pv 2) (pv 4) set_list)))))
      (pss_one (ps_ret (pe_callTy call_tuple_of (by rfl) B.tuple (by decide +kernel) (pa_cons (pv 2) pa_nil))))), ?_⟩
    refine ⟨by show 1 ≤ sizeLine; decide, fun l nl => ?_⟩
    refine ⟨_, rfl, l, (m : Int), _, rfl, rfl, upd_same, by omega, by omega, ?_, fun t nt => ?_⟩
    · rw [Int.toNat_natCast, sizeLine_eq]
      show 1 * m ≤ _
      omega
    rw [Int.toNat_natCast, rep_nvs]
    have s1 : Same H (upd H l (.lst [V.int 0])) := same_upd nl
    have s2 := s1.trans (same_upd (o := .lst (nvs (List.replicate m 0))) nt)
    have ht : H t = none := s1.free nt
    let Pv : Nat → L2.St → Hp → Prop := fun i σ H' => ∃ o3 o4, σ = [some (.int (m : Int)), some (.ref c), some (.ref t), o3, o4] ∧ Same H H' ∧ H' t = some (.lst (nvs (mOf m (q.take i))))
    refine ⟨_, rfl, c, rfl, ⟨xs, SqT.of (s2 _ _ hc)⟩, for_tup (K := K) (a := c) (xs := xs) Pv ⟨none, none, rfl, s2, upd_same⟩ (fun i σ H' _ ⟨_, _, _, sm, _⟩ => SqT.of (sm _ _ hc)) ?_ ?_⟩
    · rintro i v σ H' hi ⟨o3, o4, rfl, sm, hl⟩
      obtain ⟨p, b, hp, rfl, hb⟩ := dta_map hx hi
      obtain ⟨r1, r2, r3⟩ := hq.rng p (List.mem_of_getElem? hp)
      obtain ⟨p1, p2⟩ := p
      dsimp only at r1 r2 r3 hb
      obtain ⟨x, rfl⟩ := Int.eq_ofNat_of_zero_le r1
      obtain ⟨y, rfl⟩ := Int.eq_ofNat_of_zero_le (show (0 : Int) ≤ p2 by omega)
      have hml : (mOf m (q.take i)).length = m := mOf_len _ _
      have hx8 : x < (mOf m (q.take i)).length := by omega
      have hy8 : y < (mOf m (q.take i)).length := by omega
      refine ⟨b, _, rfl, SqT.of (sm _ _ hb), rfl, _, _, rfl, _, _, rfl, rfl, ?_⟩
      refine ⟨_, rfl, _, rfl, t, _, _, _, rfl, rfl, SqL.of hl, nvs_at hx8, _, rfl, y, rfl, rfl, by omega, _, _, rfl, rfl, ?_⟩
      refine ⟨_, rfl, _, rfl, t, _, _, _, rfl, rfl, hl, (by rw [nvs_len]; exact ixN_nat hx8), ?_⟩
      rw [nvs_set]
      have hy9 : y < ((mOf m (q.take i)).set x ((mOf m (q.take i)).getD x 0 ||| 2 ^ y)).length := by rw [List.length_set]; exact hy8
      refine ⟨_, rfl, _, rfl, t, _, _, _, rfl, rfl, SqL.of upd_same, nvs_at hy9, _, rfl, x, rfl, rfl, by omega, _, _, rfl, rfl, ?_⟩
      refine ⟨_, rfl, _, rfl, t, _, _, _, rfl, rfl, upd_same, (by rw [nvs_len]; exact ixN_nat hy9), ?_⟩
      rw [nvs_set, upd_upd]
      refine ⟨_, _, rfl, fun a o e => ?_, ?_⟩
      · rw [upd_ne (ne_of_none e ht)]
        exact sm a o e
      · rw [upd_same, take_at hp]
        unfold mOf
        rw [List.foldl_append]
        rfl
    · rintro σ H' ⟨o3, o4, rfl, sm, hl⟩
      have el : xs.length = q.length := by rw [hx.len, List.length_map]
      rw [el, List.take_length] at hl
      refine ⟨_, rfl, t, _, rfl, .inl ⟨SqL.of hl, fun r nr => ?_⟩⟩
      exact kq _ r (sm.trans (same_upd nr)) (sm.free nr) upd_same
end
end K0
set_option Elab.async false
set_option linter.all false
set_option maxRecDepth 100000
set_option maxHeartbeats 4000000
namespace K0
open PySem PySem.Spec PyProof.Rows L2
abbrev s_wi : Stmt := inClass (top 28) 0
/-! ### what a web looks like -/
theorem k_mc : ¬ (("many" : Str) = "clashes") := by decide +kernel
theorem k_mm : ¬ (("many" : Str) = "masks") := by decide +kernel
theorem k_cm : ¬ (("clashes" : Str) = "masks") := by decide +kernel
def wf (n : Int) (c m : Addr) : List (Str × V) := putF "masks" (.ref m) (putF "clashes" (.ref c) (putF "many" (.int n) []))
theorem wf_many (n : Int) (c m : Addr) : (wf n c m).lookup ("many" : Str) = some (.int n) := by
  unfold wf
  rw [lookup_putF, if_neg k_mm, lookup_putF, if_neg k_mc, lookup_putF, if_pos rfl]
theorem wf_clashes (n : Int) (c m : Addr) : (wf n c m).lookup ("clashes" : Str) = some (.ref c) := by
  unfold wf
  rw [lookup_putF, if_neg k_cm, lookup_putF, if_pos rfl]
theorem wf_masks (n : Int) (c m : Addr) : (wf n c m).lookup ("masks" : Str) = some (.ref m) := by
  unfold wf
  rw [lookup_putF, if_pos rfl]
theorem wf_len1 (n : Int) : (putF ("many" : Str) (.int n) []).length < 1000 := by have := length_putF ("many" : Str) (.int n) []; simp at this; omega
theorem wf_len2 (n : Int) (c : Addr) : (putF ("clashes" : Str) (.ref c) (putF ("many" : Str) (.int n) [])).length < 1000 := by
  have h1 := length_putF ("clashes" : Str) (.ref c) (putF ("many" : Str) (.int n) [])
  have h2 := length_putF ("many" : Str) (.int n) []
  simp at h2
  omega
/-- the web of n things with the clashes q stands at p -/
structure WebAt (C : Addr) (H : Hp) (p : Addr) (n : Int) (q : List Pr) : Prop where
  ex : ∃ (dx c m : Addr) (l : List (Addr × Pr)), H p = some (.ins C dx (wf n c m)) ∧ H c = some (.tup (l.map fun z => V.ref z.1)) ∧ q = l.map (·.2) ∧ (∀ z ∈ l, H z.1 = some (.tup [.int z.2.1, .int z.2.2])) ∧ H m = some (.tup (nvs (mOf n.toNat q)))
  cl : Cl n q
  n0 : 0 ≤ n
  n8 : n ≤ 16
theorem WebAt.mono {C : Addr} {H H' : Hp} {p : Addr} {n : Int} {q : List Pr} (W : WebAt C H p n q) (s : Same H H') : WebAt C H' p n q := by
  obtain ⟨⟨dx, c, m, l, h1, h2, h3, h4, h5⟩, cl, n0, n8⟩ := W
  exact ⟨⟨dx, c, m, l, s _ _ h1, s _ _ h2, h3, fun z hz => s _ _ (h4 z hz), s _ _ h5⟩, cl, n0, n8⟩
/-- what is new in H' -/
def New (H H' : Hp) : Hp := fun b => match H b with
  | none => H' b
  | some _ => none
theorem new_at {H H' : Hp} {b : Addr} (h : H b = none) : New H H' b = H' b := by unfold New; rw [h]
theorem same_new {H H' : Hp} : Same (New H H') H' := fun b o e => by
  unfold New at e
  cases h : H b with
  | none => rw [h] at e; exact e
  | some _ => rw [h] at e; cases e
theorem new_mono {H H1 H' H2 : Hp} (a : ∀ b, H b = none → H' b ≠ none → H1 b = none) (s : Same H' H2) : Same (New H H') (New H1 H2) := fun b o e => by
  unfold New at e
  cases h : H b with
  | none =>
    rw [h] at e
    have e' : H' b = some o := e
    rw [new_at (a b h (by rw [e']; simp))]
    exact s _ _ e'
  | some _ => rw [h] at e; cases e
/-- all stays but the object at p -/
def SameX (p : Addr) (H H' : Hp) : Prop := ∀ b o, H b = some o → b ≠ p → H' b = some o
theorem SameX.trans {p : Addr} {H H1 H2 : Hp} (a : SameX p H H1) (b : SameX p H1 H2) : SameX p H H2 := fun c o e n => b c o (a c o e n) n
theorem sx {p : Addr} {H H' : Hp} (s : Same H H') : SameX p H H' := fun b o e _ => s b o e
theorem samex_upd {p : Addr} {H : Hp} {o : HO} : SameX p H (upd H p o) := fun b u e n => by rw [upd_ne n]; exact e
/-- lists and tuples alone -/
def seqs (H : Hp) : Hp := fun b => match H b with
  | some (.lst xs) => some (.lst xs)
  | some (.tup xs) => some (.tup xs)
  | _ => none
theorem seqs_lst {H : Hp} {b : Addr} {xs : List V} (e : H b = some (.lst xs)) : seqs H b = some (.lst xs) := by unfold seqs; rw [e]
theorem seqs_tup {H : Hp} {b : Addr} {xs : List V} (e : H b = some (.tup xs)) : seqs H b = some (.tup xs) := by unfold seqs; rw [e]
theorem seqs_of {H : Hp} {b : Addr} {o : HO} (e : seqs H b = some o) : H b = some o ∧ ∀ C dx fs, o ≠ .ins C dx fs := by
  unfold seqs at e
  split at e
  · rename_i h
    cases e
    exact ⟨h, fun _ _ _ z => by cases z⟩
  · rename_i h
    cases e
    exact ⟨h, fun _ _ _ z => by cases z⟩
  · cases e
mutual
theorem Dt.seqs {H : Hp} : ∀ {v : V} {d : PyData}, Dt H v d → Dt (seqs H) v d
  | _, _, .non => .non
  | _, _, .bl b => .bl b
  | _, _, .int i => .int i
  | _, _, .str x => .str x
  | _, _, .lst e h => .lst (seqs_lst e) (DtAll.seqs h)
  | _, _, .tup e h => .tup (seqs_tup e) (DtAll.seqs h)
theorem DtAll.seqs {H : Hp} : ∀ {v : List V} {d : List PyData}, DtAll H v d → DtAll (seqs H) v d
  | _, _, .nil => .nil
  | _, _, .cons h t => .cons (Dt.seqs h) (DtAll.seqs t)
end
theorem same_seqs {p C dx : Addr} {fs : List (Str × V)} {H H' : Hp} (hp : H p = some (.ins C dx fs)) (s : SameX p H H') : Same (seqs H) H' := fun b o e => by
  obtain ⟨h, no⟩ := seqs_of e
  exact s b o h fun z => by
    rw [z, hp] at h
    exact no C dx fs (Option.some.inj h).symm
theorem Dt.monoX {p C dx : Addr} {fs : List (Str × V)} {H H' : Hp} (hp : H p = some (.ins C dx fs)) (s : SameX p H H') {v : V} {d : PyData} (h : Dt H v d) : Dt H' v d := h.seqs.mono (same_seqs hp s)
theorem Sq.monoX {K : PySem.W.Frag} {p C dx : Addr} {fs : List (Str × V)} {H H' : Hp} (hp : H p = some (.ins C dx fs)) (s : SameX p H H') {a : Addr} {ds : List PyData} (h : Sq K H a ds) : Sq K H' a ds := by
  cases h with
  | lst e h => exact .lst (same_seqs hp s _ _ (seqs_lst e)) (h.seqs.mono (same_seqs hp s))
  | tup e h => exact .tup (same_seqs hp s _ _ (seqs_tup e)) (h.seqs.mono (same_seqs hp s))
  | kon e z => exact .kon e z
  | @frz o xs e h =>
    have e2 : H' a = some (.frz o (.tup xs)) := s _ _ e (by
      intro z
      rw [z, hp] at e
      cases e)
    exact .frz e2 (h.seqs.mono (same_seqs hp s))
section
variable {P : Program} {w : World} {K : PySem.W.Frag} {mg : Str → Option Value} {base : Heap} {f : Addr} {fd : FuncData}
/-- the class of webs as the top has made it -/
structure WebC (K : PySem.W.Frag) (C : Addr) : Prop where
  cl : Cls K C
  nm : NoAttr K C "many"
  nc : NoAttr K C "clashes"
  nk : NoAttr K C "masks"
/-- Web.__init__ -/
def spWi (K : PySem.W.Frag) (C CN CW : Addr) : Sp := fun vs H Q E => ∃ (p dx a : Addr) (v : V) (d : PyData) (ds : List PyData), vs = [.ref p, v, .ref a] ∧ H p = some (.ins C dx []) ∧ Dt H v d ∧ Sq K H a ds ∧
  (okN 0 d = false → ∀ H' e, SameX p H H' → H' e = some (.xd [("name", .str "many")]) → E (.ref CN) (some e) H') ∧
  (∀ n, d = .int n → 0 ≤ n → n ≤ 16 ∧ ds.length ≤ 62 ∧
    (∀ ps, entsOf n ds = .ok ps → ∀ q, Cl n q → (∀ z, z ∈ q ↔ z ∈ ps) → ∀ H', SameX p H H' → WebAt C (New (del H p) H') p n q → Q .non H') ∧
    (∀ x y, entsOf n ds = .error (x, y) → ∀ H' e vx vy, SameX p H H' → Dt H' vx x → Dt H' vy y → H' e = some (.xd [("y", vy), ("x", vx)]) → E (.ref CW) (some e) H'))
theorem sc_wi : FnScope ["self", "many", "clashes"] ["self", "many", "clashes"] (defScope s_wi) := ⟨rfl, rfl, rfl, by decide +kernel, rfl, by decide +kernel, by decide +kernel⟩
end
end K0
set_option Elab.async false
set_option linter.all false
set_option maxRecDepth 100000
set_option maxHeartbeats 4000000
namespace K0
open PySem PySem.Spec PyProof.Rows L2
/-- a def whose last parameters have defaults -/
structure DfD (P : Program) (w : World) (K : PySem.W.Frag) (mg : Str → Option Value) (base : Heap) (x : Str) (k : Nat) (ps : List Str) (dvs : List V) (sp : Sp) : Prop where
  ex : ∃ (f : Addr) (fd : FuncData) (ds : List Value), mg x = some (.ref f) ∧ PySem.W.keepIn K (.ref f) = true ∧ FnOk P w K mg base (L2.CX P w) k f fd ps sp ∧ Vals dvs ds ∧ Binds K fd ps ds
theorem pe_dfd {X : Cx} {x : Str} {k : Nat} {ps : List Str} {dvs : List V} {sp : Sp} {E : XK} {e : Expr} {es : List Expr} {t : TA} {p pos : Pos} (T : DfD X.prog X.w X.K X.mg X.base x k ps dvs sp) (hr : Room k X.A) (hg : Gl X x) (hx : Passes (L2.CX X.prog X.w) X E) (ha : PA X (e :: es) t)
    (hdb : (x == ("__debug__" : Str)) = false := by decide) (he : starEach (e :: es) X.env = (false, eval e X.env) :: starEach es X.env := by rfl) (hpl : (backTo pos (starEach es X.env)).any (·.1) = false := by rfl) :
    PE X (.Call (.Name x p) (e :: es) [] pos) (tCall sp dvs E t) := by
  obtain ⟨f, fd, ds, g, kp, F, v, b⟩ := T.ex
  exact pe_call F hr hg g kp b v hx ha hdb he hpl
section
variable {P : Program} {w : World} {K : PySem.W.Frag} {mg : Str → Option Value} {base : Heap} {f : Addr} {fd : FuncData}
theorem ok_wi {dvs : List V} {C CN CW : Addr} (F : FunD K "__init__" "Web.__init__" (defArgs s_wi) (defBody s_wi) (defScope s_wi) dvs [] f fd) (T : WebC K C) (CNum : DfD P w K mg base "check_number" 3 ["value", "name", "least"] [.int 0] (spCn CN))
    (CC : Df P w K mg base "checked_clashes" 3 ["many", "clashes"] (spCC K CW)) (NM : Df P w K mg base "near_masks" 1 ["many", "clashes"] spNm) : FnOk P w K mg base (L2.CX P w) 4 f fd ["self", "many", "clashes"] (spWi K C CN CW) := by
  refine F.ok sc_wi (fun vs H Q E h => ?_) (fun cdv A outer s H vs Q E hr h => ?_)
  · obtain ⟨p, dx, a, v, d, ds, rfl, _⟩ := h
    rfl
  · obtain ⟨p, dx, a, v, d, ds, rfl, hp, hv, hs, kn, kw⟩ := h
    have hr1 : Room 1 _ := hr.mono (by decide)
    refine ⟨_, pss_cons (ps_expr (pe_dfd CNum hr (by rfl) passUp (pa_cons (pv 1) (pa_cons pe_str pa_nil))))
      (pss_cons (ps_fld (pv 0) (pv 1) rfl)
      (pss_cons (ps_fld (pv 0) (pe_df CC hr (by rfl) passUp (pa_cons (pv 1) (pa_cons (pv 2) pa_nil))) rfl)
      (pss_one (ps_fld (pv 0) (pe_df NM hr1 (by rfl) passUp (pa_cons (pv 1) (pa_cons (pe_fld (pv 0) rfl) pa_nil))) rfl)))), ?_⟩
    refine ⟨_, rfl, v, d, _, 0, rfl, hv, fun ok => ?_, fun bad H' e sm he => kn bad H' e (sx sm) he⟩
    obtain ⟨n, rfl, rfl, h0⟩ : ∃ n, v = .int n ∧ d = .int n ∧ 0 ≤ n := by
      cases hv with
      | int i => exact ⟨i, rfl, rfl, of_decide_eq_true ok⟩
      | non => cases ok
      | bl b => cases ok
      | str b => cases ok
      | lst e h => cases ok
      | tup e h => cases ok
    obtain ⟨n8, n62, kq, ke⟩ := kw n rfl h0
    -- self.many = many
    refine ⟨_, rfl, _, rfl, p, C, dx, [], rfl, hp, T.cl, T.nm, (by show 0 < 1000; decide), ?_⟩
    have x1 : SameX p H (upd H p (.ins C dx (putF "many" (.int n) []))) := samex_upd
    have hs1 := hs.monoX hp x1
    -- self.clashes = checked_clashes(many, clashes)
    refine ⟨_, rfl, _, rfl, n, a, ds, rfl, n8, n62, hs1, fun ps hps q hq hm H2 c xs s2 nc hc hl => ?_, fun x y hxy H' e vx vy sm hx hy he => ke x y hxy H' e vx vy (x1.trans (sx sm)) hx hy he⟩
    have hp2 : H2 p = some (.ins C dx (putF "many" (.int n) [])) := s2 _ _ upd_same
    have cp : c ≠ p := fun z => by rw [z, upd_same] at nc; cases nc
    have nc' : H c = none := by rw [upd_ne cp] at nc; exact nc
    refine ⟨_, rfl, p, C, dx, _, rfl, hp2, T.cl, T.nc, wf_len1 n, ?_⟩
    obtain ⟨l, rfl, eq, hz⟩ := hl
    have x3 : SameX p H2 (upd H2 p (.ins C dx (putF "clashes" (.ref c) (putF "many" (.int n) [])))) := samex_upd
    have hc3 := x3 _ _ hc cp
    have zp : ∀ z ∈ l, z.1 ≠ p := fun z hz' e => by
      have := (hz z hz').1
      rw [e, upd_same] at this
      cases this
    have hz3 : ∀ z ∈ l, (upd H2 p (.ins C dx (putF "clashes" (.ref c) (putF "many" (.int n) [])))) z.1 = some (.tup [.int z.2.1, .int z.2.2]) := fun z hz' => x3 _ _ (hz z hz').2 (zp z hz')
    -- self.masks = near_masks(many, self.clashes)
    refine ⟨_, rfl, _, rfl, p, C, dx, _, .ref c, rfl, upd_same, T.cl, T.nc, (by rw [lookup_putF, if_pos rfl]), n, c, _, q, rfl, h0, n8, hq, hc3, (by rw [eq, List.map_map]; exact dtAll_prs hz3), fun H4 m s4 nm hm4 => ?_⟩
    have hp4 := s4 p _ upd_same
    have mp : m ≠ p := fun z => by rw [z, upd_same] at nm; cases nm
    have nm2 : H2 m = none := by rw [upd_ne mp] at nm; exact nm
    have nm' : H m = none := by
      have := s2.free nm2
      rw [upd_ne mp] at this
      exact this
    refine ⟨_, rfl, p, C, dx, _, rfl, hp4, T.cl, T.nk, wf_len2 n c, ?_⟩
    have x5 : SameX p H4 (upd H4 p (.ins C dx (wf n c m))) := samex_upd
    have xAll : SameX p H (upd H4 p (.ins C dx (wf n c m))) := x1.trans ((sx s2).trans (x3.trans ((sx s4).trans x5)))
    have dl : ∀ {b : Addr}, H b = none → (del H p) b = none := fun {b} h => by
      by_cases e : b = p
      · rw [e, del_same]
      · rw [del_ne e]; exact h
    refine kq ps hps q hq hm _ xAll ⟨⟨dx, c, m, l, ?_, ?_, eq, fun z hz' => ?_, ?_⟩, hq, h0, n8⟩
    · rw [new_at del_same]
      exact upd_same
    · rw [new_at (dl nc')]
      exact x5 _ _ (s4 _ _ hc3) cp
    · have n1 : H z.1 = none := by
        have := (hz z hz').1
        rw [upd_ne (zp z hz')] at this
        exact this
      rw [new_at (dl n1)]
      exact x5 _ _ (s4 _ _ (hz3 z hz')) (zp z hz')
    · rw [new_at (dl nm')]
      exact x5 _ _ hm4 mp
end
end K0
set_option Elab.async false
set_option linter.all false
set_option maxRecDepth 100000
set_option maxHeartbeats 4000000
namespace K0
open PySem PySem.Spec PyProof.Rows L2
abbrev s_ti : Stmt := top 22
def rS : R2 := fun x y H Q => ∃ a b : Nat, x = .int (a : Int) ∧ y = .int (b : Int) ∧ Q (.int ((a / 2 ^ b : Nat) : Int)) H
def rA : R2 := fun x y H Q => ∃ a : Nat, x = .int (a : Int) ∧ y = .int 1 ∧ Q (.int ((a % 2 : Nat) : Int)) H
theorem op_shr2 {X : Cx} : OpR X (binaryOp .RShift) rS := OpR_imp op_shr fun x y H Q ⟨a, b, ex, ey, q⟩ => ⟨_, _, ex, ey, Int.natCast_nonneg b, by
  show Q (.int ((a : Int) / 2 ^ ((b : Int).toNat))) H
  rw [Int.toNat_natCast, show (2 : Int) ^ b = ((2 ^ b : Nat) : Int) from (Int.natCast_pow 2 b).symm, ← Int.natCast_ediv]
  exact q⟩
theorem op_and1 {X : Cx} : OpR X (binaryOp .BitAnd) rA := OpR_imp op_and fun x y H Q ⟨a, ex, ey, q⟩ => ⟨_, _, ex, ey, by
  show Q (.int (Builtin.bitAnd (a : Int) 1)) H
  rw [bitAnd_m1, show ((a : Int) % 2) = ((a % 2 : Nat) : Int) from by omega]
  exact q⟩
theorem bit_val (m k : Nat) : ((((m / 2 ^ k % 2 : Nat) : Int)) != 0) = m.testBit k := by
  rw [Nat.testBit_eq_decide_div_mod_eq]
  rcases Nat.mod_two_eq_zero_or_one (m / 2 ^ k) with e | e <;> rw [e] <;> rfl
theorem range_cut {p : Nat → Bool} {a : Nat} (h : ∀ j, a ≤ j → p j = false) : ∀ d, (List.range (a + d)).filter p = (List.range a).filter p := fun d => by
  rw [List.range_add, List.filter_append]
  have : ((List.range d).map (a + ·)).filter p = [] := by
    rw [List.filter_eq_nil_iff]
    intro x hx
    obtain ⟨y, _, rfl⟩ := List.mem_map.mp hx
    rw [h _ (Nat.le_add_right a y)]
    simp
  rw [this, List.append_nil]
theorem range_same {p : Nat → Bool} {a b : Nat} (ha : ∀ j, a ≤ j → p j = false) (hb : ∀ j, b ≤ j → p j = false) : (List.range a).filter p = (List.range b).filter p := by
  rcases Nat.le_total a b with h | h
  · obtain ⟨d, rfl⟩ := Nat.exists_eq_add_of_le h
    exact (range_cut ha d).symm
  · obtain ⟨d, rfl⟩ := Nat.exists_eq_add_of_le h
    exact range_cut hb d
def bitsN (m : Nat) : Nat := Builtin.Int.intBits (m : Int)
theorem bits_out {m j : Nat} (h : bitsN m ≤ j) : m.testBit j = false := by
  refine Nat.testBit_lt_two_pow ?_
  unfold bitsN Builtin.Int.intBits at h
  by_cases e : m = 0
  · rw [e]
    exact Nat.two_pow_pos j
  · rw [if_neg (by simpa using e), Int.natAbs_natCast] at h
    exact Nat.lt_of_lt_of_le Nat.lt_log2_self (Nat.pow_le_pow_right (by decide) h)
/-- the places of the bits -/
def bitsOf (n m : Nat) : List Nat := (List.range n).filter m.testBit
theorem bitsOf_eq {n m : Nat} (h : ∀ j, n ≤ j → m.testBit j = false) : (List.range (bitsN m)).filter m.testBit = bitsOf n m := range_same (fun j => bits_out) h
section
variable {P : Program} {w : World} {K : PySem.W.Frag} {mg : Str → Option Value} {base : Heap} {f : Addr} {fd : FuncData}
def spTi : Sp := fun vs H Q _ => ∃ (m : Nat), vs = [.int (m : Int)] ∧ bitsN m ≤ 1000 ∧ ∀ H' t, Same H H' → H t = none → H' t = some (.tup (nvs ((List.range (bitsN m)).filter m.testBit))) → Q (.ref t) H'
theorem sc_ti : FnScope ["mask", "thing"] ["mask"] (defScope s_ti) := ⟨rfl, rfl, rfl, by decide +kernel, rfl, by decide +kernel, by decide +kernel⟩
theorem filter_take {p : Nat → Bool} (n i : Nat) (h : i < n) : ((List.range n).take (i + 1)).filter p = ((List.range n).take i).filter p ++ (if p i = true then [i] else []) := by
  rw [List.take_range, List.take_range, Nat.min_eq_left (by omega), Nat.min_eq_left (by omega), List.range_succ, List.filter_append]
  congr 1
  cases e : p i <;> simp [e]
theorem ok_ti (F : Fun K "things_in" "things_in" s_ti f fd) (B : Blt2 mg) : FnOk P w K mg base (L2.CX P w) 1 f fd ["mask"] spTi := by
  refine up0 (F.ok sc_ti (fun vs H Q E h => ?_) (fun cdv A outer s H vs Q E hr h => ?_))
  · obtain ⟨m, rfl, _⟩ := h
    rfl
  · obtain ⟨m, rfl, hb, q⟩ := h
    have nd := sc_ti.nd
    refine ⟨_, pss_one (ps_ret (pe_callTy call_tuple_of (by rfl) B.tuple (by decide +kernel) (pa_cons (pe_lc (tt := tTru K (tOp rA (tOp rS (tVar 0) (tVar 1)) (tC (.int 1)))) (te := tVar 1) (own := [("thing", 1)]) (g := gName 1) rfl nd (pi_range1 (by rfl) B.range (pa_cons (pe_bits (pv 0)) pa_nil))
      (blkOk_by (N := ["mask", "thing"]) (sc := defScope s_ti) (by decide +kernel)) (fun _ _ _ _ _ => pg_name (i := 1) nd rfl (.inl rfl))
      (fun _ _ _ _ _ => pts_one (pt_truth (pe_op op_and1 (pe_op op_shr2 (pv 0) (pv 1)) pe_int) (by intro _; rfl))) (fun _ _ _ _ _ => pv 1)) pa_nil))), ?_⟩
    refine ⟨_, rfl, _, rfl, _, rfl, by omega, by have : bitsN m < 2 ^ 62 := (by omega); exact Int.ofNat_lt.mpr this, fun D nD => ?_⟩
    have eN : ((Builtin.Int.intBits (m : Int) : Nat) : Int).toNat = bitsN m := Int.toNat_natCast _
    rw [eN]
    refine lc_range (lo := 0) (n := bitsN m) (fun i H' => Same H H' ∧ H' D = some (.lst (nvs (((List.range (bitsN m)).take i).filter m.testBit)))) ⟨same_upd nD, upd_same⟩ (fun i H' hi ⟨sm, hD⟩ => ?_) (fun H' ⟨sm, hD⟩ => ?_)
    · refine ⟨rfl, ?_⟩
      rw [Int.zero_add]
      refine ⟨_, rfl, _, rfl, m, i, rfl, rfl, _, rfl, rfl, _, rfl, ?_⟩
      rw [bit_val]
      cases e : m.testBit i with
      | false =>
        refine iteF ⟨sm, ?_⟩
        rw [filter_take _ _ hi, e]
        simpa using hD
      | true =>
        refine iteT ⟨_, rfl, _, hD, ?_, ?_, ?_⟩
        · rw [nvs_len, sizeLine_eq]
          have h1 := List.length_filter_le m.testBit ((List.range (bitsN m)).take i)
          rw [List.length_take, List.length_range] at h1
          omega
        · intro b o e2
          rw [upd_ne (ne_of_none e2 nD)]
          exact sm b o e2
        · rw [upd_same, filter_take _ _ hi, e]
          unfold nvs
          rw [List.map_append]
          rfl
    · rw [List.take_of_length_le (by rw [List.length_range]; exact Nat.le_refl _)] at hD
      exact ⟨D, _, rfl, .inl ⟨SqL.of hD, fun t nt => q _ t (sm.trans (same_upd nt)) (sm.free nt) upd_same⟩⟩
end
end K0
set_option Elab.async false
set_option linter.all false
set_option maxRecDepth 100000
set_option maxHeartbeats 4000000
/-! enumerate(tuple) -/
namespace K0
open PySem PySem.Spec PyProof.Rows L2
open AutoSeq1 (wpAny_loadPart')
theorem enumNewT (l : Addr) (items : Array Value) (n : Nat) (dct : Option Addr) (sl : Array (Option Value)) :
    Meets (Builtin.«enumerate.__new__» ⟨[.type "enumerate", .ref l], []⟩) (fun _ R s => s.heap.get? l = some { cls := .type "tuple", dict := dct, data := .seq items n, slots := sl } ∧
      R (.ok (.ret (.ref (s.heap.push { cls := .type "tuple_iterator", data := .fields #[.ref l, .int 0 0] }).objs.size)))
        { s with heap := (s.heap.push { cls := .type "tuple_iterator", data := .fields #[.ref l, .int 0 0] }).push { cls := .type "enumerate", data := .fields #[.none, .bool false, .ref s.heap.objs.size, rawInt 0, .none, .none] } }) :=
  .of_wp fun prog w A R s h => by
    obtain ⟨hp, g, d, tk, os⟩ := s
    obtain ⟨hl, h⟩ := h
    have hsub := sub_enumerate
    have hT : Heap.IsTuple (Shared.heap ⟨hp, g, d, tk, os⟩) l items := ⟨_, hl, rfl, n, rfl⟩
    wp_walk using wpAny_loadPart' hl
    refine wpAny_stack_any fun st => wpAny_pure ?_
    split
    · rename_i c _ _ _ _ _
      cases (c == Value.type "enumerate")
      · wp_walk using wpAny_loadPart' hl, wpAny_pyIter_tuple hT
        exact ⟨_, rfl, h⟩
      · wp_walk using wpAny_loadPart' hl, wpAny_pyIter_tuple hT
        exact ⟨_, rfl, h⟩
    · wp_walk using wpAny_loadPart' hl, wpAny_pyIter_tuple hT
      exact ⟨_, rfl, h⟩
section
variable {prog : Program} {w : World} {A : Around} {E : Value → Shared → Prop} {s : Shared}
theorem callEnumT {l : Addr} {items : Array Value} {Q : Value → Shared → Prop} (hL : s.heap.IsTuple l items)
    (h : ∀ h', IsEnum h' (s.heap.objs.size + 1) s.heap.objs.size 0 .none → h'.IsTupleIter s.heap.objs.size l 0 → h'.objs.size = s.heap.objs.size + 2 →
      (∀ b o, s.heap.get? b = some o → h'.get? b = some o) → Q (.ref (s.heap.objs.size + 1)) { s with heap := h' }) :
    wpAny (model prog w) A (call (.type "enumerate") [.ref l]) Q E s := by
  obtain ⟨⟨c, dct, dt, sl⟩, hl, hc, n, hd⟩ := hL
  replace hc : c = .type "tuple" := hc
  replace hd : dt = .seq items n := hd
  subst hc hd
  refine callType_new F.called_enumerate (by decide) (F.typeCall_enumerate_1 _) (F.newCall_enumerate_1 _) (fun obj => F.args_object_init_2 obj _) F.entry_enumerate_new
    (enumNewT l items n dct sl) ⟨hl, ?_⟩
  have hz : (s.heap.push { cls := .type "tuple_iterator", data := .fields #[.ref l, .int 0 0] }).objs.size = s.heap.objs.size + 1 := Heap.size_push ..
  show _ ∧ _
  rw [hz]
  have he : IsEnum ((s.heap.push { cls := .type "tuple_iterator", data := .fields #[.ref l, .int 0 0] }).push
      { cls := .type "enumerate", data := .fields #[.none, .bool false, .ref s.heap.objs.size, rawInt 0, .none, .none] }) (s.heap.objs.size + 1) s.heap.objs.size 0 .none := by
    have := Heap.get?_push_size (s.heap.push { cls := .type "tuple_iterator", data := .fields #[.ref l, .int 0 0] })
      (o := { cls := .type "enumerate", data := .fields #[.none, .bool false, .ref s.heap.objs.size, rawInt 0, .none, .none] }) rfl
    rw [hz] at this
    exact this
  refine ⟨⟨_, he, rfl⟩, h _ he ⟨_, Heap.get?_push_of_some _ (Heap.get?_push_size _ rfl), rfl, rfl⟩ (by rw [Heap.size_push, hz]) fun b o x => Heap.get?_push_of_some _ (Heap.get?_push_of_some _ x)⟩
end
/-- the tuple at a, each item in a new pair with its place -/
def IteT (K : PySem.W.Frag) (a : Addr) : It :=
  ⟨fun i H => ∃ (xs : List V) (x : V), SqT K H a xs ∧ xs[i]? = some x, fun i H v H' => ∃ T x, v = .ref T ∧ H T = none ∧ H' = upd H T (.tup [.int (i : Nat), x]) ∧ ∀ xs, SqT K H a xs → xs[i]? = some x, fun i H => ∃ xs : List V, SqT K H a xs ∧ xs.length ≤ i⟩
theorem turn_enumT {P : Program} {w : World} {K : PySem.W.Frag} {elts : List Expr} {kk : Nat} {tpos : Pos} (a e it : Addr) :
    Turn P w K (.Tuple elts kk tpos) (IteT K a) [e, it] e (fun i h => (∃ old, IsEnum h e it ((i : Nat) : Int) old) ∧ h.IsTupleIter it a i ∧ e ≠ it ∧ e ≠ a ∧ a ≠ it) where
  mem := by simp
  obj := fun i h st b hb => by
    obtain ⟨⟨old, he⟩, ⟨o, ho, hc, hd⟩, _⟩ := st
    have e' : b = e ∨ b = it := by simpa using hb
    rcases e' with z | z
    · rw [z]; exact ⟨_, he, fun v q => nomatch q⟩
    · rw [z]; exact ⟨o, ho, fun v q => by rw [hd] at q; cases q⟩
  keep := fun i h h' st k => let ⟨⟨old, he⟩, hi, hne⟩ := st; ⟨⟨old, k e (by simp) _ he⟩, hi.at fun o q => k it (by simp) o q, hne⟩
  item := by
    intro X hP hw hK hc i pins s σ H E I hf st hg
    subst hP hw hK
    obtain ⟨⟨old, he⟩, hit, hne, hea, hai⟩ := st
    obtain ⟨xs, x, hq, hx⟩ := hg
    obtain ⟨its, rv, p, hz⟩ := I.tuple hq
    obtain ⟨u, hu, ru⟩ := rv.get hx
    have hel : e < s.heap.objs.size := Heap.lt_size he
    have hil : it < s.heap.objs.size := by obtain ⟨_, q, _⟩ := hit; exact Heap.lt_size q
    have hT : s.heap.IsTuple a its.toArray := p
    have lt : i < its.toArray.size := by
      have := (List.getElem?_eq_some_iff.mp hu).1
      simpa using this
    refine wpAny_pyNext_enum_itemD (Draws.tuple (A := X.A.in1) (show X.A.in1.handled = none from I.ok.hd hc) it a hai its.toArray) he ⟨hit, hT⟩ lt hne (by simp [hne, hea]) fun y h' tk hy ho hst hTt hsz hk => ?_
    have ey : y = u := by
      rw [show its.toArray[i]? = some u by simpa using hu] at hy
      exact (Option.some.inj hy).symm
    subst ey
    refine ⟨_, rfl, wpAny_letOwnedTupleGo_enum (s := { s with heap := h', toks := tk + 1 }) ho fun h'' he' sb => ?_⟩
    have hT2 : h''.get? s.heap.objs.size = some { cls := .type "tuple", data := .seq #[.int i tk, y] } := (sb.2 _ (Nat.ne_of_gt hel)).trans hTt
    have new : ObjOk X.prog X.w (upd H s.heap.objs.size (.tup [.int (i : Nat), x])) h'' s.heap.objs.size (.tup [.int (i : Nat), x]) :=
      ⟨by show 2 ≤ sizeLine; decide, [.int i tk, y], .cons ⟨_, rfl⟩ (.cons ru .nil), ⟨_, hT2, rfl, _, rfl⟩⟩
    have I1 : Inv X pins σ (upd H s.heap.objs.size (.tup [.int (i : Nat), x])) { s with heap := h'', toks := tk + 1 } :=
      I.turnedNew (ch := [e, it]) (fun b ob hb q => (sb.2 b (fun z => hb (by simp [z]))).trans (hk b ob (fun z => hb (by simp [z])) (fun z => hb (by simp [z])) q)) hf (Nat.le_refl _) new
    refine ⟨.ref s.heap.objs.size, _, I1, rfl, ⟨_, x, rfl, I.hok.fresh (Nat.le_refl _), rfl, fun ys hy => by rw [I.tuple_inj hy hq]; exact hx⟩, ⟨⟨y, ?_⟩, hst.1.at fun o q => (sb.2 it (Ne.symm hne)).trans q, hne, hea, hai⟩, fun b hb => ?_⟩
    · have e1 : ((i + 1 : Nat) : Int) = (i : Int) + 1 := by omega
      rw [e1]; exact he'
    · have hb' : b < s.heap.objs.size := by
        have e' : b = e ∨ b = it := by simpa using hb
        rcases e' with z | z
        · rw [z]; exact hel
        · rw [z]; exact hil
      rw [upd_ne (Nat.ne_of_lt hb')]
      exact (hf b hb).1
  done := by
    intro X hP hw hK hc i pins s σ H E I hf st hg
    subst hP hw hK
    obtain ⟨⟨old, he⟩, hit, hne, hea, hai⟩ := st
    obtain ⟨xs, hq, hx⟩ := hg
    obtain ⟨its, rv, p, hz⟩ := I.tuple hq
    obtain ⟨f0, f1, f2, f3, f4, f5⟩ := hf it (by simp)
    have hl := rv.length
    have hT : s.heap.IsTuple a its.toArray := p
    have hTy : s.TypeIs (.ref e) "enumerate" := ⟨_, he, rfl⟩
    unfold pyNext
    refine wpAny_bind (wpAny_attempt (wpAny_callSpecial?_slot (name := Str.ofString "__next__") hTy F.slot_enumerate_next
      (wpAny_call_entry F.slot_enumerate_next hTy F.entry_enumerate_next ?_ (F.args_enumerate_next_1 _))))
    show wpAny _ _ (field (.ref e) 2 >>= _) _ _ _
    refine wpAny_bind (wpAny_field he rfl (x := .ref it) rfl ?_)
    refine wpAny_bind (wpAny_nextOf_tuple_end (A := X.A.in1) (show X.A.in1.handled = none from I.ok.hd hc) hit hT (by simp; omega) fun h' x he' hx' => ?_)
    obtain ⟨o, ho, hc⟩ := hx'
    refine wpAny_bind (wpAny_isInstance (T := "StopIteration") (b := true) ⟨o, ho, hc⟩ isSubtype_stop ?_)
    exact wpAny_pure ⟨rfl, I.turned (t' := s.toks) (fun b o hb q => he' b o hb q) f0 f1 f3 f4 f5⟩
  self := fun A i s Q E st h => let ⟨⟨_, he⟩, _⟩ := st; wpAny_pyIter_enum he h
def iEnumT (K : PySem.W.Frag) (ta : TA) : TI := fun σ H R => ta σ H fun vs H1 => ∃ a xs, vs = [.ref a] ∧ SqT K H1 a xs ∧ R (IteT K a) H1
theorem pi_enumT {X : Cx} {e : Expr} {ta : TA} {p pos tpos : Pos} {elts : List Expr} {kk : Nat} (hg : Gl X "enumerate") (hm : X.mg "enumerate" = none) (ha : PA X [e] ta) (hs : starEach [e] X.env = [(false, eval e X.env)] := by rfl) :
    PI X (.Tuple elts kk tpos) (.Call (.Name "enumerate" p) [e] [] pos) (iEnumT X.K ta) := by
  refine ⟨fun pins s σ H R I h => ?_⟩
  refine Call_ (ld_blt I hg hm boot_enumerate (PyProof.Rows.callWith_type1 (thn (ha.run pos pins s σ H _ I h) fun us s1 ⟨vs, H1, I1, r1, q1⟩ => ?_) hs rfl))
  obtain ⟨a, xs, ex, hq, q⟩ := q1
  subst ex
  cases r1 with
  | cons r rr =>
    cases rr
    cases r
    obtain ⟨its, rv, p', hz⟩ := I1.tuple hq
    have hT : s1.heap.IsTuple a its.toArray := p'
    have hal : a < s1.heap.objs.size := by obtain ⟨o, ho, _⟩ := hT; exact Heap.lt_size ho
    refine callEnumT hT fun h' he hit hsz hk => wpAny_pyIter_enum he ?_
    have I2 : Inv X pins σ H1 { s1 with heap := h' } := I1.kept (t' := s1.toks) hk
    refine ⟨s1.heap.objs.size + 1, [s1.heap.objs.size + 1, s1.heap.objs.size], _, _, H1, rfl, I2, turn_enumT a (s1.heap.objs.size + 1) s1.heap.objs.size, ⟨⟨.none, he⟩, hit, Nat.succ_ne_self _, Nat.ne_of_gt (Nat.lt_succ_of_lt hal), Nat.ne_of_lt hal⟩, fun b hb => ?_, q⟩
    have e' : b = s1.heap.objs.size + 1 ∨ b = s1.heap.objs.size := by simpa using hb
    have hle : s1.heap.objs.size ≤ b := by
      rcases e' with z | z
      · rw [z]; exact Nat.le_add_right _ _
      · rw [z]; exact Nat.le_refl _
    exact I1.fpOk hle (I1.hok.fresh hle)
theorem walk_enumT {K : PySem.W.Frag} {a : Addr} {xs : List V} : Walk (IteT K a) xs.length (fun H => SqT K H a xs) (YPair (fun i => some (.int (i : Nat))) (fun i => xs[i]?)) := by
  refine ⟨fun i _ hi q => ⟨xs, xs[i], q, by simp [hi]⟩, fun _ q => ⟨xs, q, Nat.le_refl _⟩, fun i H v H' _ q y => ?_⟩
  obtain ⟨T, x, h1, h2, h3, h4⟩ := y
  exact ⟨T, .int (i : Nat), x, h1, h2, h3, rfl, h4 xs q⟩
end K0
set_option Elab.async false
set_option linter.all false
set_option maxRecDepth 100000
set_option maxHeartbeats 4000000
namespace K0
open PySem PySem.Spec PyProof.Rows L2
/-- a loop over enumerate of a list or tuple of data -/
theorem tfor_en {K : PySem.W.Frag} {i : Nat} {a : Addr} {ds : List PyData} {g : TG} {tb : TS} {D : Ends} {σ : L2.St} {H H0 : Hp} (hv : σ[i]? = some (some (.ref a))) (h : Sq K H0 a ds) (Pv : Nat → L2.St → Hp → Prop) (h0 : Pv 0 σ H)
    (hl : ∀ j σ H', Pv j σ H' → ∀ o, H0 a = some o → H' a = some o)
    (hs : ∀ j v d σ H' T, ds[j]? = some d → Dt H0 v d → Pv j σ H' → H' T = none → g (.ref T) σ (upd H' T (.tup [.int (j : Nat), v])) fun σ2 H2 => tb { D with nx := Pv (j + 1), ct := Pv (j + 1), bk := D.nx } σ2 H2) (hd : ∀ σ H', Pv ds.length σ H' → D.nx σ H') :
    tFor (fun σ H R => iEnum K (tCons (tVar i) tNil) σ H R ∨ iEnumT K (tCons (tVar i) tNil) σ H R) g tb D σ H := by
  cases h with
  | @lst xs e h =>
    refine .inl ⟨_, hv, a, xs, rfl, SqL.of (hl 0 _ _ h0 _ e), for_it (walk_enum (K := K) (a := a) (xs := xs)) Pv h0 (fun j σ H' _ p => SqL.of (hl j σ H' p _ e)) (fun j v σ H' H2 hj p y => ?_) (fun σ H' p => ?_)⟩
    · obtain ⟨T, x, y, rfl, nT, rfl, e1, e2⟩ := y
      cases e1
      obtain ⟨d, hd, hdt⟩ := h.at e2
      exact hs j y d σ H' T hd hdt p nT
    · rw [h.len] at p
      exact hd σ H' p
  | @tup xs e h =>
    refine .inr ⟨_, hv, a, xs, rfl, SqT.of (hl 0 _ _ h0 _ e), for_it (walk_enumT (K := K) (a := a) (xs := xs)) Pv h0 (fun j σ H' _ p => SqT.of (hl j σ H' p _ e)) (fun j v σ H' H2 hj p y => ?_) (fun σ H' p => ?_)⟩
    · obtain ⟨T, x, y, rfl, nT, rfl, e1, e2⟩ := y
      cases e1
      obtain ⟨d, hd, hdt⟩ := h.at e2
      exact hs j y d σ H' T hd hdt p nT
    · rw [h.len] at p
      exact hd σ H' p
  | @frz o xs e h =>
    refine .inr ⟨_, hv, a, xs, rfl, SqT.frz (hl 0 _ _ h0 _ e), for_it (walk_enumT (K := K) (a := a) (xs := xs)) Pv h0 (fun j σ H' _ p => SqT.frz (hl j σ H' p _ e)) (fun j v σ H' H2 hj p y => ?_) (fun σ H' p => ?_)⟩
    · obtain ⟨T, x, y, rfl, nT, rfl, e1, e2⟩ := y
      cases e1
      obtain ⟨d, hd, hdt⟩ := h.at e2
      exact hs j y d σ H' T hd hdt p nT
    · rw [h.len] at p
      exact hd σ H' p
  | kon e z =>
    refine .inr ⟨_, hv, a, [], rfl, e _, for_it (walk_enumT (K := K) (a := a) (xs := [])) Pv h0 (fun j σ H' _ p => e _) (fun j v σ H' H2 hj p y => ?_) (fun σ H' p => ?_)⟩
    · cases hj
    · rw [z] at hd
      exact hd σ H' p
end K0
set_option Elab.async false
set_option linter.all false
set_option maxRecDepth 100000
set_option maxHeartbeats 4000000
/-! methods and operators of an own class that may raise -/
namespace K0
open PySem PySem.Spec PyProof.Rows L2
section
variable {X : Cx} {pins : List (Addr × Obj)} {σ : L2.St} {H : Hp} {s : Shared}
/-- a def of the text is called somewhere below -/
theorem run_any {A : Around} {n : Nat} {f : Addr} {fd : FuncData} {ps : List Str} {sp : Sp} {E : XK} {Q : VK} {vs : List V} {us : List Value} {CX : CXT} (sb : Sub X n A) (F : FnOk X.prog X.w X.K X.mg X.base CX n f fd ps sp) (hb : Binds X.K fd ps []) (hx : Passes CX X E)
    (I : Inv X pins σ H s) (r : Vals vs us) (h : sp vs H Q E) : wpAny (model X.prog X.w) A (call (.ref f) us) (EP X pins σ Q) X.xe s := by
  have e0 : Env0 X.prog X.w X.K X.mg X.base A X.stack s H := by
    have e := I.env0
    exact ⟨by rw [sb.fr]; exact e.frames, e.mod, e.bs, e.bsz, e.funs, e.frf, e.hok, e.bare⟩
  have hl := F.len _ _ _ _ h
  have hl2 : us.length = ps.length := by rw [← hl, r.length]
  refine wpAny_call (codeAny_mono (F.run A X.stack s H ⟨us, []⟩ us vs Q E sb.room e0 (by
    have := hb s us I.kIn (by simpa using hl2)
    simpa using this) r h) fun r s' hq => ?_)
  cases r with
  | error e => exact hx pins σ H s e s' I hq
  | ok fl =>
    cases fl with
    | ret w => exact I.after hq
    | next => exact False.elim hq
    | brk => exact False.elim hq
    | cont => exact False.elim hq
/-- a method of the class at C by its name, its promise -/
structure Mt (P : Program) (w : World) (K : PySem.W.Frag) (mg : Str → Option Value) (base : Heap) (C : Addr) (m : Str) (k : Nat) (ps : List Str) (sp : Sp) : Prop where
  ex : ∃ (f : Addr) (fd : FuncData), Cls K C ∧ Meth K C m f ∧ PySem.W.isFn K (.ref f) = true ∧ PySem.W.fnIn K f = true ∧ PySem.W.findIn K (.ref C) m = some (some (.ref f)) ∧ FnOk P w K mg base (L2.CX P w) k f fd ps sp ∧ Binds K fd ps []
variable {C : Addr} {m : Str} {k : Nat} {ps : List Str} {sp : Sp} {E : XK} {o e : Expr} {es : List Expr} {ta : TE} {t : TA} {apos pos : Pos}
theorem pe_mt1 {pl : Sem Bool} (T : Mt X.prog X.w X.K X.mg X.base C m k ps sp) (hr : Room k X.A) (hx : Passes (L2.CX X.prog X.w) X E) (he : PE X o ta) (ha : PA X (e :: es) t)
    (hst : starEach (e :: es) X.env = (false, eval e X.env) :: starEach es X.env := by rfl) (hpl : (backTo pos (starEach es X.env)).any (·.1) = false := by rfl)
    (ht : eval (.Call (.Attribute o m apos) (e :: es) [] pos) X.env = (do
      let ov ← eval o X.env
      standAt apos.atName
      let (f, first) ← holding [ov] (getMethod ov m pl)
      callWith pos f first (backTo pos (starEach (e :: es) X.env)) (backToKw pos (keywordEach [] X.env))) := by rfl) : PE X (.Call (.Attribute o m apos) (e :: es) [] pos) (tMeth C m sp [] E ta t) := by
  obtain ⟨f, fd, c, hm, _, _, _, F, b⟩ := T.ex
  exact pe_meth (pl := pl) he c hm F hr b .nil hx ha hst hpl ht
/-- what type the right side is of -/
inductive TyE (H : Hp) : V → Value → Prop where
  | ins {b C dx : Addr} {fs : List (Str × V)} (e : H b = some (.ins C dx fs)) : TyE H (.ref b) (.ref C)
  | lst {b : Addr} {xs : List V} (e : H b = some (.lst xs)) : TyE H (.ref b) (.type "list")
  | int (i : Int) : TyE H (.int i) (.type "int")
theorem TyE.looks {y : V} {u tb : Value} (I : Inv X pins σ H s) (r : RelV y u) (h : TyE H y tb) : PySem.W.Looks (model X.prog X.w) s.heap (typeOf u) tb := by
  cases h with
  | ins e =>
    cases r
    obtain ⟨mA, J, _⟩ := ins_get I.hok e
    obtain ⟨od, J, _⟩ := J.look
    exact J.type
  | lst e =>
    cases r
    obtain ⟨its, rv, p, hz⟩ := I.list (SqL.of (K := X.K) e)
    obtain ⟨o, ho, hc, _⟩ := p.isList
    exact fun A Q E s k q => wpAny_typeOf_ref (k _ _ ho) (by rw [hc]; exact q)
  | int i =>
    obtain ⟨t, rfl⟩ := r
    exact PySem.W.Looks.of_pure rfl
/-- o == y -/
def rEqO (K : PySem.W.Frag) (C : Addr) (sp : Sp) (E : XK) : R2 := fun x y H Q => ∃ a dx fs tb, x = .ref a ∧ H a = some (.ins C dx fs) ∧ TyE H y tb ∧ PySem.W.notFirst K C tb = true ∧ sp [.ref a, y] H (fun v H2 => ∃ b, v = .bl b ∧ Q (.bl b) H2) E
theorem op_eqO (T : Mt X.prog X.w X.K X.mg X.base C "__eq__" k ps sp) (hr : Room k X.A) (hx : Passes (L2.CX X.prog X.w) X E) : OpR X (compareOp .Eq) (rEqO X.K C sp E) := by
  intro pins s σ H x y v u Q I rx ry h
  obtain ⟨a, dx, fs, tb, rfl, ha, ty, nf, h⟩ := h
  obtain ⟨f, fd, c, hm, hfn, _, hs, F, b⟩ := T.ex
  cases rx
  obtain ⟨mA, J, _⟩ := ins_get I.hok ha
  obtain ⟨od, J, _⟩ := J.look
  obtain ⟨m, hF⟩ := I.fr
  show wpAny (model X.prog X.w) X.A (richCompare .Eq (.ref a) u) (EP X pins σ Q) X.xe s
  refine PySem.W.cmp_K (op := .Eq) hr.units0 hF I.ok.mod.kin J (ty.looks I ry) nf hs hfn (wpAny_mono (run_any (vs := [.ref a, y]) ⟨hr, rfl⟩ F b hx I (.cons rfl (.cons ry .nil)) h) (fun r s' z => ?_) fun _ _ x => x)
  obtain ⟨w, H', I', rw', bb, ew, q⟩ := z
  subst ew
  cases rw'
  exact ⟨.bl bb, H', I', rfl, q⟩
end
end K0
set_option Elab.async false
set_option linter.all false
set_option maxRecDepth 100000
set_option maxHeartbeats 4000000
namespace K0
open PySem PySem.Spec PyProof.Rows L2
section
variable {P : Program} {w : World} {K : PySem.W.Frag} {mg : Str → Option Value} {base : Heap}
/-- Web(many, clashes) -/
def spMk (K : PySem.W.Frag) (C CN CW : Addr) : Sp := fun vs H Q E => ∃ (a : Addr) (v : V) (d : PyData) (ds : List PyData), vs = [v, .ref a] ∧ Dt H v d ∧ Sq K H a ds ∧
  (okN 0 d = false → Rz CN [("name", .str "many")] H E) ∧
  (∀ n, d = .int n → 0 ≤ n → n ≤ 16 ∧ ds.length ≤ 62 ∧
    (∀ ps, entsOf n ds = .ok ps → ∀ q, Cl n q → (∀ z, z ∈ q ↔ z ∈ ps) → ∀ H' p, Same H H' → H p = none → WebAt C (New H H') p n q → Q (.ref p) H') ∧
    (∀ x y, entsOf n ds = .error (x, y) → ∀ H' e vx vy, Same H H' → Dt H' vx x → Dt H' vy y → H' e = some (.xd [("y", vy), ("x", vx)]) → E (.ref CW) (some e) H'))
/-- the class as it is called -/
structure WebK (P : Program) (w : World) (K : PySem.W.Frag) (mg : Str → Option Value) (base : Heap) (C CN CW : Addr) : Prop where
  g : mg "Web" = some (.ref C)
  ex : ∃ (f : Addr) (fd : FuncData), Mk K C f ∧ FnOk P w K mg base (L2.CX P w) 4 f fd ["self", "many", "clashes"] (spWi K C CN CW) ∧ Binds K fd ["self", "many", "clashes"] [] ∧
    ∃ e0 : Addr, (∀ H : Hp, SqT K H e0 []) ∧ Binds K fd ["self", "many", "clashes"] [.ref e0]
theorem spMk_in {C CN CW : Addr} {vs : List V} {H : Hp} {Q : VK} {E : XK} (h : spMk K C CN CW vs H Q E) (x dx : Addr) (nx : H x = none) (ndx : H dx = none) (ne : dx ≠ x) :
    spWi K C CN CW (.ref x :: vs) (upd (upd H dx (.own x)) x (.ins C dx [])) (fun v H2 => v = .non ∧ Q (.ref x) H2) E := by
  obtain ⟨a, v, d, ds, rfl, hv, hs, kn, kw⟩ := h
  have s1 : Same H (upd (upd H dx (.own x)) x (.ins C dx [])) := fun b o e => by
    rw [upd_ne (ne_of_none e nx), upd_ne (ne_of_none e ndx)]
    exact e
  have sX : ∀ {H'}, SameX x (upd (upd H dx (.own x)) x (.ins C dx [])) H' → Same H H' := fun {H'} z b o e => z b o (s1 b o e) (ne_of_none e nx)
  refine ⟨x, dx, a, v, d, ds, rfl, upd_same, hv.mono s1, hs.mono s1, fun bad H' e z he => kn bad H' e (sX z) he, fun n en h0 => ?_⟩
  obtain ⟨n8, n62, kq, ke⟩ := kw n en h0
  refine ⟨n8, n62, fun ps hps q hq hm H' z W => ⟨rfl, kq ps hps q hq hm H' x (sX z) nx (W.mono (new_mono (fun b e1 e2 => ?_) (Same.refl _)))⟩, fun y1 y2 he H' e vx vy z hx hy hd => ke y1 y2 he H' e vx vy (sX z) hx hy hd⟩
  by_cases eb : b = x
  · rw [eb]; exact nx
  · rw [del_ne eb, upd_ne eb] at e1
    by_cases ed : b = dx
    · rw [ed]; exact ndx
    · rw [upd_ne ed] at e1
      exact e1
section
variable {X : Cx} {C CN CW : Addr} {E : XK} {e : Expr} {es : List Expr} {t : TA} {p pos : Pos}
theorem pe_web (T : WebK X.prog X.w X.K X.mg X.base C CN CW) (hr : Room 5 X.A) (hg : Gl X "Web") (hx : Passes (L2.CX X.prog X.w) X E) (ha : PA X (e :: es) t)
    (he : starEach (e :: es) X.env = (false, eval e X.env) :: starEach es X.env := by rfl) (hpl : (backTo pos (starEach es X.env)).any (·.1) = false := by rfl) :
    PE X (.Call (.Name "Web" p) (e :: es) [] pos) (tCall (spMk X.K C CN CW) [] E t) := by
  obtain ⟨f, fd, M, F, b, _⟩ := T.ex
  refine ⟨fun pins s σ H Q I h => ?_⟩
  refine wpAny_Call_Name_kw (ld_glob I hg T.g ?_ (by decide))
  refine PySem.W.callWith_K (h₀ := X.base) I.ok.mod.kin M.kp (thn (ha.run pos pins s σ H _ I h) fun us s1 ⟨vs, H1, I1, r, q⟩ => ⟨I1.kIn, ?_⟩) he hpl
  refine run_make (dvs := []) M F hr b .nil hx I1 r fun x dx nx ndx ne => ?_
  rw [List.append_nil]
  have q : spMk X.K C CN CW (vs ++ []) H1 Q E := q
  rw [List.append_nil] at q
  exact spMk_in q x dx nx ndx ne
end
/-! ### what a web answers -/
variable {f : Addr} {fd : FuncData}
abbrev s_w (i : Nat) : Stmt := inClass (top 28) i
theorem hasP_out {n : Int} {q : List Pr} (h : Cl n q) {x y : Nat} (hy : n ≤ (y : Int)) : hasP q x y = false := by
  unfold hasP
  rw [Bool.or_eq_false_iff]
  refine ⟨decide_eq_false fun m => ?_, decide_eq_false fun m => ?_⟩
  · have := h.rng _ m
    dsimp only at this
    omega
  · have := h.rng _ m
    dsimp only at this
    omega
theorem mask_at {C : Addr} {H : Hp} {p : Addr} {n : Int} {q : List Pr} (W : WebAt C H p n q) (x : Nat) (hx : (x : Int) < n) : x < (mOf n.toNat q).length := by
  rw [mOf_len]
  have := W.n0
  omega
theorem mask_bits {C : Addr} {H : Hp} {p : Addr} {n : Int} {q : List Pr} (W : WebAt C H p n q) (x y : Nat) : ((mOf n.toNat q).getD x 0).testBit y = hasP q x y := by
  have := mOf_bit (n := n.toNat) (q := q) (by rw [Int.toNat_of_nonneg W.n0]; exact W.cl) x y
  exact this
theorem mask_small {C : Addr} {H : Hp} {p : Addr} {n : Int} {q : List Pr} (W : WebAt C H p n q) (x : Nat) : bitsN ((mOf n.toNat q).getD x 0) ≤ 16 := by
  have lt : (mOf n.toNat q).getD x 0 < 2 ^ 16 := Nat.lt_pow_two_of_testBit _ fun i hi => by
    rw [mask_bits W]
    exact hasP_out W.cl (by have := W.n8; omega)
  unfold bitsN Builtin.Int.intBits
  split
  · exact Nat.zero_le _
  · rename_i z
    rw [Int.natAbs_natCast]
    have nz : (mOf n.toNat q).getD x 0 ≠ 0 := by simpa using z
    have := (Nat.log2_lt nz).mpr lt
    omega
end
end K0
set_option Elab.async false
set_option linter.all false
set_option maxRecDepth 100000
set_option maxHeartbeats 4000000
namespace K0
open PySem PySem.Spec PyProof.Rows L2
section
variable {P : Program} {w : World} {K : PySem.W.Frag} {mg : Str → Option Value} {base : Heap} {f : Addr} {fd : FuncData}
/-- near -/
def nearOf (n : Int) (q : List Pr) (x : Nat) : List Nat := (List.range n.toNat).filter (hasP q x)
end
end K0
set_option Elab.async false
set_option linter.all false
set_option maxRecDepth 100000
set_option maxHeartbeats 4000000
namespace K0
open PySem PySem.Spec PyProof.Rows L2
theorem prD_lay (z : Pr) : (prD z).canLay0 = true := by simp [prD, PyData.canLay0, PyData.canLayAll0]
theorem prs_lay : ∀ zs : List Pr, PyData.canLayAll0 (zs.map prD) = true
  | [] => by simp [PyData.canLayAll0]
  | z :: zs => by rw [List.map_cons]; simp only [PyData.canLayAll0]; rw [prD_lay, prs_lay zs]; rfl
theorem prD_depth (z : Pr) : (prD z).depth ≤ 1 := by simp [prD, PyData.depth, PyData.depthAll]
theorem prs_depth : ∀ zs : List Pr, PyData.depthAll (zs.map prD) ≤ 1
  | [] => by simp [PyData.depthAll]
  | z :: zs => by rw [List.map_cons]; simp only [PyData.depthAll]; exact Nat.max_le.mpr ⟨prD_depth z, prs_depth zs⟩
theorem prsT_shaped (zs : List Pr) : SeqAt.shaped (.tuple (zs.map prD)) = true := by
  unfold SeqAt.shaped
  rw [Bool.and_eq_true, decide_eq_true_iff]
  refine ⟨by simp only [PyData.canLay0]; exact prs_lay zs, ?_⟩
  simp only [PyData.depth]
  have := prs_depth zs
  omega
theorem prsL_shaped (zs : List Pr) : SeqAt.shaped (.list (zs.map prD)) = true := by
  unfold SeqAt.shaped
  rw [Bool.and_eq_true, decide_eq_true_iff]
  refine ⟨by simp only [PyData.canLay0]; exact prs_lay zs, ?_⟩
  simp only [PyData.depth]
  have := prs_depth zs
  omega
theorem prs_eqv (a b : List Pr) : PyData.eqvAll (a.map prD) (b.map prD) = decide (a = b) := PySem.W.eqvAll_map a b
theorem prsT_eqv (a b : List Pr) : PyData.eqv (.tuple (a.map prD)) (.tuple (b.map prD)) = decide (a = b) := by
  rw [PyData.eqv]
  exact prs_eqv a b
section
variable {P : Program} {w : World} {K : PySem.W.Frag} {mg : Str → Option Value} {base : Heap} {f : Addr} {fd : FuncData}
/-- what isinstance and == ask of the class -/
structure WebI (K : PySem.W.Frag) (C : Addr) : Prop extends WebC K C where
  ha : PySem.W.findIn K (.ref C) "__class__" = some (some (.builtin "object.__class__"))
  hn : PySem.W.specialIn K (.builtin "object.__class__") "__get__" = some (some (.builtin "getset_descriptor.__get__"))
  tk : PySem.W.takesIn K (.builtin "object.__class__") = some true
  hm : PySem.W.mroIn K C (.type "object") = some true
  yes : PySem.W.kitOne K (.ref C) (.ref C) = some true
  no : ∀ T ∈ ["NoneType", "bool", "int", "str", "list", "tuple"], PySem.W.kitOne K (.type T) (.ref C) = some false
  nf : ∀ T ∈ ["int", "list"], PySem.W.notFirst K C (.type T) = true
theorem WebI.ty {C : Addr} (T : WebI K C) {H : Hp} {p : Addr} {n : Int} {q : List Pr} (W : WebAt C H p n q) : TyX K H (.ref p) (.ref C) := by
  obtain ⟨⟨ddx, c, m, l, h1, _⟩, _⟩ := W
  exact .base (.ins h1 T.cl T.ha T.hn T.tk T.hm)
theorem dt_noweb {C : Addr} (T : WebI K C) {H : Hp} {v : V} {d : PyData} (h : Dt H v d) : PySem.W.kitOne K (.type (tyD d)) (.ref C) = some false := T.no _ (by cases h <;> simp [tyD])
/-- isinstance(v, Web) of a web or of data -/
def WebOr (C : Addr) (H : Hp) (v : V) (b : Bool) : Prop := (b = true ∧ ∃ p n q, v = .ref p ∧ WebAt C H p n q) ∨ (b = false ∧ ∃ d, Dt H v d)
theorem isi_web {C : Addr} (T : WebI K C) {H : Hp} {v : V} {b : Bool} {Q : VK} (h : WebOr C H v b) (q : Q (.bl b) H) : rIsi K [v, .ref C] H Q := by
  rcases h with ⟨rfl, p, n, qq, rfl, W⟩ | ⟨rfl, d, h⟩
  · exact ⟨_, _, _, _, _, rfl, .own C, T.ty W, T.yes, q⟩
  · exact ⟨_, _, _, _, _, rfl, .own C, h.ty, dt_noweb T h, q⟩
theorem WebAt.tuple {C : Addr} {H : Hp} {p : Addr} {n : Int} {q : List Pr} (W : WebAt C H p n q) : ∃ (dx c m : Addr) (xs : List V), H p = some (.ins C dx (wf n c m)) ∧ H c = some (.tup xs) ∧ DtAll H xs (q.map prD) := by
  obtain ⟨⟨dx, c, m, l, h1, h2, h3, h4, h5⟩, _⟩ := W
  exact ⟨dx, c, m, _, h1, h2, by rw [h3, List.map_map]; exact dtAll_prs h4⟩
/-- web == other -/
def spEqW (C : Addr) : Sp := fun vs H Q _ => ∃ (p : Addr) (v : V) (n : Int) (q : List Pr), vs = [.ref p, v] ∧ WebAt C H p n q ∧
  ((∃ p' n' q', v = .ref p' ∧ WebAt C H p' n' q' ∧ Ret (.bl (decide (n = n') && decide (q = q'))) H Q) ∨ (∃ d, Dt H v d ∧ Ret (.bl false) H Q))
theorem sc_eqw : FnScope ["self", "other"] ["self", "other"] (defScope (s_w 11)) := ⟨rfl, rfl, rfl, by decide +kernel, rfl, by decide +kernel, by decide +kernel⟩
theorem ok_eqw {C : Addr} (F : Fun K "__eq__" "Web.__eq__" (s_w 11) f fd) (B : Blt2 mg) (T : WebI K C) (g : mg "Web" = some (.ref C)) : FnOk P w K mg base (L2.CX P w) 1 f fd ["self", "other"] (spEqW C) := by
  refine F.okX sc_eqw (fun vs H Q E h => ?_) (fun cdv A outer s H vs Q E hr h => ?_)
  · obtain ⟨p, v, n, q, rfl, _⟩ := h
    rfl
  · obtain ⟨p, v, n, q, rfl, W, k⟩ := h
    obtain ⟨ddx, c, m, xs, h1, h2, h3⟩ := W.tuple
    have hu := hr.units
    refine ⟨_, pss_one (ps_ret (pe_and (pe_callB call_isi (by rfl) B.isi (by decide +kernel) (pa_cons (pv 1) (pa_cons (pe_glob (v := .ref C) (by rfl) g rfl) pa_nil)))
      (pe_and (pe_cmpR op_eq (pe_fld (pv 0) rfl) (pe_fld (pv 1) rfl) (nomark _)) (pe_one (pe_cmpR (op_eqD hu) (pe_fld (pv 0) rfl) (pe_fld (pv 1) rfl) (nomark _)))))), ?_⟩
    refine ⟨_, rfl, ?_⟩
    rcases k with ⟨p', n', q', rfl, W', k⟩ | ⟨d, hd, k⟩
    · obtain ⟨ddx', c', m', xs', h1', h2', h3'⟩ := W'.tuple
      dsimp only [tCons, tC, tNil]
      refine isi_web T (.inl ⟨rfl, p', n', q', rfl, W'⟩) ?_
      refine ⟨_, rfl, iteT ?_⟩
      refine ⟨_, rfl, p, C, ddx, _, _, rfl, h1, T.cl, T.nm, wf_many _ _ _, _, rfl, p', C, ddx', _, _, rfl, h1', T.cl, T.nm, wf_many _ _ _, rfl, _, rfl, ?_⟩
      by_cases en : n = n'
      · subst en
        rw [decide_eq_true rfl]
        refine iteT ⟨_, rfl, p, C, ddx, _, _, rfl, h1, T.cl, T.nc, wf_clashes _ _ _, _, rfl, p', C, ddx', _, _, rfl, h1', T.cl, T.nc, wf_clashes _ _ _, .tuple (q.map prD), .tuple (q'.map prD), (Dt.tup h2 h3).dp, (Dt.tup h2' h3').dp, prsT_shaped _, prsT_shaped _, ?_⟩
        rw [prsT_eqv]
        have := k.now
        rw [decide_eq_true rfl, Bool.true_and] at this
        exact this
      · have : decide (V.int n = V.int n') = false := decide_eq_false fun e => en (by cases e; rfl)
        rw [this]
        have := k.now
        rw [decide_eq_false en, Bool.false_and] at this
        exact iteF this
    · dsimp only [tCons, tC, tNil]
      refine isi_web T (.inr ⟨rfl, d, hd⟩) ?_
      exact ⟨_, rfl, iteF k.now⟩
end
end K0
set_option Elab.async false
set_option linter.all false
set_option maxRecDepth 100000
set_option maxHeartbeats 4000000
namespace K0
open PySem PySem.Spec PyProof.Rows L2
theorem entsOf_prs {n : Int} : ∀ {zs : List Pr}, (∀ z ∈ zs, 0 ≤ z.1 ∧ z.1 < z.2 ∧ z.2 < n) → entsOf n (zs.map prD) = .ok zs
  | [], _ => rfl
  | z :: zs, h => by
    have ih := entsOf_prs (zs := zs) fun y hy => h y (List.mem_cons_of_mem _ hy)
    obtain ⟨x, y⟩ := z
    obtain ⟨a, b, c⟩ := h (x, y) List.mem_cons_self
    dsimp only at a b c
    have e : entOf n (prD (x, y)) = .ok (x, y) := by
      unfold entOf prD pairOf
      dsimp only
      rw [if_pos ⟨a, by omega, by omega, c, by omega⟩]
      congr 2
      · omega
      · omega
    rw [List.map_cons, entsOf, e, ih]
/-- what fresh tuples of pairs stand for -/
def PrsAt (H : Hp) (l : List (Addr × Pr)) : Prop := ∀ z ∈ l, H z.1 = some (.tup [.int z.2.1, .int z.2.2])
theorem PrsAt.mono {H H' : Hp} (s : Same H H') {l : List (Addr × Pr)} (h : PrsAt H l) : PrsAt H' l := fun z hz => s _ _ (h z hz)
end K0
set_option Elab.async false
set_option linter.all false
set_option maxRecDepth 100000
set_option maxHeartbeats 4000000
namespace K0
open PySem PySem.Spec PyProof.Rows L2
theorem prD_shaped (z : Pr) : SeqAt.shaped (prD z) = true := by
  unfold SeqAt.shaped
  rw [Bool.and_eq_true, decide_eq_true_iff]
  exact ⟨prD_lay z, by have := prD_depth z; omega⟩
theorem prD_eqv (a b : Pr) : PyData.eqv (prD a) (prD b) = decide (a = b) := PySem.W.Datum.eqv a b
section
variable {X : Cx} {o e : Expr} {es : List Expr} {to : TE} {t : TA} {apos cpos : Pos}
/-- o.append(e) -/
theorem pe_lapp (ho : PE X o to) (ha : PA X (e :: es) t)
    (hbase : attributeBase o "append" X.env (eval o X.env) = eval o X.env := by rfl)
    (hfew : ((backTo cpos (starEach (e :: es) X.env)).all (fun x => !x.1) && (backToKw cpos (keywordEach [] X.env)).all (fun x => x.1.isSome)
      && decide ((e :: es).length + ([] : List Keyword).length + (if ([] : List Keyword).isEmpty then 0 else 1) < 30)) = true := by rfl)
    (hline : (apos.endLine == cpos.line) = true := by rfl) (hs : starEach (e :: es) X.env = (false, eval e X.env) :: starEach es X.env := by rfl) (hplain : (backTo cpos (starEach es X.env)).any (·.1) = false := by rfl) :
    PE X (.Call (.Attribute o "append" apos) (e :: es) [] cpos) (tBM X.K "list" rAppend to t) :=
  pe_bm PySem.F.plainAttrs_list PySem.F.slot_list_append PySem.F.type_list_append mt_append ho ha hbase hfew hline hs hplain
end
end K0
set_option Elab.async false
set_option linter.all false
set_option maxRecDepth 100000
set_option maxHeartbeats 4000000
/-! several clauses, each with or without a name -/
namespace K0
open PySem PySem.Spec PyProof.Rows L2
abbrev Clause := Value × Option Nat × (Addr → Value → Option Addr → TS)
/-- how a clause's suite ends where its name's slot is i -/
def gone (i : Nat) (D : Ends) : Ends := { nx := fun σ' H' => D.nx (σ'.set i none) H', rt := D.rt, bk := fun σ' H' => D.bk (σ'.set i none) H', ct := fun σ' H' => D.ct (σ'.set i none) H' }
def wCl (K : PySem.W.Frag) (Wout : WX) (D : Ends) : List Clause → WX
  | [] => Wout
  | (c, none, ts) :: r => fun cls d σ H => ∃ b, PySem.W.exmOne K cls c = some b ∧ (b = true → ∀ a, H a = none → ts a cls d D σ H) ∧ (b = false → wCl K Wout D r cls d σ H)
  | (c, some i, ts) :: r => fun cls d σ H => ∃ b, PySem.W.exmOne K cls c = some b ∧ (b = true → ∀ a, H a = none → ts a cls d (gone i D) (σ.set i (some (.ref a))) H) ∧ (b = false → wCl K Wout D r cls d σ H)
inductive ClsOk (X : Cx) : List ExceptHandler → List Clause → Prop
  | nil : ClsOk X [] []
  | cons {x : Str} {c : Value} {ts : Addr → Value → Option Addr → TS} {b₀ : Stmt} {suite : List Stmt} {np pos' : Pos} {hds : List ExceptHandler} {l : List Clause} (hc : Names X x c)
      (hsu : ∀ (a : Addr) (oe : Obj) (cls : Value) (d : Option Addr) (pn : List (Addr × Obj)), Zc cls d oe → (∃ vs, oe.data = .fields vs) → PSs (X.suite a ((a, oe) :: pn)) (b₀ :: suite) (ts a cls d)) (r : ClsOk X hds l) :
      ClsOk X (.ExceptHandler (some (.Name x np)) none (b₀ :: suite) pos' :: hds) ((c, none, ts) :: l)
  | as {x n : Str} {c : Value} {i : Nat} {ts : Addr → Value → Option Addr → TS} {b₀ : Stmt} {suite : List Stmt} {np pos' : Pos} {hds : List ExceptHandler} {l : List Clause} (hN : X.N.Nodup) (hi : X.N[i]? = some n) (hln : X.env.kindOf n = some .local) (hc : Names X x c)
      (hsu : ∀ (a : Addr) (oe : Obj) (cls : Value) (d : Option Addr) (pn : List (Addr × Obj)), Zc cls d oe → (∃ vs, oe.data = .fields vs) → PSs (X.suite a ((a, oe) :: pn)) (b₀ :: suite) (ts a cls d)) (r : ClsOk X hds l) :
      ClsOk X (.ExceptHandler (some (.Name x np)) (some n) (b₀ :: suite) pos' :: hds) ((c, some i, ts) :: l)
section
variable {X : Cx} {body : List Stmt} {h₀ : ExceptHandler} {hds : List ExceptHandler} {l : List Clause} {pos : Pos} {tb : WX → TS} {Wout : WX}
theorem ps_try_any (hs : X.stack = X.env :: X.outer) (hf : X.env.frame = some X.env.locals) (tk : Takes X Wout)
    (hb : ∀ (W : WX) (pn : List (Addr × Obj)) (xe : Value → Shared → Prop), Takes (X.tr pn xe) W → PassesOwn (model X.prog X.w) X.A X.env xe → PSs (X.tr pn xe) body (tb W))
    (hh : ClsOk X (h₀ :: hds) l) : PS X (.Try body (h₀ :: hds) [] [] pos) (fun D σ H => tb (wCl X.K Wout D l) D σ H) := by
  refine ⟨fun pins s σ H D I h => ?_⟩
  have ok := I.ok
  have hfr : X.A.frames = some (X.env :: X.outer) := by rw [ok.frames, hs]
  refine wpAny_Try_except ?_
  refine wpAny_mono ((hb (wCl X.K Wout D l) (X.pn ++ pins) (fun e s₁ => wpAny (model X.prog X.w) X.A (noteFrame e X.env) (fun _ s₂ => wpAny (model X.prog X.w) X.A (setFlight e none) (fun _ s₃ =>
    wpAny (model X.prog X.w) X.A (handleBy e X.env (h₀ :: hds)) (SP X pins D) X.xe s₃) X.xe s₂) X.xe s₁) (fun u s' xx => ?_) PassesOwn.looking).run [] s σ H D (I.toTry _) h) (fun f s1 hsp => ?_) (fun e s1 he => he)
  · obtain ⟨a, B, sI, pins', σ', H', cls, d, rfl, J', nb, up, sky, na, os, ag, w⟩ := xx
    have J : Inv X pins σ' H' sI := J'.ofTry ok
    have sky' : Sky B (X.env :: X.outer) a (Zc cls d) X.env.locals s'.heap := by rw [← hs]; exact sky
    show wpAny (model X.prog X.w) X.A (noteFrame (.ref a) X.env) _ _ _
    refine Sky.land Zc.steady hfr hf sky' fun h3 fl3 up3 => ?_
    have J3 : Inv X pins σ' H' { s' with heap := h3 } := J.landed nb fl3.1 (up.trans up3) os ag
    obtain ⟨oe3, vs3, he3, hz3, hd3⟩ := fl3.there
    have notFr : ∀ {h : Heap} {o : Obj} {vs : Array Value}, h.FunFrames B (X.env :: X.outer) → h.get? a = some o → o.data = .fields vs → a ∉ frs (X.env :: X.outer) := fun {h o vs} ff e dd hm => by
      obtain ⟨_, o', e', hnf⟩ := ff.mem hm
      rw [e] at e'
      cases e'
      exact hnf _ dd
    have nfr := notFr fl3.2.2.1 he3 hd3
    have nL : a ≠ X.env.locals := fun z => nfr (List.mem_filterMap.mpr ⟨X.env, List.mem_cons_self, by rw [hf, z]⟩)
    have nF : a ∉ X.fs := fun hm => by
      obtain ⟨e, he, q⟩ := List.mem_filterMap.mp hm
      exact nfr (List.mem_filterMap.mpr ⟨e, List.mem_cons_of_mem _ he, q⟩)
    have S3 := J3.suite he3 hd3 na nL nF
    have LT : PySem.W.Looks (model X.prog X.w) h3 (typeOf (.ref a)) cls := fun A Q E s k q => wpAny_typeOf_ref (k _ _ he3) (by rw [hz3.1]; exact q)
    have test : ∀ {x : Str} {np : Pos} {c : Value} {Q : Value → Shared → Prop} {E : Value → Shared → Prop}, Names X x c → Q c { s' with heap := h3 } → wpAny (model X.prog X.w) (X.A.mark (some (.ref a))) (eval (.Name x np) X.env) Q E { s' with heap := h3 } := fun {x np c Q E} hc q => by
      obtain ⟨hg, hdbg, hm | ⟨hm, hv, hnn⟩⟩ := hc
      · exact ld_glob (X := X.suite a ((a, oe3) :: (X.pn ++ pins))) S3 hg hm q hdbg
      · exact ld_blt (X := X.suite a ((a, oe3) :: (X.pn ++ pins))) S3 hg hm hv q hnn hdbg
    have go : ∀ {hds' : List ExceptHandler} {l' : List Clause}, ClsOk X hds' l' → wCl X.K Wout D l' cls d σ' H' → wpAny (model X.prog X.w) X.A (handleBy (.ref a) X.env hds') (SP X pins D) X.xe { s' with heap := h3 } := by
      intro hds' l' hk
      induction hk with
      | nil =>
        intro w
        refine wpAny_handleBy_nil ?_
        obtain ⟨k1, k2, k3, oe, vs, T, oT, ts', he, hz, hd, h1, hr⟩ := id fl3
        unfold PySem.passOn
        refine wpAny_bind (wpAny_field he hd h1 ?_)
        rw [if_neg (show ¬ ((Value.ref T == Value.none) = true) from by simp)]
        have fin : wpAny (model X.prog X.w) X.A (setFlight (.ref a) X.env.frame) (fun _ s4 => wpAny (model X.prog X.w) X.A (throw (.ref a) : Sem Flow) (SP X pins D) X.xe s4) X.xe { s' with heap := h3 } := by
          rw [hf]
          refine HandSPX.setFlight_upZ fl3 fun h4 hh4 up4 => wpAny_throw (tk _ _ ?_)
          exact ⟨a, B, sI, pins, σ', H', cls, d, rfl, J, nb, (up.trans up3).trans up4, .inr (.inr (by rw [hs]; exact hh4)), na, os, ag, w⟩
        first
          | exact wpAny_bind (wpAny_pure (wpAny_bind fin))
          | exact wpAny_bind fin
      | @cons x c ts b₀ suite np pos' hds2 l2 hc hsu r ih =>
        intro w
        obtain ⟨b, hb1, hyes, hno⟩ := w
        refine wpAny_handleBy_cons (codeAny_handlers_test ?_) (by intro q; cases q)
        have LM := PySem.W.exm_one (M := model X.prog X.w) (J3.kIn) LT hb1
        refine test hc (LM.here ?_)
        cases b with
        | true =>
          refine codeAny_handlers_suite ?_
          refine HandSPX.lands_againZ fl3 fun h4 fl4 up4 => ?_
          have J4 : Inv X pins σ' H' { s' with heap := h4 } := J.landed nb fl4.1 ((up.trans up3).trans up4) os ag
          obtain ⟨oe4, vs4, he4, hz4, hd4⟩ := fl4.there
          have S4 := J4.suite he4 hd4 na nL nF
          refine wpAny_mono ((hsu a oe4 cls d (X.pn ++ pins) hz4 ⟨_, hd4⟩).run [] _ _ H' _ S4 (hyes rfl a na)) (fun f s6 hsp => ?_) (fun _ _ z => False.elim z)
          cases f with
          | next =>
            obtain ⟨σ6, H6, S6, q6⟩ := hsp
            exact ⟨_, _, S6.unsuite ok, q6⟩
          | brk =>
            obtain ⟨σ6, H6, S6, q6⟩ := hsp
            exact ⟨_, _, S6.unsuite ok, q6⟩
          | cont =>
            obtain ⟨σ6, H6, S6, q6⟩ := hsp
            exact ⟨_, _, S6.unsuite ok, q6⟩
          | ret u =>
            obtain ⟨v6, σ6, H6, S6, r6, q6⟩ := hsp
            exact ⟨_, _, _, S6.unsuite ok, r6, q6⟩
        | false =>
          show wpAny _ X.A (handleBy (.ref a) X.env hds2) _ _ _
          exact ih (hno rfl)
      | @as x n c i ts b₀ suite np pos' hds2 l2 hN hi hln hc hsu r ih =>
        intro w
        obtain ⟨b, hb1, hyes, hno⟩ := w
        refine wpAny_handleBy_cons (codeAny_handlers_test ?_) (by intro q; cases q)
        have LM := PySem.W.exm_one (M := model X.prog X.w) (J3.kIn) LT hb1
        refine test hc (LM.here ?_)
        cases b with
        | true =>
          refine codeAny_handlers_suite_as ?_
          refine HandSPX.lands_againZ fl3 fun h4 fl4 up4 => ?_
          have J4 : Inv X pins σ' H' { s' with heap := h4 } := J.landed nb fl4.1 ((up.trans up3).trans up4) os ag
          obtain ⟨oe4, vs4, he4, hz4, hd4⟩ := fl4.there
          have S4 := J4.suite he4 hd4 na nL nF
          refine store_ok (X := X.suite a ((a, oe4) :: (X.pn ++ pins))) (v := .ref a) S4 hN hi (.inl hln) rfl (fun s5 S5 => ?_) (.inr hln)
          refine wpAny_mono ((hsu a oe4 cls d (X.pn ++ pins) hz4 ⟨_, hd4⟩).run [] s5 _ H' _ S5 (hyes rfl a na)) (fun f s6 hsp => ?_) (fun _ _ z => False.elim z)
          have end_ : ∀ {σ6 : L2.St} {H6 : Hp} {Q : Shared → Prop}, Inv (X.suite a ((a, oe4) :: (X.pn ++ pins))) [] σ6 H6 s6 → (∀ s7, Inv X pins (σ6.set i none) H6 s7 → Q s7) →
              wpAny (model X.prog X.w) X.A (do bindName X.env n .none; unbindBehindTheSuite X.env n pos') (fun _ s7 => Q s7) X.xe s6 := fun {σ6 H6 Q} S6 hq => gone_ok (S6.unsuite ok) hN hi hln hq
          cases f with
          | next =>
            obtain ⟨σ6, H6, S6, q6⟩ := hsp
            exact end_ S6 fun s7 J7 => ⟨_, _, J7, q6⟩
          | brk =>
            obtain ⟨σ6, H6, S6, q6⟩ := hsp
            exact end_ S6 fun s7 J7 => ⟨_, _, J7, q6⟩
          | cont =>
            obtain ⟨σ6, H6, S6, q6⟩ := hsp
            exact end_ S6 fun s7 J7 => ⟨_, _, J7, q6⟩
          | ret u =>
            obtain ⟨v6, σ6, H6, S6, r6, q6⟩ := hsp
            exact end_ S6 fun s7 J7 => ⟨_, _, _, J7, r6, q6⟩
        | false =>
          show wpAny _ X.A (handleBy (.ref a) X.env hds2) _ _ _
          exact ih (hno rfl)
    exact go hh w
  · cases f with
    | next =>
      obtain ⟨σ', H', J', q⟩ := hsp
      exact wpAny_execs_nil ⟨σ', H', J'.ofTry ok, q⟩
    | brk =>
      obtain ⟨σ', H', J', q⟩ := hsp
      exact ⟨σ', H', J'.ofTry ok, q⟩
    | cont =>
      obtain ⟨σ', H', J', q⟩ := hsp
      exact ⟨σ', H', J'.ofTry ok, q⟩
    | ret u =>
      obtain ⟨v, σ', H', J', r, q⟩ := hsp
      exact ⟨v, σ', H', J'.ofTry ok, r, q⟩
end
end K0
set_option Elab.async false
set_option linter.all false
set_option maxRecDepth 100000
set_option maxHeartbeats 4000000
namespace K0
open PySem PySem.Spec PyProof.Rows L2
/-! ### the law's small helpers -/
theorem passE0 {X : Cx} : Passes (L2.CX X.prog X.w) X (fun _ _ _ => False) := fun _ _ _ _ _ _ _ hq => by
  obtain ⟨_, _, _, _, _, _, _, _, _, _, _, _, z⟩ := hq
  exact z.elim
end K0
set_option Elab.async false
set_option linter.all false
set_option maxRecDepth 100000
set_option maxHeartbeats 4000000
namespace K0
open PySem PySem.Spec PyProof.Rows L2
/-! ### rows of ints -/
abbrev Rw := List Int
def rwD (r : Rw) : PyData := .tuple (r.map PyData.int)
theorem dta_ints {H : Hp} : ∀ {xs : List V} {r : List Int}, DtAll H xs (r.map PyData.int) → xs = r.map V.int
  | [], [], _ => rfl
  | _ :: _, [], h => by cases h
  | [], _ :: _, h => by cases h
  | x :: xs, n :: r, h => by
    cases h with
    | cons a b =>
      cases a
      rw [dta_ints b, List.map_cons]
theorem dt_row {H : Hp} {v : V} {r : Rw} (h : Dt H v (rwD r)) : ∃ a, v = .ref a ∧ H a = some (.tup (r.map V.int)) := by
  cases h with
  | tup e h => exact ⟨_, rfl, by rw [e, dta_ints h]⟩
theorem dta_row {H : Hp} {xs : List V} {rs : List Rw} {i : Nat} {v : V} (h : DtAll H xs (rs.map rwD)) (e : xs[i]? = some v) : ∃ r a, rs[i]? = some r ∧ v = .ref a ∧ H a = some (.tup (r.map V.int)) := by
  obtain ⟨d, hd, h⟩ := h.at e
  rw [List.getElem?_map] at hd
  obtain ⟨r, hr, rfl⟩ := Option.map_eq_some_iff.mp hd
  obtain ⟨a, ea, ha⟩ := dt_row h
  exact ⟨r, a, hr, ea, ha⟩
end K0
set_option Elab.async false
set_option linter.all false
set_option maxRecDepth 100000
set_option maxHeartbeats 4000000
namespace K0
open PySem PySem.Spec PyProof.Rows L2
section
variable {P : Program} {w : World} {K : PySem.W.Frag} {mg : Str → Option Value} {base : Heap} {f : Addr} {fd : FuncData}
def SqP (H : Hp) (b : Addr) (qs : List Pr) : Prop := ∃ ys, (H b = some (.lst ys) ∨ H b = some (.tup ys)) ∧ DtAll H ys (qs.map prD)
theorem SqP.mono {H H' : Hp} (s : Same H H') {b : Addr} {qs : List Pr} : SqP H b qs → SqP H' b qs := fun ⟨ys, h, d⟩ => ⟨ys, h.elim (fun z => .inl (s _ _ z)) fun z => .inr (s _ _ z), d.mono s⟩
end
end K0
set_option Elab.async false
set_option linter.all false
set_option maxRecDepth 100000
set_option maxHeartbeats 4000000
namespace K0
open PySem PySem.Spec PyProof.Rows L2
/-! ### rows of pairs that grow in their order -/
structure Lx (n : Int) (P : Pr → Prop) (i c : Int) (rs : List Pr) : Prop where
  srt : rs.Pairwise plt
  mem : ∀ z, z ∈ rs ↔ (0 ≤ z.1 ∧ z.1 < z.2 ∧ z.2 < n) ∧ (z.1 < i ∨ (z.1 = i ∧ z.2 < c)) ∧ P z
theorem Lx.start {n : Int} {P : Pr → Prop} : Lx n P 0 1 [] := ⟨.nil, fun z => ⟨fun h => (by cases h), fun ⟨h1, h2, _⟩ => (by omega)⟩⟩
theorem Lx.row {n : Int} {P : Pr → Prop} {i : Int} {rs : List Pr} (h : Lx n P i n rs) : Lx n P (i + 1) (i + 2) rs := ⟨h.srt, fun z => by
  rw [h.mem]
  constructor
  · rintro ⟨h1, h2, h3⟩
    exact ⟨h1, by omega, h3⟩
  · rintro ⟨h1, h2, h3⟩
    exact ⟨h1, by omega, h3⟩⟩
theorem Lx.skip {n : Int} {P : Pr → Prop} {i c : Int} {rs : List Pr} (h : Lx n P i c rs) (no : ¬ P (i, c)) : Lx n P i (c + 1) rs := ⟨h.srt, fun z => by
  rw [h.mem]
  constructor
  · rintro ⟨h1, h2, h3⟩
    exact ⟨h1, by omega, h3⟩
  · rintro ⟨h1, h2, h3⟩
    refine ⟨h1, ?_, h3⟩
    rcases h2 with h2 | ⟨h2, h4⟩
    · exact .inl h2
    · refine .inr ⟨h2, ?_⟩
      rcases Int.lt_or_le z.2 c with h5 | h5
      · exact h5
      · exact absurd h3 (by rw [show z = (i, c) from Prod.ext h2 (by omega)]; exact no)⟩
theorem Lx.add {n : Int} {P : Pr → Prop} {i c : Int} {rs : List Pr} (h : Lx n P i c rs) (yes : P (i, c)) (r : 0 ≤ i ∧ i < c ∧ c < n) : Lx n P i (c + 1) (rs ++ [(i, c)]) := ⟨by
  rw [List.pairwise_append]
  refine ⟨h.srt, by simp, fun a ha b hb => ?_⟩
  rw [List.mem_singleton.mp hb]
  have := ((h.mem a).mp ha).2.1
  exact this, fun z => by
  rw [List.mem_append, h.mem, List.mem_singleton]
  constructor
  · rintro (⟨h1, h2, h3⟩ | e)
    · exact ⟨h1, by omega, h3⟩
    · rw [e]
      exact ⟨r, .inr ⟨rfl, by dsimp only; omega⟩, yes⟩
  · rintro ⟨h1, h2, h3⟩
    by_cases e : z = (i, c)
    · exact .inr e
    · refine .inl ⟨h1, ?_, h3⟩
      rcases h2 with h2 | ⟨h2, h4⟩
      · exact .inl h2
      · refine .inr ⟨h2, ?_⟩
        rcases Int.lt_or_le z.2 c with h5 | h5
        · exact h5
        · exact absurd (Prod.ext h2 (by omega)) e⟩
theorem Lx.change {n : Int} {P P' : Pr → Prop} {i c : Int} {rs : List Pr} (h : Lx n P i c rs) (e : ∀ z, (z.1 < i ∨ (z.1 = i ∧ z.2 < c)) → (P z ↔ P' z)) : Lx n P' i c rs := ⟨h.srt, fun z => by
  rw [h.mem]
  exact and_congr Iff.rfl (and_congr_right fun b => e z b)⟩
theorem Lx.cl {n : Int} {P : Pr → Prop} {i c : Int} {rs : List Pr} (h : Lx n P i c rs) : Cl n rs := ⟨h.srt, fun z hz => ((h.mem z).mp hz).1⟩
/-- the list at D holds the new pairs rs -/
def Grow (H : Hp) (D : Addr) (rs : List Pr) : Prop := ∃ l : List (Addr × Pr), H D = some (.lst (l.map fun z => V.ref z.1)) ∧ l.map (·.2) = rs ∧ PrsAt H l
theorem Grow.mono {H H' : Hp} {D : Addr} {rs : List Pr} (s : Same H H') : Grow H D rs → Grow H' D rs := fun ⟨l, h, e, p⟩ => ⟨l, s _ _ h, e, p.mono s⟩
theorem Grow.push {H : Hp} {D u : Addr} {rs : List Pr} {x y : Int} (g : Grow H D rs) (nu : H u = none) {xs : List V} (hx : H D = some (.lst xs)) : Grow (upd (upd H u (.tup [.int x, .int y])) D (.lst (xs ++ [.ref u]))) D (rs ++ [(x, y)]) := by
  obtain ⟨l, h, e, p⟩ := g
  rw [h] at hx
  cases hx
  refine ⟨l ++ [(u, (x, y))], by rw [upd_same, List.map_append]; rfl, by rw [List.map_append, e]; rfl, fun z hz => ?_⟩
  have s2 : Same H (upd H u (.tup [.int x, .int y])) := same_upd nu
  have hz2 : (upd H u (.tup [.int x, .int y])) z.1 = some (.tup [.int z.2.1, .int z.2.2]) := by
    rcases List.mem_append.mp hz with hz | hz
    · exact s2 _ _ (p z hz)
    · rw [List.mem_singleton.mp hz]
      exact upd_same
  have zD : z.1 ≠ D := fun e => by
    rw [e, s2 _ _ h] at hz2
    cases hz2
  rw [upd_ne zD]
  exact hz2
theorem Grow.at {H : Hp} {D : Addr} {rs : List Pr} (g : Grow H D rs) : ∃ xs, H D = some (.lst xs) ∧ xs.length = rs.length ∧ DtAll H xs (rs.map prD) := by
  obtain ⟨l, h, e, p⟩ := g
  refine ⟨_, h, by rw [← e, List.length_map, List.length_map], ?_⟩
  rw [← e, List.map_map]
  exact dtAll_prs p
theorem prs_any {q : List Pr} {p : Pr} : ((q.map prD).any fun z => PyData.eqv z (prD p)) = decide (p ∈ q) := by
  induction q with
  | nil => rfl
  | cons a q ih =>
    rw [List.map_cons, List.any_cons, ih, prD_eqv]
    by_cases e : a = p
    · subst e; simp
    · have : ¬ p = a := fun z => e z.symm
      simp [e, this]
/-- a list of pairs -/
def Ls (H : Hp) (b : Addr) (q : List Pr) : Prop := ∃ ys, H b = some (.lst ys) ∧ DtAll H ys (q.map prD)
theorem Ls.mono {H H' : Hp} (s : Same H H') {b : Addr} {q : List Pr} : Ls H b q → Ls H' b q := fun ⟨ys, h, d⟩ => ⟨ys, s _ _ h, d.mono s⟩
theorem Ls.dp {K : PySem.W.Frag} {H : Hp} {b : Addr} {q : List Pr} : Ls H b q → Dp K H (.ref b) (.list (q.map prD)) := fun ⟨ys, h, d⟩ => (Dt.lst h d).dp
theorem Ls.sq {K : PySem.W.Frag} {H : Hp} {b : Addr} {q : List Pr} : Ls H b q → Sq K H b (q.map prD) := fun ⟨ys, h, d⟩ => .lst h d
theorem Grow.ls {H : Hp} {D : Addr} {rs : List Pr} (g : Grow H D rs) : Ls H D rs := let ⟨xs, h, _, d⟩ := g.at; ⟨xs, h, d⟩
end K0
set_option Elab.async false
set_option linter.all false
set_option maxRecDepth 100000
set_option maxHeartbeats 4000000
namespace K0
open PySem PySem.Spec PyProof.Rows L2
theorem hasP_mm {n : Int} {q : List Pr} (h : Cl n q) (x y : Nat) : decide (((min (x : Int) y, max (x : Int) y) : Pr) ∈ q) = hasP q x y := by
  unfold hasP
  rw [Bool.eq_iff_iff, Bool.or_eq_true, decide_eq_true_iff, decide_eq_true_iff, decide_eq_true_iff]
  rcases Nat.lt_trichotomy x y with c | c | c
  · rw [show min (x : Int) y = x by omega, show max (x : Int) y = y by omega]
    refine ⟨.inl, fun z => z.elim (fun z => z) fun z => ?_⟩
    have := h.rng _ z
    dsimp only at this
    omega
  · subst c
    rw [show min (x : Int) x = x by omega, show max (x : Int) x = x by omega]
    exact ⟨.inl, fun z => z.elim (fun z => z) fun z => z⟩
  · rw [show min (x : Int) y = y by omega, show max (x : Int) y = x by omega]
    refine ⟨.inr, fun z => z.elim (fun z => ?_) fun z => z⟩
    have := h.rng _ z
    dsimp only at this
    omega
def rMinI : List V → Hp → VK → Prop := fun xs H Q => ∃ i j : Int, xs = [.int i, .int j] ∧ Q (.int (if j < i then j else i)) H
def rMaxI : List V → Hp → VK → Prop := fun xs H Q => ∃ i j : Int, xs = [.int i, .int j] ∧ Q (.int (if j > i then j else i)) H
theorem c_min {X : Cx} (hc : X.calm = true) : CallR X (.builtin "min") rMinI := call_min2 hc
theorem c_max {X : Cx} (hc : X.calm = true) : CallR X (.builtin "max") rMaxI := call_max2 hc
section
variable {P : Program} {w : World} {K : PySem.W.Frag} {mg : Str → Option Value} {base : Heap} {f : Addr} {fd : FuncData}
abbrev s_ne : Stmt := top 44
/-- _law_near -/
def spNe : Sp := fun vs H Q _ => ∃ (b : Addr) (n : Int) (x : Nat) (q : List Pr), vs = [.int n, .ref b, .int (x : Int)] ∧ 0 ≤ n ∧ n ≤ 16 ∧ Cl n q ∧ Ls H b q ∧ ∀ H' a, Same H H' → H a = none → H' a = some (.lst (nvs (nearOf n q x))) → Q (.ref a) H'
theorem sc_ne : FnScope ["_law_many", "_law_pairs", "_law_x", "_law_y"] ["_law_many", "_law_pairs", "_law_x"] (defScope s_ne) := ⟨rfl, rfl, rfl, by decide +kernel, rfl, by decide +kernel, by decide +kernel⟩
theorem ok_ne (F : Fun K "_law_near" "_law_near" s_ne f fd) (B : Blt2 mg) : FnOk P w K mg base (L2.CX P w) 2 f fd ["_law_many", "_law_pairs", "_law_x"] spNe := by
  refine F.okX sc_ne (fun vs H Q E h => ?_) (fun cdv A outer s H vs Q E hr h => ?_)
  · obtain ⟨b, n, x, q, rfl, _⟩ := h
    rfl
  · obtain ⟨b, n, x, q, rfl, n0, n8, cl, hl, k⟩ := h
    have nd := sc_ne.nd
    have hu : (A.deeper (envOfC "_law_near" (defScope s_ne) s.heap.objs.size f cdv)).units + 65 < cLine := by have := hr.un; omega
    refine ⟨_, pss_one (ps_ret (pe_lc (own := [("_law_y", 3)]) (g := gName 3)
      (tt := tTest (tOp (rInD K) (tTup (tCons (tCB rMinI (tCons (tVar 2) (tCons (tVar 3) tNil))) (tCons (tCB rMaxI (tCons (tVar 2) (tCons (tVar 3) tNil))) tNil))) (tVar 1)))
      (te := tVar 3) rfl nd (pi_range1 (by rfl) B.range (pa_cons (pv 0) pa_nil))
        (blkOk_by (N := ["_law_many", "_law_pairs", "_law_x", "_law_y"]) (sc := defScope s_ne) (by decide +kernel)) (fun _ _ _ _ _ => pg_name (i := 3) nd rfl (.inl rfl))
        (fun _ _ _ _ _ => pts_one (pt_cmpR (op_inD hu) (pe_tup (pa_cons (pe_callB (c_min rfl) (by rfl) B.min (by decide +kernel) (pa_cons (pv 2) (pa_cons (pv 3) pa_nil))) (pa_cons (pe_callB (c_max rfl) (by rfl) B.max (by decide +kernel) (pa_cons (pv 2) (pa_cons (pv 3) pa_nil))) pa_nil))) (pv 1) (by rfl))) (fun _ _ _ _ _ => pv 3))), ?_⟩
    refine ⟨_, rfl, n, rfl, by omega, by omega, fun D nD => ?_⟩
    refine lc_range (lo := 0) (n := n.toNat) (fun i H' => Same H H' ∧ H' D = some (.lst (nvs (((List.range n.toNat).take i).filter (hasP q x))))) ⟨same_upd nD, upd_same⟩ (fun i H' hi ⟨sm, hD⟩ => ?_) (fun H' ⟨sm, hD⟩ => ?_)
    · refine ⟨rfl, ?_⟩
      rw [Int.zero_add]
      refine ⟨_, rfl, _, rfl, _, _, rfl, _, rfl, _, rfl, _, _, rfl, (by show 2 ≤ sizeLine; decide), fun t nt => ?_⟩
      rw [min2, max2]
      have s2 : Same H' (upd H' t (.tup [.int (min (x : Int) i), .int (max (x : Int) i)])) := same_upd nt
      refine ⟨_, rfl, prD (min (x : Int) i, max (x : Int) i), _, (dt_pr (p := (min (x : Int) i, max (x : Int) i)) upd_same).dp, (hl.mono (sm.trans s2)).dp, prD_shaped _, prsL_shaped _, _, rfl, ?_⟩
      rw [prs_any, hasP_mm cl]
      cases e : hasP q x i with
      | false =>
        refine iteF ⟨sm.trans s2, ?_⟩
        rw [filter_take _ _ hi, e, s2 _ _ hD]
        simp
      | true =>
        refine iteT ⟨_, rfl, _, s2 _ _ hD, ?_, fun b o eb => ?_, ?_⟩
        · rw [nvs_len, sizeLine_eq]
          have g1 := List.length_filter_le (hasP q x) ((List.range n.toNat).take i)
          rw [List.length_take, List.length_range] at g1
          omega
        · rw [upd_ne (ne_of_none eb nD)]
          exact s2 _ _ (sm _ _ eb)
        · rw [upd_same, filter_take _ _ hi, e]
          unfold nvs
          rw [List.map_append]
          rfl
    · rw [List.take_of_length_le (by rw [List.length_range]; exact Nat.le_refl _)] at hD
      exact k H' D sm nD hD
def rLenI (K : PySem.W.Frag) : List V → Hp → VK → Prop := fun xs H Q => ∃ p ys, xs = [.ref p] ∧ (SqL K H p ys ∨ SqT K H p ys) ∧ Q (.int ys.length) H
theorem c_len {X : Cx} : CallR X (.builtin "len") (rLenI X.K) := call_len_seq
end
end K0
set_option Elab.async false
set_option linter.all false
set_option maxRecDepth 100000
set_option maxHeartbeats 4000000
namespace K0
open PySem PySem.Spec PyProof.Rows L2
section
variable {P : Program} {w : World} {K : PySem.W.Frag} {mg : Str → Option Value} {base : Heap} {f : Addr} {fd : FuncData}
theorem same_keep {H H' : Hp} {D : Addr} {o : HO} (n : H D = none) (s : Same H H') : Same H (upd H' D o) := fun b u e => by
  rw [upd_ne (ne_of_none e n)]
  exact s b u e
end
end K0
set_option Elab.async false
set_option linter.all false
set_option maxRecDepth 100000
set_option maxHeartbeats 4000000
namespace K0
open PySem PySem.Spec PyProof.Rows L2
/-- draws that are left -/
def DrO (H : Hp) (d : Addr) : Prop := ∃ ns : List Int, H d = some (.lst (ns.map V.int)) ∧ ∀ k ∈ ns, 0 ≤ k
def DrN (H : Hp) (d : Addr) (n : Nat) : Prop := ∃ ns : List Int, H d = some (.lst (ns.map V.int)) ∧ (∀ k ∈ ns, 0 ≤ k) ∧ ns.length ≤ n
theorem same_del {H H' : Hp} {d : Addr} (s : Same (del H d) H') : Same (del H d) (del H' d) := fun b o e => by
  by_cases hb : b = d
  · rw [hb, del_same] at e
    cases e
  · rw [del_ne hb]
    exact s b o e
theorem del_sub {H : Hp} {d : Addr} : Same (del H d) H := fun b o e => by
  by_cases hb : b = d
  · rw [hb, del_same] at e
    cases e
  · rw [del_ne hb] at e
    exact e
theorem del_upd {H : Hp} {d : Addr} {o : HO} : Same (del H d) (upd H d o) := fun b u e => by
  by_cases hb : b = d
  · rw [hb, del_same] at e
    cases e
  · rw [del_ne hb] at e
    rw [upd_ne hb]
    exact e
section
variable {X : Cx} {o e : Expr} {to : TE} {apos cpos : Pos}
theorem pe_lpop (ho : PE X o to) (hbase : attributeBase o "pop" X.env (eval o X.env) = eval o X.env := by rfl) (hline : (apos.endLine == cpos.line) = true := by rfl) :
    PE X (.Call (.Attribute o "pop" apos) [] [] cpos) (tBM0 X.K "list" rPop to) := pe_bm0 PySem.F.plainAttrs_list PySem.F.slot_list_pop PySem.F.type_list_pop mt_pop ho hbase hline
theorem pe_lrev (ho : PE X o to) (hbase : attributeBase o "reverse" X.env (eval o X.env) = eval o X.env := by rfl) (hline : (apos.endLine == cpos.line) = true := by rfl) :
    PE X (.Call (.Attribute o "reverse" apos) [] [] cpos) (tBM0 X.K "list" rReverse to) := pe_bm0 PySem.F.plainAttrs_list PySem.F.slot_list_reverse PySem.F.type_list_reverse mt_reverse ho hbase hline
end
section
variable {P : Program} {w : World} {K : PySem.W.Frag} {mg : Str → Option Value} {base : Heap} {f : Addr} {fd : FuncData}
abbrev s_tk : Stmt := top 40
abbrev s_dr : Stmt := top 39
/-- _law_take -/
def spTk : Sp := fun vs H Q _ => ∃ (d : Addr) (m : Int), vs = [.ref d, .int m] ∧ 0 < m ∧ DrO H d ∧ ∀ r H', 0 ≤ r → r < m → Same (del H d) H' → DrO H' d → Q (.int r) H'
theorem sc_tk : FnScope ["_law_draws_here", "_law_many"] ["_law_draws_here", "_law_many"] (defScope s_tk) := ⟨rfl, rfl, rfl, by decide +kernel, rfl, by decide +kernel, by decide +kernel⟩
theorem ok_tk (F : Fun K "_law_take" "_law_take" s_tk f fd) (B : Blt2 mg) : FnOk P w K mg base (L2.CX P w) 1 f fd ["_law_draws_here", "_law_many"] spTk := by
  refine F.okX sc_tk (fun vs H Q E h => ?_) (fun cdv A outer s H vs Q E hr h => ?_)
  · obtain ⟨d, m, rfl, _⟩ := h
    rfl
  · obtain ⟨d, m, rfl, m0, ⟨ns, hd, nn⟩, k⟩ := h
    refine ⟨_, pss_cons (ps_if (pt_cmpR op_eq (pe_callB call_len_seq (by rfl) B.len PySem.boot_len (pa_cons (pv 0) pa_nil)) pe_int (nomark _)) (pss_one (ps_ret pe_int)) pss_nil)
      (pss_one (ps_ret (pe_op op_mod (pe_callTy call_int1 (by rfl) B.int (by decide +kernel) (pa_cons (pe_lpop (pv 0)) pa_nil)) (pv 1)))), ?_⟩
    refine ⟨_, rfl, d, _, rfl, .inl (SqL.of hd), rfl, _, rfl, ?_⟩
    rw [dec_int, List.length_map]
    by_cases e : ns = []
    · subst e
      exact iteT (k 0 H (Int.le_refl _) m0 del_sub ⟨[], hd, nn⟩)
    · have l0 : 0 < ns.length := List.length_pos_iff.mpr e
      rw [show (((ns.length : Nat) : Int) == 0) = false by rw [beq_eq_false_iff_ne]; omega]
      have hlt : ns.length - 1 < ns.length := by omega
      refine iteF ⟨_, rfl, .inl ⟨rfl, _, SqL.of hd⟩, d, _, .int ns[ns.length - 1], rfl, rfl, hd, by rw [List.length_map, List.getElem?_map, List.getElem?_eq_getElem hlt]; rfl, ?_⟩
      refine .inl ⟨_, rfl, _, rfl, _, _, rfl, rfl, m0, ?_⟩
      refine k _ _ (Int.emod_nonneg _ (by omega)) (Int.emod_lt_of_pos _ m0) del_upd ⟨ns.dropLast, by rw [upd_same, List.map_dropLast], fun j hj => nn j (List.dropLast_subset _ hj)⟩
/-- _law_draws -/
def spDr (K : PySem.W.Frag) : Sp := fun vs H Q _ => ∃ (l : Addr) (ms : List Int), vs = [.ref l] ∧ SqL K H l (ms.map V.int) ∧ ∀ H' d, Same H H' → H d = none → DrO H' d → Q (.ref d) H'
theorem sc_dr : FnScope ["_law_script", "_law_draws_here", "_law_at", "_law_cell", "_law_k", "_law_number"] ["_law_script"] (defScope s_dr) := ⟨rfl, rfl, rfl, by decide +kernel, rfl, by decide +kernel, by decide +kernel⟩
theorem DrN.push {H : Hp} {d : Addr} {n : Nat} {x : Int} (h : DrN H d n) (hx : 0 ≤ x) {xs : List V} (e : H d = some (.lst xs)) : DrN (upd H d (.lst (xs ++ [.int x]))) d (n + 1) := by
  obtain ⟨ns, h1, h2, h3⟩ := h
  rw [h1] at e
  cases e
  refine ⟨ns ++ [x], by rw [upd_same, List.map_append]; rfl, fun k hk => ?_, by rw [List.length_append]; exact Nat.add_le_add_right h3 1⟩
  rcases List.mem_append.mp hk with hk | hk
  · exact h2 k hk
  · rw [List.mem_singleton.mp hk]
    exact hx
theorem DrN.at {H : Hp} {d : Addr} {n : Nat} (h : DrN H d n) : ∃ xs, H d = some (.lst xs) ∧ xs.length ≤ n := by
  obtain ⟨ns, h1, h2, h3⟩ := h
  exact ⟨_, h1, by rw [List.length_map]; exact h3⟩
theorem DrN.up {H : Hp} {d : Addr} {n m : Nat} (h : DrN H d n) (l : n ≤ m) : DrN H d m := by
  obtain ⟨ns, h1, h2, h3⟩ := h
  exact ⟨ns, h1, h2, Nat.le_trans h3 l⟩
theorem SqL.sm {K : PySem.W.Frag} {H H' : Hp} {a : Addr} {xs : List V} (h : SqL K H a xs) (s : Same H H') : SqL K H' a xs := h.ext fun b o e => s b o e
theorem ok_dr (F : Fun K "_law_draws" "_law_draws" s_dr f fd) (B : Blt2 mg) : FnOk P w K mg base (L2.CX P w) 1 f fd ["_law_script"] (spDr K) := by
  refine F.okX sc_dr (fun vs H Q E h => ?_) (fun cdv A outer s H vs Q E hr h => ?_)
  · obtain ⟨l, ms, rfl, _⟩ := h
    rfl
  · obtain ⟨l, ms, rfl, hl, k⟩ := h
    have nd := sc_dr.nd
    refine ⟨_, pss_cons (ps_set (i := 1) nd rfl (.inl rfl) (pe_lst pa_nil))
      (pss_cons (ps_for (passes_of rfl) rfl (pi_range1 (by rfl) B.range (pa_cons (pe_callB (c_min rfl) (by rfl) B.min (by decide +kernel) (pa_cons (pe_callB c_len (by rfl) B.len PySem.boot_len (pa_cons (pv 0) pa_nil)) (pa_cons pe_int pa_nil))) pa_nil)) (pg_name (i := 2) nd rfl (.inl rfl))
        (pss_cons (ps_set (i := 3) nd rfl (.inl rfl) (pe_callTy call_int1 (by rfl) B.int (by decide +kernel) (pa_cons (pe_ix ix_list (pv 0) (pv 2) (fun _ _ => rfl)) pa_nil)))
        (pss_cons (ps_if (pt_cmpR op_lt (pv 3) pe_int (nomark _)) (pss_one (ps_set (i := 3) nd rfl (.inl rfl) (pe_op op_sub pe_int (pv 3)))) pss_nil)
        (pss_one (ps_if (pt_cmpR op_ge (pv 3) (pe_op op_pow pe_int pe_int) (nomark _))
          (pss_one (ps_for (passes_of rfl) rfl (pi_range1 (by rfl) B.range (pa_cons pe_int pa_nil)) (pg_name (i := 4) nd rfl (.inl rfl))
            (pss_one (ps_if (pt_cmpR op_gt (pv 3) pe_int (nomark _))
              (pss_cons (ps_expr (pe_lapp (pv 1) (pa_cons (pe_op op_mod (pe_callTy call_int1 (by rfl) B.int (by decide +kernel) (pa_cons (pv 3) pa_nil)) pe_int) pa_nil)))
              (pss_one (ps_set (i := 3) nd rfl (.inl rfl) (pe_op op_fdiv (pv 3) pe_int)))) pss_nil))))
          (pss_cons (ps_set (i := 5) nd rfl (.inl rfl) (pe_op op_mod (pe_callTy call_int1 (by rfl) B.int (by decide +kernel) (pa_cons (pe_op op_add (pe_op op_add (pe_op op_mul (pv 3) pe_int) (pe_op op_mul (pv 2) pe_int)) pe_int) pa_nil)) pe_int))
          (pss_one (ps_for (passes_of rfl) rfl (pi_range1 (by rfl) B.range (pa_cons pe_int pa_nil)) (pg_name (i := 4) nd rfl (.inl rfl))
            (pss_cons (ps_set (i := 5) nd rfl (.inl rfl) (pe_op op_mod (pe_callTy call_int1 (by rfl) B.int (by decide +kernel) (pa_cons (pe_op op_add (pe_op op_add (pe_op op_add (pe_op op_mul (pv 5) (pv 5)) (pe_op op_mul (pv 4) pe_int)) (pv 2)) pe_int) pa_nil)) pe_int))
            (pss_one (ps_expr (pe_lapp (pv 1) (pa_cons (pv 5) pa_nil)))))))))))))
      (pss_cons (ps_expr (pe_lrev (pv 1)))
      (pss_one (ps_ret (pv 1))))), ?_⟩
    refine ⟨by show 0 ≤ sizeLine; exact Nat.zero_le _, fun D nD => ?_⟩
    have s0 : Same H (upd H D (.lst [])) := same_upd nD
    have eL : (ms.map V.int).length = ms.length := List.length_map _
    refine ⟨_, rfl, l, _, rfl, .inl (SqL.sm hl s0), _, _, rfl, ?_⟩
    rw [eL]
    obtain ⟨J, eJ⟩ : ∃ J : Int, J = if (63 : Int) < ((ms.length : Nat) : Int) then 63 else ((ms.length : Nat) : Int) := ⟨_, rfl⟩
    rw [← eJ]
    have hJ : 0 ≤ J ∧ J ≤ 63 ∧ J ≤ ((ms.length : Nat) : Int) := by
      rw [eJ]
      split <;> omega
    let P1 : Nat → L2.St → Hp → Prop := fun i σ H' => ∃ o2 o3 o4 o5, σ = [some (.ref l), some (.ref D), o2, o3, o4, o5] ∧ Same H H' ∧ DrN H' D (60 * i)
    refine ⟨J, rfl, by omega, by omega, for_range (n := J.toNat) P1 ⟨none, none, none, none, rfl, s0, [], upd_same, (fun k hk => by cases hk), Nat.zero_le _⟩ (fun i σ H' hi h => ?_) (fun σ H' h => ?_)⟩
    · obtain ⟨o2, o3, o4, o5, rfl, sm, dn⟩ := h
      rw [Int.zero_add]
      have hi2 : i < ms.length := by omega
      have at0 : atI (ms.map V.int) (i : Int) = some (V.int ms[i]) := atI_nat (by rw [List.getElem?_map, List.getElem?_eq_getElem hi2]; rfl)
      refine ⟨_, rfl, _, rfl, l, _, (i : Int), _, rfl, rfl, SqL.sm hl sm, at0, .inl ⟨_, rfl, ?_⟩⟩
      generalize ms[i] = c
      refine ⟨_, rfl, _, _, rfl, rfl, _, rfl, ?_⟩
      by_cases c0 : c < 0
      · rw [decide_eq_true c0]
        refine iteT ⟨_, rfl, _, _, rfl, rfl, ?_⟩
        have c1 : 0 ≤ 1 - c := by omega
        refine ⟨_, rfl, _, _, rfl, rfl, ⟨by decide, by decide, by decide⟩, _, _, rfl, rfl, decide ((1000000000000000000 : Int) ≤ (1 - c)), rfl, ?_⟩
        by_cases big : (1000000000000000000 : Int) ≤ (1 - c)
        · rw [decide_eq_true big]
          refine iteT ?_
          let P2 : Nat → L2.St → Hp → Prop := fun t σ H' => ∃ o4 c, σ = [some (.ref l), some (.ref D), some (.int (i : Int)), some (.int c), o4, o5] ∧ 0 ≤ c ∧ Same H H' ∧ DrN H' D (60 * i + t)
          refine ⟨60, rfl, by decide, by decide, for_range (n := 60) P2 ⟨o4, (1 - c), rfl, c1, sm, dn⟩ (fun t σ H2 ht h => ?_) (fun σ H2 h => ?_)⟩
          · obtain ⟨o4, c, rfl, c1, sm, dn⟩ := h
            refine ⟨_, rfl, _, _, rfl, rfl, _, rfl, ?_⟩
            by_cases g0 : 0 < c
            · rw [decide_eq_true g0]
              obtain ⟨xs, hx, lx⟩ := dn.at
              refine iteT ⟨_, rfl, .inl ⟨rfl, xs, SqL.of hx⟩, _, rfl, .inl ⟨_, rfl, _, _, rfl, rfl, (by show (0 : Int) < 24; decide), D, xs, _, rfl, rfl, hx, by rw [sizeLine_eq]; omega, ?_⟩⟩
              refine ⟨_, rfl, _, _, rfl, rfl, ⟨by decide, by decide⟩, _, c / 24, rfl, Int.ediv_nonneg c1 (by decide), same_keep nD sm, dn.push (Int.emod_nonneg _ (by decide)) hx⟩
            · rw [decide_eq_false g0]
              exact iteF ⟨_, c, rfl, c1, sm, dn.up (by omega)⟩
          · obtain ⟨o4, c, rfl, c1, sm, dn⟩ := h
            exact ⟨_, _, _, _, rfl, sm, dn.up (by omega)⟩
        · rw [decide_eq_false big]
          have cl : (1 - c) < 1000000000000000000 := Int.not_le.mp big
          refine iteF ⟨_, rfl, _, _, rfl, rfl, .inl ⟨by omega, by omega⟩, _, rfl, _, _, rfl, rfl, .inl ⟨by omega, by omega⟩, _, _, rfl, rfl, _, _, rfl, rfl, .inl ⟨_, rfl, _, _, rfl, rfl, (by show (0 : Int) < 2147483647; decide), ?_⟩⟩
          have v1 : 0 ≤ ((1 - c) * 48947 + (i : Int) * 60493 + 7) % 2147483647 ∧ ((1 - c) * 48947 + (i : Int) * 60493 + 7) % 2147483647 < 2147483647 := ⟨Int.emod_nonneg _ (by decide), Int.emod_lt_of_pos _ (by decide)⟩
          let P3 : Nat → L2.St → Hp → Prop := fun t σ H' => ∃ o4 v, σ = [some (.ref l), some (.ref D), some (.int (i : Int)), some (.int (1 - c)), o4, some (.int v)] ∧ (0 ≤ v ∧ v < 2147483647) ∧ Same H H' ∧ DrN H' D (60 * i + t)
          refine ⟨6, rfl, by decide, by decide, for_range (n := 6) P3 ⟨o4, ((1 - c) * 48947 + (i : Int) * 60493 + 7) % 2147483647, rfl, v1, sm, dn⟩ (fun t σ H2 ht h => ?_) (fun σ H2 h => ?_)⟩
          · obtain ⟨o4, v, rfl, v1, sm, dn⟩ := h
            refine ⟨_, rfl, _, rfl, _, _, rfl, rfl, .inl ⟨by omega, by omega⟩, _, rfl, _, _, rfl, rfl, .inl ⟨by omega, by omega⟩, _, _, rfl, rfl, _, rfl, _, _, rfl, rfl, _, _, rfl, rfl, .inl ⟨_, rfl, _, _, rfl, rfl, (by show (0 : Int) < 2147483587; decide), ?_⟩⟩
            have w1 : 0 ≤ (v * v + (0 + (t : Int)) * 38447 + (i : Int) + 11) % 2147483587 ∧ (v * v + (0 + (t : Int)) * 38447 + (i : Int) + 11) % 2147483587 < 2147483587 := ⟨Int.emod_nonneg _ (by decide), Int.emod_lt_of_pos _ (by decide)⟩
            obtain ⟨xs, hx, lx⟩ := dn.at
            refine ⟨_, rfl, .inl ⟨rfl, xs, SqL.of hx⟩, _, rfl, D, xs, _, rfl, rfl, hx, by rw [sizeLine_eq]; omega, ?_⟩
            exact ⟨_, (v * v + (0 + (t : Int)) * 38447 + (i : Int) + 11) % 2147483587, rfl, ⟨w1.1, Int.lt_trans w1.2 (by decide)⟩, same_keep nD sm, dn.push w1.1 hx⟩
          · obtain ⟨o4, v, rfl, v1, sm, dn⟩ := h
            exact ⟨_, _, _, _, rfl, sm, dn.up (by omega)⟩
      · rw [decide_eq_false c0]
        refine iteF ?_
        have c1 : 0 ≤ c := by omega
        refine ⟨_, rfl, _, _, rfl, rfl, ⟨by decide, by decide, by decide⟩, _, _, rfl, rfl, decide ((1000000000000000000 : Int) ≤ c), rfl, ?_⟩
        by_cases big : (1000000000000000000 : Int) ≤ c
        · rw [decide_eq_true big]
          refine iteT ?_
          let P2 : Nat → L2.St → Hp → Prop := fun t σ H' => ∃ o4 c, σ = [some (.ref l), some (.ref D), some (.int (i : Int)), some (.int c), o4, o5] ∧ 0 ≤ c ∧ Same H H' ∧ DrN H' D (60 * i + t)
          refine ⟨60, rfl, by decide, by decide, for_range (n := 60) P2 ⟨o4, c, rfl, c1, sm, dn⟩ (fun t σ H2 ht h => ?_) (fun σ H2 h => ?_)⟩
          · obtain ⟨o4, c, rfl, c1, sm, dn⟩ := h
            refine ⟨_, rfl, _, _, rfl, rfl, _, rfl, ?_⟩
            by_cases g0 : 0 < c
            · rw [decide_eq_true g0]
              obtain ⟨xs, hx, lx⟩ := dn.at
              refine iteT ⟨_, rfl, .inl ⟨rfl, xs, SqL.of hx⟩, _, rfl, .inl ⟨_, rfl, _, _, rfl, rfl, (by show (0 : Int) < 24; decide), D, xs, _, rfl, rfl, hx, by rw [sizeLine_eq]; omega, ?_⟩⟩
              refine ⟨_, rfl, _, _, rfl, rfl, ⟨by decide, by decide⟩, _, c / 24, rfl, Int.ediv_nonneg c1 (by decide), same_keep nD sm, dn.push (Int.emod_nonneg _ (by decide)) hx⟩
            · rw [decide_eq_false g0]
              exact iteF ⟨_, c, rfl, c1, sm, dn.up (by omega)⟩
          · obtain ⟨o4, c, rfl, c1, sm, dn⟩ := h
            exact ⟨_, _, _, _, rfl, sm, dn.up (by omega)⟩
        · rw [decide_eq_false big]
          have cl : c < 1000000000000000000 := Int.not_le.mp big
          refine iteF ⟨_, rfl, _, _, rfl, rfl, .inl ⟨by omega, by omega⟩, _, rfl, _, _, rfl, rfl, .inl ⟨by omega, by omega⟩, _, _, rfl, rfl, _, _, rfl, rfl, .inl ⟨_, rfl, _, _, rfl, rfl, (by show (0 : Int) < 2147483647; decide), ?_⟩⟩
          have v1 : 0 ≤ (c * 48947 + (i : Int) * 60493 + 7) % 2147483647 ∧ (c * 48947 + (i : Int) * 60493 + 7) % 2147483647 < 2147483647 := ⟨Int.emod_nonneg _ (by decide), Int.emod_lt_of_pos _ (by decide)⟩
          let P3 : Nat → L2.St → Hp → Prop := fun t σ H' => ∃ o4 v, σ = [some (.ref l), some (.ref D), some (.int (i : Int)), some (.int c), o4, some (.int v)] ∧ (0 ≤ v ∧ v < 2147483647) ∧ Same H H' ∧ DrN H' D (60 * i + t)
          refine ⟨6, rfl, by decide, by decide, for_range (n := 6) P3 ⟨o4, (c * 48947 + (i : Int) * 60493 + 7) % 2147483647, rfl, v1, sm, dn⟩ (fun t σ H2 ht h => ?_) (fun σ H2 h => ?_)⟩
          · obtain ⟨o4, v, rfl, v1, sm, dn⟩ := h
            refine ⟨_, rfl, _, rfl, _, _, rfl, rfl, .inl ⟨by omega, by omega⟩, _, rfl, _, _, rfl, rfl, .inl ⟨by omega, by omega⟩, _, _, rfl, rfl, _, rfl, _, _, rfl, rfl, _, _, rfl, rfl, .inl ⟨_, rfl, _, _, rfl, rfl, (by show (0 : Int) < 2147483587; decide), ?_⟩⟩
            have w1 : 0 ≤ (v * v + (0 + (t : Int)) * 38447 + (i : Int) + 11) % 2147483587 ∧ (v * v + (0 + (t : Int)) * 38447 + (i : Int) + 11) % 2147483587 < 2147483587 := ⟨Int.emod_nonneg _ (by decide), Int.emod_lt_of_pos _ (by decide)⟩
            obtain ⟨xs, hx, lx⟩ := dn.at
            refine ⟨_, rfl, .inl ⟨rfl, xs, SqL.of hx⟩, _, rfl, D, xs, _, rfl, rfl, hx, by rw [sizeLine_eq]; omega, ?_⟩
            exact ⟨_, (v * v + (0 + (t : Int)) * 38447 + (i : Int) + 11) % 2147483587, rfl, ⟨w1.1, Int.lt_trans w1.2 (by decide)⟩, same_keep nD sm, dn.push w1.1 hx⟩
          · obtain ⟨o4, v, rfl, v1, sm, dn⟩ := h
            exact ⟨_, _, _, _, rfl, sm, dn.up (by omega)⟩
    · obtain ⟨o2, o3, o4, o5, rfl, sm, dn⟩ := h
      obtain ⟨ns, h1, h2, h3⟩ := dn
      refine ⟨_, rfl, .inl ⟨rfl, _, SqL.of h1⟩, D, _, rfl, rfl, h1, _, rfl, ?_⟩
      exact k _ D (same_keep nD sm) nD ⟨ns.reverse, by rw [upd_same, List.map_reverse], fun j hj => h2 j (List.mem_reverse.mp hj)⟩
end
end K0
set_option Elab.async false
set_option linter.all false
set_option maxRecDepth 100000
set_option maxHeartbeats 4000000
namespace K0
open PySem PySem.Spec PyProof.Rows L2
theorem del_upd_ne {H : Hp} {a d : Addr} {o : HO} (h : a ≠ d) : del (upd H a o) d = upd (del H d) a o := by
  funext b
  by_cases hb : b = d
  · rw [hb, del_same, upd_ne h.symm, del_same]
  · rw [del_ne hb]
    by_cases ha : b = a
    · rw [ha, upd_same, upd_same]
    · rw [upd_ne ha, upd_ne ha, del_ne hb]
theorem DrO.ne {H : Hp} {d u : Addr} (h : DrO H d) (n : H u = none) : u ≠ d := fun e => by
  obtain ⟨ns, h1, _⟩ := h
  rw [e, h1] at n
  cases n
theorem DrO.upd {H : Hp} {d u : Addr} {o : HO} (h : DrO H d) (n : u ≠ d) : DrO (upd H u o) d := by
  obtain ⟨ns, h1, h2⟩ := h
  exact ⟨ns, by rw [upd_ne n.symm]; exact h1, h2⟩
/-- new things, the draws apart -/
theorem sd_upd {H H' : Hp} {d u : Addr} {o : HO} (s : Same (del H d) H') (n : H u = none) (ne : u ≠ d) : Same (del H d) (upd H' u o) := fun b v e => by
  have : b ≠ u := fun z => by
    rw [z, del_ne ne, n] at e
    cases e
  rw [upd_ne this]
  exact s b v e
theorem sd_trans {H H1 H2 : Hp} {d : Addr} (a : Same (del H d) H1) (b : Same (del H1 d) H2) : Same (del H d) H2 := (same_del a).trans b
theorem sd_none {H H' : Hp} {d a : Addr} (s : Same (del H d) H') (n : H' a = none) (ne : a ≠ d) : H a = none := by
  cases e : H a with
  | none => rfl
  | some o =>
    have := s a o (by rw [del_ne ne]; exact e)
    rw [this] at n
    cases n
end K0
set_option Elab.async false
set_option linter.all false
set_option maxRecDepth 100000
set_option maxHeartbeats 4000000
namespace K0
open PySem PySem.Spec PyProof.Rows L2
/-! ### calls whose exceptions are caught here -/
section
variable {X : Cx} {pins : List (Addr × Obj)} {σ : L2.St} {H : Hp} {s : Shared}
theorem run_anyS {A : Around} {n : Nat} {f : Addr} {fd : FuncData} {ps : List Str} {sp : Sp} {E : XK} {Q : VK} {vs : List V} {us : List Value} {CX : CXT} (sb : Sub X n A) (F : FnOk X.prog X.w X.K X.mg X.base CX n f fd ps sp) (hb : Binds X.K fd ps []) (hx : PassesAt CX X σ E)
    (I : Inv X pins σ H s) (r : Vals vs us) (h : sp vs H Q E) : wpAny (model X.prog X.w) A (call (.ref f) us) (EP X pins σ Q) X.xe s := by
  have e0 : Env0 X.prog X.w X.K X.mg X.base A X.stack s H := by
    have e := I.env0
    exact ⟨by rw [sb.fr]; exact e.frames, e.mod, e.bs, e.bsz, e.funs, e.frf, e.hok, e.bare⟩
  have hl := F.len _ _ _ _ h
  have hl2 : us.length = ps.length := by rw [← hl, r.length]
  refine wpAny_call (codeAny_mono (F.run A X.stack s H ⟨us, []⟩ us vs Q E sb.room e0 (by
    have := hb s us I.kIn (by simpa using hl2)
    simpa using this) r h) fun r s' hq => ?_)
  cases r with
  | error e => exact hx pins H s e s' I hq
  | ok fl =>
    cases fl with
    | ret w => exact I.after hq
    | next => exact False.elim hq
    | brk => exact False.elim hq
    | cont => exact False.elim hq
variable {C CN CW : Addr} {m : Str} {k : Nat} {ps : List Str} {sp : Sp} {E : L2.St → XK} {o e : Expr} {es : List Expr} {ta tb : TE} {t : TA} {p apos pos : Pos}
def tMethS (C : Addr) (m : Str) (sp : Sp) (E : L2.St → XK) (ta : TE) (t : TA) : TE := fun σ H Q => ta σ H fun x H1 => ∃ a dx fs, x = .ref a ∧ H1 a = some (.ins C dx fs) ∧ fs.lookup m = none ∧ t σ H1 fun vs H2 => sp (x :: vs) H2 Q (E σ)
theorem pe_mtS {pl : Sem Bool} (T : Mt X.prog X.w X.K X.mg X.base C m k ps sp) (hr : Room k X.A) (hx : ∀ σ, PassesAt (L2.CX X.prog X.w) X σ (E σ)) (he : PE X o ta) (ha : PA X (e :: es) t)
    (hst : starEach (e :: es) X.env = (false, eval e X.env) :: starEach es X.env := by rfl) (hpl : (backTo pos (starEach es X.env)).any (·.1) = false := by rfl)
    (ht : eval (.Call (.Attribute o m apos) (e :: es) [] pos) X.env = (do
      let ov ← eval o X.env
      standAt apos.atName
      let (f, first) ← holding [ov] (getMethod ov m pl)
      callWith pos f first (backTo pos (starEach (e :: es) X.env)) (backToKw pos (keywordEach [] X.env))) := by rfl) : PE X (.Call (.Attribute o m apos) (e :: es) [] pos) (tMethS C m sp E ta t) := by
  obtain ⟨f, fd, c, hm, _, _, _, F, b⟩ := T.ex
  refine ⟨fun pins s σ H Q I h => ?_⟩
  refine PySem.W.methodCall_KW (pl := pl) (thn (he.run pins s σ H _ I h) fun u s1 ⟨x, H1, I1, rx, a, dx, fs, ex, ea, l, q⟩ => ?_) ht
  subst ex
  obtain rfl : u = Value.ref a := rx
  refine getmeth_ok I1 ea c hm l ?_
  refine PySem.W.callWith_K (first := [.ref a]) (h₀ := X.base) I.ok.mod.kin hm.kp (thn (ha.run pos pins s1 σ H1 _ I1 q) fun us s2 ⟨vs, H2, I2, r, q2⟩ => ⟨I2.kIn, ?_⟩) hst hpl
  exact run_anyS (vs := .ref a :: vs) (us := .ref a :: us) ⟨hr, rfl⟩ F b (hx σ) I2 (.cons rfl r) q2
end
end K0
set_option Elab.async false
set_option linter.all false
set_option maxRecDepth 100000
set_option maxHeartbeats 4000000
namespace K0
open PySem PySem.Spec PyProof.Rows L2
abbrev heapOf {H H' : Hp} (_ : Same H H') : Hp := H'
theorem cut_take (xs : List V) (k : Nat) : cutV xs none (some (k : Int)) = xs.take k := by
  unfold cutV HT.sIx
  simp only [Nat.sub_zero, List.drop_zero]
  by_cases h : xs.length ≤ k
  · rw [List.take_of_length_le h]
    refine List.take_of_length_le ?_
    split <;> omega
  · congr 1
    split <;> omega
theorem cut_drop (xs : List V) (k : Nat) (h : k ≤ xs.length) : cutV xs (some (k : Int)) none = xs.drop k := by
  have e : HT.sIx xs.length 0 (some (k : Int)) = k := by
    unfold HT.sIx
    simp only
    split <;> omega
  have e2 : HT.sIx xs.length xs.length none = xs.length := rfl
  unfold cutV
  rw [e, e2]
  refine List.take_of_length_le ?_
  rw [List.length_drop]
  exact Nat.le_refl _
theorem cl_eq {n m : Int} {q q' : List Pr} (h : Cl n q) (h' : Cl m q') (e : ∀ z, z ∈ q' ↔ z ∈ q) : q' = q := srt_unique h'.srt h.srt e
theorem Cl.up {n m : Int} {q : List Pr} (h : Cl n q) (l : n ≤ m) : Cl m q := ⟨h.srt, fun p hp => by have := h.rng p hp; omega⟩
/-- Web(n, ..) on a list of pairs that holds just those of r, once or more -/
theorem mk_ls {K : PySem.W.Frag} {C CN CW : Addr} {H : Hp} {b : Addr} {n : Int} {ps : List Pr} {Q : VK} {E : XK} (hl : Ls H b ps) (rng : ∀ z ∈ ps, 0 ≤ z.1 ∧ z.1 < z.2 ∧ z.2 < n) (h0 : 0 ≤ n) (h8 : n ≤ 16) (h62 : ps.length ≤ 62)
    (k : ∀ H' p q, Same H H' → H p = none → Cl n q → (∀ z, z ∈ q ↔ z ∈ ps) → WebAt C (New H H') p n q → Q (.ref p) H') : spMk K C CN CW [.int n, .ref b] H Q E := by
  refine ⟨b, .int n, .int n, ps.map prD, rfl, .int n, hl.sq, fun z => ?_, fun m e _ => ?_⟩
  · have z' : ¬ (0 ≤ n) := of_decide_eq_false z
    exact absurd h0 z'
  · cases e
    refine ⟨h8, by rw [List.length_map]; exact h62, fun ps' hps q cq hm H' p sm np W => ?_, fun x y hxy => ?_⟩
    · rw [entsOf_prs rng] at hps
      cases hps
      exact k H' p q sm np cq hm W
    · rw [entsOf_prs rng] at hxy
      cases hxy
end K0
set_option Elab.async false
set_option linter.all false
set_option maxRecDepth 100000
set_option maxHeartbeats 4000000
set_option Elab.async false
set_option linter.all false
set_option maxRecDepth 100000
set_option maxHeartbeats 4000000
namespace K0
open PySem PySem.Spec PyProof.Rows L2
/-! ### sorted pairs -/
def kH (H : Hp) : V → Int × Int
  | .ref a => match H a with
    | some (.tup [.int x, .int y]) => (x, y)
    | _ => (0, 0)
  | _ => (0, 0)
theorem kH_at {H : Hp} {a : Addr} {p : Pr} (h : H a = some (.tup [.int p.1, .int p.2])) : kH H (.ref a) = p := by
  show (match H a with | some (.tup [.int x, .int y]) => (x, y) | _ => (0, 0)) = p
  rw [h]
theorem dta_kH {H : Hp} : ∀ {xs : List V} {ps : List Pr}, DtAll H xs (ps.map prD) → xs.map (kH H) = ps ∧ ∀ x ∈ xs, ∃ t, x = V.ref t ∧ H t = some (.tup [.int (kH H x).1, .int (kH H x).2])
  | xs, [], h => by
    cases h
    exact ⟨rfl, fun x hx => by cases hx⟩
  | xs, p :: ps, h => by
    cases h with
    | cons h1 h2 =>
      obtain ⟨e, hh⟩ := dta_kH h2
      cases h1 with
      | tup ea h =>
        cases h with
        | cons a b =>
          cases b with
          | cons c d =>
            cases a
            cases c
            cases d
            have ek := kH_at ea
            refine ⟨by rw [List.map_cons, ek, e], fun x hx => ?_⟩
            rcases List.mem_cons.mp hx with hx | hx
            · rw [hx, ek]
              exact ⟨_, rfl, ea⟩
            · exact hh x hx
theorem dta_of {H : Hp} {k : V → Int × Int} : ∀ {ys : List V}, (∀ y ∈ ys, ∃ t, y = V.ref t ∧ H t = some (.tup [.int (k y).1, .int (k y).2])) → DtAll H ys ((ys.map k).map prD)
  | [], _ => .nil
  | y :: ys, h => by
    obtain ⟨t, e, ht⟩ := h y List.mem_cons_self
    subst e
    exact .cons (dt_pr ht) (dta_of fun z hz => h z (List.mem_cons_of_mem _ hz))
theorem cr_srtP {X : Cx} : CallR X (.builtin "sorted") (fun xs H Q => ∃ a ps, xs = [.ref a] ∧ Ls H a ps ∧ ps.Nodup ∧ ∀ H' p rs, Same H H' → H p = none → Ls H' p rs → rs.Pairwise plt → (∀ z, z ∈ rs ↔ z ∈ ps) → rs.length = ps.length → Q (.ref p) H') := by
  intro pins s σ H xs us Q I r h
  obtain ⟨a, ps, rfl, ⟨ys, ha, hy⟩, nd, k⟩ := h
  obtain ⟨e, hh⟩ := dta_kH hy
  refine cr_sortedPO pins s σ H _ us Q I r ⟨a, ys, kH H, rfl, SqL.of ha, hh, fun zs p srt stb np => ?_⟩
  have sm : Same H (upd H p (.lst zs)) := same_upd np
  have pm : (zs.map (kH H)).Perm ps := by
    rw [← e]
    exact stb.perm.map _
  have nd2 : (zs.map (kH H)).Nodup := pm.nodup_iff.mpr nd
  refine k _ p (zs.map (kH H)) sm np ⟨zs, upd_same, dta_of fun y hy' => ?_⟩ ?_ (fun z => pm.mem_iff) pm.length_eq
  · obtain ⟨t, e1, e2⟩ := hh y (stb.perm.mem_iff.mp hy')
    exact ⟨t, e1, sm _ _ e2⟩
  · have s2 : (zs.map (kH H)).Pairwise fun x y => SrtO.lexB y x = false := List.pairwise_map.mpr srt
    refine List.Pairwise.imp₂ (fun x y h1 h2 => ?_) s2 nd2
    have := SrtO.lexB_no.mp h1
    have ne : x.1 ≠ y.1 ∨ x.2 ≠ y.2 := by
      by_cases e1 : x.1 = y.1
      · exact .inr fun e2 => h2 (Prod.ext e1 e2)
      · exact .inl e1
    unfold plt
    omega
end K0
set_option Elab.async false
set_option linter.all false
set_option maxRecDepth 100000
set_option maxHeartbeats 4000000
/-! ### rows of ints, sorted, any number of them -/
namespace RowS
open PySem PySem.Spec PyProof.Rows L2
abbrev cd (r : List Int) : Int := TS.code 64 r
/-- sorted rows, each once -/
abbrev Up (rs : List (List Int)) : Prop := rs.Pairwise fun a b => cd a < cd b
theorem up_unique : ∀ {l m : List (List Int)}, Up l → Up m → (∀ x, x ∈ l ↔ x ∈ m) → l = m
  | [], [], _, _, _ => rfl
  | [], b :: m, _, _, h => by cases (h b).mpr List.mem_cons_self
  | a :: l, [], _, _, h => by cases (h a).mp List.mem_cons_self
  | a :: l, b :: m, hl, hm, h => by
    obtain ⟨al, ll⟩ := List.pairwise_cons.mp hl
    obtain ⟨bm, mm⟩ := List.pairwise_cons.mp hm
    have e : a = b := by
      rcases List.mem_cons.mp ((h a).mp List.mem_cons_self) with e | e
      · exact e
      rcases List.mem_cons.mp ((h b).mpr List.mem_cons_self) with e2 | e2
      · exact e2.symm
      have p := bm a e
      have q := al b e2
      omega
    subst e
    have no : ∀ {k : List (List Int)}, (∀ x ∈ k, cd a < cd x) → a ∉ k := fun hk hx => Int.lt_irrefl _ (hk a hx)
    rw [up_unique ll mm fun x => ⟨fun hx => ?_, fun hx => ?_⟩]
    · rcases List.mem_cons.mp ((h x).mp (List.mem_cons_of_mem _ hx)) with e | e
      · exact absurd hx (by rw [e]; exact no al)
      · exact e
    · rcases List.mem_cons.mp ((h x).mpr (List.mem_cons_of_mem _ hx)) with e | e
      · exact absurd hx (by rw [e]; exact no bm)
      · exact e
section
variable {prog : Program} {w : World} {A : Around} {E : Value → Shared → Prop} {s : Shared}
theorem swo_cd {α : Type} (k : α → Int) : SrtO.Swo fun v u => decide (k v < k u) := by
  refine ⟨fun x y h => ?_, fun x y z h1 h2 => ?_⟩
  · have := of_decide_eq_true h
    exact decide_eq_false (by omega)
  · have := of_decide_eq_false h1
    have := of_decide_eq_false h2
    exact decide_eq_false (by omega)
theorem rows_cmp {d : Nat} {vs : List Value} {h0 : Heap} (hp : TS.TupsOk s.heap d 64 vs) (same : ∀ v ∈ vs, TS.intsOf h0 v = TS.intsOf s.heap v) :
    SrtO.Cmp prog w A s (tuples' true) (fun p => p.1 ∈ vs) (SrtO.lt2 fun v u => decide (cd (TS.intsOf h0 v) < cd (TS.intsOf h0 u))) := by
  intro p q hm hm'
  obtain ⟨ns, t1, l1, b1⟩ := hp _ hm
  obtain ⟨ms, t2, l2, b2⟩ := hp _ hm'
  show wpAny (model prog w) A (keyLt' (tuples' true) p.1 q.1) (fun r s' => s' = s ∧ r = decide (cd (TS.intsOf h0 p.1) < cd (TS.intsOf h0 q.1))) (fun _ _ => False) s
  rw [same _ hm, same _ hm', t1.ints, t2.ints]
  obtain ⟨a, xs, e, ⟨o, ho, hc, n, hd⟩, i⟩ := t1
  obtain ⟨a', xs', e', ⟨o', ho', hc', n', hd'⟩, i'⟩ := t2
  rw [e, e']
  refine PySem.W.kat_lt ho hd ho' hd' ?_
  have ez : decide (xs.size < xs'.size) = false := by
    have z1 := i.length
    have z2 := i'.length
    rw [Array.length_toList] at z1 z2
    exact decide_eq_false (by omega)
  rw [ez]
  exact TS.lex_ints 0 i i' (by omega) b1 b2 ⟨rfl, rfl⟩
theorem rows_sortable {d : Nat} {a : Addr} {vs : List Value} (hd : 1 ≤ d) (hz : 0 < vs.length) (hp : TS.TupsOk s.heap d 64 vs) (ha : ∀ o, s.heap.get? a = some o → o.cls ≠ .type "tuple") (h0 : Heap) (same : ∀ v ∈ vs, TS.intsOf h0 v = TS.intsOf s.heap v) :
    SrtO.SortableO prog w A s a vs fun v u => decide (cd (TS.intsOf h0 v) < cd (TS.intsOf h0 u)) := by
  intro h' keep
  have kp : ∀ b o, s.heap.get? b = some o → o.cls = .type "tuple" → h'.get? b = some o := fun b o e c => keep b o (fun z => by subst z; exact ha o e c) e
  have hp' : TS.TupsOk h' d 64 vs := hp.keeps kp
  have same' : ∀ v ∈ vs, TS.intsOf h0 v = TS.intsOf h' v := fun v hv => by
    obtain ⟨ns, t, _⟩ := hp v hv
    rw [same v hv, t.ints, (t.keeps kp).ints]
  obtain ⟨fs, h1, h2, h3⟩ := TS.firsts_of hd vs hp'
  refine ⟨tuples' true, fun Q E hq => ?_, rows_cmp (s := { s with heap := h' }) hp' same'⟩
  refine PySem.W.kat_kind (T := .type "int") h1 (by omega) (fun f hm => ?_) (by rfl) ?_
  · obtain ⟨x, t, rfl⟩ := h3 f hm
    exact PySem.W.Looks.now
  · have e : (Value.type "int" != Value.type "tuple") = true := by first | decide +kernel | rfl | decide
    rw [e]
    exact hq
theorem sorted_rows {l : Addr} {vs : List Value} {d : Nat} {Q : Value → Shared → Prop} (hl : s.heap.IsList l vs.toArray) (hz : vs.length ≤ sizeLine) (hd : 1 ≤ d) (hp : TS.TupsOk s.heap d 64 vs)
    (h : ∀ (h' : Heap) (p : Addr) (out : List Value), out.Perm vs → out.Pairwise (fun v u => cd (TS.intsOf s.heap v) ≤ cd (TS.intsOf s.heap u)) → (∀ b o, s.heap.get? b = some o → h'.get? b = some o) → s.heap.objs.size ≤ p → (∃ n, h'.get? p = some (seqObj "list" out.toArray n)) → Q (.ref p) { s with heap := h' }) :
    wpAny (model prog w) A (call (.builtin "sorted") [.ref l]) Q E s := by
  refine SrtO.sorted_ord (swo_cd fun v => cd (TS.intsOf s.heap v)) hl hz (fun h2 h₁ a ha kk => ?_) fun out hs hb => ?_
  · have kp : ∀ b o, s.heap.get? b = some o → o.cls = .type "tuple" → h₁.get? b = some o := fun b o e _ => (kk b o e).2
    refine rows_sortable (s := { s with heap := h₁ }) hd (by omega) (hp.keeps kp) (fun o e => ?_) s.heap fun v hv => ?_
    · have e' : some o = some (seqObj "list" vs.toArray 0) := e.symm.trans ha
      cases e'
      intro c
      exact absurd (Value.type.inj c) (by decide)
    · obtain ⟨ns, t, _⟩ := hp v hv
      rw [t.ints]
      exact (t.keeps kp).ints.symm
  · refine h _ _ out hb.perm (List.Pairwise.imp (fun {v u} z => ?_) hs) (fun b o e => sortedAll_old e) (Nat.le_succ _) (sortedAll_at s.heap vs out.toArray)
    have := of_decide_eq_false z
    omega
end
end RowS
namespace L2
open PySem PySem.Spec PyProof.Rows
/-- sorted(xs), xs a list of tuples of d ints in [0, 64): a new list of the same, by their codes -/
def rSortV (K : PySem.W.Frag) (d : Nat) : List V → Hp → VK → Prop := fun vs H Q => ∃ (a : Addr) (xs : List V), vs = [V.ref a] ∧ SqL K H a xs ∧ (∀ x ∈ xs, ∃ ns, TupI K H x ns ∧ ns.length = d ∧ TS.Bd 64 ns) ∧
  ∀ (ys : List V) (p : Addr), ys.Perm xs → ys.Pairwise (fun x y => ∀ n m, TupI K H x n → TupI K H y m → TS.code 64 n ≤ TS.code 64 m) → H p = none → Q (.ref p) (upd H p (.lst ys))
theorem cr_sortV {X : Cx} {d : Nat} (hd : 1 ≤ d) : CallR X (.builtin "sorted") (rSortV X.K d) := by
  intro pins s σ H vs us Q I r h
  obtain ⟨a, xs, rfl, hs, hx, q⟩ := h
  obtain ⟨its, rv, hl, hz⟩ := I.list hs
  rw [Vals.ref1 r]
  obtain ⟨e1, e2⟩ := bkV_refs rv fun x m => by
    obtain ⟨ns, ⟨t, e, _⟩, _⟩ := hx x m
    exact ⟨t, e⟩
  refine RowS.sorted_rows (d := d) hl.isList (by rw [← rv.length]; exact hz) hd (fun v hv => ?_) fun h' p out h1 h2 kp hp hn => ?_
  · obtain ⟨t, rfl⟩ := e2 v hv
    have hm : V.ref t ∈ xs := by
      rw [e1]
      exact List.mem_map.mpr ⟨_, hv, rfl⟩
    obtain ⟨ns, ⟨t', e, ht⟩, hn, hb⟩ := hx _ hm
    cases e
    exact ⟨ns, tupI_raw I ht, hn, hb⟩
  · have h3 : ∀ u ∈ out, ∃ a, u = Value.ref a := fun u hu => e2 u (h1.mem_iff.mp hu)
    obtain ⟨n, hn⟩ := hn
    have hp' : (out.map bkV).Perm xs := by
      rw [e1]
      exact h1.map bkV
    have hlen : (out.map bkV).length ≤ sizeLine := by
      rw [hp'.length_eq]
      exact hz
    refine ⟨.ref p, upd H p (.lst (out.map bkV)), I.laid (t' := s.toks) kp hp ⟨hlen, out, n, bkV_vals h3, hn⟩, rfl, q _ p hp' ?_ (I.hok.fresh hp)⟩
    rw [List.pairwise_map]
    refine List.Pairwise.imp (fun {u v} huv n m hn hm => ?_) h2
    obtain ⟨t, et, ht⟩ := hn
    obtain ⟨t', et', ht'⟩ := hm
    have eu := bkV_ref et
    have ev := bkV_ref et'
    have i1 : TS.intsOf s.heap u = n := by
      rw [eu]
      exact (tupI_raw I ht).ints
    have i2 : TS.intsOf s.heap v = m := by
      rw [ev]
      exact (tupI_raw I ht').ints
    have z := huv
    rw [i1, i2] at z
    exact z
end L2
set_option Elab.async false
set_option linter.all false
set_option maxRecDepth 100000
set_option maxHeartbeats 4000000
namespace K0
open PySem PySem.Spec PyProof.Rows L2
/-! ### rows of four, as sorted rows of ints -/
/-- x and y clash by the row q -/
def cl (q : List Pr) (x y : Int) : Prop := (x, y) ∈ q ∨ (y, x) ∈ q
theorem cl_symm {q : List Pr} {x y : Int} : cl q x y ↔ cl q y x := ⟨fun h => h.symm, fun h => h.symm⟩
theorem cl_rng {n : Int} {q : List Pr} (h : Cl n q) {x y : Int} (c : cl q x y) : (0 ≤ x ∧ x < n) ∧ 0 ≤ y ∧ y < n := by
  rcases c with c | c <;> have := h.rng _ c <;> dsimp only at this <;> omega
theorem hasP_cl {q : List Pr} {x y : Nat} : hasP q x y = true ↔ cl q x y := by
  unfold hasP cl
  rw [Bool.or_eq_true, decide_eq_true_iff, decide_eq_true_iff]
/-- a row of four -/
structure RQ (q : List Pr) (a b c d : Int) : Prop where
  ab : cl q a b
  bc : cl q b c
  cd : cl q c d
  ac : ¬ cl q a c
  bd : ¬ cl q b d
  ad : ¬ cl q a d
  nac : a ≠ c
  nbd : b ≠ d
  nad : a ≠ d
/-- the rows of four of a web, sorted -/
structure IsRows (n : Int) (q : List Pr) (rs : List Rw) : Prop where
  up : RowS.Up rs
  mem : ∀ r, r ∈ rs ↔ ∃ a b c d, r = [a, b, c, d] ∧ a < d ∧ RQ q a b c d
theorem IsRows.uniq {n m : Int} {q : List Pr} {rs ss : List Rw} (h : IsRows n q rs) (g : IsRows m q ss) : rs = ss := RowS.up_unique h.up g.up fun x => by rw [h.mem, g.mem]
theorem RQ.rng {n : Int} {q : List Pr} (h : Cl n q) {a b c d : Int} (r : RQ q a b c d) : (0 ≤ a ∧ a < n) ∧ (0 ≤ b ∧ b < n) ∧ (0 ≤ c ∧ c < n) ∧ 0 ≤ d ∧ d < n := ⟨(cl_rng h r.ab).1, (cl_rng h r.ab).2, (cl_rng h r.cd).1, (cl_rng h r.cd).2⟩
theorem bd_row {n : Int} (hn : n ≤ 64) {a b c d : Int} (h : (0 ≤ a ∧ a < n) ∧ (0 ≤ b ∧ b < n) ∧ (0 ≤ c ∧ c < n) ∧ 0 ≤ d ∧ d < n) : TS.Bd 64 [a, b, c, d] := fun m hm => by
  simp only [List.mem_cons, List.not_mem_nil, or_false] at hm
  omega
theorem code_inj : ∀ {r q : List Int}, r.length = q.length → TS.Bd 64 r → TS.Bd 64 q → TS.code 64 r = TS.code 64 q → r = q
  | [], [], _, _, _, _ => rfl
  | [], _ :: _, l, _, _, _ => by simp at l
  | _ :: _, [], l, _, _, _ => by simp at l
  | x :: r, y :: q, l, hr, hq, e => by
    have l' : r.length = q.length := by simpa using l
    rcases Int.lt_trichotomy x y with z | z | z
    · have := TS.code_lt l' hr.tail hq.tail z
      omega
    · subst z
      have c : TS.code 64 r = TS.code 64 q := by
        rcases Int.lt_trichotomy (TS.code 64 r) (TS.code 64 q) with w | w | w
        · have := (TS.code_same (d := x) (B := 64) l').mpr w
          omega
        · exact w
        · have := (TS.code_same (d := x) (B := 64) l'.symm).mpr w
          omega
      rw [code_inj l' hr.tail hq.tail c]
    · have := TS.code_lt l'.symm hq.tail hr.tail z
      omega
/-- sorted and each once -/
theorem up_of {rs : List Rw} (le : rs.Pairwise fun a b => TS.code 64 a ≤ TS.code 64 b) (nd : rs.Nodup) (b : ∀ r ∈ rs, r.length = 4 ∧ TS.Bd 64 r) : RowS.Up rs := by
  refine List.Pairwise.imp_of_mem (fun {x y} hx hy h => ?_) (le.and nd)
  obtain ⟨h1, h2⟩ := h
  have : TS.code 64 x ≠ TS.code 64 y := fun e => h2 (code_inj ((b x hx).1.trans (b y hy).1.symm) (b x hx).2 (b y hy).2 e)
  show TS.code 64 x < TS.code 64 y
  omega
theorem up_nodup {rs : List Rw} (h : RowS.Up rs) : rs.Nodup := List.Pairwise.imp (fun {a b} hab e => by rw [e] at hab; exact Int.lt_irrefl _ hab) h
theorem nodup_fm {α β : Type} {l : List α} {f : α → List β} (nl : l.Nodup) (nf : ∀ a ∈ l, (f a).Nodup) (ap : ∀ a ∈ l, ∀ b ∈ l, ∀ x, x ∈ f a → x ∈ f b → a = b) : (l.flatMap f).Nodup := by
  refine List.pairwise_flatMap.mpr ⟨nf, List.Pairwise.imp_of_mem (fun {a b} ha hb ne x hx y hy e => ?_) nl⟩
  subst e
  exact ne (ap a ha b hb x hx hy)
/-! ### what the program finds -/
abbrev near (n : Nat) (q : List Pr) (x : Nat) : List Nat := (List.range n).filter (hasP q x)
def fstN (n : Nat) (q : List Pr) (b c : Nat) : List Nat := (List.range n).filter fun a => hasP q b a && !hasP q c a && !decide (a = c)
def fthN (n : Nat) (q : List Pr) (a b c : Nat) : List Nat := (List.range n).filter fun d => hasP q c d && !hasP q b d && !hasP q a d && !decide (d = b)
def row4 (a b c d : Nat) : Rw := [(a : Int), (b : Int), (c : Int), (d : Int)]
def pf3 (n : Nat) (q : List Pr) (b c a : Nat) : List Rw := ((fthN n q a b c).filter fun d => decide (a < d)).map (row4 a b c)
def pf2 (n : Nat) (q : List Pr) (b c : Nat) : List Rw := (fstN n q b c).flatMap (pf3 n q b c)
def pf1 (n : Nat) (q : List Pr) (b : Nat) : List Rw := (near n q b).flatMap (pf2 n q b)
def pf (n : Nat) (q : List Pr) : List Rw := (List.range n).flatMap (pf1 n q)
theorem row4_inj {a b c d a' b' c' d' : Nat} (h : row4 a b c d = row4 a' b' c' d') : a = a' ∧ b = b' ∧ c = c' ∧ d = d' := by
  unfold row4 at h
  simp only [List.cons.injEq, and_true] at h
  omega
theorem nodup_filter_range {n : Nat} {p : Nat → Bool} : ((List.range n).filter p).Nodup := List.nodup_range.filter _
theorem mem_pf3 {n : Nat} {q : List Pr} {b c a : Nat} {x : Rw} : x ∈ pf3 n q b c a ↔ ∃ d, d ∈ fthN n q a b c ∧ a < d ∧ x = row4 a b c d := by
  unfold pf3
  rw [List.mem_map]
  constructor
  · rintro ⟨d, hd, rfl⟩
    obtain ⟨h1, h2⟩ := List.mem_filter.mp hd
    exact ⟨d, h1, of_decide_eq_true h2, rfl⟩
  · rintro ⟨d, h1, h2, rfl⟩
    exact ⟨d, List.mem_filter.mpr ⟨h1, decide_eq_true h2⟩, rfl⟩
theorem pf_nodup (n : Nat) (q : List Pr) : (pf n q).Nodup := by
  have k3 : ∀ {b c a x}, x ∈ pf3 n q b c a → ∃ d, x = row4 a b c d := fun h => by
    obtain ⟨d, _, _, e⟩ := mem_pf3.mp h
    exact ⟨d, e⟩
  have k2 : ∀ {b c x}, x ∈ pf2 n q b c → ∃ a d, x = row4 a b c d := fun {b c x} h => by
    obtain ⟨a, _, h⟩ := List.mem_flatMap.mp h
    obtain ⟨d, e⟩ := k3 h
    exact ⟨a, d, e⟩
  have k1 : ∀ {b x}, x ∈ pf1 n q b → ∃ a c d, x = row4 a b c d := fun {b x} h => by
    obtain ⟨c, _, h⟩ := List.mem_flatMap.mp h
    obtain ⟨a, d, e⟩ := k2 h
    exact ⟨a, c, d, e⟩
  refine nodup_fm List.nodup_range (fun b _ => nodup_fm nodup_filter_range (fun c _ => nodup_fm nodup_filter_range (fun a _ => ?_) fun a _ a' _ x h h' => ?_) fun c _ c' _ x h h' => ?_) fun b _ b' _ x h h' => ?_
  · refine List.pairwise_map.mpr (List.Pairwise.imp (fun {d d'} ne e => ne (row4_inj e).2.2.2) (nodup_filter_range.filter _))
  · obtain ⟨d, e⟩ := k3 h
    obtain ⟨d', e'⟩ := k3 h'
    exact (row4_inj (e.symm.trans e')).1
  · obtain ⟨a, d, e⟩ := k2 h
    obtain ⟨a', d', e'⟩ := k2 h'
    exact (row4_inj (e.symm.trans e')).2.2.1
  · obtain ⟨a, c, d, e⟩ := k1 h
    obtain ⟨a', c', d', e'⟩ := k1 h'
    exact (row4_inj (e.symm.trans e')).2.1
theorem nh {q : List Pr} {x y : Nat} : hasP q x y = false ↔ ¬ cl q x y := by
  rw [← hasP_cl]
  simp
theorem pf_mem {n : Nat} {q : List Pr} (h : Cl n q) (r : Rw) : r ∈ pf n q ↔ ∃ a b c d, r = [a, b, c, d] ∧ a < d ∧ RQ q a b c d := by
  unfold pf pf1 pf2
  simp only [List.mem_flatMap, mem_pf3, fstN, fthN, List.mem_filter, List.mem_range, Bool.and_eq_true, Bool.not_eq_true', decide_eq_false_iff_not, hasP_cl, nh]
  constructor
  · rintro ⟨b, hb, c, ⟨hc, bc⟩, a, ⟨ha, ⟨ba, nca⟩, nac⟩, d, ⟨hd, ⟨⟨cd, nbd⟩, nad⟩, ndb⟩, lt, rfl⟩
    refine ⟨a, b, c, d, rfl, by omega, cl_symm.mp ba, bc, cd, fun z => nca (cl_symm.mp z), nbd, nad, by omega, by omega, by omega⟩
  · rintro ⟨a, b, c, d, rfl, lt, R⟩
    obtain ⟨⟨a0, a1⟩, ⟨b0, b1⟩, ⟨c0, c1⟩, d0, d1⟩ := R.rng h
    obtain ⟨a, rfl⟩ := Int.eq_ofNat_of_zero_le a0
    obtain ⟨b, rfl⟩ := Int.eq_ofNat_of_zero_le b0
    obtain ⟨c, rfl⟩ := Int.eq_ofNat_of_zero_le c0
    obtain ⟨d, rfl⟩ := Int.eq_ofNat_of_zero_le d0
    have := R.nac
    have := R.nbd
    exact ⟨b, by omega, c, ⟨by omega, R.bc⟩, a, ⟨by omega, ⟨cl_symm.mp R.ab, fun z => R.ac (cl_symm.mp z)⟩, by omega⟩, d, ⟨by omega, ⟨⟨R.cd, R.bd⟩, R.ad⟩, by omega⟩, by omega, rfl⟩
/-- what the program sorts -/
theorem pf_rows {n : Nat} {q : List Pr} (h : Cl n q) (hn : n ≤ 64) {rs : List Rw} (pm : rs.Perm (pf n q)) (le : rs.Pairwise fun a b => TS.code 64 a ≤ TS.code 64 b) : IsRows n q rs := by
  have mem : ∀ r, r ∈ rs ↔ ∃ a b c d, r = [a, b, c, d] ∧ a < d ∧ RQ q a b c d := fun r => pm.mem_iff.trans (pf_mem h r)
  refine ⟨up_of le (pm.nodup_iff.mpr (pf_nodup n q)) fun r hr => ?_, mem⟩
  obtain ⟨a, b, c, d, rfl, _, R⟩ := (mem r).mp hr
  exact ⟨rfl, bd_row (n := n) (by omega) (R.rng h)⟩
/-! ### what the law finds -/
def lq3 (n : Nat) (q : List Pr) (a b c : Nat) : List Rw := ((near n q c).filter fun d => decide (a < d) && (!decide (d = b) && (!hasP q b d && !hasP q a d))).map (row4 a b c)
def lq2 (n : Nat) (q : List Pr) (a b : Nat) : List Rw := ((near n q b).filter fun c => !decide (c = a) && !hasP q a c).flatMap (lq3 n q a b)
def lq1 (n : Nat) (q : List Pr) (a : Nat) : List Rw := (near n q a).flatMap (lq2 n q a)
def lq (n : Nat) (q : List Pr) : List Rw := (List.range n).flatMap (lq1 n q)
theorem mem_lq3 {n : Nat} {q : List Pr} {b c a : Nat} {x : Rw} : x ∈ lq3 n q a b c ↔ ∃ d, ((d < n ∧ hasP q c d = true) ∧ a < d ∧ ¬ d = b ∧ hasP q b d = false ∧ hasP q a d = false) ∧ x = row4 a b c d := by
  unfold lq3 near
  simp only [List.mem_map, List.mem_filter, List.mem_range, Bool.and_eq_true, Bool.not_eq_true', decide_eq_true_iff, decide_eq_false_iff_not]
  constructor
  · rintro ⟨d, h, rfl⟩
    exact ⟨d, h, rfl⟩
  · rintro ⟨d, h, rfl⟩
    exact ⟨d, h, rfl⟩
theorem lq_nodup (n : Nat) (q : List Pr) : (lq n q).Nodup := by
  have k3 : ∀ {b c a x}, x ∈ lq3 n q a b c → ∃ d, x = row4 a b c d := fun h => by
    obtain ⟨d, _, e⟩ := mem_lq3.mp h
    exact ⟨d, e⟩
  have k2 : ∀ {a b x}, x ∈ lq2 n q a b → ∃ c d, x = row4 a b c d := fun {b c x} h => by
    obtain ⟨a, _, h⟩ := List.mem_flatMap.mp h
    obtain ⟨d, e⟩ := k3 h
    exact ⟨a, d, e⟩
  have k1 : ∀ {a x}, x ∈ lq1 n q a → ∃ b c d, x = row4 a b c d := fun {b x} h => by
    obtain ⟨c, _, h⟩ := List.mem_flatMap.mp h
    obtain ⟨a, d, e⟩ := k2 h
    exact ⟨c, a, d, e⟩
  refine nodup_fm List.nodup_range (fun b _ => nodup_fm nodup_filter_range (fun c _ => nodup_fm (nodup_filter_range.filter _) (fun a _ => ?_) fun a _ a' _ x h h' => ?_) fun c _ c' _ x h h' => ?_) fun b _ b' _ x h h' => ?_
  · refine List.pairwise_map.mpr (List.Pairwise.imp (fun {d d'} ne e => ne (row4_inj e).2.2.2) (nodup_filter_range.filter _))
  · obtain ⟨d, e⟩ := k3 h
    obtain ⟨d', e'⟩ := k3 h'
    exact (row4_inj (e.symm.trans e')).2.2.1
  · obtain ⟨a, d, e⟩ := k2 h
    obtain ⟨a', d', e'⟩ := k2 h'
    exact (row4_inj (e.symm.trans e')).2.1
  · obtain ⟨a, c, d, e⟩ := k1 h
    obtain ⟨a', c', d', e'⟩ := k1 h'
    exact (row4_inj (e.symm.trans e')).1
theorem lq_mem {n : Nat} {q : List Pr} (h : Cl n q) (r : Rw) : r ∈ lq n q ↔ ∃ a b c d, r = [a, b, c, d] ∧ a < d ∧ RQ q a b c d := by
  unfold lq lq1 lq2
  simp only [List.mem_flatMap, mem_lq3, near, List.mem_filter, List.mem_range, Bool.and_eq_true, Bool.not_eq_true', decide_eq_false_iff_not, hasP_cl, nh]
  constructor
  · rintro ⟨a, ha, b, ⟨hb, ab⟩, c, ⟨⟨hc, bc⟩, nca, nac⟩, d, ⟨⟨hd, cd⟩, lt, ndb, nbd, nad⟩, rfl⟩
    exact ⟨a, b, c, d, rfl, by omega, ab, bc, cd, nac, nbd, nad, by omega, by omega, by omega⟩
  · rintro ⟨a, b, c, d, rfl, lt, R⟩
    obtain ⟨⟨a0, a1⟩, ⟨b0, b1⟩, ⟨c0, c1⟩, d0, d1⟩ := R.rng h
    obtain ⟨a, rfl⟩ := Int.eq_ofNat_of_zero_le a0
    obtain ⟨b, rfl⟩ := Int.eq_ofNat_of_zero_le b0
    obtain ⟨c, rfl⟩ := Int.eq_ofNat_of_zero_le c0
    obtain ⟨d, rfl⟩ := Int.eq_ofNat_of_zero_le d0
    have := R.nac
    have := R.nbd
    exact ⟨a, by omega, b, ⟨by omega, R.ab⟩, c, ⟨⟨by omega, R.bc⟩, by omega, R.ac⟩, d, ⟨⟨by omega, R.cd⟩, by omega, by omega, R.bd, R.ad⟩, rfl⟩
theorem lq_rows {n : Nat} {q : List Pr} (h : Cl n q) (hn : n ≤ 64) {rs : List Rw} (pm : rs.Perm (lq n q)) (le : rs.Pairwise fun a b => TS.code 64 a ≤ TS.code 64 b) : IsRows n q rs := by
  have mem : ∀ r, r ∈ rs ↔ ∃ a b c d, r = [a, b, c, d] ∧ a < d ∧ RQ q a b c d := fun r => pm.mem_iff.trans (lq_mem h r)
  refine ⟨up_of le (pm.nodup_iff.mpr (lq_nodup n q)) fun r hr => ?_, mem⟩
  obtain ⟨a, b, c, d, rfl, _, R⟩ := (mem r).mp hr
  exact ⟨rfl, bd_row (n := n) (by omega) (R.rng h)⟩
end K0
set_option Elab.async false
set_option linter.all false
set_option maxRecDepth 100000
set_option maxHeartbeats 4000000
namespace K0
open PySem PySem.Spec PyProof.Rows L2
/-! ### webs put in -/
abbrev Wb := Int × List Pr
def nW (ws : List Wb) (v : Nat) : Int := (ws.getD v (0, [])).1
def qW (ws : List Wb) (v : Nat) : List Pr := (ws.getD v (0, [])).2
def fW (ws : List Wb) (v : Nat) : Int := ((ws.take v).map (·.1)).sum
structure Wbs (ws : List Wb) : Prop where
  n0 : ∀ w ∈ ws, 0 ≤ w.1
  cl : ∀ w ∈ ws, Cl w.1 w.2
theorem getD_mem {α : Type} {l : List α} {i : Nat} {d : α} (h : i < l.length) : l.getD i d ∈ l := by
  rw [List.getD_eq_getElem?_getD, List.getElem?_eq_getElem h]
  exact List.getElem_mem h
theorem Wbs.nn {ws : List Wb} (W : Wbs ws) (v : Nat) : 0 ≤ nW ws v := by
  unfold nW
  by_cases h : v < ws.length
  · exact W.n0 _ (getD_mem h)
  · rw [List.getD_eq_getElem?_getD, List.getElem?_eq_none (by omega)]
    exact Int.le_refl _
theorem sum_snoc (l : List Int) (x : Int) : (l ++ [x]).sum = l.sum + x := by
  induction l with
  | nil => simp
  | cons a l ih => rw [List.cons_append, List.sum_cons, List.sum_cons, ih]; omega
theorem fW_zero (ws : List Wb) : fW ws 0 = 0 := rfl
theorem fW_succ (ws : List Wb) (v : Nat) : fW ws (v + 1) = fW ws v + nW ws v := by
  unfold fW nW
  by_cases h : v < ws.length
  · rw [List.take_succ, List.getElem?_eq_getElem h, List.getD_eq_getElem?_getD, List.getElem?_eq_getElem h]
    show ((ws.take v ++ [ws[v]]).map (·.1)).sum = _
    rw [List.map_append]
    exact sum_snoc _ _
  · rw [List.take_of_length_le (by omega), List.take_of_length_le (by omega), List.getD_eq_getElem?_getD, List.getElem?_eq_none (by omega)]
    simp
theorem fW_mono {ws : List Wb} (W : Wbs ws) {u v : Nat} (h : u ≤ v) : fW ws u ≤ fW ws v := by
  induction v with
  | zero => rw [Nat.le_zero.mp h]; exact Int.le_refl _
  | succ v ih =>
    rcases Nat.lt_or_ge u (v + 1) with l | l
    · have := ih (by omega)
      have := W.nn v
      rw [fW_succ]
      omega
    · rw [show u = v + 1 by omega]
      exact Int.le_refl _
theorem fW_nonneg {ws : List Wb} (W : Wbs ws) (v : Nat) : 0 ≤ fW ws v := fW_mono W (Nat.zero_le v)
theorem fW_lt {ws : List Wb} (W : Wbs ws) {u v : Nat} (h : u < v) : fW ws u + nW ws u ≤ fW ws v := by
  rw [← fW_succ]
  exact fW_mono W h
/-- the thing t is the thing x of the web v -/
structure Loc (ws : List Wb) (t : Int) (k : Nat) (x : Int) : Prop where
  v : k < ws.length
  x0 : 0 ≤ x
  x1 : x < nW ws k
  e : t = fW ws k + x
theorem Loc.uniq {ws : List Wb} (W : Wbs ws) {t : Int} {u v : Nat} {x y : Int} (a : Loc ws t u x) (b : Loc ws t v y) : u = v ∧ x = y := by
  have e := a.e.symm.trans b.e
  have := a.x0; have := a.x1; have := b.x0; have := b.x1
  rcases Nat.lt_trichotomy u v with h | h | h
  · have := fW_lt W h
    omega
  · subst h
    exact ⟨rfl, by omega⟩
  · have := fW_lt W h
    omega
theorem Loc.ex {ws : List Wb} {t : Int} : ∀ {k : Nat}, k ≤ ws.length → 0 ≤ t → t < fW ws k → ∃ v x, Loc ws t v x
  | 0, _, h0, h1 => by rw [fW_zero] at h1; omega
  | k + 1, hk, h0, h1 => by
    rcases Int.lt_or_le t (fW ws k) with h | h
    · exact Loc.ex (k := k) (by omega) h0 h
    · rw [fW_succ] at h1
      exact ⟨k, t - fW ws k, by omega, by omega, by omega, by omega⟩
abbrev tot (ws : List Wb) : Int := fW ws ws.length
theorem Loc.rng {ws : List Wb} (W : Wbs ws) {t : Int} {v : Nat} {x : Int} (a : Loc ws t v x) : 0 ≤ t ∧ t < tot ws := by
  have := fW_nonneg W v
  have := fW_lt W a.v
  have := a.x0; have := a.x1; have := a.e
  show 0 ≤ t ∧ t < fW ws ws.length
  omega
theorem Loc.lt {ws : List Wb} (W : Wbs ws) {t t' : Int} {u v : Nat} {x y : Int} (a : Loc ws t u x) (b : Loc ws t' v y) : t < t' ↔ u < v ∨ (u = v ∧ x < y) := by
  have := a.x0; have := a.x1; have := b.x0; have := b.x1; have := a.e; have := b.e
  rcases Nat.lt_trichotomy u v with h | h | h
  · have := fW_lt W h
    omega
  · subst h
    omega
  · have := fW_lt W h
    omega
/-! ### the pairs -/
def shf (q : List Pr) (s : Int) : List Pr := q.map fun p => (p.1 + s, p.2 + s)
def grid (a m b k : Int) : List Pr := (List.range m.toNat).flatMap fun (x : Nat) => (List.range k.toNat).map fun (y : Nat) => (a + (x : Int), b + (y : Int))
def inL (ws : List Wb) (k : Nat) : List Pr := (List.range k).flatMap fun v => shf (qW ws v) (fW ws v)
def gr (ws : List Wb) (e : Pr) : List Pr := grid (fW ws e.1.toNat) (nW ws e.1.toNat) (fW ws e.2.toNat) (nW ws e.2.toNat)
def acL (Q : List Pr) (ws : List Wb) : List Pr := Q.flatMap (gr ws)
def putL (Q : List Pr) (ws : List Wb) : List Pr := inL ws ws.length ++ acL Q ws
theorem mem_shf {q : List Pr} {s : Int} {z : Pr} : z ∈ shf q s ↔ (z.1 - s, z.2 - s) ∈ q := by
  unfold shf
  rw [List.mem_map]
  constructor
  · rintro ⟨p, hp, rfl⟩
    rw [show ((p.1 + s, p.2 + s) : Pr).1 - s = p.1 from by show p.1 + s - s = p.1; omega, show ((p.1 + s, p.2 + s) : Pr).2 - s = p.2 from by show p.2 + s - s = p.2; omega]
    exact hp
  · intro h
    exact ⟨_, h, Prod.ext (by show z.1 - s + s = z.1; omega) (by show z.2 - s + s = z.2; omega)⟩
theorem mem_grid {a m b k : Int} {z : Pr} : z ∈ grid a m b k ↔ (a ≤ z.1 ∧ z.1 < a + m) ∧ b ≤ z.2 ∧ z.2 < b + k := by
  unfold grid
  simp only [List.mem_flatMap, List.mem_map, List.mem_range]
  constructor
  · rintro ⟨x, hx, y, hy, rfl⟩
    dsimp only
    omega
  · rintro ⟨⟨h1, h2⟩, h3, h4⟩
    exact ⟨(z.1 - a).toNat, by omega, (z.2 - b).toNat, by omega, Prod.ext (by dsimp only; omega) (by dsimp only; omega)⟩
/-- the web put in: its clashes, sorted -/
structure IsPut (Q : List Pr) (ws : List Wb) (p : List Pr) : Prop where
  c : Cl (tot ws) p
  m : ∀ z, z ∈ p ↔ z ∈ putL Q ws
theorem IsPut.uniq {Q : List Pr} {ws : List Wb} {p p' : List Pr} (h : IsPut Q ws p) (g : IsPut Q ws p') : p = p' := srt_unique h.c.srt g.c.srt fun z => by rw [h.m, g.m]
/-! ### its rows of four -/
/-! ### contraries -/
end K0
set_option Elab.async false
set_option linter.all false
set_option maxRecDepth 100000
set_option maxHeartbeats 4000000
set_option Elab.async false
set_option linter.all false
set_option maxRecDepth 100000
set_option maxHeartbeats 4000000
namespace K0
open PySem PySem.Spec PyProof.Rows L2
section
variable {P : Program} {w : World} {K : PySem.W.Frag} {mg : Str → Option Value} {base : Heap} {f : Addr} {fd : FuncData}
/-- a tuple of pairs -/
def TqP (H : Hp) (c : Addr) (q : List Pr) : Prop := ∃ xs, H c = some (.tup xs) ∧ DtAll H xs (q.map prD)
theorem TqP.mono {H H' : Hp} (s : Same H H') {c : Addr} {q : List Pr} : TqP H c q → TqP H' c q := fun ⟨xs, h, d⟩ => ⟨xs, s _ _ h, d.mono s⟩
abbrev rAddI : R2 := rI0 fun i j => .int (i + j)
/-! ### Web on a list of pairs -/
end
end K0
set_option Elab.async false
set_option linter.all false
set_option maxRecDepth 100000
set_option maxHeartbeats 4000000
namespace K0
open PySem PySem.Spec PyProof.Rows L2
section
variable {P : Program} {w : World} {K : PySem.W.Frag} {mg : Str → Option Value} {base : Heap} {f : Addr} {fd : FuncData}
theorem Grow.ys {H : Hp} {D : Addr} {rs : List Pr} (g : Grow H D rs) : ∃ ys, H D = some (.lst ys) ∧ ys.length = rs.length ∧ DtAll H ys (rs.map prD) := g.at
end
end K0
set_option Elab.async false
set_option linter.all false
set_option maxRecDepth 100000
set_option maxHeartbeats 4000000
namespace K0
open PySem PySem.Spec PyProof.Rows L2 ClX
/-! ### own operators -/
/-! ### defs called by positional promises -/
/-! ### the class as a local name -/
section
variable {P : Program} {w : World} {K : PySem.W.Frag} {mg : Str → Option Value} {base : Heap} {f : Addr} {fd : FuncData}
theorem len28 {n : Int} {q : List Pr} (h : Cl n q) (hn : n ≤ 8) : q.length ≤ 28 := by
  let c : List Pr := (List.range 8).flatMap fun (x : Nat) => ((List.range 8).filter fun (y : Nat) => decide (x < y)).map fun (y : Nat) => ((x : Int), (y : Int))
  have e : c.length = 28 := by decide +kernel
  rw [← e]
  refine len_sub q c (pairwise_nodup h.srt) fun p hp => ?_
  obtain ⟨h1, h2, h3⟩ := h.rng p hp
  exact List.mem_flatMap.mpr ⟨p.1.toNat, List.mem_range.mpr (by omega), List.mem_map.mpr ⟨p.2.toNat, List.mem_filter.mpr ⟨List.mem_range.mpr (by omega), decide_eq_true (by omega)⟩, Prod.ext (by dsimp only; omega) (by dsimp only; omega)⟩⟩
end
end K0
set_option Elab.async false
set_option linter.all false
set_option maxRecDepth 100000
set_option maxHeartbeats 4000000
namespace K0
open PySem PySem.Spec PyProof.Rows L2 StX
section
variable {P : Program} {w : World} {K : PySem.W.Frag} {mg : Str → Option Value} {base : Heap} {f : Addr} {fd : FuncData}
theorem WebAt.ins {C : Addr} {H : Hp} {p : Addr} {n : Int} {q : List Pr} (W : WebAt C H p n q) : ∃ dx fs, H p = some (.ins C dx fs) := by
  obtain ⟨⟨dx, c, m, l, h1, _⟩, _⟩ := W
  exact ⟨dx, _, h1⟩
theorem WebAt.new {C : Addr} {H H' : Hp} {p : Addr} {n : Int} {q : List Pr} (W : WebAt C (New H H') p n q) : WebAt C H' p n q := W.mono same_new
end
end K0
set_option Elab.async false
set_option linter.all false
set_option maxRecDepth 100000
set_option maxHeartbeats 4000000
namespace K0
open PySem PySem.Spec PyProof.Rows L2
/-! ### rows of webs -/
section
variable {P : Program} {w : World} {K : PySem.W.Frag} {mg : Str → Option Value} {base : Heap} {f : Addr} {fd : FuncData}
structure Blt3 (mg : Str → Option Value) : Prop extends Blt2 mg where
  sum : mg "sum" = none
  zip : mg "zip" = none
end
end K0
set_option Elab.async false
set_option linter.all false
set_option maxRecDepth 100000
set_option maxHeartbeats 4000000
namespace K0
open PySem PySem.Spec PyProof.Rows L2
section
variable {X : Cx} {o e : Expr} {es : List Expr} {to : TE} {t : TA} {apos cpos : Pos}
/-- o.extend(e) -/
theorem pe_lext (ho : PE X o to) (ha : PA X (e :: es) t) (hbase : attributeBase o "extend" X.env (eval o X.env) = eval o X.env := by rfl)
    (hfew : ((backTo cpos (starEach (e :: es) X.env)).all (fun x => !x.1) && (backToKw cpos (keywordEach [] X.env)).all (fun x => x.1.isSome) && decide ((e :: es).length + ([] : List Keyword).length + (if ([] : List Keyword).isEmpty then 0 else 1) < 30)) = true := by rfl)
    (hline : (apos.endLine == cpos.line) = true := by rfl) (hs : starEach (e :: es) X.env = (false, eval e X.env) :: starEach es X.env := by rfl) (hplain : (backTo cpos (starEach es X.env)).any (·.1) = false := by rfl) :
    PE X (.Call (.Attribute o "extend" apos) (e :: es) [] cpos) (tBM X.K "list" rExtend to t) := pe_bm PySem.F.plainAttrs_list PySem.F.slot_list_extend PySem.F.type_list_extend mt_extend ho ha hbase hfew hline hs hplain
end
/-- a list of fresh pairs behind another one -/
theorem Grow.cat {H : Hp} {D a : Addr} {rs ss : List Pr} {xs ys : List V} (g : Grow H D rs) (g' : Grow H a ss) (hx : H D = some (.lst xs)) (hy : H a = some (.lst ys)) : Grow (upd H D (.lst (xs ++ ys))) D (rs ++ ss) := by
  obtain ⟨l, h, e, p⟩ := g
  obtain ⟨l', h', e', p'⟩ := g'
  rw [h] at hx
  cases hx
  rw [h'] at hy
  cases hy
  refine ⟨l ++ l', by rw [upd_same, List.map_append], by rw [List.map_append, e, e'], fun z hz => ?_⟩
  have hz2 : H z.1 = some (.tup [.int z.2.1, .int z.2.2]) := (List.mem_append.mp hz).elim (p z) (p' z)
  have zD : z.1 ≠ D := fun e => by
    rw [e, h] at hz2
    cases hz2
  rw [upd_ne zD]
  exact hz2
theorem flat_take_le {α β : Type} (l : List α) (f : α → List β) (j : Nat) : ((l.take j).flatMap f).length ≤ (l.flatMap f).length := by
  have e : l.flatMap f = (l.take j).flatMap f ++ (l.drop j).flatMap f := by rw [← List.flatMap_append, List.take_append_drop]
  rw [e, List.length_append]
  exact Nat.le_add_right _ _
end K0
set_option Elab.async false
set_option linter.all false
set_option maxRecDepth 100000
set_option maxHeartbeats 4000000
namespace K0
open PySem PySem.Spec PyProof.Rows L2
/-! ### bits taken off -/
def andN (a b : Nat) : Nat := a - (a &&& b)
theorem andN_bit : ∀ (j a b : Nat), (andN a b).testBit j = (a.testBit j && !b.testBit j) := fun j => by
  induction j with
  | zero =>
    intro a b
    unfold andN
    have h1 : (a &&& b) % 2 = 1 ↔ a % 2 = 1 ∧ b % 2 = 1 := Nat.and_mod_two_eq_one
    have h2 : a &&& b ≤ a := Nat.and_le_left
    have h3 : (a &&& b) / 2 = a / 2 &&& b / 2 := Nat.and_div_two
    have h4 : a / 2 &&& b / 2 ≤ a / 2 := Nat.and_le_left
    rw [Nat.testBit_zero, Nat.testBit_zero, Nat.testBit_zero, Bool.eq_iff_iff, Bool.and_eq_true, Bool.not_eq_true', decide_eq_true_iff, decide_eq_true_iff, decide_eq_false_iff_not]
    by_cases ha : a % 2 = 1 <;> by_cases hb : b % 2 = 1 <;> omega
  | succ j ih =>
    intro a b
    rw [Nat.testBit_succ, Nat.testBit_succ, Nat.testBit_succ, ← ih]
    congr 1
    unfold andN
    have h1 : (a &&& b) % 2 = 1 ↔ a % 2 = 1 ∧ b % 2 = 1 := Nat.and_mod_two_eq_one
    have h2 : a &&& b ≤ a := Nat.and_le_left
    have h3 : (a &&& b) / 2 = a / 2 &&& b / 2 := Nat.and_div_two
    have h4 : a / 2 &&& b / 2 ≤ a / 2 := Nat.and_le_left
    by_cases ha : a % 2 = 1 <;> by_cases hb : b % 2 = 1 <;> omega
theorem and_not (a b : Nat) : Builtin.bitAnd (a : Int) (Builtin.bitNot (b : Int)) = ((andN a b : Nat) : Int) := by
  have n : Builtin.bitNot (Builtin.bitNot (b : Int)) = (b : Int) := by unfold Builtin.bitNot; omega
  have e1 : decide (0 ≤ (a : Int)) = true := decide_eq_true (Int.natCast_nonneg a)
  have e2 : decide (0 ≤ Builtin.bitNot (b : Int)) = false := decide_eq_false (by unfold Builtin.bitNot; omega)
  unfold Builtin.bitAnd
  rw [e1, e2]
  dsimp only
  rw [n, Int.toNat_natCast, Int.toNat_natCast]
  unfold andN
  have : a &&& b ≤ a := Nat.and_le_left
  omega
theorem bits_small {m k : Nat} (h : m < 2 ^ k) : bitsN m ≤ k := by
  unfold bitsN Builtin.Int.intBits
  split
  · exact Nat.zero_le _
  · rename_i z
    rw [Int.natAbs_natCast]
    have nz : m ≠ 0 := by simpa using z
    have := (Nat.log2_lt nz).mpr h
    omega
/-- x & ~y -/
def rAndN : R2 := fun x y H Q => ∃ a b : Nat, x = .int (a : Int) ∧ y = .int (Builtin.bitNot (b : Int)) ∧ Q (.int ((andN a b : Nat) : Int)) H
theorem op_andN {X : Cx} : OpR X (binaryOp .BitAnd) rAndN := OpR_imp op_and fun x y H Q ⟨a, b, ex, ey, q⟩ => ⟨_, _, ex, ey, by show Q (.int (Builtin.bitAnd (a : Int) (Builtin.bitNot (b : Int)))) H; rw [and_not]; exact q⟩
/-! ### lists of fresh rows -/
def GrowR (H : Hp) (D : Addr) (rs : List Rw) : Prop := ∃ l : List (Addr × Rw), H D = some (.lst (l.map fun z => V.ref z.1)) ∧ l.map (·.2) = rs ∧ ∀ z ∈ l, H z.1 = some (.tup (z.2.map V.int))
theorem GrowR.mono {H H' : Hp} {D : Addr} {rs : List Rw} (s : Same H H') : GrowR H D rs → GrowR H' D rs := fun ⟨l, h, e, p⟩ => ⟨l, s _ _ h, e, fun z hz => s _ _ (p z hz)⟩
theorem dtAll_rws {H : Hp} : ∀ {l : List (Addr × Rw)}, (∀ z ∈ l, H z.1 = some (.tup (z.2.map V.int))) → DtAll H (l.map fun z => V.ref z.1) (l.map fun z => rwD z.2)
  | [], _ => .nil
  | z :: r, h => .cons (.tup (h z List.mem_cons_self) (DtAll.ints _ _)) (dtAll_rws fun y hy => h y (List.mem_cons_of_mem _ hy))
theorem GrowR.at {H : Hp} {D : Addr} {rs : List Rw} (g : GrowR H D rs) : ∃ xs, H D = some (.lst xs) ∧ xs.length = rs.length ∧ DtAll H xs (rs.map rwD) := by
  obtain ⟨l, h, e, p⟩ := g
  refine ⟨_, h, by rw [← e, List.length_map, List.length_map], ?_⟩
  rw [← e, List.map_map]
  exact dtAll_rws p
theorem GrowR.nil {H : Hp} {D : Addr} (n : H D = none) : GrowR (upd H D (.lst [])) D [] := ⟨[], upd_same, rfl, fun z hz => by cases hz⟩
theorem GrowR.push {H : Hp} {D u : Addr} {rs : List Rw} {r : Rw} (g : GrowR H D rs) (nu : H u = none) {xs : List V} (hx : H D = some (.lst xs)) : GrowR (upd (upd H u (.tup (r.map V.int))) D (.lst (xs ++ [.ref u]))) D (rs ++ [r]) := by
  obtain ⟨l, h, e, p⟩ := g
  rw [h] at hx
  cases hx
  refine ⟨l ++ [(u, r)], by rw [upd_same, List.map_append]; rfl, by rw [List.map_append, e]; rfl, fun z hz => ?_⟩
  have s2 : Same H (upd H u (.tup (r.map V.int))) := same_upd nu
  have hz2 : (upd H u (.tup (r.map V.int))) z.1 = some (.tup (z.2.map V.int)) := by
    rcases List.mem_append.mp hz with hz | hz
    · exact s2 _ _ (p z hz)
    · rw [List.mem_singleton.mp hz]
      exact upd_same
  have zD : z.1 ≠ D := fun e => by
    rw [e, s2 _ _ h] at hz2
    cases hz2
  rw [upd_ne zD]
  exact hz2
theorem GrowR.cat {H : Hp} {D a : Addr} {rs ss : List Rw} {xs ys : List V} (g : GrowR H D rs) (g' : GrowR H a ss) (hx : H D = some (.lst xs)) (hy : H a = some (.lst ys)) : GrowR (upd H D (.lst (xs ++ ys))) D (rs ++ ss) := by
  obtain ⟨l, h, e, p⟩ := g
  obtain ⟨l', h', e', p'⟩ := g'
  rw [h] at hx
  cases hx
  rw [h'] at hy
  cases hy
  refine ⟨l ++ l', by rw [upd_same, List.map_append], by rw [List.map_append, e, e'], fun z hz => ?_⟩
  have hz2 : H z.1 = some (.tup (z.2.map V.int)) := (List.mem_append.mp hz).elim (p z) (p' z)
  have zD : z.1 ≠ D := fun e => by
    rw [e, h] at hz2
    cases hz2
  rw [upd_ne zD]
  exact hz2
/-- a list or tuple of rows -/
theorem tupI_row {K : PySem.W.Frag} {H : Hp} {v : V} {r : Rw} (h : Dt H v (rwD r)) : TupI K H v r := by
  obtain ⟨a, e, ha⟩ := dt_row h
  exact ⟨a, e, SqT.of ha⟩
theorem dta_pick {H : Hp} {r0 : V → Rw} : ∀ {xs : List V} {rs : List Rw}, DtAll H xs (rs.map rwD) → (∀ v r, Dt H v (rwD r) → r0 v = r) → xs.map r0 = rs ∧ ∀ x ∈ xs, Dt H x (rwD (r0 x))
  | [], [], _, _ => ⟨rfl, fun x hx => by cases hx⟩
  | _ :: _, [], h, _ => by cases h
  | [], _ :: _, h, _ => by cases h
  | x :: xs, r :: rs, h, k => by
    cases h with
    | cons a b =>
      obtain ⟨e1, e2⟩ := dta_pick b k
      have e := k x r a
      refine ⟨by rw [List.map_cons, e, e1], fun y hy => ?_⟩
      rcases List.mem_cons.mp hy with hy | hy
      · rw [hy, e]
        exact a
      · exact e2 y hy
theorem dta_rws {H : Hp} {r0 : V → Rw} : ∀ {ys : List V}, (∀ y ∈ ys, Dt H y (rwD (r0 y))) → DtAll H ys ((ys.map r0).map rwD)
  | [], _ => .nil
  | y :: ys, h => .cons (h y List.mem_cons_self) (dta_rws fun z hz => h z (List.mem_cons_of_mem _ hz))
def unV : V → Int
  | .int i => i
  | _ => 0
def r0H (H : Hp) : V → Rw
  | .ref a => match H a with
    | some (.tup xs) => xs.map unV
    | _ => []
  | _ => []
theorem r0H_at {H : Hp} (v : V) (r : Rw) (h : Dt H v (rwD r)) : r0H H v = r := by
  obtain ⟨a, rfl, ha⟩ := dt_row h
  show (match H a with | some (.tup xs) => xs.map unV | _ => []) = r
  rw [ha]
  show (r.map V.int).map unV = r
  rw [List.map_map]
  exact List.map_id _
/-- sorted of a list of rows of d things below 64 -/
theorem cr_srtW {X : Cx} {d : Nat} (hd : 1 ≤ d) : CallR X (.builtin "sorted") (fun xs H Q => ∃ (a : Addr) (rs : List Rw) (ys : List V), xs = [.ref a] ∧ H a = some (.lst ys) ∧ DtAll H ys (rs.map rwD) ∧ (∀ r ∈ rs, r.length = d ∧ TS.Bd 64 r) ∧
    ∀ (H' : Hp) (p : Addr) (zs : List V) (ss : List Rw), Same H H' → H p = none → H' p = some (.lst zs) → DtAll H' zs (ss.map rwD) → ss.Perm rs → ss.Pairwise (fun a b => TS.code 64 a ≤ TS.code 64 b) → Q (.ref p) H') := by
  intro pins s σ H xs us Q I r h
  obtain ⟨a, rs, ys, rfl, ha, hy, hb, k⟩ := h
  obtain ⟨e1, e2⟩ := dta_pick (r0 := r0H H) hy r0H_at
  refine cr_sortV (d := d) hd pins s σ H _ us Q I r ⟨a, ys, rfl, SqL.of ha, fun x hx => ⟨r0H H x, tupI_row (e2 x hx), ?_⟩, fun zs p pm le np => ?_⟩
  · exact hb _ (by rw [← e1]; exact List.mem_map.mpr ⟨x, hx, rfl⟩)
  · have sm : Same H (upd H p (.lst zs)) := same_upd np
    refine k _ p zs (zs.map (r0H H)) sm np upd_same (dta_rws fun y hy' => (e2 y (pm.mem_iff.mp hy')).mono sm) (by rw [← e1]; exact pm.map _) ?_
    refine List.pairwise_map.mpr (List.Pairwise.imp_of_mem (fun {x y} hx hy' le => ?_) le)
    exact le _ _ (tupI_row (e2 x (pm.mem_iff.mp hx))) (tupI_row (e2 y (pm.mem_iff.mp hy')))
end K0
set_option Elab.async false
set_option linter.all false
set_option maxRecDepth 100000
set_option maxHeartbeats 4000000
namespace K0
open PySem PySem.Spec PyProof.Rows L2
theorem len_fm {α β : Type} {m : Nat} {f : α → List β} : ∀ (l : List α), (∀ x ∈ l, (f x).length ≤ m) → (l.flatMap f).length ≤ l.length * m
  | [], _ => by simp
  | x :: l, h => by
    have := len_fm l fun y hy => h y (List.mem_cons_of_mem _ hy)
    have := h x List.mem_cons_self
    rw [List.flatMap_cons, List.length_append, List.length_cons, Nat.succ_mul]
    omega
theorem fil_len {n : Nat} (p : Nat → Bool) : ((List.range n).filter p).length ≤ n := by
  have := List.length_filter_le p (List.range n)
  rwa [List.length_range] at this
theorem pf3_len (n : Nat) (q : List Pr) (b c a : Nat) : (pf3 n q b c a).length ≤ n := by
  unfold pf3
  rw [List.length_map]
  exact Nat.le_trans (List.length_filter_le _ _) (fil_len _)
theorem pf2_len (n : Nat) (q : List Pr) (b c : Nat) : (pf2 n q b c).length ≤ n * n := Nat.le_trans (len_fm _ fun x _ => pf3_len n q b c x) (Nat.mul_le_mul_right _ (fil_len _))
theorem pf1_len (n : Nat) (q : List Pr) (b : Nat) : (pf1 n q b).length ≤ n * (n * n) := Nat.le_trans (len_fm _ fun x _ => pf2_len n q b x) (Nat.mul_le_mul_right _ (fil_len _))
theorem fm_snoc {α β : Type} {l : List α} {f : α → List β} {j : Nat} {e : α} (h : l[j]? = some e) : (l.take (j + 1)).flatMap f = (l.take j).flatMap f ++ f e := by
  rw [take_at h, List.flatMap_append]
  simp
theorem fm_len {α β : Type} {m : Nat} {f : α → List β} (l : List α) (j : Nat) (h : ∀ x ∈ l, (f x).length ≤ m) : ((l.take j).flatMap f).length ≤ l.length * m := Nat.le_trans (flat_take_le l f j) (len_fm l h)
theorem nvs_val {l : List Nat} {j : Nat} {v : V} (h : (nvs l)[j]? = some v) : ∃ x, l[j]? = some x ∧ v = .int (x : Int) := by
  unfold nvs at h
  rw [List.getElem?_map] at h
  cases e : l[j]? with
  | none => rw [e] at h; cases h
  | some x => rw [e] at h; exact ⟨x, rfl, (Option.some.inj h).symm⟩
section
variable {P : Program} {w : World} {K : PySem.W.Frag} {mg : Str → Option Value} {base : Heap} {f : Addr} {fd : FuncData}
abbrev s_rf : Stmt := top 30
/-- rows_of_four -/
def spRf (C : Addr) : Sp := fun vs H Q _ => ∃ (p : Addr) (n : Int) (q : List Pr), vs = [.ref p] ∧ WebAt C H p n q ∧ ∀ H' t xs rs, Same H H' → H t = none → H' t = some (.tup xs) → DtAll H' xs (rs.map rwD) → IsRows n q rs → Q (.ref t) H'
theorem sc_rf : FnScope ["web", "masks", "found", "b", "c", "a", "fourth", "d"] ["web"] (defScope s_rf) := ⟨rfl, rfl, rfl, by decide +kernel, rfl, by decide +kernel, by decide +kernel⟩
theorem mk_at {C : Addr} {H : Hp} {p : Addr} {n : Int} {q : List Pr} (W : WebAt C H p n q) {x : Nat} {Q : VK} {H' : Hp} {mm : Addr} (hm : SqT K H' mm (nvs (mOf n.toNat q))) (hx : x < n.toNat) (k : Q (.int (((mOf n.toNat q).getD x 0 : Nat) : Int)) H') : rIxT K (.ref mm) (.int (x : Int)) H' Q := by
  refine ⟨mm, _, (x : Int), _, rfl, rfl, hm, nvs_at (mask_at W x (by have := W.n0; omega)), k⟩
theorem bits3 {C : Addr} {H : Hp} {p : Addr} {n : Int} {q : List Pr} (W : WebAt C H p n q) (b c a : Nat) (x : Nat) : (andN (andN (andN ((mOf n.toNat q).getD c 0) ((mOf n.toNat q).getD b 0)) ((mOf n.toNat q).getD a 0)) (2 ^ b)).testBit x = (hasP q c x && !hasP q b x && !hasP q a x && !decide (x = b)) := by
  rw [andN_bit, andN_bit, andN_bit, mask_bits W, mask_bits W, mask_bits W, Nat.testBit_two_pow]
  congr 2
  exact decide_eq_decide.mpr eq_comm
theorem bits2 {C : Addr} {H : Hp} {p : Addr} {n : Int} {q : List Pr} (W : WebAt C H p n q) (b c : Nat) (x : Nat) : (andN (andN ((mOf n.toNat q).getD b 0) ((mOf n.toNat q).getD c 0)) (2 ^ c)).testBit x = (hasP q b x && !hasP q c x && !decide (x = c)) := by
  rw [andN_bit, andN_bit, mask_bits W, mask_bits W, Nat.testBit_two_pow]
  congr 2
  exact decide_eq_decide.mpr eq_comm
theorem bits_lt {m k : Nat} (h : ∀ j, k ≤ j → m.testBit j = false) (hk : k ≤ 16) : bitsN m ≤ 16 := bits_small (Nat.lt_pow_two_of_testBit _ fun i hi => h i (by omega))
theorem ok_rf {C : Addr} (F : Fun K "rows_of_four" "rows_of_four" s_rf f fd) (B : Blt3 mg) (T : WebC K C) (TI : Df P w K mg base "things_in" 1 ["mask"] spTi) : FnOk P w K mg base (L2.CX P w) 2 f fd ["web"] (spRf C) := by
  refine F.okX sc_rf (fun vs H Q E h => ?_) (fun cdv A outer s H vs Q E hr h => ?_)
  · obtain ⟨p, n, q, rfl, _⟩ := h
    rfl
  · obtain ⟨p, n, q, rfl, W, k⟩ := h
    have nd := sc_rf.nd
    obtain ⟨⟨ddx, c, m, l, h1, h2, h3, h4, h5⟩, cl, n0, n8⟩ := id W
    have r1 : Room 1 _ := hr.mono (by decide)
    have n16 : n.toNat ≤ 16 := by omega
    let M : Nat → Nat := fun x => (mOf n.toNat q).getD x 0
    have clN : Cl (n.toNat : Int) q := by rw [Int.toNat_of_nonneg n0]; exact cl
    have out : ∀ {x j : Nat}, n.toNat ≤ j → hasP q x j = false := fun {x j} hj => hasP_out cl (by omega)
    refine ⟨_, pss_cons (ps_set (i := 1) nd rfl (.inl rfl) (pe_fld (pv 0) rfl))
      (pss_cons (ps_set (i := 2) nd rfl (.inl rfl) (pe_lst pa_nil))
      (pss_cons (ps_for (passes_of rfl) rfl (pi_range1 (by rfl) B.range (pa_cons (pe_fld (pv 0) rfl) pa_nil)) (pg_name (i := 3) nd rfl (.inr rfl))
        (pss_one (ps_for (passes_of rfl) rfl (pi_tup (pe_df TI r1 (by rfl) passUp (pa_cons (pe_ix ix_tup (pv 1) (pv 3) (fun _ _ => rfl)) pa_nil))) (pg_name (i := 4) nd rfl (.inr rfl))
        (pss_one (ps_for (passes_of rfl) rfl (pi_tup (pe_df TI r1 (by rfl) passUp (pa_cons (pe_op op_andN (pe_op op_andN (pe_ix ix_tup (pv 1) (pv 3) (fun _ _ => rfl)) (pe_un un_inv (pe_ix ix_tup (pv 1) (pv 4) (fun _ _ => rfl)))) (pe_un un_inv (pe_op op_shl1 pe_int (pv 4)))) pa_nil))) (pg_name (i := 5) nd rfl (.inr rfl))
        (pss_cons (ps_set (i := 6) nd rfl (.inl rfl) (pe_op op_andN (pe_op op_andN (pe_op op_andN (pe_ix ix_tup (pv 1) (pv 4) (fun _ _ => rfl)) (pe_un un_inv (pe_ix ix_tup (pv 1) (pv 3) (fun _ _ => rfl)))) (pe_un un_inv (pe_ix ix_tup (pv 1) (pv 5) (fun _ _ => rfl)))) (pe_un un_inv (pe_op op_shl1 pe_int (pv 3)))))
        (pss_one (ps_expr (pe_lext (pv 2) (pa_cons (pe_lc (own := [("d", 7)]) (g := gName 7) (tt := tTest (tOp (rI0 fun i j => .bl (decide (i < j))) (tVar 5) (tVar 7))) (te := tTup (tCons (tVar 5) (tCons (tVar 3) (tCons (tVar 4) (tCons (tVar 7) tNil))))) rfl nd
          (pi_tup (pe_df TI r1 (by rfl) passUp (pa_cons (pv 6) pa_nil))) (blkOk_by (N := ["web", "masks", "found", "b", "c", "a", "fourth", "d"]) (sc := defScope s_rf) (by decide +kernel))
          (fun _ _ _ _ _ => pg_name (i := 7) nd rfl (.inl rfl)) (fun _ _ _ _ _ => pts_one (pt_cmpR op_lt (pv 5) (pv 7) (nomark _)))
          (fun _ _ _ _ _ => pe_tup (pa_cons (pv 5) (pa_cons (pv 3) (pa_cons (pv 4) (pa_cons (pv 7) pa_nil)))))) pa_nil))))))))))
      (pss_one (ps_ret (pe_callTy call_tuple_of (by rfl) B.tuple (by decide +kernel) (pa_cons (pe_callB (cr_srtW (d := 4) (by decide)) (by rfl) B.sorted (by decide +kernel) (pa_cons (pv 2) pa_nil)) pa_nil)))))), ?_⟩
    refine ⟨_, rfl, p, C, ddx, _, _, rfl, h1, T.cl, T.nk, wf_masks _ _ _, ?_⟩
    refine ⟨by show 0 ≤ sizeLine; exact Nat.zero_le _, fun D nD => ?_⟩
    have s0 : Same H (upd H D (.lst [])) := same_upd nD
    let St : Nat → Nat → Nat → Option V → L2.St := fun b c a f => [some (.ref p), some (.ref m), some (.ref D), some (.int (b : Int)), some (.int (c : Int)), some (.int (a : Int)), f, none]
    let Pv : Nat → L2.St → Hp → Prop := fun i σ H' => ∃ o3 o4 o5 o6, σ = [some (.ref p), some (.ref m), some (.ref D), o3, o4, o5, o6, none] ∧ Same H H' ∧ GrowR H' D ((List.range i).flatMap (pf1 n.toNat q))
    refine ⟨_, rfl, p, C, ddx, _, _, rfl, s0 _ _ h1, T.cl, T.nm, wf_many _ _ _, n, rfl, by omega, by omega, for_range (n := n.toNat) Pv ⟨none, none, none, none, rfl, s0, GrowR.nil nD⟩ (fun b σ H1 hb h => ?_) (fun σ H1 h => ?_)⟩
    · obtain ⟨o3, o4, o5, o6, rfl, s1, g1⟩ := h
      rw [Int.zero_add]
      have lb : ((List.range b).flatMap (pf1 n.toNat q)).length ≤ 65536 := by
        have h1 := len_fm (List.range b) (f := pf1 n.toNat q) fun x _ => pf1_len n.toNat q x
        rw [List.length_range] at h1
        exact Nat.le_trans h1 (Nat.le_trans (Nat.mul_le_mul (by omega : b ≤ 16) (Nat.mul_le_mul n16 (Nat.mul_le_mul n16 n16))) (by decide))
      refine ⟨_, rfl, _, rfl, m, _, (b : Int), _, rfl, rfl, SqT.of (s1 _ _ h5), nvs_at (mask_at W b (by omega)), M b, rfl, by have := mask_small W b; show bitsN (M b) ≤ 1000; show bitsN ((mOf n.toNat q).getD b 0) ≤ 1000; omega, fun H2 t s2 nt ht => ?_⟩
      have eb : (List.range (bitsN (M b))).filter (M b).testBit = near n.toNat q b := by
        rw [bitsOf_eq (n := n.toNat) (fun j hj => by show ((mOf n.toNat q).getD b 0).testBit j = false; rw [mask_bits W]; exact out hj)]
        unfold bitsOf near
        congr 1
        funext y
        exact mask_bits W b y
      rw [eb] at ht
      let P2 : Nat → L2.St → Hp → Prop := fun j σ H' => ∃ o4 o5 o6, σ = [some (.ref p), some (.ref m), some (.ref D), some (.int (b : Int)), o4, o5, o6, none] ∧ Same H H' ∧ H' t = some (.tup (nvs (near n.toNat q b))) ∧ GrowR H' D ((List.range b).flatMap (pf1 n.toNat q) ++ ((near n.toNat q b).take j).flatMap (pf2 n.toNat q b))
      refine ⟨t, rfl, ⟨_, SqT.of ht⟩, for_tup (K := K) (a := t) (xs := nvs (near n.toNat q b)) P2 ⟨o4, o5, o6, rfl, s1.trans s2, ht, by simpa using g1.mono s2⟩ (fun j σ H' _ h => ?_) (fun j v σ H3 hj h => ?_) (fun σ H3 h => ?_)⟩
      · obtain ⟨_, _, _, _, _, ht, _⟩ := h
        exact SqT.of ht
      · obtain ⟨o4, o5, o6, rfl, s3, ht3, g3⟩ := h
        obtain ⟨c, hc, rfl⟩ := nvs_val hj
        have hcn : c < n.toNat := List.mem_range.mp (List.mem_filter.mp (List.mem_of_getElem? hc)).1
        have hbc : hasP q b c = true := (List.mem_filter.mp (List.mem_of_getElem? hc)).2
        have lc : (((near n.toNat q b).take j).flatMap (pf2 n.toNat q b)).length ≤ 4096 := by
          have h1 := fm_len (near n.toNat q b) j (f := pf2 n.toNat q b) fun x _ => pf2_len n.toNat q b x
          exact Nat.le_trans h1 (Nat.le_trans (Nat.mul_le_mul (Nat.le_trans (fil_len _) n16) (Nat.mul_le_mul n16 n16)) (by decide))
        have s5m : ∀ {H' : Hp}, Same H3 H' → SqT K H' m (nvs (mOf n.toNat q)) := fun s => SqT.of (s _ _ (s3 _ _ h5))
        refine ⟨_, rfl, _, rfl, mk_at W (s5m (Same.refl _)) hb ?_⟩
        refine ⟨_, rfl, _, rfl, mk_at W (s5m (Same.refl _)) hcn ⟨_, rfl, M b, M c, rfl, rfl, ?_⟩⟩
        refine ⟨_, rfl, c, rfl, rfl, by omega, _, rfl, andN (M b) (M c), 2 ^ c, rfl, rfl, ?_⟩
        have eb2 := bits2 W b c
        refine ⟨andN (andN (M b) (M c)) (2 ^ c), rfl, ?_, fun H4 u s4 nu hu => ?_⟩
        · have : bitsN (andN (andN (M b) (M c)) (2 ^ c)) ≤ 16 := bits_lt (k := n.toNat) (fun j hj => by rw [show (andN (andN (M b) (M c)) (2 ^ c)).testBit j = _ from eb2 j, out hj]; rfl) n16
          omega
        have ebu : (List.range (bitsN (andN (andN (M b) (M c)) (2 ^ c)))).filter (andN (andN (M b) (M c)) (2 ^ c)).testBit = fstN n.toNat q b c := by
          rw [bitsOf_eq (n := n.toNat) (fun j hj => by rw [show (andN (andN (M b) (M c)) (2 ^ c)).testBit j = _ from eb2 j, out hj]; rfl)]
          unfold bitsOf fstN
          congr 1
          funext y
          exact eb2 y
        rw [ebu] at hu
        let AB : List Rw := (List.range b).flatMap (pf1 n.toNat q) ++ ((near n.toNat q b).take j).flatMap (pf2 n.toNat q b)
        let P3 : Nat → L2.St → Hp → Prop := fun k σ H' => ∃ o5 o6, σ = [some (.ref p), some (.ref m), some (.ref D), some (.int (b : Int)), some (.int (c : Int)), o5, o6, none] ∧ Same H H' ∧ H' t = some (.tup (nvs (near n.toNat q b))) ∧ H' u = some (.tup (nvs (fstN n.toNat q b c))) ∧ GrowR H' D (AB ++ ((fstN n.toNat q b c).take k).flatMap (pf3 n.toNat q b c))
        refine ⟨u, rfl, ⟨_, SqT.of hu⟩, for_tup (K := K) (a := u) (xs := nvs (fstN n.toNat q b c)) P3 ⟨o5, o6, rfl, s3.trans s4, s4 _ _ ht3, hu, by simpa [AB] using g3.mono s4⟩ (fun k σ H' _ h => ?_) (fun k v σ H5 hk h => ?_) (fun σ H5 h => ?_)⟩
        · obtain ⟨_, _, _, _, _, hu, _⟩ := h
          exact SqT.of hu
        · obtain ⟨o5, o6, rfl, s5, ht5, hu5, g5⟩ := h
          obtain ⟨a, ha, rfl⟩ := nvs_val hk
          have han : a < n.toNat := List.mem_range.mp (List.mem_filter.mp (List.mem_of_getElem? ha)).1
          have la : (((fstN n.toNat q b c).take k).flatMap (pf3 n.toNat q b c)).length ≤ 256 := by
            have h1 := fm_len (fstN n.toNat q b c) k (f := pf3 n.toNat q b c) fun x _ => pf3_len n.toNat q b c x
            exact Nat.le_trans h1 (Nat.le_trans (Nat.mul_le_mul (Nat.le_trans (fil_len _) n16) n16) (by decide))
          have s6m : ∀ {H' : Hp}, Same H5 H' → SqT K H' m (nvs (mOf n.toNat q)) := fun s => SqT.of (s _ _ (s5 _ _ h5))
          refine ⟨_, rfl, _, rfl, mk_at W (s6m (Same.refl _)) hcn ?_⟩
          refine ⟨_, rfl, _, rfl, mk_at W (s6m (Same.refl _)) hb ⟨_, rfl, M c, M b, rfl, rfl, ?_⟩⟩
          refine ⟨_, rfl, _, rfl, mk_at W (s6m (Same.refl _)) han ⟨_, rfl, andN (M c) (M b), M a, rfl, rfl, ?_⟩⟩
          refine ⟨_, rfl, b, rfl, rfl, by omega, _, rfl, andN (andN (M c) (M b)) (M a), 2 ^ b, rfl, rfl, ?_⟩
          let MF : Nat := andN (andN (andN (M c) (M b)) (M a)) (2 ^ b)
          have eb3 : ∀ x, MF.testBit x = _ := bits3 W b c a
          obtain ⟨xs, hx, lx, _⟩ := g5.at
          refine ⟨_, rfl, .inl ⟨rfl, xs, SqL.of hx⟩, ?_⟩
          refine ⟨_, rfl, MF, rfl, ?_, fun H6 w6 s6 nw hw => ?_⟩
          · have : bitsN MF ≤ 16 := bits_lt (k := n.toNat) (fun j hj => by rw [eb3 j, out hj]; rfl) n16
            omega
          have ebw : (List.range (bitsN MF)).filter MF.testBit = fthN n.toNat q a b c := by
            rw [bitsOf_eq (n := n.toNat) (fun j hj => by rw [eb3 j, out hj]; rfl)]
            unfold bitsOf fthN
            congr 1
            funext y
            exact eb3 y
          rw [ebw] at hw
          refine ⟨w6, rfl, ⟨_, SqT.of hw⟩, fun G nG => ?_⟩
          let R3 : Nat → List Rw := fun i => (((fthN n.toNat q a b c).take i).filter fun d => decide (a < d)).map (row4 a b c)
          have hD6 : H6 D = some (.lst xs) := s6 _ _ hx
          have GD : G ≠ D := fun z => by rw [z, hD6] at nG; cases nG
          refine lc_tup (K := K) (a := w6) (xs := nvs (fthN n.toNat q a b c)) (fun i H' => Same H6 H' ∧ GrowR H' G (R3 i)) ⟨same_upd nG, GrowR.nil nG⟩ (fun i H' _ z => SqT.of (z.1 _ _ hw)) (fun i v H' hi z => ?_) (fun H' z => ?_)
          · obtain ⟨s7, g7⟩ := z
            obtain ⟨d, hd, rfl⟩ := nvs_val hi
            have eR : R3 (i + 1) = R3 i ++ (if a < d then [row4 a b c d] else []) := by
              show ((List.filter _ _).map _) = _
              rw [take_at hd, List.filter_append, List.map_append]
              congr 1
              by_cases lt : a < d
              · simp [lt]
              · simp [lt]
            refine ⟨rfl, _, rfl, _, rfl, _, _, rfl, rfl, _, rfl, ?_⟩
            by_cases lt : a < d
            · rw [decide_eq_true (by omega : (a : Int) < (d : Int))]
              refine iteT ⟨_, rfl, _, rfl, _, rfl, _, rfl, (by show 4 ≤ sizeLine; decide), fun y ny => ?_⟩
              obtain ⟨as, hA, lA, _⟩ := g7.at
              have s8 : Same H' (upd H' y (.tup ((row4 a b c d).map V.int))) := same_upd ny
              refine ⟨as, s8 _ _ hA, ?_, same_keep nG (s7.trans s8), ?_⟩
              · have : (R3 i).length ≤ n.toNat := by
                  show ((List.filter _ _).map _).length ≤ _
                  rw [List.length_map]
                  refine Nat.le_trans (List.length_filter_le _ _) ?_
                  rw [List.length_take]
                  exact Nat.le_trans (Nat.min_le_right _ _) (fil_len _)
                rw [lA, sizeLine_eq]
                omega
              · have g8 := g7.push (r := row4 a b c d) ny hA
                rw [eR, if_pos lt]
                exact g8
            · rw [decide_eq_false (by omega : ¬ (a : Int) < (d : Int))]
              refine iteF ⟨s7, ?_⟩
              rw [eR, if_neg lt, List.append_nil]
              exact g7
          · obtain ⟨s7, g7⟩ := z
            rw [nvs_len] at g7
            have eR : R3 (fthN n.toNat q a b c).length = pf3 n.toNat q b c a := by
              show ((List.filter _ _).map _) = _
              rw [List.take_length]
              rfl
            rw [eR] at g7
            obtain ⟨as, hA, lA, _⟩ := g7.at
            have s67 := s6.trans s7
            refine ⟨D, G, xs, as, rfl, rfl, s7 _ _ hD6, hA, ?_, ?_⟩
            · have := pf3_len n.toNat q b c a
              rw [lx, lA, sizeLine_eq, List.length_append]
              have eAB : AB.length = ((List.range b).flatMap (pf1 n.toNat q)).length + (((near n.toNat q b).take j).flatMap (pf2 n.toNat q b)).length := List.length_append
              omega
            · have hD0 : H D = none := nD
              refine ⟨_, _, rfl, same_keep hD0 (s5.trans s67), ?_, ?_, ?_⟩
              · rw [upd_ne (fun z => by rw [z] at ht5; rw [hx] at ht5; cases ht5)]
                exact s67 _ _ ht5
              · rw [upd_ne (fun z => by rw [z] at hu5; rw [hx] at hu5; cases hu5)]
                exact s67 _ _ hu5
              · rw [fm_snoc ha, ← List.append_assoc]
                exact (g5.mono s67).cat g7 (s7 _ _ hD6) hA
        · obtain ⟨o5, o6, rfl, s5, ht5, hu5, g5⟩ := h
          rw [nvs_len, List.take_length] at g5
          refine ⟨_, _, _, rfl, s5, ht5, ?_⟩
          rw [fm_snoc hc, ← List.append_assoc]
          exact g5
      · obtain ⟨o4, o5, o6, rfl, s3, ht3, g3⟩ := h
        rw [nvs_len, List.take_length] at g3
        refine ⟨_, _, _, _, rfl, s3, ?_⟩
        rw [List.range_succ, List.flatMap_append]
        simpa [pf1] using g3
    · obtain ⟨o3, o4, o5, o6, rfl, s1, g1⟩ := h
      obtain ⟨ys, hy, ly, dy⟩ := g1.at
      have eP : (List.range n.toNat).flatMap (pf1 n.toNat q) = pf n.toNat q := rfl
      rw [eP] at dy
      refine ⟨_, rfl, D, pf n.toNat q, ys, rfl, hy, dy, fun r hr' => ?_, fun H2 t zs ss s2 nt ht dz pm le => ?_⟩
      · obtain ⟨a, b, c, d, rfl, _, R⟩ := (pf_mem clN r).mp hr'
        exact ⟨rfl, bd_row (by omega) (R.rng clN)⟩
      · refine ⟨t, zs, rfl, .inl ⟨SqL.of ht, fun l nl => ?_⟩⟩
        have s12 := s1.trans s2
        refine k _ l zs ss (s12.trans (same_upd nl)) (s12.free nl) upd_same (dz.mono (same_upd nl)) ?_
        have := pf_rows clN (by omega) pm le
        exact ⟨this.up, this.mem⟩
end
end K0
set_option Elab.async false
set_option linter.all false
set_option maxRecDepth 100000
set_option maxHeartbeats 4000000
namespace K0
open PySem PySem.Spec PyProof.Rows L2
section
variable {P : Program} {w : World} {K : PySem.W.Frag} {mg : Str → Option Value} {base : Heap} {f : Addr} {fd : FuncData}
abbrev s_ck : Stmt := top 42
abbrev s_ln' : Stmt := top 46
abbrev s_rg : Stmt := top 47
abbrev s_lq : Stmt := top 58
/-- _law_clash -/
def spCk : Sp := fun vs H Q _ => ∃ (b : Addr) (n : Int) (x y : Nat) (q : List Pr), vs = [.ref b, .int (x : Int), .int (y : Int)] ∧ Cl n q ∧ Ls H b q ∧ Ret (.bl (hasP q x y)) H Q
theorem sc_ck : FnScope ["_law_pairs", "_law_x", "_law_y"] ["_law_pairs", "_law_x", "_law_y"] (defScope s_ck) := ⟨rfl, rfl, rfl, by decide +kernel, rfl, by decide +kernel, by decide +kernel⟩
theorem ok_ck (F : Fun K "_law_clash" "_law_clash" s_ck f fd) (B : Blt2 mg) : FnOk P w K mg base (L2.CX P w) 2 f fd ["_law_pairs", "_law_x", "_law_y"] spCk := by
  refine F.okX sc_ck (fun vs H Q E h => ?_) (fun cdv A outer s H vs Q E hr h => ?_)
  · obtain ⟨b, n, x, y, q, rfl, _⟩ := h
    rfl
  · obtain ⟨b, n, x, y, q, rfl, cl, hl, k⟩ := h
    have hu : (A.deeper (envOfC "_law_clash" (defScope s_ck) s.heap.objs.size f cdv)).units + 65 < cLine := by have := hr.un; omega
    refine ⟨_, pss_one (ps_ret (pe_cmpR (op_inD hu) (pe_tup (pa_cons (pe_callB (c_min rfl) (by rfl) B.min (by decide +kernel) (pa_cons (pv 1) (pa_cons (pv 2) pa_nil))) (pa_cons (pe_callB (c_max rfl) (by rfl) B.max (by decide +kernel) (pa_cons (pv 1) (pa_cons (pv 2) pa_nil))) pa_nil))) (pv 0) (by rfl))), ?_⟩
    refine ⟨_, rfl, _, rfl, _, _, rfl, _, rfl, _, rfl, _, _, rfl, (by show 2 ≤ sizeLine; decide), fun t nt => ?_⟩
    rw [min2, max2]
    have s2 : Same H (upd H t (.tup [.int (min (x : Int) y), .int (max (x : Int) y)])) := same_upd nt
    refine ⟨_, rfl, prD (min (x : Int) y, max (x : Int) y), _, (dt_pr (p := (min (x : Int) y, max (x : Int) y)) upd_same).dp, (hl.mono s2).dp, prD_shaped _, prsL_shaped _, ?_⟩
    rw [prs_any, hasP_mm cl]
    exact k _ s2
/-- pairs of neighbours -/
def lnP (k : Nat) : List Pr := (List.range k).map fun (x : Nat) => ((x : Int), (x : Int) + 1)
theorem lnP_succ (k : Nat) : lnP (k + 1) = lnP k ++ [((k : Int), (k : Int) + 1)] := by
  unfold lnP
  rw [List.range_succ, List.map_append]
  rfl
theorem lnP_len (k : Nat) : (lnP k).length = k := by unfold lnP; rw [List.length_map, List.length_range]
theorem new_upd {H G : Hp} {u : Addr} {o : HO} (n : H u = none) : New H (upd G u o) = upd (New H G) u o := by
  funext b
  by_cases e : b = u
  · rw [e, new_at n, upd_same, upd_same]
  · rw [upd_ne e]
    unfold New
    rw [upd_ne e]
theorem line_stepN {H H' : Hp} {D : Addr} {i : Nat} (nD : H D = none) (sm : Same H H') (g : Grow (New H H') D (lnP i)) (hi : i < 16) {u : Addr} (nu : H' u = none) :
    ∃ acc, (upd H' u (.tup [.int (i : Int), .int ((i : Int) + 1)])) D = some (.lst acc) ∧ acc.length < sizeLine ∧ Same H (upd (upd H' u (.tup [.int (i : Int), .int ((i : Int) + 1)])) D (.lst (acc ++ [.ref u]))) ∧ Grow (New H (upd (upd H' u (.tup [.int (i : Int), .int ((i : Int) + 1)])) D (.lst (acc ++ [.ref u])))) D (lnP (i + 1)) := by
  obtain ⟨as, hA, lA, _⟩ := g.at
  have s8 : Same H' (upd H' u (.tup [.int (i : Int), .int ((i : Int) + 1)])) := same_upd nu
  have hu : H u = none := sm.free nu
  refine ⟨as, s8 _ _ (same_new _ _ hA), ?_, same_keep nD (sm.trans s8), ?_⟩
  · rw [lA, lnP_len, sizeLine_eq]
    omega
  · rw [lnP_succ, new_upd nD, new_upd hu]
    exact g.push (by rw [new_at hu]; exact nu) hA
/-- _law_line -/
def spLine : Sp := fun vs H Q _ => ∃ (n : Int), vs = [.int n] ∧ 1 ≤ n ∧ n ≤ 16 ∧ ∀ H' D, Same H H' → H D = none → Grow (New H H') D (lnP (n - 1).toNat) → Q (.ref D) H'
theorem sc_ln' : FnScope ["_law_many", "_law_x"] ["_law_many"] (defScope s_ln') := ⟨rfl, rfl, rfl, by decide +kernel, rfl, by decide +kernel, by decide +kernel⟩
theorem line_step {H H' : Hp} {D : Addr} {i : Nat} (nD : H D = none) (sm : Same H H') (g : Grow H' D (lnP i)) (hi : i < 16) {u : Addr} (nu : H' u = none) :
    ∃ acc, (upd H' u (.tup [.int (i : Int), .int ((i : Int) + 1)])) D = some (.lst acc) ∧ acc.length < sizeLine ∧ Same H (upd (upd H' u (.tup [.int (i : Int), .int ((i : Int) + 1)])) D (.lst (acc ++ [.ref u]))) ∧ Grow (upd (upd H' u (.tup [.int (i : Int), .int ((i : Int) + 1)])) D (.lst (acc ++ [.ref u]))) D (lnP (i + 1)) := by
  obtain ⟨as, hA, lA, _⟩ := g.at
  have s8 : Same H' (upd H' u (.tup [.int (i : Int), .int ((i : Int) + 1)])) := same_upd nu
  refine ⟨as, s8 _ _ hA, ?_, same_keep nD (sm.trans s8), ?_⟩
  · rw [lA, lnP_len, sizeLine_eq]
    omega
  · rw [lnP_succ]
    exact g.push nu hA
theorem ok_ln' (F : Fun K "_law_line" "_law_line" s_ln' f fd) (B : Blt2 mg) : FnOk P w K mg base (L2.CX P w) 1 f fd ["_law_many"] spLine := by
  refine F.okX sc_ln' (fun vs H Q E h => ?_) (fun cdv A outer s H vs Q E hr h => ?_)
  · obtain ⟨n, rfl, _⟩ := h
    rfl
  · obtain ⟨n, rfl, n1, n16, k⟩ := h
    have nd := sc_ln'.nd
    refine ⟨_, pss_one (ps_ret (pe_lc (own := [("_law_x", 1)]) (g := gName 1) (tt := tYes) (te := tTup (tCons (tVar 1) (tCons (tOp (rI0 fun i j => .int (i + j)) (tVar 1) (tC (.int 1))) tNil))) rfl nd
      (pi_range1 (by rfl) B.range (pa_cons (pe_op op_sub (pv 0) pe_int) pa_nil)) (blkOk_by (N := ["_law_many", "_law_x"]) (sc := defScope s_ln') (by decide +kernel)) (fun _ _ _ _ _ => pg_name (i := 1) nd rfl (.inl rfl)) (fun _ _ _ _ _ => pts_nil)
      (fun _ _ _ _ _ => pe_tup (pa_cons (pv 1) (pa_cons (pe_op op_add (pv 1) pe_int) pa_nil))))), ?_⟩
    refine ⟨_, rfl, _, _, rfl, rfl, n - 1, rfl, by omega, by omega, fun D nD => ?_⟩
    refine lc_range (lo := 0) (n := (n - 1).toNat) (fun i H' => Same H H' ∧ Grow (New H H') D (lnP i)) ⟨same_upd nD, [], by rw [new_upd nD, upd_same]; rfl, rfl, fun z hz => by cases hz⟩ (fun i H' hi ⟨sm, g⟩ => ?_) (fun H' ⟨sm, g⟩ => k H' D sm nD g)
    refine ⟨rfl, ?_⟩
    rw [Int.zero_add]
    exact ⟨_, rfl, _, rfl, _, _, rfl, rfl, (by show 2 ≤ sizeLine; decide), fun u nu => line_stepN nD sm g (by omega) nu⟩
end
end K0
set_option Elab.async false
set_option linter.all false
set_option maxRecDepth 100000
set_option maxHeartbeats 4000000
namespace K0
open PySem PySem.Spec PyProof.Rows L2
theorem fil_snoc {α : Type} {l : List α} {p : α → Bool} {k : Nat} {e : α} (h : l[k]? = some e) : (l.take (k + 1)).filter p = (l.take k).filter p ++ if p e = true then [e] else [] := by
  rw [take_at h, List.filter_append]
  congr 1
  cases hp : p e <;> simp [hp]
theorem GrowR.ne {H : Hp} {D u : Addr} {rs : List Rw} (g : GrowR H D rs) (n : H u = none) : u ≠ D := fun e => by
  obtain ⟨xs, h, _⟩ := g.at
  rw [e, h] at n
  cases n
theorem lq3_len (n : Nat) (q : List Pr) (a b c : Nat) : (lq3 n q a b c).length ≤ n := by
  unfold lq3
  rw [List.length_map]
  exact Nat.le_trans (List.length_filter_le _ _) (fil_len _)
theorem lq2_len (n : Nat) (q : List Pr) (a b : Nat) : (lq2 n q a b).length ≤ n * n := Nat.le_trans (len_fm _ fun x _ => lq3_len n q a b x) (Nat.mul_le_mul_right _ (Nat.le_trans (List.length_filter_le _ _) (fil_len _)))
theorem lq1_len (n : Nat) (q : List Pr) (a : Nat) : (lq1 n q a).length ≤ n * (n * n) := Nat.le_trans (len_fm _ fun x _ => lq2_len n q a x) (Nat.mul_le_mul_right _ (fil_len _))
theorem lq_len (n : Nat) (q : List Pr) : (lq n q).length ≤ n * (n * (n * n)) := by
  have := len_fm (List.range n) (f := lq1 n q) fun x _ => lq1_len n q x
  rwa [List.length_range] at this
section
variable {P : Program} {w : World} {K : PySem.W.Frag} {mg : Str → Option Value} {base : Heap} {f : Addr} {fd : FuncData}
theorem sc_rg : FnScope ["_law_many", "_law_pairs", "_law_x"] ["_law_many"] (defScope s_rg) := ⟨rfl, rfl, rfl, by decide +kernel, rfl, by decide +kernel, by decide +kernel⟩
/-- _law_quads -/
def spLq : Sp := fun vs H Q _ => ∃ (b : Addr) (n : Int) (q : List Pr), vs = [.int n, .ref b] ∧ 0 ≤ n ∧ n ≤ 16 ∧ Cl n q ∧ Ls H b q ∧ ∀ H' t xs rs, Same H H' → H t = none → H' t = some (.lst xs) → DtAll H' xs (rs.map rwD) → IsRows n q rs → rs.length ≤ n.toNat * (n.toNat * (n.toNat * n.toNat)) → Q (.ref t) H'
theorem sc_lq : FnScope ["_law_many", "_law_pairs", "_law_quads_here", "_law_a", "_law_b", "_law_c", "_law_d"] ["_law_many", "_law_pairs"] (defScope s_lq) := ⟨rfl, rfl, rfl, by decide +kernel, rfl, by decide +kernel, by decide +kernel⟩
theorem ok_lq (F : Fun K "_law_quads" "_law_quads" s_lq f fd) (B : Blt3 mg) (NE : Df P w K mg base "_law_near" 2 ["_law_many", "_law_pairs", "_law_x"] spNe) (CK : Df P w K mg base "_law_clash" 2 ["_law_pairs", "_law_x", "_law_y"] spCk) : FnOk P w K mg base (L2.CX P w) 3 f fd ["_law_many", "_law_pairs"] spLq := by
  refine F.okX sc_lq (fun vs H Q E h => ?_) (fun cdv A outer s H vs Q E hr h => ?_)
  · obtain ⟨b, n, q, rfl, _⟩ := h
    rfl
  · obtain ⟨pb, n, q, rfl, n0, n16', cl, hl, k⟩ := h
    have nd := sc_lq.nd
    have r2 : Room 2 _ := hr.mono (by decide)
    have n16 : n.toNat ≤ 16 := by omega
    have clN : Cl (n.toNat : Int) q := by rw [Int.toNat_of_nonneg n0]; exact cl
    refine ⟨_, pss_cons (ps_set (i := 2) nd rfl (.inl rfl) (pe_lst pa_nil))
      (pss_cons (ps_for (passes_of rfl) rfl (pi_range1 (by rfl) B.range (pa_cons (pv 0) pa_nil)) (pg_name (i := 3) nd rfl (.inl rfl))
        (pss_one (ps_for (passes_of rfl) rfl (pi_list (pe_df NE r2 (by rfl) passUp (pa_cons (pv 0) (pa_cons (pv 1) (pa_cons (pv 3) pa_nil))))) (pg_name (i := 4) nd rfl (.inl rfl))
        (pss_one (ps_for (passes_of rfl) rfl (pi_list (pe_df NE r2 (by rfl) passUp (pa_cons (pv 0) (pa_cons (pv 1) (pa_cons (pv 4) pa_nil))))) (pg_name (i := 5) nd rfl (.inl rfl))
        (pss_one (ps_if (PW.pt (pw_and (pt_cmpR op_ne (pv 5) (pv 3) (by rfl)) (pw_and1 (pt_not (pt_val (pe_df CK r2 (by rfl) passUp (pa_cons (pv 1) (pa_cons (pv 3) (pa_cons (pv 5) pa_nil)))))))))
          (pss_one (ps_for (passes_of rfl) rfl (pi_list (pe_df NE r2 (by rfl) passUp (pa_cons (pv 0) (pa_cons (pv 1) (pa_cons (pv 5) pa_nil))))) (pg_name (i := 6) nd rfl (.inl rfl))
            (pss_one (ps_if (PW.pt (pw_and (pt_cmpR op_lt (pv 3) (pv 6) (nomark _)) (pw_and (pt_cmpR op_ne (pv 6) (pv 4) (by rfl)) (pw_and (pt_not (pt_val (pe_df CK r2 (by rfl) passUp (pa_cons (pv 1) (pa_cons (pv 4) (pa_cons (pv 6) pa_nil))))))
                (pw_and1 (pt_not (pt_val (pe_df CK r2 (by rfl) passUp (pa_cons (pv 1) (pa_cons (pv 3) (pa_cons (pv 6) pa_nil)))))))))))
              (pss_one (ps_expr (pe_lapp (pv 2) (pa_cons (pe_tup (pa_cons (pv 3) (pa_cons (pv 4) (pa_cons (pv 5) (pa_cons (pv 6) pa_nil))))) pa_nil)))) pss_nil)))) pss_nil)))))))
      (pss_one (ps_ret (pe_callB (cr_srtW (d := 4) (by decide)) (by rfl) B.sorted (by decide +kernel) (pa_cons (pv 2) pa_nil))))), ?_⟩
    refine ⟨by show 0 ≤ sizeLine; exact Nat.zero_le _, fun D nD => ?_⟩
    have s0 : Same H (upd H D (.lst [])) := same_upd nD
    let N := n.toNat
    let P1 : Nat → L2.St → Hp → Prop := fun i σ H' => ∃ o3 o4 o5 o6, σ = [some (.int n), some (.ref pb), some (.ref D), o3, o4, o5, o6] ∧ Same H H' ∧ GrowR H' D ((List.range i).flatMap (lq1 N q))
    refine ⟨_, rfl, n, rfl, by omega, by omega, for_range (n := n.toNat) P1 ⟨none, none, none, none, rfl, s0, GrowR.nil nD⟩ (fun a σ H1 ha h => ?_) (fun σ H1 h => ?_)⟩
    · obtain ⟨o3, o4, o5, o6, rfl, s1, g1⟩ := h
      rw [Int.zero_add]
      refine ⟨_, rfl, _, rfl, _, rfl, pb, n, a, q, rfl, n0, n16', cl, hl.mono s1, fun H2 ta s2 na hta => ?_⟩
      have taD : ta ≠ D := g1.ne na
      have la : ((List.range a).flatMap (lq1 N q)).length ≤ 65536 := by
        have h1 := len_fm (List.range a) (f := lq1 N q) fun x _ => lq1_len N q x
        rw [List.length_range] at h1
        exact Nat.le_trans h1 (Nat.le_trans (Nat.mul_le_mul (by omega : a ≤ 16) (Nat.mul_le_mul n16 (Nat.mul_le_mul n16 n16))) (by decide))
      let P2 : Nat → L2.St → Hp → Prop := fun j σ H' => ∃ o4 o5 o6, σ = [some (.int n), some (.ref pb), some (.ref D), some (.int (a : Int)), o4, o5, o6] ∧ Same H H' ∧ H' ta = some (.lst (nvs (near N q a))) ∧ GrowR H' D ((List.range a).flatMap (lq1 N q) ++ ((near N q a).take j).flatMap (lq2 N q a))
      refine ⟨ta, rfl, ⟨_, SqL.of hta⟩, for_list (K := K) (a := ta) (xs := nvs (near N q a)) P2 ⟨o4, o5, o6, rfl, s1.trans s2, hta, by simpa using g1.mono s2⟩ (fun j σ H' _ h => ?_) (fun j v σ H3 hj h => ?_) (fun σ H3 h => ?_)⟩
      · obtain ⟨_, _, _, _, _, ht, _⟩ := h
        exact SqL.of ht
      · obtain ⟨o4, o5, o6, rfl, s3, hta3, g3⟩ := h
        obtain ⟨b, hb, rfl⟩ := nvs_val hj
        have lb : (((near N q a).take j).flatMap (lq2 N q a)).length ≤ 4096 := by
          have h1 := fm_len (near N q a) j (f := lq2 N q a) fun x _ => lq2_len N q a x
          exact Nat.le_trans h1 (Nat.le_trans (Nat.mul_le_mul (Nat.le_trans (fil_len _) n16) (Nat.mul_le_mul n16 n16)) (by decide))
        refine ⟨_, rfl, _, rfl, _, rfl, pb, n, b, q, rfl, n0, n16', cl, hl.mono s3, fun H4 tb s4 nb htb => ?_⟩
        have tbD : tb ≠ D := g3.ne nb
        let AB : List Rw := (List.range a).flatMap (lq1 N q) ++ ((near N q a).take j).flatMap (lq2 N q a)
        have eAB : AB.length = ((List.range a).flatMap (lq1 N q)).length + (((near N q a).take j).flatMap (lq2 N q a)).length := List.length_append
        let pc : Nat → Bool := fun c => !decide (c = a) && !hasP q a c
        let P3 : Nat → L2.St → Hp → Prop := fun k σ H' => ∃ o5 o6, σ = [some (.int n), some (.ref pb), some (.ref D), some (.int (a : Int)), some (.int (b : Int)), o5, o6] ∧ Same H H' ∧ H' ta = some (.lst (nvs (near N q a))) ∧ H' tb = some (.lst (nvs (near N q b))) ∧ GrowR H' D (AB ++ (((near N q b).take k).filter pc).flatMap (lq3 N q a b))
        refine ⟨tb, rfl, ⟨_, SqL.of htb⟩, for_list (K := K) (a := tb) (xs := nvs (near N q b)) P3 ⟨o5, o6, rfl, s3.trans s4, s4 _ _ hta3, htb, by simpa [AB] using g3.mono s4⟩ (fun k σ H' _ h => ?_) (fun k v σ H5 hk h => ?_) (fun σ H5 h => ?_)⟩
        · obtain ⟨_, _, _, _, _, ht, _⟩ := h
          exact SqL.of ht
        · obtain ⟨o5, o6, rfl, s5, hta5, htb5, g5⟩ := h
          obtain ⟨c, hc, rfl⟩ := nvs_val hk
          have lc : ((((near N q b).take k).filter pc).flatMap (lq3 N q a b)).length ≤ 256 := by
            have h1 := len_fm (((near N q b).take k).filter pc) (f := lq3 N q a b) fun x _ => lq3_len N q a b x
            refine Nat.le_trans h1 (Nat.le_trans (Nat.mul_le_mul (Nat.le_trans (List.length_filter_le _ _) ?_) n16) (by decide : 16 * 16 ≤ 256))
            rw [List.length_take]
            exact Nat.le_trans (Nat.min_le_right _ _) (Nat.le_trans (fil_len _) n16)
          have ex : pc c = (!decide (c = a) && !hasP q a c) := rfl
          have skip : ∀ {H' : Hp}, Same H5 H' → pc c = false → GrowR H' D (AB ++ (((near N q b).take (k + 1)).filter pc).flatMap (lq3 N q a b)) := fun s e => by
            rw [fil_snoc hc, e]
            simpa using g5.mono s
          refine ⟨_, rfl, _, rfl, rfl, _, rfl, ?_⟩
          rw [dec_int]
          by_cases ca : c = a
          · rw [show (!(((c : Nat) : Int) == ((a : Nat) : Int))) = false by simp [ca]]
            refine iteF (iteF ⟨_, _, rfl, s5, hta5, htb5, skip (Same.refl _) ?_⟩)
            rw [ex, decide_eq_true ca]
            rfl
          rw [show (!(((c : Nat) : Int) == ((a : Nat) : Int))) = true by simp; omega]
          refine iteT ⟨_, rfl, _, rfl, _, rfl, pb, n, a, c, q, rfl, cl, hl.mono s5, fun H6 s6 => ⟨_, rfl, ?_⟩⟩
          have s56 := s5.trans s6
          cases hac : hasP q a c with
          | true =>
            refine iteF ⟨_, _, rfl, s56, s6 _ _ hta5, s6 _ _ htb5, skip s6 ?_⟩
            rw [ex, hac]
            simp
          | false =>
            refine iteT ⟨_, rfl, _, rfl, _, rfl, pb, n, c, q, rfl, n0, n16', cl, hl.mono s56, fun H7 tc s7 nc htc => ?_⟩
            have tcD : tc ≠ D := (g5.mono s6).ne nc
            have s57 := s56.trans s7
            let AC : List Rw := AB ++ (((near N q b).take k).filter pc).flatMap (lq3 N q a b)
            have eAC : AC.length = AB.length + ((((near N q b).take k).filter pc).flatMap (lq3 N q a b)).length := List.length_append
            let pd : Nat → Bool := fun d => decide (a < d) && (!decide (d = b) && (!hasP q b d && !hasP q a d))
            let R3 : Nat → List Rw := fun i => (((near N q c).take i).filter pd).map (row4 a b c)
            let P4 : Nat → L2.St → Hp → Prop := fun i σ H' => ∃ o6, σ = [some (.int n), some (.ref pb), some (.ref D), some (.int (a : Int)), some (.int (b : Int)), some (.int (c : Int)), o6] ∧ Same H H' ∧ H' ta = some (.lst (nvs (near N q a))) ∧ H' tb = some (.lst (nvs (near N q b))) ∧ H' tc = some (.lst (nvs (near N q c))) ∧ GrowR H' D (AC ++ R3 i)
            have lR : ∀ i, (R3 i).length ≤ 16 := fun i => by
              show (List.map _ _).length ≤ _
              rw [List.length_map]
              refine Nat.le_trans (List.length_filter_le _ _) ?_
              rw [List.length_take]
              exact Nat.le_trans (Nat.min_le_right _ _) (Nat.le_trans (fil_len _) n16)
            refine ⟨tc, rfl, ⟨_, SqL.of htc⟩, for_list (K := K) (a := tc) (xs := nvs (near N q c)) P4 ⟨o6, rfl, s57, s7 _ _ (s6 _ _ hta5), s7 _ _ (s6 _ _ htb5), htc, by simpa [AC, R3] using g5.mono (s6.trans s7)⟩ (fun i σ H' _ h => ?_) (fun i v σ H8 hi h => ?_) (fun σ H8 h => ?_)⟩
            · obtain ⟨_, _, _, _, _, ht, _⟩ := h
              exact SqL.of ht
            · obtain ⟨o6, rfl, s8, hta8, htb8, htc8, g8⟩ := h
              obtain ⟨d, hd, rfl⟩ := nvs_val hi
              have eR : R3 (i + 1) = R3 i ++ (if pd d = true then [row4 a b c d] else []) := by
                show (List.map _ _) = _
                rw [fil_snoc hd, List.map_append]
                congr 1
                cases pd d <;> rfl
              have ed : pd d = (decide (a < d) && (!decide (d = b) && (!hasP q b d && !hasP q a d))) := rfl
              have no : ∀ {H' : Hp}, Same H8 H' → pd d = false → P4 (i + 1) [some (.int n), some (.ref pb), some (.ref D), some (.int (a : Int)), some (.int (b : Int)), some (.int (c : Int)), some (.int (d : Int))] H' := fun {H'} s e => by
                refine ⟨_, rfl, s8.trans s, s _ _ hta8, s _ _ htb8, s _ _ htc8, ?_⟩
                rw [eR, e]
                simpa using g8.mono s
              refine ⟨_, rfl, _, rfl, _, _, rfl, rfl, _, rfl, ?_⟩
              by_cases lt : a < d
              case neg =>
                rw [decide_eq_false (by omega : ¬ (a : Int) < (d : Int))]
                refine iteF (iteF (no (Same.refl _) ?_))
                rw [ed, decide_eq_false lt]
                rfl
              rw [decide_eq_true (by omega : (a : Int) < (d : Int))]
              refine iteT ⟨_, rfl, _, rfl, rfl, _, rfl, ?_⟩
              rw [dec_int]
              by_cases db : d = b
              · rw [show (!(((d : Nat) : Int) == ((b : Nat) : Int))) = false by simp [db]]
                refine iteF (iteF (no (Same.refl _) ?_))
                rw [ed, decide_eq_true db]
                simp
              rw [show (!(((d : Nat) : Int) == ((b : Nat) : Int))) = true by simp; omega]
              refine iteT ⟨_, rfl, _, rfl, _, rfl, pb, n, b, d, q, rfl, cl, hl.mono s8, fun H9 s9 => ⟨_, rfl, ?_⟩⟩
              cases hbd : hasP q b d with
              | true =>
                refine iteF (iteF (no s9 ?_))
                rw [ed, hbd]
                simp
              | false =>
                refine iteT ⟨_, rfl, _, rfl, _, rfl, pb, n, a, d, q, rfl, cl, hl.mono (s8.trans s9), fun H10 s10 => ⟨_, rfl, ?_⟩⟩
                have s910 := s9.trans s10
                cases had : hasP q a d with
                | true =>
                  refine iteF (no s910 ?_)
                  rw [ed, had]
                  simp
                | false =>
                  have g10 := g8.mono s910
                  obtain ⟨as, hA, lA, _⟩ := g10.at
                  refine iteT ⟨_, rfl, .inl ⟨rfl, as, SqL.of hA⟩, _, rfl, _, rfl, _, rfl, _, rfl, (by show 4 ≤ sizeLine; decide), fun u nu => ?_⟩
                  have s11 : Same H10 (upd H10 u (.tup ((row4 a b c d).map V.int))) := same_upd nu
                  have up : pd d = true := by
                    rw [ed, hbd, had, decide_eq_true lt, decide_eq_false db]
                    rfl
                  refine ⟨D, as, _, rfl, rfl, s11 _ _ hA, ?_, ⟨_, rfl, same_keep nD ((s8.trans s910).trans s11), ?_, ?_, ?_, ?_⟩⟩
                  · have := lR i
                    have e1 : (AC ++ R3 i).length = AC.length + (R3 i).length := List.length_append
                    rw [lA, e1, sizeLine_eq]
                    omega
                  · rw [upd_ne taD]
                    exact s11 _ _ (s910 _ _ hta8)
                  · rw [upd_ne tbD]
                    exact s11 _ _ (s910 _ _ htb8)
                  · rw [upd_ne tcD]
                    exact s11 _ _ (s910 _ _ htc8)
                  · have g11 := g10.push (r := row4 a b c d) nu hA
                    rw [eR, if_pos up, ← List.append_assoc]
                    exact g11
            · obtain ⟨o6, rfl, s8, hta8, htb8, htc8, g8⟩ := h
              rw [nvs_len] at g8
              refine ⟨_, _, rfl, s8, hta8, htb8, ?_⟩
              have e1 : R3 (near N q c).length = lq3 N q a b c := by
                show (List.map _ _) = _
                rw [List.take_length]
                rfl
              have up : pc c = true := by
                rw [ex, hac, decide_eq_false ca]
                rfl
              rw [e1] at g8
              rw [fil_snoc hc, if_pos up, List.flatMap_append, ← List.append_assoc]
              simpa [AC] using g8
        · obtain ⟨o5, o6, rfl, s5, hta5, htb5, g5⟩ := h
          rw [nvs_len, List.take_length] at g5
          refine ⟨_, _, _, rfl, s5, hta5, ?_⟩
          rw [fm_snoc hb, ← List.append_assoc]
          exact g5
      · obtain ⟨o4, o5, o6, rfl, s3, ht3, g3⟩ := h
        rw [nvs_len, List.take_length] at g3
        refine ⟨_, _, _, _, rfl, s3, ?_⟩
        rw [List.range_succ, List.flatMap_append]
        simpa [lq1] using g3
    · obtain ⟨o3, o4, o5, o6, rfl, s1, g1⟩ := h
      obtain ⟨ys, hy, ly, dy⟩ := g1.at
      have eP : (List.range n.toNat).flatMap (lq1 N q) = lq N q := rfl
      rw [eP] at dy
      refine ⟨_, rfl, D, lq N q, ys, rfl, hy, dy, fun r hr' => ?_, fun H2 t zs ss s2 nt ht dz pm le => ?_⟩
      · obtain ⟨a, b, c, d, rfl, _, R⟩ := (lq_mem clN r).mp hr'
        exact ⟨rfl, bd_row (by omega) (R.rng clN)⟩
      · have is := lq_rows clN (by omega) pm le
        refine k H2 t zs ss (s1.trans s2) (s1.free nt) ht dz ⟨is.up, is.mem⟩ ?_
        rw [pm.length_eq]
        exact lq_len N q
end
end K0
set_option Elab.async false
set_option linter.all false
set_option maxRecDepth 100000
set_option maxHeartbeats 4000000
set_option Elab.async false
set_option linter.all false
set_option maxRecDepth 100000
set_option maxHeartbeats 2000000
set_option Elab.async false
set_option linter.all false
set_option maxRecDepth 100000
set_option maxHeartbeats 4000000
/-! ### rules that the library lacks: sorted over a tuple of ints; t[::-1] of a tuple of four -/
namespace K0
open PySem PySem.Spec PyProof.Rows L2
section
variable {prog : Program} {w : World} {A : Around} {E : Value → Shared → Prop} {s : Shared}
abbrev heldH (h : Heap) (vs : List Value) : Heap :=
  Heap.update (Heap.push h (seqObj "list" #[] 0)) h.objs.size (Obj.mapSeq fun z => z ++ vs.toArray)
theorem gather_tup {l : Addr} {vs : List Value} {Q : List Value → Shared → Prop} (ht : IsTup s.heap l vs.toArray) (hz : vs.length ≤ sizeLine)
    (k : Q vs { s with heap := heldH s.heap vs }) : wpAny (model prog w) A (collect (.ref l)) Q E s := by
  obtain ⟨o, ho, hc, m, hd⟩ := id ht
  have at' : (s.heap.push (seqObj "list" #[] 0)).get? l = some o := Heap.get?_push_of_some _ ho
  have at0 : (s.heap.push (seqObj "list" #[] 0)).get? s.heap.objs.size = some (seqObj "list" #[] 0) := Heap.get?_push_size _ rfl
  unfold collect
  refine wpAny_bind (wpAny_runValue (codeAny_builtin entry_proto_collect' ?_))
  change wpAny (model prog w) _ (do again (.builtin "list.__iadd__" ⟨[← newList [], .ref l], []⟩)) _ _ s
  refine wpAny_bind (wpAny_newList (wpAny_pure ⟨Code.quiet_builtin _ (by decide +kernel), codeAny_builtin entry_list_iadd' ?_⟩))
  change wpAny (model prog w) _ (Builtin.List.listExtendWith (.ref s.heap.objs.size) (.ref l) (.ref s.heap.objs.size)) _ _ _
  unfold Builtin.List.listExtendWith
  refine wpAny_bind (wpAny_typeOf (T := "tuple") ⟨o, at', hc⟩ ?_)
  have same : (Value.type "tuple" == Value.type "tuple") = true := by rfl
  rw [if_pos (by rw [same]; simp)]
  refine wpAny_bind (listItems_at at' hd (wpAny_bind (listItems_at at0 rfl ?_)))
  rw [if_neg (by simp)]
  have fit : (#[] ++ vs.toArray : Array Value).size ≤ sizeLine + 1 := by
    simp only [Array.size_append, List.size_toArray, List.length_nil]
    omega
  refine wpAny_bind (listUpdate_at at0 rfl (wpAny_pure ?_) (Nat.zero_le _) fit)
  change wpAny (model prog w) A (do
      let o ← load s.heap.objs.size
      match o.data with
      | .seq z _ => pure z.toList
      | _ => unsupported "internal:collect") Q E { s with heap := heldH s.heap vs }
  refine wpAny_bind (wpAny_load (get?_update_seq at0 _) ?_)
  have e : (#[] ++ vs.toArray : Array Value).toList = vs := by simp
  change wpAny (model prog w) _ (pure (#[] ++ vs.toArray : Array Value).toList) Q E _
  rw [e]
  exact wpAny_pure k
theorem sorted_itup {l : Addr} {vs : List Value} {ns : List Int} {Q : Value → Shared → Prop} (ht : IsTup s.heap l vs.toArray) (hI : IntsAre vs ns) (h64 : vs.length < 64)
    (k : ∀ (out : Array Value) (ms : List Int), IntsAre out.toList ms → ms.Perm ns → ms.Pairwise (· ≤ ·) → Q (.ref (s.heap.objs.size + 1)) { s with heap := sortedAll s.heap vs out }) :
    wpAny (model prog w) A (call (.builtin "sorted") [.ref l]) Q E s := by
  have line : vs.length ≤ sizeLine := by rw [sizeLine_eq]; omega
  refine Calls.call_function_entry kind_sorted plain_sorted entry_sorted (args_sorted1 _) ?_
  unfold Builtin.«sorted»
  refine wpAny_bind (m := checkCount "sorted" 1 1 _) (wpAny_pure (wpAny_bind (gather_tup ht line (wpAny_bind (wpAny_newList ?_)))))
  have sz : (heldH s.heap vs).objs.size = s.heap.objs.size + 1 := by rw [Heap.size_update, size_push']
  have here : ((heldH s.heap vs).push (seqObj "list" vs.toArray 0)).get? (s.heap.objs.size + 1) = some (seqObj "list" vs.toArray 0) := by
    rw [← sz]
    exact Heap.get?_push_size _ rfl
  change wpAny (model prog w) _ _ _ _ { s with heap := (heldH s.heap vs).push (seqObj "list" vs.toArray 0) }
  rw [sz]
  have run := fun (P : Fin → Shared → Prop) q => list_sort_tree (prog := prog) (w := w) (A := A.in1.in1) (E := E) (s := { s with heap := (heldH s.heap vs).push (seqObj "list" vs.toArray 0) }) (P := P) here hI h64 q
  refine wpAny_bind (wpAny_holding (wpAny_call_entry slot_list_sort ⟨_, here, rfl⟩ entry_list_sort (run _ fun out ms a b c => ⟨_, rfl, ?_⟩) (args_list_sort _)))
  exact wpAny_pure ⟨_, rfl, k out ms a b c⟩
end
/-- sorted(t) of a tuple of ints -/
def rSrtTup (K : PySem.W.Frag) : List V → Hp → VK → Prop := fun vs H Q => ∃ (a : Addr) (ns : List Int), vs = [V.ref a] ∧ SqT K H a (ns.map V.int) ∧ ns.length < 64 ∧
  ∀ (ms : List Int) (p : Addr), ms.Perm ns → ms.Pairwise (· ≤ ·) → H p = none → Q (.ref p) (upd H p (.lst (ms.map V.int)))
theorem cr_sorted_itup {X : Cx} : CallR X (.builtin "sorted") (rSrtTup X.K) := by
  intro pins s σ H vs us Q I r h
  obtain ⟨a, ns, rfl, hs, h64, q⟩ := h
  obtain ⟨its, rv, ht, hz⟩ := I.tuple hs
  rw [Vals.ref1 r]
  have hi := rv.ints
  have n64 : its.length < 64 := by rw [hi.length]; exact h64
  refine sorted_itup ht hi n64 fun out ms h1 h2 h3 => ?_
  have fit : (ms.map V.int).length ≤ sizeLine := by
    rw [List.length_map, h2.length_eq, sizeLine_eq]
    omega
  obtain ⟨ep, at1⟩ := PyProof.Rows.sortedAll_at s.heap its out
  refine ⟨.ref _, upd H (s.heap.objs.size + 1) (.lst (ms.map V.int)), ?_, rfl, q ms _ h2 h3 (I.hok.fresh (Nat.le_succ _))⟩
  exact I.laid (t' := s.toks) (fun _ _ => PyProof.Rows.sortedAll_old) (Nat.le_succ _) ⟨fit, out.toList, ep, vals_of_ints h1, at1⟩
end K0
set_option Elab.async false
set_option linter.all false
set_option maxRecDepth 100000
set_option maxHeartbeats 4000000
set_option Elab.async false
set_option linter.all false
set_option maxRecDepth 100000
set_option maxHeartbeats 4000000
namespace K0
open PySem PySem.Spec PyProof.Rows L2
abbrev s_fw : Stmt := top 16
abbrev s_cs : Stmt := top 17
def okAt (n : Int) (sn : List Int) : PyData → Bool
  | .int i => decide (0 ≤ i ∧ i < n ∧ i ∉ sn)
  | _ => false
def toI : PyData → Int
  | .int i => i
  | _ => 0
/-- the first wrong place, behind the things sn -/
def fwG (n : Int) : List PyData → List Int → Option Nat
  | [], _ => none
  | d :: r, sn => if okAt n sn d = true then fwG n r (sn ++ [toI d]) else some sn.length
structure Good (n : Int) (sn : List Int) : Prop where
  nd : sn.Nodup
  rng : ∀ k ∈ sn, 0 ≤ k ∧ k < n
theorem Good.few {n : Int} {sn : List Int} (h : Good n sn) (hn : n ≤ 9) : sn.length ≤ 9 := by
  have := len_sub sn ((List.range 9).map fun (k : Nat) => (k : Int)) h.nd fun k hk => by
    obtain ⟨a, b⟩ := h.rng k hk
    exact List.mem_map.mpr ⟨k.toNat, List.mem_range.mpr (by omega), by omega⟩
  simpa using this
theorem fwG_none {n : Int} : ∀ {ds : List PyData} {sn : List Int}, Good n sn → fwG n ds sn = none → ∃ r, ds = r.map PyData.int ∧ Good n (sn ++ r)
  | [], sn, h, _ => ⟨[], rfl, by rw [List.append_nil]; exact h⟩
  | d :: ds, sn, h, e => by
    rw [fwG] at e
    cases c : okAt n sn d with
    | false => rw [c] at e; cases e
    | true =>
      rw [c, if_pos rfl] at e
      cases d with
      | int i =>
        have z : 0 ≤ i ∧ i < n ∧ i ∉ sn := of_decide_eq_true c
        have g : Good n (sn ++ [i]) := ⟨by
          rw [List.nodup_append]
          refine ⟨h.nd, by simp, fun a ha b hb => ?_⟩
          rw [List.mem_singleton.mp hb]
          exact fun e => z.2.2 (e ▸ ha), fun k hk => by
          rcases List.mem_append.mp hk with hk | hk
          · exact h.rng k hk
          · rw [List.mem_singleton.mp hk]; exact ⟨z.1, z.2.1⟩⟩
        obtain ⟨r, e1, e2⟩ := fwG_none g e
        refine ⟨i :: r, by rw [e1]; rfl, ?_⟩
        rw [List.append_assoc] at e2
        exact e2
      | _ => cases c
section
variable {P : Program} {w : World} {K : PySem.W.Frag} {mg : Str → Option Value} {base : Heap} {f : Addr} {fd : FuncData}
theorem inV_ints (m : Int) : ∀ ns : List Int, inV (.int m) (ns.map V.int) = decide (m ∈ ns)
  | [] => by simp [inV]
  | n :: ns => by
    have ih := inV_ints m ns
    unfold inV at ih ⊢
    rw [List.map_cons, List.any_cons, ih]
    show ((n == m) || _) = _
    by_cases c : n = m
    · subst c
      simp
    · have c2 : ¬ m = n := fun e => c e.symm
      simp [c, c2]
theorem rgV_ints (n : Int) : rgV 0 n = ((List.range n.toNat).map fun (k : Nat) => (k : Int)).map V.int := by
  unfold rgV
  rw [List.map_map]
  have e : n - 0 = n := by omega
  rw [e]
  refine List.map_congr_left fun k _ => ?_
  show V.int (0 + (k : Int)) = V.int (k : Int)
  rw [Int.zero_add]
theorem inV_rg (i n : Int) : inV (.int i) (rgV 0 n) = decide (0 ≤ i ∧ i < n) := by
  rw [rgV_ints, inV_ints]
  refine decide_eq_decide.mpr ⟨fun h => ?_, fun h => ?_⟩
  · obtain ⟨k, hk, e⟩ := List.mem_map.mp h
    have := List.mem_range.mp hk
    omega
  · exact List.mem_map.mpr ⟨i.toNat, List.mem_range.mpr (by omega), by omega⟩
theorem flat_rg (n : Int) : (rgV 0 n).all flatV = true := by
  rw [rgV_ints, List.all_map]
  exact List.all_eq_true.mpr fun k _ => rfl
/-- first_unfit(things, row), the things 0 to n - 1 -/
def spFw (K : PySem.W.Frag) : Sp := fun vs H Q _ => ∃ T n a ds, vs = [.ref T, .ref a] ∧ n ≤ 9 ∧ SqT K H T (rgV 0 n) ∧ (∀ H', Same H H' → SqT K H' T (rgV 0 n)) ∧ Sq K H a ds ∧ (fwG n ds [] = none → Ret .non H Q) ∧ (∀ i, fwG n ds [] = some i → Ret (.int (i : Nat)) H Q)
theorem sc_fw : FnScope ["things", "row", "seen", "place", "thing"] ["things", "row"] (defScope s_fw) := ⟨rfl, rfl, rfl, by decide +kernel, rfl, by decide +kernel, by decide +kernel⟩
theorem ok_fw (F : Fun K "first_unfit" "first_unfit" s_fw f fd) (B : Blt2 mg) (I : Df P w K mg base "is_int" 1 ["value"] spInt) : FnOk P w K mg base (L2.CX P w) 3 f fd ["things", "row"] (spFw K) := by
  refine F.okX sc_fw (fun vs H Q E h => ?_) (fun cdv A outer s H vs Q E hr h => ?_)
  · obtain ⟨T, n, a, ds, rfl, _⟩ := h
    rfl
  · obtain ⟨T, n, a, ds, rfl, hn, hT0, hT, hs, q1, q2⟩ := h
    have nd := sc_fw.nd
    have hr1 : Room 1 _ := hr.mono (by decide)
    refine ⟨_, pss_cons (ps_set (i := 2) nd rfl (.inl rfl) (pe_callTy0 cr_set0 (by rfl) B.set (by decide +kernel)))
      (pss_cons (ps_for (passes_of rfl) rfl (pi_or (pi_enum (by rfl) B.enum (pa_cons (pv 1) pa_nil)) (pi_enumT (by rfl) B.enum (pa_cons (pv 1) pa_nil))) (pg_tup rfl (pgs_cons (pg_name (i := 3) nd rfl (.inl rfl)) (pgs_cons (pg_name (i := 4) nd rfl (.inl rfl)) pgs_nil)))
        (pss_cons (ps_if (PW.pt (pw_or (pt_not (pt_val (pe_df I hr1 (by rfl) passUp (pa_cons (pv 4) pa_nil)))) (pw_or (pt_cmpR op_notIn_seq (pv 4) (pv 0) (by rfl)) (pw_or1 (pt_cmpR or_sin (pv 4) (pv 2) (by rfl))))))
            (pss_one (ps_ret (pv 3))) pss_nil)
        (pss_one (ps_expr (pe_sadd (pv 2) (pa_cons (pv 4) pa_nil))))))
      (pss_one (ps_ret pe_non))), ?_⟩
    refine ⟨rfl, fun s0 ns => ?_⟩
    let Pv : Nat → L2.St → Hp → Prop := fun i σ H' => ∃ o3 o4 sn S, σ = [some (.ref T), some (.ref a), some (.ref s0), o3, o4] ∧ Same H H' ∧ fwG n ds [] = fwG n (ds.drop i) sn ∧ sn.length = i ∧ Good n sn ∧ H' s0 = some (SetO w s0 S sn.length) ∧ ∀ k, S k = decide (k ∈ sn)
    have h0 : Pv 0 [some (.ref T), some (.ref a), some (.ref s0), none, none] (upd H s0 (SetO w s0 (fun _ => false) 0)) := ⟨none, none, [], _, rfl, same_upd ns, rfl, rfl, ⟨List.nodup_nil, fun k hk => by cases hk⟩, upd_same, fun k => by simp⟩
    refine tfor_en rfl hs Pv h0 (fun j σ H' p o e => ?_) (fun j v d σ H' T' hj hv p nT => ?_) (fun σ H' p => ?_)
    · obtain ⟨_, _, _, _, _, sm, _⟩ := p
      exact sm _ _ e
    · obtain ⟨o3, o4, sn, S, rfl, sm, ef, el, g, hS, eS⟩ := p
      have s1 : Same H' (upd H' T' (.tup [.int (j : Nat), v])) := same_upd nT
      have few := g.few hn
      have ed : ds.drop j = d :: ds.drop (j + 1) := by
        obtain ⟨hi, e⟩ := List.getElem?_eq_some_iff.mp hj
        rw [← e]
        exact List.drop_eq_getElem_cons hi
      rw [ed, fwG] at ef
      have hv1 := hv.mono (sm.trans s1)
      refine ⟨T', _, rfl, SqT.of upd_same, rfl, _, _, rfl, _, _, rfl, rfl, ?_⟩
      refine ⟨_, rfl, v, d, rfl, hv1, _, rfl, ?_⟩
      have no : ∀ (x : PyData), okAt n sn x = false → ∀ H3 : Hp, Same H' H3 → d = x → Q (.int (j : Nat)) H3 := fun x ex H3 s3 e => q2 j (by rw [ef, e, ex, if_neg (by simp), el]) _ (sm.trans s3)
      cases hv1 with
      | int i =>
        refine iteF ⟨_, rfl, _, rfl, T, _, rfl, .inr (hT _ (sm.trans s1)), rfl, flat_rg n, ?_⟩
        rw [inV_rg]
        by_cases c : 0 ≤ i ∧ i < n
        · rw [decide_eq_true c]
          refine ⟨_, rfl, iteF ⟨_, rfl, _, rfl, i, s0, S, _, rfl, rfl, s1 _ _ hS, _, rfl, ?_⟩⟩
          rw [eS]
          by_cases m : i ∈ sn
          · rw [decide_eq_true m]
            exact iteT ⟨_, rfl, no (.int i) (decide_eq_false fun y => y.2.2 m) _ s1 rfl⟩
          · rw [decide_eq_false m]
            have yes : okAt n sn (.int i) = true := decide_eq_true ⟨c.1, c.2, m⟩
            refine iteF ⟨_, rfl, ⟨s0, S, _, rfl, s1 _ _ hS⟩, _, rfl, s0, i, S, _, rfl, rfl, s1 _ _ hS, (by have : (10 : Nat) < scanBound := (by decide); omega), ?_⟩
            have e0 : S i = false := by rw [eS]; exact decide_eq_false m
            rw [e0, if_neg (by simp)]
            refine ⟨_, _, sn ++ [i], (fun j => S j || decide (j = i)), rfl, fun b o e => ?_, ?_, by rw [List.length_append, el]; rfl, ⟨?_, ?_⟩, ?_, fun k => ?_⟩
            · rw [upd_ne (ne_of_none e ns)]
              exact (sm.trans s1) b o e
            · rw [ef, yes, if_pos rfl]
              rfl
            · rw [List.nodup_append]
              refine ⟨g.nd, by simp, fun a ha b hb => ?_⟩
              rw [List.mem_singleton.mp hb]
              exact fun e => m (e ▸ ha)
            · intro k hk
              rcases List.mem_append.mp hk with hk | hk
              · exact g.rng k hk
              · rw [List.mem_singleton.mp hk]; exact c
            · rw [upd_same, List.length_append]
              rfl
            · show (S k || decide (k = i)) = _
              rw [eS]
              by_cases c1 : k ∈ sn
              · simp [c1]
              · by_cases c2 : k = i
                · simp [c2]
                · simp [c1, c2]
        · rw [decide_eq_false c]
          exact ⟨_, rfl, iteT ⟨_, rfl, no (.int i) (decide_eq_false fun y => c ⟨y.1, y.2.1⟩) _ s1 rfl⟩⟩
      | non => exact iteT ⟨_, rfl, no _ rfl _ s1 rfl⟩
      | bl b => exact iteT ⟨_, rfl, no _ rfl _ s1 rfl⟩
      | str b => exact iteT ⟨_, rfl, no _ rfl _ s1 rfl⟩
      | lst e h => exact iteT ⟨_, rfl, no _ rfl _ s1 rfl⟩
      | tup e h => exact iteT ⟨_, rfl, no _ rfl _ s1 rfl⟩
    · obtain ⟨o3, o4, sn, S, rfl, sm, ef, el, g, hS, eS⟩ := p
      rw [List.drop_length] at ef
      exact q1 ef _ sm
theorem cr_or {X : Cx} {f : Value} {r1 r2 : List V → Hp → VK → Prop} (h1 : CallR X f r1) (h2 : CallR X f r2) : CallR X f fun vs H Q => r1 vs H Q ∨ r2 vs H Q :=
  fun pins s σ H vs us Q I r h => h.elim (h1 pins s σ H vs us Q I r) (h2 pins s σ H vs us Q I r)
/-- tuple(list), the object known -/
theorem cr_tupF {X : Cx} : CallR X (.type "tuple") (fun xs H Q => ∃ p ys, xs = [.ref p] ∧ SqL X.K H p ys ∧ ∀ l o, H l = none → o.dict = none → Q (.ref l) (upd H l (.frz o (.tup ys)))) := by
  intro pins s σ H xs us Q I r h
  obtain ⟨p, ys, rfl, hq, q⟩ := h
  obtain ⟨u, rfl, rx⟩ := vals1 r
  cases rx
  obtain ⟨its, r', pl, hz⟩ := I.list hq
  have hlen := r'.length
  refine call_tuple_list pl.isList (fun h' kp => ?_) (by simp only [List.size_toArray] <;> omega)
  have I1 : Inv X pins σ H { s with heap := h' } := I.kept (t' := s.toks) kp
  have g := Heap.get?_push_size h' (o := { cls := .type "tuple", data := .seq its.toArray }) rfl
  have I2 : Inv X pins σ (upd H h'.objs.size (.frz { cls := .type "tuple", data := .seq its.toArray } (.tup ys))) { s with heap := h'.push { cls := .type "tuple", data := .seq its.toArray } } :=
    I1.laid (t' := s.toks) (fun b o e => Heap.get?_push_of_some _ e) (Nat.le_refl _) (show ObjOk X.prog X.w _ _ _ (.frz _ (.tup ys)) from ⟨g, hz, its, r', IsTup.new _ _⟩)
  exact ⟨.ref h'.objs.size, _, I2, rfl, q _ _ (I1.hok.fresh (Nat.le_refl _)) rfl⟩
/-- a tuple of whole numbers, its object known -/
def TupF (H : Hp) (t : Addr) (ns : List Int) : Prop := ∃ o, H t = some (.frz o (.tup (ns.map V.int))) ∧ o.dict = none
theorem TupF.mono {H H' : Hp} (s : Same H H') {t : Addr} {ns : List Int} : TupF H t ns → TupF H' t ns := fun ⟨o, h, d⟩ => ⟨o, s _ _ h, d⟩
theorem TupF.sq {K : PySem.W.Frag} {H : Hp} {t : Addr} {ns : List Int} : TupF H t ns → SqT K H t (ns.map V.int) := fun ⟨o, h, _⟩ => .inl (.inr ⟨o, h⟩)
/-- check_things on a list or a tuple that is right, or on anything wrong -/
def spCs (K : PySem.W.Frag) (C : Addr) : Sp := fun vs H Q E => ∃ n a ds, vs = [.int n, .ref a] ∧ 0 ≤ n ∧ n ≤ 9 ∧ Sq K H a ds ∧ (fwG n ds [] = none → (∃ xs, (H a = some (.lst xs) ∨ SqT K H a xs ∧ ∀ H', Same H H' → SqT K H' a xs) ∧ DtAll H xs ds) ∧ ∀ H' t (ns : List Int), Same H H' → H t = none → TupF H' t ns → ns.Pairwise (· < ·) → (∀ k, k ∈ ns ↔ PyData.int k ∈ ds) → Q (.ref t) H') ∧
  (∀ i, fwG n ds [] = some i → Rz C [("place", .int (i : Nat))] H E)
theorem sc_cs : FnScope ["many", "things", "place"] ["many", "things"] (defScope s_cs) := ⟨rfl, rfl, rfl, by decide +kernel, rfl, by decide +kernel, by decide +kernel⟩
theorem srt_lt {l : List Int} (h : l.Pairwise (· ≤ ·)) (nd : l.Nodup) : l.Pairwise (· < ·) := by
  refine List.Pairwise.imp₂ (fun a b h1 h2 => ?_) h nd
  omega
theorem ok_cs {C : Addr} (F : Fun K "check_things" "check_things" s_cs f fd) (B : Blt2 mg) (FW : Df P w K mg base "first_unfit" 3 ["things", "row"] (spFw K))
    (T : Er P w K mg base "BadPart" C ["place"] ["self", "place"] (spE1 C "place")) : FnOk P w K mg base (L2.CX P w) 4 f fd ["many", "things"] (spCs K C) := by
  refine F.okX sc_cs (fun vs H Q E h => ?_) (fun cdv A outer s H vs Q E hr h => ?_)
  · obtain ⟨n, a, ds, rfl, _⟩ := h
    rfl
  · obtain ⟨n, a, ds, rfl, hn0, hn, hs, q1, q2⟩ := h
    have nd := sc_cs.nd
    have hr2 : Room 2 _ := hr.mono (by decide)
    refine ⟨_, pss_cons (ps_set (i := 2) nd rfl (.inl rfl) (pe_df FW hr (by rfl) passUp (pa_cons (pe_tupRg rfl (by rfl) B.tuple (prg_1 (by rfl) B.range (pv 0))) (pa_cons (pv 1) pa_nil))))
      (pss_cons (ps_if (pt_cmpR op_notN (pv 2) pe_non (nomark _)) (pss_one (ps_rz1 rfl (takes_of rfl rfl rfl rfl) T hr2 (by rfl) (pv 2) (mono_var 2))) pss_nil)
      (pss_one (ps_ret (pe_callTy cr_tupF (by rfl) B.tuple (by decide +kernel) (pa_cons (pe_callB (cr_or cr_sorted cr_sorted_itup) (by rfl) B.sorted (by decide +kernel) (pa_cons (pv 1) pa_nil)) pa_nil))))), ?_⟩
    refine ⟨_, rfl, _, rfl, RgOk.of_le (by decide) (by omega) (by decide) hn0, fun p0 np0 => ?_⟩
    have s0 : Same H (upd H p0 (.tup (rgV 0 n))) := same_upd np0
    refine ⟨_, rfl, p0, n, a, ds, rfl, hn, SqT.of upd_same, fun H' s' => SqT.of (s' _ _ upd_same), hs.mono s0, fun e H1 s01 => ?_, fun i e H1 s01 => ?_⟩
    · have s1 := s0.trans s01
      refine ⟨_, rfl, rfl, _, rfl, iteF ?_⟩
      obtain ⟨⟨xs, hx, hd⟩, q⟩ := q1 e
      obtain ⟨r, er, g⟩ := fwG_none (sn := []) ⟨List.nodup_nil, fun k hk => by cases hk⟩ e
      rw [List.nil_append] at g
      have few := g.few hn
      have hxs : xs = r.map V.int := by
        rw [er] at hd
        clear er few g q q1 q2 hx e
        induction r generalizing xs with
        | nil => cases hd; rfl
        | cons k r ih =>
          cases hd with
          | cons h1 h2 =>
            cases h1
            rw [ih _ h2]
            rfl
      have last : ∀ (ns : List Int) (p : Addr), ns.Perm r → ns.Pairwise (· ≤ ·) → H1 p = none → ∃ p' ys, ([V.ref p] : List V) = [.ref p'] ∧ SqL K (upd H1 p (.lst (ns.map V.int))) p' ys ∧ ∀ l o, (upd H1 p (.lst (ns.map V.int))) l = none → o.dict = none → Q (.ref l) (upd (upd H1 p (.lst (ns.map V.int))) l (.frz o (.tup ys))) := fun ns p pm srt np => by
        refine ⟨p, _, rfl, SqL.of upd_same, fun t o nt od => ?_⟩
        have s2 : Same H1 (upd H1 p (.lst (ns.map V.int))) := same_upd np
        refine q _ t ns (s1.trans (s2.trans (same_upd nt))) ((s1.trans s2).free nt) ⟨o, upd_same, od⟩ (srt_lt srt (pm.nodup_iff.mpr g.nd)) fun k => ?_
        rw [pm.mem_iff, er]
        simp
      rcases hx with hx | hx
      · refine ⟨_, rfl, .inl ⟨a, r, rfl, SqL.of (by rw [← hxs]; exact s1 _ _ hx), by omega, fun ns p pm srt np => ?_⟩⟩
        exact last ns p pm srt np
      · refine ⟨_, rfl, .inr ⟨a, r, rfl, (by rw [← hxs]; exact hx.2 _ s1), by omega, fun ns p pm srt np => ?_⟩⟩
        exact last ns p pm srt np
    · exact ⟨_, rfl, rfl, _, rfl, iteT ⟨_, rfl, fun dd nd' => (q2 i e).at (s0.trans s01) nd'⟩⟩
end
end K0
set_option Elab.async false
set_option linter.all false
set_option maxRecDepth 100000
set_option maxHeartbeats 4000000
set_option Elab.async false
set_option linter.all false
set_option maxRecDepth 100000
set_option maxHeartbeats 4000000
namespace K0
open PySem PySem.Spec PyProof.Rows L2
section
variable {P : Program} {w : World} {K : PySem.W.Frag} {mg : Str → Option Value} {base : Heap} {f : Addr} {fd : FuncData}
abbrev s_co : Stmt := top 43
end
end K0
set_option Elab.async false
set_option linter.all false
set_option maxRecDepth 100000
set_option maxHeartbeats 4000000
namespace K0
open PySem PySem.Spec PyProof.Rows L2
section
variable {P : Program} {w : World} {K : PySem.W.Frag} {mg : Str → Option Value} {base : Heap} {f : Addr} {fd : FuncData}
/-- _law_contrary -/
def spCo : Sp := fun vs H Q _ => ∃ (b : Addr) (n : Int) (q : List Pr), vs = [.int n, .ref b] ∧ 0 ≤ n ∧ n ≤ 16 ∧ Ls H b q ∧ ∀ H' a rs, Same H H' → H a = none → Grow H' a rs → Lx n (fun z => z ∉ q) n (n + 1) rs → Q (.ref a) H'
theorem sc_co : FnScope ["_law_many", "_law_pairs", "_law_rest", "_law_x", "_law_y"] ["_law_many", "_law_pairs"] (defScope s_co) := ⟨rfl, rfl, rfl, by decide +kernel, rfl, by decide +kernel, by decide +kernel⟩
theorem ok_co (F : Fun K "_law_contrary" "_law_contrary" s_co f fd) (B : Blt2 mg) : FnOk P w K mg base (L2.CX P w) 1 f fd ["_law_many", "_law_pairs"] spCo := by
  refine F.okX sc_co (fun vs H Q E h => ?_) (fun cdv A outer s H vs Q E hr h => ?_)
  · obtain ⟨b, n, q, rfl, _⟩ := h
    rfl
  · obtain ⟨b, n, q, rfl, n0, n8, hl, k⟩ := h
    have nd := sc_co.nd
    have hu : (A.deeper (envOfC "_law_contrary" (defScope s_co) s.heap.objs.size f cdv)).units + 65 < cLine := by have := hr.un; omega
    refine ⟨_, pss_cons (ps_set (i := 2) nd rfl (.inl rfl) (pe_lst pa_nil))
      (pss_cons (ps_for (passes_of rfl) rfl (pi_range1 (by rfl) B.range (pa_cons (pv 0) pa_nil)) (pg_name (i := 3) nd rfl (.inl rfl))
        (pss_one (ps_for (passes_of rfl) rfl (pi_range2 (by rfl) B.range (pa_cons (pe_op op_add (pv 3) pe_int) (pa_cons (pv 0) pa_nil))) (pg_name (i := 4) nd rfl (.inl rfl))
          (pss_one (ps_if (pt_cmpR (op_notInD hu) (pe_tup (pa_cons (pv 3) (pa_cons (pv 4) pa_nil))) (pv 1) (by rfl)) (pss_one (ps_expr (pe_lapp (pv 2) (pa_cons (pe_tup (pa_cons (pv 3) (pa_cons (pv 4) pa_nil))) pa_nil)))) pss_nil)))))
      (pss_one (ps_ret (pv 2)))), ?_⟩
    refine ⟨by show 0 ≤ sizeLine; exact Nat.zero_le _, fun D nD => ?_⟩
    let P1 : Nat → L2.St → Hp → Prop := fun i σ H' => ∃ o3 o4 rs, σ = [some (.int n), some (.ref b), some (.ref D), o3, o4] ∧ Same H H' ∧ Grow H' D rs ∧ Lx n (fun z => z ∉ q) i (i + 1) rs
    refine ⟨_, rfl, n, rfl, by omega, by omega, for_range (n := n.toNat) P1 ⟨none, none, [], rfl, same_upd nD, ⟨[], upd_same, rfl, fun z hz => by cases hz⟩, by simpa using Lx.start⟩ (fun i σ H' hi h => ?_) (fun σ H' h => ?_)⟩
    · obtain ⟨o3, o4, rs, rfl, sm, g, lx⟩ := h
      rw [Int.zero_add]
      let P2 : Nat → L2.St → Hp → Prop := fun t σ H' => ∃ o4 rs, σ = [some (.int n), some (.ref b), some (.ref D), some (.int (i : Int)), o4] ∧ Same H H' ∧ Grow H' D rs ∧ Lx n (fun z => z ∉ q) i ((i : Int) + 1 + t) rs
      refine ⟨_, rfl, _, _, rfl, rfl, _, rfl, _, _, rfl, ⟨by omega, by omega, by omega, by omega⟩, for_range (n := (n - ((i : Int) + 1)).toNat) P2 ⟨o4, rs, rfl, sm, g, by simpa using lx⟩ (fun t σ H2 ht h => ?_) (fun σ H2 h => ?_)⟩
      · obtain ⟨o4, rs, rfl, sm, g, lx⟩ := h
        refine ⟨_, rfl, _, rfl, (by show 2 ≤ sizeLine; decide), fun u nu => ?_⟩
        have s2 : Same H2 (upd H2 u (.tup [.int (i : Int), .int ((i : Int) + 1 + t)])) := same_upd nu
        refine ⟨_, rfl, prD ((i : Int), (i : Int) + 1 + t), _, (dt_pr (p := ((i : Int), (i : Int) + 1 + t)) upd_same).dp, (hl.mono (sm.trans s2)).dp, prD_shaped _, prsL_shaped _, _, rfl, ?_⟩
        rw [prs_any]
        have g2 := g.mono s2
        have r : 0 ≤ (i : Int) ∧ (i : Int) < (i : Int) + 1 + t ∧ (i : Int) + 1 + t < n := by omega
        by_cases m : (((i : Int), (i : Int) + 1 + t) : Pr) ∈ q
        · rw [decide_eq_true m]
          refine iteF ⟨_, rs, rfl, sm.trans s2, g2, ?_⟩
          have := lx.skip (by exact fun z => z m)
          rw [Int.add_assoc] at this
          exact_mod_cast this
        · rw [decide_eq_false m]
          obtain ⟨xs, hx, lxs, _⟩ := g2.at
          have few := lx.cl.few (by omega)
          refine iteT ⟨_, rfl, .inl ⟨rfl, xs, SqL.of hx⟩, _, rfl, _, rfl, (by show 2 ≤ sizeLine; decide), fun v nv => ?_⟩
          have s3 : Same (upd H2 u (.tup [.int (i : Int), .int ((i : Int) + 1 + t)])) (upd (upd H2 u (.tup [.int (i : Int), .int ((i : Int) + 1 + t)])) v (.tup [.int (i : Int), .int ((i : Int) + 1 + t)])) := same_upd nv
          refine ⟨D, xs, _, rfl, rfl, s3 _ _ hx, by rw [sizeLine_eq]; omega, ?_⟩
          refine ⟨_, rs ++ [((i : Int), (i : Int) + 1 + t)], rfl, same_keep nD ((sm.trans s2).trans s3), g2.push nv hx, ?_⟩
          have := lx.add m r
          rw [Int.add_assoc] at this
          exact_mod_cast this
      · obtain ⟨o4, rs, rfl, sm, g, lx⟩ := h
        rw [show (i : Int) + 1 + ((n - ((i : Int) + 1)).toNat : Int) = n by omega] at lx
        refine ⟨_, _, rs, rfl, sm, g, ?_⟩
        have := lx.row
        rw [show (i : Int) + 2 = (i : Int) + 1 + 1 by omega] at this
        exact_mod_cast this
    · obtain ⟨o3, o4, rs, rfl, sm, g, lx⟩ := h
      rw [show ((n.toNat : Nat) : Int) = n by omega] at lx
      exact ⟨_, rfl, k H' D rs sm nD g lx⟩
end
end K0
set_option Elab.async false
set_option linter.all false
set_option maxRecDepth 100000
set_option maxHeartbeats 4000000
set_option Elab.async false
set_option linter.all false
set_option maxRecDepth 100000
set_option maxHeartbeats 4000000
namespace K0
open PySem PySem.Spec PyProof.Rows L2
/-! ### rows of things -/
abbrev IL (H : Hp) (a : Addr) (r : List Int) : Prop := H a = some (.lst (r.map V.int))
theorem perm_pick (r : List Int) {w : Nat} (hw : w < r.length) : (r.getD w 0 :: ((List.range r.length).filter fun k => !decide (k = w)).map fun k => r.getD k 0).Perm r := by
  have h1 : (w :: (List.range r.length).filter fun k => !decide (k = w)).Perm (List.range r.length) := by
    refine (List.perm_ext_iff_of_nodup ?_ List.nodup_range).mpr fun x => ?_
    · refine List.nodup_cons.mpr ⟨fun h => ?_, List.nodup_range.filter _⟩
      have := (List.mem_filter.mp h).2
      simp at this
    · simp only [List.mem_cons, List.mem_filter, List.mem_range, Bool.not_eq_true', decide_eq_false_iff_not]
      constructor
      · rintro (rfl | ⟨h, _⟩)
        · exact hw
        · exact h
      · intro h
        by_cases e : x = w
        · exact .inl e
        · exact .inr ⟨h, e⟩
  have h2 := h1.map fun k => r.getD k 0
  have e : (List.range r.length).map (fun k => r.getD k 0) = r := by
    refine List.ext_getElem (by rw [List.length_map, List.length_range]) fun i h1 h2 => ?_
    rw [List.getElem_map, List.getElem_range, List.getD_eq_getElem?_getD, List.getElem?_eq_getElem h2]
    rfl
  rw [e] at h2
  exact h2
theorem perm_put {α : Type} (l : List α) (x : α) (p : Nat) : (l.take p ++ [x] ++ l.drop p).Perm (x :: l) := by
  have h : (l.take p ++ [x] ++ l.drop p).Perm (x :: (l.take p ++ l.drop p)) := by
    rw [List.append_assoc]
    exact List.perm_middle
  rwa [List.take_append_drop] at h
section
variable {P : Program} {w : World} {K : PySem.W.Frag} {mg : Str → Option Value} {base : Heap} {f : Addr} {fd : FuncData}
abbrev s_mv : Stmt := top 45
abbrev s_rr' : Stmt := top 48
/-- _law_moved -/
def spMv : Sp := fun vs H Q _ => ∃ (a : Addr) (r : List Int) (w p : Nat), vs = [.ref a, .int (w : Int), .int (p : Int)] ∧ IL H a r ∧ w < r.length ∧ p < r.length ∧ r.length ≤ 1000 ∧ ∀ H' b r', Same H H' → H b = none → IL H' b r' → r'.Perm r → Q (.ref b) H'
theorem sc_mv : FnScope ["_law_row_here", "_law_which", "_law_place", "_law_rest", "_law_k"] ["_law_row_here", "_law_which", "_law_place"] (defScope s_mv) := ⟨rfl, rfl, rfl, by decide +kernel, rfl, by decide +kernel, by decide +kernel⟩
theorem ok_mv (F : Fun K "_law_moved" "_law_moved" s_mv f fd) (B : Blt2 mg) : FnOk P w K mg base (L2.CX P w) 1 f fd ["_law_row_here", "_law_which", "_law_place"] spMv := by
  refine F.okX sc_mv (fun vs H Q E h => ?_) (fun cdv A outer s H vs Q E hr h => ?_)
  · obtain ⟨a, r, w, p, rfl, _⟩ := h
    rfl
  · obtain ⟨a, r, wh, p, rfl, ha, hw, hp, l1000, k⟩ := h
    have nd := sc_mv.nd
    refine ⟨_, pss_cons (ps_setLc (i := 3) (own := [("_law_k", 4)]) (g := gName 4) (tt := tTest (tOp rNe (tVar 4) (tVar 1))) (te := tOp (rIxL K) (tVar 0) (tVar 4)) rfl nd rfl (by rfl) (by rfl)
        (pi_range1 (by rfl) B.range (pa_cons (pe_callB c_len (by rfl) B.len PySem.boot_len (pa_cons (pv 0) pa_nil)) pa_nil)) (blkOk_by (N := ["_law_row_here", "_law_which", "_law_place", "_law_rest", "_law_k"]) (sc := defScope s_mv) (by decide +kernel)) (fun _ _ _ _ _ => pg_name (i := 4) nd rfl (.inl rfl))
        (fun _ _ _ _ _ => pts_one (pt_cmpR op_ne (pv 4) (pv 1) (by rfl))) (fun _ _ _ _ _ => pe_ix ix_list (pv 0) (pv 4) (fun _ _ => rfl)))
      (pss_one (ps_ret (pe_op op_cat (pe_op op_cat (pe_slice sl_list (pv 3) po_none (po_some (pv 2))) (pe_lst (pa_cons (pe_ix ix_list (pv 0) (pv 1) (fun _ _ => rfl)) pa_nil))) (pe_slice sl_list (pv 3) (po_some (pv 2)) po_none)))), ?_⟩
    have at_ : ∀ {i : Nat}, i < r.length → atI (r.map V.int) (i : Int) = some (.int (r.getD i 0)) := fun {i} hi => atI_nat (by rw [List.getElem?_map, List.getD_eq_getElem?_getD, List.getElem?_eq_getElem hi]; rfl)
    let W : Nat → List Int := fun i => (((List.range r.length).take i).filter fun k => !decide (k = wh)).map fun k => r.getD k 0
    refine ⟨_, rfl, a, _, rfl, .inl (SqL.of ha), _, rfl, by rw [List.length_map]; omega, by rw [List.length_map]; omega, fun D nD => ?_⟩
    rw [List.length_map, Int.toNat_natCast]
    refine lc_range (lo := 0) (n := r.length) (fun i H' => Same H H' ∧ IL H' D (W i)) ⟨same_upd nD, upd_same⟩ (fun i H' hi z => ?_) (fun H' z => ?_)
    · obtain ⟨sm, hD⟩ := z
      rw [Int.zero_add]
      have eW : W (i + 1) = W i ++ (if i = wh then [] else [r.getD i 0]) := by
        show List.map _ _ = _
        rw [filter_take _ _ hi, List.map_append]
        congr 1
        by_cases e : i = wh <;> simp [e]
      have lW : (W i).length ≤ r.length := by
        show (List.map _ _).length ≤ _
        rw [List.length_map]
        refine Nat.le_trans (List.length_filter_le _ _) ?_
        rw [List.length_take, List.length_range]
        exact Nat.min_le_right _ _
      refine ⟨rfl, _, rfl, _, rfl, rfl, _, rfl, ?_⟩
      rw [dec_int]
      by_cases e : i = wh
      · rw [show (!(((i : Nat) : Int) == ((wh : Nat) : Int))) = false by simp [e]]
        refine iteF ⟨sm, ?_⟩
        rw [eW, if_pos e, List.append_nil]
        exact hD
      · rw [show (!(((i : Nat) : Int) == ((wh : Nat) : Int))) = true by simp; omega]
        refine iteT ⟨_, rfl, _, rfl, a, _, _, _, rfl, rfl, SqL.of (sm _ _ ha), at_ hi, _, hD, by rw [List.length_map, sizeLine_eq]; omega, same_keep nD sm, ?_⟩
        show (upd _ _ _) _ = _
        rw [upd_same, eW, if_neg e, List.map_append]
        rfl
    · obtain ⟨sm, hD⟩ := z
      let R := W r.length
      have eR : R = ((List.range r.length).filter fun k => !decide (k = wh)).map fun k => r.getD k 0 := by
        show List.map _ _ = _
        rw [List.take_of_length_le (by rw [List.length_range]; exact Nat.le_refl _)]
      have pk := perm_pick r hw
      rw [← eR] at pk
      have lR : R.length + 1 = r.length := by
        have := pk.length_eq
        rw [List.length_cons] at this
        exact this
      have hD : H' D = some (.lst (R.map V.int)) := hD
      refine ⟨_, rfl, _, rfl, _, rfl, D, _, rfl, SqL.of hD, fun c1 n1 => ?_⟩
      have s1 := same_upd (o := .lst (cutV (R.map V.int) none (some (p : Int)))) n1
      rw [cut_take] at s1 ⊢
      refine ⟨_, rfl, _, rfl, a, _, _, _, rfl, rfl, SqL.of ((sm.trans s1) _ _ ha), at_ hw, by show 1 ≤ sizeLine; decide, fun c2 n2 => ?_⟩
      have s2 := same_upd (o := .lst [.int (r.getD wh 0)]) n2
      refine ⟨c1, c2, _, _, rfl, rfl, s2 _ _ upd_same, upd_same, ?_, fun c3 n3 => ?_⟩
      · rw [List.length_take, List.length_map, sizeLine_eq]
        show _ + 1 ≤ _
        omega
      have s3 := same_upd (o := .lst ((R.map V.int).take p ++ [.int (r.getD wh 0)])) n3
      refine ⟨_, rfl, _, rfl, _, rfl, D, _, rfl, SqL.of ((s1.trans (s2.trans s3)) _ _ hD), fun c4 n4 => ?_⟩
      have s4 := same_upd (o := .lst (cutV (R.map V.int) (some (p : Int)) none)) n4
      rw [cut_drop _ _ (by rw [List.length_map]; omega)] at s4 ⊢
      refine ⟨c3, c4, _, _, rfl, rfl, s4 _ _ upd_same, upd_same, ?_, fun c5 n5 => ?_⟩
      · rw [List.length_append, List.length_take, List.length_drop, List.length_map, sizeLine_eq]
        show _ + 1 + _ ≤ _
        omega
      · refine k _ c5 (R.take p ++ [r.getD wh 0] ++ R.drop p) ((sm.trans (s1.trans (s2.trans (s3.trans s4)))).trans (same_upd n5)) ((sm.trans (s1.trans (s2.trans (s3.trans s4)))).free n5) ?_ ((perm_put R _ p).trans pk)
        show (upd _ _ _) _ = _
        rw [upd_same, List.map_append, List.map_append, List.map_take, List.map_drop]
        rfl
end
end K0
set_option Elab.async false
set_option linter.all false
set_option maxRecDepth 100000
set_option maxHeartbeats 4000000
namespace K0
open PySem PySem.Spec PyProof.Rows L2
def ran (n : Nat) : List Int := (List.range n).map fun (k : Nat) => (k : Int)
theorem ran_len (n : Nat) : (ran n).length = n := by unfold ran; rw [List.length_map, List.length_range]
theorem lnP_cl {n : Int} {k : Nat} (h : (k : Int) < n) : Cl n (lnP k) := by
  refine ⟨List.pairwise_map.mpr (List.Pairwise.imp (fun {a b} h => ?_) List.pairwise_lt_range), fun p hp => ?_⟩
  · exact .inl (by omega)
  · obtain ⟨x, hx, rfl⟩ := List.mem_map.mp hp
    have := List.mem_range.mp hx
    dsimp only
    omega
section
variable {P : Program} {w : World} {K : PySem.W.Frag} {mg : Str → Option Value} {base : Heap} {f : Addr} {fd : FuncData}
/-- _law_ring, of any size -/
def spRg : Sp := fun vs H Q _ => ∃ (n : Int), vs = [.int n] ∧ 3 ≤ n ∧ n ≤ 16 ∧ ∀ H' D rs, Same H H' → H D = none → Ls H' D rs → Cl n rs → (∀ z, z ∈ rs ↔ z ∈ lnP (n - 1).toNat ++ [((0 : Int), n - 1)]) → Q (.ref D) H'
theorem ok_rgN (F : Fun K "_law_ring" "_law_ring" s_rg f fd) (B : Blt2 mg) : FnOk P w K mg base (L2.CX P w) 1 f fd ["_law_many"] spRg := by
  refine F.okX sc_rg (fun vs H Q E h => ?_) (fun cdv A outer s H vs Q E hr h => ?_)
  · obtain ⟨n, rfl, _⟩ := h
    rfl
  · obtain ⟨n, rfl, n3, n16, k⟩ := h
    have nd := sc_rg.nd
    refine ⟨_, pss_cons (ps_setLc (i := 1) (own := [("_law_x", 2)]) (g := gName 2) (tt := tYes) (te := tTup (tCons (tVar 2) (tCons (tOp (rI0 fun i j => .int (i + j)) (tVar 2) (tC (.int 1))) tNil))) rfl nd rfl (by rfl) (by rfl)
      (pi_range1 (by rfl) B.range (pa_cons (pe_op op_sub (pv 0) pe_int) pa_nil)) (blkOk_by (N := ["_law_many", "_law_pairs", "_law_x"]) (sc := defScope s_rg) (by decide +kernel)) (fun _ _ _ _ _ => pg_name (i := 2) nd rfl (.inl rfl)) (fun _ _ _ _ _ => pts_nil)
      (fun _ _ _ _ _ => pe_tup (pa_cons (pv 2) (pa_cons (pe_op op_add (pv 2) pe_int) pa_nil))))
      (pss_cons (ps_expr (pe_lapp (pv 1) (pa_cons (pe_tup (pa_cons pe_int (pa_cons (pe_op op_sub (pv 0) pe_int) pa_nil))) pa_nil)))
      (pss_one (ps_ret (pe_callB cr_srtP (by rfl) B.sorted (by decide +kernel) (pa_cons (pv 1) pa_nil))))), ?_⟩
    refine ⟨_, rfl, _, _, rfl, rfl, n - 1, rfl, by omega, by omega, fun D nD => ?_⟩
    refine lc_range (lo := 0) (n := (n - 1).toNat) (fun i H' => Same H H' ∧ Grow H' D (lnP i)) ⟨same_upd nD, [], upd_same, rfl, fun z hz => by cases hz⟩ (fun i H' hi ⟨sm, g⟩ => ?_) (fun H' ⟨sm, g⟩ => ?_)
    · refine ⟨rfl, ?_⟩
      rw [Int.zero_add]
      exact ⟨_, rfl, _, rfl, _, _, rfl, rfl, (by show 2 ≤ sizeLine; decide), fun u nu => line_step nD sm g (by omega) nu⟩
    · obtain ⟨as, hA, lA, _⟩ := g.at
      refine ⟨_, rfl, .inl ⟨rfl, as, SqL.of hA⟩, _, rfl, _, _, rfl, rfl, (by show 2 ≤ sizeLine; decide), fun u nu => ?_⟩
      have s8 : Same H' (upd H' u (.tup [.int 0, .int (n - 1)])) := same_upd nu
      refine ⟨D, as, _, rfl, rfl, s8 _ _ hA, (by rw [lA, lnP_len, sizeLine_eq]; omega), ?_⟩
      have g2 := g.push (x := 0) (y := n - 1) nu hA
      have s9 : Same H (upd (upd H' u (.tup [.int 0, .int (n - 1)])) D (.lst (as ++ [.ref u]))) := same_keep nD (sm.trans s8)
      have cl0 : Cl n (lnP (n - 1).toNat) := lnP_cl (by omega)
      have no : ((0 : Int), n - 1) ∉ lnP (n - 1).toNat := fun h => by
        obtain ⟨x, _, e⟩ := List.mem_map.mp h
        obtain ⟨e1, e2⟩ := Prod.ext_iff.mp e
        dsimp only at e1 e2
        omega
      have ndp : (lnP (n - 1).toNat ++ [((0 : Int), n - 1)]).Nodup := List.nodup_append.mpr ⟨pairwise_nodup cl0.srt, by simp, fun a ha b hb e => by
        rw [List.mem_singleton.mp hb] at e
        rw [e] at ha
        exact no ha⟩
      refine ⟨_, rfl, D, _, rfl, g2.ls, ndp, fun H2 p rs s2 np hl pw hm _ => ?_⟩
      refine k H2 p rs (s9.trans s2) (s9.free np) hl ⟨pw, fun z hz => ?_⟩ hm
      rcases List.mem_append.mp ((hm z).mp hz) with h | h
      · exact cl0.rng z h
      · rw [List.mem_singleton.mp h]
        dsimp only
        omega
/-- _law_ring_row -/
def spRrw : Sp := fun vs H Q _ => ∃ (n : Int), vs = [.int n] ∧ 4 ≤ n ∧ n ≤ 8 ∧ ∀ H' D r, Same H H' → H D = none → IL H' D r → r.Perm (ran n.toNat) → Q (.ref D) H'
theorem sc_rr' : FnScope ["_law_many", "_law_x"] ["_law_many"] (defScope s_rr') := ⟨rfl, rfl, rfl, by decide +kernel, rfl, by decide +kernel, by decide +kernel⟩
def stepL (lo : Int) (m : Nat) : List Int := (List.range m).map fun (k : Nat) => lo + (k : Int) * 2
theorem stepL_succ (lo : Int) (m : Nat) : stepL lo (m + 1) = stepL lo m ++ [lo + (m : Int) * 2] := by
  unfold stepL
  rw [List.range_succ, List.map_append]
  rfl
theorem stepL_len (lo : Int) (m : Nat) : (stepL lo m).length = m := by unfold stepL; rw [List.length_map, List.length_range]
theorem ok_rrw (F : Fun K "_law_ring_row" "_law_ring_row" s_rr' f fd) (B : Blt2 mg) : FnOk P w K mg base (L2.CX P w) 1 f fd ["_law_many"] spRrw := by
  refine F.okX sc_rr' (fun vs H Q E h => ?_) (fun cdv A outer s H vs Q E hr h => ?_)
  · obtain ⟨n, rfl, _⟩ := h
    rfl
  · obtain ⟨n, rfl, n4, n7, k⟩ := h
    have nd := sc_rr'.nd
    refine ⟨_, pss_one (ps_ret (pe_op op_cat
      (pe_lc (own := [("_law_x", 1)]) (g := gName 1) (tt := tYes) (te := tVar 1) rfl nd (pi_range3 (by rfl) B.range (pa_cons pe_int (pa_cons (pv 0) (pa_cons pe_int pa_nil)))) (blkOk_by (N := ["_law_many", "_law_x"]) (sc := defScope s_rr') (by decide +kernel)) (fun _ _ _ _ _ => pg_name (i := 1) nd rfl (.inl rfl)) (fun _ _ _ _ _ => pts_nil) (fun _ _ _ _ _ => pv 1))
      (pe_lc (own := [("_law_x", 1)]) (g := gName 1) (tt := tYes) (te := tVar 1) rfl nd (pi_range3 (by rfl) B.range (pa_cons pe_int (pa_cons (pv 0) (pa_cons pe_int pa_nil)))) (blkOk_by (N := ["_law_many", "_law_x"]) (sc := defScope s_rr') (by decide +kernel)) (fun _ _ _ _ _ => pg_name (i := 1) nd rfl (.inl rfl)) (fun _ _ _ _ _ => pts_nil) (fun _ _ _ _ _ => pv 1)))), ?_⟩
    obtain ⟨m1, m2, r1, r2, pm, s1, s2⟩ : ∃ m1 m2 : Nat, RgC 0 n 2 m1 ∧ RgC 1 n 2 m2 ∧ (stepL 0 m1 ++ stepL 1 m2).Perm (ran n.toNat) ∧ m1 ≤ 10 ∧ m2 ≤ 10 := by
      obtain rfl | rfl | rfl | rfl | rfl : n = 4 ∨ n = 5 ∨ n = 6 ∨ n = 7 ∨ n = 8 := by omega
      · exact ⟨2, 2, ⟨by decide, by decide, by decide +kernel, by decide +kernel⟩, ⟨by decide, by decide, by decide +kernel, by decide +kernel⟩, by decide +kernel, by decide, by decide⟩
      · exact ⟨3, 2, ⟨by decide, by decide, by decide +kernel, by decide +kernel⟩, ⟨by decide, by decide, by decide +kernel, by decide +kernel⟩, by decide +kernel, by decide, by decide⟩
      · exact ⟨3, 3, ⟨by decide, by decide, by decide +kernel, by decide +kernel⟩, ⟨by decide, by decide, by decide +kernel, by decide +kernel⟩, by decide +kernel, by decide, by decide⟩
      · exact ⟨4, 3, ⟨by decide, by decide, by decide +kernel, by decide +kernel⟩, ⟨by decide, by decide, by decide +kernel, by decide +kernel⟩, by decide +kernel, by decide, by decide⟩
      · exact ⟨4, 4, ⟨by decide, by decide, by decide +kernel, by decide +kernel⟩, ⟨by decide, by decide, by decide +kernel, by decide +kernel⟩, by decide +kernel, by decide, by decide⟩
    refine ⟨_, rfl, 0, n, 2, m1, rfl, r1, fun D nD => ?_⟩
    refine lc_it walk_rangeC (fun i H' => Same H H' ∧ IL H' D (stepL 0 i)) ⟨same_upd nD, upd_same⟩ (fun i H' _ z => trivial) (fun i x H' H2 hi z y => ?_) (fun H' z => ?_)
    · obtain ⟨sm, hD⟩ := z
      obtain ⟨rfl, rfl⟩ := y
      refine ⟨rfl, _, rfl, _, hD, by rw [List.length_map, stepL_len, sizeLine_eq]; omega, same_keep nD sm, ?_⟩
      show (upd _ _ _) _ = _
      rw [upd_same, stepL_succ, List.map_append]
      rfl
    · obtain ⟨sm, hD⟩ := z
      refine ⟨_, rfl, 1, n, 2, m2, rfl, r2, fun G nG => ?_⟩
      refine lc_it walk_rangeC (fun i H2 => Same H' H2 ∧ IL H2 G (stepL 1 i)) ⟨same_upd nG, upd_same⟩ (fun i H' _ z => trivial) (fun i x H2 H3 hi z y => ?_) (fun H2 z => ?_)
      · obtain ⟨sm2, hG⟩ := z
        obtain ⟨rfl, rfl⟩ := y
        refine ⟨rfl, _, rfl, _, hG, by rw [List.length_map, stepL_len, sizeLine_eq]; omega, same_keep nG sm2, ?_⟩
        show (upd _ _ _) _ = _
        rw [upd_same, stepL_succ, List.map_append]
        rfl
      · obtain ⟨sm2, hG⟩ := z
        refine ⟨D, G, _, _, rfl, rfl, sm2 _ _ hD, hG, by rw [List.length_map, List.length_map, stepL_len, stepL_len, sizeLine_eq]; omega, fun A nA => ?_⟩
        refine k _ A (stepL 0 m1 ++ stepL 1 m2) ((sm.trans sm2).trans (same_upd nA)) ((sm.trans sm2).free nA) ?_ pm
        show (upd _ _ _) _ = _
        rw [upd_same, List.map_append]
end
end K0
set_option Elab.async false
set_option linter.all false
set_option maxRecDepth 100000
set_option maxHeartbeats 4000000
namespace K0
open PySem PySem.Spec PyProof.Rows L2
theorem ran_succ (n : Nat) : ran (n + 1) = ran n ++ [(n : Int)] := by
  unfold ran
  rw [List.range_succ, List.map_append]
  rfl
theorem ran_add (n m : Nat) : ran (n + m) = ran n ++ (ran m).map fun x => (n : Int) + x := by
  unfold ran
  rw [List.range_add, List.map_append, List.map_map, List.map_map]
  congr 1
theorem ints_val {l : List Int} {j : Nat} {v : V} (h : (l.map V.int)[j]? = some v) : ∃ x, l[j]? = some x ∧ v = .int x := by
  rw [List.getElem?_map] at h
  cases e : l[j]? with
  | none => rw [e] at h; cases h
  | some x => rw [e] at h; exact ⟨x, rfl, (Option.some.inj h).symm⟩
theorem take_room {α : Type} (l : List α) (i : Nat) : (l.take i).length ≤ l.length := by rw [List.length_take]; exact Nat.min_le_right _ _
/-- a case: a number, pairs, a row -/
def CsAt (H : Hp) (v : V) (n : Int) (q : List Pr) (r : List Int) : Prop := ∃ a b c, v = .ref a ∧ H a = some (.lst [.int n, .ref b, .ref c]) ∧ Ls H b q ∧ IL H c r
theorem CsAt.mono {H H' : Hp} (s : Same H H') {v : V} {n : Int} {q : List Pr} {r : List Int} : CsAt H v n q r → CsAt H' v n q r := fun ⟨a, b, c, e, h, l, i⟩ => ⟨a, b, c, e, s _ _ h, l.mono s, s _ _ i⟩
/-- .. of new things -/
def CsNew (H H' : Hp) (v : V) (n : Int) (q : List Pr) (r : List Int) : Prop := ∃ a b c, v = .ref a ∧ H a = none ∧ H b = none ∧ H c = none ∧ H' a = some (.lst [.int n, .ref b, .ref c]) ∧ Ls H' b q ∧ IL H' c r
structure Csk (n : Int) (q : List Pr) (r : List Int) : Prop where
  c : Cl n q
  n1 : 1 ≤ n
  p : r.Perm (ran n.toNat)
theorem Csk.len {n : Int} {q : List Pr} {r : List Int} (h : Csk n q r) : r.length = n.toNat := by rw [h.p.length_eq, ran_len]
theorem dta_prs {H : Hp} : ∀ {ys : List V} {q : List Pr}, DtAll H ys (q.map prD) → ∃ l : List (Addr × Pr), ys = (l.map fun z => V.ref z.1) ∧ l.map (·.2) = q ∧ PrsAt H l
  | _, [], .nil => ⟨[], rfl, rfl, fun z hz => by cases hz⟩
  | _, p :: q, h => by
    cases h with
    | cons h1 h2 =>
      obtain ⟨l, e1, e2, e3⟩ := dta_prs h2
      cases h1 with
      | tup ea h =>
        cases h with
        | cons a b =>
          cases b with
          | cons c d =>
            cases a
            cases c
            cases d
            rename_i t
            refine ⟨(t, p) :: l, by rw [e1]; rfl, by rw [List.map_cons, e2], fun z hz => ?_⟩
            rcases List.mem_cons.mp hz with rfl | hz
            · exact ea
            · exact e3 z hz
theorem Ls.grow {H : Hp} {D : Addr} {q : List Pr} : Ls H D q → Grow H D q := fun ⟨ys, h, d⟩ => by
  obtain ⟨l, e1, e2, e3⟩ := dta_prs d
  exact ⟨l, by rw [← e1]; exact h, e2, e3⟩
section
variable {P : Program} {w : World} {K : PySem.W.Frag} {mg : Str → Option Value} {base : Heap} {f : Addr} {fd : FuncData}
abbrev s_sd : Stmt := top 49
abbrev s_sm : Stmt := top 50
/-- _law_sides -/
def spSd : Sp := fun vs H Q _ => ∃ (v u : V) (j : Bool) (n m : Int) (q p : List Pr) (r s : List Int), vs = [v, u, .bl j] ∧ CsAt H v n q r ∧ CsAt H u m p s ∧ Csk n q r ∧ Csk m p s ∧ n + m ≤ 16 ∧
  ∀ H' x q' r', Same H H' → CsNew H H' x (n + m) q' r' → Csk (n + m) q' r' → Q x H'
theorem sc_sd : FnScope ["_law_one", "_law_other", "_law_joined", "_law_pairs", "_law_pair", "_law_x", "_law_y", "_law_row_here"] ["_law_one", "_law_other", "_law_joined"] (defScope s_sd) := ⟨rfl, rfl, rfl, by decide +kernel, rfl, by decide +kernel, by decide +kernel⟩
theorem ok_sd (F : Fun K "_law_sides" "_law_sides" s_sd f fd) (B : Blt2 mg) : FnOk P w K mg base (L2.CX P w) 1 f fd ["_law_one", "_law_other", "_law_joined"] spSd := by
  refine F.okX sc_sd (fun vs H Q E h => ?_) (fun cdv A outer s H vs Q E hr h => ?_)
  · obtain ⟨v, u, j, n, m, q, p, r, s, rfl, _⟩ := h
    rfl
  · obtain ⟨v, u, j, n, m, q, p, r, s', rfl, ⟨a1, b1, c1, rfl, h1, hq, hr1⟩, ⟨a2, b2, c2, rfl, h2, hp, hr2⟩, K1, K2, n16, k⟩ := h
    have nd := sc_sd.nd
    have n1 := K1.n1; have m1 := K2.n1
    refine ⟨_, pss_cons (ps_set (i := 3) nd rfl (.inl rfl) (pe_callTy call_list_of (by rfl) B.list (by decide +kernel) (pa_cons (pe_ix ix_list (pv 0) pe_int (fun _ _ => rfl)) pa_nil)))
      (pss_cons (ps_for (passes_of rfl) rfl (pi_list (pe_ix ix_list (pv 1) pe_int (fun _ _ => rfl))) (pg_name (i := 4) nd rfl (.inl rfl))
        (pss_one (ps_expr (pe_lapp (pv 3) (pa_cons (pe_tup (pa_cons (pe_op op_add (pe_ix ix_tup (pv 4) pe_int (fun _ _ => rfl)) (pe_ix ix_list (pv 0) pe_int (fun _ _ => rfl))) (pa_cons (pe_op op_add (pe_ix ix_tup (pv 4) pe_int (fun _ _ => rfl)) (pe_ix ix_list (pv 0) pe_int (fun _ _ => rfl))) pa_nil))) pa_nil)))))
      (pss_cons (ps_if (pt_val (pv 2)) (pss_one (ps_for (passes_of rfl) rfl (pi_range1 (by rfl) B.range (pa_cons (pe_ix ix_list (pv 0) pe_int (fun _ _ => rfl)) pa_nil)) (pg_name (i := 5) nd rfl (.inl rfl))
        (pss_one (ps_for (passes_of rfl) rfl (pi_range1 (by rfl) B.range (pa_cons (pe_ix ix_list (pv 1) pe_int (fun _ _ => rfl)) pa_nil)) (pg_name (i := 6) nd rfl (.inl rfl))
          (pss_one (ps_expr (pe_lapp (pv 3) (pa_cons (pe_tup (pa_cons (pv 5) (pa_cons (pe_op op_add (pe_ix ix_list (pv 0) pe_int (fun _ _ => rfl)) (pv 6)) pa_nil))) pa_nil)))))))) pss_nil)
      (pss_cons (ps_set (i := 7) nd rfl (.inl rfl) (pe_op op_cat (pe_callTy call_list_of (by rfl) B.list (by decide +kernel) (pa_cons (pe_ix ix_list (pv 0) pe_int (fun _ _ => rfl)) pa_nil))
        (pe_lc (own := [("_law_y", 6)]) (g := gName 6) (tt := tYes) (te := tOp rAddI (tOp (rIxL K) (tVar 0) (tC (.int 0))) (tVar 6)) rfl nd (pi_list (pe_ix ix_list (pv 1) pe_int (fun _ _ => rfl)))
          (blkOk_by (N := ["_law_one", "_law_other", "_law_joined", "_law_pairs", "_law_pair", "_law_x", "_law_y", "_law_row_here"]) (sc := defScope s_sd) (by decide +kernel)) (fun _ _ _ _ _ => pg_name (i := 6) nd rfl (.inl rfl)) (fun _ _ _ _ _ => pts_nil)
          (fun _ _ _ _ _ => pe_op op_add (pe_ix ix_list (pv 0) pe_int (fun _ _ => rfl)) (pv 6)))))
      (pss_one (ps_ret (pe_lst (pa_cons (pe_op op_add (pe_ix ix_list (pv 0) pe_int (fun _ _ => rfl)) (pe_ix ix_list (pv 1) pe_int (fun _ _ => rfl))) (pa_cons (pe_callB cr_srtP (by rfl) B.sorted (by decide +kernel) (pa_cons (pv 3) pa_nil)) (pa_cons (pv 7) pa_nil))))))))), ?_⟩
    obtain ⟨qs, hb1, dq⟩ := id hq
    obtain ⟨ps, hb2, dp⟩ := id hp
    have lps := dp.len
    rw [List.length_map] at lps
    have lq := K1.c.few (by omega)
    have lp' := K2.c.few (by omega)
    have lr := K1.len
    have ls := K2.len
    have rowP : (r ++ s'.map fun x => n + x).Perm (ran (n + m).toNat) := by
      have e : (n + m).toNat = n.toNat + m.toNat := by omega
      have en : ((n.toNat : Nat) : Int) = n := by omega
      rw [e, ran_add, en]
      exact K1.p.append (K2.p.map _)
    have mshf : ∀ z, z ∈ shf p n → n ≤ z.1 ∧ z.1 < z.2 ∧ z.2 < n + m := fun z hz => by
      have := K2.c.rng _ (mem_shf.mp hz)
      dsimp only at this
      omega
    have nd2 : (q ++ shf p n).Nodup := List.nodup_append.mpr ⟨pairwise_nodup K1.c.srt, List.pairwise_map.mpr (List.Pairwise.imp (fun {c d} ne e => ne (Prod.ext (by have := (Prod.ext_iff.mp e).1; dsimp only at this; omega) (by have := (Prod.ext_iff.mp e).2; dsimp only at this; omega))) (pairwise_nodup K2.c.srt)), fun z h1 z' h2 e => by
      subst e
      have := K1.c.rng z h1
      have := mshf z h2
      omega⟩
    have rg2 : ∀ z ∈ q ++ shf p n, 0 ≤ z.1 ∧ z.1 < z.2 ∧ z.2 < n + m := fun z hz => by
      rcases List.mem_append.mp hz with h | h
      · have := K1.c.rng z h
        omega
      · have := mshf z h
        omega
    have mgr : ∀ z, z ∈ grid 0 n n m ↔ (0 ≤ z.1 ∧ z.1 < 0 + n) ∧ n ≤ z.2 ∧ z.2 < n + m := fun z => mem_grid
    have grid_nd : (grid 0 n n m).Nodup := by
      unfold grid
      refine nodup_fm List.nodup_range (fun x _ => List.pairwise_map.mpr (List.Pairwise.imp (fun {c d} ne e => ?_) List.nodup_range)) fun x _ y _ z h1 h2 => ?_
      · have := (Prod.ext_iff.mp e).2
        dsimp only at this
        omega
      · obtain ⟨u, _, e1⟩ := List.mem_map.mp h1
        obtain ⟨v, _, e2⟩ := List.mem_map.mp h2
        rw [← e2] at e1
        have := (Prod.ext_iff.mp e1).1
        dsimp only at this
        omega
    have nd3 : (q ++ shf p n ++ grid 0 n n m).Nodup := List.nodup_append.mpr ⟨nd2, grid_nd, fun z h1 z' h2 e => by
      subst e
      have h2 := (mgr z).mp h2
      rcases List.mem_append.mp h1 with h | h
      · have := K1.c.rng z h
        omega
      · have := mshf z h
        omega⟩
    have rg3 : ∀ z ∈ q ++ shf p n ++ grid 0 n n m, 0 ≤ z.1 ∧ z.1 < z.2 ∧ z.2 < n + m := fun z hz => by
      rcases List.mem_append.mp hz with h | h
      · exact rg2 z h
      · have := (mgr z).mp h
        omega
    refine ⟨_, rfl, a1, _, 1, _, rfl, rfl, SqL.of h1, rfl, b1, _, rfl, .inl (SqL.of hb1), fun D nD => ?_⟩
    have s1 := same_upd (o := .lst qs) nD
    have g1 : Grow (heapOf s1) D q := Ls.grow ⟨qs, upd_same, dq.mono s1⟩
    let P1 : Nat → L2.St → Hp → Prop := fun i σ H' => ∃ o4, σ = [some (.ref a1), some (.ref a2), some (.bl j), some (.ref D), o4, none, none, none] ∧ Same H H' ∧ Grow H' D (q ++ shf (p.take i) n)
    refine ⟨_, rfl, a2, _, 1, _, rfl, rfl, SqL.of (s1 _ _ h2), rfl, b2, rfl, ⟨ps, SqL.of (s1 _ _ hb2)⟩, for_list (K := K) (a := b2) (xs := ps) P1 ⟨none, rfl, s1, by simpa [shf] using g1⟩ (fun i σ H' _ h => ?_) (fun i x σ H2 hi h => ?_) (fun σ H2 h => ?_)⟩
    · obtain ⟨_, _, sm, _⟩ := h
      exact SqL.of (sm _ _ hb2)
    · obtain ⟨o4, rfl, s2, g2⟩ := h
      obtain ⟨e, eb, he, rfl, heb⟩ := dta_map (dp.mono s2) hi
      obtain ⟨as, hA, lA, _⟩ := g2.at
      refine ⟨_, rfl, .inl ⟨rfl, as, SqL.of hA⟩, _, rfl, eb, _, 0, _, rfl, rfl, SqT.of heb, rfl, _, rfl, a1, _, 0, _, rfl, rfl, SqL.of (s2 _ _ h1), rfl, _, _, rfl, rfl, _, rfl, eb, _, 1, _, rfl, rfl, SqT.of heb, rfl, _, rfl, a1, _, 0, _, rfl, rfl, SqL.of (s2 _ _ h1), rfl, _, _, rfl, rfl, (by show 2 ≤ sizeLine; decide), fun u nu => ?_⟩
      have s3 := same_upd (o := .tup [.int (e.1 + n), .int (e.2 + n)]) nu
      have ltk : (shf (p.take i) n).length ≤ p.length := by
        show (List.map _ _).length ≤ _
        rw [List.length_map]
        exact take_room p i
      refine ⟨D, as, _, rfl, rfl, s3 _ _ hA, by rw [lA, List.length_append, sizeLine_eq]; omega, _, rfl, same_keep nD (s2.trans s3), ?_⟩
      have e1 : shf (p.take (i + 1)) n = shf (p.take i) n ++ [(e.1 + n, e.2 + n)] := by
        unfold shf
        rw [take_at he, List.map_append]
        rfl
      rw [e1, ← List.append_assoc]
      exact g2.push nu hA
    · obtain ⟨o4, rfl, s2, g2⟩ := h
      rw [lps, List.take_length] at g2
      refine ⟨_, rfl, j, rfl, ?_⟩
      cases j with
      | false =>
        have sm := s2
        have g := g2
        refine iteF ⟨_, rfl, a1, _, 2, _, rfl, rfl, SqL.of (sm _ _ h1), rfl, c1, _, rfl, .inl (SqL.of (sm _ _ hr1)), fun E1 nE1 => ?_⟩
        have sA := same_upd (o := .lst (r.map V.int)) nE1
        have hE1' := (upd_same : heapOf sA E1 = some (.lst (r.map V.int)))
        have s6 := sm.trans sA
        refine ⟨_, rfl, a2, _, 2, _, rfl, rfl, SqL.of (s6 _ _ h2), rfl, c2, rfl, ⟨_, SqL.of (s6 _ _ hr2)⟩, fun E2 nE2 => ?_⟩
        refine lc_list (K := K) (a := c2) (xs := s'.map V.int) (fun i H' => Same (heapOf sA) H' ∧ IL H' E2 ((s'.take i).map fun x => n + x)) ⟨same_upd nE2, upd_same⟩ (fun i H' _ z => SqL.of ((s6.trans z.1) _ _ hr2)) (fun i x H' hi z => ?_) (fun H7 z => ?_)
        · obtain ⟨s7, hE⟩ := z
          obtain ⟨y, hy, rfl⟩ := ints_val hi
          have := take_room s' i
          refine ⟨rfl, _, rfl, a1, _, 0, _, rfl, rfl, SqL.of ((s6.trans s7) _ _ h1), rfl, _, rfl, _, _, rfl, rfl, _, hE, by rw [List.length_map, List.length_map, sizeLine_eq]; omega, same_keep nE2 s7, ?_⟩
          show (upd _ _ _) _ = _
          rw [upd_same, take_at hy, List.map_append, List.map_append]
          rfl
        · obtain ⟨s7, hE⟩ := z
          rw [List.length_map, List.take_length] at hE
          refine ⟨E1, E2, _, _, rfl, rfl, s7 _ _ hE1', hE, by rw [List.length_map, List.length_map, List.length_map, sizeLine_eq]; omega, fun E3 nE3 => ?_⟩
          have s8 := same_upd (o := .lst (r.map V.int ++ (s'.map fun x => n + x).map V.int)) nE3
          have hE3 : IL (heapOf s8) E3 (r ++ s'.map fun x => n + x) := by
            show (upd _ _ _) _ = _
            rw [upd_same, List.map_append]
          have s78 := (sA.trans s7).trans s8
          have s08 := sm.trans s78
          refine ⟨_, rfl, a1, _, 0, _, rfl, rfl, SqL.of (s08 _ _ h1), rfl, _, rfl, a2, _, 0, _, rfl, rfl, SqL.of (s08 _ _ h2), rfl, _, _, rfl, rfl, _, rfl, D, _, rfl, (g.mono s78).ls, nd2, fun H9 pA rs s9 np lp pw hm _ => ⟨_, rfl, (by show 3 ≤ sizeLine; decide), fun R nR => ?_⟩⟩
          have s10 := same_upd (o := .lst [.int (n + m), .ref pA, .ref E3]) nR
          refine k _ (.ref R) rs _ ((s08.trans s9).trans s10) ⟨R, pA, E3, rfl, (s08.trans s9).free nR, s08.free np, (sm.trans (sA.trans s7)).free nE3, upd_same, lp.mono s10, (s9.trans s10) _ _ hE3⟩ ⟨⟨pw, fun z hz => rg2 z ((hm z).mp hz)⟩, by omega, rowP⟩
      | true =>
        let row : Nat → List Pr := fun i => (List.range m.toNat).map fun (y : Nat) => ((0 : Int) + (i : Int), n + (y : Int))
        let GG : Nat → List Pr := fun i => (List.range i).flatMap row
        have eGG : GG n.toNat = grid 0 n n m := rfl
        have lrow : ∀ i, (row i).length = m.toNat := fun i => by show (List.map _ _).length = _; rw [List.length_map, List.length_range]
        have lGG : ∀ i, i ≤ 16 → (GG i).length ≤ 256 := fun i hi => by
          have h1 := len_fm (List.range i) (f := row) (m := 16) fun x _ => by rw [lrow]; omega
          rw [List.length_range] at h1
          exact Nat.le_trans h1 (Nat.mul_le_mul_right 16 hi)
        have lsh : (shf p n).length = p.length := List.length_map _
        let P2 : Nat → L2.St → Hp → Prop := fun i σ H' => ∃ o5 o6, σ = [some (.ref a1), some (.ref a2), some (.bl true), some (.ref D), o4, o5, o6, none] ∧ Same H H' ∧ Grow H' D (q ++ shf p n ++ GG i)
        refine iteT ⟨_, rfl, a1, _, 0, _, rfl, rfl, SqL.of (s2 _ _ h1), rfl, n, rfl, by omega, by omega, for_range (n := n.toNat) P2 ⟨none, none, rfl, s2, by simpa [GG] using g2⟩ (fun i σ H3 hi h => ?_) (fun σ H3 h => ?_)⟩
        · obtain ⟨o5, o6, rfl, s3, g3⟩ := h
          let P3 : Nat → L2.St → Hp → Prop := fun t σ H' => ∃ o6, σ = [some (.ref a1), some (.ref a2), some (.bl true), some (.ref D), o4, some (.int (0 + (i : Int))), o6, none] ∧ Same H H' ∧ Grow H' D (q ++ shf p n ++ GG i ++ (row i).take t)
          refine ⟨_, rfl, a2, _, 0, _, rfl, rfl, SqL.of (s3 _ _ h2), rfl, m, rfl, by omega, by omega, for_range (n := m.toNat) P3 ⟨o6, rfl, s3, by simpa using g3⟩ (fun t σ H4 ht h => ?_) (fun σ H4 h => ?_)⟩
          · obtain ⟨o6, rfl, s4, g4⟩ := h
            obtain ⟨as, hA, lA, _⟩ := g4.at
            refine ⟨_, rfl, .inl ⟨rfl, as, SqL.of hA⟩, _, rfl, _, rfl, a1, _, 0, _, rfl, rfl, SqL.of (s4 _ _ h1), rfl, _, rfl, _, _, rfl, rfl, (by show 2 ≤ sizeLine; decide), fun u nu => ?_⟩
            have s5 := same_upd (o := .tup [.int (0 + (i : Int)), .int (n + (0 + (t : Int)))]) nu
            have ltk := take_room (row i) t
            have lrow' := lrow i
            have lgg := lGG i (by omega)
            refine ⟨D, as, _, rfl, rfl, s5 _ _ hA, by rw [lA, List.length_append, List.length_append, List.length_append, sizeLine_eq]; omega, _, rfl, same_keep nD (s4.trans s5), ?_⟩
            have e : (row i)[t]? = some ((0 : Int) + (i : Int), n + (t : Int)) := by
              show ((List.range m.toNat).map _)[t]? = _
              rw [List.getElem?_map, List.getElem?_range ht]
              rfl
            rw [take_at e, ← List.append_assoc]
            have z := g4.push (x := 0 + (i : Int)) (y := n + (0 + (t : Int))) nu hA
            rw [Int.zero_add (t : Int)] at z
            rw [Int.zero_add (t : Int)]
            exact z
          · obtain ⟨o6, rfl, s4, g4⟩ := h
            rw [List.take_of_length_le (by rw [lrow]; exact Nat.le_refl _)] at g4
            refine ⟨_, _, rfl, s4, ?_⟩
            have e : GG (i + 1) = GG i ++ row i := by
              show (List.range (i + 1)).flatMap row = _
              rw [List.range_succ, List.flatMap_append]
              simp [GG]
            rw [e, ← List.append_assoc]
            exact g4
        · obtain ⟨o5, o6, rfl, s3, g3⟩ := h
          rw [eGG] at g3
          have sm := s3
          have g := g3
          refine ⟨_, rfl, a1, _, 2, _, rfl, rfl, SqL.of (sm _ _ h1), rfl, c1, _, rfl, .inl (SqL.of (sm _ _ hr1)), fun E1 nE1 => ?_⟩
          have sA := same_upd (o := .lst (r.map V.int)) nE1
          have hE1' := (upd_same : heapOf sA E1 = some (.lst (r.map V.int)))
          have s6 := sm.trans sA
          refine ⟨_, rfl, a2, _, 2, _, rfl, rfl, SqL.of (s6 _ _ h2), rfl, c2, rfl, ⟨_, SqL.of (s6 _ _ hr2)⟩, fun E2 nE2 => ?_⟩
          refine lc_list (K := K) (a := c2) (xs := s'.map V.int) (fun i H' => Same (heapOf sA) H' ∧ IL H' E2 ((s'.take i).map fun x => n + x)) ⟨same_upd nE2, upd_same⟩ (fun i H' _ z => SqL.of ((s6.trans z.1) _ _ hr2)) (fun i x H' hi z => ?_) (fun H7 z => ?_)
          · obtain ⟨s7, hE⟩ := z
            obtain ⟨y, hy, rfl⟩ := ints_val hi
            have := take_room s' i
            refine ⟨rfl, _, rfl, a1, _, 0, _, rfl, rfl, SqL.of ((s6.trans s7) _ _ h1), rfl, _, rfl, _, _, rfl, rfl, _, hE, by rw [List.length_map, List.length_map, sizeLine_eq]; omega, same_keep nE2 s7, ?_⟩
            show (upd _ _ _) _ = _
            rw [upd_same, take_at hy, List.map_append, List.map_append]
            rfl
          · obtain ⟨s7, hE⟩ := z
            rw [List.length_map, List.take_length] at hE
            refine ⟨E1, E2, _, _, rfl, rfl, s7 _ _ hE1', hE, by rw [List.length_map, List.length_map, List.length_map, sizeLine_eq]; omega, fun E3 nE3 => ?_⟩
            have s8 := same_upd (o := .lst (r.map V.int ++ (s'.map fun x => n + x).map V.int)) nE3
            have hE3 : IL (heapOf s8) E3 (r ++ s'.map fun x => n + x) := by
              show (upd _ _ _) _ = _
              rw [upd_same, List.map_append]
            have s78 := (sA.trans s7).trans s8
            have s08 := sm.trans s78
            refine ⟨_, rfl, a1, _, 0, _, rfl, rfl, SqL.of (s08 _ _ h1), rfl, _, rfl, a2, _, 0, _, rfl, rfl, SqL.of (s08 _ _ h2), rfl, _, _, rfl, rfl, _, rfl, D, _, rfl, (g.mono s78).ls, nd3, fun H9 pA rs s9 np lp pw hm _ => ⟨_, rfl, (by show 3 ≤ sizeLine; decide), fun R nR => ?_⟩⟩
            have s10 := same_upd (o := .lst [.int (n + m), .ref pA, .ref E3]) nR
            refine k _ (.ref R) rs _ ((s08.trans s9).trans s10) ⟨R, pA, E3, rfl, (s08.trans s9).free nR, s08.free np, (sm.trans (sA.trans s7)).free nE3, upd_same, lp.mono s10, (s9.trans s10) _ _ hE3⟩ ⟨⟨pw, fun z hz => rg3 z ((hm z).mp hz)⟩, by omega, rowP⟩
end
end K0
set_option Elab.async false
set_option linter.all false
set_option maxRecDepth 100000
set_option maxHeartbeats 4000000
namespace K0
open PySem PySem.Spec PyProof.Rows L2
theorem DrO.mono {H H' : Hp} (s : Same H H') {d : Addr} : DrO H d → DrO H' d := fun ⟨ns, h, p⟩ => ⟨ns, s _ _ h, p⟩
/-- a list of pairs, apart from the draws -/
theorem Ls.del {H : Hp} {D d : Addr} {q : List Pr} (h : Ls H D q) (dr : DrO H d) (ne : D ≠ d) : Ls (del H d) D q := by
  obtain ⟨ys, hD, hy⟩ := h
  obtain ⟨e, hh⟩ := dta_kH hy
  refine ⟨ys, by rw [del_ne ne]; exact hD, ?_⟩
  rw [← e]
  refine dta_of fun y hy' => ?_
  obtain ⟨t, e1, e2⟩ := hh y hy'
  refine ⟨t, e1, ?_⟩
  have : t ≠ d := fun z => by
    obtain ⟨ns, h1, _⟩ := dr
    rw [z, h1] at e2
    cases e2
  rw [del_ne this]
  exact e2
theorem cs_up {H G : Hp} {d b c A : Addr} {n : Int} {q : List Pr} {r : List Int} (sm : Same (del H d) G) (dr : DrO G d) (hb : Ls (del G d) b q) (hc : IL (del G d) c r) (nA : G A = none) :
    Same (del H d) (upd G A (.lst [.int n, .ref b, .ref c])) ∧ DrO (upd G A (.lst [.int n, .ref b, .ref c])) d ∧ CsAt (del (upd G A (.lst [.int n, .ref b, .ref c])) d) (.ref A) n q r := by
  have Ad := dr.ne nA
  have hA := sd_none sm nA Ad
  have s : Same (del G d) (del (upd G A (.lst [.int n, .ref b, .ref c])) d) := by
    rw [del_upd_ne Ad]
    exact same_upd (by rw [del_ne Ad]; exact nA)
  exact ⟨sd_upd sm hA Ad, dr.upd Ad, A, b, c, rfl, by rw [del_ne Ad, upd_same], hb.mono s, s _ _ hc⟩
theorem delF {H H' : Hp} {d : Addr} (s : Same H H') : Same (del H d) (del H' d) := fun b o e => by
  by_cases hb : b = d
  · rw [hb, del_same] at e
    cases e
  · rw [del_ne hb] at e ⊢
    exact s b o e
theorem IL.del {H : Hp} {a d : Addr} {r : List Int} (h : IL H a r) (ne : a ≠ d) : IL (L2.del H d) a r := by
  show (L2.del H d) a = _
  rw [del_ne ne]
  exact h
theorem ran_step {H0 : Hp} {D : Addr} {n i : Nat} {H' : Hp} (nD : H0 D = none) (hi : i < n) (hn : n ≤ 1000) (z : Same H0 H' ∧ IL H' D (ran i)) : ∃ acc, H' D = some (.lst acc) ∧ acc.length < sizeLine ∧ Same H0 (upd H' D (.lst (acc ++ [.int (i : Int)]))) ∧ IL (upd H' D (.lst (acc ++ [.int (i : Int)]))) D (ran (i + 1)) := by
  obtain ⟨sm, hD⟩ := z
  refine ⟨_, hD, by rw [List.length_map, ran_len, sizeLine_eq]; omega, same_keep nD sm, ?_⟩
  show (upd _ _ _) _ = _
  rw [upd_same, ran_succ, List.map_append]
  rfl
/-- what a maker of the law hands on -/
def OutCs (H : Hp) (d : Addr) (l m : Int) (Q : VK) : Prop := ∀ H' v n q r, Same (del H d) H' → DrO H' d → CsAt (del H' d) v n q r → Csk n q r → l ≤ n → n ≤ m → Q v H'
section
variable {P : Program} {w : World} {K : PySem.W.Frag} {mg : Str → Option Value} {base : Heap} {f : Addr} {fd : FuncData}
/-- _law_small -/
def spSm : Sp := fun vs H Q _ => ∃ (d : Addr), vs = [.ref d] ∧ DrO H d ∧ OutCs H d 1 4 Q
theorem sc_sm : FnScope ["_law_draws_here", "_law_many", "_law_x"] ["_law_draws_here"] (defScope s_sm) := ⟨rfl, rfl, rfl, by decide +kernel, rfl, by decide +kernel, by decide +kernel⟩
theorem ok_sm (F : Fun K "_law_small" "_law_small" s_sm f fd) (B : Blt2 mg) (TK : Df P w K mg base "_law_take" 1 ["_law_draws_here", "_law_many"] spTk) (LN : Df P w K mg base "_law_line" 1 ["_law_many"] spLine) : FnOk P w K mg base (L2.CX P w) 2 f fd ["_law_draws_here"] spSm := by
  refine F.okX sc_sm (fun vs H Q E h => ?_) (fun cdv A outer s H vs Q E hr h => ?_)
  · obtain ⟨d, rfl, _⟩ := h
    rfl
  · obtain ⟨d, rfl, dr, k⟩ := h
    have nd := sc_sm.nd
    have r1 : Room 1 _ := hr.mono (by decide)
    refine ⟨_, pss_cons (ps_set (i := 1) nd rfl (.inl rfl) (pe_op op_add pe_int (pe_df TK r1 (by rfl) passUp (pa_cons (pv 0) (pa_cons pe_int pa_nil)))))
      (pss_cons (ps_if (pt_cmpR op_eq (pe_df TK r1 (by rfl) passUp (pa_cons (pv 0) (pa_cons pe_int pa_nil))) pe_int (nomark _)) (pss_one (ps_ret (pe_lst (pa_cons (pv 1) (pa_cons (pe_lst pa_nil) (pa_cons (pe_lc (own := [("_law_x", 2)]) (g := gName 2) (tt := tYes) (te := tVar 2) rfl nd
          (pi_range1 (by rfl) B.range (pa_cons (pv 1) pa_nil)) (blkOk_by (N := ["_law_draws_here", "_law_many", "_law_x"]) (sc := defScope s_sm) (by decide +kernel)) (fun _ _ _ _ _ => pg_name (i := 2) nd rfl (.inl rfl)) (fun _ _ _ _ _ => pts_nil) (fun _ _ _ _ _ => pv 2)) pa_nil)))))) pss_nil)
      (pss_one (ps_ret (pe_lst (pa_cons (pv 1) (pa_cons (pe_df LN r1 (by rfl) passUp (pa_cons (pv 1) pa_nil)) (pa_cons (pe_lc (own := [("_law_x", 2)]) (g := gName 2) (tt := tYes) (te := tVar 2) rfl nd
          (pi_range1 (by rfl) B.range (pa_cons (pv 1) pa_nil)) (blkOk_by (N := ["_law_draws_here", "_law_many", "_law_x"]) (sc := defScope s_sm) (by decide +kernel)) (fun _ _ _ _ _ => pg_name (i := 2) nd rfl (.inl rfl)) (fun _ _ _ _ _ => pts_nil) (fun _ _ _ _ _ => pv 2)) pa_nil))))))), ?_⟩
    refine ⟨_, rfl, d, 4, rfl, by decide, dr, fun r1' H1 a0 a4 s1 dr1 => ?_⟩
    let n : Int := 1 + r1'
    have en : n = 1 + r1' := rfl
    refine ⟨_, _, rfl, rfl, ?_⟩
    refine ⟨_, rfl, d, 3, rfl, by decide, dr1, fun r2 H2 b0 b3 s2 dr2 => ⟨rfl, _, rfl, ?_⟩⟩
    rw [dec_int]
    have s12 := sd_trans s1 s2
    by_cases e : r2 = 1
    · rw [show (r2 == 1) = true by simpa using e]
      refine iteT ⟨_, rfl, by show 0 ≤ sizeLine; exact Nat.zero_le _, fun D nD => ?_⟩
      have Dd := dr2.ne nD
      have s3 := same_upd (o := .lst []) nD
      have dr3 := dr2.mono s3
      refine ⟨_, rfl, n, rfl, by omega, by omega, fun G nG => ?_⟩
      refine lc_range (lo := 0) (n := n.toNat) (fun i H' => Same (heapOf s3) H' ∧ IL H' G (ran i)) ⟨same_upd nG, upd_same⟩ (fun i H' hi z => ?_) (fun H4 z => ?_)
      · rw [Int.zero_add]
        exact ⟨rfl, _, rfl, ran_step nG hi (by omega) z⟩
      · obtain ⟨s4, hG⟩ := z
        refine ⟨(by show 3 ≤ sizeLine; decide), fun A nA => ?_⟩
        have dr4 := dr3.mono s4
        have Gd := dr3.ne nG
        have hD : Ls (heapOf s4) D [] := ⟨[], s4 _ _ upd_same, .nil⟩
        obtain ⟨x, y, z⟩ := cs_up (n := n) (sd_trans s12 (del_sub.trans (s3.trans s4))) dr4 (hD.del dr4 Dd) (hG.del Gd) nA
        exact k _ _ _ _ _ x y z ⟨⟨.nil, fun p hp => by cases hp⟩, by omega, .refl _⟩ (by omega) (by omega)
    · rw [show (r2 == 1) = false by simpa using e]
      refine iteF ⟨_, rfl, _, rfl, n, rfl, by omega, by omega, fun H3 D s3 nD hD => ?_⟩
      have Dd := dr2.ne nD
      have dr3 := dr2.mono s3
      refine ⟨_, rfl, n, rfl, by omega, by omega, fun G nG => ?_⟩
      refine lc_range (lo := 0) (n := n.toNat) (fun i H' => Same H3 H' ∧ IL H' G (ran i)) ⟨same_upd nG, upd_same⟩ (fun i H' hi z => ?_) (fun H4 z => ?_)
      · rw [Int.zero_add]
        exact ⟨rfl, _, rfl, ran_step nG hi (by omega) z⟩
      · obtain ⟨s4, hG⟩ := z
        refine ⟨(by show 3 ≤ sizeLine; decide), fun A nA => ?_⟩
        have dr4 := dr3.mono s4
        have Gd := dr3.ne nG
        have hL : Ls (heapOf s4) D (lnP (n - 1).toNat) := ((hD.mono same_new).ls).mono s4
        obtain ⟨x, y, z⟩ := cs_up (n := n) (sd_trans s12 (del_sub.trans (s3.trans s4))) dr4 (hL.del dr4 Dd) (hG.del Gd) nA
        exact k _ _ _ _ _ x y z ⟨lnP_cl (by omega), by omega, .refl _⟩ (by omega) (by omega)
end
end K0
set_option Elab.async false
set_option linter.all false
set_option maxRecDepth 100000
set_option maxHeartbeats 4000000
namespace K0
open PySem PySem.Spec PyProof.Rows L2
section
variable {X : Cx} {o e : Expr} {es : List Expr} {to : TE} {t : TA} {apos cpos : Pos}
/-- o.index(e) -/
theorem pe_lidx (ho : PE X o to) (ha : PA X (e :: es) t) (hbase : attributeBase o "index" X.env (eval o X.env) = eval o X.env := by rfl)
    (hfew : ((backTo cpos (starEach (e :: es) X.env)).all (fun x => !x.1) && (backToKw cpos (keywordEach [] X.env)).all (fun x => x.1.isSome) && decide ((e :: es).length + ([] : List Keyword).length + (if ([] : List Keyword).isEmpty then 0 else 1) < 30)) = true := by rfl)
    (hline : (apos.endLine == cpos.line) = true := by rfl) (hs : starEach (e :: es) X.env = (false, eval e X.env) :: starEach es X.env := by rfl) (hplain : (backTo cpos (starEach es X.env)).any (·.1) = false := by rfl) :
    PE X (.Call (.Attribute o "index" apos) (e :: es) [] cpos) (tBM X.K "list" (rIndex X.K) to t) := pe_bm PySem.F.plainAttrs_list PySem.F.slot_list_index PySem.F.type_list_index mt_index ho ha hbase hfew hline hs hplain
end
theorem ex_idx {x : Int} : ∀ {r : List Int}, x ∈ r → ∃ j : Nat, r[j]? = some x ∧ ∀ m : Nat, m < j → ∀ z, r[m]? = some z → z ≠ x
  | [], h => by cases h
  | y :: r, h => by
    by_cases e : y = x
    · exact ⟨0, by rw [e]; rfl, fun m hm => absurd hm (Nat.not_lt_zero m)⟩
    · have h2 : x ∈ r := by
        rcases List.mem_cons.mp h with h | h
        · exact absurd h.symm e
        · exact h
      obtain ⟨j, h3, h4⟩ := ex_idx h2
      refine ⟨j + 1, h3, fun m hm z hz => ?_⟩
      cases m with
      | zero => rw [← Option.some.inj hz]; exact e
      | succ m => exact h4 m (by omega) z hz
theorem hasP_mmU {q : List Pr} (h : ∀ z ∈ q, z.1 < z.2) (x y : Nat) : decide (((min (x : Int) y, max (x : Int) y) : Pr) ∈ q) = hasP q x y := by
  unfold hasP
  rw [Bool.eq_iff_iff, Bool.or_eq_true, decide_eq_true_iff, decide_eq_true_iff, decide_eq_true_iff]
  rcases Nat.lt_trichotomy x y with c | c | c
  · rw [show min (x : Int) y = x by omega, show max (x : Int) y = y by omega]
    refine ⟨.inl, fun z => z.elim (fun z => z) fun z => ?_⟩
    have := h _ z
    dsimp only at this
    omega
  · subst c
    rw [show min (x : Int) x = x by omega, show max (x : Int) x = x by omega]
    exact ⟨.inl, fun z => z.elim (fun z => z) fun z => z⟩
  · rw [show min (x : Int) y = y by omega, show max (x : Int) y = x by omega]
    refine ⟨.inr, fun z => z.elim (fun z => ?_) fun z => z⟩
    have := h _ z
    dsimp only at this
    omega
section
variable {P : Program} {w : World} {K : PySem.W.Frag} {mg : Str → Option Value} {base : Heap} {f : Addr} {fd : FuncData}
abbrev s_tw : Stmt := top 51
/-- _law_near, of pairs in any order -/
def spNu : Sp := fun vs H Q _ => ∃ (b : Addr) (n : Int) (x : Nat) (q : List Pr), vs = [.int n, .ref b, .int (x : Int)] ∧ 0 ≤ n ∧ n ≤ 16 ∧ (∀ z ∈ q, z.1 < z.2) ∧ Ls H b q ∧ ∀ H' a, Same H H' → H a = none → H' a = some (.lst (nvs (nearOf n q x))) → Q (.ref a) H'
theorem ok_nu (F : Fun K "_law_near" "_law_near" s_ne f fd) (B : Blt2 mg) : FnOk P w K mg base (L2.CX P w) 2 f fd ["_law_many", "_law_pairs", "_law_x"] spNu := by
  refine F.okX sc_ne (fun vs H Q E h => ?_) (fun cdv A outer s H vs Q E hr h => ?_)
  · obtain ⟨b, n, x, q, rfl, _⟩ := h
    rfl
  · obtain ⟨b, n, x, q, rfl, n0, n8, cl, hl, k⟩ := h
    have nd := sc_ne.nd
    have hu : (A.deeper (envOfC "_law_near" (defScope s_ne) s.heap.objs.size f cdv)).units + 65 < cLine := by have := hr.un; omega
    refine ⟨_, pss_one (ps_ret (pe_lc (own := [("_law_y", 3)]) (g := gName 3)
      (tt := tTest (tOp (rInD K) (tTup (tCons (tCB rMinI (tCons (tVar 2) (tCons (tVar 3) tNil))) (tCons (tCB rMaxI (tCons (tVar 2) (tCons (tVar 3) tNil))) tNil))) (tVar 1)))
      (te := tVar 3) rfl nd (pi_range1 (by rfl) B.range (pa_cons (pv 0) pa_nil))
        (blkOk_by (N := ["_law_many", "_law_pairs", "_law_x", "_law_y"]) (sc := defScope s_ne) (by decide +kernel)) (fun _ _ _ _ _ => pg_name (i := 3) nd rfl (.inl rfl))
        (fun _ _ _ _ _ => pts_one (pt_cmpR (op_inD hu) (pe_tup (pa_cons (pe_callB (c_min rfl) (by rfl) B.min (by decide +kernel) (pa_cons (pv 2) (pa_cons (pv 3) pa_nil))) (pa_cons (pe_callB (c_max rfl) (by rfl) B.max (by decide +kernel) (pa_cons (pv 2) (pa_cons (pv 3) pa_nil))) pa_nil))) (pv 1) (by rfl))) (fun _ _ _ _ _ => pv 3))), ?_⟩
    refine ⟨_, rfl, n, rfl, by omega, by omega, fun D nD => ?_⟩
    refine lc_range (lo := 0) (n := n.toNat) (fun i H' => Same H H' ∧ H' D = some (.lst (nvs (((List.range n.toNat).take i).filter (hasP q x))))) ⟨same_upd nD, upd_same⟩ (fun i H' hi ⟨sm, hD⟩ => ?_) (fun H' ⟨sm, hD⟩ => ?_)
    · refine ⟨rfl, ?_⟩
      rw [Int.zero_add]
      refine ⟨_, rfl, _, rfl, _, _, rfl, _, rfl, _, rfl, _, _, rfl, (by show 2 ≤ sizeLine; decide), fun t nt => ?_⟩
      rw [min2, max2]
      have s2 : Same H' (upd H' t (.tup [.int (min (x : Int) i), .int (max (x : Int) i)])) := same_upd nt
      refine ⟨_, rfl, prD (min (x : Int) i, max (x : Int) i), _, (dt_pr (p := (min (x : Int) i, max (x : Int) i)) upd_same).dp, (hl.mono (sm.trans s2)).dp, prD_shaped _, prsL_shaped _, _, rfl, ?_⟩
      rw [prs_any, hasP_mmU cl]
      cases e : hasP q x i with
      | false =>
        refine iteF ⟨sm.trans s2, ?_⟩
        rw [filter_take _ _ hi, e, s2 _ _ hD]
        simp
      | true =>
        refine iteT ⟨_, rfl, _, s2 _ _ hD, ?_, fun b o eb => ?_, ?_⟩
        · rw [nvs_len, sizeLine_eq]
          have g1 := List.length_filter_le (hasP q x) ((List.range n.toNat).take i)
          rw [List.length_take, List.length_range] at g1
          omega
        · rw [upd_ne (ne_of_none eb nD)]
          exact s2 _ _ (sm _ _ eb)
        · rw [upd_same, filter_take _ _ hi, e]
          unfold nvs
          rw [List.map_append]
          rfl
    · rw [List.take_of_length_le (by rw [List.length_range]; exact Nat.le_refl _)] at hD
      exact k H' D sm nD hD
theorem Ls.cat {H : Hp} {A G B : Addr} {rs ss : List Pr} {xs ys : List V} (h : Ls H A rs) (g : Ls H G ss) (hx : H A = some (.lst xs)) (hy : H G = some (.lst ys)) (nB : H B = none) : Ls (upd H B (.lst (xs ++ ys))) B (rs ++ ss) := by
  obtain ⟨xs', h1, h2⟩ := h
  obtain ⟨ys', g1, g2⟩ := g
  rw [h1] at hx
  cases hx
  rw [g1] at hy
  cases hy
  refine ⟨_, upd_same, ?_⟩
  rw [List.map_append]
  exact (h2.app g2).mono (same_upd nB)
theorem Ls.len {H : Hp} {A : Addr} {rs : List Pr} {xs : List V} (h : Ls H A rs) (hx : H A = some (.lst xs)) : xs.length = rs.length := by
  obtain ⟨xs', h1, h2⟩ := h
  rw [h1] at hx
  cases hx
  have := h2.len
  rwa [List.length_map] at this
structure TwI (mo : Int) (H H' : Hp) (d b c : Addr) (N : Int) (ps : List Pr) (r : List Int) : Prop where
  sm : Same (del H d) H'
  dr : DrO H' d
  ls : Ls (del H' d) b ps
  il : IL (del H' d) c r
  N4 : 4 ≤ N
  N7 : N ≤ mo
  ndp : ps.Nodup
  rng : ∀ z ∈ ps, 0 ≤ z.1 ∧ z.1 < z.2 ∧ z.2 < N
  p : r.Perm (ran N.toNat)
theorem TwI.next {mo : Int} {H H' H2 : Hp} {d b c : Addr} {N : Int} {ps : List Pr} {r : List Int} (I : TwI mo H H' d b c N ps r) (s : Same (del H' d) H2) (dr : DrO H2 d) : TwI mo H H2 d b c N ps r :=
  ⟨sd_trans I.sm s, dr, I.ls.mono (same_del s), (same_del s) _ _ I.il, I.N4, I.N7, I.ndp, I.rng, I.p⟩
/-- _law_twins -/
def spTwn : Sp := fun vs H Q _ => ∃ (d : Addr) (v : V) (q : List Pr) (r : List Int) (mo : Int), vs = [.ref d, v, .int mo] ∧ 5 ≤ mo ∧ mo ≤ 8 ∧ DrO H d ∧ CsAt (del H d) v 4 q r ∧ Csk 4 q r ∧ OutCs H d 2 mo Q
theorem sc_tw : FnScope ["_law_draws_here", "_law_case_here", "_law_most", "_law_many", "_law_pairs", "_law_row_here", "_law_turn", "_law_old", "_law_near_here", "_law_x", "_law_place"] ["_law_draws_here", "_law_case_here", "_law_most"] (defScope s_tw) := ⟨rfl, rfl, rfl, by decide +kernel, rfl, by decide +kernel, by decide +kernel⟩
theorem ok_tw (F : Fun K "_law_twins" "_law_twins" s_tw f fd) (B : Blt2 mg) (TK : Df P w K mg base "_law_take" 1 ["_law_draws_here", "_law_many"] spTk) (NE : Df P w K mg base "_law_near" 2 ["_law_many", "_law_pairs", "_law_x"] spNu) : FnOk P w K mg base (L2.CX P w) 3 f fd ["_law_draws_here", "_law_case_here", "_law_most"] spTwn := by
  refine F.okX sc_tw (fun vs H Q E h => ?_) (fun cdv A outer s H vs Q E hr h => ?_)
  · obtain ⟨d, v, q, r, mo, rfl, _⟩ := h
    rfl
  · obtain ⟨d, v, q, r, mo, rfl, mo5, mo7, dr, ⟨a1, b1, c1, rfl, h1, hq, hr1⟩, K1, k⟩ := h
    have nd := sc_tw.nd
    have r1 : Room 1 _ := hr.mono (by decide)
    have r2 : Room 2 _ := hr.mono (by decide)
    refine ⟨_, pss_cons (ps_set (i := 3) nd rfl (.inr rfl) (pe_ix ix_list (pv 1) pe_int (fun _ _ => rfl)))
      (pss_cons (ps_set (i := 4) nd rfl (.inl rfl) (pe_callTy call_list_of (by rfl) B.list (by decide +kernel) (pa_cons (pe_ix ix_list (pv 1) pe_int (fun _ _ => rfl)) pa_nil)))
      (pss_cons (ps_set (i := 5) nd rfl (.inl rfl) (pe_callTy call_list_of (by rfl) B.list (by decide +kernel) (pa_cons (pe_ix ix_list (pv 1) pe_int (fun _ _ => rfl)) pa_nil)))
      (pss_cons (ps_for (passes_of rfl) rfl (pi_range1 (by rfl) B.range (pa_cons pe_int pa_nil)) (pg_name (i := 6) nd rfl (.inl rfl))
        (pss_cons (ps_set (i := 7) nd rfl (.inl rfl) (pe_df TK r1 (by rfl) passUp (pa_cons (pv 0) (pa_cons (pv 3) pa_nil))))
        (pss_one (ps_if (PW.pt (pw_and (pt_cmpR op_lt (pv 3) (pv 2) (nomark _)) (pw_and1 (pt_cmpR op_gt (pe_df TK r1 (by rfl) passUp (pa_cons (pv 0) (pa_cons pe_int pa_nil))) pe_int (nomark _)))))
          (pss_cons (ps_set (i := 8) nd rfl (.inl rfl) (pe_df NE r2 (by rfl) passUp (pa_cons (pv 3) (pa_cons (pv 4) (pa_cons (pv 7) pa_nil)))))
          (pss_cons (ps_if (pt_cmpR op_eq (pe_df TK r1 (by rfl) passUp (pa_cons (pv 0) (pa_cons pe_int pa_nil))) pe_int (nomark _)) (pss_one (ps_expr (pe_lapp (pv 8) (pa_cons (pv 7) pa_nil)))) pss_nil)
          (pss_cons (ps_set (i := 4) nd rfl (.inl rfl) (pe_op op_cat (pv 4) (pe_lc (own := [("_law_x", 9)]) (g := gName 9) (tt := tYes) (te := tTup (tCons (tVar 9) (tCons (tVar 3) tNil))) rfl nd (pi_list (pv 8))
            (blkOk_by (N := ["_law_draws_here", "_law_case_here", "_law_most", "_law_many", "_law_pairs", "_law_row_here", "_law_turn", "_law_old", "_law_near_here", "_law_x", "_law_place"]) (sc := defScope s_tw) (by decide +kernel)) (fun _ _ _ _ _ => pg_name (i := 9) nd rfl (.inl rfl)) (fun _ _ _ _ _ => pts_nil) (fun _ _ _ _ _ => pe_tup (pa_cons (pv 9) (pa_cons (pv 3) pa_nil))))))
          (pss_cons (ps_set (i := 10) nd rfl (.inl rfl) (pe_op op_add (pe_lidx (pv 5) (pa_cons (pv 7) pa_nil)) pe_int))
          (pss_cons (ps_set (i := 5) nd rfl (.inl rfl) (pe_op op_cat (pe_op op_cat (pe_slice sl_list (pv 5) po_none (po_some (pv 10))) (pe_lst (pa_cons (pv 3) pa_nil))) (pe_slice sl_list (pv 5) (po_some (pv 10)) po_none)))
          (pss_one (ps_set (i := 3) nd rfl (.inr rfl) (pe_op op_add (pv 3) pe_int)))))))) pss_nil))))
      (pss_one (ps_ret (pe_lst (pa_cons (pv 3) (pa_cons (pe_callB cr_srtP (by rfl) B.sorted (by decide +kernel) (pa_cons (pv 4) pa_nil)) (pa_cons (pv 5) pa_nil))))))))), ?_⟩
    obtain ⟨qs, hb1, dq⟩ := id hq
    have h1' := del_sub _ _ h1
    have hr' : H c1 = some (.lst (r.map V.int)) := del_sub _ _ hr1
    refine ⟨_, rfl, a1, _, 0, _, rfl, rfl, SqL.of h1', rfl, ?_⟩
    refine ⟨_, rfl, a1, _, 1, _, rfl, rfl, SqL.of h1', rfl, b1, _, rfl, .inl (SqL.of (del_sub _ _ hb1)), fun D nD => ?_⟩
    have s1 := same_upd (o := .lst qs) nD
    have Dd := dr.ne nD
    refine ⟨_, rfl, a1, _, 2, _, rfl, rfl, SqL.of (s1 _ _ h1'), rfl, c1, _, rfl, .inl (SqL.of (s1 _ _ hr')), fun G0 nG0 => ?_⟩
    have s2 := same_upd (o := .lst (r.map V.int)) nG0
    have G0d := (dr.mono s1).ne nG0
    have s12 := s1.trans s2
    have I0 : TwI mo H (heapOf s2) d D G0 4 q r := ⟨del_sub.trans s12, dr.mono s12, Ls.del ⟨qs, s2 _ _ upd_same, dq.mono (del_sub.trans s12)⟩ (dr.mono s12) Dd, IL.del upd_same G0d, by decide, by omega, pairwise_nodup K1.c.srt, K1.c.rng, K1.p⟩
    let Pv : Nat → L2.St → Hp → Prop := fun i σ H' => ∃ (N : Int) (ps : List Pr) (r : List Int) (b c : Addr) (o6 o7 o8 o10 : Option V), σ = [some (.ref d), some (.ref a1), some (.int mo), some (.int N), some (.ref b), some (.ref c), o6, o7, o8, none, o10] ∧ TwI mo H H' d b c N ps r
    refine ⟨3, rfl, by decide, by decide, for_range (n := 3) Pv ⟨4, q, r, D, G0, none, none, none, none, rfl, I0⟩ (fun i σ H1 hi h => ?_) (fun σ H1 h => ?_)⟩
    · obtain ⟨N, ps, r, b, c, o6, o7, o8, o10, rfl, I1⟩ := h
      have N4 := I1.N4; have N7 := I1.N7
      refine ⟨_, rfl, _, rfl, d, N, rfl, by omega, I1.dr, fun old H2 o0 oN s2 dr2 => ?_⟩
      obtain ⟨x, rfl⟩ := Int.eq_ofNat_of_zero_le o0
      have I2 := I1.next s2 dr2
      refine ⟨_, rfl, _, rfl, _, _, rfl, rfl, _, rfl, ?_⟩
      by_cases lt : N < mo
      case neg =>
        rw [decide_eq_false lt]
        exact iteF (iteF ⟨N, ps, r, b, c, _, _, _, _, rfl, I2⟩)
      rw [decide_eq_true lt]
      refine iteT ⟨_, rfl, d, 4, rfl, by decide, dr2, fun t H3 t0 t4 s3 dr3 => ⟨_, _, rfl, rfl, _, rfl, ?_⟩⟩
      have I3 := I2.next s3 dr3
      by_cases tp : 0 < t
      case neg =>
        rw [decide_eq_false tp]
        exact iteF ⟨N, ps, r, b, c, _, _, _, _, rfl, I3⟩
      rw [decide_eq_true tp]
      refine iteT ⟨_, rfl, _, rfl, _, rfl, b, N, x, ps, rfl, by omega, by omega, (fun z hz => (I3.rng z hz).2.1), I3.ls.mono del_sub, fun H4 t' s4 nt ht => ?_⟩
      have td := dr3.ne nt
      have dr4 := dr3.mono s4
      have s34 : Same (del H3 d) H4 := del_sub.trans s4
      refine ⟨_, rfl, d, 2, rfl, by decide, dr4, fun u H5 u0 u2 s5 dr5 => ⟨rfl, _, rfl, ?_⟩⟩
      rw [dec_int]
      have s35 := sd_trans s34 s5
      have ht5 : H5 t' = some (.lst (nvs (nearOf N ps x))) := s5 _ _ (by rw [del_ne td]; exact ht)
      have ndn : (nearOf N ps x).Nodup := List.nodup_range.filter _
      have ltn : ∀ y ∈ nearOf N ps x, (y : Int) < N := fun y hy => by
        have := List.mem_range.mp (List.mem_filter.mp hy).1
        omega
      have lnn : (nearOf N ps x).length ≤ 8 := by
        have := List.length_filter_le (hasP ps x) (List.range N.toNat)
        rw [List.length_range] at this
        exact Nat.le_trans this (by omega)
      by_cases eu : u = 1
      · rw [show (u == 1) = true by simpa using eu]
        refine iteT ⟨_, rfl, .inl ⟨rfl, _, SqL.of ht5⟩, _, rfl, t', _, _, rfl, rfl, ht5, by rw [nvs_len, sizeLine_eq]; omega, ?_⟩
        have I6 : TwI mo H (upd H5 t' (.lst (nvs (nearOf N ps x) ++ [.int (x : Int)]))) d b c N ps r := I3.next (sd_upd s35 nt td) (dr5.upd td)
        have ht6 : (upd H5 t' (.lst (nvs (nearOf N ps x) ++ [.int (x : Int)]))) t' = some (.lst (nvs (nearOf N ps x ++ [x]))) := by
          rw [upd_same]
          unfold nvs
          rw [List.map_append]
          rfl
        have nx : x ∉ nearOf N ps x := fun h => by
          have := (List.mem_filter.mp h).2
          have this := hasP_cl.mp this
          unfold cl at this
          rcases this with h | h <;> (have := I3.rng _ h; dsimp only at this; omega)
        have nd6 : (nearOf N ps x ++ [x]).Nodup := List.nodup_append.mpr ⟨ndn, by simp, fun a ha b hb e => by
          rw [List.mem_singleton.mp hb] at e
          rw [e] at ha
          exact nx ha⟩
        have lt6 : ∀ y ∈ nearOf N ps x ++ [x], (y : Int) < N := fun y hy => by
          rcases List.mem_append.mp hy with h | h
          · exact ltn y h
          · rw [List.mem_singleton.mp h]; exact oN
        have ln6 : (nearOf N ps x ++ [x]).length ≤ 9 := by rw [List.length_append]; show _ + 1 ≤ 9; omega
        obtain ⟨bs, hb6, _⟩ := id (I6.ls.mono del_sub)
        have ls6 := I6.ls.mono del_sub
        refine ⟨_, rfl, _, rfl, t', rfl, ⟨_, SqL.of ht6⟩, fun G nG => ?_⟩
        refine lc_list (K := K) (a := t') (xs := nvs (nearOf N ps x ++ [x])) (fun i H' => Same (upd H5 t' (.lst (nvs (nearOf N ps x) ++ [.int (x : Int)]))) H' ∧ Grow H' G (((nearOf N ps x ++ [x]).take i).map fun (y : Nat) => ((y : Int), N))) ⟨same_upd nG, [], upd_same, rfl, fun z hz => by cases hz⟩ (fun i H' _ z => SqL.of (z.1 _ _ ht6)) (fun i v H' hi z => ?_) (fun H7 z => ?_)
        · obtain ⟨s7, g7⟩ := z
          obtain ⟨y, hy, rfl⟩ := nvs_val hi
          obtain ⟨as, hA, lA, _⟩ := g7.at
          refine ⟨rfl, _, rfl, _, rfl, (by show 2 ≤ sizeLine; decide), fun u nu => ?_⟩
          have s8 : Same H' (upd H' u (.tup [.int (y : Int), .int N])) := same_upd nu
          have := take_room (nearOf N ps x ++ [x]) i
          refine ⟨as, s8 _ _ hA, by rw [lA, List.length_map, sizeLine_eq]; omega, same_keep nG (s7.trans s8), ?_⟩
          rw [take_at hy, List.map_append]
          exact g7.push nu hA
        · obtain ⟨s7, g7⟩ := z
          rw [nvs_len, List.take_length] at g7
          obtain ⟨as, hA, lA, _⟩ := g7.at
          rw [List.length_map] at lA
          have few := few28 (n := N) (by omega) I6.ndp I6.rng
          refine ⟨_, G, bs, as, rfl, rfl, s7 _ _ hb6, hA, by rw [ls6.len hb6, lA, sizeLine_eq]; omega, fun B' nB => ?_⟩
          have s8 := same_upd (o := .lst (bs ++ as)) nB
          have lsB : Ls (heapOf s8) B' (ps ++ (nearOf N ps x ++ [x]).map fun (y : Nat) => ((y : Int), N)) := (ls6.mono s7).cat g7.ls (s7 _ _ hb6) hA nB
          have s68 := s7.trans s8
          have I8 := I6.next (del_sub.trans s68) (I6.dr.mono s68)
          have hc8 : heapOf s8 c = some (.lst (r.map V.int)) := del_sub _ _ I8.il
          have memr : (x : Int) ∈ r := I6.p.mem_iff.mpr (List.mem_map.mpr ⟨x, List.mem_range.mpr (by omega), rfl⟩)
          obtain ⟨j, hj, hno⟩ := ex_idx memr
          have hj2 : j < r.length := (List.getElem?_eq_some_iff.mp hj).1
          have lr : r.length = N.toNat := by rw [I6.p.length_eq, ran_len]
          refine ⟨_, rfl, .inl ⟨rfl, _, SqL.of hc8⟩, _, rfl, c, r.map V.int, .int (x : Int), j, .int (x : Int), rfl, rfl, SqL.of hc8, rfl, List.all_eq_true.mpr (fun v hv => by obtain ⟨i, _, rfl⟩ := List.mem_map.mp hv; rfl), by rw [List.getElem?_map, hj]; rfl, by show ((x : Int) == (x : Int)) = true; simp, fun m z' hm hz => ?_, _, _, rfl, rfl, ?_⟩
          · obtain ⟨i, hi, rfl⟩ := ints_val hz
            have := hno m hm i hi
            show ((i : Int) == (x : Int)) = false
            simpa using this
          refine ⟨_, rfl, _, rfl, _, rfl, c, _, rfl, SqL.of hc8, fun k1 m1 => ?_⟩
          have ej : ((j : Nat) : Int) + 1 = ((j + 1 : Nat) : Int) := rfl
          rw [ej, cut_take]
          have q1 := same_upd (o := .lst ((r.map V.int).take (j + 1))) m1
          refine ⟨_, rfl, by show 1 ≤ sizeLine; decide, fun k2 m2 => ?_⟩
          have q2 := same_upd (o := .lst [.int N]) m2
          refine ⟨k1, k2, _, _, rfl, rfl, q2 _ _ upd_same, upd_same, ?_, fun k3 m3 => ?_⟩
          · rw [List.length_take, List.length_map, sizeLine_eq]
            show _ + 1 ≤ _
            omega
          have q3 := same_upd (o := .lst ((r.map V.int).take (j + 1) ++ [.int N])) m3
          refine ⟨_, rfl, _, rfl, _, rfl, c, _, rfl, SqL.of ((q1.trans (q2.trans q3)) _ _ hc8), fun k4 m4 => ?_⟩
          rw [ej, cut_drop _ _ (by rw [List.length_map]; omega)]
          have q4 := same_upd (o := .lst ((r.map V.int).drop (j + 1))) m4
          refine ⟨k3, k4, _, _, rfl, rfl, q4 _ _ upd_same, upd_same, ?_, fun k5 m5 => ?_⟩
          · rw [List.length_append, List.length_take, List.length_drop, List.length_map, sizeLine_eq]
            show _ + 1 + _ ≤ _
            omega
          have q5 := same_upd (o := .lst ((r.map V.int).take (j + 1) ++ [.int N] ++ (r.map V.int).drop (j + 1))) m5
          have q15 := ((q1.trans q2).trans q3).trans (q4.trans q5)
          have I9 := I8.next (del_sub.trans q15) (I8.dr.mono q15)
          have dr8 := I8.dr
          have Bd : B' ≠ d := (I6.dr.mono s7).ne nB
          have k5d : k5 ≠ d := (I8.dr.mono (((q1.trans q2).trans q3).trans q4)).ne m5
          refine ⟨_, rfl, _, _, rfl, rfl, N + 1, ps ++ (nearOf N ps x ++ [x]).map (fun (y : Nat) => ((y : Int), N)), r.take (j + 1) ++ [N] ++ r.drop (j + 1), B', k5, _, _, _, _, rfl, I9.sm, I9.dr, (lsB.mono q15).del I9.dr Bd, IL.del (by show (upd _ _ _) _ = _; rw [upd_same, List.map_append, List.map_append, List.map_take, List.map_drop]; rfl) k5d, by have := I6.N4; omega, by omega, ?_, ?_, ?_⟩
          · refine List.nodup_append.mpr ⟨I6.ndp, List.pairwise_map.mpr (List.Pairwise.imp (fun {a b} ne e => ne (by have := (Prod.ext_iff.mp e).1; dsimp only at this; omega)) nd6), fun z h1 z' h2 e => ?_⟩
            subst e
            obtain ⟨y, _, rfl⟩ := List.mem_map.mp h2
            have := I6.rng _ h1
            dsimp only at this
            omega
          · intro z hz
            rcases List.mem_append.mp hz with h | h
            · have := I6.rng z h
              omega
            · obtain ⟨y, hy, rfl⟩ := List.mem_map.mp h
              have := lt6 y hy
              dsimp only
              omega
          · have e : (N + 1).toNat = N.toNat + 1 := by have := I6.N4; omega
            have eN : ((N.toNat : Nat) : Int) = N := by have := I6.N4; omega
            rw [e, ran_succ, eN]
            refine (perm_put r N (j + 1)).trans ?_
            refine List.Perm.trans (.cons N I6.p) ?_
            exact (List.perm_append_singleton N (ran N.toNat)).symm
      · rw [show (u == 1) = false by simpa using eu]
        refine iteF ?_
        have I6 := I3.next s35 dr5
        obtain ⟨bs, hb6, _⟩ := id (I6.ls.mono del_sub)
        have ls6 := I6.ls.mono del_sub
        refine ⟨_, rfl, _, rfl, t', rfl, ⟨_, SqL.of ht5⟩, fun G nG => ?_⟩
        refine lc_list (K := K) (a := t') (xs := nvs (nearOf N ps x)) (fun i H' => Same H5 H' ∧ Grow H' G (((nearOf N ps x).take i).map fun (y : Nat) => ((y : Int), N))) ⟨same_upd nG, [], upd_same, rfl, fun z hz => by cases hz⟩ (fun i H' _ z => SqL.of (z.1 _ _ ht5)) (fun i v H' hi z => ?_) (fun H7 z => ?_)
        · obtain ⟨s7, g7⟩ := z
          obtain ⟨y, hy, rfl⟩ := nvs_val hi
          obtain ⟨as, hA, lA, _⟩ := g7.at
          refine ⟨rfl, _, rfl, _, rfl, (by show 2 ≤ sizeLine; decide), fun u nu => ?_⟩
          have s8 : Same H' (upd H' u (.tup [.int (y : Int), .int N])) := same_upd nu
          have := take_room (nearOf N ps x) i
          refine ⟨as, s8 _ _ hA, by rw [lA, List.length_map, sizeLine_eq]; omega, same_keep nG (s7.trans s8), ?_⟩
          rw [take_at hy, List.map_append]
          exact g7.push nu hA
        · obtain ⟨s7, g7⟩ := z
          rw [nvs_len, List.take_length] at g7
          obtain ⟨as, hA, lA, _⟩ := g7.at
          rw [List.length_map] at lA
          have few := few28 (n := N) (by omega) I6.ndp I6.rng
          refine ⟨_, G, bs, as, rfl, rfl, s7 _ _ hb6, hA, by rw [ls6.len hb6, lA, sizeLine_eq]; omega, fun B' nB => ?_⟩
          have s8 := same_upd (o := .lst (bs ++ as)) nB
          have lsB : Ls (heapOf s8) B' (ps ++ (nearOf N ps x).map fun (y : Nat) => ((y : Int), N)) := (ls6.mono s7).cat g7.ls (s7 _ _ hb6) hA nB
          have s68 := s7.trans s8
          have I8 := I6.next (del_sub.trans s68) (I6.dr.mono s68)
          have hc8 : heapOf s8 c = some (.lst (r.map V.int)) := del_sub _ _ I8.il
          have memr : (x : Int) ∈ r := I6.p.mem_iff.mpr (List.mem_map.mpr ⟨x, List.mem_range.mpr (by omega), rfl⟩)
          obtain ⟨j, hj, hno⟩ := ex_idx memr
          have hj2 : j < r.length := (List.getElem?_eq_some_iff.mp hj).1
          have lr : r.length = N.toNat := by rw [I6.p.length_eq, ran_len]
          refine ⟨_, rfl, .inl ⟨rfl, _, SqL.of hc8⟩, _, rfl, c, r.map V.int, .int (x : Int), j, .int (x : Int), rfl, rfl, SqL.of hc8, rfl, List.all_eq_true.mpr (fun v hv => by obtain ⟨i, _, rfl⟩ := List.mem_map.mp hv; rfl), by rw [List.getElem?_map, hj]; rfl, by show ((x : Int) == (x : Int)) = true; simp, fun m z' hm hz => ?_, _, _, rfl, rfl, ?_⟩
          · obtain ⟨i, hi, rfl⟩ := ints_val hz
            have := hno m hm i hi
            show ((i : Int) == (x : Int)) = false
            simpa using this
          refine ⟨_, rfl, _, rfl, _, rfl, c, _, rfl, SqL.of hc8, fun k1 m1 => ?_⟩
          have ej : ((j : Nat) : Int) + 1 = ((j + 1 : Nat) : Int) := rfl
          rw [ej, cut_take]
          have q1 := same_upd (o := .lst ((r.map V.int).take (j + 1))) m1
          refine ⟨_, rfl, by show 1 ≤ sizeLine; decide, fun k2 m2 => ?_⟩
          have q2 := same_upd (o := .lst [.int N]) m2
          refine ⟨k1, k2, _, _, rfl, rfl, q2 _ _ upd_same, upd_same, ?_, fun k3 m3 => ?_⟩
          · rw [List.length_take, List.length_map, sizeLine_eq]
            show _ + 1 ≤ _
            omega
          have q3 := same_upd (o := .lst ((r.map V.int).take (j + 1) ++ [.int N])) m3
          refine ⟨_, rfl, _, rfl, _, rfl, c, _, rfl, SqL.of ((q1.trans (q2.trans q3)) _ _ hc8), fun k4 m4 => ?_⟩
          rw [ej, cut_drop _ _ (by rw [List.length_map]; omega)]
          have q4 := same_upd (o := .lst ((r.map V.int).drop (j + 1))) m4
          refine ⟨k3, k4, _, _, rfl, rfl, q4 _ _ upd_same, upd_same, ?_, fun k5 m5 => ?_⟩
          · rw [List.length_append, List.length_take, List.length_drop, List.length_map, sizeLine_eq]
            show _ + 1 + _ ≤ _
            omega
          have q5 := same_upd (o := .lst ((r.map V.int).take (j + 1) ++ [.int N] ++ (r.map V.int).drop (j + 1))) m5
          have q15 := ((q1.trans q2).trans q3).trans (q4.trans q5)
          have I9 := I8.next (del_sub.trans q15) (I8.dr.mono q15)
          have dr8 := I8.dr
          have Bd : B' ≠ d := (I6.dr.mono s7).ne nB
          have k5d : k5 ≠ d := (I8.dr.mono (((q1.trans q2).trans q3).trans q4)).ne m5
          refine ⟨_, rfl, _, _, rfl, rfl, N + 1, ps ++ (nearOf N ps x).map (fun (y : Nat) => ((y : Int), N)), r.take (j + 1) ++ [N] ++ r.drop (j + 1), B', k5, _, _, _, _, rfl, I9.sm, I9.dr, (lsB.mono q15).del I9.dr Bd, IL.del (by show (upd _ _ _) _ = _; rw [upd_same, List.map_append, List.map_append, List.map_take, List.map_drop]; rfl) k5d, by have := I6.N4; omega, by omega, ?_, ?_, ?_⟩
          · refine List.nodup_append.mpr ⟨I6.ndp, List.pairwise_map.mpr (List.Pairwise.imp (fun {a b} ne e => ne (by have := (Prod.ext_iff.mp e).1; dsimp only at this; omega)) ndn), fun z h1 z' h2 e => ?_⟩
            subst e
            obtain ⟨y, _, rfl⟩ := List.mem_map.mp h2
            have := I6.rng _ h1
            dsimp only at this
            omega
          · intro z hz
            rcases List.mem_append.mp hz with h | h
            · have := I6.rng z h
              omega
            · obtain ⟨y, hy, rfl⟩ := List.mem_map.mp h
              have := ltn y hy
              dsimp only
              omega
          · have e : (N + 1).toNat = N.toNat + 1 := by have := I6.N4; omega
            have eN : ((N.toNat : Nat) : Int) = N := by have := I6.N4; omega
            rw [e, ran_succ, eN]
            refine (perm_put r N (j + 1)).trans ?_
            refine List.Perm.trans (.cons N I6.p) ?_
            exact (List.perm_append_singleton N (ran N.toNat)).symm
    · obtain ⟨N, ps, r, b, c, o6, o7, o8, o10, rfl, I1⟩ := h
      have N4 := I1.N4; have N7 := I1.N7
      refine ⟨_, rfl, _, rfl, b, ps, rfl, I1.ls.mono del_sub, I1.ndp, fun H2 pA rs s2 np lp pw hm _ => ⟨_, rfl, (by show 3 ≤ sizeLine; decide), fun R nR => ?_⟩⟩
      have dr2 := I1.dr.mono s2
      have pd := I1.dr.ne np
      have I2 := I1.next (del_sub.trans s2) dr2
      obtain ⟨x1, x2, x3⟩ := cs_up (n := N) I2.sm dr2 (lp.del dr2 pd) I2.il nR
      exact k _ _ _ _ _ x1 x2 x3 ⟨⟨pw, fun z hz => I1.rng z ((hm z).mp hz)⟩, by omega, I1.p⟩ (by omega) N7
end
end K0
set_option Elab.async false
set_option linter.all false
set_option maxRecDepth 100000
set_option maxHeartbeats 4000000
namespace K0
open PySem PySem.Spec PyProof.Rows L2
section
variable {P : Program} {w : World} {K : PySem.W.Frag} {mg : Str → Option Value} {base : Heap} {f : Addr} {fd : FuncData}
abbrev s_ro : Stmt := top 53
abbrev s_fa : Stmt := top 55
/-- _law_row -/
def spRo : Sp := fun vs H Q _ => ∃ (d : Addr) (n : Int), vs = [.ref d, .int n] ∧ 0 ≤ n ∧ n ≤ 16 ∧ DrO H d ∧ ∀ H' a r, Same (del H d) H' → DrO H' d → H a = none → IL (del H' d) a r → r.Perm (ran n.toNat) → Q (.ref a) H'
theorem sc_ro : FnScope ["_law_draws_here", "_law_many", "_law_rest", "_law_x", "_law_row_here", "_law_k", "_law_which", "_law_j"] ["_law_draws_here", "_law_many"] (defScope s_ro) := ⟨rfl, rfl, rfl, by decide +kernel, rfl, by decide +kernel, by decide +kernel⟩
structure RoI (H H' : Hp) (d c D : Addr) (n : Nat) (R W : List Int) : Prop where
  sm : Same (del H d) H'
  dr : DrO H' d
  il : IL (del H' d) c R
  iw : IL (del H' d) D W
  cD : c ≠ D
  p : (W ++ R).Perm (ran n)
theorem ok_ro (F : Fun K "_law_row" "_law_row" s_ro f fd) (B : Blt2 mg) (TK : Df P w K mg base "_law_take" 1 ["_law_draws_here", "_law_many"] spTk) : FnOk P w K mg base (L2.CX P w) 2 f fd ["_law_draws_here", "_law_many"] spRo := by
  refine F.okX sc_ro (fun vs H Q E h => ?_) (fun cdv A outer s H vs Q E hr h => ?_)
  · obtain ⟨d, n, rfl, _⟩ := h
    rfl
  · obtain ⟨d, n, rfl, n0, n16, dr, k⟩ := h
    have nd := sc_ro.nd
    have r1 : Room 1 _ := hr.mono (by decide)
    refine ⟨_, pss_cons (ps_set (i := 2) nd rfl (.inr rfl) (pe_lc (own := [("_law_x", 3)]) (g := gName 3) (tt := tYes) (te := tVar 3) rfl nd (pi_range1 (by rfl) B.range (pa_cons (pv 1) pa_nil))
        (blkOk_by (N := ["_law_draws_here", "_law_many", "_law_rest", "_law_x", "_law_row_here", "_law_k", "_law_which", "_law_j"]) (sc := defScope s_ro) (by decide +kernel)) (fun _ _ _ _ _ => pg_name (i := 3) nd rfl (.inl rfl)) (fun _ _ _ _ _ => pts_nil) (fun _ _ _ _ _ => pv 3)))
      (pss_cons (ps_set (i := 4) nd rfl (.inl rfl) (pe_lst pa_nil))
      (pss_cons (ps_for (passes_of rfl) rfl (pi_range1 (by rfl) B.range (pa_cons (pv 1) pa_nil)) (pg_name (i := 5) nd rfl (.inl rfl))
        (pss_cons (ps_set (i := 6) nd rfl (.inr rfl) (pe_df TK r1 (by rfl) passUp (pa_cons (pv 0) (pa_cons (pe_callB c_len (by rfl) B.len PySem.boot_len (pa_cons (pv 2) pa_nil)) pa_nil))))
        (pss_cons (ps_expr (pe_lapp (pv 4) (pa_cons (pe_ix ix_list (pv 2) (pv 6) (fun _ _ => rfl)) pa_nil)))
        (pss_one (ps_set (i := 2) nd rfl (.inr rfl) (pe_lc (own := [("_law_j", 7)]) (g := gName 7) (tt := tTest (tOp rNe (tVar 7) (tVar 6))) (te := tOp (rIxL K) (tVar 2) (tVar 7)) rfl nd
          (pi_range1 (by rfl) B.range (pa_cons (pe_callB c_len (by rfl) B.len PySem.boot_len (pa_cons (pv 2) pa_nil)) pa_nil)) (blkOk_by (N := ["_law_draws_here", "_law_many", "_law_rest", "_law_x", "_law_row_here", "_law_k", "_law_which", "_law_j"]) (sc := defScope s_ro) (by decide +kernel)) (fun _ _ _ _ _ => pg_name (i := 7) nd rfl (.inl rfl))
          (fun _ _ _ _ _ => pts_one (pt_cmpR op_ne (pv 7) (pv 6) (by rfl))) (fun _ _ _ _ _ => pe_ix ix_list (pv 2) (pv 7) (fun _ _ => rfl))))))))
      (pss_one (ps_ret (pv 4))))), ?_⟩
    refine ⟨_, rfl, n, rfl, by omega, by omega, fun C0 nC0 => ?_⟩
    refine lc_range (lo := 0) (n := n.toNat) (fun i H' => Same H H' ∧ IL H' C0 (ran i)) ⟨same_upd nC0, upd_same⟩ (fun i H' hi z => ?_) (fun H1 z => ?_)
    · rw [Int.zero_add]
      exact ⟨rfl, _, rfl, ran_step nC0 hi (by omega) z⟩
    obtain ⟨s1, hC0⟩ := z
    have dr1 := dr.mono s1
    have C0d := dr.ne nC0
    refine ⟨by show 0 ≤ sizeLine; exact Nat.zero_le _, fun D nD => ?_⟩
    have s2 := same_upd (o := .lst []) nD
    have Dd := dr1.ne nD
    have hD0 : H D = none := s1.free nD
    have C0D : C0 ≠ D := fun e => by rw [e] at hC0; rw [show H1 D = _ from hC0] at nD; cases nD
    let Pv : Nat → L2.St → Hp → Prop := fun i σ H' => ∃ (c : Addr) (o5 o6 : Option V) (R W : List Int), σ = [some (.ref d), some (.int n), some (.ref c), none, some (.ref D), o5, o6, none] ∧ RoI H H' d c D n.toNat R W ∧ R.length + i = n.toNat
    refine ⟨_, rfl, n, rfl, by omega, by omega, for_range (n := n.toNat) Pv ⟨C0, none, none, ran n.toNat, [], rfl, ⟨del_sub.trans (s1.trans s2), dr1.mono s2, IL.del (s2 _ _ hC0) C0d, IL.del upd_same Dd, C0D, by rw [List.nil_append]⟩, by rw [ran_len]; rfl⟩ (fun i σ H2 hi h => ?_) (fun σ H2 h => ?_)⟩
    · obtain ⟨c, o5, o6, R, W, rfl, I, lR⟩ := h
      have hc := del_sub _ _ I.il
      have lRW : R.length + W.length = n.toNat := by
        have := I.p.length_eq
        rw [List.length_append, ran_len] at this
        omega
      refine ⟨_, rfl, _, rfl, c, _, rfl, .inl (SqL.of hc), d, _, rfl, by rw [List.length_map]; omega, I.dr, fun wv H3 w0 w1 s3 dr3 => ?_⟩
      rw [List.length_map] at w1
      obtain ⟨wh, rfl⟩ := Int.eq_ofNat_of_zero_le w0
      have hw : wh < R.length := by omega
      have sm3 := sd_trans I.sm s3
      have il3 := (same_del s3) _ _ I.il
      have iw3 := (same_del s3) _ _ I.iw
      have hc3 : H3 c = some (.lst (R.map V.int)) := del_sub _ _ il3
      have hD3 : H3 D = some (.lst (W.map V.int)) := del_sub _ _ iw3
      have at_ : ∀ {i : Nat}, i < R.length → atI (R.map V.int) (i : Int) = some (.int (R.getD i 0)) := fun {i} hi => atI_nat (by rw [List.getElem?_map, List.getD_eq_getElem?_getD, List.getElem?_eq_getElem hi]; rfl)
      refine ⟨_, rfl, .inl ⟨rfl, _, SqL.of hD3⟩, _, rfl, _, rfl, c, _, _, _, rfl, rfl, SqL.of hc3, at_ hw, D, _, _, rfl, rfl, hD3, by rw [List.length_map, sizeLine_eq]; omega, ?_⟩
      have sm4 := sd_upd (o := .lst (W.map V.int ++ [.int (R.getD wh 0)])) sm3 hD0 Dd
      have dr4 : DrO (upd H3 D (.lst (W.map V.int ++ [.int (R.getD wh 0)]))) d := dr3.upd Dd
      have hc4 : (upd H3 D (.lst (W.map V.int ++ [.int (R.getD wh 0)]))) c = some (.lst (R.map V.int)) := by rw [upd_ne I.cD]; exact hc3
      have hD4 : (upd H3 D (.lst (W.map V.int ++ [.int (R.getD wh 0)]))) D = some (.lst ((W ++ [R.getD wh 0]).map V.int)) := by rw [upd_same, List.map_append]; rfl
      let Wk : Nat → List Int := fun i => (((List.range R.length).take i).filter fun k => !decide (k = wh)).map fun k => R.getD k 0
      refine ⟨_, rfl, c, _, rfl, .inl (SqL.of hc4), _, rfl, by rw [List.length_map]; omega, by rw [List.length_map]; omega, fun E nE => ?_⟩
      rw [List.length_map, Int.toNat_natCast]
      refine lc_range (lo := 0) (n := R.length) (fun i H' => Same (upd H3 D (.lst (W.map V.int ++ [.int (R.getD wh 0)]))) H' ∧ IL H' E (Wk i)) ⟨same_upd nE, upd_same⟩ (fun i H' hi z => ?_) (fun H' z => ?_)
      · obtain ⟨sm, hE⟩ := z
        rw [Int.zero_add]
        have eW : Wk (i + 1) = Wk i ++ (if i = wh then [] else [R.getD i 0]) := by
          show List.map _ _ = _
          rw [filter_take _ _ hi, List.map_append]
          congr 1
          by_cases e : i = wh <;> simp [e]
        have lW : (Wk i).length ≤ R.length := by
          show (List.map _ _).length ≤ _
          rw [List.length_map]
          refine Nat.le_trans (List.length_filter_le _ _) ?_
          rw [List.length_take, List.length_range]
          exact Nat.min_le_right _ _
        refine ⟨rfl, _, rfl, _, rfl, rfl, _, rfl, ?_⟩
        rw [dec_int]
        by_cases e : i = wh
        · rw [show (!(((i : Nat) : Int) == ((wh : Nat) : Int))) = false by simp [e]]
          refine iteF ⟨sm, ?_⟩
          rw [eW, if_pos e, List.append_nil]
          exact hE
        · rw [show (!(((i : Nat) : Int) == ((wh : Nat) : Int))) = true by simp; omega]
          refine iteT ⟨_, rfl, _, rfl, c, _, _, _, rfl, rfl, SqL.of (sm _ _ hc4), at_ hi, _, hE, by rw [List.length_map, sizeLine_eq]; omega, same_keep nE sm, ?_⟩
          show (upd _ _ _) _ = _
          rw [upd_same, eW, if_neg e, List.map_append]
          rfl
      · obtain ⟨sm, hE⟩ := z
        have eR : Wk R.length = ((List.range R.length).filter fun k => !decide (k = wh)).map fun k => R.getD k 0 := by
          show List.map _ _ = _
          rw [List.take_of_length_le (by rw [List.length_range]; exact Nat.le_refl _)]
        have pk := perm_pick R hw
        rw [← eR] at pk
        have lE := pk.length_eq
        rw [List.length_cons] at lE
        have Ed := dr4.ne nE
        have ED : E ≠ D := fun e => by rw [e, hD4] at nE; cases nE
        refine ⟨E, _, _, Wk R.length, W ++ [R.getD wh 0], rfl, ⟨sd_trans sm4 (del_sub.trans sm), dr4.mono sm, IL.del hE Ed, IL.del (sm _ _ hD4) Dd, ED, ?_⟩, by omega⟩
        rw [List.append_assoc]
        exact (List.Perm.append_left W pk).trans I.p
    · obtain ⟨c, o5, o6, R, W, rfl, I, lR⟩ := h
      have : R = [] := List.length_eq_zero_iff.mp (by omega)
      subst this
      have p := I.p
      rw [List.append_nil] at p
      exact ⟨_, rfl, k H2 D W I.sm I.dr hD0 I.iw p⟩
end
end K0
set_option Elab.async false
set_option linter.all false
set_option maxRecDepth 100000
set_option maxHeartbeats 4000000
namespace K0
open PySem PySem.Spec PyProof.Rows L2
section
variable {P : Program} {w : World} {K : PySem.W.Frag} {mg : Str → Option Value} {base : Heap} {f : Addr} {fd : FuncData}
abbrev s_fr : Stmt := top 54
/-- _law_falling -/
def spFa : Sp := fun vs H Q _ => ∃ (d : Addr) (n : Int), vs = [.ref d, .int n] ∧ 2 ≤ n ∧ n ≤ 16 ∧ DrO H d ∧ OutCs H d 2 n Q
theorem sc_fa : FnScope ["_law_draws_here", "_law_many", "_law_numbers", "_law_pairs", "_law_x", "_law_y"] ["_law_draws_here", "_law_many"] (defScope s_fa) := ⟨rfl, rfl, rfl, by decide +kernel, rfl, by decide +kernel, by decide +kernel⟩
theorem ok_fa (F : Fun K "_law_falling" "_law_falling" s_fa f fd) (B : Blt2 mg) (RO : Df P w K mg base "_law_row" 2 ["_law_draws_here", "_law_many"] spRo) : FnOk P w K mg base (L2.CX P w) 3 f fd ["_law_draws_here", "_law_many"] spFa := by
  refine F.okX sc_fa (fun vs H Q E h => ?_) (fun cdv A outer s H vs Q E hr h => ?_)
  · obtain ⟨d, n, rfl, _⟩ := h
    rfl
  · obtain ⟨d, n, rfl, n1, n16, dr, k⟩ := h
    have nd := sc_fa.nd
    have r2 : Room 2 _ := hr.mono (by decide)
    refine ⟨_, pss_cons (ps_set (i := 2) nd rfl (.inl rfl) (pe_df RO r2 (by rfl) passUp (pa_cons (pv 0) (pa_cons (pv 1) pa_nil))))
      (pss_cons (ps_set (i := 3) nd rfl (.inl rfl) (pe_lst pa_nil))
      (pss_cons (ps_for (passes_of rfl) rfl (pi_range1 (by rfl) B.range (pa_cons (pv 1) pa_nil)) (pg_name (i := 4) nd rfl (.inl rfl))
        (pss_one (ps_for (passes_of rfl) rfl (pi_range2 (by rfl) B.range (pa_cons (pe_op op_add (pv 4) pe_int) (pa_cons (pv 1) pa_nil))) (pg_name (i := 5) nd rfl (.inl rfl))
          (pss_one (ps_if (pt_cmpR op_gt (pe_ix ix_list (pv 2) (pv 4) (fun _ _ => rfl)) (pe_ix ix_list (pv 2) (pv 5) (fun _ _ => rfl)) (by rfl)) (pss_one (ps_expr (pe_lapp (pv 3) (pa_cons (pe_tup (pa_cons (pv 4) (pa_cons (pv 5) pa_nil))) pa_nil)))) pss_nil)))))
      (pss_one (ps_ret (pe_lst (pa_cons (pv 1) (pa_cons (pv 3) (pa_cons (pe_lc (own := [("_law_x", 4)]) (g := gName 4) (tt := tYes) (te := tVar 4) rfl nd (pi_range1 (by rfl) B.range (pa_cons (pv 1) pa_nil))
        (blkOk_by (N := ["_law_draws_here", "_law_many", "_law_numbers", "_law_pairs", "_law_x", "_law_y"]) (sc := defScope s_fa) (by decide +kernel)) (fun _ _ _ _ _ => pg_name (i := 4) nd rfl (.inl rfl)) (fun _ _ _ _ _ => pts_nil) (fun _ _ _ _ _ => pv 4)) pa_nil)))))))), ?_⟩
    refine ⟨_, rfl, _, rfl, d, n, rfl, by omega, n16, dr, fun H1 a r s1 dr1 na ha pr => ?_⟩
    have lr : r.length = n.toNat := by rw [pr.length_eq, ran_len]
    have ha1 : H1 a = some (.lst (r.map V.int)) := del_sub _ _ ha
    have at_ : ∀ {i : Nat}, i < r.length → atI (r.map V.int) (i : Int) = some (.int (r.getD i 0)) := fun {i} hi => atI_nat (by rw [List.getElem?_map, List.getD_eq_getElem?_getD, List.getElem?_eq_getElem hi]; rfl)
    refine ⟨by show 0 ≤ sizeLine; exact Nat.zero_le _, fun D nD => ?_⟩
    have Dd := dr1.ne nD
    let PP : Pr → Prop := fun z => r.getD z.2.toNat 0 < r.getD z.1.toNat 0
    let P1 : Nat → L2.St → Hp → Prop := fun i σ H' => ∃ o4 o5 rs, σ = [some (.ref d), some (.int n), some (.ref a), some (.ref D), o4, o5] ∧ Same H1 H' ∧ Grow H' D rs ∧ Lx n PP i (i + 1) rs
    refine ⟨_, rfl, n, rfl, by omega, by omega, for_range (n := n.toNat) P1 ⟨none, none, [], rfl, same_upd nD, ⟨[], upd_same, rfl, fun z hz => by cases hz⟩, by simpa using Lx.start⟩ (fun i σ H' hi h => ?_) (fun σ H' h => ?_)⟩
    · obtain ⟨o4, o5, rs, rfl, sm, g, lx⟩ := h
      rw [Int.zero_add]
      let P2 : Nat → L2.St → Hp → Prop := fun t σ H' => ∃ o5 rs, σ = [some (.ref d), some (.int n), some (.ref a), some (.ref D), some (.int (i : Int)), o5] ∧ Same H1 H' ∧ Grow H' D rs ∧ Lx n PP i ((i : Int) + 1 + t) rs
      refine ⟨_, rfl, _, _, rfl, rfl, _, rfl, _, _, rfl, ⟨by omega, by omega, by omega, by omega⟩, for_range (n := (n - ((i : Int) + 1)).toNat) P2 ⟨o5, rs, rfl, sm, g, by simpa using lx⟩ (fun t σ H2 ht h => ?_) (fun σ H2 h => ?_)⟩
      · obtain ⟨o5, rs, rfl, sm, g, lx⟩ := h
        have e0 : (i : Int) + 1 + t = ((i + 1 + t : Nat) : Int) := by omega
        rw [e0]
        have e1 : ((i + 1 + t : Nat) : Int) + 1 = (i : Int) + 1 + ((t + 1 : Nat) : Int) := by omega
        rw [e0] at lx
        refine ⟨_, rfl, _, rfl, a, _, _, _, rfl, rfl, SqL.of (sm _ _ ha1), at_ (by omega), _, rfl, _, rfl, a, _, _, _, rfl, rfl, SqL.of (sm _ _ ha1), at_ (by omega), _, _, rfl, rfl, _, rfl, ?_⟩
        by_cases lt : r.getD (i + 1 + t) 0 < r.getD i 0
        · rw [decide_eq_true lt]
          obtain ⟨xs, hx, lxs, _⟩ := g.at
          have few := lx.cl.few (by omega)
          refine iteT ⟨_, rfl, .inl ⟨rfl, xs, SqL.of hx⟩, _, rfl, _, rfl, (by show 2 ≤ sizeLine; decide), fun u nu => ?_⟩
          have s4 : Same H2 (upd H2 u (.tup [.int (i : Int), .int ((i + 1 + t : Nat) : Int)])) := same_upd nu
          refine ⟨D, xs, _, rfl, rfl, s4 _ _ hx, by rw [sizeLine_eq]; omega, _, rs ++ [((i : Int), ((i + 1 + t : Nat) : Int))], rfl, same_keep nD (sm.trans s4), g.push nu hx, ?_⟩
          have := lx.add (show PP ((i : Int), ((i + 1 + t : Nat) : Int)) from lt) ⟨by omega, by omega, by omega⟩
          rw [e1] at this
          exact this
        · rw [decide_eq_false lt]
          refine iteF ⟨_, rs, rfl, sm, g, ?_⟩
          have := lx.skip (show ¬ PP ((i : Int), ((i + 1 + t : Nat) : Int)) from lt)
          rw [e1] at this
          exact this
      · obtain ⟨o5, rs, rfl, sm, g, lx⟩ := h
        rw [show (i : Int) + 1 + ((n - ((i : Int) + 1)).toNat : Int) = n by omega] at lx
        refine ⟨_, _, rs, rfl, sm, g, ?_⟩
        have := lx.row
        rw [show (i : Int) + 2 = (i : Int) + 1 + 1 by omega] at this
        exact_mod_cast this
    · obtain ⟨o4, o5, rs, rfl, sm, g, lx⟩ := h
      rw [show ((n.toNat : Nat) : Int) = n by omega] at lx
      refine ⟨_, rfl, _, rfl, _, rfl, n, rfl, by omega, by omega, fun G nG => ?_⟩
      refine lc_range (lo := 0) (n := n.toNat) (fun i H2 => Same H' H2 ∧ IL H2 G (ran i)) ⟨same_upd nG, upd_same⟩ (fun i H2 hi z => ?_) (fun H2 z => ?_)
      · rw [Int.zero_add]
        exact ⟨rfl, _, rfl, ran_step nG hi (by omega) z⟩
      · obtain ⟨s4, hG⟩ := z
        refine ⟨(by show 3 ≤ sizeLine; decide), fun R nR => ?_⟩
        have dr2 := dr1.mono sm
        have dr4 := dr2.mono s4
        have Gd := dr2.ne nG
        obtain ⟨x1, x2, x3⟩ := cs_up (n := n) (sd_trans s1 (del_sub.trans (sm.trans s4))) dr4 ((g.ls.mono s4).del dr4 Dd) (hG.del Gd) nR
        exact k _ _ _ _ _ x1 x2 x3 ⟨lx.cl, by omega, .refl _⟩ (by omega) (Int.le_refl _)
end
end K0
set_option Elab.async false
set_option linter.all false
set_option maxRecDepth 100000
set_option maxHeartbeats 4000000
namespace K0
open PySem PySem.Spec PyProof.Rows L2
section
variable {P : Program} {w : World} {K : PySem.W.Frag} {mg : Str → Option Value} {base : Heap} {f : Addr} {fd : FuncData}
/-- _law_free -/
def spFr : Sp := fun vs H Q _ => ∃ (d : Addr) (n m : Int), vs = [.ref d, .int n, .int m] ∧ 2 ≤ n ∧ n ≤ 16 ∧ DrO H d ∧ OutCs H d 2 n Q
theorem sc_fr : FnScope ["_law_draws_here", "_law_many", "_law_left", "_law_pairs", "_law_x", "_law_y"] ["_law_draws_here", "_law_many", "_law_left"] (defScope s_fr) := ⟨rfl, rfl, rfl, by decide +kernel, rfl, by decide +kernel, by decide +kernel⟩
theorem ok_fr (F : Fun K "_law_free" "_law_free" s_fr f fd) (B : Blt2 mg) (TK : Df P w K mg base "_law_take" 1 ["_law_draws_here", "_law_many"] spTk) : FnOk P w K mg base (L2.CX P w) 2 f fd ["_law_draws_here", "_law_many", "_law_left"] spFr := by
  refine F.okX sc_fr (fun vs H Q E h => ?_) (fun cdv A outer s H vs Q E hr h => ?_)
  · obtain ⟨d, n, m, rfl, _⟩ := h
    rfl
  · obtain ⟨d, n, m, rfl, n1, n16, dr, k⟩ := h
    have nd := sc_fr.nd
    have r1 : Room 1 _ := hr.mono (by decide)
    refine ⟨_, pss_cons (ps_set (i := 3) nd rfl (.inl rfl) (pe_lst pa_nil))
      (pss_cons (ps_for (passes_of rfl) rfl (pi_range1 (by rfl) B.range (pa_cons (pv 1) pa_nil)) (pg_name (i := 4) nd rfl (.inl rfl))
        (pss_one (ps_for (passes_of rfl) rfl (pi_range2 (by rfl) B.range (pa_cons (pe_op op_add (pv 4) pe_int) (pa_cons (pv 1) pa_nil))) (pg_name (i := 5) nd rfl (.inl rfl))
          (pss_one (ps_if (PW.pt (pw_and (PW.pt (pw_or (pt_cmpR op_eq (pv 2) pe_int (nomark _)) (pw_or1 (pt_chain op_lt op_le (pv 4) (pv 2) (pv 5))))) (pw_and1 (pt_cmpR op_eq (pe_df TK r1 (by rfl) passUp (pa_cons (pv 0) (pa_cons pe_int pa_nil))) pe_int (nomark _)))))
            (pss_one (ps_expr (pe_lapp (pv 3) (pa_cons (pe_tup (pa_cons (pv 4) (pa_cons (pv 5) pa_nil))) pa_nil)))) pss_nil)))))
      (pss_one (ps_ret (pe_lst (pa_cons (pv 1) (pa_cons (pv 3) (pa_cons (pe_lc (own := [("_law_x", 4)]) (g := gName 4) (tt := tYes) (te := tVar 4) rfl nd (pi_range1 (by rfl) B.range (pa_cons (pv 1) pa_nil))
        (blkOk_by (N := ["_law_draws_here", "_law_many", "_law_left", "_law_pairs", "_law_x", "_law_y"]) (sc := defScope s_fr) (by decide +kernel)) (fun _ _ _ _ _ => pg_name (i := 4) nd rfl (.inl rfl)) (fun _ _ _ _ _ => pts_nil) (fun _ _ _ _ _ => pv 4)) pa_nil))))))), ?_⟩
    refine ⟨by show 0 ≤ sizeLine; exact Nat.zero_le _, fun D nD => ?_⟩
    have Dd := dr.ne nD
    let P1 : Nat → L2.St → Hp → Prop := fun i σ H' => ∃ o4 o5 rs P, σ = [some (.ref d), some (.int n), some (.int m), some (.ref D), o4, o5] ∧ Same (del H d) H' ∧ DrO H' d ∧ Grow (del H' d) D rs ∧ Lx n P i (i + 1) rs
    refine ⟨_, rfl, n, rfl, by omega, by omega, for_range (n := n.toNat) P1 ⟨none, none, [], fun _ => True, rfl, sd_upd del_sub nD Dd, dr.upd Dd, ⟨[], by rw [del_ne Dd, upd_same]; rfl, rfl, fun z hz => by cases hz⟩, by simpa using Lx.start⟩ (fun i σ H' hi h => ?_) (fun σ H' h => ?_)⟩
    · obtain ⟨o4, o5, rs, PP, rfl, sm, dr', g, lx⟩ := h
      rw [Int.zero_add]
      let P2 : Nat → L2.St → Hp → Prop := fun t σ H' => ∃ o5 rs P, σ = [some (.ref d), some (.int n), some (.int m), some (.ref D), some (.int (i : Int)), o5] ∧ Same (del H d) H' ∧ DrO H' d ∧ Grow (del H' d) D rs ∧ Lx n P i ((i : Int) + 1 + t) rs
      refine ⟨_, rfl, _, _, rfl, rfl, _, rfl, _, _, rfl, ⟨by omega, by omega, by omega, by omega⟩, for_range (n := (n - ((i : Int) + 1)).toNat) P2 ⟨o5, rs, PP, rfl, sm, dr', g, by simpa using lx⟩ (fun t σ H2 ht h => ?_) (fun σ H2 h => ?_)⟩
      · obtain ⟨o5, rs, PP, rfl, sm, dr', g, lx⟩ := h
        have r' : 0 ≤ (i : Int) ∧ (i : Int) < (i : Int) + 1 + t ∧ (i : Int) + 1 + t < n := by omega
        have e1 : (i : Int) + 1 + t + 1 = (i : Int) + 1 + ((t + 1 : Nat) : Int) := by omega
        have skip : ∀ {H3 : Hp}, Same (del H d) H3 → DrO H3 d → Grow (del H3 d) D rs → P2 (t + 1) [some (.ref d), some (.int n), some (.int m), some (.ref D), some (.int (i : Int)), some (.int ((i : Int) + 1 + (t : Int)))] H3 := fun {H3} sm3 dr3 g3 => by
          refine ⟨_, rs, fun z => PP z ∧ z ≠ ((i : Int), (i : Int) + 1 + t), rfl, sm3, dr3, g3, ?_⟩
          have lx' : Lx n (fun z => PP z ∧ z ≠ ((i : Int), (i : Int) + 1 + t)) i ((i : Int) + 1 + t) rs := lx.change fun z hz => ⟨fun h => ⟨h, fun h => by rw [h] at hz; dsimp only at hz; omega⟩, fun h => h.1⟩
          have := lx'.skip (fun z => z.2 rfl)
          rw [e1] at this
          exact this
        refine ⟨_, rfl, rfl, _, rfl, ?_⟩
        rw [dec_int]
        by_cases em : m = 0
        · rw [show (m == 0) = true by simpa using em]
          refine iteT ?_
          refine ⟨_, rfl, d, 2, rfl, by decide, dr', fun rr H3 r0 r2' s3 dr3 => ⟨rfl, _, rfl, ?_⟩⟩
          rw [dec_int]
          have sm3 := sd_trans sm s3
          have g3 := g.mono (same_del s3)
          by_cases er : rr = 1
          · rw [show (rr == 1) = true by simpa using er]
            obtain ⟨xs, hx, lxs, _⟩ := g3.at
            have hx3 : H3 D = some (.lst xs) := by rw [del_ne Dd] at hx; exact hx
            have few := lx.cl.few (by omega)
            refine iteT ⟨_, rfl, .inl ⟨rfl, xs, SqL.of hx3⟩, _, rfl, _, rfl, (by show 2 ≤ sizeLine; decide), fun u nu => ?_⟩
            have ud := dr3.ne nu
            have s4 : Same H3 (upd H3 u (.tup [.int (i : Int), .int ((i : Int) + 1 + t)])) := same_upd nu
            refine ⟨D, xs, _, rfl, rfl, s4 _ _ hx3, by rw [sizeLine_eq]; omega, ?_⟩
            refine ⟨_, rs ++ [((i : Int), (i : Int) + 1 + t)], fun z => PP z ∨ z = ((i : Int), (i : Int) + 1 + t), rfl, sd_upd (sd_upd sm3 (sd_none sm3 nu ud) ud) nD Dd, (dr3.upd ud).upd Dd, ?_, ?_⟩
            · rw [del_upd_ne Dd, del_upd_ne ud]
              exact g3.push (by rw [del_ne ud]; exact nu) hx
            · have lx' : Lx n (fun z => PP z ∨ z = ((i : Int), (i : Int) + 1 + t)) i ((i : Int) + 1 + t) rs := lx.change fun z hz => ⟨.inl, fun h => h.elim (fun h => h) fun h => by rw [h] at hz; dsimp only at hz; omega⟩
              have := lx'.add (.inr rfl) r'
              rw [e1] at this
              exact this
          · rw [show (rr == 1) = false by simpa using er]
            exact iteF (skip sm3 dr3 g3)
        · rw [show (m == 0) = false by simpa using em]
          refine iteF ⟨_, rfl, _, rfl, _, _, rfl, rfl, _, rfl, ?_⟩
          by_cases c1 : (i : Int) < m
          · rw [decide_eq_true c1]
            refine iteT ⟨_, rfl, _, _, rfl, rfl, _, rfl, ?_⟩
            by_cases c2 : m ≤ (i : Int) + 1 + t
            · rw [decide_eq_true c2]
              refine iteT ?_
              refine ⟨_, rfl, d, 2, rfl, by decide, dr', fun rr H3 r0 r2' s3 dr3 => ⟨rfl, _, rfl, ?_⟩⟩
              rw [dec_int]
              have sm3 := sd_trans sm s3
              have g3 := g.mono (same_del s3)
              by_cases er : rr = 1
              · rw [show (rr == 1) = true by simpa using er]
                obtain ⟨xs, hx, lxs, _⟩ := g3.at
                have hx3 : H3 D = some (.lst xs) := by rw [del_ne Dd] at hx; exact hx
                have few := lx.cl.few (by omega)
                refine iteT ⟨_, rfl, .inl ⟨rfl, xs, SqL.of hx3⟩, _, rfl, _, rfl, (by show 2 ≤ sizeLine; decide), fun u nu => ?_⟩
                have ud := dr3.ne nu
                have s4 : Same H3 (upd H3 u (.tup [.int (i : Int), .int ((i : Int) + 1 + t)])) := same_upd nu
                refine ⟨D, xs, _, rfl, rfl, s4 _ _ hx3, by rw [sizeLine_eq]; omega, ?_⟩
                refine ⟨_, rs ++ [((i : Int), (i : Int) + 1 + t)], fun z => PP z ∨ z = ((i : Int), (i : Int) + 1 + t), rfl, sd_upd (sd_upd sm3 (sd_none sm3 nu ud) ud) nD Dd, (dr3.upd ud).upd Dd, ?_, ?_⟩
                · rw [del_upd_ne Dd, del_upd_ne ud]
                  exact g3.push (by rw [del_ne ud]; exact nu) hx
                · have lx' : Lx n (fun z => PP z ∨ z = ((i : Int), (i : Int) + 1 + t)) i ((i : Int) + 1 + t) rs := lx.change fun z hz => ⟨.inl, fun h => h.elim (fun h => h) fun h => by rw [h] at hz; dsimp only at hz; omega⟩
                  have := lx'.add (.inr rfl) r'
                  rw [e1] at this
                  exact this
              · rw [show (rr == 1) = false by simpa using er]
                exact iteF (skip sm3 dr3 g3)
            · rw [decide_eq_false c2]
              exact iteF (iteF (skip sm dr' g))
          · rw [decide_eq_false c1]
            exact iteF ⟨false, rfl, iteF (iteF (skip sm dr' g))⟩
      · obtain ⟨o5, rs, PP, rfl, sm, dr', g, lx⟩ := h
        rw [show (i : Int) + 1 + ((n - ((i : Int) + 1)).toNat : Int) = n by omega] at lx
        refine ⟨_, _, rs, PP, rfl, sm, dr', g, ?_⟩
        have := lx.row
        rw [show (i : Int) + 2 = (i : Int) + 1 + 1 by omega] at this
        exact_mod_cast this
    · obtain ⟨o4, o5, rs, PP, rfl, sm, dr', g, lx⟩ := h
      rw [show ((n.toNat : Nat) : Int) = n by omega] at lx
      refine ⟨_, rfl, _, rfl, _, rfl, n, rfl, by omega, by omega, fun G nG => ?_⟩
      refine lc_range (lo := 0) (n := n.toNat) (fun i H2 => Same H' H2 ∧ IL H2 G (ran i)) ⟨same_upd nG, upd_same⟩ (fun i H2 hi z => ?_) (fun H2 z => ?_)
      · rw [Int.zero_add]
        exact ⟨rfl, _, rfl, ran_step nG hi (by omega) z⟩
      · obtain ⟨s4, hG⟩ := z
        refine ⟨(by show 3 ≤ sizeLine; decide), fun R nR => ?_⟩
        have dr4 := dr'.mono s4
        have Gd := dr'.ne nG
        obtain ⟨x1, x2, x3⟩ := cs_up (n := n) (sd_trans sm (del_sub.trans s4)) dr4 (g.ls.mono (delF s4)) (hG.del Gd) nR
        exact k _ _ _ _ _ x1 x2 x3 ⟨lx.cl, by omega, .refl _⟩ (by omega) (Int.le_refl _)
end
end K0
set_option Elab.async false
set_option linter.all false
set_option maxRecDepth 100000
set_option maxHeartbeats 4000000
namespace K0
open PySem PySem.Spec PyProof.Rows L2
section
variable {P : Program} {w : World} {K : PySem.W.Frag} {mg : Str → Option Value} {base : Heap} {f : Addr} {fd : FuncData}
abbrev s_st' : Stmt := top 52
/-- _law_stretches -/
def spStr : Sp := fun vs H Q _ => ∃ (d : Addr) (n : Int), vs = [.ref d, .int n] ∧ 2 ≤ n ∧ n ≤ 16 ∧ DrO H d ∧ OutCs H d 2 n Q
theorem sc_st' : FnScope ["_law_draws_here", "_law_many", "_law_spans", "_law_x", "_law_start", "_law_pairs", "_law_y", "_law_span"] ["_law_draws_here", "_law_many"] (defScope s_st') := ⟨rfl, rfl, rfl, by decide +kernel, rfl, by decide +kernel, by decide +kernel⟩
structure SpnOk (i : Nat) (W : List Rw) : Prop where
  l : W.length = i
  r : ∀ (j : Nat) (r : Rw), W[j]? = some r → ∃ s e : Int, r = [s, e, (j : Int)] ∧ 0 ≤ s ∧ s ≤ 6 ∧ 0 ≤ e ∧ e ≤ 9
theorem SpnOk.add {i : Nat} {W : List Rw} {s e : Int} (h : SpnOk i W) (s0 : 0 ≤ s) (s6 : s ≤ 6) (e0 : 0 ≤ e) (e9 : e ≤ 9) : SpnOk (i + 1) (W ++ [[s, e, (i : Int)]]) := by
  refine ⟨by rw [List.length_append, h.l]; rfl, fun j r hj => ?_⟩
  by_cases lt : j < W.length
  · rw [List.getElem?_append_left lt] at hj
    exact h.r j r hj
  · have e2 : j = W.length := by
      have := (List.getElem?_eq_some_iff.mp hj).1
      rw [List.length_append] at this
      simp at this
      omega
    subst e2
    rw [List.getElem?_append_right (Nat.le_refl _), Nat.sub_self] at hj
    cases hj
    exact ⟨s, e, by rw [h.l], s0, s6, e0, e9⟩
theorem SpnOk.third {i : Nat} {W : List Rw} (h : SpnOk i W) : W.map (fun r => r.getD 2 0) = ran i := by
  refine List.ext_getElem? fun j => ?_
  unfold ran
  rw [List.getElem?_map, List.getElem?_map]
  by_cases lt : j < W.length
  · rw [List.getElem?_eq_getElem lt, List.getElem?_range (by have := h.l; omega)]
    obtain ⟨s, e, er, _⟩ := h.r j _ (List.getElem?_eq_getElem lt)
    rw [er]
    rfl
  · rw [List.getElem?_eq_none (by omega), List.getElem?_eq_none (by rw [List.length_range]; have := h.l; omega)]
    rfl
theorem ok_str (F : Fun K "_law_stretches" "_law_stretches" s_st' f fd) (B : Blt2 mg) (TK : Df P w K mg base "_law_take" 1 ["_law_draws_here", "_law_many"] spTk) : FnOk P w K mg base (L2.CX P w) 2 f fd ["_law_draws_here", "_law_many"] spStr := by
  refine F.okX sc_st' (fun vs H Q E h => ?_) (fun cdv A outer s H vs Q E hr h => ?_)
  · obtain ⟨d, n, rfl, _⟩ := h
    rfl
  · obtain ⟨d, n, rfl, n1, n16, dr, k⟩ := h
    have nd := sc_st'.nd
    have r1 : Room 1 _ := hr.mono (by decide)
    refine ⟨_, pss_cons (ps_set (i := 2) nd rfl (.inl rfl) (pe_lst pa_nil))
      (pss_cons (ps_for (passes_of rfl) rfl (pi_range1 (by rfl) B.range (pa_cons (pv 1) pa_nil)) (pg_name (i := 3) nd rfl (.inl rfl))
        (pss_cons (ps_set (i := 4) nd rfl (.inl rfl) (pe_df TK r1 (by rfl) passUp (pa_cons (pv 0) (pa_cons pe_int pa_nil))))
        (pss_one (ps_expr (pe_lapp (pv 2) (pa_cons (pe_tup (pa_cons (pv 4) (pa_cons (pe_op op_add (pv 4) (pe_df TK r1 (by rfl) passUp (pa_cons (pv 0) (pa_cons pe_int pa_nil)))) (pa_cons (pv 3) pa_nil)))) pa_nil))))))
      (pss_cons (ps_set (i := 5) nd rfl (.inl rfl) (pe_lst pa_nil))
      (pss_cons (ps_for (passes_of rfl) rfl (pi_range1 (by rfl) B.range (pa_cons (pv 1) pa_nil)) (pg_name (i := 3) nd rfl (.inl rfl))
        (pss_one (ps_for (passes_of rfl) rfl (pi_range2 (by rfl) B.range (pa_cons (pe_op op_add (pv 3) pe_int) (pa_cons (pv 1) pa_nil))) (pg_name (i := 6) nd rfl (.inl rfl))
          (pss_one (ps_if (pt_cmpR op_le (pe_callB (c_max rfl) (by rfl) B.max (by decide +kernel) (pa_cons (pe_ix ix_tup (pe_ix ix_list (pv 2) (pv 3) (fun _ _ => rfl)) pe_int (fun _ _ => rfl)) (pa_cons (pe_ix ix_tup (pe_ix ix_list (pv 2) (pv 6) (fun _ _ => rfl)) pe_int (fun _ _ => rfl)) pa_nil)))
              (pe_callB (c_min rfl) (by rfl) B.min (by decide +kernel) (pa_cons (pe_ix ix_tup (pe_ix ix_list (pv 2) (pv 3) (fun _ _ => rfl)) pe_int (fun _ _ => rfl)) (pa_cons (pe_ix ix_tup (pe_ix ix_list (pv 2) (pv 6) (fun _ _ => rfl)) pe_int (fun _ _ => rfl)) pa_nil))) (by rfl))
            (pss_one (ps_expr (pe_lapp (pv 5) (pa_cons (pe_tup (pa_cons (pv 3) (pa_cons (pv 6) pa_nil))) pa_nil)))) pss_nil)))))
      (pss_one (ps_ret (pe_lst (pa_cons (pv 1) (pa_cons (pv 5) (pa_cons (pe_lc (own := [("_law_span", 7)]) (g := gName 7) (tt := tYes) (te := tOp (rIxT K) (tVar 7) (tC (.int 2))) rfl nd (pi_list (pe_callB (cr_srtW (d := 3) (by decide)) (by rfl) B.sorted (by decide +kernel) (pa_cons (pv 2) pa_nil)))
        (blkOk_by (N := ["_law_draws_here", "_law_many", "_law_spans", "_law_x", "_law_start", "_law_pairs", "_law_y", "_law_span"]) (sc := defScope s_st') (by decide +kernel)) (fun _ _ _ _ _ => pg_name (i := 7) nd rfl (.inl rfl)) (fun _ _ _ _ _ => pts_nil) (fun _ _ _ _ _ => pe_ix ix_tup (pv 7) pe_int (fun _ _ => rfl))) pa_nil))))))))), ?_⟩
    refine ⟨by show 0 ≤ sizeLine; exact Nat.zero_le _, fun S nS => ?_⟩
    have Sd := dr.ne nS
    let P0 : Nat → L2.St → Hp → Prop := fun i σ H' => ∃ o3 o4 W, σ = [some (.ref d), some (.int n), some (.ref S), o3, o4, none, none, none] ∧ Same (del H d) H' ∧ DrO H' d ∧ GrowR (del H' d) S W ∧ SpnOk i W
    refine ⟨_, rfl, n, rfl, by omega, by omega, for_range (n := n.toNat) P0 ⟨none, none, [], rfl, sd_upd del_sub nS Sd, dr.upd Sd, ⟨[], by rw [del_ne Sd, upd_same]; rfl, rfl, fun z hz => by cases hz⟩, rfl, fun j r hj => by simp at hj⟩ (fun i σ H' hi h => ?_) (fun σ H1 h => ?_)⟩
    · obtain ⟨o3, o4, W, rfl, sm, dr', g, sk⟩ := h
      rw [Int.zero_add]
      refine ⟨_, rfl, d, 7, rfl, by decide, dr', fun a H2 a0 a7 s2 dr2 => ?_⟩
      have g2 := g.mono (same_del s2)
      obtain ⟨xs, hx, lxs, _⟩ := g2.at
      have hx2 : H2 S = some (.lst xs) := by rw [del_ne Sd] at hx; exact hx
      refine ⟨_, rfl, .inl ⟨rfl, xs, SqL.of hx2⟩, _, rfl, _, rfl, _, rfl, d, 4, rfl, by decide, dr2, fun b H3 b0 b4 s3 dr3 => ⟨_, _, rfl, rfl, _, rfl, (by show 3 ≤ sizeLine; decide), fun u nu => ?_⟩⟩
      have g3 := g2.mono (same_del s3)
      have hx3 : H3 S = some (.lst xs) := s3 _ _ hx
      have hxd : (del H3 d) S = some (.lst xs) := (same_del s3) _ _ hx
      have sm3 := sd_trans (sd_trans sm s2) s3
      have ud := dr3.ne nu
      have s4 : Same H3 (upd H3 u (.tup (([a, a + b, (i : Int)] : Rw).map V.int))) := same_upd nu
      have lW := sk.l
      refine ⟨S, xs, _, rfl, rfl, s4 _ _ hx3, by rw [lxs, sizeLine_eq]; omega, _, _, W ++ [[a, a + b, (i : Int)]], rfl, sd_upd (sd_upd sm3 (sd_none sm3 nu ud) ud) nS Sd, (dr3.upd ud).upd Sd, ?_, sk.add a0 (by omega) (by omega) (by omega)⟩
      rw [del_upd_ne Sd, del_upd_ne ud]
      exact g3.push (r := [a, a + b, (i : Int)]) (by rw [del_ne ud]; exact nu) hxd
    · obtain ⟨o3, o4, W, rfl, sm1, dr1, g1, sk⟩ := h
      have gS := g1.mono del_sub
      obtain ⟨xs, hx, lxs, dx⟩ := gS.at
      have lW := sk.l
      have spn : ∀ {i : Nat} {H' : Hp}, Same H1 H' → i < n.toNat → ∃ (a : Addr) (s e : Int), xs[i]? = some (.ref a) ∧ H' a = some (.tup [.int s, .int e, .int (i : Int)]) := fun {i H'} sm hi => by
        have hi2 : i < xs.length := by omega
        obtain ⟨r, a, hr', ea, ha⟩ := dta_row (dx.mono sm) (List.getElem?_eq_getElem hi2)
        obtain ⟨s, e, er, _⟩ := sk.r i r hr'
        exact ⟨a, s, e, by rw [List.getElem?_eq_getElem hi2, ea], by rw [er] at ha; exact ha⟩
      refine ⟨by show 0 ≤ sizeLine; exact Nat.zero_le _, fun D nD => ?_⟩
      have Dd := dr1.ne nD
      let P1 : Nat → L2.St → Hp → Prop := fun i σ H' => ∃ o3 o6 rs P, σ = [some (.ref d), some (.int n), some (.ref S), o3, o4, some (.ref D), o6, none] ∧ Same H1 H' ∧ Grow H' D rs ∧ Lx n P i (i + 1) rs
      refine ⟨_, rfl, n, rfl, by omega, by omega, for_range (n := n.toNat) P1 ⟨_, none, [], fun _ => True, rfl, same_upd nD, ⟨[], upd_same, rfl, fun z hz => by cases hz⟩, by simpa using Lx.start⟩ (fun i σ H' hi h => ?_) (fun σ H' h => ?_)⟩
      · obtain ⟨o3, o6, rs, PP, rfl, sm, g, lx⟩ := h
        rw [Int.zero_add]
        let P2 : Nat → L2.St → Hp → Prop := fun t σ H' => ∃ o6 rs P, σ = [some (.ref d), some (.int n), some (.ref S), some (.int (i : Int)), o4, some (.ref D), o6, none] ∧ Same H1 H' ∧ Grow H' D rs ∧ Lx n P i ((i : Int) + 1 + t) rs
        refine ⟨_, rfl, _, _, rfl, rfl, _, rfl, _, _, rfl, ⟨by omega, by omega, by omega, by omega⟩, for_range (n := (n - ((i : Int) + 1)).toNat) P2 ⟨o6, rs, PP, rfl, sm, g, by simpa using lx⟩ (fun t σ H2 ht h => ?_) (fun σ H2 h => ?_)⟩
        · obtain ⟨o6, rs, PP, rfl, sm, g, lx⟩ := h
          have e0 : (i : Int) + 1 + t = ((i + 1 + t : Nat) : Int) := by omega
          rw [e0]
          rw [e0] at lx
          have r' : 0 ≤ (i : Int) ∧ (i : Int) < ((i + 1 + t : Nat) : Int) ∧ ((i + 1 + t : Nat) : Int) < n := by omega
          have e1 : ((i + 1 + t : Nat) : Int) + 1 = (i : Int) + 1 + ((t + 1 : Nat) : Int) := by omega
          obtain ⟨x1, s1, t1, hx1, hh1⟩ := spn sm hi
          obtain ⟨x2, s2, t2, hx2, hh2⟩ := spn (i := i + 1 + t) sm (by omega)
          have hS := sm _ _ hx
          refine ⟨_, rfl, _, rfl, S, xs, _, _, rfl, rfl, SqL.of hS, atI_nat hx1, x1, _, 0, _, rfl, rfl, SqT.of hh1, rfl, _, rfl, _, rfl, S, xs, _, _, rfl, rfl, SqL.of hS, atI_nat hx2, x2, _, 0, _, rfl, rfl, SqT.of hh2, rfl, _, _, rfl, ?_⟩
          refine ⟨_, rfl, _, rfl, S, xs, _, _, rfl, rfl, SqL.of hS, atI_nat hx1, x1, _, 1, _, rfl, rfl, SqT.of hh1, rfl, _, rfl, _, rfl, S, xs, _, _, rfl, rfl, SqL.of hS, atI_nat hx2, x2, _, 1, _, rfl, rfl, SqT.of hh2, rfl, _, _, rfl, _, _, rfl, rfl, _, rfl, ?_⟩
          refine ite2 (fun _ => ?_) (fun _ => ?_)
          case refine_1 =>
            obtain ⟨zs, hz, lz, _⟩ := g.at
            have few := lx.cl.few (by omega)
            refine ⟨_, rfl, .inl ⟨rfl, zs, SqL.of hz⟩, _, rfl, _, rfl, (by show 2 ≤ sizeLine; decide), fun u nu => ?_⟩
            have s4 : Same H2 (upd H2 u (.tup [.int (i : Int), .int ((i + 1 + t : Nat) : Int)])) := same_upd nu
            refine ⟨D, zs, _, rfl, rfl, s4 _ _ hz, by rw [sizeLine_eq]; omega, _, rs ++ [((i : Int), ((i + 1 + t : Nat) : Int))], fun z => PP z ∨ z = ((i : Int), ((i + 1 + t : Nat) : Int)), rfl, same_keep nD (sm.trans s4), g.push nu hz, ?_⟩
            have lx' : Lx n (fun z => PP z ∨ z = ((i : Int), ((i + 1 + t : Nat) : Int))) i ((i + 1 + t : Nat) : Int) rs := lx.change fun z hz => ⟨.inl, fun h => h.elim (fun h => h) fun h => by rw [h] at hz; dsimp only at hz; omega⟩
            have := lx'.add (.inr rfl) r'
            rw [e1] at this
            exact this
          case refine_2 =>
            refine ⟨_, rs, fun z => PP z ∧ z ≠ ((i : Int), ((i + 1 + t : Nat) : Int)), rfl, sm, g, ?_⟩
            have lx' : Lx n (fun z => PP z ∧ z ≠ ((i : Int), ((i + 1 + t : Nat) : Int))) i ((i + 1 + t : Nat) : Int) rs := lx.change fun z hz => ⟨fun h => ⟨h, fun h => by rw [h] at hz; dsimp only at hz; omega⟩, fun h => h.1⟩
            have := lx'.skip (fun z => z.2 rfl)
            rw [e1] at this
            exact this
        · obtain ⟨o6, rs, PP, rfl, sm, g, lx⟩ := h
          rw [show (i : Int) + 1 + ((n - ((i : Int) + 1)).toNat : Int) = n by omega] at lx
          refine ⟨_, _, rs, PP, rfl, sm, g, ?_⟩
          have := lx.row
          rw [show (i : Int) + 2 = (i : Int) + 1 + 1 by omega] at this
          exact_mod_cast this
      · obtain ⟨o3, o6, rs, PP, rfl, sm, g, lx⟩ := h
        rw [show ((n.toNat : Nat) : Int) = n by omega] at lx
        refine ⟨_, rfl, _, rfl, _, rfl, S, W, xs, rfl, sm _ _ hx, dx.mono sm, fun r hr' => ?_, fun H2 p zs ss s2 np hp dz pm _ => ?_⟩
        · obtain ⟨j, hj⟩ := List.getElem?_of_mem hr'
          obtain ⟨s, e, er, s0, s6, e0, e9⟩ := sk.r j r hj
          have hjl := (List.getElem?_eq_some_iff.mp hj).1
          subst er
          refine ⟨rfl, fun m hm => ?_⟩
          simp only [List.mem_cons, List.not_mem_nil, or_false] at hm
          omega
        · have s12 := sm.trans s2
          have dr2 := dr1.mono s12
          refine ⟨p, rfl, ⟨zs, SqL.of hp⟩, fun G nG => ?_⟩
          have lss : ss.length = n.toNat := by rw [pm.length_eq, lW]
          have lzs : zs.length = ss.length := by have := dz.len; rwa [List.length_map] at this
          refine lc_list (K := K) (a := p) (xs := zs) (fun j H3 => Same H2 H3 ∧ IL H3 G ((ss.take j).map fun r => r.getD 2 0)) ⟨same_upd nG, upd_same⟩ (fun j H3 _ z => SqL.of (z.1 _ _ hp)) (fun j v H3 hj z => ?_) (fun H3 z => ?_)
          · obtain ⟨s3, hG⟩ := z
            obtain ⟨r, ra, hr', rfl, hra⟩ := dta_row (dz.mono s3) hj
            obtain ⟨j', hj'⟩ := List.getElem?_of_mem (pm.mem_iff.mp (List.mem_of_getElem? hr'))
            obtain ⟨s, e, er, _⟩ := sk.r j' r hj'
            have := take_room ss j
            refine ⟨rfl, _, rfl, ra, _, 2, .int (r.getD 2 0), rfl, rfl, SqT.of hra, by rw [er]; rfl, _, hG, by rw [List.length_map, List.length_map, sizeLine_eq]; omega, same_keep nG s3, ?_⟩
            show (upd _ _ _) _ = _
            rw [upd_same, take_at hr', List.map_append, List.map_append]
            rfl
          · obtain ⟨s3, hG⟩ := z
            rw [lzs, List.take_length] at hG
            refine ⟨(by show 3 ≤ sizeLine; decide), fun R nR => ?_⟩
            have dr3 := dr2.mono s3
            have Gd := dr2.ne nG
            obtain ⟨y1, y2, y3⟩ := cs_up (n := n) (sd_trans sm1 (del_sub.trans (s12.trans s3))) dr3 ((g.ls.mono (s2.trans s3)).del dr3 Dd) (hG.del Gd) nR
            refine k _ _ _ _ _ y1 y2 y3 ⟨lx.cl, by omega, ?_⟩ (by omega) (Int.le_refl _)
            rw [← sk.third]
            exact pm.map _
end
end K0
set_option Elab.async false
set_option linter.all false
set_option maxRecDepth 100000
set_option maxHeartbeats 4000000
namespace K0
open PySem PySem.Spec PyProof.Rows L2
section
variable {P : Program} {w : World} {K : PySem.W.Frag} {mg : Str → Option Value} {base : Heap} {f : Addr} {fd : FuncData}
abbrev s_md : Stmt := top 56
/-- _law_made -/
def spMd : Sp := fun vs H Q _ => ∃ (d : Addr) (mo : Int), vs = [.ref d, .int mo] ∧ 5 ≤ mo ∧ mo ≤ 8 ∧ DrO H d ∧ OutCs H d 2 mo Q
theorem sc_md : FnScope ["_law_draws_here", "_law_most", "_law_word", "_law_many", "_law_plain", "_law_x", "_law_one", "_law_other", "_law_house"] ["_law_draws_here", "_law_most"] (defScope s_md) := ⟨rfl, rfl, rfl, by decide +kernel, rfl, by decide +kernel, by decide +kernel⟩
/-- the makers -/
structure Mks (P : Program) (w : World) (K : PySem.W.Frag) (mg : Str → Option Value) (base : Heap) : Prop where
  tk : Df P w K mg base "_law_take" 1 ["_law_draws_here", "_law_many"] spTk
  ln : Df P w K mg base "_law_line" 1 ["_law_many"] spLine
  rg : Df P w K mg base "_law_ring" 1 ["_law_many"] spRg
  rr : Df P w K mg base "_law_ring_row" 1 ["_law_many"] spRrw
  co : Df P w K mg base "_law_contrary" 1 ["_law_many", "_law_pairs"] spCo
  st : Df P w K mg base "_law_stretches" 2 ["_law_draws_here", "_law_many"] spStr
  fa : Df P w K mg base "_law_falling" 3 ["_law_draws_here", "_law_many"] spFa
  fr : Df P w K mg base "_law_free" 2 ["_law_draws_here", "_law_many", "_law_left"] spFr
  sm : Df P w K mg base "_law_small" 2 ["_law_draws_here"] spSm
  sd : Df P w K mg base "_law_sides" 1 ["_law_one", "_law_other", "_law_joined"] spSd
  tw : Df P w K mg base "_law_twins" 3 ["_law_draws_here", "_law_case_here", "_law_most"] spTwn
theorem OutCs.now {H G : Hp} {d b c A : Addr} {n l m : Int} {q : List Pr} {r : List Int} {Q : VK} (o : OutCs H d l m Q) (sm : Same (del H d) G) (dr : DrO G d) (hb : Ls G b q) (bd : b ≠ d) (hc : IL G c r) (cd : c ≠ d) (k : Csk n q r) (hl : l ≤ n) (hn : n ≤ m) (nA : G A = none) : Q (.ref A) (upd G A (.lst [.int n, .ref b, .ref c])) := by
  obtain ⟨x, y, z⟩ := cs_up (n := n) sm dr (hb.del dr bd) (hc.del cd) nA
  exact o _ _ _ _ _ x y z k hl hn
theorem outNow {H G H' : Hp} {d : Addr} {x : V} {n l m : Int} {q : List Pr} {r : List Int} {Q : VK} (o : OutCs H d l m Q) (sm : Same (del H d) G) (dr : DrO G d) (s : Same G H') (c : CsNew G H' x n q r) (k : Csk n q r) (hl : l ≤ n) (hn : n ≤ m) : Q x H' := by
  obtain ⟨a, b, c, rfl, na, nb, nc, ha, hb, hc⟩ := c
  have dr' := dr.mono s
  exact o H' _ n q r (sd_trans sm (del_sub.trans s)) dr' ⟨a, b, c, rfl, by rw [del_ne (dr.ne na)]; exact ha, hb.del dr' (dr.ne nb), IL.del hc (dr.ne nc)⟩ k hl hn
theorem ok_md (F : Fun K "_law_made" "_law_made" s_md f fd) (B : Blt2 mg) (M : Mks P w K mg base) : FnOk P w K mg base (L2.CX P w) 4 f fd ["_law_draws_here", "_law_most"] spMd := by
  refine F.okX sc_md (fun vs H Q E h => ?_) (fun cdv A outer s H vs Q E hr h => ?_)
  · obtain ⟨d, mo, rfl, _⟩ := h
    rfl
  · obtain ⟨d, mo, rfl, mo5, mo7, dr, k⟩ := h
    have nd := sc_md.nd
    have r1 : Room 1 _ := hr.mono (by decide)
    have r2 : Room 2 _ := hr.mono (by decide)
    have r3 : Room 3 _ := hr.mono (by decide)
    refine ⟨_, pss_cons (ps_set (i := 2) nd rfl (.inl rfl) (pe_df M.tk r1 (by rfl) passUp (pa_cons (pv 0) (pa_cons pe_int pa_nil))))
      (pss_cons (ps_set (i := 3) nd rfl (.inl rfl) (pe_op op_add pe_int (pe_df M.tk r1 (by rfl) passUp (pa_cons (pv 0) (pa_cons (pe_op op_sub (pv 1) pe_int) pa_nil)))))
      (pss_cons (ps_setLc (i := 4) (own := [("_law_x", 5)]) (g := gName 5) (tt := tYes) (te := tVar 5) rfl nd rfl (by rfl) (by rfl) (pi_range1 (by rfl) B.range (pa_cons (pv 3) pa_nil))
        (blkOk_by (N := ["_law_draws_here", "_law_most", "_law_word", "_law_many", "_law_plain", "_law_x", "_law_one", "_law_other", "_law_house"]) (sc := defScope s_md) (by decide +kernel)) (fun _ _ _ _ _ => pg_name (i := 5) nd rfl (.inl rfl)) (fun _ _ _ _ _ => pts_nil) (fun _ _ _ _ _ => pv 5))
      (pss_cons (ps_if (pt_cmpR op_eq (pv 2) pe_int (nomark _)) (pss_one (ps_ret (pe_lst (pa_cons pe_int (pa_cons (pe_df M.ln r1 (by rfl) passUp (pa_cons pe_int pa_nil)) (pa_cons (pe_lst (pa_cons pe_int (pa_cons pe_int (pa_cons pe_int (pa_cons pe_int pa_nil))))) pa_nil)))))) pss_nil)
      (pss_cons (ps_if (pt_cmpR op_eq (pv 2) pe_int (nomark _)) (pss_one (ps_ret (pe_lst (pa_cons (pv 3) (pa_cons (pe_df M.rg r1 (by rfl) passUp (pa_cons (pv 3) pa_nil)) (pa_cons (pe_df M.rr r1 (by rfl) passUp (pa_cons (pv 3) pa_nil)) pa_nil)))))) pss_nil)
      (pss_cons (ps_if (pt_cmpR op_eq (pv 2) pe_int (nomark _)) (pss_cons (ps_set (i := 3) nd rfl (.inl rfl) (pe_callB (c_max rfl) (by rfl) B.max (by decide +kernel) (pa_cons (pv 3) (pa_cons pe_int pa_nil))))
        (pss_one (ps_ret (pe_lst (pa_cons (pv 3) (pa_cons (pe_df M.co r1 (by rfl) passUp (pa_cons (pv 3) (pa_cons (pe_df M.rg r1 (by rfl) passUp (pa_cons (pv 3) pa_nil)) pa_nil))) (pa_cons (pe_df M.rr r1 (by rfl) passUp (pa_cons (pv 3) pa_nil)) pa_nil))))))) pss_nil)
      (pss_cons (ps_if (pt_cmpR op_eq (pv 2) pe_int (nomark _)) (pss_one (ps_ret (pe_lst (pa_cons (pv 3) (pa_cons (pe_df M.ln r1 (by rfl) passUp (pa_cons (pv 3) pa_nil)) (pa_cons (pv 4) pa_nil)))))) pss_nil)
      (pss_cons (ps_if (pt_cmpR op_eq (pv 2) pe_int (nomark _)) (pss_one (ps_ret (pe_df M.st r2 (by rfl) passUp (pa_cons (pv 0) (pa_cons (pv 3) pa_nil))))) pss_nil)
      (pss_cons (ps_if (pt_cmpR op_eq (pv 2) pe_int (nomark _)) (pss_one (ps_ret (pe_df M.fa r3 (by rfl) passUp (pa_cons (pv 0) (pa_cons (pv 3) pa_nil))))) pss_nil)
      (pss_cons (ps_if (pt_cmpR op_eq (pv 2) pe_int (nomark _)) (pss_one (ps_ret (pe_df M.fr r2 (by rfl) passUp (pa_cons (pv 0) (pa_cons (pv 3) (pa_cons pe_int pa_nil)))))) pss_nil)
      (pss_cons (ps_if (PW.pt (pw_or (pt_cmpR op_eq (pv 2) pe_int (nomark _)) (pw_or1 (pt_cmpR op_eq (pv 2) pe_int (nomark _)))))
        (pss_cons (ps_set (i := 6) nd rfl (.inl rfl) (pe_df M.sm r2 (by rfl) passUp (pa_cons (pv 0) pa_nil)))
        (pss_cons (ps_set (i := 7) nd rfl (.inl rfl) (pe_df M.sm r2 (by rfl) passUp (pa_cons (pv 0) pa_nil)))
        (pss_cons (ps_if (pt_cmpR op_gt (pe_op op_add (pe_ix ix_list (pv 6) pe_int (fun _ _ => rfl)) (pe_ix ix_list (pv 7) pe_int (fun _ _ => rfl))) (pv 1) (by rfl)) (pss_one (ps_set (i := 7) nd rfl (.inl rfl) (pe_lst (pa_cons pe_int (pa_cons (pe_lst pa_nil) (pa_cons (pe_lst (pa_cons pe_int pa_nil)) pa_nil)))))) pss_nil)
        (pss_one (ps_ret (pe_df M.sd r1 (by rfl) passUp (pa_cons (pv 6) (pa_cons (pv 7) (pa_cons (pe_cmpR op_eq (pv 2) pe_int (nomark _)) pa_nil)))))))))  pss_nil)
      (pss_cons (ps_if (pt_cmpR op_eq (pv 2) pe_int (nomark _)) (pss_one (ps_ret (pe_df M.tw r3 (by rfl) passUp (pa_cons (pv 0) (pa_cons (pe_lst (pa_cons pe_int (pa_cons (pe_df M.ln r1 (by rfl) passUp (pa_cons pe_int pa_nil)) (pa_cons (pe_lst (pa_cons pe_int (pa_cons pe_int (pa_cons pe_int (pa_cons pe_int pa_nil))))) pa_nil)))) (pa_cons (pv 1) pa_nil)))))) pss_nil)
      (pss_cons (ps_if (pt_cmpR op_eq (pv 2) pe_int (nomark _)) (pss_cons (ps_set (i := 8) nd rfl (.inl rfl) (pe_callB cr_srtP (by rfl) B.sorted (by decide +kernel) (pa_cons (pe_op op_cat (pe_df M.rg r1 (by rfl) passUp (pa_cons pe_int pa_nil)) (pe_lst (pa_cons (pe_tup (pa_cons pe_int (pa_cons pe_int pa_nil))) pa_nil))) pa_nil)))
        (pss_one (ps_ret (pe_lst (pa_cons pe_int (pa_cons (pv 8) (pa_cons (pe_lst (pa_cons pe_int (pa_cons pe_int (pa_cons pe_int (pa_cons pe_int (pa_cons pe_int pa_nil)))))) pa_nil))))))) pss_nil)
      (pss_one (ps_ret (pe_df M.fr r2 (by rfl) passUp (pa_cons (pv 0) (pa_cons (pv 3) (pa_cons pe_int pa_nil)))))))))))))))))), ?_⟩
    refine ⟨_, rfl, d, 12, rfl, by decide, dr, fun wd H1 w0 w12 s1 dr1 => ?_⟩
    refine ⟨_, rfl, _, rfl, _, _, rfl, rfl, d, mo - 3, rfl, by omega, dr1, fun r1' H2 a0 a4 s2 dr2 => ?_⟩
    let n : Int := 4 + r1'
    have en : n = 4 + r1' := rfl
    have s02 := sd_trans s1 s2
    refine ⟨_, _, rfl, rfl, ?_⟩
    refine ⟨_, rfl, n, rfl, by omega, by omega, fun G nG => ?_⟩
    refine lc_range (lo := 0) (n := n.toNat) (fun i H' => Same H2 H' ∧ IL H' G (ran i)) ⟨same_upd nG, upd_same⟩ (fun i H' hi z => ?_) (fun H3 z => ?_)
    · rw [Int.zero_add]
      exact ⟨rfl, _, rfl, ran_step nG hi (by omega) z⟩
    obtain ⟨s3, hG⟩ := z
    have dr3 := dr2.mono s3
    have Gd := dr2.ne nG
    have s03 : Same (del H d) H3 := sd_trans s02 (del_sub.trans s3)
    have N4 : 4 ≤ n := by omega
    have N7 : n ≤ mo := by omega
    have N77 : n ≤ 8 := by omega
    have OutS : ∀ {m : Int} {H' : Hp}, m ≤ mo → Same (del H d) H' → OutCs H' d 2 m Q := fun {m H'} hm s H2 v n q r s2 dr cs ck hl hn => k H2 v n q r (sd_trans s s2) dr cs ck hl (by omega)
    obtain rfl | rfl | rfl | rfl | rfl | rfl | rfl | rfl | rfl | rfl | rfl | rfl : wd = 0 ∨ wd = 1 ∨ wd = 2 ∨ wd = 3 ∨ wd = 4 ∨ wd = 5 ∨ wd = 6 ∨ wd = 7 ∨ wd = 8 ∨ wd = 9 ∨ wd = 10 ∨ wd = 11 := by omega
    · refine ⟨_, rfl, rfl, true, rfl, iteT ⟨4, rfl, by decide, by decide, fun H4 D s4 nD hD => ?_⟩⟩
      refine ⟨by show 4 ≤ sizeLine; decide, fun R nR => ⟨by show 3 ≤ sizeLine; decide, fun A nA => ?_⟩⟩
      have sR := same_upd (o := .lst [.int 0, .int 1, .int 2, .int 3]) nR
      have Dd := dr3.ne nD
      have dr4 := dr3.mono s4
      have Rd := dr4.ne nR
      exact k.now (c := R) (r := [0, 1, 2, 3]) (sd_trans s03 (del_sub.trans (s4.trans sR))) (dr4.mono sR) (((hD.mono same_new).ls).mono sR) Dd upd_same Rd ⟨lnP_cl (by decide), by decide, .refl _⟩ (by decide) (by omega) nA
    · refine ⟨_, rfl, rfl, false, rfl, iteF ⟨_, rfl, rfl, true, rfl, iteT ⟨_, rfl, _, rfl, n, rfl, by omega, by omega, fun H4 D rs s4 nD hD cD _ => ?_⟩⟩⟩
      refine ⟨_, rfl, n, rfl, N4, N77, fun H5 R r s5 nR hR pR => ⟨by show 3 ≤ sizeLine; decide, fun A nA => ?_⟩⟩
      have Dd := dr3.ne nD
      have dr4 := dr3.mono s4
      have Rd := dr4.ne nR
      exact k.now (sd_trans s03 (del_sub.trans (s4.trans s5))) (dr4.mono s5) (hD.mono s5) Dd hR Rd ⟨cD, by omega, pR⟩ (by omega) N7 nA
    · refine ⟨_, rfl, rfl, false, rfl, iteF ⟨_, rfl, rfl, false, rfl, iteF ⟨_, rfl, rfl, true, rfl, iteT ⟨_, rfl, _, _, rfl, ?_⟩⟩⟩⟩
      let m : Int := if 5 > n then 5 else n
      have m5 : 5 ≤ m := by show 5 ≤ if 5 > n then 5 else n; split <;> omega
      have m7 : m ≤ mo := by show (if 5 > n then 5 else n) ≤ mo; split <;> omega
      have m77 : m ≤ 8 := by omega
      refine ⟨_, rfl, _, rfl, _, rfl, m, rfl, by omega, by omega, fun H4 D rs s4 nD hD cD _ => ?_⟩
      refine ⟨D, m, rs, rfl, by omega, by omega, hD, fun H5 E qs s5 nE gE lx => ?_⟩
      refine ⟨_, rfl, m, rfl, by omega, m77, fun H6 R r s6 nR hR pR => ⟨by show 3 ≤ sizeLine; decide, fun A nA => ?_⟩⟩
      have dr4 := dr3.mono s4
      have dr5 := dr4.mono s5
      have Ed := dr4.ne nE
      have Rd := dr5.ne nR
      exact k.now (sd_trans s03 (del_sub.trans ((s4.trans s5).trans s6))) (dr5.mono s6) (gE.ls.mono s6) Ed hR Rd ⟨lx.cl, by omega, pR⟩ (by omega) m7 nA
    · refine ⟨_, rfl, rfl, false, rfl, iteF ⟨_, rfl, rfl, false, rfl, iteF ⟨_, rfl, rfl, false, rfl, iteF ⟨_, rfl, rfl, true, rfl, iteT ⟨_, rfl, _, rfl, n, rfl, by omega, by omega, fun H4 D s4 nD hD => ⟨_, rfl, by show 3 ≤ sizeLine; decide, fun A nA => ?_⟩⟩⟩⟩⟩⟩
      have Dd := dr3.ne nD
      exact k.now (sd_trans s03 (del_sub.trans s4)) (dr3.mono s4) (hD.mono same_new).ls Dd (s4 _ _ hG) Gd ⟨lnP_cl (by omega), by omega, .refl _⟩ (by omega) N7 nA
    · exact ⟨_, rfl, rfl, false, rfl, iteF ⟨_, rfl, rfl, false, rfl, iteF ⟨_, rfl, rfl, false, rfl, iteF ⟨_, rfl, rfl, false, rfl, iteF ⟨_, rfl, rfl, true, rfl, iteT ⟨_, rfl, _, rfl, d, n, rfl, by omega, by omega, dr3, OutS N7 s03⟩⟩⟩⟩⟩⟩
    · exact ⟨_, rfl, rfl, false, rfl, iteF ⟨_, rfl, rfl, false, rfl, iteF ⟨_, rfl, rfl, false, rfl, iteF ⟨_, rfl, rfl, false, rfl, iteF ⟨_, rfl, rfl, false, rfl, iteF ⟨_, rfl, rfl, true, rfl, iteT ⟨_, rfl, _, rfl, d, n, rfl, by omega, by omega, dr3, OutS N7 s03⟩⟩⟩⟩⟩⟩⟩
    · exact ⟨_, rfl, rfl, false, rfl, iteF ⟨_, rfl, rfl, false, rfl, iteF ⟨_, rfl, rfl, false, rfl, iteF ⟨_, rfl, rfl, false, rfl, iteF ⟨_, rfl, rfl, false, rfl, iteF ⟨_, rfl, rfl, false, rfl, iteF ⟨_, rfl, rfl, true, rfl, iteT ⟨_, rfl, _, rfl, d, n, 2, rfl, by omega, by omega, dr3, OutS N7 s03⟩⟩⟩⟩⟩⟩⟩⟩
    · refine ⟨_, rfl, rfl, false, rfl, iteF ⟨_, rfl, rfl, false, rfl, iteF ⟨_, rfl, rfl, false, rfl, iteF ⟨_, rfl, rfl, false, rfl, iteF ⟨_, rfl, rfl, false, rfl, iteF ⟨_, rfl, rfl, false, rfl, iteF ⟨_, rfl, rfl, false, rfl, iteF ⟨_, rfl, rfl, true, rfl, iteT ⟨_, rfl, d, rfl, dr3, fun H4 v1 n1 q1 r1 s4 dr4 c1 k1 g1 l1 => ?_⟩⟩⟩⟩⟩⟩⟩⟩⟩
      refine ⟨_, rfl, d, rfl, dr4, fun H5 v2 n2 q2 r2 s5 dr5 c2 k2 g2 l2 => ?_⟩
      have c1' := c1.mono s5
      have s35 := sd_trans s03 (sd_trans s4 s5)
      obtain ⟨x1, y1, z1, rfl, hx1, _, _⟩ := id c1'
      obtain ⟨x2, y2, z2, rfl, hx2, _, _⟩ := id (c2.mono del_sub)
      have p1 := k1.n1; have p2 := k2.n1
      refine ⟨_, rfl, x1, _, 0, _, rfl, rfl, SqL.of hx1, rfl, _, rfl, x2, _, 0, _, rfl, rfl, SqL.of hx2, rfl, _, _, rfl, rfl, _, rfl, _, _, rfl, rfl, _, rfl, ?_⟩
      by_cases big : mo < n1 + n2
      · rw [decide_eq_true big]
        refine iteT ⟨by show 0 ≤ sizeLine; exact Nat.zero_le _, fun e1 m1 => ⟨by show 1 ≤ sizeLine; decide, fun e2 m2 => ⟨by show 3 ≤ sizeLine; decide, fun e3 m3 => ?_⟩⟩⟩
        have t1 := same_upd (o := .lst []) m1
        have t2 := same_upd (o := .lst [.int 0]) m2
        have t3 := same_upd (o := .lst [.int 1, .ref e1, .ref e2]) m3
        have t13 := (t1.trans t2).trans t3
        have c3 : CsAt (heapOf t3) (.ref e3) 1 [] [0] := ⟨e3, e1, e2, rfl, upd_same, ⟨[], (t2.trans t3) _ _ upd_same, .nil⟩, t3 _ _ upd_same⟩
        refine ⟨_, rfl, _, rfl, _, rfl, rfl, _, _, true, n1, 1, q1, [], r1, [0], rfl, c1'.mono t13, c3, k1, ⟨⟨.nil, fun p hp => by cases hp⟩, by decide, .refl _⟩, by omega, fun H6 x q' r' s6 c6 k6 => ?_⟩
        exact outNow k (sd_trans s35 (del_sub.trans t13)) (dr5.mono t13) s6 c6 k6 (by omega) (by omega)
      · rw [decide_eq_false big]
        refine iteF ⟨_, rfl, _, rfl, _, rfl, rfl, _, _, true, n1, n2, q1, q2, r1, r2, rfl, c1', c2.mono del_sub, k1, k2, by omega, fun H6 x q' r' s6 c6 k6 => ?_⟩
        exact outNow k s35 dr5 s6 c6 k6 (by omega) (by omega)
    · refine ⟨_, rfl, rfl, false, rfl, iteF ⟨_, rfl, rfl, false, rfl, iteF ⟨_, rfl, rfl, false, rfl, iteF ⟨_, rfl, rfl, false, rfl, iteF ⟨_, rfl, rfl, false, rfl, iteF ⟨_, rfl, rfl, false, rfl, iteF ⟨_, rfl, rfl, false, rfl, iteF ⟨_, rfl, rfl, false, rfl, iteF ⟨_, rfl, rfl, true, rfl, iteT ⟨_, rfl, d, rfl, dr3, fun H4 v1 n1 q1 r1 s4 dr4 c1 k1 g1 l1 => ?_⟩⟩⟩⟩⟩⟩⟩⟩⟩⟩
      refine ⟨_, rfl, d, rfl, dr4, fun H5 v2 n2 q2 r2 s5 dr5 c2 k2 g2 l2 => ?_⟩
      have c1' := c1.mono s5
      have s35 := sd_trans s03 (sd_trans s4 s5)
      obtain ⟨x1, y1, z1, rfl, hx1, _, _⟩ := id c1'
      obtain ⟨x2, y2, z2, rfl, hx2, _, _⟩ := id (c2.mono del_sub)
      have p1 := k1.n1; have p2 := k2.n1
      refine ⟨_, rfl, x1, _, 0, _, rfl, rfl, SqL.of hx1, rfl, _, rfl, x2, _, 0, _, rfl, rfl, SqL.of hx2, rfl, _, _, rfl, rfl, _, rfl, _, _, rfl, rfl, _, rfl, ?_⟩
      by_cases big : mo < n1 + n2
      · rw [decide_eq_true big]
        refine iteT ⟨by show 0 ≤ sizeLine; exact Nat.zero_le _, fun e1 m1 => ⟨by show 1 ≤ sizeLine; decide, fun e2 m2 => ⟨by show 3 ≤ sizeLine; decide, fun e3 m3 => ?_⟩⟩⟩
        have t1 := same_upd (o := .lst []) m1
        have t2 := same_upd (o := .lst [.int 0]) m2
        have t3 := same_upd (o := .lst [.int 1, .ref e1, .ref e2]) m3
        have t13 := (t1.trans t2).trans t3
        have c3 : CsAt (heapOf t3) (.ref e3) 1 [] [0] := ⟨e3, e1, e2, rfl, upd_same, ⟨[], (t2.trans t3) _ _ upd_same, .nil⟩, t3 _ _ upd_same⟩
        refine ⟨_, rfl, _, rfl, _, rfl, rfl, _, _, false, n1, 1, q1, [], r1, [0], rfl, c1'.mono t13, c3, k1, ⟨⟨.nil, fun p hp => by cases hp⟩, by decide, .refl _⟩, by omega, fun H6 x q' r' s6 c6 k6 => ?_⟩
        exact outNow k (sd_trans s35 (del_sub.trans t13)) (dr5.mono t13) s6 c6 k6 (by omega) (by omega)
      · rw [decide_eq_false big]
        refine iteF ⟨_, rfl, _, rfl, _, rfl, rfl, _, _, false, n1, n2, q1, q2, r1, r2, rfl, c1', c2.mono del_sub, k1, k2, by omega, fun H6 x q' r' s6 c6 k6 => ?_⟩
        exact outNow k s35 dr5 s6 c6 k6 (by omega) (by omega)
    · refine ⟨_, rfl, rfl, false, rfl, iteF ⟨_, rfl, rfl, false, rfl, iteF ⟨_, rfl, rfl, false, rfl, iteF ⟨_, rfl, rfl, false, rfl, iteF ⟨_, rfl, rfl, false, rfl, iteF ⟨_, rfl, rfl, false, rfl, iteF ⟨_, rfl, rfl, false, rfl, iteF ⟨_, rfl, rfl, false, rfl, iteF ⟨_, rfl, rfl, false, rfl, iteF ⟨_, rfl, rfl, true, rfl, iteT ⟨_, rfl, 4, rfl, by decide, by decide, fun H4 D s4 nD hD => ?_⟩⟩⟩⟩⟩⟩⟩⟩⟩⟩⟩
      refine ⟨by show 4 ≤ sizeLine; decide, fun R nR => ⟨by show 3 ≤ sizeLine; decide, fun A nA => ⟨_, rfl, ?_⟩⟩⟩
      have sR := same_upd (o := .lst [.int 0, .int 1, .int 2, .int 3]) nR
      have Dd := dr3.ne nD
      have dr4 := dr3.mono s4
      have Rd := dr4.ne nR
      have drR := dr4.mono sR
      obtain ⟨x, y, z⟩ := cs_up (n := 4) (r := [0, 1, 2, 3]) (sd_trans s03 (del_sub.trans (s4.trans sR))) drR ((((hD.mono same_new).ls).mono sR).del drR Dd) (IL.del upd_same Rd) nA
      exact ⟨d, _, _, [0, 1, 2, 3], mo, rfl, mo5, mo7, y, z, ⟨lnP_cl (by decide), by decide, .refl _⟩, OutS (by omega) x⟩
    · refine ⟨_, rfl, rfl, false, rfl, iteF ⟨_, rfl, rfl, false, rfl, iteF ⟨_, rfl, rfl, false, rfl, iteF ⟨_, rfl, rfl, false, rfl, iteF ⟨_, rfl, rfl, false, rfl, iteF ⟨_, rfl, rfl, false, rfl, iteF ⟨_, rfl, rfl, false, rfl, iteF ⟨_, rfl, rfl, false, rfl, iteF ⟨_, rfl, rfl, false, rfl, iteF ⟨_, rfl, rfl, false, rfl, iteF ⟨_, rfl, rfl, true, rfl, iteT ⟨5, rfl, by decide, by decide, fun H4 D rs s4 nD hD cD mD => ?_⟩⟩⟩⟩⟩⟩⟩⟩⟩⟩⟩⟩
      refine ⟨by show 2 ≤ sizeLine; decide, fun t1 m1 => ⟨by show 1 ≤ sizeLine; decide, fun e1 m2 => ?_⟩⟩
      have u1 := same_upd (o := .tup [.int 0, .int 2]) m1
      have u2 := same_upd (o := .lst [.ref t1]) m2
      obtain ⟨ds, hds, _⟩ := id (hD.mono (u1.trans u2))
      have lrs := cD.few (by decide)
      have lE : Ls (heapOf u2) e1 [(0, 2)] := ⟨_, upd_same, .cons (dt_pr (p := (0, 2)) (u2 _ _ upd_same)) .nil⟩
      refine ⟨D, e1, ds, [.ref t1], rfl, rfl, hds, upd_same, by rw [(hD.mono (u1.trans u2)).len hds, sizeLine_eq]; show _ + 1 ≤ _; omega, fun e2 m3 => ?_⟩
      have u3 := same_upd (o := .lst (ds ++ [.ref t1])) m3
      have lC : Ls (heapOf u3) e2 (rs ++ [(0, 2)]) := (hD.mono (u1.trans u2)).cat lE hds upd_same m3
      have no : ((0 : Int), (2 : Int)) ∉ rs := fun h => by
        have := (mD _).mp h
        revert this
        decide
      have ndp : (rs ++ [((0 : Int), (2 : Int))]).Nodup := List.nodup_append.mpr ⟨pairwise_nodup cD.srt, by simp, fun a ha b hb e => by
        rw [List.mem_singleton.mp hb] at e
        rw [e] at ha
        exact no ha⟩
      refine ⟨e2, _, rfl, lC, ndp, fun H5 pA qs s5 np lp pw hm _ => ?_⟩
      refine ⟨_, rfl, by show 5 ≤ sizeLine; decide, fun R nR => ⟨by show 3 ≤ sizeLine; decide, fun A nA => ?_⟩⟩
      have sR := same_upd (o := .lst [.int 0, .int 2, .int 1, .int 3, .int 4]) nR
      have dr4 := ((dr3.mono s4).mono ((u1.trans u2).trans u3))
      have pd := dr4.ne np
      have dr5 := dr4.mono s5
      have Rd := dr5.ne nR
      exact k.now (c := R) (r := [0, 2, 1, 3, 4]) (sd_trans s03 (del_sub.trans (((s4.trans ((u1.trans u2).trans u3)).trans s5).trans sR))) (dr5.mono sR) (lp.mono sR) pd upd_same Rd ⟨⟨pw, fun z hz => by
        rcases List.mem_append.mp ((hm z).mp hz) with h | h
        · exact cD.rng z h
        · rw [List.mem_singleton.mp h]; decide⟩, by decide, by decide +kernel⟩ (by decide) (by omega) nA
    · exact ⟨_, rfl, rfl, false, rfl, iteF ⟨_, rfl, rfl, false, rfl, iteF ⟨_, rfl, rfl, false, rfl, iteF ⟨_, rfl, rfl, false, rfl, iteF ⟨_, rfl, rfl, false, rfl, iteF ⟨_, rfl, rfl, false, rfl, iteF ⟨_, rfl, rfl, false, rfl, iteF ⟨_, rfl, rfl, false, rfl, iteF ⟨_, rfl, rfl, false, rfl, iteF ⟨_, rfl, rfl, false, rfl, iteF ⟨_, rfl, rfl, false, rfl, iteF ⟨_, rfl, _, rfl, d, n, 0, rfl, by omega, by omega, dr3, OutS N7 s03⟩⟩⟩⟩⟩⟩⟩⟩⟩⟩⟩⟩
end
end K0
set_option Elab.async false
set_option linter.all false
set_option maxRecDepth 100000
set_option maxHeartbeats 4000000
namespace K0
open PySem PySem.Spec PyProof.Rows L2
section
variable {P : Program} {w : World} {K : PySem.W.Frag} {mg : Str → Option Value} {base : Heap} {f : Addr} {fd : FuncData}
abbrev s_ca : Stmt := top 57
/-- _law_case -/
theorem sc_ca : FnScope ["_law_draws_here", "_law_most", "_law_case_here", "_law_mode", "_law_row_here", "_law_which", "_law_place"] ["_law_draws_here", "_law_most"] (defScope s_ca) := ⟨rfl, rfl, rfl, by decide +kernel, rfl, by decide +kernel, by decide +kernel⟩
theorem ok_ca (F : Fun K "_law_case" "_law_case" s_ca f fd) (B : Blt2 mg) (TK : Df P w K mg base "_law_take" 1 ["_law_draws_here", "_law_many"] spTk) (MD : Df P w K mg base "_law_made" 4 ["_law_draws_here", "_law_most"] spMd) (MV : Df P w K mg base "_law_moved" 1 ["_law_row_here", "_law_which", "_law_place"] spMv) (RO : Df P w K mg base "_law_row" 2 ["_law_draws_here", "_law_many"] spRo) :
    FnOk P w K mg base (L2.CX P w) 5 f fd ["_law_draws_here", "_law_most"] spMd := by
  refine F.okX sc_ca (fun vs H Q E h => ?_) (fun cdv A outer s H vs Q E hr h => ?_)
  · obtain ⟨d, mo, rfl, _⟩ := h
    rfl
  · obtain ⟨d, mo, rfl, mo5, mo7, dr, k⟩ := h
    have nd := sc_ca.nd
    have r1 : Room 1 _ := hr.mono (by decide)
    have r2 : Room 2 _ := hr.mono (by decide)
    have r4 : Room 4 _ := hr.mono (by decide)
    refine ⟨_, pss_cons (ps_set (i := 2) nd rfl (.inl rfl) (pe_df MD r4 (by rfl) passUp (pa_cons (pv 0) (pa_cons (pv 1) pa_nil))))
      (pss_cons (ps_set (i := 3) nd rfl (.inl rfl) (pe_df TK r1 (by rfl) passUp (pa_cons (pv 0) (pa_cons pe_int pa_nil))))
      (pss_cons (ps_set (i := 4) nd rfl (.inl rfl) (pe_callTy call_list_of (by rfl) B.list (by decide +kernel) (pa_cons (pe_ix ix_list (pv 2) pe_int (fun _ _ => rfl)) pa_nil)))
      (pss_cons (ps_if (pt_cmpR op_eq (pv 3) pe_int (nomark _))
        (pss_cons (ps_set (i := 5) nd rfl (.inl rfl) (pe_op op_mod (pe_callTy call_int1 (by rfl) B.int (by decide +kernel) (pa_cons (pe_op op_add (pe_op op_sub (pe_ix ix_list (pv 2) pe_int (fun _ _ => rfl)) pe_int) (pe_df TK r1 (by rfl) passUp (pa_cons (pv 0) (pa_cons (pe_ix ix_list (pv 2) pe_int (fun _ _ => rfl)) pa_nil)))) pa_nil)) (pe_ix ix_list (pv 2) pe_int (fun _ _ => rfl))))
        (pss_cons (ps_set (i := 6) nd rfl (.inl rfl) (pe_op op_mod (pe_callTy call_int1 (by rfl) B.int (by decide +kernel) (pa_cons (pe_op op_add pe_int (pe_df TK r1 (by rfl) passUp (pa_cons (pv 0) (pa_cons (pe_ix ix_list (pv 2) pe_int (fun _ _ => rfl)) pa_nil)))) pa_nil)) (pe_ix ix_list (pv 2) pe_int (fun _ _ => rfl))))
        (pss_one (ps_set (i := 4) nd rfl (.inl rfl) (pe_df MV r1 (by rfl) passUp (pa_cons (pv 4) (pa_cons (pv 5) (pa_cons (pv 6) pa_nil)))))))) pss_nil)
      (pss_cons (ps_if (pt_cmpR op_eq (pv 3) pe_int (nomark _)) (pss_one (ps_set (i := 4) nd rfl (.inl rfl) (pe_df RO r2 (by rfl) passUp (pa_cons (pv 0) (pa_cons (pe_ix ix_list (pv 2) pe_int (fun _ _ => rfl)) pa_nil))))) pss_nil)
      (pss_one (ps_ret (pe_lst (pa_cons (pe_ix ix_list (pv 2) pe_int (fun _ _ => rfl)) (pa_cons (pe_ix ix_list (pv 2) pe_int (fun _ _ => rfl)) (pa_cons (pv 4) pa_nil)))))))))), ?_⟩
    refine ⟨_, rfl, _, rfl, d, mo, rfl, mo5, mo7, dr, fun H1 v n q r s1 dr1 cs ck n2 n7 => ?_⟩
    obtain ⟨a, b, c, rfl, ha, hb, hc⟩ := id cs
    have n1 := ck.n1
    have lr := ck.len
    refine ⟨_, rfl, d, 4, rfl, by decide, dr1, fun mo H2 m0 m4 s2 dr2 => ?_⟩
    have s02 := sd_trans s1 s2
    have ha2 := (same_del s2) _ _ ha
    have hb2 := hb.mono (same_del s2)
    have hc2 : IL (del H2 d) c r := (same_del s2) _ _ hc
    refine ⟨_, rfl, a, _, 2, _, rfl, rfl, SqL.of (del_sub _ _ ha2), rfl, c, _, rfl, .inl (SqL.of (del_sub _ _ hc2)), fun R nR => ?_⟩
    have s3 := same_upd (o := .lst (r.map V.int)) nR
    have Rd := dr2.ne nR
    have dr3 := dr2.mono s3
    have s03 : Same (del H d) (heapOf s3) := sd_trans s02 (del_sub.trans s3)
    have ha3 := (delF (d := d) s3) _ _ ha2
    have hb3 := hb2.mono (delF (d := d) s3)
    have hR : IL (del (heapOf s3) d) R r := IL.del upd_same Rd
    have fin : ∀ {H' : Hp} {R' : Addr} {r' : List Int} {A' : Addr}, Same (del (heapOf s3) d) H' → DrO H' d → IL (del H' d) R' r' → r'.Perm (ran n.toNat) → H' A' = none → Q (.ref A') (upd H' A' (.lst [.int n, .ref b, .ref R'])) := fun {H' R' r' A'} s dr' hr' pr nA => by
      obtain ⟨x, y, z⟩ := cs_up (n := n) (sd_trans s03 s) dr' (hb3.mono (same_del s)) hr' nA
      exact k _ _ _ _ _ x y z ⟨ck.c, n1, pr⟩ n2 n7
    have ret : ∀ {H' : Hp}, Same (del (heapOf s3) d) H' → H' a = some (.lst [.int n, .ref b, .ref c]) := fun s => s _ _ ha3
    refine ⟨_, rfl, rfl, _, rfl, ?_⟩
    rw [dec_int]
    by_cases e0 : mo = 0
    · rw [show (mo == 0) = true by simpa using e0]
      have rA := ret (H' := heapOf s3) del_sub
      refine iteT ⟨_, rfl, a, _, 0, _, rfl, rfl, SqL.of rA, rfl, _, _, rfl, rfl, _, rfl, _, rfl, a, _, 0, _, rfl, rfl, SqL.of rA, rfl, d, n, rfl, by omega, dr3, fun w1 H4 w10 w1n s4 dr4 => ?_⟩
      have rA4 := ret s4
      refine ⟨_, _, rfl, rfl, .inl ⟨_, rfl, _, rfl, a, _, 0, _, rfl, rfl, SqL.of rA4, rfl, _, _, rfl, rfl, by omega, ?_⟩⟩
      refine ⟨_, rfl, _, rfl, a, _, 0, _, rfl, rfl, SqL.of rA4, rfl, d, n, rfl, by omega, dr4, fun w2 H5 w20 w2n s5 dr5 => ?_⟩
      have s35 := sd_trans s4 s5
      have rA5 := ret s35
      refine ⟨_, _, rfl, rfl, .inl ⟨_, rfl, _, rfl, a, _, 0, _, rfl, rfl, SqL.of rA5, rfl, _, _, rfl, rfl, by omega, ?_⟩⟩
      obtain ⟨x, hx⟩ := Int.eq_ofNat_of_zero_le (Int.emod_nonneg (n - 1 + w1) (by omega : n ≠ 0))
      obtain ⟨y, hy⟩ := Int.eq_ofNat_of_zero_le (Int.emod_nonneg (1 + w2) (by omega : n ≠ 0))
      have hx2 := Int.emod_lt_of_pos (n - 1 + w1) (by omega : 0 < n)
      have hy2 := Int.emod_lt_of_pos (1 + w2) (by omega : 0 < n)
      have hR5 := (same_del s35) _ _ hR
      refine ⟨_, rfl, _, rfl, _, rfl, R, r, x, y, by rw [← hx, ← hy]; rfl, del_sub _ _ hR5, by omega, by omega, by omega, fun H6 R' r' s6 nR' hR' pR' => ?_⟩
      have dr6 := dr5.mono s6
      have Rd' := dr5.ne nR'
      have s36 : Same (del (heapOf s3) d) H6 := sd_trans s35 (del_sub.trans s6)
      have rA6 := ret s36
      refine ⟨_, rfl, rfl, false, by rw [e0]; rfl, iteF ⟨_, rfl, a, _, 0, _, rfl, rfl, SqL.of rA6, rfl, _, rfl, a, _, 1, _, rfl, rfl, SqL.of rA6, rfl, _, rfl, (by show 3 ≤ sizeLine; decide), fun A' nA => ?_⟩⟩
      exact fin s36 dr6 (IL.del hR' Rd') (pR'.trans ck.p) nA
    · rw [show (mo == 0) = false by simpa using e0]
      refine iteF ⟨_, rfl, rfl, _, rfl, ?_⟩
      rw [dec_int]
      have rA := ret (H' := heapOf s3) del_sub
      by_cases e3 : mo = 3
      · rw [show (mo == 3) = true by simpa using e3]
        refine iteT ⟨_, rfl, _, rfl, a, _, 0, _, rfl, rfl, SqL.of rA, rfl, d, n, rfl, by omega, by omega, dr3, fun H4 R' r' s4 dr4 nR' hR' pR' => ?_⟩
        have rA4 := ret s4
        exact ⟨_, rfl, a, _, 0, _, rfl, rfl, SqL.of rA4, rfl, _, rfl, a, _, 1, _, rfl, rfl, SqL.of rA4, rfl, _, rfl, (by show 3 ≤ sizeLine; decide), fun A' nA => fin s4 dr4 hR' pR' nA⟩
      · rw [show (mo == 3) = false by simpa using e3]
        exact iteF ⟨_, rfl, a, _, 0, _, rfl, rfl, SqL.of rA, rfl, _, rfl, a, _, 1, _, rfl, rfl, SqL.of rA, rfl, _, rfl, (by show 3 ≤ sizeLine; decide), fun A' nA => fin del_sub dr3 hR ck.p nA⟩
end
end K0
set_option Elab.async false
set_option linter.all false
set_option maxRecDepth 100000
set_option maxHeartbeats 4000000
namespace K0
open PySem PySem.Spec PyProof.Rows L2
/-! ### ends and middles within a set, and what is left of it -/
abbrev Q4 := Nat × Nat × Nat × Nat
def r4 (z : Q4) : Rw := row4 z.1 z.2.1 z.2.2.1 z.2.2.2
def inn (S : List Nat) (z : Q4) : Bool := decide (z.1 ∈ S) && (decide (z.2.1 ∈ S) && (decide (z.2.2.1 ∈ S) && decide (z.2.2.2 ∈ S)))
def isE (z : Q4) (x : Nat) : Bool := decide (x = z.1) || decide (x = z.2.2.2)
def isM (z : Q4) (x : Nat) : Bool := decide (x = z.2.1) || decide (x = z.2.2.1)
def hasE (qs : List Q4) (S : List Nat) (x : Nat) : Bool := qs.any fun z => inn S z && isE z x
def hasM (qs : List Q4) (S : List Nat) (x : Nat) : Bool := qs.any fun z => inn S z && isM z x
theorem inn_iff {S : List Nat} {z : Q4} : inn S z = true ↔ z.1 ∈ S ∧ z.2.1 ∈ S ∧ z.2.2.1 ∈ S ∧ z.2.2.2 ∈ S := by
  unfold inn
  rw [Bool.and_eq_true, Bool.and_eq_true, Bool.and_eq_true, decide_eq_true_iff, decide_eq_true_iff, decide_eq_true_iff, decide_eq_true_iff]
theorem inn_mono {S T : List Nat} (h : ∀ x ∈ S, x ∈ T) {z : Q4} (e : inn S z = true) : inn T z = true := by
  rw [inn_iff] at *
  exact ⟨h _ e.1, h _ e.2.1, h _ e.2.2.1, h _ e.2.2.2⟩
theorem hasE_mono {qs : List Q4} {S T : List Nat} (h : ∀ x ∈ S, x ∈ T) {x : Nat} (e : hasE qs S x = true) : hasE qs T x = true := by
  unfold hasE at *
  rw [List.any_eq_true] at *
  obtain ⟨z, hz, e⟩ := e
  rw [Bool.and_eq_true] at e
  exact ⟨z, hz, by rw [inn_mono h e.1, e.2]; rfl⟩
theorem hasM_mono {qs : List Q4} {S T : List Nat} (h : ∀ x ∈ S, x ∈ T) {x : Nat} (e : hasM qs S x = true) : hasM qs T x = true := by
  unfold hasM at *
  rw [List.any_eq_true] at *
  obtain ⟨z, hz, e⟩ := e
  rw [Bool.and_eq_true] at e
  exact ⟨z, hz, by rw [inn_mono h e.1, e.2]; rfl⟩
theorem hasE_in {qs : List Q4} {S : List Nat} {x : Nat} (e : hasE qs S x = true) : x ∈ S := by
  unfold hasE at e
  rw [List.any_eq_true] at e
  obtain ⟨z, _, e⟩ := e
  unfold isE at e
  rw [Bool.and_eq_true, inn_iff, Bool.or_eq_true, decide_eq_true_iff, decide_eq_true_iff] at e
  rcases e.2 with r | r <;> rw [r]
  · exact e.1.1
  · exact e.1.2.2.2
def able (qs : List Q4) (S : List Nat) : List Nat := S.filter fun x => !hasE qs S x || !hasM qs S x
def shr (qs : List Q4) (S : List Nat) : List Nat := S.filter fun x => hasE qs S x && hasM qs S x
def shrI (qs : List Q4) : Nat → List Nat → List Nat
  | 0, S => S
  | k + 1, S => shrI qs k (shr qs S)
theorem fil_or {S : List Nat} {p : Nat → Bool} : (S.filter p).length < S.length ∨ S.filter p = S := by
  by_cases h : ∀ x ∈ S, p x = true
  · exact .inr (List.filter_eq_self.mpr h)
  · refine .inl ?_
    have : ∃ x ∈ S, p x = false := Classical.byContradiction fun n => h fun x hx => by
      cases e : p x with
      | true => rfl
      | false => exact absurd ⟨x, hx, e⟩ n
    obtain ⟨x, hx, e⟩ := this
    exact List.length_filter_lt_length_iff_exists.mpr ⟨x, hx, by rw [e]; exact Bool.false_ne_true⟩
theorem shrI_fix {qs : List Q4} {S : List Nat} (h : shr qs S = S) : ∀ k, shrI qs k S = S
  | 0 => rfl
  | k + 1 => by
    rw [shrI, h]
    exact shrI_fix h k
theorem shrI_done {qs : List Q4} : ∀ (k : Nat) (S : List Nat), S.length ≤ k → shr qs (shrI qs k S) = shrI qs k S
  | 0, S, h => by
    rw [List.length_eq_zero_iff.mp (Nat.le_zero.mp h)]
    rfl
  | k + 1, S, h => by
    rw [shrI]
    rcases fil_or (S := S) (p := fun x => hasE qs S x && hasM qs S x) with l | e
    · exact shrI_done k _ (by show (shr qs S).length ≤ k; unfold shr; omega)
    · have e : shr qs S = S := e
      rw [e, shrI_fix e, e]
theorem shr_sub {qs : List Q4} {S : List Nat} {x : Nat} (h : x ∈ shr qs S) : x ∈ S := (List.mem_filter.mp h).1
theorem shrI_sub {qs : List Q4} : ∀ (k : Nat) {S : List Nat} {x : Nat}, x ∈ shrI qs k S → x ∈ S
  | 0, _, _, h => h
  | k + 1, _, _, h => shr_sub (shrI_sub k h)
/-- a set all of whose things are ends and middles within it -/
def Firm (qs : List Q4) (T : List Nat) : Prop := ∀ x ∈ T, hasE qs T x = true ∧ hasM qs T x = true
theorem firm_shr {qs : List Q4} {T S : List Nat} (f : Firm qs T) (h : ∀ x ∈ T, x ∈ S) : ∀ x ∈ T, x ∈ shr qs S := fun x hx => List.mem_filter.mpr ⟨h x hx, by rw [hasE_mono h (f x hx).1, hasM_mono h (f x hx).2]; rfl⟩
theorem firm_shrI {qs : List Q4} {T : List Nat} (f : Firm qs T) : ∀ (k : Nat) {S : List Nat}, (∀ x ∈ T, x ∈ S) → ∀ x ∈ T, x ∈ shrI qs k S
  | 0, _, h => h
  | k + 1, _, h => firm_shrI f k (firm_shr f h)
def coreOf (n : Nat) (qs : List Q4) : List Nat := shrI qs n (List.range n)
theorem core_firm (n : Nat) (qs : List Q4) : Firm qs (coreOf n qs) := fun x hx => by
  have e : shr qs (coreOf n qs) = coreOf n qs := shrI_done n _ (by rw [List.length_range]; exact Nat.le_refl _)
  have h : x ∈ shr qs (coreOf n qs) := by rw [e]; exact hx
  have := (List.mem_filter.mp h).2
  rwa [Bool.and_eq_true] at this
theorem shr_up {qs : List Q4} {S : List Nat} (h : S.Pairwise (· < ·)) : (shr qs S).Pairwise (· < ·) := h.filter _
theorem shrI_up {qs : List Q4} : ∀ (k : Nat) {S : List Nat}, S.Pairwise (· < ·) → (shrI qs k S).Pairwise (· < ·)
  | 0, _, h => h
  | k + 1, _, h => shrI_up k (shr_up h)
theorem core_up (n : Nat) (qs : List Q4) : (coreOf n qs).Pairwise (· < ·) := shrI_up n List.pairwise_lt_range
theorem up_ext : ∀ {l m : List Nat}, l.Pairwise (· < ·) → m.Pairwise (· < ·) → (∀ x, x ∈ l ↔ x ∈ m) → l = m
  | [], [], _, _, _ => rfl
  | [], b :: m, _, _, h => by cases (h b).mpr List.mem_cons_self
  | a :: l, [], _, _, h => by cases (h a).mp List.mem_cons_self
  | a :: l, b :: m, hl, hm, h => by
    obtain ⟨al, ll⟩ := List.pairwise_cons.mp hl
    obtain ⟨bm, mm⟩ := List.pairwise_cons.mp hm
    have e : a = b := by
      rcases List.mem_cons.mp ((h a).mp List.mem_cons_self) with e | e
      · exact e
      rcases List.mem_cons.mp ((h b).mpr List.mem_cons_self) with e2 | e2
      · exact e2.symm
      have := al b e2
      have := bm a e
      omega
    subst e
    rw [up_ext ll mm fun x => ⟨fun hx => ?_, fun hx => ?_⟩]
    · rcases List.mem_cons.mp ((h x).mp (List.mem_cons_of_mem _ hx)) with e | e
      · have := al x hx
        omega
      · exact e
    · rcases List.mem_cons.mp ((h x).mpr (List.mem_cons_of_mem _ hx)) with e | e
      · have := bm x hx
        omega
      · exact e
/-! ### takes -/
abbrev Pq := Nat × Bool
def left (n : Nat) (p : List Pq) : List Nat := (List.range n).filter fun x => !(p.map (·.1)).contains x
def fronts (p : List Pq) : List Nat := (p.filter fun z => z.2).map (·.1)
def backs (p : List Pq) : List Nat := (p.filter fun z => !z.2).map (·.1)
theorem mem_left {n : Nat} {p : List Pq} {x : Nat} : x ∈ left n p ↔ x < n ∧ x ∉ p.map (·.1) := by
  unfold left
  rw [List.mem_filter, List.mem_range, Bool.not_eq_true', ← Bool.not_eq_true, List.contains_iff_mem]
theorem left_up (n : Nat) (p : List Pq) : (left n p).Pairwise (· < ·) := List.pairwise_lt_range.filter _
theorem left_nil (n : Nat) : left n [] = List.range n := List.filter_eq_self.mpr fun x _ => rfl
theorem left_snoc {n : Nat} {p : List Pq} {x : Nat} {b : Bool} : left n (p ++ [(x, b)]) = (left n p).filter fun y => !decide (y = x) := by
  refine up_ext (left_up n _) ((left_up n p).filter _) fun y => ?_
  rw [mem_left, List.mem_filter, mem_left, List.map_append, List.mem_append, Bool.not_eq_true', decide_eq_false_iff_not]
  simp only [List.map_cons, List.map_nil, List.mem_singleton]
  exact ⟨fun h => ⟨⟨h.1, fun m => h.2 (.inl m)⟩, fun e => h.2 (.inr e)⟩, fun h => ⟨h.1.1, fun m => m.elim h.1.2 h.2⟩⟩
theorem left_sides {p : List Pq} {x : Nat} : x ∈ p.map (·.1) ↔ x ∈ fronts p ++ backs p := by
  unfold fronts backs
  rw [List.mem_append, List.mem_map, List.mem_map, List.mem_map]
  constructor
  · rintro ⟨z, hz, e⟩
    cases b : z.2 with
    | true => exact .inl ⟨z, List.mem_filter.mpr ⟨hz, b⟩, e⟩
    | false => exact .inr ⟨z, List.mem_filter.mpr ⟨hz, by rw [b]; rfl⟩, e⟩
  · rintro (⟨z, hz, e⟩ | ⟨z, hz, e⟩) <;> exact ⟨z, (List.mem_filter.mp hz).1, e⟩
theorem fronts_snoc (p : List Pq) (x : Nat) (b : Bool) : fronts (p ++ [(x, b)]) = fronts p ++ if b = true then [x] else [] := by
  unfold fronts
  rw [List.filter_append, List.map_append]
  cases b <;> rfl
theorem backs_snoc (p : List Pq) (x : Nat) (b : Bool) : backs (p ++ [(x, b)]) = backs p ++ if b = true then [] else [x] := by
  unfold backs
  rw [List.filter_append, List.map_append]
  cases b <;> rfl
theorem left_less {n : Nat} {p : List Pq} {x : Nat} {b : Bool} (h : x ∈ left n p) : (left n (p ++ [(x, b)])).length < (left n p).length := by
  rw [left_snoc]
  exact List.length_filter_lt_length_iff_exists.mpr ⟨x, h, by simp⟩
theorem left_le (n : Nat) (p : List Pq) : (left n p).length ≤ n := by
  unfold left
  exact Nat.le_trans (List.length_filter_le _ _) (by rw [List.length_range]; exact Nat.le_refl _)
/-- the least thing that can be taken, again and again -/
def grd (qs : List Q4) (n : Nat) : Nat → List Pq → List Pq
  | 0, p => p
  | k + 1, p => match able qs (left n p) with
    | [] => p
    | x :: _ => grd qs n k (p ++ [(x, !hasE qs (left n p) x)])
theorem able_mem {qs : List Q4} {S : List Nat} {x : Nat} {r : List Nat} (h : able qs S = x :: r) : x ∈ S ∧ (!hasE qs S x || !hasM qs S x) = true := by
  have : x ∈ able qs S := by rw [h]; exact List.mem_cons_self
  exact List.mem_filter.mp this
theorem grd_nil {qs : List Q4} {n : Nat} {p : List Pq} (h : able qs (left n p) = []) : ∀ k, grd qs n k p = p
  | 0 => rfl
  | k + 1 => by rw [grd, h]
theorem grd_more {qs : List Q4} {n : Nat} : ∀ (k : Nat) {p : List Pq}, (left n p).length ≤ k → grd qs n (k + 1) p = grd qs n k p
  | 0, p, h => by
    have e : left n p = [] := List.length_eq_zero_iff.mp (Nat.le_zero.mp h)
    rw [grd_nil (by rw [e]; rfl), grd_nil (by rw [e]; rfl)]
  | k + 1, p, h => by
    cases e : able qs (left n p) with
    | nil => rw [grd_nil e, grd_nil e]
    | cons x r =>
      rw [grd, e]
      show grd qs n (k + 1) (p ++ [(x, !hasE qs (left n p) x)]) = _
      rw [grd_more k (by have := left_less (b := !hasE qs (left n p) x) (able_mem e).1; omega)]
      conv => rhs; rw [grd, e]
theorem grd_step {qs : List Q4} {n : Nat} {p : List Pq} {x : Nat} {r : List Nat} (e : able qs (left n p) = x :: r) : grd qs n n p = grd qs n n (p ++ [(x, !hasE qs (left n p) x)]) := by
  have m := (able_mem e).1
  have l := left_less (b := !hasE qs (left n p) x) m
  have l2 := left_le n p
  obtain ⟨k, hk⟩ : ∃ k, n = k + 1 := ⟨n - 1, by omega⟩
  have h1 : grd qs n (k + 1) p = grd qs n k (p ++ [(x, !hasE qs (left n p) x)]) := by rw [grd, e]
  have h2 := grd_more (qs := qs) (n := n) k (p := p ++ [(x, !hasE qs (left n p) x)]) (by omega)
  rw [← hk] at h1 h2
  rw [h1, h2]
/-- the core stays -/
theorem core_stays {qs : List Q4} {n : Nat} {p : List Pq} (h : ∀ x ∈ coreOf n qs, x ∈ left n p) {x : Nat} (a : (!hasE qs (left n p) x || !hasM qs (left n p) x) = true) {b : Bool} : ∀ y ∈ coreOf n qs, y ∈ left n (p ++ [(x, b)]) := fun y hy => by
  rw [left_snoc, List.mem_filter]
  refine ⟨h y hy, ?_⟩
  rw [Bool.not_eq_true', decide_eq_false_iff_not]
  intro e
  subst e
  have f := core_firm n qs y hy
  rw [hasE_mono h f.1, hasM_mono h f.2] at a
  cases a
theorem core_left {qs : List Q4} {n : Nat} {p : List Pq} (h : ∀ x ∈ coreOf n qs, x ∈ left n p) (no : able qs (left n p) = []) : left n p = coreOf n qs := by
  have firm : Firm qs (left n p) := fun x hx => by
    have : x ∉ able qs (left n p) := by rw [no]; exact List.not_mem_nil
    unfold able at this
    rw [List.mem_filter, not_and, Bool.not_eq_true, Bool.or_eq_false_iff, Bool.not_eq_false', Bool.not_eq_false'] at this
    exact this hx
  refine up_ext (left_up n p) (core_up n qs) fun x => ⟨fun hx => ?_, h x⟩
  exact firm_shrI firm n (S := List.range n) (fun y hy => List.mem_range.mpr (mem_left.mp hy).1) x hx
end K0
set_option Elab.async false
set_option linter.all false
set_option maxRecDepth 100000
set_option maxHeartbeats 4000000
namespace K0
open PySem PySem.Spec PyProof.Rows L2
abbrev s_wh : Stmt := top 20
abbrev s_mo : Stmt := top 21
abbrev s_rm : Stmt := top 32
abbrev s_hm : Stmt := top 33
/-! ### masks of sets -/
theorem two_bit (t y : Nat) : (2 ^ t).testBit y = decide (t = y) := Nat.testBit_two_pow
theorem or_two (m t y : Nat) : (m ||| 2 ^ t).testBit y = (m.testBit y || decide (t = y)) := by rw [Nat.testBit_or, two_bit]
def mkM (S : List Nat) : Nat := S.foldl (fun m x => m ||| 2 ^ x) 0
theorem mkF_bit : ∀ (S : List Nat) (m z : Nat), (S.foldl (fun m x => m ||| 2 ^ x) m).testBit z = (m.testBit z || decide (z ∈ S))
  | [], m, z => by
    show m.testBit z = _
    rw [decide_eq_false List.not_mem_nil, Bool.or_false]
  | x :: S, m, z => by
    show (S.foldl (fun m x => m ||| 2 ^ x) (m ||| 2 ^ x)).testBit z = _
    rw [mkF_bit S, or_two, Bool.or_assoc]
    congr 1
    rw [Bool.eq_iff_iff, Bool.or_eq_true, decide_eq_true_iff, decide_eq_true_iff, decide_eq_true_iff, List.mem_cons]
    exact ⟨fun h => h.imp Eq.symm id, fun h => h.imp Eq.symm id⟩
theorem mkM_bit (S : List Nat) (z : Nat) : (mkM S).testBit z = decide (z ∈ S) := by
  unfold mkM
  rw [mkF_bit, Nat.zero_testBit, Bool.false_or]
def mW (z : Q4) : Nat := mkM [z.1, z.2.1, z.2.2.1, z.2.2.2]
def mE (z : Q4) : Nat := mkM [z.1, z.2.2.2]
def mI (z : Q4) : Nat := mkM [z.2.1, z.2.2.1]
theorem mE_bit (z : Q4) (x : Nat) : (mE z).testBit x = isE z x := by
  unfold mE isE
  rw [mkM_bit, Bool.eq_iff_iff, Bool.or_eq_true, decide_eq_true_iff, decide_eq_true_iff, decide_eq_true_iff, List.mem_cons, List.mem_singleton]
theorem mI_bit (z : Q4) (x : Nat) : (mI z).testBit x = isM z x := by
  unfold mI isM
  rw [mkM_bit, Bool.eq_iff_iff, Bool.or_eq_true, decide_eq_true_iff, decide_eq_true_iff, decide_eq_true_iff, List.mem_cons, List.mem_singleton]
theorem mW_in {S : List Nat} {P : Nat} (hP : ∀ x, P.testBit x = decide (x ∈ S)) (z : Q4) : (andN (mW z) P = 0) ↔ inn S z = true := by
  rw [inn_iff]
  have b : ∀ x, (andN (mW z) P).testBit x = (decide (x ∈ [z.1, z.2.1, z.2.2.1, z.2.2.2]) && !decide (x ∈ S)) := fun x => by
    rw [andN_bit, hP]
    unfold mW
    rw [mkM_bit]
  constructor
  · intro e
    have all : ∀ x ∈ [z.1, z.2.1, z.2.2.1, z.2.2.2], x ∈ S := fun x hx => by
      have := b x
      rw [e, Nat.zero_testBit, decide_eq_true hx, Bool.true_and] at this
      have := this.symm
      rw [Bool.not_eq_false', decide_eq_true_iff] at this
      exact this
    exact ⟨all _ (by simp), all _ (by simp), all _ (by simp), all _ (by simp)⟩
  · intro h
    refine Nat.eq_of_testBit_eq fun x => ?_
    rw [b, Nat.zero_testBit]
    by_cases hx : x ∈ [z.1, z.2.1, z.2.2.1, z.2.2.2]
    · have : x ∈ S := by
        simp only [List.mem_cons, List.not_mem_nil, or_false] at hx
        rcases hx with rfl | rfl | rfl | rfl
        · exact h.1
        · exact h.2.1
        · exact h.2.2.1
        · exact h.2.2.2
      rw [decide_eq_true this, Bool.not_true, Bool.and_false]
    · rw [decide_eq_false hx, Bool.false_and]
/-! ### rows as fours of numbers -/
theorem q4_of {n : Nat} : ∀ {rs : List Rw}, (∀ r ∈ rs, ∃ a b c d : Nat, r = row4 a b c d ∧ a < n ∧ b < n ∧ c < n ∧ d < n) → ∃ qs : List Q4, rs = qs.map r4 ∧ ∀ z ∈ qs, z.1 < n ∧ z.2.1 < n ∧ z.2.2.1 < n ∧ z.2.2.2 < n
  | [], _ => ⟨[], rfl, fun z hz => by cases hz⟩
  | r :: rs, h => by
    obtain ⟨qs, e, hq⟩ := q4_of fun x hx => h x (List.mem_cons_of_mem _ hx)
    obtain ⟨a, b, c, d, er, l⟩ := h r List.mem_cons_self
    refine ⟨(a, b, c, d) :: qs, by rw [e, er]; rfl, fun z hz => ?_⟩
    rcases List.mem_cons.mp hz with rfl | hz
    · exact l
    · exact hq z hz
/-- the rows of four of a web, as numbers -/
structure Q4s (n : Nat) (q : List Pr) (qs : List Q4) : Prop where
  rows : IsRows (n : Int) q (qs.map r4)
  lt : ∀ z ∈ qs, z.1 < n ∧ z.2.1 < n ∧ z.2.2.1 < n ∧ z.2.2.2 < n
  few : qs.length ≤ 65536
theorem r4_inj {y z : Q4} (h : r4 y = r4 z) : y = z := by
  obtain ⟨a, b, c, d⟩ := y
  obtain ⟨e, f, g, i⟩ := z
  obtain ⟨h1, h2, h3, h4⟩ := row4_inj h
  have h1 : a = e := h1
  have h2 : b = f := h2
  have h3 : c = g := h3
  have h4 : d = i := h4
  subst h1 h2 h3 h4
  rfl
theorem map_r4 : ∀ {l m : List Q4}, l.map r4 = m.map r4 → l = m
  | [], [], _ => rfl
  | x :: l, y :: m, h => by
    rw [List.map_cons, List.map_cons] at h
    injection h with h1 h2
    rw [r4_inj h1, map_r4 h2]
  | [], y :: m, h => by cases h
  | x :: l, [], h => by cases h
theorem Q4s.uniq {n : Nat} {q : List Pr} {qs ps : List Q4} (h : Q4s n q qs) (g : Q4s n q ps) : qs = ps := map_r4 (h.rows.uniq g.rows)
theorem q4s_of {n : Nat} {q : List Pr} (cl : Cl (n : Int) q) (n16 : n ≤ 16) {rs : List Rw} (h : IsRows (n : Int) q rs) : ∃ qs, rs = qs.map r4 ∧ Q4s n q qs := by
  obtain ⟨qs, rfl, hq⟩ := q4_of (n := n) (rs := rs) fun r hr => by
    obtain ⟨a, b, c, d, e, lt, rq⟩ := (h.mem r).mp hr
    obtain ⟨ha, hb, hc, hd⟩ := rq.rng cl
    refine ⟨a.toNat, b.toNat, c.toNat, d.toNat, ?_, by omega, by omega, by omega, by omega⟩
    rw [e]
    unfold row4
    rw [Int.toNat_of_nonneg ha.1, Int.toNat_of_nonneg hb.1, Int.toNat_of_nonneg hc.1, Int.toNat_of_nonneg hd.1]
  refine ⟨qs, rfl, h, hq, ?_⟩
  have l1 := len_sub (qs.map r4) (lq n q) (up_nodup h.up) fun r hr => (lq_mem cl r).mpr ((h.mem r).mp hr)
  rw [List.length_map] at l1
  exact Nat.le_trans l1 (Nat.le_trans (lq_len n q) (Nat.le_trans (Nat.mul_le_mul n16 (Nat.mul_le_mul n16 (Nat.mul_le_mul n16 n16))) (by decide)))
theorem q4_at {H : Hp} {xs : List V} {qs : List Q4} {i : Nat} {v : V} (h : DtAll H xs ((qs.map r4).map rwD)) (hv : xs[i]? = some v) : ∃ z b, qs[i]? = some z ∧ v = .ref b ∧ H b = some (.tup [.int (z.1 : Int), .int (z.2.1 : Int), .int (z.2.2.1 : Int), .int (z.2.2.2 : Int)]) := by
  obtain ⟨d, hd, dt⟩ := h.at hv
  rw [List.getElem?_map, List.getElem?_map] at hd
  cases e : qs[i]? with
  | none => rw [e] at hd; cases hd
  | some z =>
    rw [e] at hd
    cases hd
    cases dt with
    | tup hb hx =>
      cases hx with
      | cons h1 t1 => cases t1 with
        | cons h2 t2 => cases t2 with
          | cons h3 t3 => cases t3 with
            | cons h4 t4 =>
              cases t4
              cases h1
              cases h2
              cases h3
              cases h4
              exact ⟨z, _, rfl, rfl, hb⟩
section
variable {P : Program} {w : World} {K : PySem.W.Frag} {mg : Str → Option Value} {base : Heap} {f : Addr} {fd : FuncData}
/-- whole_mask(many) -/
def spWh : Sp := fun vs H Q _ => ∃ (n : Nat), vs = [.int (n : Int)] ∧ n ≤ 16 ∧ Ret (.int ((2 ^ n - 1 : Nat) : Int)) H Q
theorem sc_wh : FnScope ["many"] ["many"] (defScope s_wh) := ⟨rfl, rfl, rfl, by decide +kernel, rfl, by decide +kernel, by decide +kernel⟩
theorem ok_wh (F : Fun K "whole_mask" "whole_mask" s_wh f fd) : FnOk P w K mg base (L2.CX P w) 1 f fd ["many"] spWh := by
  refine F.okX sc_wh (fun vs H Q E h => ?_) (fun cdv A outer s H vs Q E hr h => ?_)
  · obtain ⟨n, rfl, _⟩ := h
    rfl
  · obtain ⟨n, rfl, n16, k⟩ := h
    refine ⟨_, pss_one (ps_ret (pe_op op_sub (pe_op op_shl1 pe_int (pv 0)) pe_int)), ?_⟩
    refine ⟨_, rfl, n, rfl, rfl, by omega, _, _, rfl, rfl, ?_⟩
    have : ((2 ^ n - 1 : Nat) : Int) = ((2 ^ n : Nat) : Int) - 1 := by
      have := Nat.one_le_two_pow (n := n)
      omega
    have q := k H (.refl _)
    rw [this] at q
    exact q
/-- mask_of(things) -/
def spMo (K : PySem.W.Frag) : Sp := fun vs H Q _ => ∃ (a : Addr) (S : List Nat), vs = [.ref a] ∧ (∀ H', Same H H' → SqT K H' a (nvs S)) ∧ (∀ x ∈ S, x ≤ 1000) ∧ Ret (.int ((mkM S : Nat) : Int)) H Q
theorem sc_mo : FnScope ["things", "mask", "thing"] ["things"] (defScope s_mo) := ⟨rfl, rfl, rfl, by decide +kernel, rfl, by decide +kernel, by decide +kernel⟩
theorem ok_mo (F : Fun K "mask_of" "mask_of" s_mo f fd) : FnOk P w K mg base (L2.CX P w) 1 f fd ["things"] (spMo K) := by
  refine F.okX sc_mo (fun vs H Q E h => ?_) (fun cdv A outer s H vs Q E hr h => ?_)
  · obtain ⟨a, S, rfl, _⟩ := h
    rfl
  · obtain ⟨a, S, rfl, hs, few, k⟩ := h
    have nd := sc_mo.nd
    refine ⟨_, pss_cons (ps_set (i := 1) nd rfl (.inl rfl) pe_int) (pss_cons (ps_for (passes_of rfl) rfl (pi_tup (pv 0)) (pg_name (i := 2) nd rfl (.inl rfl))
      (pss_one (ps_set (i := 1) nd rfl (.inl rfl) (pe_op op_orN (pv 1) (pe_op op_shl1 pe_int (pv 2)))))) (pss_one (ps_ret (pv 1)))), ?_⟩
    let Pv : Nat → L2.St → Hp → Prop := fun i σ H' => ∃ o2, σ = [some (.ref a), some (.int ((mkM (S.take i) : Nat) : Int)), o2] ∧ Same H H'
    refine ⟨_, rfl, a, rfl, ⟨_, hs H (.refl _)⟩, for_tup (K := K) (a := a) (xs := nvs S) Pv ⟨none, rfl, .refl _⟩ (fun i σ H' _ h => ?_) (fun i v σ H1 hi h => ?_) (fun σ H1 h => ?_)⟩
    · obtain ⟨_, _, sm⟩ := h
      exact hs _ sm
    · obtain ⟨o2, rfl, sm⟩ := h
      obtain ⟨x, hx, rfl⟩ := nvs_val hi
      refine ⟨_, rfl, _, rfl, x, rfl, rfl, few x (List.mem_of_getElem? hx), _, _, rfl, rfl, some (.int (x : Int)), ?_, sm⟩
      have : mkM (S.take (i + 1)) = mkM (S.take i) ||| 2 ^ x := by
        unfold mkM
        rw [take_at hx, List.foldl_append]
        rfl
      rw [this]
      rfl
    · obtain ⟨o2, rfl, sm⟩ := h
      rw [nvs_len, List.take_length]
      exact ⟨_, rfl, k H1 sm⟩
/-- rows as masks -/
def RmH (H : Hp) (L : Addr) (qs : List Q4) : Prop := ∃ l : List (Addr × Q4), H L = some (.lst (l.map fun z => V.ref z.1)) ∧ l.map (·.2) = qs ∧ ∀ z ∈ l, H z.1 = some (.tup [.int ((mW z.2 : Nat) : Int), .int ((mE z.2 : Nat) : Int), .int ((mI z.2 : Nat) : Int)])
theorem RmH.mono {H H' : Hp} {L : Addr} {qs : List Q4} (s : Same H H') : RmH H L qs → RmH H' L qs := fun ⟨l, h, e, p⟩ => ⟨l, s _ _ h, e, fun z hz => s _ _ (p z hz)⟩
/-- row_masks -/
def spRm (C : Addr) : Sp := fun vs H Q _ => ∃ (p : Addr) (n : Nat) (q : List Pr), vs = [.ref p] ∧ WebAt C H p (n : Int) q ∧ ∀ H' L qs, Same H H' → Q4s n q qs → RmH H' L qs → Q (.ref L) H'
theorem sc_rm : FnScope ["web", "a", "b", "c", "d"] ["web"] (defScope s_rm) := ⟨rfl, rfl, rfl, by decide +kernel, rfl, by decide +kernel, by decide +kernel⟩
theorem ok_rm {C : Addr} (F : Fun K "row_masks" "row_masks" s_rm f fd) (RF : Df P w K mg base "rows_of_four" 2 ["web"] (spRf C)) (MO : Df P w K mg base "mask_of" 1 ["things"] (spMo K)) : FnOk P w K mg base (L2.CX P w) 3 f fd ["web"] (spRm C) := by
  refine F.okX sc_rm (fun vs H Q E h => ?_) (fun cdv A outer s H vs Q E hr h => ?_)
  · obtain ⟨p, n, q, rfl, _⟩ := h
    rfl
  · obtain ⟨p, n, q, rfl, W, k⟩ := h
    have nd := sc_rm.nd
    have r1 : Room 1 _ := hr.mono (by decide)
    let mo : TA → TE := fun t => tCall (spMo K) [] (fun _ _ _ => False) t
    refine ⟨_, pss_one (ps_ret (pe_lc (own := [("a", 1), ("b", 2), ("c", 3), ("d", 4)]) (g := gTup K 4 (gCons (gName 1) (gCons (gName 2) (gCons (gName 3) (gCons (gName 4) gNil))))) (tt := tYes)
      (te := tTup (tCons (mo (tCons (tTup (tCons (tVar 1) (tCons (tVar 2) (tCons (tVar 3) (tCons (tVar 4) tNil))))) tNil)) (tCons (mo (tCons (tTup (tCons (tVar 1) (tCons (tVar 4) tNil))) tNil)) (tCons (mo (tCons (tTup (tCons (tVar 2) (tCons (tVar 3) tNil))) tNil)) tNil)))) rfl nd
      (pi_tup (pe_df RF hr (by rfl) passUp (pa_cons (pv 0) pa_nil))) (blkOk_by (N := ["web", "a", "b", "c", "d"]) (sc := defScope s_rm) (by decide +kernel))
      (fun _ _ _ _ _ => pg_tup rfl (pgs_cons (pg_name (i := 1) nd rfl (.inl rfl)) (pgs_cons (pg_name (i := 2) nd rfl (.inl rfl)) (pgs_cons (pg_name (i := 3) nd rfl (.inl rfl)) (pgs_cons (pg_name (i := 4) nd rfl (.inl rfl)) pgs_nil))))) (fun _ _ _ _ _ => pts_nil)
      (fun _ _ _ _ _ => pe_tup (pa_cons (pe_df MO r1 (by rfl) passE0 (pa_cons (pe_tup (pa_cons (pv 1) (pa_cons (pv 2) (pa_cons (pv 3) (pa_cons (pv 4) pa_nil))))) pa_nil)) (pa_cons (pe_df MO r1 (by rfl) passE0 (pa_cons (pe_tup (pa_cons (pv 1) (pa_cons (pv 4) pa_nil))) pa_nil)) (pa_cons (pe_df MO r1 (by rfl) passE0 (pa_cons (pe_tup (pa_cons (pv 2) (pa_cons (pv 3) pa_nil))) pa_nil)) pa_nil)))))), ?_⟩
    refine ⟨_, rfl, p, (n : Int), q, rfl, W, fun H1 t xs rs s1 nt ht hx rows => ?_⟩
    obtain ⟨⟨ddx, c, m, l0, h1, h2, h3, h4, h5⟩, cl, n0, n16⟩ := id W
    obtain ⟨qs, rfl, Z⟩ := q4s_of cl (by omega) rows
    have lx := hx.len
    rw [List.length_map, List.length_map] at lx
    refine ⟨t, rfl, ⟨_, SqT.of ht⟩, fun D nD => ?_⟩
    refine lc_it (walk_tup (K := K) (a := t) (xs := xs)) (fun i H' => Same H1 H' ∧ ∃ l : List (Addr × Q4), H' D = some (.lst (l.map fun z => V.ref z.1)) ∧ l.map (·.2) = qs.take i ∧ ∀ z ∈ l, z.1 ≠ D ∧ H' z.1 = some (.tup [.int ((mW z.2 : Nat) : Int), .int ((mE z.2 : Nat) : Int), .int ((mI z.2 : Nat) : Int)])) ⟨same_upd nD, [], upd_same, rfl, fun z hz => by cases hz⟩ (fun i H' _ z => SqT.of (z.1 _ _ ht)) (fun i x H' H2 hi z y => ?_) (fun H' z => ?_)
    · obtain ⟨rfl, hv⟩ := y
      obtain ⟨sm, l, hl, el, pl⟩ := z
      obtain ⟨z, b, hz, rfl, hb⟩ := q4_at (hx.mono sm) hv
      have zl := Z.lt z (List.mem_of_getElem? hz)
      have z16 : ∀ y : Nat, y < n → y ≤ 1000 := fun y hy => by omega
      refine ⟨b, _, rfl, SqT.of hb, rfl, _, _, rfl, _, _, rfl, _, _, rfl, _, _, rfl, rfl, rfl, ?_⟩
      refine ⟨_, rfl, _, rfl, _, rfl, _, rfl, ?_⟩
      refine ⟨by show 4 ≤ sizeLine; decide, fun u1 w1 => ?_⟩
      have v1 := same_upd (o := .tup [.int (z.1 : Int), .int (z.2.1 : Int), .int (z.2.2.1 : Int), .int (z.2.2.2 : Int)]) w1
      have k1 : (upd H2 u1 (.tup [.int (z.1 : Int), .int (z.2.1 : Int), .int (z.2.2.1 : Int), .int (z.2.2.2 : Int)])) u1 = some (.tup (nvs [z.1, z.2.1, z.2.2.1, z.2.2.2])) := upd_same
      refine ⟨u1, [z.1, z.2.1, z.2.2.1, z.2.2.2], rfl, fun H' s' => SqT.of (s' _ _ k1), fun y hy => ?_, fun H3 s3 => ?_⟩
      · simp only [List.mem_cons, List.not_mem_nil, or_false] at hy
        rcases hy with rfl | rfl | rfl | rfl
        · exact z16 _ zl.1
        · exact z16 _ zl.2.1
        · exact z16 _ zl.2.2.1
        · exact z16 _ zl.2.2.2
      refine ⟨_, rfl, _, rfl, ?_⟩
      refine ⟨by show 2 ≤ sizeLine; decide, fun u2 w2 => ?_⟩
      have v2 := same_upd (o := .tup [.int (z.1 : Int), .int (z.2.2.2 : Int)]) w2
      have k2 : (upd H3 u2 (.tup [.int (z.1 : Int), .int (z.2.2.2 : Int)])) u2 = some (.tup (nvs [z.1, z.2.2.2])) := upd_same
      refine ⟨u2, [z.1, z.2.2.2], rfl, fun H' s' => SqT.of (s' _ _ k2), fun y hy => ?_, fun H4 s4 => ?_⟩
      · simp only [List.mem_cons, List.not_mem_nil, or_false] at hy
        rcases hy with rfl | rfl
        · exact z16 _ zl.1
        · exact z16 _ zl.2.2.2
      refine ⟨_, rfl, _, rfl, ?_⟩
      refine ⟨by show 2 ≤ sizeLine; decide, fun u3 w3 => ?_⟩
      have v3 := same_upd (o := .tup [.int (z.2.1 : Int), .int (z.2.2.1 : Int)]) w3
      have k3 : (upd H4 u3 (.tup [.int (z.2.1 : Int), .int (z.2.2.1 : Int)])) u3 = some (.tup (nvs [z.2.1, z.2.2.1])) := upd_same
      refine ⟨u3, [z.2.1, z.2.2.1], rfl, fun H' s' => SqT.of (s' _ _ k3), fun y hy => ?_, fun H5 s5 => ?_⟩
      · simp only [List.mem_cons, List.not_mem_nil, or_false] at hy
        rcases hy with rfl | rfl
        · exact z16 _ zl.2.1
        · exact z16 _ zl.2.2.1
      refine ⟨by show 3 ≤ sizeLine; decide, fun u4 w4 => ?_⟩
      have v5 := v1.trans (s3.trans (v2.trans (s4.trans (v3.trans s5))))
      have v6 := v5.trans (same_upd (o := .tup [.int ((mW z : Nat) : Int), .int ((mE z : Nat) : Int), .int ((mI z : Nat) : Int)]) w4)
      have u4D : u4 ≠ D := fun e => by
        have := v5 _ _ hl
        rw [← e, w4] at this
        cases this
      refine ⟨_, v6 _ _ hl, ?_, same_keep nD (sm.trans v6), l ++ [(u4, z)], ?_, ?_, fun y hy => ?_⟩
      · have : l.length = (l.map (·.2)).length := by rw [List.length_map]
        rw [List.length_map, this, el, List.length_take, sizeLine_eq]
        have := Z.few
        omega
      · rw [upd_same, List.map_append]
        rfl
      · rw [List.map_append, el, take_at hz]
        rfl
      · rcases List.mem_append.mp hy with hy | hy
        · obtain ⟨y1, y2⟩ := pl y hy
          refine ⟨y1, ?_⟩
          rw [upd_ne y1]
          exact v6 _ _ y2
        · rw [List.mem_singleton.mp hy]
          refine ⟨u4D, ?_⟩
          show (upd _ _ _) u4 = _
          rw [upd_ne u4D, upd_same]
          rfl
    · obtain ⟨sm, l, hl, el, pl⟩ := z
      rw [lx, List.take_length] at el
      exact k H' D qs (s1.trans sm) Z ⟨l, hl, el, fun z hz => (pl z hz).2⟩
end
end K0
set_option Elab.async false
set_option linter.all false
set_option maxRecDepth 100000
set_option maxHeartbeats 4000000
namespace K0
open PySem PySem.Spec PyProof.Rows L2
abbrev s_cp : Stmt := top 18
abbrev s_ne7 : Stmt := top 34
abbrev s_nm7 : Stmt := top 35
abbrev s_core : Stmt := top 37
def rAndB : R2 := fun x y H Q => ∃ a b : Nat, x = .int (a : Int) ∧ y = .int (b : Int) ∧ Q (.int ((a &&& b : Nat) : Int)) H
theorem op_andB {X : Cx} : OpR X (binaryOp .BitAnd) rAndB := OpR_imp op_and fun x y H Q ⟨a, b, ex, ey, q⟩ => ⟨_, _, ex, ey, by
  show Q (.int (Builtin.bitAnd (a : Int) (b : Int))) H
  have e1 : decide (0 ≤ (a : Int)) = true := decide_eq_true (Int.natCast_nonneg a)
  have e2 : decide (0 ≤ (b : Int)) = true := decide_eq_true (Int.natCast_nonneg b)
  unfold Builtin.bitAnd
  rw [e1, e2]
  exact q⟩
theorem hasE_snoc (l : List Q4) (z : Q4) (S : List Nat) (x : Nat) : hasE (l ++ [z]) S x = (hasE l S x || (inn S z && isE z x)) := by
  unfold hasE
  rw [List.any_append]
  simp
theorem hasM_snoc (l : List Q4) (z : Q4) (S : List Nat) (x : Nat) : hasM (l ++ [z]) S x = (hasM l S x || (inn S z && isM z x)) := by
  unfold hasM
  rw [List.any_append]
  simp
theorem up_extI : ∀ {l m : List Int}, l.Pairwise (· < ·) → m.Pairwise (· < ·) → (∀ x, x ∈ l ↔ x ∈ m) → l = m
  | [], [], _, _, _ => rfl
  | [], b :: m, _, _, h => by cases (h b).mpr List.mem_cons_self
  | a :: l, [], _, _, h => by cases (h a).mp List.mem_cons_self
  | a :: l, b :: m, hl, hm, h => by
    obtain ⟨al, ll⟩ := List.pairwise_cons.mp hl
    obtain ⟨bm, mm⟩ := List.pairwise_cons.mp hm
    have e : a = b := by
      rcases List.mem_cons.mp ((h a).mp List.mem_cons_self) with e | e
      · exact e
      rcases List.mem_cons.mp ((h b).mpr List.mem_cons_self) with e2 | e2
      · exact e2.symm
      have := al b e2
      have := bm a e
      omega
    subst e
    rw [up_extI ll mm fun x => ⟨fun hx => ?_, fun hx => ?_⟩]
    · rcases List.mem_cons.mp ((h x).mp (List.mem_cons_of_mem _ hx)) with e | e
      · have := al x hx
        omega
      · exact e
    · rcases List.mem_cons.mp ((h x).mpr (List.mem_cons_of_mem _ hx)) with e | e
      · have := bm x hx
        omega
      · exact e
def asI (g : List Nat) : List Int := g.map fun (k : Nat) => (k : Int)
theorem asI_nvs (g : List Nat) : (asI g).map V.int = nvs g := by
  unfold asI nvs
  rw [List.map_map]
  rfl
theorem asI_up {g : List Nat} (h : g.Pairwise (· < ·)) : (asI g).Pairwise (· < ·) := h.map _ fun a b l => by omega
theorem fwG_good {n : Int} : ∀ {r sn : List Int}, Good n (sn ++ r) → fwG n (r.map PyData.int) sn = none
  | [], sn, _ => rfl
  | i :: r, sn, g => by
    have nd := List.nodup_append.mp g.nd
    have h1 : okAt n sn (.int i) = true := decide_eq_true ⟨(g.rng i (List.mem_append_right _ List.mem_cons_self)).1, (g.rng i (List.mem_append_right _ List.mem_cons_self)).2, fun h => nd.2.2 i h i List.mem_cons_self rfl⟩
    rw [List.map_cons, fwG, if_pos h1]
    exact fwG_good (by rw [List.append_assoc]; exact g)
/-- a set of things, ascending -/
structure SetN (n : Nat) (S : List Nat) : Prop where
  up : S.Pairwise (· < ·)
  lt : ∀ x ∈ S, x < n
theorem left_set (n : Nat) (p : List Pq) : SetN n (left n p) := ⟨left_up n p, fun x hx => (mem_left.mp hx).1⟩
theorem SetN.fil {n : Nat} {S : List Nat} (h : SetN n S) (p : Nat → Bool) : SetN n (S.filter p) := ⟨h.up.filter _, fun x hx => h.lt x (List.mem_filter.mp hx).1⟩
theorem SetN.good {n : Nat} {S : List Nat} (h : SetN n S) : Good (n : Int) (asI S) := ⟨(asI_up h.up).imp (fun l => by omega), fun k hk => by
  obtain ⟨x, hx, rfl⟩ := List.mem_map.mp hk
  have := h.lt x hx
  omega⟩
theorem bits_set {n m : Nat} {S : List Nat} (h : SetN n S) (hm : ∀ x, m.testBit x = decide (x ∈ S)) : (List.range (bitsN m)).filter m.testBit = S := by
  rw [bitsOf_eq (n := n) fun j hj => by rw [hm]; exact decide_eq_false fun e => by have := h.lt j e; omega]
  unfold bitsOf
  refine up_ext (List.pairwise_lt_range.filter _) h.up fun x => ?_
  rw [List.mem_filter, List.mem_range, hm, decide_eq_true_iff]
  exact ⟨fun z => z.2, fun z => ⟨h.lt x z, z⟩⟩
theorem bits_few {n m : Nat} {S : List Nat} (h : SetN n S) (n16 : n ≤ 16) (hm : ∀ x, m.testBit x = decide (x ∈ S)) : bitsN m ≤ 1000 := by
  have := bits_lt (m := m) (k := n) (fun j hj => by rw [hm]; exact decide_eq_false fun e => by have := h.lt j e; omega) n16
  omega
section
variable {P : Program} {w : World} {K : PySem.W.Frag} {mg : Str → Option Value} {base : Heap} {f : Addr} {fd : FuncData}
/-- held_masks -/
def spHm : Sp := fun vs H Q _ => ∃ (L : Addr) (P : Nat) (S : List Nat) (qs : List Q4), vs = [.ref L, .int (P : Int)] ∧ RmH H L qs ∧ (∀ x, P.testBit x = decide (x ∈ S)) ∧ ∀ H' t (e m : Nat), Same H H' → H' t = some (.tup [.int (e : Int), .int (m : Int)]) → (∀ x, e.testBit x = hasE qs S x) → (∀ x, m.testBit x = hasM qs S x) → Q (.ref t) H'
abbrev hmN : List Str := ["rows", "part", "ends", "middles", "whole", "outer", "inner"]
theorem sc_hm : FnScope hmN ["rows", "part"] (defScope s_hm) := ⟨rfl, rfl, rfl, by decide +kernel, rfl, by decide +kernel, by decide +kernel⟩
theorem ok_hm (F : Fun K "held_masks" "held_masks" s_hm f fd) : FnOk P w K mg base (L2.CX P w) 1 f fd ["rows", "part"] spHm := by
  refine F.okX sc_hm (fun vs H Q E h => ?_) (fun cdv A outer s H vs Q E hr h => ?_)
  · obtain ⟨L, P, S, qs, rfl, _⟩ := h
    rfl
  · obtain ⟨L, P, S, qs, rfl, ⟨l, hl1, hl2, hl3⟩, hP, k⟩ := h
    have nd := sc_hm.nd
    refine ⟨_, pss_cons (ps_set (i := 2) nd rfl (.inl rfl) pe_int) (pss_cons (ps_set (i := 3) nd rfl (.inl rfl) pe_int)
      (pss_cons (ps_for (passes_of rfl) rfl (pi_list (pv 0)) (pg_tup rfl (pgs_cons (pg_name (i := 4) nd rfl (.inl rfl)) (pgs_cons (pg_name (i := 5) nd rfl (.inl rfl)) (pgs_cons (pg_name (i := 6) nd rfl (.inl rfl)) pgs_nil))))
        (pss_one (ps_if (pt_cmpR op_eq (pe_op op_andN (pv 4) (pe_un un_inv (pv 1))) pe_int (nomark _)) (pss_cons (ps_set (i := 2) nd rfl (.inl rfl) (pe_op op_orN (pv 2) (pv 5))) (pss_one (ps_set (i := 3) nd rfl (.inl rfl) (pe_op op_orN (pv 3) (pv 6))))) pss_nil)))
      (pss_one (ps_ret (pe_tup (pa_cons (pv 2) (pa_cons (pv 3) pa_nil))))))), ?_⟩
    let Pv : Nat → L2.St → Hp → Prop := fun i σ H' => ∃ (e m : Nat) (o4 o5 o6 : Option V), σ = [some (.ref L), some (.int (P : Int)), some (.int (e : Int)), some (.int (m : Int)), o4, o5, o6] ∧ Same H H' ∧ (∀ x, e.testBit x = hasE (qs.take i) S x) ∧ (∀ x, m.testBit x = hasM (qs.take i) S x)
    refine ⟨_, rfl, L, rfl, ⟨_, SqL.of hl1⟩, for_it (walk_list (K := K) (a := L) (xs := l.map fun z => V.ref z.1)) Pv ⟨0, 0, none, none, none, rfl, .refl _, fun x => Nat.zero_testBit x, fun x => Nat.zero_testBit x⟩ (fun i σ H' _ h => ?_) (fun i v σ Hx H' hi h y => ?_) (fun σ H' h => ?_)⟩
    · obtain ⟨_, _, _, _, _, _, sm, _⟩ := h
      exact SqL.of (sm _ _ hl1)
    · obtain ⟨e, m, o4, o5, o6, rfl, sm, he, hm⟩ := h
      obtain ⟨rfl, hv⟩ := y
      rw [List.length_map] at hi
      have hli : l[i]? = some l[i] := List.getElem?_eq_getElem hi
      rw [List.getElem?_map, hli] at hv
      cases hv
      have qi : qs[i]? = some l[i].2 := by rw [← hl2, List.getElem?_map, hli]; rfl
      have hz := sm _ _ (hl3 _ (List.getElem_mem hi))
      generalize l[i].2 = z at qi hz
      refine ⟨_, _, rfl, SqT.of hz, rfl, _, _, rfl, _, _, rfl, _, _, rfl, rfl, ?_⟩
      refine ⟨_, rfl, _, rfl, _, rfl, mW z, P, rfl, rfl, rfl, _, rfl, ?_⟩
      rw [dec_int]
      by_cases c : inn S z = true
      · rw [show (((andN (mW z) P : Nat) : Int) == 0) = true from beq_iff_eq.mpr (by rw [(mW_in hP z).mpr c]; rfl)]
        refine iteT ⟨_, rfl, _, rfl, _, _, rfl, rfl, _, rfl, _, rfl, _, _, rfl, rfl, e ||| mE z, m ||| mI z, _, _, _, rfl, sm, fun x => ?_, fun x => ?_⟩
        · rw [Nat.testBit_or, he, mE_bit, take_at qi, hasE_snoc, c, Bool.true_and]
        · rw [Nat.testBit_or, hm, mI_bit, take_at qi, hasM_snoc, c, Bool.true_and]
      · rw [show (((andN (mW z) P : Nat) : Int) == 0) = false from beq_eq_false_iff_ne.mpr fun z0 => c ((mW_in hP z).mp (by omega))]
        have c := Bool.not_eq_true _ ▸ c
        refine iteF ⟨e, m, _, _, _, rfl, sm, fun x => ?_, fun x => ?_⟩
        · rw [he, take_at qi, hasE_snoc, c, Bool.false_and, Bool.or_false]
        · rw [hm, take_at qi, hasM_snoc, c, Bool.false_and, Bool.or_false]
    · obtain ⟨e, m, o4, o5, o6, rfl, sm, he, hm⟩ := h
      have ll : l.length = qs.length := by rw [← hl2, List.length_map]
      rw [List.length_map, ll, List.take_length] at he hm
      refine ⟨_, rfl, _, rfl, ?_⟩
      refine ⟨by show 2 ≤ sizeLine; decide, fun t nt => ?_⟩
      exact k _ t e m (sm.trans (same_upd nt)) upd_same he hm
/-- check_part on things that are right -/
def spCp (K : PySem.W.Frag) : Sp := fun vs H Q _ => ∃ (n : Nat) (a : Addr) (S : List Nat), vs = [.int (n : Int), .ref a] ∧ n ≤ 9 ∧ H a = some (.tup (nvs S)) ∧ SetN n S ∧ ∀ H' t, Same H H' → (∀ H2, Same H' H2 → SqT K H2 t (nvs S)) → Q (.ref t) H'
theorem sc_cp : FnScope ["many", "part"] ["many", "part"] (defScope s_cp) := ⟨rfl, rfl, rfl, by decide +kernel, rfl, by decide +kernel, by decide +kernel⟩
theorem ok_cp {CPt : Addr} (F : Fun K "check_part" "check_part" s_cp f fd) (B : Blt2 mg) (CS : Df P w K mg base "check_things" 4 ["many", "things"] (spCs K CPt)) : FnOk P w K mg base (L2.CX P w) 5 f fd ["many", "part"] (spCp K) := by
  refine F.okX sc_cp (fun vs H Q E h => ?_) (fun cdv A outer s H vs Q E hr h => ?_)
  · obtain ⟨n, a, S, rfl, _⟩ := h
    rfl
  · obtain ⟨n, a, S, rfl, n9, ha, hS, k⟩ := h
    refine ⟨_, pss_cons (ps_if (pt_cmpR op_isN (pv 1) pe_non (nomark _)) (pss_one (ps_ret (pe_tupRg rfl (by rfl) B.tuple (prg_1 (by rfl) B.range (pv 0))))) pss_nil)
      (pss_one (ps_ret (pe_df CS hr (by rfl) passUp (pa_cons (pv 0) (pa_cons (pv 1) pa_nil))))), ?_⟩
    have fw : fwG (n : Int) ((asI S).map PyData.int) [] = none := fwG_good hS.good
    have dx : DtAll H (nvs S) ((asI S).map PyData.int) := by
      rw [← asI_nvs]
      exact .ints H _
    refine ⟨_, rfl, rfl, _, rfl, iteF ⟨_, rfl, _, rfl, (n : Int), a, (asI S).map PyData.int, rfl, by omega, by omega, .tup ha dx, fun _ => ⟨⟨_, .inr ⟨SqT.of ha, fun H' s' => SqT.of (s' _ _ ha)⟩, dx⟩, fun H1 t ms s1 nt ht srt mm => ?_⟩, fun i e => by rw [fw] at e; cases e⟩⟩
    have em : ms = asI S := up_extI srt (asI_up hS.up) fun x => by rw [mm]; simp
    subst em
    refine k H1 t s1 fun H2 s2 => ?_
    have := (ht.mono s2).sq (K := K)
    rw [asI_nvs] at this
    exact this
/-- no_ends, no_middles -/
def spNx (C : Addr) (g : List Q4 → List Nat → Nat → Bool) : Sp := fun vs H Q _ => ∃ (p a : Addr) (n : Nat) (q : List Pr) (S : List Nat), vs = [.ref p, .ref a] ∧ WebAt C H p (n : Int) q ∧ n ≤ 9 ∧ H a = some (.tup (nvs S)) ∧ SetN n S ∧ ∀ H' t qs, Same H H' → Q4s n q qs → H' t = some (.tup (nvs (S.filter fun x => !g qs S x))) → Q (.ref t) H'
theorem sc_ne7 : FnScope ["web", "part", "whole", "ends", "_"] ["web", "part"] (defScope s_ne7) := ⟨rfl, rfl, rfl, by decide +kernel, rfl, by decide +kernel, by decide +kernel⟩
theorem sc_nm7 : FnScope ["web", "part", "whole", "_", "middles"] ["web", "part"] (defScope s_nm7) := ⟨rfl, rfl, rfl, by decide +kernel, rfl, by decide +kernel, by decide +kernel⟩
theorem ok_ne7 {dvs : List V} {C : Addr} (F : FunD K "no_ends" "no_ends" (defArgs s_ne7) (defBody s_ne7) (defScope s_ne7) dvs [] f fd) (T : WebC K C) (CP : Df P w K mg base "check_part" 5 ["many", "part"] (spCp K)) (MO : Df P w K mg base "mask_of" 1 ["things"] (spMo K)) (RM : Df P w K mg base "row_masks" 3 ["web"] (spRm C)) (HM : Df P w K mg base "held_masks" 1 ["rows", "part"] spHm) (TI : Df P w K mg base "things_in" 1 ["mask"] spTi) : FnOk P w K mg base (L2.CX P w) 6 f fd ["web", "part"] (spNx C hasE) := by
  refine F.ok sc_ne7 (fun vs H Q E h => ?_) (fun cdv A outer s H vs Q E hr h => ?_)
  · obtain ⟨p, a, n, q, S, rfl, _⟩ := h
    rfl
  · obtain ⟨p, a, n, q, S, rfl, W, n9, ha, hS, k⟩ := h
    obtain ⟨⟨ddx, cc, m, l0, h1, h2, h3, h4, h5⟩, cl, n0, n16⟩ := id W
    have nd := sc_ne7.nd
    have r1 : Room 1 _ := hr.mono (by decide)
    have r3 : Room 3 _ := hr.mono (by decide)
    refine ⟨_, pss_cons (ps_set (i := 2) nd rfl (.inl rfl) (pe_df MO r1 (by rfl) passUp (pa_cons (pe_df CP hr (by rfl) passUp (pa_cons (pe_fld (pv 0) rfl) (pa_cons (pv 1) pa_nil))) pa_nil)))
      (pss_cons (ps_asg (pe_df HM r1 (by rfl) passUp (pa_cons (pe_df RM r3 (by rfl) passUp (pa_cons (pv 0) pa_nil)) (pa_cons (pv 2) pa_nil))) (pg_tup rfl (pgs_cons (pg_name (i := 3) nd rfl (.inl rfl)) (pgs_cons (pg_name (i := 4) nd rfl (.inl rfl)) pgs_nil))))
      (pss_one (ps_ret (pe_df TI r1 (by rfl) passUp (pa_cons (pe_op op_andN (pv 2) (pe_un un_inv (pv 3))) pa_nil))))), ?_⟩
    refine ⟨_, rfl, p, C, ddx, _, _, rfl, h1, T.cl, T.nm, wf_many _ _ _, _, rfl, n, a, S, rfl, n9, ha, hS, fun H1 t1 s1 ht1 => ?_⟩
    refine ⟨t1, S, rfl, ht1, fun x hx => (by have := hS.lt x hx; omega), fun H2 s2 => ?_⟩
    have s12 := s1.trans s2
    refine ⟨_, rfl, p, n, q, rfl, W.mono s12, fun H3 L qs s3 Z hL => ?_⟩
    have s13 := s12.trans s3
    refine ⟨_, rfl, L, mkM S, S, qs, rfl, hL, mkM_bit S, fun H4 t e mi s4 ht he hm => ?_⟩
    refine ⟨t, _, rfl, SqT.of ht, rfl, _, _, rfl, _, _, rfl, rfl, ?_⟩
    have bit : ∀ x, (andN (mkM S) e).testBit x = decide (x ∈ S.filter fun x => !hasE qs S x) := fun x => by
      rw [andN_bit, mkM_bit, he, Bool.eq_iff_iff, Bool.and_eq_true, decide_eq_true_iff, decide_eq_true_iff, List.mem_filter]
    refine ⟨_, rfl, _, rfl, _, rfl, mkM S, e, rfl, rfl, andN (mkM S) e, rfl, bits_few (hS.fil _) (by omega) bit, fun H5 u s5 nu hu => ?_⟩
    rw [bits_set (hS.fil _) bit] at hu
    exact k H5 u qs (s13.trans (s4.trans s5)) Z hu
theorem ok_nm7 {dvs : List V} {C : Addr} (F : FunD K "no_middles" "no_middles" (defArgs s_nm7) (defBody s_nm7) (defScope s_nm7) dvs [] f fd) (T : WebC K C) (CP : Df P w K mg base "check_part" 5 ["many", "part"] (spCp K)) (MO : Df P w K mg base "mask_of" 1 ["things"] (spMo K)) (RM : Df P w K mg base "row_masks" 3 ["web"] (spRm C)) (HM : Df P w K mg base "held_masks" 1 ["rows", "part"] spHm) (TI : Df P w K mg base "things_in" 1 ["mask"] spTi) : FnOk P w K mg base (L2.CX P w) 6 f fd ["web", "part"] (spNx C hasM) := by
  refine F.ok sc_nm7 (fun vs H Q E h => ?_) (fun cdv A outer s H vs Q E hr h => ?_)
  · obtain ⟨p, a, n, q, S, rfl, _⟩ := h
    rfl
  · obtain ⟨p, a, n, q, S, rfl, W, n9, ha, hS, k⟩ := h
    obtain ⟨⟨ddx, cc, m, l0, h1, h2, h3, h4, h5⟩, cl, n0, n16⟩ := id W
    have nd := sc_nm7.nd
    have r1 : Room 1 _ := hr.mono (by decide)
    have r3 : Room 3 _ := hr.mono (by decide)
    refine ⟨_, pss_cons (ps_set (i := 2) nd rfl (.inl rfl) (pe_df MO r1 (by rfl) passUp (pa_cons (pe_df CP hr (by rfl) passUp (pa_cons (pe_fld (pv 0) rfl) (pa_cons (pv 1) pa_nil))) pa_nil)))
      (pss_cons (ps_asg (pe_df HM r1 (by rfl) passUp (pa_cons (pe_df RM r3 (by rfl) passUp (pa_cons (pv 0) pa_nil)) (pa_cons (pv 2) pa_nil))) (pg_tup rfl (pgs_cons (pg_name (i := 3) nd rfl (.inl rfl)) (pgs_cons (pg_name (i := 4) nd rfl (.inl rfl)) pgs_nil))))
      (pss_one (ps_ret (pe_df TI r1 (by rfl) passUp (pa_cons (pe_op op_andN (pv 2) (pe_un un_inv (pv 4))) pa_nil))))), ?_⟩
    refine ⟨_, rfl, p, C, ddx, _, _, rfl, h1, T.cl, T.nm, wf_many _ _ _, _, rfl, n, a, S, rfl, n9, ha, hS, fun H1 t1 s1 ht1 => ?_⟩
    refine ⟨t1, S, rfl, ht1, fun x hx => (by have := hS.lt x hx; omega), fun H2 s2 => ?_⟩
    have s12 := s1.trans s2
    refine ⟨_, rfl, p, n, q, rfl, W.mono s12, fun H3 L qs s3 Z hL => ?_⟩
    have s13 := s12.trans s3
    refine ⟨_, rfl, L, mkM S, S, qs, rfl, hL, mkM_bit S, fun H4 t e mi s4 ht he hm => ?_⟩
    refine ⟨t, _, rfl, SqT.of ht, rfl, _, _, rfl, _, _, rfl, rfl, ?_⟩
    have bit : ∀ x, (andN (mkM S) mi).testBit x = decide (x ∈ S.filter fun x => !hasM qs S x) := fun x => by
      rw [andN_bit, mkM_bit, hm, Bool.eq_iff_iff, Bool.and_eq_true, decide_eq_true_iff, decide_eq_true_iff, List.mem_filter]
    refine ⟨_, rfl, _, rfl, _, rfl, mkM S, mi, rfl, rfl, andN (mkM S) mi, rfl, bits_few (hS.fil _) (by omega) bit, fun H5 u s5 nu hu => ?_⟩
    rw [bits_set (hS.fil _) bit] at hu
    exact k H5 u qs (s13.trans (s4.trans s5)) Z hu
/-- core -/
def spCore (C : Addr) : Sp := fun vs H Q _ => ∃ (p : Addr) (n : Nat) (q : List Pr), vs = [.ref p] ∧ WebAt C H p (n : Int) q ∧ n ≤ 9 ∧ ∀ H' t qs, Same H H' → Q4s n q qs → H' t = some (.tup (nvs (coreOf n qs))) → Q (.ref t) H'
abbrev coN : List Str := ["web", "rows", "part", "ends", "middles"]
theorem sc_core : FnScope coN ["web"] (defScope s_core) := ⟨rfl, rfl, rfl, by decide +kernel, rfl, by decide +kernel, by decide +kernel⟩
theorem ok_core {C : Addr} (F : Fun K "core" "core" s_core f fd) (T : WebC K C) (WH : Df P w K mg base "whole_mask" 1 ["many"] spWh) (RM : Df P w K mg base "row_masks" 3 ["web"] (spRm C)) (HM : Df P w K mg base "held_masks" 1 ["rows", "part"] spHm) (TI : Df P w K mg base "things_in" 1 ["mask"] spTi) : FnOk P w K mg base (L2.CX P w) 4 f fd ["web"] (spCore C) := by
  refine F.okX sc_core (fun vs H Q E h => ?_) (fun cdv A outer s H vs Q E hr h => ?_)
  · obtain ⟨p, n, q, rfl, _⟩ := h
    rfl
  · obtain ⟨p, n, q, rfl, W, n9, k⟩ := h
    obtain ⟨⟨ddx, cc, m, l0, h1, h2, h3, h4, h5⟩, cl, n0, n16⟩ := id W
    have nd := sc_core.nd
    have r1 : Room 1 _ := hr.mono (by decide)
    refine ⟨_, pss_cons (ps_set (i := 1) nd rfl (.inl rfl) (pe_df RM hr (by rfl) passUp (pa_cons (pv 0) pa_nil)))
      (pss_cons (ps_set (i := 2) nd rfl (.inl rfl) (pe_df WH r1 (by rfl) passUp (pa_cons (pe_fld (pv 0) rfl) pa_nil)))
      (pss_cons (ps_asg (pe_df HM r1 (by rfl) passUp (pa_cons (pv 1) (pa_cons (pv 2) pa_nil))) (pg_tup rfl (pgs_cons (pg_name (i := 3) nd rfl (.inl rfl)) (pgs_cons (pg_name (i := 4) nd rfl (.inl rfl)) pgs_nil))))
      (pss_cons (ps_while (passes_of rfl) (pt_cmpR op_ne (pe_op op_andB (pv 3) (pv 4)) (pv 2) (nomark _))
        (pss_cons (ps_set (i := 2) nd rfl (.inl rfl) (pe_op op_andB (pv 3) (pv 4)))
        (pss_one (ps_asg (pe_df HM r1 (by rfl) passUp (pa_cons (pv 1) (pa_cons (pv 2) pa_nil))) (pg_tup rfl (pgs_cons (pg_name (i := 3) nd rfl (.inl rfl)) (pgs_cons (pg_name (i := 4) nd rfl (.inl rfl)) pgs_nil)))))))
      (pss_one (ps_ret (pe_df TI r1 (by rfl) passUp (pa_cons (pv 2) pa_nil))))))), ?_⟩
    refine ⟨_, rfl, p, n, q, rfl, W, fun H1 L qs s1 Z hL => ?_⟩
    refine ⟨_, rfl, p, C, ddx, _, _, rfl, s1 _ _ h1, T.cl, T.nm, wf_many _ _ _, n, rfl, by omega, fun H2 s2 => ?_⟩
    have wb : ∀ x, (2 ^ n - 1).testBit x = decide (x ∈ List.range n) := fun x => by
      rw [Nat.testBit_two_pow_sub_one]
      exact decide_eq_decide.mpr List.mem_range.symm
    refine ⟨_, rfl, _, rfl, L, 2 ^ n - 1, List.range n, qs, rfl, hL.mono s2, wb, fun H3 t e mi s3 ht he hm => ?_⟩
    refine ⟨t, _, rfl, SqT.of ht, rfl, _, _, rfl, _, _, rfl, rfl, ?_⟩
    have hL3 := hL.mono (s2.trans s3)
    have t3 := s1.trans (s2.trans s3)
    let Wv : Nat → L2.St → Hp → Prop := fun k σ H' => ∃ (P e mi : Nat) (S : List Nat), σ = [some (.ref p), some (.ref L), some (.int (P : Int)), some (.int (e : Int)), some (.int (mi : Int))] ∧ Same H3 H' ∧ SetN n S ∧ (∀ x, P.testBit x = decide (x ∈ S)) ∧ (∀ x, e.testBit x = hasE qs S x) ∧ (∀ x, mi.testBit x = hasM qs S x) ∧ (∀ x ∈ coreOf n qs, x ∈ S) ∧ k = S.length
    refine ⟨Wv, ⟨_, 2 ^ n - 1, e, mi, List.range n, rfl, .refl _, ⟨List.pairwise_lt_range, fun x hx => List.mem_range.mp hx⟩, wb, he, hm, fun x hx => shrI_sub n hx, rfl⟩, ?_⟩
    rintro k' σ H' ⟨P, e, mi, S, rfl, sm, hS, hP, he, hm, hc, rfl⟩
    have eb : ∀ x, (e &&& mi).testBit x = decide (x ∈ shr qs S) := fun x => by
      rw [Nat.testBit_and, he, hm, Bool.eq_iff_iff, decide_eq_true_iff]
      unfold shr
      rw [List.mem_filter]
      exact ⟨fun h => ⟨hasE_in ((Bool.and_eq_true _ _).mp h).1, h⟩, fun h => h.2⟩
    refine ⟨_, rfl, _, rfl, e, mi, rfl, rfl, _, rfl, rfl, _, rfl, ?_⟩
    rw [dec_int]
    by_cases c : shr qs S = S
    · have ep : e &&& mi = P := Nat.eq_of_testBit_eq fun x => by rw [eb, hP, c]
      rw [show (!(((e &&& mi : Nat) : Int) == (P : Int))) = false by rw [ep]; simp]
      refine iteF ?_
      have eS : S = coreOf n qs := by
        refine up_ext hS.up (core_up n qs) fun x => ⟨fun hx => ?_, hc x⟩
        have firm : Firm qs S := fun y hy => by
          have : y ∈ shr qs S := by rw [c]; exact hy
          have := (List.mem_filter.mp this).2
          rwa [Bool.and_eq_true] at this
        exact firm_shrI firm n (S := List.range n) (fun y hy => List.mem_range.mpr (hS.lt y hy)) x hx
      refine ⟨_, rfl, P, rfl, bits_few hS (by omega) hP, fun H5 u s5 nu hu => ?_⟩
      rw [bits_set hS hP, eS] at hu
      exact k H5 u qs (t3.trans (sm.trans s5)) Z hu
    · have np : e &&& mi ≠ P := fun ep => c (up_ext (shr_up hS.up) hS.up fun x => by
        have h1 := eb x
        rw [ep, hP] at h1
        exact (decide_eq_decide.mp h1).symm)
      rw [show (!(((e &&& mi : Nat) : Int) == (P : Int))) = true by rw [beq_eq_false_iff_ne.mpr (by omega)]; rfl]
      refine iteT ?_
      refine ⟨fun σ' H'' => ∃ m', m' < S.length ∧ Wv m' σ' H'', fun _ _ h => h, ?_⟩
      refine ⟨_, rfl, _, rfl, e, mi, rfl, rfl, _, rfl, _, rfl, L, e &&& mi, shr qs S, qs, rfl, hL3.mono sm, eb, fun H4 t e' mi' s4 ht he' hm' => ?_⟩
      refine ⟨t, _, rfl, SqT.of ht, rfl, _, _, rfl, _, _, rfl, rfl, ?_⟩
      refine ⟨(shr qs S).length, ?_, e &&& mi, e', mi', shr qs S, rfl, sm.trans s4, hS.fil _, eb, he', hm', firm_shr (core_firm n qs) hc, rfl⟩
      rcases fil_or (S := S) (p := fun x => hasE qs S x && hasM qs S x) with l | e0
      · exact l
      · exact absurd e0 c
end
end K0
set_option Elab.async false
set_option linter.all false
set_option maxRecDepth 100000
set_option maxHeartbeats 4000000
namespace K0
open PySem PySem.Spec PyProof.Rows L2
abbrev s_tg (i : Nat) : Stmt := inClass (top 36) i
/-! ### what a Taking looks like -/
theorem k_wf : ¬ (("web" : Str) = "front") := by decide +kernel
theorem k_wb : ¬ (("web" : Str) = "back") := by decide +kernel
theorem k_wt : ¬ (("web" : Str) = "takes") := by decide +kernel
theorem k_fb : ¬ (("front" : Str) = "back") := by decide +kernel
theorem k_ft : ¬ (("front" : Str) = "takes") := by decide +kernel
theorem k_bt : ¬ (("back" : Str) = "takes") := by decide +kernel
def tkf (p f b k : Addr) : List (Str × V) := [("web", .ref p), ("front", .ref f), ("back", .ref b), ("takes", .ref k)]
theorem tkf_mk (p f b k : Addr) : putF "takes" (.ref k) (putF "back" (.ref b) (putF "front" (.ref f) (putF "web" (.ref p) []))) = tkf p f b k := by
  unfold tkf
  simp only [putF, if_neg k_wf, if_neg k_wb, if_neg k_wt, if_neg k_fb, if_neg k_ft, if_neg k_bt]
theorem tkf_front (p f b k f' : Addr) : putF "front" (.ref f') (tkf p f b k) = tkf p f' b k := by
  unfold tkf
  simp only [putF, if_neg k_wf, if_true]
theorem tkf_back (p f b k f' : Addr) : putF "back" (.ref f') (tkf p f b k) = tkf p f f' k := by
  unfold tkf
  simp only [putF, if_neg k_wb, if_neg k_fb, if_true]
theorem tkf_takes (p f b k f' : Addr) : putF "takes" (.ref f') (tkf p f b k) = tkf p f b f' := by
  unfold tkf
  simp only [putF, if_neg k_wt, if_neg k_ft, if_neg k_bt, if_true]
theorem tkf_web (p f b k : Addr) : (tkf p f b k).lookup ("web" : Str) = some (.ref p) := by
  rw [← tkf_mk, lookup_putF, if_neg k_wt, lookup_putF, if_neg k_wb, lookup_putF, if_neg k_wf, lookup_putF, if_pos rfl]
theorem tkf_lf (p f b k : Addr) : (tkf p f b k).lookup ("front" : Str) = some (.ref f) := by
  rw [← tkf_mk, lookup_putF, if_neg k_ft, lookup_putF, if_neg k_fb, lookup_putF, if_pos rfl]
theorem tkf_lb (p f b k : Addr) : (tkf p f b k).lookup ("back" : Str) = some (.ref b) := by
  rw [← tkf_mk, lookup_putF, if_neg k_bt, lookup_putF, if_pos rfl]
theorem tkf_lt (p f b k : Addr) : (tkf p f b k).lookup ("takes" : Str) = some (.ref k) := by
  rw [← tkf_mk, lookup_putF, if_pos rfl]
theorem tkf_no (p f b k : Addr) {x : Str} (h1 : ¬ x = "web") (h2 : ¬ x = "front") (h3 : ¬ x = "back") (h4 : ¬ x = "takes") : (tkf p f b k).lookup x = none := by
  rw [← tkf_mk, lookup_putF, if_neg h4, lookup_putF, if_neg h3, lookup_putF, if_neg h2, lookup_putF, if_neg h1]
  rfl
def sideS (b : Bool) : Str := if b = true then "front" else "back"
/-- a Taking of the web at p, with these takes -/
def TkAt (D : Addr) (H : Hp) (t p : Addr) (pr : List Pq) : Prop := ∃ (dx f b k : Addr) (l : List (Addr × Pq)), H t = some (.ins D dx (tkf p f b k)) ∧ H f = some (.tup (nvs (fronts pr))) ∧ H b = some (.tup (nvs (backs pr))) ∧ H k = some (.tup (l.map fun z => V.ref z.1)) ∧ l.map (·.2) = pr ∧ ∀ z ∈ l, H z.1 = some (.tup [.int (z.2.1 : Int), .str (sideS z.2.2)])
theorem TkAt.mono {D : Addr} {H H' : Hp} {t p : Addr} {pr : List Pq} (s : Same H H') : TkAt D H t p pr → TkAt D H' t p pr := fun ⟨dx, f, b, k, l, h1, h2, h3, h4, h5, h6⟩ => ⟨dx, f, b, k, l, s _ _ h1, s _ _ h2, s _ _ h3, s _ _ h4, h5, fun z hz => s _ _ (h6 z hz)⟩
/-- what the program knows of the class Taking -/
structure TakC (K : PySem.W.Frag) (D : Addr) : Prop where
  cl : Cls K D
  nw : NoAttr K D "web"
  nf : NoAttr K D "front"
  nb : NoAttr K D "back"
  nt : NoAttr K D "takes"
section
variable {P : Program} {w : World} {K : PySem.W.Frag} {mg : Str → Option Value} {base : Heap} {f : Addr} {fd : FuncData}
/-- Taking.__init__ -/
def spTkI (D : Addr) : Sp := fun vs H Q _ => ∃ (o dx p : Addr) (ob : HO), vs = [.ref o, .ref p] ∧ H o = some (.ins D dx []) ∧ H p = some ob ∧ p ≠ o ∧ ∀ H', SameX o H H' → TkAt D H' o p [] → Q .non H'
theorem sc_tki : FnScope ["self", "web"] ["self", "web"] (defScope (s_tg 0)) := ⟨rfl, rfl, rfl, by decide +kernel, rfl, by decide +kernel, by decide +kernel⟩
theorem ok_tki {D : Addr} (F : Fun K "__init__" "Taking.__init__" (s_tg 0) f fd) (T : TakC K D) : FnOk P w K mg base (L2.CX P w) 1 f fd ["self", "web"] (spTkI D) := by
  refine F.okX sc_tki (fun vs H Q E h => ?_) (fun cdv A outer s H vs Q E hr h => ?_)
  · obtain ⟨o, dx, p, ob, rfl, _⟩ := h
    rfl
  · obtain ⟨o, dx, p, ob, rfl, ho, hp, po, k⟩ := h
    refine ⟨_, pss_cons (ps_fld (pv 0) (pv 1) rfl) (pss_cons (ps_fld (pv 0) (pe_tup pa_nil) rfl) (pss_cons (ps_fld (pv 0) (pe_tup pa_nil) rfl) (pss_one (ps_fld (pv 0) (pe_tup pa_nil) rfl)))), ?_⟩
    refine ⟨_, rfl, _, rfl, o, D, dx, [], rfl, ho, T.cl, T.nw, (by show 0 < 1000; decide), ?_⟩
    have x1 : SameX o H (upd H o (.ins D dx (putF "web" (.ref p) []))) := samex_upd
    have o1 : (upd H o (.ins D dx (putF "web" (.ref p) []))) o = some (.ins D dx (putF "web" (.ref p) [])) := upd_same
    generalize upd H o (.ins D dx (putF "web" (.ref p) [])) = H1 at x1 o1 ⊢
    -- front
    refine ⟨by show 0 ≤ sizeLine; decide, fun f1 nf1 => ?_⟩
    have y1 : SameX o H1 (upd H1 f1 (.tup [])) := sx (same_upd nf1)
    have of1 : f1 ≠ o := fun e => by rw [e, o1] at nf1; cases nf1
    refine ⟨_, rfl, o, D, dx, _, rfl, (same_upd nf1) _ _ o1, T.cl, T.nf, (by have := length_putF ("web" : Str) (.ref p) []; simp at this; omega), ?_⟩
    have x2 := (x1.trans y1).trans (samex_upd (p := o) (H := upd H1 f1 (.tup [])) (o := .ins D dx (putF "front" (.ref f1) (putF "web" (.ref p) []))))
    have o2 : (upd (upd H1 f1 (.tup [])) o (.ins D dx (putF "front" (.ref f1) (putF "web" (.ref p) [])))) o = some (.ins D dx (putF "front" (.ref f1) (putF "web" (.ref p) []))) := upd_same
    have q2 : (upd (upd H1 f1 (.tup [])) o (.ins D dx (putF "front" (.ref f1) (putF "web" (.ref p) [])))) f1 = some (.tup []) := by rw [upd_ne of1, upd_same]
    generalize upd (upd H1 f1 (.tup [])) o (.ins D dx (putF "front" (.ref f1) (putF "web" (.ref p) []))) = H2 at x2 o2 q2 ⊢
    -- back
    refine ⟨by show 0 ≤ sizeLine; decide, fun f2 nf2 => ?_⟩
    have y2 : SameX o H2 (upd H2 f2 (.tup [])) := sx (same_upd nf2)
    have of2 : f2 ≠ o := fun e => by rw [e, o2] at nf2; cases nf2
    refine ⟨_, rfl, o, D, dx, _, rfl, (same_upd nf2) _ _ o2, T.cl, T.nb, (by have h1 := length_putF ("web" : Str) (.ref p) []; have h2 := length_putF ("front" : Str) (.ref f1) (putF "web" (.ref p) []); simp at h1; omega), ?_⟩
    have z3 := y2.trans (samex_upd (p := o) (H := upd H2 f2 (.tup [])) (o := .ins D dx (putF "back" (.ref f2) (putF "front" (.ref f1) (putF "web" (.ref p) [])))))
    have o3 : (upd (upd H2 f2 (.tup [])) o (.ins D dx (putF "back" (.ref f2) (putF "front" (.ref f1) (putF "web" (.ref p) []))))) o = some (.ins D dx (putF "back" (.ref f2) (putF "front" (.ref f1) (putF "web" (.ref p) [])))) := upd_same
    have q3 : (upd (upd H2 f2 (.tup [])) o (.ins D dx (putF "back" (.ref f2) (putF "front" (.ref f1) (putF "web" (.ref p) []))))) f2 = some (.tup []) := by rw [upd_ne of2, upd_same]
    generalize upd (upd H2 f2 (.tup [])) o (.ins D dx (putF "back" (.ref f2) (putF "front" (.ref f1) (putF "web" (.ref p) [])))) = H3 at z3 o3 q3 ⊢
    -- takes
    refine ⟨by show 0 ≤ sizeLine; decide, fun f3 nf3 => ?_⟩
    have y3 : SameX o H3 (upd H3 f3 (.tup [])) := sx (same_upd nf3)
    have of3 : f3 ≠ o := fun e => by rw [e, o3] at nf3; cases nf3
    refine ⟨_, rfl, o, D, dx, _, rfl, (same_upd nf3) _ _ o3, T.cl, T.nt, (by have h1 := length_putF ("web" : Str) (.ref p) []; have h2 := length_putF ("front" : Str) (.ref f1) (putF "web" (.ref p) []); have h3 := length_putF ("back" : Str) (.ref f2) (putF "front" (.ref f1) (putF "web" (.ref p) [])); simp at h1; omega), ?_⟩
    rw [tkf_mk]
    have z4 := y3.trans (samex_upd (p := o) (H := upd H3 f3 (.tup [])) (o := .ins D dx (tkf p f1 f2 f3)))
    refine k _ (x2.trans (z3.trans z4)) ⟨dx, f1, f2, f3, [], upd_same, z4 _ _ (z3 _ _ q2 of1) of1, z4 _ _ q3 of2, ?_, rfl, fun z hz => by cases hz⟩
    rw [upd_ne of3, upd_same]
    rfl
/-- Taking(web) -/
def spMk7 (D : Addr) : Sp := fun vs H Q _ => ∃ (p : Addr) (ob : HO), vs = [.ref p] ∧ H p = some ob ∧ ∀ H' o, Same H H' → H o = none → TkAt D H' o p [] → Q (.ref o) H'
structure TakK (P : Program) (w : World) (K : PySem.W.Frag) (mg : Str → Option Value) (base : Heap) (D : Addr) : Prop where
  g : mg "Taking" = some (.ref D)
  ex : ∃ (f : Addr) (fd : FuncData), Mk K D f ∧ FnOk P w K mg base (L2.CX P w) 1 f fd ["self", "web"] (spTkI D) ∧ Binds K fd ["self", "web"] []
theorem spMk7_in {D : Addr} {vs : List V} {H : Hp} {Q : VK} {E : XK} (h : spMk7 D vs H Q E) (x dx : Addr) (nx : H x = none) (ndx : H dx = none) (ne : dx ≠ x) :
    spTkI D (.ref x :: vs) (upd (upd H dx (.own x)) x (.ins D dx [])) (fun v H2 => v = .non ∧ Q (.ref x) H2) E := by
  obtain ⟨p, ob, rfl, hp, k⟩ := h
  have s1 : Same H (upd (upd H dx (.own x)) x (.ins D dx [])) := fun b o e => by
    rw [upd_ne (ne_of_none e nx), upd_ne (ne_of_none e ndx)]
    exact e
  exact ⟨x, dx, p, ob, rfl, upd_same, s1 _ _ hp, ne_of_none hp nx, fun H' z O => ⟨rfl, k H' x (fun b o e => z b o (s1 b o e) (ne_of_none e nx)) nx O⟩⟩
theorem pe_tak {X : Cx} {D : Addr} {E : XK} {e : Expr} {es : List Expr} {t : TA} {p pos : Pos} (T : TakK X.prog X.w X.K X.mg X.base D) (hr : Room 2 X.A) (hg : Gl X "Taking") (hx : Passes (L2.CX X.prog X.w) X E) (ha : PA X (e :: es) t)
    (he : starEach (e :: es) X.env = (false, eval e X.env) :: starEach es X.env := by rfl) (hpl : (backTo pos (starEach es X.env)).any (·.1) = false := by rfl) :
    PE X (.Call (.Name "Taking" p) (e :: es) [] pos) (tCall (spMk7 D) [] E t) := by
  obtain ⟨f, fd, M, F, b⟩ := T.ex
  refine ⟨fun pins s σ H Q I h => ?_⟩
  refine wpAny_Call_Name_kw (ld_glob I hg T.g ?_ (by decide))
  refine PySem.W.callWith_K (h₀ := X.base) I.ok.mod.kin M.kp (thn (ha.run pos pins s σ H _ I h) fun us s1 ⟨vs, H1, I1, r, q⟩ => ⟨I1.kIn, ?_⟩) he hpl
  refine run_make (dvs := []) M F hr b .nil hx I1 r fun y dx nx ndx ne => ?_
  rw [List.append_nil]
  have q : spMk7 D (vs ++ []) H1 Q E := q
  rw [List.append_nil] at q
  exact spMk7_in q y dx nx ndx ne
/-- a Taking and its web -/
structure TkW (C D : Addr) (H : Hp) (t p : Addr) (n : Nat) (q : List Pr) (pr : List Pq) : Prop where
  few : pr.length ≤ 1000
  tk : TkAt D H t p pr
  web : WebAt C (del H t) p (n : Int) q
  n9 : n ≤ 9
theorem TkW.mono {C D : Addr} {H H' : Hp} {t p : Addr} {n : Nat} {q : List Pr} {pr : List Pq} (h : TkW C D H t p n q pr) (s : Same H H') : TkW C D H' t p n q pr := ⟨h.few, h.tk.mono s, h.web.mono fun b o e => by
  by_cases z : b = t
  · rw [z, del_same] at e
    cases e
  · rw [del_ne z] at e ⊢
    exact s b o e, h.n9⟩
theorem TkW.wb {C D : Addr} {H : Hp} {t p : Addr} {n : Nat} {q : List Pr} {pr : List Pq} (h : TkW C D H t p n q pr) : WebAt C H p (n : Int) q := h.web.mono del_sub
/-- the property things_left -/
def spTL (C D : Addr) : Sp := fun vs H Q _ => ∃ (t p : Addr) (n : Nat) (q : List Pr) (pr : List Pq), vs = [.ref t] ∧ TkW C D H t p n q pr ∧ ∀ H' a, Same H H' → H' a = some (.tup (nvs (left n pr))) → Q (.ref a) H'
theorem sc_tl : FnScope ["self", "thing"] ["self"] (defScope (s_tg 1)) := ⟨rfl, rfl, rfl, by decide +kernel, rfl, by decide +kernel, by decide +kernel⟩
theorem fb_len {pr : List Pq} : (fronts pr).length + (backs pr).length = pr.length := by
  unfold fronts backs
  rw [List.length_map, List.length_map]
  induction pr with
  | nil => rfl
  | cons z l ih =>
    cases e : z.2 <;> simp [e] <;> omega
theorem inV7 (x : Nat) (l : List Nat) : inV (.int (x : Int)) (nvs l) = decide (x ∈ l) := by
  rw [Bool.eq_iff_iff, decide_eq_true_iff]
  unfold inV nvs
  rw [List.any_map, List.any_eq_true]
  constructor
  · rintro ⟨y, hy, e⟩
    have e : ((y : Int) == (x : Int)) = true := e
    have : y = x := by
      have := beq_iff_eq.mp e
      omega
    rw [← this]
    exact hy
  · exact fun h => ⟨x, h, beq_iff_eq.mpr rfl⟩
theorem flat7 (l : List Nat) : (nvs l).all flatV = true := by
  unfold nvs
  rw [List.all_map, List.all_eq_true]
  exact fun _ _ => rfl
theorem left_eq (n : Nat) (pr : List Pq) : left n pr = (List.range n).filter fun x => !decide (x ∈ fronts pr ++ backs pr) := by
  unfold left
  refine List.filter_congr fun x _ => ?_
  congr 1
  rw [Bool.eq_iff_iff, decide_eq_true_iff, List.contains_iff_mem]
  exact left_sides
theorem ok_tl {C D : Addr} (F : Fun K "things_left" "Taking.things_left" (s_tg 1) f fd) (B : Blt2 mg) (TW : WebC K C) (T : TakC K D) : FnOk P w K mg base (L2.CX P w) 1 f fd ["self"] (spTL C D) := by
  refine F.okX sc_tl (fun vs H Q E h => ?_) (fun cdv A outer s H vs Q E hr h => ?_)
  · obtain ⟨t, p, n, q, pr, rfl, _⟩ := h
    rfl
  · obtain ⟨t, p, n, q, pr, rfl, TK, k⟩ := h
    obtain ⟨few, ⟨dx, fa, ba, ka, l, h1, h2, h3, h4, h5, h6⟩, _, n9⟩ := id TK
    obtain ⟨⟨ddx, cc, m, l0, w1, _⟩, cl, n0, n16⟩ := TK.wb
    have nd := sc_tl.nd
    refine ⟨_, pss_one (ps_ret (pe_callTy call_tuple_of (by rfl) B.tuple (by decide +kernel) (pa_cons (pe_lc (own := [("thing", 1)]) (g := gName 1) (tt := tTest (tOp (rIn K true) (tVar 1) (tOp (rCatA K) (tFld K (tVar 0) "front") (tFld K (tVar 0) "back")))) (te := tVar 1) rfl nd
      (pi_range1 (by rfl) B.range (pa_cons (pe_fld (pe_fld (pv 0) rfl) rfl) pa_nil)) (blkOk_by (N := ["self", "thing"]) (sc := defScope (s_tg 1)) (by decide +kernel)) (fun _ _ _ _ _ => pg_name (i := 1) nd rfl (.inl rfl))
      (fun _ _ _ _ _ => pts_one (pt_cmpR op_notIn_seq (pv 1) (pe_op op_catA (pe_fld (pv 0) rfl) (pe_fld (pv 0) rfl)) (by rfl))) (fun _ _ _ _ _ => pv 1)) pa_nil))), ?_⟩
    refine ⟨_, rfl, t, D, dx, _, _, rfl, h1, T.cl, T.nw, tkf_web _ _ _ _, p, C, ddx, _, _, rfl, w1, TW.cl, TW.nm, wf_many _ _ _, n, rfl, by omega, by omega, fun L nL => ?_⟩
    rw [Int.toNat_natCast]
    refine lc_range (lo := 0) (n := n) (fun i H' => Same H H' ∧ H' L = some (.lst (nvs (((List.range n).take i).filter fun x => !decide (x ∈ fronts pr ++ backs pr))))) ⟨same_upd nL, upd_same⟩ (fun i H' hi ⟨sm, hL⟩ => ?_) (fun H' ⟨sm, hL⟩ => ?_)
    · refine ⟨rfl, ?_⟩
      rw [Int.zero_add]
      have lenFB : (nvs (fronts pr)).length + (nvs (backs pr)).length ≤ sizeLine := by
        rw [nvs_len, nvs_len, fb_len]
        exact Nat.le_trans few (by rw [sizeLine_eq]; decide)
      refine ⟨_, rfl, _, rfl, t, D, dx, _, _, rfl, sm _ _ h1, T.cl, T.nf, tkf_lf _ _ _ _, _, rfl, t, D, dx, _, _, rfl, sm _ _ h1, T.cl, T.nb, tkf_lb _ _ _ _, fa, ba, _, _, rfl, rfl, SqT.of (sm _ _ h2), SqT.of (sm _ _ h3), lenFB, fun e => ?_, fun _ e => ?_, fun _ _ c nc => ?_⟩
      · have sc : SqT K H' ba (nvs (fronts pr ++ backs pr)) := by
          have e0 : fronts pr = [] := List.length_eq_zero_iff.mp (by rw [← nvs_len, e]; rfl)
          rw [e0]
          exact SqT.of (sm _ _ h3)
        refine ⟨ba, nvs (fronts pr ++ backs pr), rfl, .inr sc, rfl, flat7 _, _, rfl, ?_⟩
        rw [if_pos rfl, inV7]
        cases e7 : (!decide (i ∈ fronts pr ++ backs pr)) with
        | true =>
          refine iteT ⟨_, rfl, _, Same.refl H' _ _ hL, ?_, same_keep nL (sm.trans (Same.refl H')), ?_⟩
          · rw [nvs_len, sizeLine_eq]
            have h7 := List.length_filter_le (fun x => !decide (x ∈ fronts pr ++ backs pr)) ((List.range n).take i)
            rw [List.length_take, List.length_range] at h7
            omega
          · rw [upd_same, filter_take n i hi, if_pos e7]
            unfold nvs
            rw [List.map_append]
            rfl
        | false =>
          refine iteF ⟨sm.trans (Same.refl H'), ?_⟩
          rw [filter_take n i hi, if_neg (by rw [e7]; exact Bool.false_ne_true), List.append_nil]
          exact Same.refl H' _ _ hL
      · have sc : SqT K H' fa (nvs (fronts pr ++ backs pr)) := by
          have e0 : backs pr = [] := List.length_eq_zero_iff.mp (by rw [← nvs_len, e]; rfl)
          rw [e0, List.append_nil]
          exact SqT.of (sm _ _ h2)
        refine ⟨fa, nvs (fronts pr ++ backs pr), rfl, .inr sc, rfl, flat7 _, _, rfl, ?_⟩
        rw [if_pos rfl, inV7]
        cases e7 : (!decide (i ∈ fronts pr ++ backs pr)) with
        | true =>
          refine iteT ⟨_, rfl, _, Same.refl H' _ _ hL, ?_, same_keep nL (sm.trans (Same.refl H')), ?_⟩
          · rw [nvs_len, sizeLine_eq]
            have h7 := List.length_filter_le (fun x => !decide (x ∈ fronts pr ++ backs pr)) ((List.range n).take i)
            rw [List.length_take, List.length_range] at h7
            omega
          · rw [upd_same, filter_take n i hi, if_pos e7]
            unfold nvs
            rw [List.map_append]
            rfl
        | false =>
          refine iteF ⟨sm.trans (Same.refl H'), ?_⟩
          rw [filter_take n i hi, if_neg (by rw [e7]; exact Bool.false_ne_true), List.append_nil]
          exact Same.refl H' _ _ hL
      · have sc : SqT K (upd H' c (.tup (nvs (fronts pr) ++ nvs (backs pr)))) c (nvs (fronts pr ++ backs pr)) := SqT.of (by rw [upd_same]; unfold nvs; rw [List.map_append])
        refine ⟨c, nvs (fronts pr ++ backs pr), rfl, .inr sc, rfl, flat7 _, _, rfl, ?_⟩
        rw [if_pos rfl, inV7]
        cases e7 : (!decide (i ∈ fronts pr ++ backs pr)) with
        | true =>
          refine iteT ⟨_, rfl, _, (same_upd nc) _ _ hL, ?_, same_keep nL (sm.trans ((same_upd nc))), ?_⟩
          · rw [nvs_len, sizeLine_eq]
            have h7 := List.length_filter_le (fun x => !decide (x ∈ fronts pr ++ backs pr)) ((List.range n).take i)
            rw [List.length_take, List.length_range] at h7
            omega
          · rw [upd_same, filter_take n i hi, if_pos e7]
            unfold nvs
            rw [List.map_append]
            rfl
        | false =>
          refine iteF ⟨sm.trans ((same_upd nc)), ?_⟩
          rw [filter_take n i hi, if_neg (by rw [e7]; exact Bool.false_ne_true), List.append_nil]
          exact (same_upd nc) _ _ hL
    · rw [List.take_of_length_le (by rw [List.length_range]; exact Nat.le_refl _), ← left_eq] at hL
      exact ⟨L, _, rfl, .inl ⟨SqL.of hL, fun u nu => k _ u (sm.trans (same_upd nu)) upd_same⟩⟩
end
end K0
set_option Elab.async false
set_option linter.all false
set_option maxRecDepth 100000
set_option maxHeartbeats 4000000
namespace K0
open PySem PySem.Spec PyProof.Rows L2
section
variable {P : Program} {w : World} {K : PySem.W.Frag} {mg : Str → Option Value} {base : Heap} {f : Addr} {fd : FuncData}
/-- a property of Taking -/
structure PrT (P : Program) (w : World) (K : PySem.W.Frag) (mg : Str → Option Value) (base : Heap) (D : Addr) (nm : Str) (k : Nat) (sp : Sp) : Prop where
  ex : ∃ (p g : Addr) (fd : FuncData), Cls K D ∧ PropOf K D nm p g ∧ FnOk P w K mg base (L2.CX P w) k g fd ["self"] sp ∧ Binds K fd ["self"] []
theorem pe_prT {X : Cx} {D : Addr} {nm : Str} {k : Nat} {sp : Sp} {e : Expr} {pos : Pos} {ta : L2.TE} (T : PrT X.prog X.w X.K X.mg X.base D nm k sp) (hr : Room (k + 1) X.A) (he : PE X e ta) (hab : attributeBase e nm X.env (eval e X.env) = eval e X.env) :
    PE X (.Attribute e nm pos) (tProp D sp [] (fun _ _ _ => False) ta) := by
  obtain ⟨p, g, fd, c, hp, F, b⟩ := T.ex
  exact pe_prop he c hp F hr b .nil (passE0 (X := X.nox)) hab
/-- the property takes_row -/
def spTR (D : Addr) : Sp := fun vs H Q _ => ∃ (t p : Addr) (pr : List Pq), vs = [.ref t] ∧ TkAt D H t p pr ∧ ∀ (k : Addr) (l : List (Addr × Pq)), H k = some (.tup (l.map fun z => V.ref z.1)) → l.map (·.2) = pr → (∀ z ∈ l, H z.1 = some (.tup [.int (z.2.1 : Int), .str (sideS z.2.2)])) → Q (.ref k) H
theorem sc_tr : FnScope ["self"] ["self"] (defScope (s_tg 2)) := ⟨rfl, rfl, rfl, by decide +kernel, rfl, by decide +kernel, by decide +kernel⟩
theorem ok_tr {D : Addr} (F : Fun K "takes_row" "Taking.takes_row" (s_tg 2) f fd) (T : TakC K D) : FnOk P w K mg base (L2.CX P w) 1 f fd ["self"] (spTR D) := by
  refine F.okX sc_tr (fun vs H Q E h => ?_) (fun cdv A outer s H vs Q E hr h => ?_)
  · obtain ⟨t, p, pr, rfl, _⟩ := h
    rfl
  · obtain ⟨t, p, pr, rfl, ⟨dx, fa, ba, ka, l, h1, h2, h3, h4, h5, h6⟩, k⟩ := h
    refine ⟨_, pss_one (ps_ret (pe_fld (pv 0) rfl)), ?_⟩
    exact ⟨_, rfl, t, D, dx, _, _, rfl, h1, T.cl, T.nt, tkf_lt _ _ _ _, k ka l h4 h5 h6⟩
/-- sides_for -/
def sidesV (e m : Bool) : List V := (if e = true then [] else [.str "front"]) ++ if m = true then [] else [.str "back"]
def spSf (C D : Addr) : Sp := fun vs H Q _ => ∃ (t p : Addr) (n x : Nat) (q : List Pr) (pr : List Pq) (qs : List Q4), vs = [.ref t, .int (x : Int)] ∧ TkW C D H t p n q pr ∧ Q4s n q qs ∧ x ∈ left n pr ∧ ∀ H' L, Same H H' → H' L = some (.lst (sidesV (hasE qs (left n pr) x) (hasM qs (left n pr) x))) → Q (.ref L) H'
abbrev sfN : List Str := ["self", "thing", "left", "sides"]
theorem sc_sf : FnScope sfN ["self", "thing"] (defScope (s_tg 3)) := ⟨rfl, rfl, rfl, by decide +kernel, rfl, by decide +kernel, by decide +kernel⟩
theorem ok_sf {C D : Addr} (F : Fun K "sides_for" "Taking.sides_for" (s_tg 3) f fd) (T : TakC K D) (TL : PrT P w K mg base D "things_left" 1 (spTL C D)) (NE : Df P w K mg base "no_ends" 6 ["web", "part"] (spNx C hasE)) (NM : Df P w K mg base "no_middles" 6 ["web", "part"] (spNx C hasM)) : FnOk P w K mg base (L2.CX P w) 7 f fd ["self", "thing"] (spSf C D) := by
  refine F.okX sc_sf (fun vs H Q E h => ?_) (fun cdv A outer s H vs Q E hr h => ?_)
  · obtain ⟨t, p, n, x, q, pr, qs, rfl, _⟩ := h
    rfl
  · obtain ⟨t, p, n, x, q, pr, qs, rfl, TK, Z, xl, k⟩ := h
    obtain ⟨few, ⟨dx, fa, ba, ka, l, h1, h2, h3, h4, h5, h6⟩, _, n9⟩ := id TK
    have nd := sc_sf.nd
    have r2 : Room 2 _ := hr.mono (by decide)
    refine ⟨_, pss_cons (ps_set (i := 2) nd rfl (.inl rfl) (pe_prT TL r2 (pv 0) rfl))
      (pss_cons (ps_set (i := 3) nd rfl (.inl rfl) (pe_lst pa_nil))
      (pss_cons (ps_if (pt_cmpR op_in_seq (pv 1) (pe_df NE hr (by rfl) passUp (pa_cons (pe_fld (pv 0) rfl) (pa_cons (pv 2) pa_nil))) (by rfl)) (pss_one (ps_expr (pe_lapp (pv 3) (pa_cons pe_str pa_nil)))) pss_nil)
      (pss_cons (ps_if (pt_cmpR op_in_seq (pv 1) (pe_df NM hr (by rfl) passUp (pa_cons (pe_fld (pv 0) rfl) (pa_cons (pv 2) pa_nil))) (by rfl)) (pss_one (ps_expr (pe_lapp (pv 3) (pa_cons pe_str pa_nil)))) pss_nil)
      (pss_one (ps_ret (pv 3)))))), ?_⟩
    refine ⟨_, rfl, t, dx, _, rfl, h1, t, p, n, q, pr, rfl, TK, fun H1 a s1 ha => ?_⟩
    refine ⟨by show 0 ≤ sizeLine; decide, fun L nL => ?_⟩
    have u1 := same_upd (o := .lst []) nL
    have s2 := s1.trans u1
    have nLH : H L = none := s1.free nL
    have hL : (upd H1 L (.lst [])) L = some (.lst []) := upd_same
    have ha2 := u1 _ _ ha
    generalize upd H1 L (.lst []) = H2 at u1 s2 hL ha2 ⊢
    have W2 := (TK.mono s2).wb
    refine ⟨_, rfl, _, rfl, t, D, dx, _, _, rfl, s2 _ _ h1, T.cl, T.nw, tkf_web _ _ _ _, _, rfl, ?_⟩
    dsimp only [tNil, List.append_nil]
    refine ⟨p, a, n, q, left n pr, rfl, W2, n9, ha2, left_set n pr, fun H3 e1 qs1 s3 Z1 he => ?_⟩
    obtain rfl := Z.uniq Z1
    refine ⟨e1, _, rfl, .inr (SqT.of he), rfl, flat7 _, _, rfl, ?_⟩
    rw [if_neg Bool.false_ne_true, inV7]
    have eE : decide (x ∈ (left n pr).filter fun x => !hasE qs (left n pr) x) = !hasE qs (left n pr) x := by
      rw [Bool.eq_iff_iff, decide_eq_true_iff, List.mem_filter]
      exact ⟨fun h => h.2, fun h => ⟨xl, h⟩⟩
    have eM : decide (x ∈ (left n pr).filter fun x => !hasM qs (left n pr) x) = !hasM qs (left n pr) x := by
      rw [Bool.eq_iff_iff, decide_eq_true_iff, List.mem_filter]
      exact ⟨fun h => h.2, fun h => ⟨xl, h⟩⟩
    rw [eE]
    have s23 := s2.trans s3
    have hL3 := s3 _ _ hL
    have ha3 := s3 _ _ ha2
    cases hE : hasE qs (left n pr) x with
    | true =>
      refine iteF ⟨_, rfl, _, rfl, t, D, dx, _, _, rfl, s23 _ _ h1, T.cl, T.nw, tkf_web _ _ _ _, _, rfl, ?_⟩
      dsimp only [tNil, List.append_nil]
      refine ⟨p, a, n, q, left n pr, rfl, (TK.mono s23).wb, n9, ha3, left_set n pr, fun H4 e2 qs2 s4 Z2 he2 => ?_⟩
      obtain rfl := Z.uniq Z2
      refine ⟨e2, _, rfl, .inr (SqT.of he2), rfl, flat7 _, _, rfl, ?_⟩
      rw [if_neg Bool.false_ne_true, inV7, eM]
      have hL4 := s4 _ _ hL3
      cases hM : hasM qs (left n pr) x with
      | true => exact iteF ⟨_, rfl, k _ L (s23.trans s4) (by rw [hL4, hE, hM]; rfl)⟩
      | false =>
        refine iteT ⟨_, rfl, .inl ⟨rfl, _, SqL.of hL4⟩, L, _, _, rfl, rfl, hL4, by rw [sizeLine_eq]; decide, ?_⟩
        exact ⟨_, rfl, k _ L (same_keep nLH (s23.trans s4)) (by rw [upd_same, hE, hM]; rfl)⟩
    | false =>
      refine iteT ⟨_, rfl, .inl ⟨rfl, _, SqL.of hL3⟩, L, _, _, rfl, rfl, hL3, by rw [sizeLine_eq]; decide, ?_⟩
      have s4 : Same H (upd H3 L (.lst ([] ++ [.str "front"]))) := same_keep nLH s23
      have hL4 : (upd H3 L (.lst ([] ++ [.str "front"]))) L = some (.lst ([] ++ [.str "front"])) := upd_same
      have aL : a ≠ L := fun e => by rw [e, hL] at ha2; cases ha2
      have ha4 : (upd H3 L (.lst ([] ++ [.str "front"]))) a = some (.tup (nvs (left n pr))) := by rw [upd_ne aL]; exact ha3
      generalize upd H3 L (.lst ([] ++ [.str "front"])) = H4 at s4 hL4 ha4 ⊢
      refine ⟨_, rfl, _, rfl, t, D, dx, _, _, rfl, s4 _ _ h1, T.cl, T.nw, tkf_web _ _ _ _, _, rfl, ?_⟩
      dsimp only [tNil, List.append_nil]
      refine ⟨p, a, n, q, left n pr, rfl, (TK.mono s4).wb, n9, ha4, left_set n pr, fun H5 e2 qs2 s5 Z2 he2 => ?_⟩
      obtain rfl := Z.uniq Z2
      refine ⟨e2, _, rfl, .inr (SqT.of he2), rfl, flat7 _, _, rfl, ?_⟩
      rw [if_neg Bool.false_ne_true, inV7, eM]
      have hL5 := s5 _ _ hL4
      cases hM : hasM qs (left n pr) x with
      | true => exact iteF ⟨_, rfl, k _ L (s4.trans s5) (by rw [hL5, hE, hM]; rfl)⟩
      | false =>
        refine iteT ⟨_, rfl, .inl ⟨rfl, _, SqL.of hL5⟩, L, _, _, rfl, rfl, hL5, by rw [sizeLine_eq]; decide, ?_⟩
        exact ⟨_, rfl, k _ L (same_keep nLH (s4.trans s5)) (by rw [upd_same, hE, hM]; rfl)⟩
/-- takable -/
def spTb (C D : Addr) : Sp := fun vs H Q _ => ∃ (t p : Addr) (n : Nat) (q : List Pr) (pr : List Pq) (qs : List Q4), vs = [.ref t] ∧ TkW C D H t p n q pr ∧ Q4s n q qs ∧ ∀ H' L, Same H H' → H' L = some (.lst (nvs (able qs (left n pr)))) → Q (.ref L) H'
abbrev tbN : List Str := ["self", "left", "fitting", "thing"]
theorem sc_tb : FnScope tbN ["self"] (defScope (s_tg 5)) := ⟨rfl, rfl, rfl, by decide +kernel, rfl, by decide +kernel, by decide +kernel⟩
theorem fil_snoc7 {S : List Nat} {p : Nat → Bool} {i x : Nat} (h : S[i]? = some x) : (S.take (i + 1)).filter p = (S.take i).filter p ++ if p x = true then [x] else [] := by
  rw [take_at h, List.filter_append]
  congr 1
  cases e : p x <;> simp [e]
theorem ok_tb {C D : Addr} (F : Fun K "takable" "Taking.takable" (s_tg 5) f fd) (T : TakC K D) (TL : PrT P w K mg base D "things_left" 1 (spTL C D)) (NE : Df P w K mg base "no_ends" 6 ["web", "part"] (spNx C hasE)) (NM : Df P w K mg base "no_middles" 6 ["web", "part"] (spNx C hasM)) : FnOk P w K mg base (L2.CX P w) 7 f fd ["self"] (spTb C D) := by
  refine F.okX sc_tb (fun vs H Q E h => ?_) (fun cdv A outer s H vs Q E hr h => ?_)
  · obtain ⟨t, p, n, q, pr, qs, rfl, _⟩ := h
    rfl
  · obtain ⟨t, p, n, q, pr, qs, rfl, TK, Z, k⟩ := h
    obtain ⟨few, ⟨dx, fa, ba, ka, l, h1, h2, h3, h4, h5, h6⟩, _, n9⟩ := id TK
    have nd := sc_tb.nd
    have r2 : Room 2 _ := hr.mono (by decide)
    refine ⟨_, pss_cons (ps_set (i := 1) nd rfl (.inl rfl) (pe_prT TL r2 (pv 0) rfl))
      (pss_cons (ps_set (i := 2) nd rfl (.inr rfl) (pe_op op_catA (pe_df NE hr (by rfl) passUp (pa_cons (pe_fld (pv 0) rfl) (pa_cons (pv 1) pa_nil))) (pe_df NM hr (by rfl) passUp (pa_cons (pe_fld (pv 0) rfl) (pa_cons (pv 1) pa_nil)))))
      (pss_one (ps_ret (pe_lc (own := [("thing", 3)]) (g := gName 3) (tt := tTest (tOp (rIn K false) (tVar 3) (tVar 2))) (te := tVar 3) rfl nd (pi_tup (pv 1))
        (blkOk_by (N := tbN) (sc := defScope (s_tg 5)) (by decide +kernel)) (fun _ _ _ _ _ => pg_name (i := 3) nd rfl (.inl rfl)) (fun _ _ _ _ _ => pts_one (pt_cmpR op_in_seq (pv 3) (pv 2) (by rfl))) (fun _ _ _ _ _ => pv 3))))), ?_⟩
    refine ⟨_, rfl, t, dx, _, rfl, h1, t, p, n, q, pr, rfl, TK, fun H1 a s1 ha => ?_⟩
    refine ⟨_, rfl, t, D, dx, _, _, rfl, s1 _ _ h1, T.cl, T.nw, tkf_web _ _ _ _, _, rfl, ?_⟩
    dsimp only [tNil, List.append_nil]
    refine ⟨p, a, n, q, left n pr, rfl, (TK.mono s1).wb, n9, ha, left_set n pr, fun H2 e1 qs1 s2 Z1 he => ?_⟩
    obtain rfl := Z.uniq Z1
    have s12 := s1.trans s2
    refine ⟨_, rfl, t, D, dx, _, _, rfl, s12 _ _ h1, T.cl, T.nw, tkf_web _ _ _ _, _, rfl, ?_⟩
    dsimp only [tNil, List.append_nil]
    refine ⟨p, a, n, q, left n pr, rfl, (TK.mono s12).wb, n9, s2 _ _ ha, left_set n pr, fun H3 e2 qs2 s3 Z2 he2 => ?_⟩
    obtain rfl := Z.uniq Z2
    have s13 := s12.trans s3
    have he3 := s3 _ _ he
    have ha3 := s3 _ _ (s2 _ _ ha)
    let U : List Nat := (left n pr).filter (fun x => !hasE qs (left n pr) x) ++ (left n pr).filter (fun x => !hasM qs (left n pr) x)
    have l1 : ((left n pr).filter fun x => !hasE qs (left n pr) x).length ≤ 9 := Nat.le_trans (List.length_filter_le _ _) (Nat.le_trans (left_le n pr) n9)
    have l2 : ((left n pr).filter fun x => !hasM qs (left n pr) x).length ≤ 9 := Nat.le_trans (List.length_filter_le _ _) (Nat.le_trans (left_le n pr) n9)
    have fin : ∀ (c : Addr) (G : Hp), Same H3 G → SqT K G c (nvs U) → (∀ G', Same G G' → SqT K G' c (nvs U)) → tRet (tLc (iTup K (tVar 1)) (gName 3) (tTest (tOp (rIn K false) (tVar 3) (tVar 2))) (tVar 3) [3]) ({ nx := fun x H' => Q V.non H', rt := Q }) [some (V.ref t), some (.ref a), some (.ref c), none] G := fun c G sG _ hc => by
      have sHG := s13.trans sG
      refine ⟨_, rfl, a, rfl, ⟨_, SqT.of (sG _ _ ha3)⟩, fun L nL => ?_⟩
      refine lc_it (walk_tup (K := K) (a := a) (xs := nvs (left n pr))) (fun i H' => Same G H' ∧ H' L = some (.lst (nvs (((left n pr).take i).filter fun x => !hasE qs (left n pr) x || !hasM qs (left n pr) x)))) ⟨same_upd nL, upd_same⟩ (fun i H' _ z => SqT.of (z.1 _ _ (sG _ _ ha3))) (fun i v H' H4 hi z y => ?_) (fun H' z => ?_)
      · obtain ⟨rfl, hv⟩ := y
        obtain ⟨sm, hL⟩ := z
        obtain ⟨x, hx, rfl⟩ := nvs_val hv
        refine ⟨rfl, _, rfl, _, rfl, c, nvs U, rfl, .inr (hc _ sm), rfl, flat7 _, _, rfl, ?_⟩
        rw [if_neg Bool.false_ne_true, inV7]
        have xl := List.mem_of_getElem? hx
        have eU : decide (x ∈ U) = (!hasE qs (left n pr) x || !hasM qs (left n pr) x) := by
          rw [Bool.eq_iff_iff, decide_eq_true_iff, Bool.or_eq_true]
          show x ∈ _ ++ _ ↔ _
          rw [List.mem_append, List.mem_filter, List.mem_filter]
          exact ⟨fun h => h.imp (·.2) (·.2), fun h => h.imp (fun e => ⟨xl, e⟩) (fun e => ⟨xl, e⟩)⟩
        rw [eU]
        cases e7 : (!hasE qs (left n pr) x || !hasM qs (left n pr) x) with
        | true =>
          refine iteT ⟨_, rfl, _, hL, ?_, same_keep nL sm, ?_⟩
          · rw [nvs_len, sizeLine_eq]
            have h7 := List.length_filter_le (fun x => !hasE qs (left n pr) x || !hasM qs (left n pr) x) ((left n pr).take i)
            have h8 := left_le n pr
            rw [List.length_take] at h7
            omega
          · rw [upd_same, fil_snoc7 hx, if_pos e7]
            unfold nvs
            rw [List.map_append]
            rfl
        | false =>
          refine iteF ⟨sm, ?_⟩
          rw [fil_snoc7 hx, if_neg (by rw [e7]; exact Bool.false_ne_true), List.append_nil]
          exact hL
      · obtain ⟨sm, hL⟩ := z
        rw [nvs_len, List.take_length] at hL
        exact k _ L (sHG.trans sm) hL
    refine ⟨e1, e2, _, _, rfl, rfl, SqT.of he3, SqT.of he2, by rw [nvs_len, nvs_len, sizeLine_eq]; omega, fun e => ?_, fun _ e => ?_, fun _ _ c nc => ?_⟩
    · have e0 : (left n pr).filter (fun x => !hasE qs (left n pr) x) = [] := List.length_eq_zero_iff.mp (by rw [← nvs_len, e]; rfl)
      have eU : U = (left n pr).filter (fun x => !hasM qs (left n pr) x) := by show _ ++ _ = _; rw [e0]; rfl
      exact fin e2 H3 (.refl _) (by rw [eU]; exact SqT.of he2) (fun G' s' => by rw [eU]; exact SqT.of (s' _ _ he2))
    · have e0 : (left n pr).filter (fun x => !hasM qs (left n pr) x) = [] := List.length_eq_zero_iff.mp (by rw [← nvs_len, e]; rfl)
      have eU : U = (left n pr).filter (fun x => !hasE qs (left n pr) x) := by show _ ++ _ = _; rw [e0, List.append_nil]
      exact fin e1 H3 (.refl _) (by rw [eU]; exact SqT.of he3) (fun G' s' => by rw [eU]; exact SqT.of (s' _ _ he3))
    · have eU : (upd H3 c (.tup (nvs ((left n pr).filter fun x => !hasE qs (left n pr) x) ++ nvs ((left n pr).filter fun x => !hasM qs (left n pr) x)))) c = some (.tup (nvs U)) := by
        rw [upd_same]
        show _ = some (HO.tup (nvs (_ ++ _)))
        unfold nvs
        rw [List.map_append]
      exact fin c _ (same_upd nc) (SqT.of eU) (fun G' s' => SqT.of (s' _ _ eU))
end
end K0
set_option Elab.async false
set_option linter.all false
set_option maxRecDepth 100000
set_option maxHeartbeats 4000000
namespace K0
open PySem PySem.Spec PyProof.Rows L2
/-! ### take -/
theorem same_trd' {H H1 H2 : Hp} {d : Addr} (a : Same (del H d) H1) (b : Same (del H1 d) H2) : Same (del H d) H2 := fun x o h => b x o (same_del a x o h)
def SdOk (v : V) : Prop := v = .non ∨ v = .str "front" ∨ v = .str "back"
def pickV (e m : Bool) (v : V) : List V := (sidesV e m).filter fun y => decide (v = .non) || decide (y = v)
def pick (e m : Bool) (v : V) : Option Bool := if e = false ∧ v ≠ .str "back" then some true else if m = false ∧ v ≠ .str "front" then some false else none
theorem pick_ok {v : V} (h : SdOk v) (e m : Bool) : (pickV e m v = [] ∧ pick e m v = none) ∨ ∃ b, pick e m v = some b ∧ pickV e m v = .str (sideS b) :: (pickV e m v).tail := by
  rcases h with rfl | rfl | rfl <;> cases e <;> cases m <;> decide +kernel
theorem catA_new {K : PySem.W.Frag} {a u : Addr} {xs : List V} {y : V} {H : Hp} {Q : VK} (ha : SqT K H a xs) (hu : H u = some (.tup [y])) (len : xs.length + 1 ≤ sizeLine) (k : ∀ c G, Same H G → G c = some (.tup (xs ++ [y])) → Q (.ref c) G) : rCatA K (.ref a) (.ref u) H Q :=
  ⟨a, u, xs, [y], rfl, rfl, ha, SqT.of hu, len, fun e => k u H (.refl _) (by rw [e]; exact hu), fun _ e => (by cases e), fun _ _ p np => k p _ (same_upd np) upd_same⟩
theorem same_set2 {H G : Hp} {t : Addr} (s : Same (del H t) G) {o : HO} : Same (del H t) (upd G t o) := fun b u e => by
  by_cases z : b = t
  · rw [z, del_same] at e
    cases e
  · rw [upd_ne z]
    exact s b u e
section
variable {P : Program} {w : World} {K : PySem.W.Frag} {mg : Str → Option Value} {base : Heap} {f : Addr} {fd : FuncData}
/-- take -/
def spTake (C D CT CN CS : Addr) : Sp := fun vs H Q E => ∃ (t p : Addr) (v sv : V) (d : PyData) (n : Nat) (q : List Pr) (pr : List Pq) (qs : List Q4), vs = [.ref t, v, sv] ∧ TkW C D H t p n q pr ∧ pr.length ≤ 900 ∧ Q4s n q qs ∧ Dt H v d ∧ flatV v = true ∧ flatV sv = true ∧
  (((isI d = false ∨ ∃ i : Int, v = .int i ∧ d = .int i ∧ ∀ x ∈ left n pr, (x : Int) ≠ i) ∧ Rz CT [("thing", v)] H E) ∨
  ∃ x ∈ left n pr, v = .int (x : Int) ∧ d = .int (x : Int) ∧ ((inV sv [.non, .str "front", .str "back"] = false ∧ Rz CN [("name", .str "side")] H E) ∨
    (SdOk sv ∧ pick (hasE qs (left n pr) x) (hasM qs (left n pr) x) sv = none ∧ Rz CS [("name", .str "take")] H E) ∨
    ∃ b, SdOk sv ∧ pick (hasE qs (left n pr) x) (hasM qs (left n pr) x) sv = some b ∧ ∀ H', Same (del H t) H' → TkW C D H' t p n q (pr ++ [(x, b)]) → Q (.str (sideS b)) H'))
abbrev tkN : List Str := ["self", "thing", "side", "fitting", "told"]
theorem sc_tk7 : FnScope tkN ["self", "thing", "side"] (defScope (s_tg 4)) := ⟨rfl, rfl, rfl, by decide +kernel, rfl, by decide +kernel, by decide +kernel⟩
theorem inV_sd {v : V} (h : SdOk v) : inV v [.non, .str "front", .str "back"] = true := by
  rcases h with rfl | rfl | rfl <;> decide +kernel
theorem ok_tk7 {dvs : List V} {C D CT CN CS : Addr} (F : FunD K "take" "Taking.take" (defArgs (s_tg 4)) (defBody (s_tg 4)) (defScope (s_tg 4)) dvs [] f fd) (T : TakC K D) (II : Df P w K mg base "is_int" 1 ["value"] spInt) (TL : PrT P w K mg base D "things_left" 1 (spTL C D)) (SF : Mt P w K mg base D "sides_for" 7 ["self", "thing"] (spSf C D)) (ET : Er P w K mg base "BadThing" CT ["thing"] ["self", "thing"] (spE1 CT "thing")) (EN : Er P w K mg base "BadNumber" CN ["name"] ["self", "name"] (spE1 CN "name")) (ES : Er P w K mg base "NoneSuch" CS ["name"] ["self", "name"] (spE1 CS "name")) : FnOk P w K mg base (L2.CX P w) 8 f fd ["self", "thing", "side"] (spTake C D CT CN CS) := by
  refine F.ok sc_tk7 (fun vs H Q E h => ?_) (fun cdv A outer s H vs Q E hr h => ?_)
  · obtain ⟨t, p, v, sv, d, n, q, pr, qs, rfl, _⟩ := h
    rfl
  · obtain ⟨t, p, v, sv, d, n, q, pr, qs, rfl, TK, few9, Z, hv, fv, fsv, h⟩ := h
    obtain ⟨few, ⟨dx, fa, ba, ka, l, h1, h2, h3, h4, h5, h6⟩, _, n9⟩ := id TK
    have nd := sc_tk7.nd
    have r1 : Room 1 _ := hr.mono (by decide)
    have r2 : Room 2 _ := hr.mono (by decide)
    refine' ⟨_, pss_cons ?h1 (pss_cons ?h2 (pss_cons ?h3 (pss_cons ?h4 (pss_cons ?h5 (pss_cons ?h6 (pss_one ?h7)))))), ?hz⟩
    case h1 => exact ps_if (PW.pt (pw_or (pt_not (pt_val (pe_df II r1 (by rfl) passUp (pa_cons (pv 1) pa_nil)))) (pw_or1 (pt_cmpR op_notIn_seq (pv 1) (pe_prT TL r2 (pv 0) rfl) (by rfl))))) (pss_one (ps_rz1 rfl (takes_of rfl rfl rfl rfl) ET r2 (by rfl) (pv 1) (mono_var 1))) pss_nil
    case h2 => exact ps_if (pt_cmpR op_notIn_seq (pv 2) (pe_tup (pa_cons pe_non (pa_cons pe_str (pa_cons pe_str pa_nil)))) (by rfl)) (pss_one (ps_rz1 rfl (takes_of rfl rfl rfl rfl) EN r2 (by rfl) pe_str (mono_c _))) pss_nil
    case h3 => exact (ps_setLc (i := 3) (own := [("told", 4)]) (g := gName 4) (tt := tOr (tTest (tOp rIsN (tVar 2) (tC .non))) (tTest (tOp rEq (tVar 4) (tVar 2)))) (te := tVar 4) rfl nd rfl (by rfl) (by rfl) (pi_list (pe_mt1 SF hr passUp (pv 0) (pa_cons (pv 1) pa_nil)))
          (blkOk_by (N := tkN) (sc := defScope (s_tg 4)) (by decide +kernel)) (fun _ _ _ _ _ => pg_name (i := 4) nd rfl (.inl rfl)) (fun _ _ _ _ _ => pts_one (PW.pt (pw_or (pt_cmpR op_isN1 (pv 2) pe_non (by rfl)) (pw_or1 (pt_cmpR op_eq (pv 4) (pv 2) (by rfl)))))) (fun _ _ _ _ _ => pv 4))
    case h4 => exact ps_if (pt_not (pt_truth (pv 3) (by intro _; rfl))) (pss_one (ps_rz1 rfl (takes_of rfl rfl rfl rfl) ES r2 (by rfl) pe_str (mono_c _))) pss_nil
    case h5 => exact ps_if (pt_cmpR op_eq (pe_ix ix_list (pv 3) pe_int (fun _ _ => rfl)) pe_str (by rfl)) (pss_one (ps_fld (pv 0) (pe_op op_catA (pe_fld (pv 0) rfl) (pe_tup (pa_cons (pv 1) pa_nil))) rfl)) (pss_one (ps_fld (pv 0) (pe_op op_catA (pe_fld (pv 0) rfl) (pe_tup (pa_cons (pv 1) pa_nil))) rfl))
    case h6 => exact ps_fld (pv 0) (pe_op op_catA (pe_fld (pv 0) rfl) (pe_tup (pa_cons (pe_tup (pa_cons (pv 1) (pa_cons (pe_ix ix_list (pv 3) pe_int (fun _ _ => rfl)) pa_nil))) pa_nil))) rfl
    case h7 => exact ps_ret (pe_ix ix_list (pv 3) pe_int (fun _ _ => rfl))
    case hz =>
    refine ⟨_, rfl, v, d, rfl, hv, _, rfl, ?_⟩
    rcases h with ⟨bad, k⟩ | ⟨x, xl, rfl, rfl, h⟩
    · rcases bad with bad | ⟨i, rfl, rfl, no⟩
      · rw [bad]
        exact iteT ⟨_, rfl, fun dd nd => k.at (Same.refl _) nd⟩
      · refine iteF ⟨_, rfl, _, rfl, t, dx, _, rfl, h1, t, p, n, q, pr, rfl, TK, fun H1 a s1 ha => ?_⟩
        refine ⟨a, _, rfl, .inr (SqT.of ha), rfl, flat7 _, _, rfl, ?_⟩
        have e7 : inV (.int i) (nvs (left n pr)) = false := by
          cases e : inV (.int i) (nvs (left n pr)) with
          | false => rfl
          | true =>
            unfold inV nvs at e
            rw [List.any_map, List.any_eq_true] at e
            obtain ⟨y, hy, e⟩ := e
            have e : ((y : Int) == i) = true := e
            exact absurd (beq_iff_eq.mp e) (no y hy)
        rw [if_pos rfl, e7]
        exact iteT ⟨_, rfl, fun dd nd => k.at s1 nd⟩
    · refine iteF ⟨_, rfl, _, rfl, t, dx, _, rfl, h1, t, p, n, q, pr, rfl, TK, fun H1 a s1 ha => ?_⟩
      refine ⟨a, _, rfl, .inr (SqT.of ha), rfl, flat7 _, _, rfl, ?_⟩
      rw [if_pos rfl, inV7, decide_eq_true xl]
      refine iteF ⟨_, rfl, ?_⟩
      refine ⟨by show 3 ≤ sizeLine; decide, fun u nu => ?_⟩
      have s2 := s1.trans (same_upd (o := .tup [.non, .str "front", .str "back"]) nu)
      refine ⟨u, _, rfl, .inr (SqT.of upd_same), fsv, rfl, _, rfl, ?_⟩
      rw [if_pos rfl]
      rcases h with ⟨bad, k⟩ | h
      · rw [bad]
        exact iteT fun dd nd => k.at s2 nd
      have sd : SdOk sv := by
        rcases h with ⟨sd, _⟩ | ⟨_, sd, _⟩ <;> exact sd
      rw [inV_sd sd]
      refine iteF ?_
      generalize upd H1 u (.tup [.non, .str "front", .str "back"]) = H2 at s2 ⊢
      -- fitting
      refine ⟨_, rfl, t, dx, _, rfl, s2 _ _ h1, tkf_no _ _ _ _ (by decide +kernel) (by decide +kernel) (by decide +kernel) (by decide +kernel), _, rfl, t, p, n, x, q, pr, qs, rfl, TK.mono s2, Z, xl, fun H3 SL s3 hSL => ?_⟩
      have s23 := s2.trans s3
      generalize hE : hasE qs (left n pr) x = eE at hSL h
      generalize hM : hasM qs (left n pr) x = eM at hSL h
      have sl2 : (sidesV eE eM).length ≤ 2 := by cases eE <;> cases eM <;> decide
      obtain ⟨pk, hpk⟩ : ∃ pk : V → Bool, ∀ y, pk y = (decide (sv = .non) || decide (y = sv)) := ⟨_, fun _ => rfl⟩
      refine ⟨SL, rfl, ⟨_, SqL.of hSL⟩, fun L nL => ?_⟩
      refine lc_it (walk_list (K := K) (a := SL) (xs := sidesV eE eM)) (fun i H' => Same H3 H' ∧ H' L = some (.lst (((sidesV eE eM).take i).filter pk))) ⟨same_upd nL, upd_same⟩ (fun i H' _ z => SqL.of (z.1 _ _ hSL)) (fun i y Hx H' hi z yy => ?_) (fun H4 z => ?_)
      · obtain ⟨rfl, hy⟩ := yy
        obtain ⟨sm, hL⟩ := z
        have yS : ∃ ys, y = .str ys := by
          have m := List.mem_of_getElem? hy
          clear hSL hL hi hy sl2 h hE hM
          cases eE <;> cases eM <;> simp [sidesV] at m
          · rcases m with m | m <;> exact ⟨_, m⟩
          · exact ⟨_, m⟩
          · exact ⟨_, m⟩
        obtain ⟨ys, rfl⟩ := yS
        have step : ((sidesV eE eM).take (i + 1)).filter (pk) = ((sidesV eE eM).take i).filter (pk) ++ if pk (V.str ys) = true then [V.str ys] else [] := by
          rw [take_at hy, List.filter_append]
          congr 1
          cases e : pk (V.str ys) <;> simp [e]
        have yes : pk (V.str ys) = true → ∃ acc, H' L = some (.lst acc) ∧ acc.length < sizeLine ∧ (Same H3 (upd H' L (.lst (acc ++ [.str ys]))) ∧ (upd H' L (.lst (acc ++ [V.str ys]))) L = some (.lst (((sidesV eE eM).take (i + 1)).filter pk))) := fun e => by
          refine ⟨_, hL, ?_, same_keep nL sm, ?_⟩
          · have h7 := List.length_filter_le pk ((sidesV eE eM).take i)
            rw [List.length_take] at h7
            rw [sizeLine_eq]
            omega
          · rw [upd_same, step, if_pos e]
        refine ⟨rfl, _, rfl, rfl, _, rfl, ?_⟩
        cases e1 : decide (sv = V.non) with
        | true => exact iteT (iteT ⟨_, rfl, yes (by rw [hpk, e1]; rfl)⟩)
        | false =>
          refine iteF ⟨_, rfl, _, rfl, ?_, _, rfl, ?_⟩
          · rcases sd with rfl | rfl | rfl
            · cases e1
            · rfl
            · rfl
          · cases e2 : decide (V.str ys = sv) with
            | true => exact iteT ⟨_, rfl, yes (by rw [hpk, e1, e2]; rfl)⟩
            | false =>
              refine iteF ⟨sm, ?_⟩
              rw [step, if_neg (by rw [hpk, e1, e2]; exact Bool.false_ne_true), List.append_nil]
              exact hL
      obtain ⟨s4, hL⟩ := z
      rw [List.take_length] at hL
      have hL : H4 L = some (.lst (pickV eE eM sv)) := by
        rw [hL, show pk = fun y => decide (sv = V.non) || decide (y = sv) from funext hpk]
        rfl
      have s24 := s23.trans s4
      rcases h with ⟨_, none_, k⟩ | ⟨b, _, some_, k⟩
      · rcases pick_ok sd eE eM with ⟨e0, _⟩ | ⟨b, e0, _⟩
        · rw [e0] at hL
          refine ⟨_, rfl, _, .inl ⟨_, SqL.of hL, rfl⟩, ?_⟩
          exact iteT fun dd nd => k.at s24 nd
        · rw [none_] at e0
          cases e0
      · obtain ⟨r, hF⟩ : ∃ r, pickV eE eM sv = .str (sideS b) :: r := by
          rcases pick_ok sd eE eM with ⟨_, e0⟩ | ⟨b', e0, e1⟩
          · rw [some_] at e0
            cases e0
          · rw [some_] at e0
            cases e0
            exact ⟨_, e1⟩
        rw [hF] at hL
        refine ⟨_, rfl, _, .inl ⟨_, SqL.of hL, rfl⟩, ?_⟩
        refine iteF ?_
        have atL : ∀ {G : Hp}, Same H4 G → SqL K G L (.str (sideS b) :: r) := fun s => SqL.of (s _ _ hL)
        have Lt : L ≠ t := fun e => by
          have := s24 _ _ h1
          rw [← e, hL] at this
          cases this
        have at0 : atI (V.str (sideS b) :: r) 0 = some (V.str (sideS b)) := by
          have z : atI (V.str (sideS b) :: r) ((0 : Nat) : Int) = some (V.str (sideS b)) := atI_nat rfl
          exact z
        refine ⟨_, rfl, L, _, 0, .str (sideS b), rfl, rfl, atL (.refl _), at0, rfl, _, rfl, ?_⟩
        have hx16 : x < n := (mem_left.mp xl).1
        -- the rest, behind the side
        have rest : ∀ (G : Hp) (fa' ba' : Addr), Same (del H t) G → G t = some (.ins D dx (tkf p fa' ba' ka)) → G fa' = some (.tup (nvs (fronts (pr ++ [(x, b)])))) → G ba' = some (.tup (nvs (backs (pr ++ [(x, b)])))) → G L = some (.lst (.str (sideS b) :: r)) →
            tSeq (sFld K (tVar 0) (tOp (rCatA K) (tFld K (tVar 0) "takes") (tTup (tCons (tTup (tCons (tVar 1) (tCons (tOp (rIxL K) (tVar 3) (tC (.int 0))) tNil))) tNil))) "takes") (tRet (tOp (rIxL K) (tVar 3) (tC (.int 0)))) { nx := fun x H' => Q V.non H', rt := Q } [some (V.ref t), some (.int (x : Int)), some sv, some (.ref L), none] G := by
          intro G fa' ba' sG hT hf hb hLG
          refine ⟨_, rfl, t, D, dx, _, _, rfl, hT, T.cl, T.nt, tkf_lt _ _ _ _, ?_⟩
          refine ⟨_, rfl, _, rfl, L, _, 0, _, rfl, rfl, SqL.of hLG, at0, ?_⟩
          refine ⟨by show 2 ≤ sizeLine; decide, fun u1 w1 => ⟨by show 1 ≤ sizeLine; decide, fun u2 w2 => ?_⟩⟩
          have v1 := same_upd (o := .tup [.int (x : Int), .str (sideS b)]) w1
          have g1 : (upd G u1 (.tup [.int (x : Int), .str (sideS b)])) u1 = some (.tup [.int (x : Int), .str (sideS b)]) := upd_same
          have v2 := v1.trans (same_upd (o := .tup [.ref u1]) w2)
          have kt : ka ≠ t := fun e => by rw [e, h1] at h4; cases h4
          have h4G : G ka = some (.tup (l.map fun z => V.ref z.1)) := sG _ _ (by rw [del_ne kt]; exact h4)
          have h6G : ∀ z ∈ l, G z.1 = some (.tup [.int (z.2.1 : Int), .str (sideS z.2.2)]) := fun z hz => by
            have zt : z.1 ≠ t := fun e => by
              have := h6 z hz
              rw [e, h1] at this
              cases this
            exact sG _ _ (by rw [del_ne zt]; exact h6 z hz)
          have ll : l.length = pr.length := by rw [← h5, List.length_map]
          refine catA_new (SqT.of (v2 _ _ h4G)) upd_same (by rw [List.length_map, ll, sizeLine_eq]; omega) fun c G2 s5 hc => ?_
          have v3 := v2.trans s5
          have ct : c ≠ t := fun e => by
            have := v3 _ _ hT
            rw [← e, hc] at this
            cases this
          refine ⟨_, rfl, t, D, dx, _, rfl, v3 _ _ hT, T.cl, T.nt, (by show 4 < 1000; decide), ?_⟩
          rw [tkf_takes]
          have sG2 : Same (del H t) G2 := fun y o h => v3 y o (sG y o h)
          have keep : ∀ {y : Addr} {o : HO}, y ≠ t → G2 y = some o → (upd G2 t (.ins D dx (tkf p fa' ba' c))) y = some o := fun ne h => by rw [upd_ne ne]; exact h
          have ft : fa' ≠ t := fun e => by rw [e, hT] at hf; cases hf
          have bt : ba' ≠ t := fun e => by rw [e, hT] at hb; cases hb
          have u1t : u1 ≠ t := fun e => by rw [e, hT] at w1; cases w1
          refine ⟨_, rfl, L, _, 0, _, rfl, rfl, SqL.of (keep Lt (v3 _ _ hLG)), at0, ?_⟩
          have fin := same_set2 (o := .ins D dx (tkf p fa' ba' c)) sG2
          refine k _ fin ⟨by rw [List.length_append]; show pr.length + 1 ≤ 1000; omega, ⟨dx, fa', ba', c, l ++ [(u1, (x, b))], upd_same, keep ft (v3 _ _ hf), keep bt (v3 _ _ hb), ?_, by rw [List.map_append, h5]; rfl, fun z hz => ?_⟩, TK.web.mono (same_del fin), n9⟩
          · rw [upd_ne ct, hc, List.map_append]
            rfl
          · rcases List.mem_append.mp hz with hz | hz
            · have zt : z.1 ≠ t := fun e => by
                have := h6 z hz
                rw [e, h1] at this
                cases this
              exact keep zt (v3 _ _ (h6G z hz))
            · rw [List.mem_singleton.mp hz]
              exact keep u1t ((Same.trans (same_upd (o := .tup [.ref u1]) w2) s5) _ _ g1)
        have ft0 : fa ≠ t := fun e => by rw [e, h1] at h2; cases h2
        have bt0 : ba ≠ t := fun e => by rw [e, h1] at h3; cases h3
        have hT4 := s24 _ _ h1
        have hf4 := s24 _ _ h2
        have hb4 := s24 _ _ h3
        have lf : (fronts pr).length ≤ 900 := by
          have := fb_len (pr := pr)
          omega
        have lb : (backs pr).length ≤ 900 := by
          have := fb_len (pr := pr)
          omega
        cases b with
        | true =>
          rw [show decide (V.str (sideS true) = V.str "front") = true from by decide +kernel]
          refine iteT ⟨_, rfl, t, D, dx, _, _, rfl, hT4, T.cl, T.nf, tkf_lf _ _ _ _, _, rfl, by show 1 ≤ sizeLine; decide, fun u nu => ?_⟩
          have v1 := same_upd (o := .tup [.int (x : Int)]) nu
          refine catA_new (SqT.of (v1 _ _ hf4)) upd_same (by rw [nvs_len, sizeLine_eq]; omega) fun c G s5 hc => ?_
          have v2 := v1.trans s5
          have ct : c ≠ t := fun e => by
            have := v2 _ _ hT4
            rw [← e, hc] at this
            cases this
          refine ⟨_, rfl, t, D, dx, _, rfl, v2 _ _ hT4, T.cl, T.nf, (by show 4 < 1000; decide), ?_⟩
          rw [tkf_front]
          refine rest _ c ba (same_set2 fun y o h => (s24.trans v2) y o (del_sub y o h)) upd_same ?_ ?_ ?_
          · rw [upd_ne ct, hc, fronts_snoc, if_pos rfl]
            unfold nvs
            rw [List.map_append]
            rfl
          · rw [upd_ne bt0, v2 _ _ hb4, backs_snoc, if_pos rfl, List.append_nil]
          · rw [upd_ne Lt]
            exact v2 _ _ hL
        | false =>
          rw [show decide (V.str (sideS false) = V.str "front") = false from by decide +kernel]
          refine iteF ⟨_, rfl, t, D, dx, _, _, rfl, hT4, T.cl, T.nb, tkf_lb _ _ _ _, _, rfl, by show 1 ≤ sizeLine; decide, fun u nu => ?_⟩
          have v1 := same_upd (o := .tup [.int (x : Int)]) nu
          refine catA_new (SqT.of (v1 _ _ hb4)) upd_same (by rw [nvs_len, sizeLine_eq]; omega) fun c G s5 hc => ?_
          have v2 := v1.trans s5
          have ct : c ≠ t := fun e => by
            have := v2 _ _ hT4
            rw [← e, hc] at this
            cases this
          refine ⟨_, rfl, t, D, dx, _, rfl, v2 _ _ hT4, T.cl, T.nb, (by show 4 < 1000; decide), ?_⟩
          rw [tkf_back]
          refine rest _ fa c (same_set2 fun y o h => (s24.trans v2) y o (del_sub y o h)) upd_same ?_ ?_ ?_
          · rw [upd_ne ft0, v2 _ _ hf4, fronts_snoc, if_neg Bool.false_ne_true, List.append_nil]
          · rw [upd_ne ct, hc, backs_snoc, if_neg Bool.false_ne_true]
            unfold nvs
            rw [List.map_append]
            rfl
          · rw [upd_ne Lt]
            exact v2 _ _ hL
end
end K0
set_option Elab.async false
set_option linter.all false
set_option maxRecDepth 100000
set_option maxHeartbeats 4000000
namespace K0
open PySem PySem.Spec PyProof.Rows L2
/-- a method with defaults -/
structure MtD (P : Program) (w : World) (K : PySem.W.Frag) (mg : Str → Option Value) (base : Heap) (C : Addr) (m : Str) (k : Nat) (ps : List Str) (dvs : List V) (sp : Sp) : Prop where
  ex : ∃ (f : Addr) (fd : FuncData) (ds : List Value), Cls K C ∧ Meth K C m f ∧ FnOk P w K mg base (L2.CX P w) k f fd ps sp ∧ Vals dvs ds ∧ Binds K fd ps ds
section
variable {X : Cx} {C : Addr} {m : Str} {k : Nat} {ps : List Str} {sp : Sp} {E : XK} {o e : Expr} {es : List Expr} {ta : TE} {t : TA} {apos pos : Pos} {dvs : List V}
theorem pe_mtD {pl : Sem Bool} (T : MtD X.prog X.w X.K X.mg X.base C m k ps dvs sp) (hr : Room k X.A) (hx : Passes (L2.CX X.prog X.w) X E) (he : PE X o ta) (ha : PA X (e :: es) t)
    (hst : starEach (e :: es) X.env = (false, eval e X.env) :: starEach es X.env := by rfl) (hpl : (backTo pos (starEach es X.env)).any (·.1) = false := by rfl)
    (ht : eval (.Call (.Attribute o m apos) (e :: es) [] pos) X.env = (do
      let ov ← eval o X.env
      standAt apos.atName
      let (f, first) ← holding [ov] (getMethod ov m pl)
      callWith pos f first (backTo pos (starEach (e :: es) X.env)) (backToKw pos (keywordEach [] X.env))) := by rfl) : PE X (.Call (.Attribute o m apos) (e :: es) [] pos) (tMeth C m sp dvs E ta t) := by
  obtain ⟨f, fd, ds, c, hm, F, v, b⟩ := T.ex
  exact pe_meth (pl := pl) he c hm F hr b v hx ha hst hpl ht
theorem pe_mt0 {pl : Sem Bool} (T : Mt X.prog X.w X.K X.mg X.base C m k ps sp) (hr : Room k X.A) (hx : Passes (L2.CX X.prog X.w) X E) (he : PE X o ta)
    (ht : eval (.Call (.Attribute o m apos) [] [] pos) X.env = (do
      let ov ← eval o X.env
      standAt apos.atName
      let (f, first) ← holding [ov] (getMethod ov m pl)
      callWith pos f first (backTo pos (starEach [] X.env)) (backToKw pos (keywordEach [] X.env))) := by rfl) : PE X (.Call (.Attribute o m apos) [] [] pos) (tMeth C m sp [] E ta tNil) := by
  obtain ⟨f, fd, c, hm, _, _, _, F, b⟩ := T.ex
  exact pe_meth0 (pl := pl) he c hm F hr b .nil hx ht
end
theorem pick_able {e m : Bool} (h : (!e || !m) = true) : pick e m .non = some (!e) := by
  cases e
  · rfl
  · cases m
    · rfl
    · cases h
theorem TkAt.obj {D : Addr} {H : Hp} {t p : Addr} {pr : List Pq} (h : TkAt D H t p pr) : ∃ dx fa ba ka, H t = some (.ins D dx (tkf p fa ba ka)) := by
  obtain ⟨dx, fa, ba, ka, l, h1, _⟩ := h
  exact ⟨dx, fa, ba, ka, h1⟩
section
variable {P : Program} {w : World} {K : PySem.W.Frag} {mg : Str → Option Value} {base : Heap} {f : Addr} {fd : FuncData}
/-- take_all -/
def spTa (C D : Addr) : Sp := fun vs H Q _ => ∃ (t p : Addr) (n : Nat) (q : List Pr) (pr : List Pq) (qs : List Q4), vs = [.ref t] ∧ TkW C D H t p n q pr ∧ pr.length ≤ 800 ∧ Q4s n q qs ∧ ∀ H' a, Same (del H t) H' → TkW C D H' t p n q (grd qs n n pr) → (del H' t) a = some (.tup (nvs (left n (grd qs n n pr)))) → Q (.ref a) H'
theorem sc_ta : FnScope ["self", "fitting"] ["self"] (defScope (s_tg 6)) := ⟨rfl, rfl, rfl, by decide +kernel, rfl, by decide +kernel, by decide +kernel⟩
theorem ok_ta {C D CT CN CS : Addr} (F : Fun K "take_all" "Taking.take_all" (s_tg 6) f fd) (TL : PrT P w K mg base D "things_left" 1 (spTL C D)) (TB : Mt P w K mg base D "takable" 7 ["self"] (spTb C D)) (TE' : MtD P w K mg base D "take" 8 ["self", "thing", "side"] [.non] (spTake C D CT CN CS)) : FnOk P w K mg base (L2.CX P w) 9 f fd ["self"] (spTa C D) := by
  refine F.okX sc_ta (fun vs H Q E h => ?_) (fun cdv A outer s H vs Q E hr h => ?_)
  · obtain ⟨t, p, n, q, pr, qs, rfl, _⟩ := h
    rfl
  · obtain ⟨t, p, n, q, pr, qs, rfl, TK, few8, Z, k⟩ := h
    have nd := sc_ta.nd
    have r2 : Room 2 _ := hr.mono (by decide)
    have r7 : Room 7 _ := hr.mono (by decide)
    refine ⟨_, pss_cons (ps_set (i := 1) nd rfl (.inl rfl) (pe_mt0 TB r7 passUp (pv 0)))
      (pss_cons (ps_while (passes_of rfl) (pt_truth (pv 1) (by intro _; rfl))
        (pss_cons (ps_expr (pe_mtD TE' hr passUp (pv 0) (pa_cons (pe_ix ix_list (pv 1) pe_int (fun _ _ => rfl)) pa_nil)))
        (pss_one (ps_set (i := 1) nd rfl (.inl rfl) (pe_mt0 TB r7 passUp (pv 0))))))
      (pss_one (ps_ret (pe_prT TL r2 (pv 0) rfl)))), ?_⟩
    obtain ⟨dx, fa, ba, ka, h1⟩ := TK.tk.obj
    refine ⟨_, rfl, t, dx, _, rfl, h1, tkf_no _ _ _ _ (by decide +kernel) (by decide +kernel) (by decide +kernel) (by decide +kernel), ?_⟩
    dsimp only [tNil, List.append_nil]
    refine ⟨t, p, n, q, pr, qs, rfl, TK, Z, fun H1 L s1 hL => ?_⟩
    let Wv : Nat → L2.St → Hp → Prop := fun k σ H' => ∃ pr' L, σ = [some (.ref t), some (.ref L)] ∧ Same (del H t) H' ∧ TkW C D H' t p n q pr' ∧ pr'.length + (left n pr').length ≤ 820 ∧ grd qs n n pr' = grd qs n n pr ∧ H' L = some (.lst (nvs (able qs (left n pr')))) ∧ k = (left n pr').length
    refine ⟨Wv, ⟨_, pr, L, rfl, fun b o e => s1 b o (del_sub b o e), TK.mono s1, by have := left_le n pr; have := TK.n9; omega, rfl, hL, rfl⟩, ?_⟩
    rintro k' σ H' ⟨pr', L', rfl, sm, TK', bnd, eg, hL', rfl⟩
    obtain ⟨dx', fa', ba', ka', h1'⟩ := TK'.tk.obj
    refine ⟨_, rfl, _, .inl ⟨_, SqL.of hL', rfl⟩, ?_⟩
    cases ea : able qs (left n pr') with
    | nil =>
      refine iteF ?_
      have e0 : grd qs n n pr = pr' := by rw [← eg, grd_nil ea]
      refine ⟨_, rfl, t, dx', _, rfl, h1', t, p, n, q, pr', rfl, TK', fun H2 a s2 ha => ?_⟩
      rw [e0] at k
      refine k H2 a (fun b o e => s2 b o (sm b o e)) (TK'.mono s2) ?_
      have at_ : a ≠ t := fun e => by
        rw [e, s2 _ _ h1'] at ha
        cases ha
      rw [del_ne at_]
      exact ha
    | cons x r =>
      refine iteT ?_
      obtain ⟨xl, xa⟩ := able_mem ea
      refine ⟨fun σ' H'' => ∃ m', m' < (left n pr').length ∧ Wv m' σ' H'', fun _ _ h => h, ?_⟩
      rw [ea] at hL'
      have at0 : atI (nvs (x :: r)) 0 = some (V.int (x : Int)) := by
        have z : atI (nvs (x :: r)) ((0 : Nat) : Int) = some (V.int (x : Int)) := atI_nat rfl
        exact z
      refine ⟨_, rfl, t, dx', _, rfl, h1', tkf_no _ _ _ _ (by decide +kernel) (by decide +kernel) (by decide +kernel) (by decide +kernel), _, rfl, L', _, 0, _, rfl, rfl, SqL.of hL', at0, ?_⟩
      dsimp only [tNil, List.append_nil]
      have ls := left_less (n := n) (p := pr') (b := !hasE qs (left n pr') x) xl
      refine ⟨t, p, .int (x : Int), .non, .int (x : Int), n, q, pr', qs, rfl, TK', by omega, Z, .int _, rfl, rfl, .inr ⟨x, xl, rfl, rfl, .inr (.inr ⟨!hasE qs (left n pr') x, .inl rfl, pick_able xa, fun H2 s2 TK2 => ?_⟩)⟩⟩
      obtain ⟨dx2, fa2, ba2, ka2, h12⟩ := TK2.tk.obj
      refine ⟨_, rfl, t, dx2, _, rfl, h12, tkf_no _ _ _ _ (by decide +kernel) (by decide +kernel) (by decide +kernel) (by decide +kernel), ?_⟩
      dsimp only [tNil, List.append_nil]
      refine ⟨t, p, n, q, _, qs, rfl, TK2, Z, fun H3 L3 s3 hL3 => ?_⟩
      refine ⟨_, ?_, _, L3, rfl, fun b o e => s3 b o (same_trd' sm s2 b o e), TK2.mono s3, ?_, ?_, hL3, rfl⟩
      · exact ls
      · rw [List.length_append]
        show pr'.length + 1 + _ ≤ 820
        omega
      · rw [← eg, grd_step ea]
end
end K0
set_option Elab.async false
set_option linter.all false
set_option maxRecDepth 100000
set_option maxHeartbeats 4000000
namespace K0
open PySem PySem.Spec PyProof.Rows L2
abbrev s_li : Stmt := top 41
abbrev s_lins : Stmt := top 60
abbrev s_lne : Stmt := top 61
abbrev s_lnm : Stmt := top 62
abbrev s_lsr : Stmt := top 63
abbrev s_lab : Stmt := top 68
theorem lookup_relabel {env : Env} : ∀ {names : List (Str × NameKind)} {x : Str}, names.lookup x = some .cell ∨ names.lookup x = some .free →
    (names.map fun (n, k) => if (k == NameKind.free && env.scope.kind == .function && env.kindOf n == some .cell) then (n, NameKind.cell) else (n, k)).lookup x = some .cell ∨
    (names.map fun (n, k) => if (k == NameKind.free && env.scope.kind == .function && env.kindOf n == some .cell) then (n, NameKind.cell) else (n, k)).lookup x = some .free
  | [], _, h => by simp at h
  | (n, k) :: r, x, h => by
    have ih := @lookup_relabel env r x
    rw [List.map_cons]
    cases hx : x == n with
    | true =>
      simp only [List.lookup_cons, hx] at h
      by_cases hc : (k == NameKind.free && env.scope.kind == .function && env.kindOf n == some .cell) = true
      · simp only [hc, if_true, List.lookup_cons, hx]
        exact .inl trivial
      · simp only [hc, if_false, List.lookup_cons, hx, Bool.false_eq_true]
        exact h
    | false =>
      simp only [List.lookup_cons, hx] at h
      by_cases hc : (k == NameKind.free && env.scope.kind == .function && env.kindOf n == some .cell) = true
      · simp only [hc, if_true, List.lookup_cons, hx]
        exact ih h
      · simp only [hc, if_false, List.lookup_cons, hx, Bool.false_eq_true]
        exact ih h
theorem blkOk_in {N : List Str} {sc scope : Scope} {own : List (Str × Nat)} {env : Env} (h : blkC N sc scope own = true) : BlkOk N (relabel sc env) scope own := by
  have b := blkOk_by h
  exact ⟨b.kind, b.uniq, b.ix, fun y hy e => lookup_relabel (b.free y hy e), b.own⟩
theorem all_len {p : Nat → Bool} : ∀ k : List Nat, decide ((k.filter p).length = k.length) = k.all p
  | [] => rfl
  | x :: k => by
    have ih := all_len (p := p) k
    have := List.length_filter_le p k
    rw [List.filter_cons, List.all_cons, ← ih]
    cases e : p x with
    | true =>
      rw [if_pos rfl, List.length_cons, List.length_cons, Bool.true_and]
      exact decide_eq_decide.mpr (by omega)
    | false =>
      rw [if_neg Bool.false_ne_true, List.length_cons, Bool.false_and, decide_eq_false_iff_not]
      omega
/-- rows of four in a list -/
def QsH (H : Hp) (b : Addr) (qs : List Q4) : Prop := ∃ xs, H b = some (.lst xs) ∧ DtAll H xs ((qs.map r4).map rwD)
theorem QsH.mono {H H' : Hp} {b : Addr} {qs : List Q4} (s : Same H H') : QsH H b qs → QsH H' b qs := fun ⟨xs, h, d⟩ => ⟨xs, s _ _ h, d.mono s⟩
theorem QsH.len {H : Hp} {xs : List V} {qs : List Q4} (d : DtAll H xs ((qs.map r4).map rwD)) : xs.length = qs.length := by
  have := d.len
  rwa [List.length_map, List.length_map] at this
def q4L (z : Q4) : List Nat := [z.1, z.2.1, z.2.2.1, z.2.2.2]
theorem inn_all (S : List Nat) (z : Q4) : (((((q4L z).filter fun x => decide (x ∈ S)).length : Nat) : Int) == 4) = inn S z := by
  have h := all_len (p := fun x => decide (x ∈ S)) (q4L z)
  have e : (q4L z).all (fun x => decide (x ∈ S)) = inn S z := by
    unfold q4L inn
    simp [List.all_cons]
  rw [← e, ← h, Bool.eq_iff_iff, beq_iff_eq, decide_eq_true_iff]
  show _ ↔ _ = 4
  omega
theorem snocF {α : Type} {l : List α} {p : α → Bool} {i : Nat} {x : α} (h : l[i]? = some x) : (l.take (i + 1)).filter p = (l.take i).filter p ++ if p x = true then [x] else [] := by
  have e : l.take (i + 1) = l.take i ++ [x] := take_at h
  rw [e, List.filter_append]
  congr 1
  cases e : p x <;> simp [e]
section
variable {P : Program} {w : World} {K : PySem.W.Frag} {mg : Str → Option Value} {base : Heap} {f : Addr} {fd : FuncData}
theorem sc_li : FnScope ["_law_value"] ["_law_value"] (defScope s_li) := ⟨rfl, rfl, rfl, by decide +kernel, rfl, by decide +kernel, by decide +kernel⟩
theorem ok_li (F : Fun K "_law_int" "_law_int" s_li f fd) (B : Blt2 mg) : FnOk P w K mg base (L2.CX P w) 1 f fd ["_law_value"] spInt := by
  refine F.okX sc_li (fun vs H Q E h => ?_) (fun cdv A outer s H vs Q E hr h => ?_)
  · obtain ⟨v, d, rfl, _⟩ := h
    rfl
  · obtain ⟨v, d, rfl, hv, q⟩ := h
    refine ⟨_, pss_one (ps_ret (pe_and
      (pe_callB call_isi (by rfl) B.isi (by decide +kernel) (pa_cons (pv 0) (pa_cons (pe_bltn (v := .ty "int") (by rfl) B.int (by decide +kernel) rfl) pa_nil)))
      (pe_one (pe_not (pe_callB call_isi (by rfl) B.isi (by decide +kernel) (pa_cons (pv 0) (pa_cons (pe_bltn (v := .ty "bool") (by rfl) B.bool (by decide +kernel) rfl) pa_nil))))))), ?_⟩
    cases hv with
    | non => exact ⟨_, rfl, _, _, _, _, _, rfl, .ty _, .base .non, kit_ty (r := false) (by decide +kernel), _, rfl, iteF q⟩
    | bl b => exact ⟨_, rfl, _, _, _, _, _, rfl, .ty _, .base (.bl b), kit_ty (r := true) (by decide +kernel), _, rfl, iteT ⟨_, rfl, _, _, _, _, _, rfl, .ty _, .base (.bl b), kit_ty (r := true) (by decide +kernel), _, rfl, q⟩⟩
    | int i => exact ⟨_, rfl, _, _, _, _, _, rfl, .ty _, .base (.int i), kit_ty (r := true) (by decide +kernel), _, rfl, iteT ⟨_, rfl, _, _, _, _, _, rfl, .ty _, .base (.int i), kit_ty (r := false) (by decide +kernel), _, rfl, q⟩⟩
    | str x => exact ⟨_, rfl, _, _, _, _, _, rfl, .ty _, .base (.str x), kit_ty (r := false) (by decide +kernel), _, rfl, iteF q⟩
    | tup e _ => exact ⟨_, rfl, _, _, _, _, _, rfl, .ty _, .base (.tup e), kit_ty (r := false) (by decide +kernel), _, rfl, iteF q⟩
    | lst e _ => exact ⟨_, rfl, _, _, _, _, _, rfl, .ty _, .base (.lst e), kit_ty (r := false) (by decide +kernel), _, rfl, iteF q⟩
/-- rows among these, as they grow in a new list -/
def QsG (H0 H : Hp) (D : Addr) (qs : List Q4) : Prop := ∃ ys, H D = some (.lst ys) ∧ ys.length = qs.length ∧ DtAll H0 ys ((qs.map r4).map rwD)
theorem QsG.push {H0 H : Hp} {D : Addr} {qs : List Q4} {z : Q4} {b : Addr} (g : QsG H0 H D qs) (hb : Dt H0 (.ref b) (rwD (r4 z))) : ∃ ys, H D = some (.lst ys) ∧ ys.length = qs.length ∧ QsG H0 (upd H D (.lst (ys ++ [.ref b]))) D (qs ++ [z]) := by
  obtain ⟨ys, h, l, d⟩ := g
  refine ⟨ys, h, l, ys ++ [.ref b], upd_same, by rw [List.length_append, List.length_append, l]; rfl, ?_⟩
  rw [List.map_append, List.map_append]
  exact d.app (.cons hb .nil)
theorem QsG.mono {H0 H H' : Hp} {D : Addr} {qs : List Q4} (s : Same H H') : QsG H0 H D qs → QsG H0 H' D qs := fun ⟨ys, h, l, d⟩ => ⟨ys, s _ _ h, l, d⟩
/-- _law_inside -/
def spIns : Sp := fun vs H Q _ => ∃ (b a : Addr) (S : List Nat) (qs : List Q4), vs = [.ref b, .ref a] ∧ QsH H b qs ∧ qs.length ≤ 65536 ∧ H a = some (.lst (nvs S)) ∧ ∀ H' L, Same H H' → QsH H' L (qs.filter (inn S)) → Q (.ref L) H'
abbrev insN : List Str := ["_law_quads_here", "_law_left", "_law_quad", "_law_x"]
theorem sc_ins : FnScope insN ["_law_quads_here", "_law_left"] (defScope s_lins) := ⟨rfl, rfl, rfl, by decide +kernel, rfl, by decide +kernel, by decide +kernel⟩
theorem ok_ins (F : Fun K "_law_inside" "_law_inside" s_lins f fd) (B : Blt2 mg) : FnOk P w K mg base (L2.CX P w) 1 f fd ["_law_quads_here", "_law_left"] spIns := by
  refine F.okX sc_ins (fun vs H Q E h => ?_) (fun cdv A outer s H vs Q E hr h => ?_)
  · obtain ⟨b, a, S, qs, rfl, _⟩ := h
    rfl
  · obtain ⟨b, a, S, qs, rfl, ⟨xs, hb, hx⟩, few, ha, k⟩ := h
    have nd := sc_ins.nd
    let ttI : TT := tTest (tOp (rIn K false) (tVar 3) (tVar 1))
    let teI : TE := tLc (iTup K (tVar 2)) (gName 3) ttI (tVar 3) [3]
    refine ⟨_, pss_one (ps_ret (pe_lc (own := [("_law_quad", 2)]) (g := gName 2) (tt := tTest (tOp rEq (tCB (rLenI K) (tCons teI tNil)) (tC (.int 4)))) (te := tVar 2) rfl nd (pi_list (pv 0))
      (blkOk_by (N := insN) (sc := defScope s_lins) (by decide +kernel)) (fun _ _ _ _ _ => pg_name (i := 2) nd rfl (.inl rfl))
      (fun _ _ _ _ _ => pts_one (pt_cmpR op_eq (pe_callB c_len (by rfl) B.len PySem.boot_len (pa_cons (pe_lc (own := [("_law_x", 3)]) (g := gName 3) (tt := ttI) (te := tVar 3) rfl nd (pi_tup (pv 2)) (blkOk_in (N := insN) (by decide +kernel)) (fun _ _ _ _ _ => pg_name (i := 3) nd rfl (.inl rfl)) (fun _ _ _ _ _ => pts_one (pt_cmpR op_in_seq (pv 3) (pv 1) (by rfl))) (fun _ _ _ _ _ => pv 3)) pa_nil)) pe_int (by rfl)))
      (fun _ _ _ _ _ => pv 2))), ?_⟩
    refine ⟨_, rfl, b, rfl, ⟨_, SqL.of hb⟩, fun D nD => ?_⟩
    refine lc_it (walk_list (K := K) (a := b) (xs := xs)) (fun i H' => Same H H' ∧ QsG H H' D ((qs.take i).filter (inn S))) ⟨same_upd nD, [], upd_same, rfl, .nil⟩ (fun i H' _ z => SqL.of (z.1 _ _ hb)) (fun i v Hx H' hi z y => ?_) (fun H' z => ?_)
    · obtain ⟨rfl, hv⟩ := y
      obtain ⟨sm, g⟩ := z
      obtain ⟨z, c, hz, rfl, hc⟩ := q4_at hx hv
      have dz : Dt H (.ref c) (rwD (r4 z)) := .tup hc (.cons (.int _) (.cons (.int _) (.cons (.int _) (.cons (.int _) .nil))))
      refine ⟨rfl, _, rfl, c, rfl, ⟨_, SqT.of (sm _ _ hc)⟩, fun D3 nD3 => ?_⟩
      refine lc_it (walk_tup (K := K) (a := c) (xs := nvs (q4L z))) (fun j H2 => Same H' H2 ∧ H2 D3 = some (.lst (nvs (((q4L z).take j).filter fun x => decide (x ∈ S))))) ⟨same_upd nD3, upd_same⟩ (fun j H2 _ z2 => SqT.of (z2.1 _ _ (sm _ _ hc))) (fun j v Hx2 H2 hj z2 y2 => ?_) (fun H2 z2 => ?_)
      · obtain ⟨rfl, hv2⟩ := y2
        obtain ⟨s2, hD3⟩ := z2
        obtain ⟨x, hx2, rfl⟩ := nvs_val hv2
        refine ⟨rfl, _, rfl, _, rfl, a, _, rfl, .inl (SqL.of (s2 _ _ (sm _ _ ha))), rfl, flat7 _, _, rfl, ?_⟩
        rw [if_neg Bool.false_ne_true, inV7]
        cases e7 : decide (x ∈ S) with
        | true =>
          refine iteT ⟨_, rfl, _, hD3, ?_, same_keep nD3 s2, ?_⟩
          · rw [nvs_len, sizeLine_eq]
            have h7 := List.length_filter_le (fun x => decide (x ∈ S)) ((q4L z).take j)
            have h8 : (q4L z).length = 4 := rfl
            rw [List.length_take] at h7
            omega
          · rw [upd_same, snocF hx2, if_pos e7]
            unfold nvs
            rw [List.map_append]
            rfl
        | false =>
          refine iteF ⟨s2, ?_⟩
          rw [snocF hx2, if_neg (by rw [e7]; exact Bool.false_ne_true), List.append_nil]
          exact hD3
      · obtain ⟨s2, hD3⟩ := z2
        rw [nvs_len, List.take_length] at hD3
        refine ⟨D3, _, rfl, .inl (SqL.of hD3), rfl, _, rfl, ?_⟩
        rw [dec_int, nvs_len, inn_all]
        have g2 := g.mono s2
        cases e8 : inn S z with
        | true =>
          obtain ⟨ys, h9, l9, g9⟩ := g2.push (b := c) dz
          refine iteT ⟨_, rfl, ys, h9, ?_, same_keep nD (sm.trans s2), ?_⟩
          · rw [l9, sizeLine_eq]
            have h7 := List.length_filter_le (inn S) (qs.take i)
            rw [List.length_take] at h7
            omega
          · rw [snocF hz, if_pos e8]
            exact g9
        | false =>
          refine iteF ⟨sm.trans s2, ?_⟩
          rw [snocF hz, if_neg (by rw [e8]; exact Bool.false_ne_true), List.append_nil]
          exact g2
    · obtain ⟨sm, ys, hD, lD, dD⟩ := z
      rw [QsH.len hx, List.take_length] at dD
      exact k H' D sm ⟨ys, hD, dD.mono sm⟩
/-- _law_no_end, _law_no_middle -/
def spLn7 (g : List Q4 → List Nat → Nat → Bool) : Sp := fun vs H Q _ => ∃ (b a : Addr) (x : Nat) (S : List Nat) (qs : List Q4), vs = [.ref b, .ref a, .int (x : Int)] ∧ QsH H b qs ∧ qs.length ≤ 65536 ∧ H a = some (.lst (nvs S)) ∧ Ret (.bl (!g qs S x)) H Q
abbrev lneN : List Str := ["_law_quads_here", "_law_left", "_law_x", "_law_quad"]
theorem sc_lne : FnScope lneN ["_law_quads_here", "_law_left", "_law_x"] (defScope s_lne) := ⟨rfl, rfl, rfl, by decide +kernel, rfl, by decide +kernel, by decide +kernel⟩
theorem sc_lnm : FnScope lneN ["_law_quads_here", "_law_left", "_law_x"] (defScope s_lnm) := ⟨rfl, rfl, rfl, by decide +kernel, rfl, by decide +kernel, by decide +kernel⟩
theorem any_fil {qs : List Q4} {p r : Q4 → Bool} : ((((qs.filter p).filter r).length : Int) == 0) = !qs.any fun z => p z && r z := by
  rw [Bool.eq_iff_iff, beq_iff_eq, Bool.not_eq_true', List.any_eq_false]
  constructor
  · intro h z hz e
    rw [Bool.and_eq_true] at e
    have m : z ∈ (qs.filter p).filter r := List.mem_filter.mpr ⟨List.mem_filter.mpr ⟨hz, e.1⟩, e.2⟩
    have := List.length_pos_of_mem m
    omega
  · intro h
    have : (qs.filter p).filter r = [] := List.filter_eq_nil_iff.mpr fun z hz e => h z (List.mem_filter.mp hz).1 (by rw [(List.mem_filter.mp hz).2, e]; rfl)
    rw [this]
    rfl
theorem ok_lne (F : Fun K "_law_no_end" "_law_no_end" s_lne f fd) (B : Blt2 mg) (INS : Df P w K mg base "_law_inside" 1 ["_law_quads_here", "_law_left"] spIns) : FnOk P w K mg base (L2.CX P w) 2 f fd ["_law_quads_here", "_law_left", "_law_x"] (spLn7 hasE) := by
  refine F.okX sc_lne (fun vs H Q E h => ?_) (fun cdv A outer s H vs Q E hr h => ?_)
  · obtain ⟨b, a, x, S, qs, rfl, _⟩ := h
    rfl
  · obtain ⟨b, a, x, S, qs, rfl, hq, few, ha, k⟩ := h
    have nd := sc_lne.nd
    refine ⟨_, pss_one (ps_ret (pe_cmpR op_eq (pe_callB c_len (by rfl) B.len PySem.boot_len (pa_cons (pe_lc (own := [("_law_quad", 3)]) (g := gName 3) (tt := tOr (tTest (tOp rEq (tVar 2) (tOp (rIxT K) (tVar 3) (tC (.int 0))))) (tTest (tOp rEq (tVar 2) (tOp (rIxT K) (tVar 3) (tC (.int 3)))))) (te := tVar 3) rfl nd
      (pi_list (pe_df INS hr (by rfl) passUp (pa_cons (pv 0) (pa_cons (pv 1) pa_nil)))) (blkOk_by (N := lneN) (sc := defScope s_lne) (by decide +kernel)) (fun _ _ _ _ _ => pg_name (i := 3) nd rfl (.inl rfl))
      (fun _ _ _ _ _ => pts_one (PW.pt (pw_or (pt_cmpR op_eq (pv 2) (pe_ix ix_tup (pv 3) pe_int (fun _ _ => rfl)) (by rfl)) (pw_or1 (pt_cmpR op_eq (pv 2) (pe_ix ix_tup (pv 3) pe_int (fun _ _ => rfl)) (by rfl)))))) (fun _ _ _ _ _ => pv 3)) pa_nil)) pe_int (nomark _))), ?_⟩
    refine ⟨_, rfl, _, rfl, b, a, S, qs, rfl, hq, few, ha, fun H1 L s1 hL => ?_⟩
    obtain ⟨xs, hb, hx⟩ := hL
    refine ⟨L, rfl, ⟨_, SqL.of hb⟩, fun D nD => ?_⟩
    have f2 : (qs.filter (inn S)).length ≤ 65536 := Nat.le_trans (List.length_filter_le _ _) few
    refine lc_it (walk_list (K := K) (a := L) (xs := xs)) (fun i H' => Same H1 H' ∧ ∃ ys, H' D = some (.lst ys) ∧ ys.length = (((qs.filter (inn S)).take i).filter fun z => isE z x).length) ⟨same_upd nD, [], upd_same, rfl⟩ (fun i H' _ z => SqL.of (z.1 _ _ hb)) (fun i v Hx H' hi z y => ?_) (fun H' z => ?_)
    · obtain ⟨rfl, hv⟩ := y
      obtain ⟨sm, ys, hD, lD⟩ := z
      obtain ⟨z, c, hz, rfl, hc⟩ := q4_at (hx.mono sm) hv
      have lt : (((qs.filter (inn S)).take i).filter fun z => isE z x).length ≤ 65536 := Nat.le_trans (List.length_filter_le _ _) (by rw [List.length_take]; omega)
      have yes : isE z x = true → ∃ acc, H' D = some (.lst acc) ∧ acc.length < sizeLine ∧ (Same H1 (upd H' D (.lst (acc ++ [.ref c]))) ∧ ∃ ys, (upd H' D (.lst (acc ++ [V.ref c]))) D = some (.lst ys) ∧ ys.length = (((qs.filter (inn S)).take (i + 1)).filter fun z => isE z x).length) := fun e => by
        refine ⟨ys, hD, by rw [lD, sizeLine_eq]; omega, same_keep nD sm, ys ++ [.ref c], upd_same, ?_⟩
        rw [snocF hz, if_pos e, List.length_append, List.length_append, lD]
        rfl
      have at_ : ∀ (j : Nat) (y : Nat), [z.1, z.2.1, z.2.2.1, z.2.2.2][j]? = some y → atI [V.int (z.1 : Int), .int (z.2.1 : Int), .int (z.2.2.1 : Int), .int (z.2.2.2 : Int)] (j : Int) = some (.int (y : Int)) := fun j y e => by
        refine atI_nat ?_
        have e9 : [V.int (z.1 : Int), .int (z.2.1 : Int), .int (z.2.2.1 : Int), .int (z.2.2.2 : Int)] = nvs [z.1, z.2.1, z.2.2.1, z.2.2.2] := rfl
        rw [e9]
        unfold nvs
        rw [List.getElem?_map, e]
        rfl
      refine ⟨rfl, _, rfl, _, rfl, c, _, 0, .int (z.1 : Int), rfl, rfl, SqT.of hc, at_ 0 _ rfl, rfl, _, rfl, ?_⟩
      rw [dec_int]
      by_cases e1 : x = z.1
      · rw [show (((x : Nat) : Int) == ((z.1 : Nat) : Int)) = true from beq_iff_eq.mpr (by omega)]
        exact iteT (iteT ⟨_, rfl, yes (by unfold isE; rw [decide_eq_true e1]; rfl)⟩)
      · rw [show (((x : Nat) : Int) == ((z.1 : Nat) : Int)) = false from beq_eq_false_iff_ne.mpr (by omega)]
        refine iteF ⟨_, rfl, _, rfl, c, _, 3, .int (z.2.2.2 : Int), rfl, rfl, SqT.of hc, at_ 3 _ rfl, rfl, _, rfl, ?_⟩
        rw [dec_int]
        by_cases e2 : x = z.2.2.2
        · rw [show (((x : Nat) : Int) == ((z.2.2.2 : Nat) : Int)) = true from beq_iff_eq.mpr (by omega)]
          exact iteT ⟨_, rfl, yes (by unfold isE; rw [decide_eq_true e2, Bool.or_true])⟩
        · rw [show (((x : Nat) : Int) == ((z.2.2.2 : Nat) : Int)) = false from beq_eq_false_iff_ne.mpr (by omega)]
          refine iteF ⟨sm, ys, hD, ?_⟩
          rw [lD, snocF hz, if_neg (by unfold isE; rw [decide_eq_false e1, decide_eq_false e2]; exact Bool.false_ne_true), List.append_nil]
    · obtain ⟨sm, ys, hD, lD⟩ := z
      rw [QsH.len hx, List.take_length] at lD
      refine ⟨D, _, rfl, .inl (SqL.of hD), rfl, ?_⟩
      rw [dec_int, lD, any_fil]
      exact k H' (s1.trans sm)
theorem ok_lnm (F : Fun K "_law_no_middle" "_law_no_middle" s_lnm f fd) (B : Blt2 mg) (INS : Df P w K mg base "_law_inside" 1 ["_law_quads_here", "_law_left"] spIns) : FnOk P w K mg base (L2.CX P w) 2 f fd ["_law_quads_here", "_law_left", "_law_x"] (spLn7 hasM) := by
  refine F.okX sc_lnm (fun vs H Q E h => ?_) (fun cdv A outer s H vs Q E hr h => ?_)
  · obtain ⟨b, a, x, S, qs, rfl, _⟩ := h
    rfl
  · obtain ⟨b, a, x, S, qs, rfl, hq, few, ha, k⟩ := h
    have nd := sc_lnm.nd
    refine ⟨_, pss_one (ps_ret (pe_cmpR op_eq (pe_callB c_len (by rfl) B.len PySem.boot_len (pa_cons (pe_lc (own := [("_law_quad", 3)]) (g := gName 3) (tt := tOr (tTest (tOp rEq (tVar 2) (tOp (rIxT K) (tVar 3) (tC (.int 1))))) (tTest (tOp rEq (tVar 2) (tOp (rIxT K) (tVar 3) (tC (.int 2)))))) (te := tVar 3) rfl nd
      (pi_list (pe_df INS hr (by rfl) passUp (pa_cons (pv 0) (pa_cons (pv 1) pa_nil)))) (blkOk_by (N := lneN) (sc := defScope s_lnm) (by decide +kernel)) (fun _ _ _ _ _ => pg_name (i := 3) nd rfl (.inl rfl))
      (fun _ _ _ _ _ => pts_one (PW.pt (pw_or (pt_cmpR op_eq (pv 2) (pe_ix ix_tup (pv 3) pe_int (fun _ _ => rfl)) (by rfl)) (pw_or1 (pt_cmpR op_eq (pv 2) (pe_ix ix_tup (pv 3) pe_int (fun _ _ => rfl)) (by rfl)))))) (fun _ _ _ _ _ => pv 3)) pa_nil)) pe_int (nomark _))), ?_⟩
    refine ⟨_, rfl, _, rfl, b, a, S, qs, rfl, hq, few, ha, fun H1 L s1 hL => ?_⟩
    obtain ⟨xs, hb, hx⟩ := hL
    refine ⟨L, rfl, ⟨_, SqL.of hb⟩, fun D nD => ?_⟩
    have f2 : (qs.filter (inn S)).length ≤ 65536 := Nat.le_trans (List.length_filter_le _ _) few
    refine lc_it (walk_list (K := K) (a := L) (xs := xs)) (fun i H' => Same H1 H' ∧ ∃ ys, H' D = some (.lst ys) ∧ ys.length = (((qs.filter (inn S)).take i).filter fun z => isM z x).length) ⟨same_upd nD, [], upd_same, rfl⟩ (fun i H' _ z => SqL.of (z.1 _ _ hb)) (fun i v Hx H' hi z y => ?_) (fun H' z => ?_)
    · obtain ⟨rfl, hv⟩ := y
      obtain ⟨sm, ys, hD, lD⟩ := z
      obtain ⟨z, c, hz, rfl, hc⟩ := q4_at (hx.mono sm) hv
      have lt : (((qs.filter (inn S)).take i).filter fun z => isM z x).length ≤ 65536 := Nat.le_trans (List.length_filter_le _ _) (by rw [List.length_take]; omega)
      have yes : isM z x = true → ∃ acc, H' D = some (.lst acc) ∧ acc.length < sizeLine ∧ (Same H1 (upd H' D (.lst (acc ++ [.ref c]))) ∧ ∃ ys, (upd H' D (.lst (acc ++ [V.ref c]))) D = some (.lst ys) ∧ ys.length = (((qs.filter (inn S)).take (i + 1)).filter fun z => isM z x).length) := fun e => by
        refine ⟨ys, hD, by rw [lD, sizeLine_eq]; omega, same_keep nD sm, ys ++ [.ref c], upd_same, ?_⟩
        rw [snocF hz, if_pos e, List.length_append, List.length_append, lD]
        rfl
      have at_ : ∀ (j : Nat) (y : Nat), [z.1, z.2.1, z.2.2.1, z.2.2.2][j]? = some y → atI [V.int (z.1 : Int), .int (z.2.1 : Int), .int (z.2.2.1 : Int), .int (z.2.2.2 : Int)] (j : Int) = some (.int (y : Int)) := fun j y e => by
        refine atI_nat ?_
        have e9 : [V.int (z.1 : Int), .int (z.2.1 : Int), .int (z.2.2.1 : Int), .int (z.2.2.2 : Int)] = nvs [z.1, z.2.1, z.2.2.1, z.2.2.2] := rfl
        rw [e9]
        unfold nvs
        rw [List.getElem?_map, e]
        rfl
      refine ⟨rfl, _, rfl, _, rfl, c, _, 1, .int (z.2.1 : Int), rfl, rfl, SqT.of hc, at_ 1 _ rfl, rfl, _, rfl, ?_⟩
      rw [dec_int]
      by_cases e1 : x = z.2.1
      · rw [show (((x : Nat) : Int) == ((z.2.1 : Nat) : Int)) = true from beq_iff_eq.mpr (by omega)]
        exact iteT (iteT ⟨_, rfl, yes (by unfold isM; rw [decide_eq_true e1]; rfl)⟩)
      · rw [show (((x : Nat) : Int) == ((z.2.1 : Nat) : Int)) = false from beq_eq_false_iff_ne.mpr (by omega)]
        refine iteF ⟨_, rfl, _, rfl, c, _, 2, .int (z.2.2.1 : Int), rfl, rfl, SqT.of hc, at_ 2 _ rfl, rfl, _, rfl, ?_⟩
        rw [dec_int]
        by_cases e2 : x = z.2.2.1
        · rw [show (((x : Nat) : Int) == ((z.2.2.1 : Nat) : Int)) = true from beq_iff_eq.mpr (by omega)]
          exact iteT ⟨_, rfl, yes (by unfold isM; rw [decide_eq_true e2, Bool.or_true])⟩
        · rw [show (((x : Nat) : Int) == ((z.2.2.1 : Nat) : Int)) = false from beq_eq_false_iff_ne.mpr (by omega)]
          refine iteF ⟨sm, ys, hD, ?_⟩
          rw [lD, snocF hz, if_neg (by unfold isM; rw [decide_eq_false e1, decide_eq_false e2]; exact Bool.false_ne_true), List.append_nil]
    · obtain ⟨sm, ys, hD, lD⟩ := z
      rw [QsH.len hx, List.take_length] at lD
      refine ⟨D, _, rfl, .inl (SqL.of hD), rfl, ?_⟩
      rw [dec_int, lD, any_fil]
      exact k H' (s1.trans sm)
/-- _law_able -/
def spLab : Sp := fun vs H Q _ => ∃ (b a : Addr) (S : List Nat) (qs : List Q4), vs = [.ref b, .ref a] ∧ QsH H b qs ∧ qs.length ≤ 65536 ∧ H a = some (.lst (nvs S)) ∧ S.length ≤ 1000 ∧ ∀ H' L, Same H H' → H L = none → H' L = some (.lst (nvs (able qs S))) → Q (.ref L) H'
abbrev labN : List Str := ["_law_quads_here", "_law_left", "_law_x"]
theorem sc_lab : FnScope labN ["_law_quads_here", "_law_left"] (defScope s_lab) := ⟨rfl, rfl, rfl, by decide +kernel, rfl, by decide +kernel, by decide +kernel⟩
theorem ok_lab (F : Fun K "_law_able" "_law_able" s_lab f fd) (LE : Df P w K mg base "_law_no_end" 2 ["_law_quads_here", "_law_left", "_law_x"] (spLn7 hasE)) (LM : Df P w K mg base "_law_no_middle" 2 ["_law_quads_here", "_law_left", "_law_x"] (spLn7 hasM)) : FnOk P w K mg base (L2.CX P w) 3 f fd ["_law_quads_here", "_law_left"] spLab := by
  refine F.okX sc_lab (fun vs H Q E h => ?_) (fun cdv A outer s H vs Q E hr h => ?_)
  · obtain ⟨b, a, S, qs, rfl, _⟩ := h
    rfl
  · obtain ⟨b, a, S, qs, rfl, hq, few, ha, l1000, k⟩ := h
    have nd := sc_lab.nd
    let cl : Sp → TT := fun sp => tB (tCall sp [] (fun _ _ _ => False) (tCons (tVar 0) (tCons (tVar 1) (tCons (tVar 2) tNil))))
    refine ⟨_, pss_one (ps_ret (pe_lc (own := [("_law_x", 2)]) (g := gName 2) (tt := tOr (cl (spLn7 hasE)) (cl (spLn7 hasM))) (te := tVar 2) rfl nd (pi_list (pv 1)) (blkOk_by (N := labN) (sc := defScope s_lab) (by decide +kernel)) (fun _ _ _ _ _ => pg_name (i := 2) nd rfl (.inl rfl))
      (fun _ _ _ _ _ => pts_one (PW.pt (pw_or (pt_val (pe_df LE hr (by rfl) passE0 (pa_cons (pv 0) (pa_cons (pv 1) (pa_cons (pv 2) pa_nil))))) (pw_or1 (pt_val (pe_df LM hr (by rfl) passE0 (pa_cons (pv 0) (pa_cons (pv 1) (pa_cons (pv 2) pa_nil))))))))) (fun _ _ _ _ _ => pv 2))), ?_⟩
    refine ⟨_, rfl, a, rfl, ⟨_, SqL.of ha⟩, fun D nD => ?_⟩
    refine lc_it (walk_list (K := K) (a := a) (xs := nvs S)) (fun i H' => Same H H' ∧ H' D = some (.lst (nvs ((S.take i).filter fun x => !hasE qs S x || !hasM qs S x)))) ⟨same_upd nD, upd_same⟩ (fun i H' _ z => SqL.of (z.1 _ _ ha)) (fun i v Hx H' hi z y => ?_) (fun H' z => ?_)
    · obtain ⟨rfl, hv⟩ := y
      obtain ⟨sm, hD⟩ := z
      obtain ⟨x, hx, rfl⟩ := nvs_val hv
      have yes : ∀ G, Same H' G → (!hasE qs S x || !hasM qs S x) = true → ∃ acc, G D = some (.lst acc) ∧ acc.length < sizeLine ∧ (Same H (upd G D (.lst (acc ++ [.int (x : Int)]))) ∧ (upd G D (.lst (acc ++ [V.int (x : Int)]))) D = some (.lst (nvs ((S.take (i + 1)).filter fun x => !hasE qs S x || !hasM qs S x)))) := fun G sG e => by
        refine ⟨_, sG _ _ hD, ?_, same_keep nD (sm.trans sG), ?_⟩
        · rw [nvs_len, sizeLine_eq]
          have h7 := List.length_filter_le (fun x => !hasE qs S x || !hasM qs S x) (S.take i)
          rw [List.length_take] at h7
          omega
        · rw [upd_same, snocF hx, if_pos e]
          unfold nvs
          rw [List.map_append]
          rfl
      refine ⟨rfl, _, rfl, _, rfl, _, rfl, b, a, x, S, qs, rfl, hq.mono sm, few, sm _ _ ha, fun G1 s1 => ⟨_, rfl, ?_⟩⟩
      cases e1 : (!hasE qs S x) with
      | true => exact iteT (iteT ⟨_, rfl, yes G1 s1 (by rw [e1]; rfl)⟩)
      | false =>
        refine iteF ⟨_, rfl, _, rfl, _, rfl, b, a, x, S, qs, rfl, hq.mono (sm.trans s1), few, (sm.trans s1) _ _ ha, fun G2 s2 => ⟨_, rfl, ?_⟩⟩
        cases e2 : (!hasM qs S x) with
        | true => exact iteT ⟨_, rfl, yes G2 (s1.trans s2) (by rw [e1, e2]; rfl)⟩
        | false =>
          refine iteF ⟨sm.trans (s1.trans s2), ?_⟩
          rw [snocF hx, if_neg (by rw [e1, e2]; exact Bool.false_ne_true), List.append_nil]
          exact (s1.trans s2) _ _ hD
    · obtain ⟨sm, hD⟩ := z
      rw [nvs_len, List.take_length] at hD
      exact k H' D sm nD hD
/-- _law_same_row, of what is the same -/
def spLsr : Sp := fun vs H Q _ => ∃ (a b : Addr) (S : List Nat), vs = [.ref a, .ref b] ∧ H a = some (.tup (nvs S)) ∧ H b = some (.lst (nvs S)) ∧ S.length ≤ 2000 ∧ Ret (.bl true) H Q
abbrev lsrN : List Str := ["_law_told_here", "_law_due_here", "_law_k"]
theorem sc_lsr : FnScope lsrN ["_law_told_here", "_law_due_here"] (defScope s_lsr) := ⟨rfl, rfl, rfl, by decide +kernel, rfl, by decide +kernel, by decide +kernel⟩
theorem ok_lsr (F : Fun K "_law_same_row" "_law_same_row" s_lsr f fd) (B : Blt2 mg) (LI' : Df P w K mg base "_law_int" 1 ["_law_value"] spInt) : FnOk P w K mg base (L2.CX P w) 2 f fd ["_law_told_here", "_law_due_here"] spLsr := by
  refine F.okX sc_lsr (fun vs H Q E h => ?_) (fun cdv A outer s H vs Q E hr h => ?_)
  · obtain ⟨a, b, S, rfl, _⟩ := h
    rfl
  · obtain ⟨a, b, S, rfl, ha, hb, few, k⟩ := h
    have nd := sc_lsr.nd
    let ttK : TT := tOr (tNot (tB (tCall spInt [] (fun _ _ _ => False) (tCons (tOp (rIxT K) (tVar 0) (tVar 2)) tNil)))) (tTest (tOp rNe (tOp (rIxT K) (tVar 0) (tVar 2)) (tOp (rIxL K) (tVar 1) (tVar 2))))
    refine ⟨_, pss_cons (ps_if (PW.pt (pw_or (pt_not (pt_val (pe_callB call_isi (by rfl) B.isi (by decide +kernel) (pa_cons (pv 0) (pa_cons (pe_bltn (v := .ty "tuple") (by rfl) B.tuple (by decide +kernel) rfl) pa_nil))))) (pw_or1 (pt_cmpR op_ne (pe_callB c_len (by rfl) B.len PySem.boot_len (pa_cons (pv 0) pa_nil)) (pe_callB c_len (by rfl) B.len PySem.boot_len (pa_cons (pv 1) pa_nil)) (nomark _))))) (pss_one (ps_ret pe_bl)) pss_nil)
      (pss_one (ps_ret (pe_cmpR op_eq (pe_callB c_len (by rfl) B.len PySem.boot_len (pa_cons (pe_lc (own := [("_law_k", 2)]) (g := gName 2) (tt := ttK) (te := tVar 2) rfl nd (pi_range1 (by rfl) B.range (pa_cons (pe_callB c_len (by rfl) B.len PySem.boot_len (pa_cons (pv 1) pa_nil)) pa_nil))
        (blkOk_by (N := lsrN) (sc := defScope s_lsr) (by decide +kernel)) (fun _ _ _ _ _ => pg_name (i := 2) nd rfl (.inl rfl)) (fun _ _ _ _ _ => pts_one (PW.pt (pw_or (pt_not (pt_val (pe_df LI' hr (by rfl) passE0 (pa_cons (pe_ix ix_tup (pv 0) (pv 2) (fun _ _ => rfl)) pa_nil)))) (pw_or1 (pt_cmpR op_ne (pe_ix ix_tup (pv 0) (pv 2) (fun _ _ => rfl)) (pe_ix ix_list (pv 1) (pv 2) (fun _ _ => rfl)) (by rfl)))))) (fun _ _ _ _ _ => pv 2)) pa_nil)) pe_int (nomark _)))), ?_⟩
    refine ⟨_, rfl, _, _, _, _, _, rfl, .ty _, .base (.tup ha), kit_ty (r := true) (by decide +kernel), _, rfl, iteF ?_⟩
    refine ⟨_, rfl, a, _, rfl, .inr (SqT.of ha), _, rfl, b, _, rfl, .inl (SqL.of hb), rfl, _, rfl, ?_⟩
    rw [dec_int, show (!(((nvs S).length : Int) == ((nvs S).length : Int))) = false by simp]
    refine iteF ⟨_, rfl, b, _, rfl, .inl (SqL.of hb), _, rfl, by rw [nvs_len]; omega, by rw [nvs_len]; omega, fun D nD => ?_⟩
    rw [nvs_len, Int.toNat_natCast]
    refine lc_range (lo := 0) (n := S.length) (fun i H' => Same H H' ∧ H' D = some (.lst [])) ⟨same_upd nD, upd_same⟩ (fun i H' hi ⟨sm, hD⟩ => ?_) (fun H' ⟨sm, hD⟩ => ?_)
    · refine ⟨rfl, ?_⟩
      rw [Int.zero_add]
      have at_ : atI (nvs S) (i : Int) = some (.int ((S.getD i 0 : Nat) : Int)) := nvs_at hi
      refine ⟨_, rfl, _, rfl, a, _, _, _, rfl, rfl, SqT.of (sm _ _ ha), at_, _, _, rfl, .int _, _, rfl, iteF ?_⟩
      refine ⟨_, rfl, _, rfl, a, _, _, _, rfl, rfl, SqT.of (sm _ _ ha), at_, _, rfl, _, rfl, b, _, _, _, rfl, rfl, SqL.of (sm _ _ hb), at_, rfl, _, rfl, ?_⟩
      rw [dec_int, show (!(((S.getD i 0 : Nat) : Int) == ((S.getD i 0 : Nat) : Int))) = false by simp]
      exact iteF ⟨sm, hD⟩
    · refine ⟨D, _, rfl, .inl (SqL.of hD), rfl, ?_⟩
      rw [dec_int]
      exact k H' sm
end
end K0
set_option Elab.async false
set_option linter.all false
set_option maxRecDepth 100000
set_option maxHeartbeats 4000000
namespace K0
open PySem PySem.Spec PyProof.Rows L2
abbrev s_lco : Stmt := top 59
abbrev s_ldu : Stmt := top 65
abbrev s_lsa : Stmt := top 66
theorem shrI_succ {qs : List Q4} : ∀ (k : Nat) (S : List Nat), shrI qs (k + 1) S = shr qs (shrI qs k S)
  | 0, _ => rfl
  | k + 1, S => by
    rw [shrI, shrI_succ k]
    rfl
def endL (z : Q4) : List Nat := [z.1, z.2.2.2]
def midL (z : Q4) : List Nat := [z.2.1, z.2.2.1]
theorem end_has {qs : List Q4} {S : List Nat} {x : Nat} : decide (x ∈ (qs.filter (inn S)).flatMap endL) = hasE qs S x := by
  rw [Bool.eq_iff_iff, decide_eq_true_iff, List.mem_flatMap]
  unfold hasE isE endL
  rw [List.any_eq_true]
  constructor
  · rintro ⟨z, hz, hx⟩
    obtain ⟨h1, h2⟩ := List.mem_filter.mp hz
    refine ⟨z, h1, ?_⟩
    rw [h2, Bool.true_and, Bool.or_eq_true, decide_eq_true_iff, decide_eq_true_iff]
    simpa using hx
  · rintro ⟨z, hz, e⟩
    rw [Bool.and_eq_true, Bool.or_eq_true, decide_eq_true_iff, decide_eq_true_iff] at e
    exact ⟨z, List.mem_filter.mpr ⟨hz, e.1⟩, by simpa using e.2⟩
theorem mid_has {qs : List Q4} {S : List Nat} {x : Nat} : decide (x ∈ (qs.filter (inn S)).flatMap midL) = hasM qs S x := by
  rw [Bool.eq_iff_iff, decide_eq_true_iff, List.mem_flatMap]
  unfold hasM isM midL
  rw [List.any_eq_true]
  constructor
  · rintro ⟨z, hz, hx⟩
    obtain ⟨h1, h2⟩ := List.mem_filter.mp hz
    refine ⟨z, h1, ?_⟩
    rw [h2, Bool.true_and, Bool.or_eq_true, decide_eq_true_iff, decide_eq_true_iff]
    simpa using hx
  · rintro ⟨z, hz, e⟩
    rw [Bool.and_eq_true, Bool.or_eq_true, decide_eq_true_iff, decide_eq_true_iff] at e
    exact ⟨z, List.mem_filter.mpr ⟨hz, e.1⟩, by simpa using e.2⟩
theorem two_len (l : List Q4) (g : Q4 → List Nat) (h : ∀ z, (g z).length = 2) : (l.flatMap g).length = 2 * l.length := by
  induction l with
  | nil => rfl
  | cons z l ih =>
    rw [List.flatMap_cons, List.length_append, h, ih, List.length_cons]
    omega
theorem fm_snoc7 {l : List Q4} {g : Q4 → List Nat} {i : Nat} {z : Q4} (h : l[i]? = some z) : (l.take (i + 1)).flatMap g = (l.take i).flatMap g ++ g z := by
  have e : l.take (i + 1) = l.take i ++ [z] := take_at h
  rw [e, List.flatMap_append]
  simp
theorem q4_get (z : Q4) (j : Nat) (y : Nat) (e : [z.1, z.2.1, z.2.2.1, z.2.2.2][j]? = some y) : atI [V.int (z.1 : Int), .int (z.2.1 : Int), .int (z.2.2.1 : Int), .int (z.2.2.2 : Int)] (j : Int) = some (.int (y : Int)) := by
  refine atI_nat ?_
  have e9 : [V.int (z.1 : Int), .int (z.2.1 : Int), .int (z.2.2.1 : Int), .int (z.2.2.2 : Int)] = nvs [z.1, z.2.1, z.2.2.1, z.2.2.2] := rfl
  rw [e9]
  unfold nvs
  rw [List.getElem?_map, e]
  rfl
section
variable {P : Program} {w : World} {K : PySem.W.Frag} {mg : Str → Option Value} {base : Heap} {f : Addr} {fd : FuncData}
/-- _law_core -/
def spLco : Sp := fun vs H Q _ => ∃ (b : Addr) (n : Nat) (qs : List Q4), vs = [.int (n : Int), .ref b] ∧ n ≤ 9 ∧ QsH H b qs ∧ qs.length ≤ 65536 ∧ ∀ H' L, Same H H' → H L = none → H' L = some (.lst (nvs (coreOf n qs))) → Q (.ref L) H'
abbrev lcoN : List Str := ["_law_many", "_law_quads_here", "_law_left", "_law_step_here", "_law_quad", "_law_inside_here", "_law_ends", "_law_middles", "_law_x"]
theorem sc_lco : FnScope lcoN ["_law_many", "_law_quads_here"] (defScope s_lco) := ⟨rfl, rfl, rfl, by decide +kernel, rfl, by decide +kernel, by decide +kernel⟩
theorem ok_lco (F : Fun K "_law_core" "_law_core" s_lco f fd) (B : Blt2 mg) : FnOk P w K mg base (L2.CX P w) 1 f fd ["_law_many", "_law_quads_here"] spLco := by
  refine F.okX sc_lco (fun vs H Q E h => ?_) (fun cdv A outer s H vs Q E hr h => ?_)
  · obtain ⟨b, n, qs, rfl, _⟩ := h
    rfl
  · obtain ⟨b, n, qs, rfl, n9, ⟨xs, hb, hx⟩, few, k⟩ := h
    have nd := sc_lco.nd
    let ttI : TT := tTest (tOp (rIn K false) (tVar 8) (tVar 2))
    let teI : TE := tLc (iTup K (tVar 4)) (gName 8) ttI (tVar 8) [8]
    refine ⟨_, pss_cons (ps_set (i := 2) nd rfl (.inr rfl) (pe_lc (own := [("_law_x", 8)]) (g := gName 8) (tt := tYes) (te := tVar 8) rfl nd (pi_range1 (by rfl) B.range (pa_cons (pv 0) pa_nil)) (blkOk_by (N := lcoN) (sc := defScope s_lco) (by decide +kernel)) (fun _ _ _ _ _ => pg_name (i := 8) nd rfl (.inl rfl)) (fun _ _ _ _ _ => pts_nil) (fun _ _ _ _ _ => pv 8)))
      (pss_cons (ps_for (passes_of rfl) rfl (pi_range1 (by rfl) B.range (pa_cons (pv 0) pa_nil)) (pg_name (i := 3) nd rfl (.inl rfl))
        (pss_cons (ps_setLc (i := 5) (own := [("_law_quad", 4)]) (g := gName 4) (tt := tTest (tOp rEq (tCB (rLenI K) (tCons teI tNil)) (tC (.int 4)))) (te := tVar 4) rfl nd rfl (by rfl) (by rfl) (pi_list (pv 1))
          (blkOk_by (N := lcoN) (sc := defScope s_lco) (by decide +kernel)) (fun _ _ _ _ _ => pg_name (i := 4) nd rfl (.inl rfl))
          (fun _ _ _ _ _ => pts_one (pt_cmpR op_eq (pe_callB c_len (by rfl) B.len PySem.boot_len (pa_cons (pe_lc (own := [("_law_x", 8)]) (g := gName 8) (tt := ttI) (te := tVar 8) rfl nd (pi_tup (pv 4)) (blkOk_in (N := lcoN) (by decide +kernel)) (fun _ _ _ _ _ => pg_name (i := 8) nd rfl (.inl rfl)) (fun _ _ _ _ _ => pts_one (pt_cmpR op_in_seq (pv 8) (pv 2) (by rfl))) (fun _ _ _ _ _ => pv 8)) pa_nil)) pe_int (by rfl)))
          (fun _ _ _ _ _ => pv 4))
        (pss_cons (ps_set (i := 6) nd rfl (.inr rfl) (pe_lst pa_nil)) (pss_cons (ps_set (i := 7) nd rfl (.inr rfl) (pe_lst pa_nil))
        (pss_cons (ps_for (passes_of rfl) rfl (pi_list (pv 5)) (pg_name (i := 4) nd rfl (.inl rfl))
          (pss_cons (ps_set (i := 6) nd rfl (.inr rfl) (pe_op op_cat (pv 6) (pe_lst (pa_cons (pe_ix ix_tup (pv 4) pe_int (fun _ _ => rfl)) (pa_cons (pe_ix ix_tup (pv 4) pe_int (fun _ _ => rfl)) pa_nil)))))
          (pss_one (ps_set (i := 7) nd rfl (.inr rfl) (pe_op op_cat (pv 7) (pe_lst (pa_cons (pe_ix ix_tup (pv 4) pe_int (fun _ _ => rfl)) (pa_cons (pe_ix ix_tup (pv 4) pe_int (fun _ _ => rfl)) pa_nil))))))))
        (pss_one (ps_set (i := 2) nd rfl (.inr rfl) (pe_lc (own := [("_law_x", 8)]) (g := gName 8) (tt := tAnd (tTest (tOp (rIn K false) (tVar 8) (tVar 6))) (tTest (tOp (rIn K false) (tVar 8) (tVar 7)))) (te := tVar 8) rfl nd (pi_list (pv 2))
          (blkOk_by (N := lcoN) (sc := defScope s_lco) (by decide +kernel)) (fun _ _ _ _ _ => pg_name (i := 8) nd rfl (.inl rfl)) (fun _ _ _ _ _ => pts_one (PW.pt (pw_and (pt_cmpR op_in_seq (pv 8) (pv 6) (by rfl)) (pw_and1 (pt_cmpR op_in_seq (pv 8) (pv 7) (by rfl)))))) (fun _ _ _ _ _ => pv 8)))))))))
      (pss_one (ps_ret (pv 2)))), ?_⟩
    refine ⟨_, rfl, n, rfl, by omega, by omega, fun L0 nL0 => ?_⟩
    rw [Int.toNat_natCast]
    refine lc_range (lo := 0) (n := n) (fun i H' => Same H H' ∧ H' L0 = some (.lst (nvs (List.range i)))) ⟨same_upd nL0, upd_same⟩ (fun i H' hi ⟨sm, hD⟩ => ?_) (fun H1 ⟨s1, hL0⟩ => ?_)
    · refine ⟨rfl, ?_⟩
      rw [Int.zero_add]
      refine ⟨_, rfl, _, hD, by rw [nvs_len, List.length_range, sizeLine_eq]; omega, same_keep nL0 sm, ?_⟩
      rw [upd_same, List.range_succ]
      unfold nvs
      rw [List.map_append]
      rfl
    let Pv : Nat → L2.St → Hp → Prop := fun i σ H' => ∃ La o3 o4 o5 o6 o7, σ = [some (.int (n : Int)), some (.ref b), some (.ref La), o3, o4, o5, o6, o7, none] ∧ H La = none ∧ Same H H' ∧ H' La = some (.lst (nvs (shrI qs i (List.range n))))
    refine ⟨_, rfl, n, rfl, by omega, by omega, ?_⟩
    rw [Int.toNat_natCast]
    refine for_range (n := n) Pv ⟨L0, none, none, none, none, none, rfl, nL0, s1, hL0⟩ (fun i σ H2 hi h => ?_) (fun σ H2 h => ?_)
    · obtain ⟨La, o3, o4, o5, o6, o7, rfl, nLa, s2, hLa⟩ := h
      rw [Int.zero_add]
      have sub : ∀ y ∈ shrI qs i (List.range n), y < n := fun y hy => List.mem_range.mp (shrI_sub i hy)
      have upS := shrI_up (qs := qs) i (S := List.range n) List.pairwise_lt_range
      have lS : (shrI qs i (List.range n)).length ≤ 16 := by
        have := len_sub (shrI qs i (List.range n)) (List.range n) (upS.imp (fun h => by omega)) fun y hy => List.mem_range.mpr (sub y hy)
        rw [List.length_range] at this
        omega
      have eS := shrI_succ (qs := qs) i (List.range n)
      generalize shrI qs i (List.range n) = S at hLa sub lS eS
      -- inside
      refine ⟨_, rfl, b, rfl, ⟨_, SqL.of (s2 _ _ hb)⟩, fun D nD => ?_⟩
      refine lc_it (walk_list (K := K) (a := b) (xs := xs)) (fun i H' => Same H2 H' ∧ QsG H H' D ((qs.take i).filter (inn S))) ⟨same_upd nD, [], upd_same, rfl, .nil⟩ (fun i H' _ z => SqL.of (z.1 _ _ (s2 _ _ hb))) (fun i v Hx H' hi z y => ?_) (fun H3 z => ?_)
      · obtain ⟨rfl, hv⟩ := y
        obtain ⟨sm, g⟩ := z
        obtain ⟨z, c, hz, rfl, hc⟩ := q4_at hx hv
        have dz : Dt H (.ref c) (rwD (r4 z)) := .tup hc (.cons (.int _) (.cons (.int _) (.cons (.int _) (.cons (.int _) .nil))))
        have smH := s2.trans sm
        refine ⟨rfl, _, rfl, c, rfl, ⟨_, SqT.of (smH _ _ hc)⟩, fun D3 nD3 => ?_⟩
        refine lc_it (walk_tup (K := K) (a := c) (xs := nvs (q4L z))) (fun j H2' => Same H' H2' ∧ H2' D3 = some (.lst (nvs (((q4L z).take j).filter fun x => decide (x ∈ S))))) ⟨same_upd nD3, upd_same⟩ (fun j H2' _ z2 => SqT.of (z2.1 _ _ (smH _ _ hc))) (fun j v Hx2 H3 hj z2 y2 => ?_) (fun H3 z2 => ?_)
        · obtain ⟨rfl, hv2⟩ := y2
          obtain ⟨s3, hD3⟩ := z2
          obtain ⟨x, hx2, rfl⟩ := nvs_val hv2
          refine ⟨rfl, _, rfl, _, rfl, La, _, rfl, .inl (SqL.of (s3 _ _ (sm _ _ hLa))), rfl, flat7 _, _, rfl, ?_⟩
          rw [if_neg Bool.false_ne_true, inV7]
          cases e7 : decide (x ∈ S) with
          | true =>
            refine iteT ⟨_, rfl, _, hD3, ?_, same_keep nD3 s3, ?_⟩
            · rw [nvs_len, sizeLine_eq]
              have h7 := List.length_filter_le (fun x => decide (x ∈ S)) ((q4L z).take j)
              have h8 : (q4L z).length = 4 := rfl
              rw [List.length_take] at h7
              omega
            · rw [upd_same, snocF hx2, if_pos e7]
              unfold nvs
              rw [List.map_append]
              rfl
          | false =>
            refine iteF ⟨s3, ?_⟩
            rw [snocF hx2, if_neg (by rw [e7]; exact Bool.false_ne_true), List.append_nil]
            exact hD3
        · obtain ⟨s3, hD3⟩ := z2
          rw [nvs_len, List.take_length] at hD3
          refine ⟨D3, _, rfl, .inl (SqL.of hD3), rfl, _, rfl, ?_⟩
          rw [dec_int, nvs_len, inn_all]
          have g2 := g.mono s3
          cases e8 : inn S z with
          | true =>
            obtain ⟨ys, h9, l9, g9⟩ := g2.push (b := c) dz
            refine iteT ⟨_, rfl, ys, h9, ?_, same_keep nD (sm.trans s3), ?_⟩
            · rw [l9, sizeLine_eq]
              have h7 := List.length_filter_le (inn S) (qs.take i)
              rw [List.length_take] at h7
              omega
            · rw [snocF hz, if_pos e8]
              exact g9
          | false =>
            refine iteF ⟨sm.trans s3, ?_⟩
            rw [snocF hz, if_neg (by rw [e8]; exact Bool.false_ne_true), List.append_nil]
            exact g2
      obtain ⟨s3, ys, hD, lD, dD⟩ := z
      rw [QsH.len hx, List.take_length] at dD
      have s03 := s2.trans s3
      have dD3 := dD.mono s03
      have hLa3 := s3 _ _ hLa
      have fI : (qs.filter (inn S)).length ≤ 65536 := Nat.le_trans (List.length_filter_le _ _) few
      -- ends, middles
      refine ⟨by show 0 ≤ sizeLine; decide, fun E0 nE0 => ⟨by show 0 ≤ sizeLine; decide, fun M0 nM0 => ?_⟩⟩
      have v1 := same_upd (o := .lst []) nE0
      have v2 := v1.trans (same_upd (o := .lst []) nM0)
      have hE0 : (upd (upd H3 E0 (.lst [])) M0 (.lst [])) E0 = some (.lst []) := (same_upd nM0) _ _ upd_same
      have hM0 : (upd (upd H3 E0 (.lst [])) M0 (.lst [])) M0 = some (.lst []) := upd_same
      generalize upd (upd H3 E0 (.lst [])) M0 (.lst []) = H4 at v2 hE0 hM0 ⊢
      let P2 : Nat → L2.St → Hp → Prop := fun j σ H' => ∃ Ea Ma o4, σ = [some (.int (n : Int)), some (.ref b), some (.ref La), some (.int (i : Int)), o4, some (.ref D), some (.ref Ea), some (.ref Ma), none] ∧ Same H4 H' ∧ H' Ea = some (.lst (nvs (((qs.filter (inn S)).take j).flatMap endL))) ∧ H' Ma = some (.lst (nvs (((qs.filter (inn S)).take j).flatMap midL)))
      refine ⟨_, rfl, D, rfl, ⟨_, SqL.of (v2 _ _ hD)⟩, for_it (walk_list (K := K) (a := D) (xs := ys)) P2 ⟨E0, M0, o4, rfl, .refl _, hE0, hM0⟩ (fun j σ H' _ h => ?_) (fun j v σ Hx H5 hj h y => ?_) (fun σ H5 h => ?_)⟩
      · obtain ⟨_, _, _, _, sm, _⟩ := h
        exact SqL.of (sm _ _ (v2 _ _ hD))
      · obtain ⟨Ea, Ma, o4, rfl, sm, hEa, hMa⟩ := h
        obtain ⟨rfl, hv⟩ := y
        obtain ⟨z, c, hz, rfl, hc⟩ := q4_at (dD3.mono (v2.trans sm)) hv
        have lE : (((qs.filter (inn S)).take j).flatMap endL).length ≤ 131072 := by
          rw [two_len _ _ (fun _ => rfl), List.length_take]
          omega
        have lM : (((qs.filter (inn S)).take j).flatMap midL).length ≤ 131072 := by
          rw [two_len _ _ (fun _ => rfl), List.length_take]
          omega
        refine ⟨_, rfl, _, rfl, c, _, 0, .int (z.1 : Int), rfl, rfl, SqT.of hc, q4_get z 0 _ rfl, _, rfl, c, _, 3, .int (z.2.2.2 : Int), rfl, rfl, SqT.of hc, q4_get z 3 _ rfl, by show 2 ≤ sizeLine; decide, fun u1 w1 => ?_⟩
        have x1 := same_upd (o := .lst [.int (z.1 : Int), .int (z.2.2.2 : Int)]) w1
        refine ⟨Ea, u1, _, _, rfl, rfl, x1 _ _ hEa, upd_same, by rw [nvs_len, sizeLine_eq]; show _ + 2 ≤ _; omega, fun E1 nE1 => ?_⟩
        have x2 := x1.trans (same_upd (o := .lst (nvs (((qs.filter (inn S)).take j).flatMap endL) ++ [.int (z.1 : Int), .int (z.2.2.2 : Int)])) nE1)
        have hE1 : (upd (upd H5 u1 (.lst [.int (z.1 : Int), .int (z.2.2.2 : Int)])) E1 (.lst (nvs (((qs.filter (inn S)).take j).flatMap endL) ++ [.int (z.1 : Int), .int (z.2.2.2 : Int)]))) E1 = some (.lst (nvs (((qs.filter (inn S)).take (j + 1)).flatMap endL))) := by
          rw [upd_same, fm_snoc7 hz]
          unfold nvs
          rw [List.map_append]
          rfl
        generalize upd (upd H5 u1 (.lst [.int (z.1 : Int), .int (z.2.2.2 : Int)])) E1 (.lst (nvs (((qs.filter (inn S)).take j).flatMap endL) ++ [.int (z.1 : Int), .int (z.2.2.2 : Int)])) = H6 at x2 hE1 ⊢
        have hc6 := x2 _ _ hc
        refine ⟨_, rfl, _, rfl, c, _, 1, .int (z.2.1 : Int), rfl, rfl, SqT.of hc6, q4_get z 1 _ rfl, _, rfl, c, _, 2, .int (z.2.2.1 : Int), rfl, rfl, SqT.of hc6, q4_get z 2 _ rfl, by show 2 ≤ sizeLine; decide, fun u2 w2 => ?_⟩
        have y1 := same_upd (o := .lst [.int (z.2.1 : Int), .int (z.2.2.1 : Int)]) w2
        refine ⟨Ma, u2, _, _, rfl, rfl, y1 _ _ (x2 _ _ hMa), upd_same, by rw [nvs_len, sizeLine_eq]; show _ + 2 ≤ _; omega, fun M1 nM1 => ?_⟩
        have y2 := y1.trans (same_upd (o := .lst (nvs (((qs.filter (inn S)).take j).flatMap midL) ++ [.int (z.2.1 : Int), .int (z.2.2.1 : Int)])) nM1)
        refine ⟨E1, M1, _, rfl, sm.trans (x2.trans y2), y2 _ _ hE1, ?_⟩
        rw [upd_same, fm_snoc7 hz]
        unfold nvs
        rw [List.map_append]
        rfl
      · obtain ⟨Ea, Ma, o4', rfl, sm, hEa, hMa⟩ := h
        rw [lD, QsH.len hx, List.take_length, List.take_length] at hEa hMa
        have s45 := s03.trans (v2.trans sm)
        have hLa5 := (v2.trans sm) _ _ hLa3
        -- the next left
        refine ⟨_, rfl, La, rfl, ⟨_, SqL.of hLa5⟩, fun G nG => ?_⟩
        refine lc_it (walk_list (K := K) (a := La) (xs := nvs S)) (fun j H' => Same H5 H' ∧ H' G = some (.lst (nvs ((S.take j).filter fun x => hasE qs S x && hasM qs S x)))) ⟨same_upd nG, upd_same⟩ (fun j H' _ z => SqL.of (z.1 _ _ hLa5)) (fun j v Hx H' hj z y => ?_) (fun H6 z => ?_)
        · obtain ⟨rfl, hv⟩ := y
          obtain ⟨s6, hG⟩ := z
          obtain ⟨x, hx2, rfl⟩ := nvs_val hv
          refine ⟨rfl, _, rfl, _, rfl, Ea, _, rfl, .inl (SqL.of (s6 _ _ hEa)), rfl, flat7 _, _, rfl, ?_⟩
          rw [if_neg Bool.false_ne_true, inV7, end_has]
          cases e1 : hasE qs S x with
          | false =>
            refine iteF (iteF ⟨s6, ?_⟩)
            rw [snocF hx2, if_neg (by rw [e1]; exact Bool.false_ne_true), List.append_nil]
            exact hG
          | true =>
            refine iteT ⟨_, rfl, _, rfl, Ma, _, rfl, .inl (SqL.of (s6 _ _ hMa)), rfl, flat7 _, _, rfl, ?_⟩
            rw [if_neg Bool.false_ne_true, inV7, mid_has]
            cases e2 : hasM qs S x with
            | false =>
              refine iteF ⟨s6, ?_⟩
              rw [snocF hx2, if_neg (by rw [e1, e2]; exact Bool.false_ne_true), List.append_nil]
              exact hG
            | true =>
              refine iteT ⟨_, rfl, _, hG, ?_, same_keep nG s6, ?_⟩
              · rw [nvs_len, sizeLine_eq]
                have h7 := List.length_filter_le (fun x => hasE qs S x && hasM qs S x) (S.take j)
                rw [List.length_take] at h7
                omega
              · rw [upd_same, snocF hx2, if_pos (by rw [e1, e2]; rfl)]
                unfold nvs
                rw [List.map_append]
                rfl
        · obtain ⟨s6, hG⟩ := z
          rw [nvs_len, List.take_length] at hG
          exact ⟨G, _, _, _, _, _, rfl, s45.free nG, s45.trans s6, by rw [eS]; exact hG⟩
    · obtain ⟨La, o3, o4, o5, o6, o7, rfl, nLa, s2, hLa⟩ := h
      exact ⟨_, rfl, k H2 La s2 nLa hLa⟩
end
end K0
set_option Elab.async false
set_option linter.all false
set_option maxRecDepth 100000
set_option maxHeartbeats 4000000
namespace K0
open PySem PySem.Spec PyProof.Rows L2
/-- a new list of two things told -/
def TwoL (k : Str) (v : V) (H : Hp) (Q : VK) : Prop := ∀ H' t, Same H H' → H' t = some (.lst [.str k, v]) → Q (.ref t) H'
theorem TwoL.mk {k : Str} {v : V} {H : Hp} {Q : VK} (h : TwoL k v H Q) {H1 : Hp} (s : Same H H1) : ∀ t, H1 t = none → Q (.ref t) (upd H1 t (.lst [.str k, v])) := fun t nt => h _ t (s.trans (same_upd nt)) upd_same
theorem scal_flat {v : V} (h : flatV v = true) (x : Str) : scal v (.str x) = true := by
  cases v <;> first | rfl | cases h
theorem pick_T {e m : Bool} {v : V} (h : e = false) (g : v ≠ .str "back") : pick e m v = some true := by
  unfold pick
  rw [if_pos ⟨h, g⟩]
theorem pick_F {e m : Bool} {v : V} (no : ¬ (e = false ∧ v ≠ .str "back")) (h : m = false) (g : v ≠ .str "front") : pick e m v = some false := by
  unfold pick
  rw [if_neg no, if_pos ⟨h, g⟩]
theorem pick_N {e m : Bool} {v : V} (no : ¬ (e = false ∧ v ≠ .str "back")) (no2 : ¬ (m = false ∧ v ≠ .str "front")) : pick e m v = none := by
  unfold pick
  rw [if_neg no, if_neg no2]
/-- pairs taken, in a list -/
def PrH (H : Hp) (c : Addr) (pr : List Pq) : Prop := ∃ l : List (Addr × Pq), H c = some (.lst (l.map fun z => V.ref z.1)) ∧ l.map (·.2) = pr ∧ ∀ z ∈ l, H z.1 = some (.tup [.int (z.2.1 : Int), .str (sideS z.2.2)])
theorem PrH.mono {H H' : Hp} {c : Addr} {pr : List Pq} (s : Same H H') : PrH H c pr → PrH H' c pr := fun ⟨l, h, e, p⟩ => ⟨l, s _ _ h, e, fun z hz => s _ _ (p z hz)⟩
def pqD (z : Pq) : PyData := .tuple [.int (z.1 : Int), .str (sideS z.2)]
def pqsD (pr : List Pq) : PyData := .tuple (pr.map pqD)
theorem pqs_lay : ∀ pr : List Pq, PyData.canLayAll0 (pr.map pqD) = true
  | [] => by simp [PyData.canLayAll0]
  | z :: l => by
    have h : PyData.strOk (sideS z.2) = true := by
      cases z.2 <;> decide +kernel
    rw [List.map_cons]
    unfold pqD
    simp only [PyData.canLayAll0, PyData.canLay0, h]
    have := pqs_lay l
    unfold pqD at this
    rw [this]
    rfl
theorem pqs_dep : ∀ pr : List Pq, PyData.depthAll (pr.map pqD) ≤ 1
  | [] => by simp [PyData.depthAll]
  | z :: l => by
    rw [List.map_cons]
    have := pqs_dep l
    unfold pqD at this ⊢
    simp only [PyData.depthAll, PyData.depth] at this ⊢
    omega
theorem pqsD_lay (pr : List Pq) : PyData.canLay0 (pqsD pr) = true := by
  unfold pqsD
  simp only [PyData.canLay0, pqs_lay]
theorem pqsD_shaped (pr : List Pq) : SeqAt.shaped (pqsD pr) = true := by
  unfold SeqAt.shaped
  rw [Bool.and_eq_true, decide_eq_true_iff]
  refine ⟨pqsD_lay pr, ?_⟩
  unfold pqsD
  simp only [PyData.depth]
  have := pqs_dep pr
  omega
theorem pqs_dt {H : Hp} : ∀ {l : List (Addr × Pq)}, (∀ z ∈ l, H z.1 = some (.tup [.int (z.2.1 : Int), .str (sideS z.2.2)])) → DtAll H (l.map fun z => V.ref z.1) ((l.map (·.2)).map pqD)
  | [], _ => .nil
  | z :: l, h => .cons (.tup (h z List.mem_cons_self) (.cons (.int _) (.cons (.str _) .nil))) (pqs_dt fun y hy => h y (List.mem_cons_of_mem _ hy))
theorem pq_fronts {l : List (Addr × Pq)} {i : Nat} {z : Addr × Pq} (h : l[i]? = some z) : fronts ((l.map (·.2)).take (i + 1)) = fronts ((l.map (·.2)).take i) ++ if z.2.2 = true then [z.2.1] else [] := by
  have e : (l.map (·.2)).take (i + 1) = (l.map (·.2)).take i ++ [z.2] := take_at (by rw [List.getElem?_map, h]; rfl)
  rw [e]
  exact fronts_snoc _ z.2.1 z.2.2
theorem pq_backs {l : List (Addr × Pq)} {i : Nat} {z : Addr × Pq} (h : l[i]? = some z) : backs ((l.map (·.2)).take (i + 1)) = backs ((l.map (·.2)).take i) ++ if z.2.2 = true then [] else [z.2.1] := by
  have e : (l.map (·.2)).take (i + 1) = (l.map (·.2)).take i ++ [z.2] := take_at (by rw [List.getElem?_map, h]; rfl)
  rw [e]
  exact backs_snoc _ z.2.1 z.2.2
section
variable {P : Program} {w : World} {K : PySem.W.Frag} {mg : Str → Option Value} {base : Heap} {f : Addr} {fd : FuncData}
/-- _law_due -/
def spDue (K : PySem.W.Frag) : Sp := fun vs H Q _ => ∃ (b a : Addr) (v sv : V) (d : PyData) (S : List Nat) (qs : List Q4), vs = [.ref b, .ref a, v, sv] ∧ QsH H b qs ∧ qs.length ≤ 65536 ∧ H a = some (.lst (nvs S)) ∧ Dt H v d ∧ flatV v = true ∧ flatV sv = true ∧
  (((isI d = false ∨ ∃ i : Int, v = .int i ∧ d = .int i ∧ ∀ x ∈ S, (x : Int) ≠ i) ∧ TwoL "thing" v H Q) ∨
  ∃ x ∈ S, v = .int (x : Int) ∧ d = .int (x : Int) ∧ ((¬ SdOk sv ∧ TwoL "number" (.str "side") H Q) ∨
    (SdOk sv ∧ (∀ y, pick (hasE qs S x) (hasM qs S x) sv = some y → TwoL "laid" (.str (sideS y)) H Q) ∧ (pick (hasE qs S x) (hasM qs S x) sv = none → TwoL "none" (.str "take") H Q))))
abbrev dueN : List Str := ["_law_quads_here", "_law_left", "_law_thing", "_law_side"]
theorem sc_due : FnScope dueN dueN (defScope s_ldu) := ⟨rfl, rfl, rfl, by decide +kernel, rfl, by decide +kernel, by decide +kernel⟩
theorem ok_due (F : Fun K "_law_due" "_law_due" s_ldu f fd) (LI' : Df P w K mg base "_law_int" 1 ["_law_value"] spInt) (LE : Df P w K mg base "_law_no_end" 2 ["_law_quads_here", "_law_left", "_law_x"] (spLn7 hasE)) (LM : Df P w K mg base "_law_no_middle" 2 ["_law_quads_here", "_law_left", "_law_x"] (spLn7 hasM)) : FnOk P w K mg base (L2.CX P w) 3 f fd ["_law_quads_here", "_law_left", "_law_thing", "_law_side"] (spDue K) := by
  refine F.okX sc_due (fun vs H Q E h => ?_) (fun cdv A outer s H vs Q E hr h => ?_)
  · obtain ⟨b, a, v, sv, d, S, qs, rfl, _⟩ := h
    rfl
  · obtain ⟨b, a, v, sv, d, S, qs, rfl, hq, few, ha, hv, fv, fsv, h⟩ := h
    have r1 : Room 1 _ := hr.mono (by decide)
    refine ⟨_, pss_cons (ps_if (PW.pt (pw_or (pt_not (pt_val (pe_df LI' r1 (by rfl) passUp (pa_cons (pv 2) pa_nil)))) (pw_or1 (pt_cmpR op_notIn_seq (pv 2) (pv 1) (by rfl))))) (pss_one (ps_ret (pe_lst (pa_cons pe_str (pa_cons (pv 2) pa_nil))))) pss_nil)
      (pss_cons (ps_if (PW.pt (pw_and (pt_cmpR op_notN (pv 3) pe_non (nomark _)) (pw_and (pt_cmpR op_ne (pv 3) pe_str (nomark _)) (pw_and1 (pt_cmpR op_ne (pv 3) pe_str (nomark _)))))) (pss_one (ps_ret (pe_lst (pa_cons pe_str (pa_cons pe_str pa_nil))))) pss_nil)
      (pss_cons (ps_if (PW.pt (pw_and (pt_val (pe_df LE hr (by rfl) passUp (pa_cons (pv 0) (pa_cons (pv 1) (pa_cons (pv 2) pa_nil))))) (pw_and1 (pt_cmpR op_ne (pv 3) pe_str (nomark _))))) (pss_one (ps_ret (pe_lst (pa_cons pe_str (pa_cons pe_str pa_nil))))) pss_nil)
      (pss_cons (ps_if (PW.pt (pw_and (pt_val (pe_df LM hr (by rfl) passUp (pa_cons (pv 0) (pa_cons (pv 1) (pa_cons (pv 2) pa_nil))))) (pw_and1 (pt_cmpR op_ne (pv 3) pe_str (nomark _))))) (pss_one (ps_ret (pe_lst (pa_cons pe_str (pa_cons pe_str pa_nil))))) pss_nil)
      (pss_one (ps_ret (pe_lst (pa_cons pe_str (pa_cons pe_str pa_nil)))))))), ?_⟩
    refine ⟨_, rfl, v, d, rfl, hv, _, rfl, ?_⟩
    rcases h with ⟨bad, k⟩ | ⟨x, xl, rfl, rfl, h⟩
    · rcases bad with bad | ⟨i, rfl, rfl, no⟩
      · rw [bad]
        refine iteT ⟨_, rfl, ?_⟩
        exact ⟨by show 2 ≤ sizeLine; decide, k.mk (.refl _)⟩
      · refine iteF ⟨_, rfl, _, rfl, a, _, rfl, .inl (SqL.of ha), rfl, flat7 _, _, rfl, ?_⟩
        have e7 : inV (.int i) (nvs S) = false := by
          cases e : inV (.int i) (nvs S) with
          | false => rfl
          | true =>
            unfold inV nvs at e
            rw [List.any_map, List.any_eq_true] at e
            obtain ⟨y, hy, e⟩ := e
            have e : ((y : Int) == i) = true := e
            exact absurd (beq_iff_eq.mp e) (no y hy)
        rw [if_pos rfl, e7]
        refine iteT ⟨_, rfl, ?_⟩
        exact ⟨by show 2 ≤ sizeLine; decide, k.mk (.refl _)⟩
    · refine iteF ⟨_, rfl, _, rfl, a, _, rfl, .inl (SqL.of ha), rfl, flat7 _, _, rfl, ?_⟩
      rw [if_pos rfl, inV7, decide_eq_true xl]
      refine iteF ?_
      -- the side
      have sF := scal_flat fsv "front"
      have sB := scal_flat fsv "back"
      refine ⟨_, rfl, rfl, _, rfl, ?_⟩
      have good : SdOk sv → tSeq (tIfS (tAnd (tB (tCall (spLn7 hasE) [] E (tCons (tVar 0) (tCons (tVar 1) (tCons (tVar 2) tNil))))) (tTest (tOp rNe (tVar 3) (tC (.str "back"))))) (tRet (tLst (tCons (tC (.str "laid")) (tCons (tC (.str "front")) tNil)))) tNext)
          (tSeq (tIfS (tAnd (tB (tCall (spLn7 hasM) [] E (tCons (tVar 0) (tCons (tVar 1) (tCons (tVar 2) tNil))))) (tTest (tOp rNe (tVar 3) (tC (.str "front"))))) (tRet (tLst (tCons (tC (.str "laid")) (tCons (tC (.str "back")) tNil)))) tNext)
          (tRet (tLst (tCons (tC (.str "none")) (tCons (tC (.str "take")) tNil))))) { nx := fun x H' => Q V.non H', rt := Q } [some (V.ref b), some (.ref a), some (.int (x : Int)), some sv] H := fun sd => by
        rcases h with ⟨no, _⟩ | ⟨_, k1, k2⟩
        · exact absurd sd no
        refine ⟨_, rfl, _, rfl, _, rfl, b, a, x, S, qs, rfl, hq, few, ha, fun H1 s1 => ⟨_, rfl, ?_⟩⟩
        have second : ∀ G, Same H G → ¬ (hasE qs S x = false ∧ sv ≠ .str "back") → tSeq (tIfS (tAnd (tB (tCall (spLn7 hasM) [] E (tCons (tVar 0) (tCons (tVar 1) (tCons (tVar 2) tNil))))) (tTest (tOp rNe (tVar 3) (tC (.str "front"))))) (tRet (tLst (tCons (tC (.str "laid")) (tCons (tC (.str "back")) tNil)))) tNext)
            (tRet (tLst (tCons (tC (.str "none")) (tCons (tC (.str "take")) tNil)))) { nx := fun x H' => Q V.non H', rt := Q } [some (V.ref b), some (.ref a), some (.int (x : Int)), some sv] G := fun G sG no => by
          refine ⟨_, rfl, _, rfl, _, rfl, b, a, x, S, qs, rfl, hq.mono sG, few, sG _ _ ha, fun H2 s2 => ⟨_, rfl, ?_⟩⟩
          have s12 := sG.trans s2
          cases eM : hasM qs S x with
          | true =>
            refine iteF ⟨by show 2 ≤ sizeLine; decide, (k2 (pick_N no (by rw [eM]; exact fun h => nomatch h.1))).mk s12⟩
          | false =>
            refine iteT ⟨_, rfl, sF, _, rfl, ?_⟩
            by_cases c : sv = .str "front"
            · rw [show (!decide (sv = V.str "front")) = false by rw [decide_eq_true c]; rfl]
              refine iteF ⟨by show 2 ≤ sizeLine; decide, (k2 (pick_N no (fun h => h.2 c))).mk s12⟩
            · rw [show (!decide (sv = V.str "front")) = true by rw [decide_eq_false c]; rfl]
              refine iteT ⟨by show 2 ≤ sizeLine; decide, (k1 false (pick_F no eM c)).mk s12⟩
        cases eE : hasE qs S x with
        | true => exact iteF (second H1 s1 (by rw [eE]; exact fun h => nomatch h.1))
        | false =>
          refine iteT ⟨_, rfl, sB, _, rfl, ?_⟩
          by_cases c : sv = .str "back"
          · rw [show (!decide (sv = V.str "back")) = false by rw [decide_eq_true c]; rfl]
            exact iteF (second H1 s1 fun h => h.2 c)
          · rw [show (!decide (sv = V.str "back")) = true by rw [decide_eq_false c]; rfl]
            refine iteT ⟨by show 2 ≤ sizeLine; decide, (k1 true (pick_T eE c)).mk s1⟩
      by_cases c0 : sv = .non
      · rw [show (!decide (sv = V.non)) = false by rw [decide_eq_true c0]; rfl]
        exact iteF (good (.inl c0))
      · rw [show (!decide (sv = V.non)) = true by rw [decide_eq_false c0]; rfl]
        refine iteT ⟨_, rfl, sF, _, rfl, ?_⟩
        by_cases c1 : sv = .str "front"
        · rw [show (!decide (sv = V.str "front")) = false by rw [decide_eq_true c1]; rfl]
          exact iteF (good (.inr (.inl c1)))
        · rw [show (!decide (sv = V.str "front")) = true by rw [decide_eq_false c1]; rfl]
          refine iteT ⟨_, rfl, sB, _, rfl, ?_⟩
          by_cases c2 : sv = .str "back"
          · rw [show (!decide (sv = V.str "back")) = false by rw [decide_eq_true c2]; rfl]
            exact iteF (good (.inr (.inr c2)))
          · rw [show (!decide (sv = V.str "back")) = true by rw [decide_eq_false c2]; rfl]
            rcases h with ⟨no, k⟩ | ⟨sd, _⟩
            · refine iteT ⟨by show 2 ≤ sizeLine; decide, k.mk (.refl _)⟩
            · rcases sd with e | e | e
              · exact absurd e c0
              · exact absurd e c1
              · exact absurd e c2
/-- _law_state -/
def spSta (C D : Addr) : Sp := fun vs H Q _ => ∃ (t a c p : Addr) (n : Nat) (q : List Pr) (pr : List Pq), vs = [.ref t, .ref a, .ref c] ∧ TkW C D H t p n q pr ∧ H a = some (.lst (nvs (left n pr))) ∧ PrH H c pr ∧ Ret (.bl true) H Q
abbrev staN : List Str := ["_law_taking", "_law_left", "_law_pairs", "_law_front", "_law_back", "_law_pair"]
theorem sc_sta : FnScope staN ["_law_taking", "_law_left", "_law_pairs"] (defScope s_lsa) := ⟨rfl, rfl, rfl, by decide +kernel, rfl, by decide +kernel, by decide +kernel⟩
theorem ok_sta {C D : Addr} (F : Fun K "_law_state" "_law_state" s_lsa f fd) (B : Blt2 mg) (T : TakC K D) (TL : PrT P w K mg base D "things_left" 1 (spTL C D)) (TR : PrT P w K mg base D "takes_row" 1 (spTR D)) (SR : Df P w K mg base "_law_same_row" 2 ["_law_told_here", "_law_due_here"] spLsr) : FnOk P w K mg base (L2.CX P w) 3 f fd ["_law_taking", "_law_left", "_law_pairs"] (spSta C D) := by
  refine F.okX sc_sta (fun vs H Q E h => ?_) (fun cdv A outer s H vs Q E hr h => ?_)
  · obtain ⟨t, a, c, p, n, q, pr, rfl, _⟩ := h
    rfl
  · obtain ⟨t, a, c, p, n, q, pr, rfl, TK, ha, ⟨l, hc, rfl, hz⟩, k⟩ := h
    obtain ⟨few, ⟨dx, fa, ba, ka, l2, h1, h2, h3, h4, h5, h6⟩, _, n9⟩ := id TK
    have nd := sc_sta.nd
    have r2 : Room 2 _ := hr.mono (by decide)
    have hu : (A.deeper (envOfC "_law_state" (defScope s_lsa) s.heap.objs.size f cdv)).units + 64 < cLine := by have := hr.un; omega
    refine' ⟨_, pss_cons ?h1 (pss_cons ?h2 (pss_cons ?h3 (pss_one ?h4))), ?hz⟩
    case h1 => exact (ps_setLc (i := 3) (own := [("_law_pair", 5)]) (g := gName 5) (tt := tTest (tOp rEq (tOp (rIxT K) (tVar 5) (tC (.int 1))) (tC (.str "front")))) (te := tOp (rIxT K) (tVar 5) (tC (.int 0))) rfl nd rfl (by rfl) (by rfl) (pi_list (pv 2))
        (blkOk_by (N := staN) (sc := defScope s_lsa) (by decide +kernel)) (fun _ _ _ _ _ => pg_name (i := 5) nd rfl (.inl rfl)) (fun _ _ _ _ _ => pts_one (pt_cmpR op_eq (pe_ix ix_tup (pv 5) pe_int (fun _ _ => rfl)) pe_str (by rfl))) (fun _ _ _ _ _ => pe_ix ix_tup (pv 5) pe_int (fun _ _ => rfl)))
    case h2 => exact (ps_setLc (i := 4) (own := [("_law_pair", 5)]) (g := gName 5) (tt := tTest (tOp rEq (tOp (rIxT K) (tVar 5) (tC (.int 1))) (tC (.str "back")))) (te := tOp (rIxT K) (tVar 5) (tC (.int 0))) rfl nd rfl (by rfl) (by rfl) (pi_list (pv 2))
        (blkOk_by (N := staN) (sc := defScope s_lsa) (by decide +kernel)) (fun _ _ _ _ _ => pg_name (i := 5) nd rfl (.inl rfl)) (fun _ _ _ _ _ => pts_one (pt_cmpR op_eq (pe_ix ix_tup (pv 5) pe_int (fun _ _ => rfl)) pe_str (by rfl))) (fun _ _ _ _ _ => pe_ix ix_tup (pv 5) pe_int (fun _ _ => rfl)))
    case h3 => exact ps_if (PW.pt (pw_or (pt_not (pt_val (pe_df SR hr (by rfl) passUp (pa_cons (pe_prT TL r2 (pv 0) rfl) (pa_cons (pv 1) pa_nil))))) (pw_or1 (pt_not (pt_val (pe_df SR hr (by rfl) passUp (pa_cons (pe_fld (pv 0) rfl) (pa_cons (pv 3) pa_nil)))))))) (pss_one (ps_ret pe_bl)) pss_nil
    case h4 => exact ps_ret (pe_and (pe_df SR hr (by rfl) passUp (pa_cons (pe_fld (pv 0) rfl) (pa_cons (pv 4) pa_nil))) (pe_and (pe_callB call_isi (by rfl) B.isi (by decide +kernel) (pa_cons (pe_prT TR r2 (pv 0) rfl) (pa_cons (pe_bltn (v := .ty "tuple") (by rfl) B.tuple (by decide +kernel) rfl) pa_nil))) (pe_one (pe_cmpR (op_eqD hu) (pe_prT TR r2 (pv 0) rfl) (pe_callTy call_tuple_of (by rfl) B.tuple (by decide +kernel) (pa_cons (pv 2) pa_nil)) (by rfl)))))
    case hz =>
    have ll : l.length ≤ 1000 := by rw [List.length_map] at few; exact few
    have at1 : ∀ (y : V) (z : V), atI [y, z] 1 = some z := fun y z => by
      have e : atI [y, z] ((1 : Nat) : Int) = some z := atI_nat rfl
      exact e
    have at0 : ∀ (y : V) (z : V), atI [y, z] 0 = some y := fun y z => by
      have e : atI [y, z] ((0 : Nat) : Int) = some y := atI_nat rfl
      exact e
    -- front
    refine ⟨_, rfl, c, rfl, ⟨_, SqL.of hc⟩, fun D1 nD1 => ?_⟩
    refine lc_it (walk_list (K := K) (a := c) (xs := l.map fun z => V.ref z.1)) (fun i H' => Same H H' ∧ H' D1 = some (.lst (nvs (fronts ((l.map (·.2)).take i))))) ⟨same_upd nD1, upd_same⟩ (fun i H' _ z => SqL.of (z.1 _ _ hc)) (fun i v Hx H' hi z y => ?_) (fun H1 z => ?_)
    · obtain ⟨rfl, hv⟩ := y
      obtain ⟨sm, hD⟩ := z
      rw [List.length_map] at hi
      have hli : l[i]? = some l[i] := List.getElem?_eq_getElem hi
      rw [List.getElem?_map, hli] at hv
      cases hv
      have hzz := sm _ _ (hz _ (List.getElem_mem hi))
      have fl := pq_fronts hli
      have lf : (fronts ((l.map (·.2)).take i)).length ≤ 1000 := by
        have h8 := fb_len (pr := (l.map (·.2)).take i)
        rw [List.length_take, List.length_map] at h8
        omega
      generalize l[i] = z at hzz fl
      obtain ⟨za, x, b⟩ := z
      refine ⟨rfl, _, rfl, za, _, 1, .str (sideS b), rfl, rfl, SqT.of hzz, at1 _ _, rfl, _, rfl, ?_⟩
      cases b with
      | true =>
        rw [show decide (V.str (sideS true) = V.str "front") = true from by decide +kernel]
        refine iteT ⟨_, rfl, za, _, 0, _, rfl, rfl, SqT.of hzz, at0 _ _, _, hD, by rw [nvs_len, sizeLine_eq]; omega, same_keep nD1 sm, ?_⟩
        rw [upd_same, fl]
        unfold nvs
        rw [List.map_append]
        rfl
      | false =>
        rw [show decide (V.str (sideS false) = V.str "front") = false from by decide +kernel]
        refine iteF ⟨sm, ?_⟩
        rw [fl]
        show H' D1 = some (.lst (nvs (_ ++ [])))
        rw [List.append_nil]
        exact hD
    obtain ⟨s1, hD1⟩ := z
    rw [List.length_map, List.take_of_length_le (by rw [List.length_map]; exact Nat.le_refl _)] at hD1
    -- back
    refine ⟨_, rfl, c, rfl, ⟨_, SqL.of (s1 _ _ hc)⟩, fun D2 nD2 => ?_⟩
    refine lc_it (walk_list (K := K) (a := c) (xs := l.map fun z => V.ref z.1)) (fun i H' => Same H1 H' ∧ H' D2 = some (.lst (nvs (backs ((l.map (·.2)).take i))))) ⟨same_upd nD2, upd_same⟩ (fun i H' _ z => SqL.of (z.1 _ _ (s1 _ _ hc))) (fun i v Hx H' hi z y => ?_) (fun H2 z => ?_)
    · obtain ⟨rfl, hv⟩ := y
      obtain ⟨sm, hD⟩ := z
      rw [List.length_map] at hi
      have hli : l[i]? = some l[i] := List.getElem?_eq_getElem hi
      rw [List.getElem?_map, hli] at hv
      cases hv
      have hzz := sm _ _ (s1 _ _ (hz _ (List.getElem_mem hi)))
      have fl := pq_backs hli
      have lf : (backs ((l.map (·.2)).take i)).length ≤ 1000 := by
        have h8 := fb_len (pr := (l.map (·.2)).take i)
        rw [List.length_take, List.length_map] at h8
        omega
      generalize l[i] = z at hzz fl
      obtain ⟨za, x, b⟩ := z
      refine ⟨rfl, _, rfl, za, _, 1, .str (sideS b), rfl, rfl, SqT.of hzz, at1 _ _, rfl, _, rfl, ?_⟩
      cases b with
      | false =>
        rw [show decide (V.str (sideS false) = V.str "back") = true from by decide +kernel]
        refine iteT ⟨_, rfl, za, _, 0, _, rfl, rfl, SqT.of hzz, at0 _ _, _, hD, by rw [nvs_len, sizeLine_eq]; omega, same_keep nD2 sm, ?_⟩
        rw [upd_same, fl]
        unfold nvs
        rw [List.map_append]
        rfl
      | true =>
        rw [show decide (V.str (sideS true) = V.str "back") = false from by decide +kernel]
        refine iteF ⟨sm, ?_⟩
        rw [fl]
        show H' D2 = some (.lst (nvs (_ ++ [])))
        rw [List.append_nil]
        exact hD
    obtain ⟨s2, hD2⟩ := z
    rw [List.length_map, List.take_of_length_le (by rw [List.length_map]; exact Nat.le_refl _)] at hD2
    have s12 := s1.trans s2
    have lfb := fb_len (pr := l.map (·.2))
    rw [List.length_map] at lfb
    -- what is told
    refine ⟨_, rfl, t, dx, _, rfl, s12 _ _ h1, t, p, n, q, _, rfl, TK.mono s12, fun H3 e1 s3 he => ?_⟩
    have s13 := s12.trans s3
    refine ⟨_, rfl, e1, a, left n (l.map (·.2)), rfl, he, s13 _ _ ha, by have := left_le n (l.map (·.2)); omega, fun H4 s4 => ⟨_, rfl, iteF ?_⟩⟩
    have s14 := s13.trans s4
    refine ⟨_, rfl, t, D, dx, _, _, rfl, s14 _ _ h1, T.cl, T.nf, tkf_lf _ _ _ _, _, rfl, fa, D1, fronts (l.map (·.2)), rfl, s14 _ _ h2, (s2.trans (s3.trans s4)) _ _ hD1, by omega, fun H5 s5 => ⟨_, rfl, iteF ?_⟩⟩
    have s15 := s14.trans s5
    refine ⟨_, rfl, t, D, dx, _, _, rfl, s15 _ _ h1, T.cl, T.nb, tkf_lb _ _ _ _, _, rfl, ba, D2, backs (l.map (·.2)), rfl, s15 _ _ h3, (s3.trans (s4.trans s5)) _ _ hD2, by omega, fun H6 s6 => ⟨_, rfl, iteT ?_⟩⟩
    have s16 := s15.trans s6
    refine ⟨_, rfl, t, dx, _, rfl, s16 _ _ h1, t, p, _, rfl, TK.tk.mono s16, fun k1 l1 hk1 el1 hl1 => ?_⟩
    refine ⟨_, _, _, _, _, rfl, .ty _, .base (.tup hk1), kit_ty (r := true) (by decide +kernel), _, rfl, iteT ?_⟩
    refine ⟨_, rfl, t, dx, _, rfl, s16 _ _ h1, t, p, _, rfl, TK.tk.mono s16, fun k2 l3 hk2 el2 hl2 => ?_⟩
    refine ⟨_, rfl, c, _, rfl, .inl ⟨SqL.of (s16 _ _ hc), fun u nu => ?_⟩⟩
    have v1 := same_upd (o := .tup (l.map fun z => V.ref z.1)) nu
    have d1 : Dt (upd H6 u (.tup (l.map fun z => V.ref z.1))) (.ref k2) (pqsD (l.map (·.2))) := by
      refine .tup (v1 _ _ hk2) ?_
      rw [← el2]
      exact pqs_dt fun z hz' => v1 _ _ (hl2 z hz')
    have d2 : Dt (upd H6 u (.tup (l.map fun z => V.ref z.1))) (.ref u) (pqsD (l.map (·.2))) := .tup upd_same (pqs_dt fun z hz' => v1 _ _ (s16 _ _ (hz z hz')))
    refine ⟨pqsD (l.map (·.2)), pqsD (l.map (·.2)), d1.dp, d2.dp, pqsD_shaped _, pqsD_shaped _, ?_⟩
    rw [PySem.SeqAt.eqv_refl _ (pqsD_lay _)]
    exact k _ (s16.trans v1)
end
end K0
set_option Elab.async false
set_option linter.all false
set_option maxRecDepth 100000
set_option maxHeartbeats 4000000
namespace K0
open PySem PySem.Spec PyProof.Rows L2
abbrev s_lto : Stmt := top 64
abbrev s_eNS : Stmt := inClass (top 9) 0
section
variable {X : Cx} {C : Addr} {m : Str} {k : Nat} {ps : List Str} {sp : Sp} {o e : Expr} {es : List Expr} {ta : TE} {t : TA} {apos pos : Pos} {dvs : List V} {σ : L2.St} {H : Hp} {pins : List (Addr × Obj)} {s : Shared}
theorem run_anyDS {A : Around} {n : Nat} {f : Addr} {fd : FuncData} {E : XK} {Q : VK} {vs : List V} {us ds : List Value} {CX : CXT} (sb : Sub X n A) (F : FnOk X.prog X.w X.K X.mg X.base CX n f fd ps sp) (hb : Binds X.K fd ps ds) (hd : Vals dvs ds) (hx : PassesAt CX X σ E)
    (I : Inv X pins σ H s) (r : Vals vs us) (h : sp (vs ++ dvs) H Q E) : wpAny (model X.prog X.w) A (call (.ref f) us) (EP X pins σ Q) X.xe s := by
  have e0 : Env0 X.prog X.w X.K X.mg X.base A X.stack s H := by
    have e := I.env0
    exact ⟨by rw [sb.fr]; exact e.frames, e.mod, e.bs, e.bsz, e.funs, e.frf, e.hok, e.bare⟩
  have hl := F.len _ _ _ _ h
  have hl2 : (us ++ ds).length = ps.length := by rw [← hl, List.length_append, List.length_append, r.length, hd.length]
  refine wpAny_call (codeAny_mono (F.run A X.stack s H ⟨us, []⟩ (us ++ ds) (vs ++ dvs) Q E sb.room e0 (hb s us I.kIn hl2) (r.append hd) h) fun r s' hq => ?_)
  cases r with
  | error e => exact hx pins H s e s' I hq
  | ok fl =>
    cases fl with
    | ret w => exact I.after hq
    | next => exact False.elim hq
    | brk => exact False.elim hq
    | cont => exact False.elim hq
def tMethDS (C : Addr) (m : Str) (sp : Sp) (dvs : List V) (E : L2.St → XK) (ta : TE) (t : TA) : TE := fun σ H Q => ta σ H fun x H1 => ∃ a dx fs, x = .ref a ∧ H1 a = some (.ins C dx fs) ∧ fs.lookup m = none ∧ t σ H1 fun vs H2 => sp ((x :: vs) ++ dvs) H2 Q (E σ)
theorem pe_mtDS {pl : Sem Bool} {E : L2.St → XK} (T : MtD X.prog X.w X.K X.mg X.base C m k ps dvs sp) (hr : Room k X.A) (hx : ∀ σ, PassesAt (L2.CX X.prog X.w) X σ (E σ)) (he : PE X o ta) (ha : PA X (e :: es) t)
    (hst : starEach (e :: es) X.env = (false, eval e X.env) :: starEach es X.env := by rfl) (hpl : (backTo pos (starEach es X.env)).any (·.1) = false := by rfl)
    (ht : eval (.Call (.Attribute o m apos) (e :: es) [] pos) X.env = (do
      let ov ← eval o X.env
      standAt apos.atName
      let (f, first) ← holding [ov] (getMethod ov m pl)
      callWith pos f first (backTo pos (starEach (e :: es) X.env)) (backToKw pos (keywordEach [] X.env))) := by rfl) : PE X (.Call (.Attribute o m apos) (e :: es) [] pos) (tMethDS C m sp dvs E ta t) := by
  obtain ⟨f, fd, ds, c, hm, F, hd, b⟩ := T.ex
  refine ⟨fun pins s σ H Q I h => ?_⟩
  refine PySem.W.methodCall_KW (pl := pl) (thn (he.run pins s σ H _ I h) fun u s1 ⟨x, H1, I1, rx, a, dx, fs, ex, ea, l, q⟩ => ?_) ht
  subst ex
  obtain rfl : u = Value.ref a := rx
  refine getmeth_ok I1 ea c hm l ?_
  refine PySem.W.callWith_K (first := [.ref a]) (h₀ := X.base) I.ok.mod.kin hm.kp (thn (ha.run pos pins s1 σ H1 _ I1 q) fun us s2 ⟨vs, H2, I2, r, q2⟩ => ⟨I2.kIn, ?_⟩) hst hpl
  exact run_anyDS (vs := .ref a :: vs) (us := .ref a :: us) ⟨hr, rfl⟩ F b hd (hx σ) I2 (.cons rfl r) q2
end
section
variable {P : Program} {w : World} {K : PySem.W.Frag} {mg : Str → Option Value} {base : Heap} {f : Addr} {fd : FuncData}
/-- _law_told -/
def spLto (C D : Addr) : Sp := fun vs H Q _ => ∃ (t p : Addr) (v sv : V) (pl : Bool) (d : PyData) (n : Nat) (q : List Pr) (pr : List Pq) (qs : List Q4), vs = [.ref t, v, sv, .bl pl] ∧ TkW C D H t p n q pr ∧ pr.length ≤ 900 ∧ Q4s n q qs ∧ Dt H v d ∧ flatV v = true ∧ flatV sv = true ∧
  (((isI d = false ∨ ∃ i : Int, v = .int i ∧ d = .int i ∧ ∀ x ∈ left n pr, (x : Int) ≠ i) ∧ TwoL "thing" v H Q) ∨
  ∃ x ∈ left n pr, v = .int (x : Int) ∧ d = .int (x : Int) ∧ ((pl = false ∧ inV sv [.non, .str "front", .str "back"] = false ∧ TwoL "number" (.str "side") H Q) ∨
    (SdOk (if pl = true then .non else sv) ∧ pick (hasE qs (left n pr) x) (hasM qs (left n pr) x) (if pl = true then .non else sv) = none ∧ TwoL "none" (.str "take") H Q) ∨
    ∃ b, SdOk (if pl = true then .non else sv) ∧ pick (hasE qs (left n pr) x) (hasM qs (left n pr) x) (if pl = true then .non else sv) = some b ∧ ∀ H' r, Same (del H t) H' → TkW C D H' t p n q (pr ++ [(x, b)]) → (del H' t) r = some (.lst [.str "laid", .str (sideS b)]) → Q (.ref r) H'))
abbrev ltoN : List Str := ["_law_taking", "_law_thing", "_law_side", "_law_plain", "_law_answer", "error"]
theorem sc_lto : FnScope ltoN ["_law_taking", "_law_thing", "_law_side", "_law_plain"] (defScope s_lto) := ⟨rfl, rfl, rfl, by decide +kernel, rfl, by decide +kernel, by decide +kernel⟩
theorem ok_lto {C D CT CN CNS CO : Addr} (F : Fun K "_law_told" "_law_told" s_lto f fd) (gT : mg "BadThing" = some (.ref CT)) (gN : mg "BadNumber" = some (.ref CN)) (gS : mg "NoneSuch" = some (.ref CNS)) (gO : mg "OrdersError" = some (.ref CO)) (mT : PySem.W.exmOne K (.ref CT) (.ref CT) = some true) (mN : PySem.W.exmOne K (.ref CN) (.ref CN) = some true) (mS : PySem.W.exmOne K (.ref CNS) (.ref CNS) = some true) (mNT : PySem.W.exmOne K (.ref CN) (.ref CT) = some false) (mST : PySem.W.exmOne K (.ref CNS) (.ref CT) = some false) (mSN : PySem.W.exmOne K (.ref CNS) (.ref CN) = some false) (xT : XfC K CT) (xN : XfC K CN) (xS : XfC K CNS) (fT : NoAttr K CT "thing") (fN : NoAttr K CN "name") (fS : NoAttr K CNS "name") (TD : MtD P w K mg base D "take" 8 ["self", "thing", "side"] [.non] (spTake C D CT CN CNS)) (TF : Mt P w K mg base D "take" 8 ["self", "thing", "side"] (spTake C D CT CN CNS)) : FnOk P w K mg base (L2.CX P w) 9 f fd ["_law_taking", "_law_thing", "_law_side", "_law_plain"] (spLto C D) := by
  refine F.okX sc_lto (fun vs H Q E h => ?_) (fun cdv A outer s H vs Q E hr h => ?_)
  · obtain ⟨t, p, v, sv, pl, d, n, q, pr, qs, rfl, _⟩ := h
    rfl
  · obtain ⟨t, p, v, sv, pl, d, n, q, pr, qs, rfl, TK, few9, Z, hv, fv, fsv, h⟩ := h
    have nd := sc_lto.nd
    refine ⟨_, pss_cons (ps_set (i := 4) nd rfl (.inl rfl) (pe_lst (pa_cons pe_str (pa_cons pe_non pa_nil))))
      (pss_cons (ps_try_any (tb := fun W => tIfS (tB (tVar 3)) (tAsg (tLst (tCons (tC (.str "laid")) (tCons (tMethDS D "take" (spTake C D CT CN CNS) [.non] (WE W) (tVar 0) (tCons (tVar 1) tNil)) tNil))) (gName 4)) (tAsg (tLst (tCons (tC (.str "laid")) (tCons (tMethS D "take" (spTake C D CT CN CNS) (WE W) (tVar 0) (tCons (tVar 1) (tCons (tVar 2) tNil))) tNil))) (gName 4))) rfl rfl (takes_of rfl rfl rfl rfl)
        (fun W pn xe tk _ => pss_one (ps_if (pt_val (pv 3)) (pss_one (ps_set (i := 4) nd rfl (.inl rfl) (pe_lst (pa_cons pe_str (pa_cons (pe_mtDS TD hr (fun σ => passAt tk σ) (pv 0) (pa_cons (pv 1) pa_nil)) pa_nil))))) (pss_one (ps_set (i := 4) nd rfl (.inl rfl) (pe_lst (pa_cons pe_str (pa_cons (pe_mtS TF hr (fun σ => passAt tk σ) (pv 0) (pa_cons (pv 1) (pa_cons (pv 2) pa_nil))) pa_nil)))))))
        (.as nd (i := 5) rfl rfl ⟨rfl, by decide, .inl gT⟩ (fun a oe cls d pn hz hf => pss_one (ps_set (i := 4) nd rfl (.inl rfl) (pe_lst (pa_cons pe_str (pa_cons (pe_xf xT fT hz hf (pv 5)) pa_nil)))))
        (.as nd (i := 5) rfl rfl ⟨rfl, by decide, .inl gN⟩ (fun a oe cls d pn hz hf => pss_one (ps_set (i := 4) nd rfl (.inl rfl) (pe_lst (pa_cons pe_str (pa_cons (pe_xf xN fN hz hf (pv 5)) pa_nil)))))
        (.as nd (i := 5) rfl rfl ⟨rfl, by decide, .inl gS⟩ (fun a oe cls d pn hz hf => pss_one (ps_set (i := 4) nd rfl (.inl rfl) (pe_lst (pa_cons pe_str (pa_cons (pe_xf xS fS hz hf (pv 5)) pa_nil)))))
        (.cons ⟨rfl, by decide, .inl gO⟩ (fun a oe cls d pn hz hf => pss_one (ps_set (i := 4) nd rfl (.inl rfl) (pe_lst (pa_cons pe_str (pa_cons pe_non pa_nil))))) .nil)))))
      (pss_one (ps_ret (pv 4)))), ?_⟩
    refine ⟨by show 2 ≤ sizeLine; decide, fun z nz => ?_⟩
    have s1 : Same H (upd H z (.lst [.str "other", .non])) := same_upd nz
    generalize upd H z (.lst [.str "other", .non]) = H1 at s1 ⊢
    have TK1 := TK.mono s1
    obtain ⟨dx, fa, ba, ka, h1⟩ := TK1.tk.obj
    have no : (tkf p fa ba ka).lookup ("take" : Str) = none := tkf_no _ _ _ _ (by decide +kernel) (by decide +kernel) (by decide +kernel) (by decide +kernel)
    have laid : ∀ (x : Nat) (b : Bool), (∀ H' r, Same (del H t) H' → TkW C D H' t p n q (pr ++ [(x, b)]) → (del H' t) r = some (.lst [.str "laid", .str (sideS b)]) → Q (.ref r) H') → ∀ (H' : Hp) (r : Addr), Same (del H1 t) H' → TkW C D H' t p n q (pr ++ [(x, b)]) → H' r = none → Q (.ref r) (upd H' r (.lst [.str "laid", .str (sideS b)])) := fun x b k H' r sm TK' nr => by
      have v := same_upd (o := .lst [.str "laid", .str (sideS b)]) nr
      obtain ⟨dx', fa', ba', ka', h1'⟩ := TK'.tk.obj
      have rt : r ≠ t := fun e => by rw [e, h1'] at nr; cases nr
      refine k _ r (fun y o h => v y o (sm y o ?_)) (TK'.mono v) (by rw [del_ne rt, upd_same])
      by_cases yt : y = t
      · rw [yt, del_same] at h
        cases h
      · rw [del_ne yt] at h ⊢
        exact s1 y o h
    cases pl with
    | true =>
      refine ⟨_, rfl, _, rfl, iteT ⟨_, rfl, t, dx, _, rfl, h1, no, _, rfl, ?_⟩⟩
      dsimp only [tNil, List.append_nil]
      refine ⟨t, p, v, .non, d, n, q, pr, qs, rfl, TK1, few9, Z, hv.mono s1, fv, rfl, ?_⟩
      rcases h with ⟨bad, k⟩ | ⟨x, xl, rfl, rfl, h⟩
      · refine .inl ⟨bad, fun H' e sm he => ?_⟩
        refine ⟨true, mT, fun _ x nx => ?_, fun z => nomatch z⟩
        refine ⟨_, rfl, rfl, rfl, e, _, _, rfl, he, rfl, by show 2 ≤ sizeLine; decide, fun r nr => ?_⟩
        exact ⟨_, rfl, k.mk (s1.trans sm) r nr⟩
      · refine .inr ⟨x, xl, rfl, rfl, ?_⟩
        rcases h with ⟨e, _⟩ | ⟨sd, pk, k⟩ | ⟨b, sd, pk, k⟩
        · cases e
        · refine .inr (.inl ⟨sd, pk, fun H' e sm he => ?_⟩)
          refine ⟨false, mST, fun z => (nomatch z), fun _ => ⟨false, mSN, fun z => (nomatch z), fun _ => ⟨true, mS, fun _ x nx => ?_, fun z => nomatch z⟩⟩⟩
          refine ⟨_, rfl, rfl, rfl, e, _, _, rfl, he, rfl, by show 2 ≤ sizeLine; decide, fun r nr => ?_⟩
          exact ⟨_, rfl, k.mk (s1.trans sm) r nr⟩
        · refine .inr (.inr ⟨b, sd, pk, fun H' sm TK' => ⟨by show 2 ≤ sizeLine; decide, fun r nr => ⟨_, rfl, laid x b k H' r sm TK' nr⟩⟩⟩)
    | false =>
      refine ⟨_, rfl, _, rfl, iteF ⟨_, rfl, t, dx, _, rfl, h1, no, _, rfl, _, rfl, ?_⟩⟩
      dsimp only [tNil, List.append_nil]
      refine ⟨t, p, v, sv, d, n, q, pr, qs, rfl, TK1, few9, Z, hv.mono s1, fv, fsv, ?_⟩
      rcases h with ⟨bad, k⟩ | ⟨x, xl, rfl, rfl, h⟩
      · refine .inl ⟨bad, fun H' e sm he => ?_⟩
        refine ⟨true, mT, fun _ x nx => ?_, fun z => nomatch z⟩
        refine ⟨_, rfl, rfl, rfl, e, _, _, rfl, he, rfl, by show 2 ≤ sizeLine; decide, fun r nr => ?_⟩
        exact ⟨_, rfl, k.mk (s1.trans sm) r nr⟩
      · refine .inr ⟨x, xl, rfl, rfl, ?_⟩
        rcases h with ⟨_, sb, k⟩ | ⟨sd, pk, k⟩ | ⟨b, sd, pk, k⟩
        · refine .inl ⟨sb, fun H' e sm he => ?_⟩
          refine ⟨false, mNT, fun z => (nomatch z), fun _ => ⟨true, mN, fun _ x nx => ?_, fun z => nomatch z⟩⟩
          refine ⟨_, rfl, rfl, rfl, e, _, _, rfl, he, rfl, by show 2 ≤ sizeLine; decide, fun r nr => ?_⟩
          exact ⟨_, rfl, k.mk (s1.trans sm) r nr⟩
        · refine .inr (.inl ⟨sd, pk, fun H' e sm he => ?_⟩)
          refine ⟨false, mST, fun z => (nomatch z), fun _ => ⟨false, mSN, fun z => (nomatch z), fun _ => ⟨true, mS, fun _ x nx => ?_, fun z => nomatch z⟩⟩⟩
          refine ⟨_, rfl, rfl, rfl, e, _, _, rfl, he, rfl, by show 2 ≤ sizeLine; decide, fun r nr => ?_⟩
          exact ⟨_, rfl, k.mk (s1.trans sm) r nr⟩
        · refine .inr (.inr ⟨b, sd, pk, fun H' sm TK' => ⟨by show 2 ≤ sizeLine; decide, fun r nr => ⟨_, rfl, laid x b k H' r sm TK' nr⟩⟩⟩)
/-- NoneSuch.__init__ -/
theorem sc_eNS : FnScope ["self", "name"] ["self", "name"] (defScope s_eNS) := ⟨rfl, rfl, rfl, by decide +kernel, rfl, by decide +kernel, by decide +kernel⟩
theorem ok_eNS {C : Addr} (F : Fun K "__init__" "NoneSuch.__init__" s_eNS f fd) (T : ErrC K C ["name"]) : FnOk P w K mg base CX0 1 f fd ["self", "name"] (spE1 C "name") := by
  refine F.ok sc_eNS (fun vs H Q E h => ?_) (fun cdv A outer s H vs Q E hr h => ?_)
  · obtain ⟨a, v, rfl, _⟩ := h
    rfl
  · obtain ⟨a, v, rfl, ha, q⟩ := h
    refine ⟨_, pss_one (ps_stE (fl := ["name"]) (pv 0) (pv 1)), ?_⟩
    exact ⟨_, rfl, _, rfl, a, C, rfl, T, by decide, .inl ⟨ha, fun dx n ne => q dx n ne⟩⟩
end
end K0
set_option Elab.async false
set_option linter.all false
set_option maxRecDepth 100000
set_option maxHeartbeats 4000000
namespace K0
open PySem PySem.Spec PyProof.Rows L2
abbrev s_lst7 : Stmt := top 67
def kvD (k : Str) (d : PyData) : PyData := .list [.str k, d]
theorem kv_lay {k : Str} {d : PyData} (hk : PyData.strOk k = true) (hd : PyData.canLay0 d = true) : PyData.canLay0 (kvD k d) = true := by
  unfold kvD
  simp [PyData.canLay0, PyData.canLayAll0, hk, hd]
theorem kv_shaped {k : Str} {d : PyData} (hk : PyData.strOk k = true) (hd : PyData.canLay0 d = true) (h0 : PyData.depth d = 0) : SeqAt.shaped (kvD k d) = true := by
  unfold SeqAt.shaped
  rw [Bool.and_eq_true, decide_eq_true_iff]
  refine ⟨kv_lay hk hd, ?_⟩
  unfold kvD
  simp only [PyData.depth, PyData.depthAll, h0]
  decide
theorem kv_dt {H : Hp} {a : Addr} {k : Str} {v : V} {d : PyData} (h : H a = some (.lst [.str k, v])) (hv : Dt H v d) : Dt H (.ref a) (kvD k d) := .lst h (.cons (.str k) (.cons hv .nil))
theorem ne_kv {K : PySem.W.Frag} {H : Hp} {Q : VK} {a b : Addr} {k : Str} {v : V} {d : PyData} (ha : H a = some (.lst [.str k, v])) (hb : H b = some (.lst [.str k, v])) (hv : Dt H v d) (hk : PyData.strOk k = true) (hd : PyData.canLay0 d = true) (h0 : PyData.depth d = 0) (q : Q (.bl false) H) : rNeD K (.ref a) (.ref b) H Q :=
  ⟨kvD k d, kvD k d, (kv_dt ha hv).dp, (kv_dt hb hv).dp, kv_shaped hk hd h0, kv_shaped hk hd h0, by rw [PySem.SeqAt.eqv_refl _ (kv_lay hk hd)]; exact q⟩
theorem str_lay {x : Str} (h : PyData.strOk x = true) : PyData.canLay0 (.str x) = true := by simp [PyData.canLay0, h]
theorem str_dep (x : Str) : PyData.depth (.str x) = 0 := by simp [PyData.depth]
/-- how a step changes the takes -/
def StepR (qs : List Q4) (n : Nat) (pr : List Pq) (v sv : V) (pr' : List Pq) : Prop := (pr' = pr ∧ ∀ x b, x ∈ left n pr → v = .int (x : Int) → SdOk sv → pick (hasE qs (left n pr) x) (hasM qs (left n pr) x) sv ≠ some b) ∨
  ∃ x b, x ∈ left n pr ∧ v = .int (x : Int) ∧ SdOk sv ∧ pick (hasE qs (left n pr) x) (hasM qs (left n pr) x) sv = some b ∧ pr' = pr ++ [(x, b)]
/-- a thing as the law draws it -/
structure ThV (n : Nat) (pr : List Pq) (v : V) (d : PyData) : Prop where
  dt : ∀ G : Hp, Dt G v d
  fl : flatV v = true
  ly : PyData.canLay0 d = true
  dp : PyData.depth d = 0
  is : (isI d = false ∨ ∃ i : Int, v = .int i ∧ d = .int i ∧ ∀ x ∈ left n pr, (x : Int) ≠ i) ∨ ∃ x ∈ left n pr, v = .int (x : Int) ∧ d = .int (x : Int)
section
variable {P : Program} {w : World} {K : PySem.W.Frag} {mg : Str → Option Value} {base : Heap} {f : Addr} {fd : FuncData}
/-- the state of the law's own count -/
structure Lws (C D : Addr) (H : Hp) (t p a c : Addr) (n : Nat) (q : List Pr) (pr : List Pq) : Prop where
  tk : TkW C D H t p n q pr
  lf : (del H t) a = some (.lst (nvs (left n pr)))
  prs : PrH (del H t) c pr
theorem Lws.mono {C D : Addr} {H H' : Hp} {t p a c : Addr} {n : Nat} {q : List Pr} {pr : List Pq} (h : Lws C D H t p a c n q pr) (s : Same H H') : Lws C D H' t p a c n q pr := by
  have sd : Same (del H t) (del H' t) := fun b o e => by
    by_cases z : b = t
    · rw [z, del_same] at e
      cases e
    · rw [del_ne z] at e ⊢
      exact s b o e
  exact ⟨h.tk.mono s, sd _ _ h.lf, h.prs.mono sd⟩
/-- _law_step -/
def spLst7 (C D : Addr) : Sp := fun vs H Q _ => ∃ (t p b a c : Addr) (v sv : V) (pl : Bool) (d : PyData) (n : Nat) (q : List Pr) (pr : List Pq) (qs : List Q4), vs = [.ref t, .ref b, .ref a, .ref c, v, sv, .bl pl] ∧ Lws C D H t p a c n q pr ∧ pr.length ≤ 800 ∧ Q4s n q qs ∧ QsH (del H t) b qs ∧ ThV n pr v d ∧ flatV sv = true ∧ (SdOk sv ∨ ¬ SdOk sv ∧ inV sv [.non, .str "front", .str "back"] = false) ∧ (pl = true → sv = .non) ∧
  ∀ H' r a' c' pr', StepR qs n pr v sv pr' → (a' = a ∨ H a' = none) → (c' = c ∨ H c' = none) → H r = none → Same (del H t) H' → Lws C D H' t p a' c' n q pr' → (del H' t) r = some (.lst [.bl true, .ref a', .ref c']) → Q (.ref r) H'
abbrev lstN : List Str := ["_law_taking", "_law_quads_here", "_law_left", "_law_pairs", "_law_thing", "_law_side", "_law_plain", "_law_due_here", "_law_x"]
theorem sc_lst7 : FnScope lstN ["_law_taking", "_law_quads_here", "_law_left", "_law_pairs", "_law_thing", "_law_side", "_law_plain"] (defScope s_lst7) := ⟨rfl, rfl, rfl, by decide +kernel, rfl, by decide +kernel, by decide +kernel⟩
theorem ok_lst7 {C D : Addr} (F : Fun K "_law_step" "_law_step" s_lst7 f fd) (DU : Df P w K mg base "_law_due" 3 ["_law_quads_here", "_law_left", "_law_thing", "_law_side"] (spDue K)) (LT : Df P w K mg base "_law_told" 9 ["_law_taking", "_law_thing", "_law_side", "_law_plain"] (spLto C D)) (ST : Df P w K mg base "_law_state" 3 ["_law_taking", "_law_left", "_law_pairs"] (spSta C D)) : FnOk P w K mg base (L2.CX P w) 10 f fd ["_law_taking", "_law_quads_here", "_law_left", "_law_pairs", "_law_thing", "_law_side", "_law_plain"] (spLst7 C D) := by
  refine F.okX sc_lst7 (fun vs H Q E h => ?_) (fun cdv A outer s H vs Q E hr h => ?_)
  · obtain ⟨t, p, b, a, c, v, sv, pl, d, n, q, pr, qs, rfl, _⟩ := h
    rfl
  · obtain ⟨t, p, b, a, c, v, sv, pl, d, n, q, pr, qs, rfl, L, few8, Z, hq, tv, fsv, sdv, plv, k⟩ := h
    have nd := sc_lst7.nd
    have r3 : Room 3 _ := hr.mono (by decide)
    have hu : (A.deeper (envOfC "_law_step" (defScope s_lst7) s.heap.objs.size f cdv)).units + 64 < cLine := by have := hr.un; omega
    refine' ⟨_, pss_cons ?h1 (pss_cons ?h2 (pss_cons ?h3 (pss_one ?h4))), ?hz⟩
    case h1 => exact ps_set (i := 7) nd rfl (.inl rfl) (pe_df DU r3 (by rfl) passUp (pa_cons (pv 1) (pa_cons (pv 2) (pa_cons (pv 4) (pa_cons (pv 5) pa_nil)))))
    case h2 => exact ps_if (pt_cmpR (op_neD hu) (pe_df LT hr (by rfl) passUp (pa_cons (pv 0) (pa_cons (pv 4) (pa_cons (pv 5) (pa_cons (pv 6) pa_nil))))) (pv 7) (by rfl)) (pss_one (ps_ret (pe_lst (pa_cons pe_bl (pa_cons (pv 2) (pa_cons (pv 3) pa_nil)))))) pss_nil
    case h3 =>
      refine' ps_if (pt_cmpR op_eq (pe_ix ix_list (pv 7) pe_int (fun _ _ => rfl)) pe_str (by rfl)) (pss_cons ?b1 (pss_one ?b2)) pss_nil
      case b1 => exact (ps_setLc (i := 2) (own := [("_law_x", 8)]) (g := gName 8) (tt := tTest (tOp rNe (tVar 8) (tVar 4))) (te := tVar 8) rfl nd rfl (by rfl) (by rfl) (pi_list (pv 2)) (blkOk_by (N := lstN) (sc := defScope s_lst7) (by decide +kernel)) (fun _ _ _ _ _ => pg_name (i := 8) nd rfl (.inl rfl)) (fun _ _ _ _ _ => pts_one (pt_cmpR op_ne (pv 8) (pv 4) (by rfl))) (fun _ _ _ _ _ => pv 8))
      case b2 => exact ps_set (i := 3) nd rfl (.inl rfl) (pe_op op_cat (pv 3) (pe_lst (pa_cons (pe_tup (pa_cons (pv 4) (pa_cons (pe_ix ix_list (pv 7) pe_int (fun _ _ => rfl)) pa_nil))) pa_nil)))
    case h4 => exact ps_ret (pe_lst (pa_cons (pe_df ST r3 (by rfl) passUp (pa_cons (pv 0) (pa_cons (pv 2) (pa_cons (pv 3) pa_nil)))) (pa_cons (pv 2) (pa_cons (pv 3) pa_nil))))
    case hz =>
    have at1 : ∀ (y : V) (z : V), atI [y, z] 1 = some z := fun y z => by
      have e : atI [y, z] ((1 : Nat) : Int) = some z := atI_nat rfl
      exact e
    have at0 : ∀ (y : V) (z : V), atI [y, z] 0 = some y := fun y z => by
      have e : atI [y, z] ((0 : Nat) : Int) = some y := atI_nat rfl
      exact e
    -- the due
    refine ⟨_, rfl, _, rfl, _, rfl, _, rfl, b, a, v, sv, d, left n pr, qs, rfl, hq.mono del_sub, Z.few, del_sub _ _ L.lf, tv.dt _, tv.fl, fsv, ?_⟩
    -- nothing is laid
    have keep : ∀ (H1 H2 : Hp) (dl : Addr) (kk : Str) (u : V), Same H H1 → Same H1 H2 → (∀ x b, x ∈ left n pr → v = .int (x : Int) → SdOk sv → pick (hasE qs (left n pr) x) (hasM qs (left n pr) x) sv ≠ some b) → H2 dl = some (.lst [.str kk, u]) → ¬ kk = "laid" →
        tSeq (tIfS (tTest (tOp rEq (tOp (rIxL K) (tVar 7) (tC (.int 0))) (tC (.str "laid")))) (tSeq (tAsg (tLc (iList K (tVar 2)) (gName 8) (tTest (tOp rNe (tVar 8) (tVar 4))) (tVar 8) [8]) (gName 2)) (tAsg (tOp rCat (tVar 3) (tLst (tCons (tTup (tCons (tVar 4) (tCons (tOp (rIxL K) (tVar 7) (tC (.int 1))) tNil))) tNil))) (gName 3))) tNext)
          (tRet (tLst (tCons (tCall (spSta C D) [] E (tCons (tVar 0) (tCons (tVar 2) (tCons (tVar 3) tNil)))) (tCons (tVar 2) (tCons (tVar 3) tNil))))) { nx := fun x H' => Q V.non H', rt := Q } [some (.ref t), some (.ref b), some (.ref a), some (.ref c), some v, some sv, some (.bl pl), some (.ref dl), none] H2 := fun H1 H2 dl kk u s1 s2 no hdl nl => by
      have s12 := s1.trans s2
      have L2' := L.mono s12
      refine ⟨_, rfl, dl, _, 0, .str kk, rfl, rfl, SqL.of hdl, at0 _ _, rfl, _, rfl, ?_⟩
      rw [show decide (V.str kk = V.str "laid") = false from decide_eq_false fun e => nl (by cases e; rfl)]
      refine iteF ⟨_, rfl, _, rfl, _, rfl, t, a, c, p, n, q, pr, rfl, L2'.tk, del_sub _ _ L2'.lf, L2'.prs.mono del_sub, fun H3 s3 => ?_⟩
      refine ⟨_, rfl, _, rfl, by show 3 ≤ sizeLine; decide, fun r nr => ?_⟩
      have s4 := s12.trans (s3.trans (same_upd (o := .lst [.bl true, .ref a, .ref c]) nr))
      have L4 := L.mono s4
      refine k _ r a c pr (.inl ⟨rfl, no⟩) (.inl rfl) (.inl rfl) ((s12.trans s3).free nr) (fun y o h => s4 y o (del_sub y o h)) L4 ?_
      obtain ⟨dx, fa, ba, ka, h1⟩ := L4.tk.tk.obj
      have rt : r ≠ t := fun e => by
        rw [e, upd_same] at h1
        cases h1
      rw [del_ne rt, upd_same]
    rcases tv.is with bad | ⟨x, xl, rfl, rfl⟩
    · have no : ∀ x b, x ∈ left n pr → v = .int (x : Int) → SdOk sv → pick (hasE qs (left n pr) x) (hasM qs (left n pr) x) sv ≠ some b := fun x b xl ev _ _ => by
        have dv := tv.dt H
        rw [ev] at dv
        rcases bad with bad | ⟨i, e1, e2, no⟩
        · cases dv
          cases bad
        · rw [ev] at e1
          cases e1
          exact no x xl rfl
      refine .inl ⟨bad, fun H1 dl s1 hdl => ?_⟩
      refine ⟨_, rfl, _, rfl, _, rfl, _, rfl, t, p, v, sv, pl, d, n, q, pr, qs, rfl, L.tk.mono s1, by omega, Z, tv.dt _, tv.fl, fsv, .inl ⟨bad, fun H2 r s2 hr2 => ?_⟩⟩
      refine ⟨_, rfl, ne_kv hr2 (s2 _ _ hdl) (tv.dt _) (by decide +kernel) tv.ly tv.dp ⟨_, rfl, iteF ?_⟩⟩
      exact keep H1 H2 dl "thing" v s1 s2 no (s2 _ _ hdl) (by decide +kernel)
    · have sOk : ∀ y : Bool, PyData.strOk (sideS y) = true := fun y => by cases y <;> decide +kernel
      rcases sdv with sd | ⟨nsd, sb⟩
      · have es : (if pl = true then V.non else sv) = sv := by
          cases pl with
          | true => exact (plv rfl).symm
          | false => rfl
        refine .inr ⟨x, xl, rfl, rfl, .inr ⟨sd, fun y pk => fun H1 dl s1 hdl => ?_, fun pk => fun H1 dl s1 hdl => ?_⟩⟩
        · refine ⟨_, rfl, _, rfl, _, rfl, _, rfl, t, p, .int (x : Int), sv, pl, .int (x : Int), n, q, pr, qs, rfl, L.tk.mono s1, by omega, Z, .int _, rfl, fsv, .inr ⟨x, xl, rfl, rfl, .inr (.inr ⟨y, by rw [es]; exact sd, by rw [es]; exact pk, fun H2 r s2 TK2 hr2 => ?_⟩)⟩⟩
          obtain ⟨dx, fa, ba, ka, h1⟩ := L.tk.tk.obj
          obtain ⟨dx2, fa2, ba2, ka2, h12⟩ := TK2.tk.obj
          have nt : ∀ {z : Addr} {xs : List V}, H1 z = some (.lst xs) → z ≠ t := fun h e => by
            rw [e, s1 _ _ h1] at h
            cases h
          have to2 : ∀ {z : Addr} {xs : List V}, H1 z = some (.lst xs) → H2 z = some (.lst xs) := fun h => s2 _ _ (by rw [del_ne (nt h)]; exact h)
          have hdl2 := to2 hdl
          refine ⟨_, rfl, ne_kv (del_sub _ _ hr2) hdl2 (.str _) (by decide +kernel) (str_lay (sOk y)) (str_dep _) ⟨_, rfl, iteF ?_⟩⟩
          refine ⟨_, rfl, dl, _, 0, .str "laid", rfl, rfl, SqL.of hdl2, at0 _ _, rfl, _, rfl, ?_⟩
          rw [show decide (V.str "laid" = V.str "laid") = true from decide_eq_true rfl]
          have ha2 := to2 (s1 _ _ (del_sub _ _ L.lf))
          refine iteT ⟨_, rfl, a, rfl, ⟨_, SqL.of ha2⟩, fun D1 nD1 => ?_⟩
          refine lc_it (walk_list (K := K) (a := a) (xs := nvs (left n pr))) (fun i H' => Same H2 H' ∧ H' D1 = some (.lst (nvs (((left n pr).take i).filter fun z => !decide (z = x))))) ⟨same_upd nD1, upd_same⟩ (fun i H' _ z => SqL.of (z.1 _ _ ha2)) (fun i v Hx H' hi z yy => ?_) (fun H3 z => ?_)
          · obtain ⟨rfl, hv⟩ := yy
            obtain ⟨sm, hD⟩ := z
            obtain ⟨z, hz, rfl⟩ := nvs_val hv
            refine ⟨rfl, _, rfl, _, rfl, rfl, _, rfl, ?_⟩
            rw [dec_int]
            by_cases e1 : z = x
            · rw [show (!(((z : Nat) : Int) == ((x : Nat) : Int))) = false by rw [beq_iff_eq.mpr (by omega)]; rfl]
              refine iteF ⟨sm, ?_⟩
              rw [snocF hz, if_neg (by rw [decide_eq_true e1]; exact Bool.false_ne_true), List.append_nil]
              exact hD
            · rw [show (!(((z : Nat) : Int) == ((x : Nat) : Int))) = true by rw [beq_eq_false_iff_ne.mpr (by omega)]; rfl]
              refine iteT ⟨_, rfl, _, hD, ?_, same_keep nD1 sm, ?_⟩
              · rw [nvs_len, sizeLine_eq]
                have h7 := List.length_filter_le (fun z => !decide (z = x)) ((left n pr).take i)
                have h8 := left_le n pr
                have h9 := L.tk.n9
                rw [List.length_take] at h7
                omega
              · rw [upd_same, snocF hz, if_pos (by rw [decide_eq_false e1]; rfl)]
                unfold nvs
                rw [List.map_append]
                rfl
          obtain ⟨s3, hD1⟩ := z
          rw [nvs_len, List.take_length, ← left_snoc (b := y)] at hD1
          have hdl3 := s3 _ _ hdl2
          -- the pairs
          obtain ⟨l, hc, el, hl⟩ := L.prs
          have hc2 := to2 (s1 _ _ (del_sub _ _ hc))
          have hl2 : ∀ z ∈ l, H2 z.1 = some (.tup [.int (z.2.1 : Int), .str (sideS z.2.2)]) := fun z hz => by
            have h9 := s1 _ _ (del_sub _ _ (hl z hz))
            have zt : z.1 ≠ t := fun e => by
              rw [e, s1 _ _ h1] at h9
              cases h9
            exact s2 _ _ (by rw [del_ne zt]; exact h9)
          have ll : l.length = pr.length := by rw [← el, List.length_map]
          refine ⟨_, rfl, _, rfl, _, rfl, dl, _, 1, _, rfl, rfl, SqL.of hdl3, at1 _ _, ?_⟩
          refine ⟨by show 2 ≤ sizeLine; decide, fun u1 w1 => ⟨by show 1 ≤ sizeLine; decide, fun u2 w2 => ?_⟩⟩
          have v1 := same_upd (o := .tup [.int (x : Int), .str (sideS y)]) w1
          have g1 : (upd H3 u1 (.tup [.int (x : Int), .str (sideS y)])) u1 = some (.tup [.int (x : Int), .str (sideS y)]) := upd_same
          have v2' := same_upd (o := .lst [.ref u1]) w2
          have v2 := v1.trans v2'
          refine ⟨c, u2, _, _, rfl, rfl, v2 _ _ (s3 _ _ hc2), upd_same, by rw [List.length_map, ll, sizeLine_eq]; show _ + 1 ≤ _; omega, fun c2 nc2 => ?_⟩
          have v3 := v2.trans (same_upd (o := .lst ((l.map fun z => V.ref z.1) ++ [.ref u1])) nc2)
          have fc2 : H2 c2 = none := s3.free (v2.free nc2)
          have hc3 : (upd (upd (upd H3 u1 (.tup [.int (x : Int), .str (sideS y)])) u2 (.lst [.ref u1])) c2 (.lst ((l.map fun z => V.ref z.1) ++ [.ref u1]))) c2 = some (.lst ((l ++ [(u1, (x, y))]).map fun z => V.ref z.1)) := by
            rw [upd_same, List.map_append]
            rfl
          have hu1 := (v2'.trans (same_upd (o := .lst ((l.map fun z => V.ref z.1) ++ [.ref u1])) nc2)) _ _ g1
          generalize upd (upd (upd H3 u1 (.tup [.int (x : Int), .str (sideS y)])) u2 (.lst [.ref u1])) c2 (.lst ((l.map fun z => V.ref z.1) ++ [.ref u1])) = H4 at v3 hc3 hu1 ⊢
          have s34 := s3.trans v3
          have free2 : ∀ z, H2 z = none → H z = none := fun z h2 => by
            cases e : H z with
            | none => rfl
            | some o =>
              have zt : z ≠ t := fun e => by
                rw [e, h12] at h2
                cases h2
              have := s2 z o (by rw [del_ne zt]; exact s1 _ _ e)
              rw [h2] at this
              cases this
          have PR : PrH H4 c2 (pr ++ [(x, y)]) := ⟨l ++ [(u1, (x, y))], hc3, by rw [List.map_append, el]; rfl, fun z hz => by
            rcases List.mem_append.mp hz with hz | hz
            · exact s34 _ _ (hl2 z hz)
            · rw [List.mem_singleton.mp hz]
              exact hu1⟩
          have TK4 := TK2.mono s34
          refine ⟨_, rfl, _, rfl, _, rfl, t, D1, c2, p, n, q, _, rfl, TK4, v3 _ _ hD1, PR, fun H5 s5 => ?_⟩
          refine ⟨_, rfl, _, rfl, by show 3 ≤ sizeLine; decide, fun r' nr' => ?_⟩
          have s6 := s5.trans (same_upd (o := .lst [.bl true, .ref D1, .ref c2]) nr')
          have s26 := s34.trans s6
          have TK6 := TK4.mono s6
          obtain ⟨dx6, fa6, ba6, ka6, h16⟩ := TK6.tk.obj
          have nt6 : ∀ {z : Addr} {o : HO}, (upd H5 r' (.lst [.bl true, .ref D1, .ref c2])) z = some o → (∀ C' dx' fs', o ≠ .ins C' dx' fs') → z ≠ t := fun h no e => by
            rw [e, h16] at h
            cases h
            exact no _ _ _ rfl
          have hD6 := s6 _ _ (v3 _ _ hD1)
          have PR6 := PR.mono s6
          refine k _ r' D1 c2 _ (.inr ⟨x, y, xl, rfl, sd, pk, rfl⟩) (.inr (free2 _ nD1)) (.inr (free2 _ fc2)) (free2 _ ((s34.trans s5).free nr')) (fun z o h => s26 z o (s2 z o ?_)) ⟨TK6, ?_, ?_⟩ ?_
          · by_cases zt : z = t
            · rw [zt, del_same] at h
              cases h
            · rw [del_ne zt] at h ⊢
              exact s1 z o h
          · rw [del_ne (nt6 hD6 (fun _ _ _ e => by cases e))]
            exact hD6
          · obtain ⟨l6, e1, e2, e3⟩ := PR6
            exact ⟨l6, by rw [del_ne (nt6 e1 (fun _ _ _ e => by cases e))]; exact e1, e2, fun z hz => by rw [del_ne (nt6 (e3 z hz) (fun _ _ _ e => by cases e))]; exact e3 z hz⟩
          · rw [del_ne (nt6 upd_same (fun _ _ _ e => by cases e)), upd_same]
        · have no : ∀ x' b, x' ∈ left n pr → V.int (x : Int) = .int (x' : Int) → SdOk sv → pick (hasE qs (left n pr) x') (hasM qs (left n pr) x') sv ≠ some b := fun x' b _ ev _ e => by
            have : x = x' := by
              have := V.int.inj ev
              omega
            subst this
            rw [pk] at e
            cases e
          refine ⟨_, rfl, _, rfl, _, rfl, _, rfl, t, p, .int (x : Int), sv, pl, .int (x : Int), n, q, pr, qs, rfl, L.tk.mono s1, by omega, Z, .int _, rfl, fsv, .inr ⟨x, xl, rfl, rfl, .inr (.inl ⟨by rw [es]; exact sd, by rw [es]; exact pk, fun H2 r s2 hr2 => ?_⟩)⟩⟩
          refine ⟨_, rfl, ne_kv hr2 (s2 _ _ hdl) (.str _) (by decide +kernel) (str_lay (by decide +kernel)) (str_dep _) ⟨_, rfl, iteF ?_⟩⟩
          exact keep H1 H2 dl "none" _ s1 s2 no (s2 _ _ hdl) (by decide +kernel)
      · have plF : pl = false := by
          cases pl with
          | false => rfl
          | true => exact absurd (.inl (plv rfl)) nsd
        have no : ∀ x' b, x' ∈ left n pr → V.int (x : Int) = .int (x' : Int) → SdOk sv → pick (hasE qs (left n pr) x') (hasM qs (left n pr) x') sv ≠ some b := fun x' b _ _ sd => absurd sd nsd
        refine .inr ⟨x, xl, rfl, rfl, .inl ⟨nsd, fun H1 dl s1 hdl => ?_⟩⟩
        refine ⟨_, rfl, _, rfl, _, rfl, _, rfl, t, p, .int (x : Int), sv, pl, .int (x : Int), n, q, pr, qs, rfl, L.tk.mono s1, by omega, Z, .int _, rfl, fsv, .inr ⟨x, xl, rfl, rfl, .inl ⟨plF, sb, fun H2 r s2 hr2 => ?_⟩⟩⟩
        refine ⟨_, rfl, ne_kv hr2 (s2 _ _ hdl) (.str _) (by decide +kernel) (str_lay (by decide +kernel)) (str_dep _) ⟨_, rfl, iteF ?_⟩⟩
        exact keep H1 H2 dl "number" _ s1 s2 no (s2 _ _ hdl) (by decide +kernel)
end
end K0
set_option Elab.async false
set_option linter.all false
set_option maxRecDepth 100000
set_option maxHeartbeats 4000000
namespace K0
open PySem PySem.Spec PyProof.Rows L2
theorem same_notin {H0 H' : Hp} {t : Addr} (n : H0 t = none) (s : Same H0 H') : Same H0 (del H' t) := fun b o e => by
  have bt : b ≠ t := fun z => by
    rw [z, n] at e
    cases e
  rw [del_ne bt]
  exact s b o e
theorem del_none {H : Hp} {d t : Addr} (n : H t = none) : (del H d) t = none := by
  cases e : (del H d) t with
  | none => rfl
  | some o =>
    have := del_sub (d := d) t o e
    rw [n] at this
    cases this
theorem TkAt.delD {D : Addr} {H : Hp} {t p d : Addr} {pr : List Pq} (h : TkAt D H t p pr) (dr : DrO H d) : TkAt D (del H d) t p pr := by
  obtain ⟨dx, f, b, k, l, h1, h2, h3, h4, h5, h6⟩ := h
  obtain ⟨ns, hd, _⟩ := dr
  have ne : ∀ {z : Addr} {o : HO}, H z = some o → (∀ xs, o ≠ .lst xs) → (del H d) z = some o := fun {z} {o} e no => by
    have : z ≠ d := fun q => by
      rw [q, hd] at e
      cases e
      exact no _ rfl
    rw [del_ne this]
    exact e
  exact ⟨dx, f, b, k, l, ne h1 (fun _ e => by cases e), ne h2 (fun _ e => by cases e), ne h3 (fun _ e => by cases e), ne h4 (fun _ e => by cases e), h5, fun z hz => ne (h6 z hz) (fun _ e => by cases e)⟩
theorem del_comm {H : Hp} {d t : Addr} : del (del H d) t = del (del H t) d := by
  funext b
  by_cases x : b = d
  · by_cases y : b = t
    · rw [x] at y ⊢
      rw [← y]
    · rw [x] at y ⊢
      rw [del_ne y, del_same, del_same]
  · by_cases y : b = t
    · rw [y] at x ⊢
      rw [del_same, del_ne x, del_same]
    · rw [del_ne y, del_ne x, del_ne x, del_ne y]
theorem Lws.delD {C D : Addr} {H : Hp} {t p a c d : Addr} {n : Nat} {q : List Pr} {pr : List Pq} (h : Lws C D H t p a c n q pr) (dr : DrO H d) (W : WebAt C (del (del H d) t) p (n : Int) q) (ad : a ≠ d) (cd : c ≠ d) : Lws C D (del H d) t p a c n q pr := by
  refine ⟨⟨h.tk.few, h.tk.tk.delD dr, W, h.tk.n9⟩, ?_, ?_⟩
  · rw [del_comm, del_ne ad]
    exact h.lf
  · obtain ⟨l, e1, e2, e3⟩ := h.prs
    rw [del_comm]
    refine ⟨l, by rw [del_ne cd]; exact e1, e2, fun z hz => ?_⟩
    have := e3 z hz
    have zd : z.1 ≠ d := fun e => by
      have h3 := del_sub _ _ this
      obtain ⟨ns, hd, _⟩ := dr
      rw [e, hd] at h3
      cases h3
    rw [del_ne zd]
    exact this
/-- the walk's invariant -/
structure WkI (C D : Addr) (H H' : Hp) (d t p a c : Addr) (n : Nat) (q : List Pr) (qs : List Q4) (pr : List Pq) : Prop where
  nt : H t = none
  sm : Same (del H d) H'
  dr : DrO H' d
  lw : Lws C D (del H' d) t p a c n q pr
  co : ∀ x ∈ coreOf n qs, x ∈ left n pr
theorem WkI.next {C D : Addr} {H H' H2 : Hp} {d t p a c : Addr} {n : Nat} {q : List Pr} {qs : List Q4} {pr : List Pq} (I : WkI C D H H' d t p a c n q qs pr) (s : Same (del H' d) H2) (dr : DrO H2 d) : WkI C D H H2 d t p a c n q qs pr :=
  ⟨I.nt, sd_trans I.sm s, dr, I.lw.mono (same_del s), I.co⟩
theorem WkI.up {C D : Addr} {H H' H2 : Hp} {d t p a c : Addr} {n : Nat} {q : List Pr} {qs : List Q4} {pr : List Pq} (I : WkI C D H H' d t p a c n q qs pr) (s : Same H' H2) : WkI C D H H2 d t p a c n q qs pr := I.next (del_sub.trans s) (I.dr.mono s)
theorem stepR_core {qs : List Q4} {n : Nat} {pr pr' : List Pq} {v sv : V} (h : StepR qs n pr v sv pr') (co : ∀ x ∈ coreOf n qs, x ∈ left n pr) : ∀ x ∈ coreOf n qs, x ∈ left n pr' := by
  rcases h with ⟨rfl, _⟩ | ⟨x, b, xl, _, sd, pk, rfl⟩
  · exact co
  · refine core_stays co (x := x) ?_
    cases e : hasE qs (left n pr) x with
    | false => rfl
    | true =>
      cases m : hasM qs (left n pr) x with
      | false => rfl
      | true =>
        rw [e, m] at pk
        unfold pick at pk
        rw [if_neg (fun z => nomatch z.1), if_neg (fun z => nomatch z.1)] at pk
        cases pk
theorem stepR_len {qs : List Q4} {n : Nat} {pr pr' : List Pq} {v sv : V} (h : StepR qs n pr v sv pr') : pr'.length ≤ pr.length + 1 := by
  rcases h with ⟨rfl, _⟩ | ⟨x, b, xl, _, sd, pk, rfl⟩
  · omega
  · rw [List.length_append]
    exact Nat.le_refl _
theorem WkI.step {C D : Addr} {H H' H2 : Hp} {d t p a c a' c' : Addr} {n : Nat} {q : List Pr} {qs : List Q4} {pr pr' : List Pq} {v sv : V} (I : WkI C D H H' d t p a c n q qs pr) (W : WebAt C (del H d) p (n : Int) q) (R : StepR qs n pr v sv pr') (ea : a' = a ∨ H' a' = none) (ec : c' = c ∨ H' c' = none) (s : Same (del H' t) H2) (L : Lws C D H2 t p a' c' n q pr') : WkI C D H H2 d t p a' c' n q qs pr' := by
  have ntd : (del H d) t = none := del_none I.nt
  have sm2 : Same (del H d) H2 := fun b o e => s b o ((same_notin ntd I.sm) b o e)
  obtain ⟨ns, hd, hns⟩ := id I.dr
  obtain ⟨dx, fa, ba, ka, h1⟩ := I.lw.tk.tk.obj
  have h1' := del_sub _ _ h1
  have dt : d ≠ t := fun e => by
    rw [← e, hd] at h1'
    cases h1'
  have dr2 : DrO H2 d := ⟨ns, s _ _ (by rw [del_ne dt]; exact hd), hns⟩
  have old : ∀ {z : Addr} {o : HO}, (del (del H' d) t) z = some o → z ≠ d := fun {z} {o} e q => by
    have := del_sub _ _ e
    rw [q, del_same] at this
    cases this
  refine ⟨I.nt, sm2, dr2, L.delD dr2 (W.mono (same_notin ntd (same_del sm2))) ?_ ?_, stepR_core R I.co⟩
  · rcases ea with rfl | e
    · exact old I.lw.lf
    · intro q
      rw [q, hd] at e
      cases e
  · rcases ec with rfl | e
    · obtain ⟨l, e1, _⟩ := I.lw.prs
      exact old e1
    · intro q
      rw [q, hd] at e
      cases e
theorem QsH.at {H H' : Hp} {d t b : Addr} {qs : List Q4} (h : QsH (del H d) b qs) (nt : H t = none) (s : Same (del H d) H') : QsH (del H' t) b qs := h.mono (same_notin (del_none nt) s)
/-- what the law draws as a side -/
theorem sides_ok {r : Int} (h0 : 0 ≤ r) (h1 : r < 10) : ∃ sv, atI [V.non, .str "front", .str "back", .str "front", .str "back", .non, .str "top", .int 0, .str "Front", .bl true] r = some sv ∧ flatV sv = true ∧ (SdOk sv ∨ ¬ SdOk sv ∧ inV sv [.non, .str "front", .str "back"] = false) := by
  obtain ⟨k, rfl⟩ := Int.eq_ofNat_of_zero_le h0
  have bad : ∀ sv : V, inV sv [.non, .str "front", .str "back"] = false → ¬ SdOk sv := fun sv e h => by
    rw [inV_sd h] at e
    cases e
  have hk : k < 10 := by omega
  have mk : ∀ (sv : V), [V.non, .str "front", .str "back", .str "front", .str "back", .non, .str "top", .int 0, .str "Front", .bl true][k]? = some sv → flatV sv = true → (SdOk sv ∨ inV sv [.non, .str "front", .str "back"] = false) → ∃ sv, atI [V.non, .str "front", .str "back", .str "front", .str "back", .non, .str "top", .int 0, .str "Front", .bl true] (k : Int) = some sv ∧ flatV sv = true ∧ (SdOk sv ∨ ¬ SdOk sv ∧ inV sv [.non, .str "front", .str "back"] = false) := fun sv e f o => ⟨sv, atI_nat e, f, o.elim .inl fun z => .inr ⟨bad sv z, z⟩⟩
  match k, hk with
  | 0, _ => exact mk _ rfl rfl (.inl (.inl rfl))
  | 1, _ => exact mk _ rfl rfl (.inl (.inr (.inl rfl)))
  | 2, _ => exact mk _ rfl rfl (.inl (.inr (.inr rfl)))
  | 3, _ => exact mk _ rfl rfl (.inl (.inr (.inl rfl)))
  | 4, _ => exact mk _ rfl rfl (.inl (.inr (.inr rfl)))
  | 5, _ => exact mk _ rfl rfl (.inl (.inl rfl))
  | 6, _ => exact mk _ rfl rfl (.inr (by decide +kernel))
  | 7, _ => exact mk _ rfl rfl (.inr (by decide +kernel))
  | 8, _ => exact mk _ rfl rfl (.inr (by decide +kernel))
  | 9, _ => exact mk _ rfl rfl (.inr (by decide +kernel))
theorem thv_int {n : Nat} {pr : List Pq} {i : Int} (h : ∀ x ∈ left n pr, (x : Int) ≠ i) : ThV n pr (.int i) (.int i) := ⟨fun _ => .int _, rfl, by simp [PyData.canLay0], by simp [PyData.depth], .inl (.inr ⟨i, rfl, rfl, h⟩)⟩
theorem thv_in {n : Nat} {pr : List Pq} {x : Nat} (h : x ∈ left n pr) : ThV n pr (.int (x : Int)) (.int (x : Int)) := ⟨fun _ => .int _, rfl, by simp [PyData.canLay0], by simp [PyData.depth], .inr ⟨x, h, rfl, rfl⟩⟩
theorem thv_any {n : Nat} {pr : List Pq} {i : Int} (h0 : 0 ≤ i) : ThV n pr (.int i) (.int i) := by
  obtain ⟨k, rfl⟩ := Int.eq_ofNat_of_zero_le h0
  by_cases e : k ∈ left n pr
  · exact thv_in e
  · exact thv_int fun x hx z => by
      have : x = k := by omega
      rw [this] at hx
      exact e hx
theorem odd_ok {n : Nat} (n1 : 1 ≤ n) {r : Int} (h0 : 0 ≤ r) (h1 : r < 7) : ∃ v d, atI [V.int (0 - 1), .int (n : Int), .non, .str "0", .bl true, .bl false, .int (0 - (n : Int))] r = some v ∧ ∀ pr, ThV n pr v d := by
  obtain ⟨k, rfl⟩ := Int.eq_ofNat_of_zero_le h0
  have hk : k < 7 := by omega
  match k, hk with
  | 0, _ => exact ⟨_, _, atI_nat rfl, fun pr => thv_int fun x _ => by omega⟩
  | 1, _ => exact ⟨_, _, atI_nat rfl, fun pr => thv_int fun x hx => by have := (mem_left.mp hx).1; omega⟩
  | 2, _ => exact ⟨_, .none, atI_nat rfl, fun pr => ⟨fun _ => .non, rfl, by simp [PyData.canLay0], by simp [PyData.depth], .inl (.inl rfl)⟩⟩
  | 3, _ => exact ⟨_, .str "0", atI_nat rfl, fun pr => ⟨fun _ => .str _, rfl, str_lay (by decide +kernel), str_dep _, .inl (.inl rfl)⟩⟩
  | 4, _ => exact ⟨_, .bool true, atI_nat rfl, fun pr => ⟨fun _ => .bl _, rfl, by simp [PyData.canLay0], by simp [PyData.depth], .inl (.inl rfl)⟩⟩
  | 5, _ => exact ⟨_, .bool false, atI_nat rfl, fun pr => ⟨fun _ => .bl _, rfl, by simp [PyData.canLay0], by simp [PyData.depth], .inl (.inl rfl)⟩⟩
  | 6, _ => exact ⟨_, _, atI_nat rfl, fun pr => thv_int fun x hx => by omega⟩
end K0
set_option Elab.async false
set_option linter.all false
set_option maxRecDepth 100000
set_option maxHeartbeats 4000000
namespace K0
open PySem PySem.Spec PyProof.Rows L2
abbrev s_lwk : Stmt := top 69
section
variable {P : Program} {w : World} {K : PySem.W.Frag} {mg : Str → Option Value} {base : Heap} {f : Addr} {fd : FuncData}
/-- _law_walk -/
def spLwk (C : Addr) : Sp := fun vs H Q _ => ∃ (d p b : Addr) (n : Nat) (q : List Pr) (qs : List Q4), vs = [.ref d, .ref p, .int (n : Int), .ref b] ∧ 1 ≤ n ∧ n ≤ 9 ∧ DrO H d ∧ WebAt C (del H d) p (n : Int) q ∧ Q4s n q qs ∧ QsH (del H d) b qs ∧ ∀ H' r L, Same (del H d) H' → DrO H' d → (del H' d) r = some (.lst [.bl true, .ref L]) → (del H' d) L = some (.lst (nvs (coreOf n qs))) → Q (.ref r) H'
abbrev lwkN : List Str := ["_law_draws_here", "_law_web", "_law_many", "_law_quads_here", "_law_taking", "_law_left", "_law_pairs", "_law_odd", "_law_sides_here", "_law_step_here", "_law_thing", "_law_side", "_law_done", "_law_able_here", "_law_x"]
theorem sc_lwk : FnScope lwkN ["_law_draws_here", "_law_web", "_law_many", "_law_quads_here"] (defScope s_lwk) := ⟨rfl, rfl, rfl, by decide +kernel, rfl, by decide +kernel, by decide +kernel⟩
theorem lst_at {y z : V} : atI [y, z] 1 = some z := by
  have e : atI [y, z] ((1 : Nat) : Int) = some z := atI_nat rfl
  exact e
theorem lst3 {x y z : V} : atI [x, y, z] 0 = some x ∧ atI [x, y, z] 1 = some y ∧ atI [x, y, z] 2 = some z := by
  have e0 : atI [x, y, z] ((0 : Nat) : Int) = some x := atI_nat rfl
  have e1 : atI [x, y, z] ((1 : Nat) : Int) = some y := atI_nat rfl
  have e2 : atI [x, y, z] ((2 : Nat) : Int) = some z := atI_nat rfl
  exact ⟨e0, e1, e2⟩
theorem ok_lwk {C D : Addr} (F : Fun K "_law_walk" "_law_walk" s_lwk f fd) (B : Blt2 mg) (TKK : TakK P w K mg base D) (TK : Df P w K mg base "_law_take" 1 ["_law_draws_here", "_law_many"] spTk) (LST : Df P w K mg base "_law_step" 10 ["_law_taking", "_law_quads_here", "_law_left", "_law_pairs", "_law_thing", "_law_side", "_law_plain"] (spLst7 C D)) (LAB : Df P w K mg base "_law_able" 3 ["_law_quads_here", "_law_left"] spLab) (SR : Df P w K mg base "_law_same_row" 2 ["_law_told_here", "_law_due_here"] spLsr) (TA : Mt P w K mg base D "take_all" 9 ["self"] (spTa C D)) (ST : Df P w K mg base "_law_state" 3 ["_law_taking", "_law_left", "_law_pairs"] (spSta C D)) : FnOk P w K mg base (L2.CX P w) 11 f fd ["_law_draws_here", "_law_web", "_law_many", "_law_quads_here"] (spLwk C) := by
  refine F.okX sc_lwk (fun vs H Q E h => ?_) (fun cdv A outer s H vs Q E hr h => ?_)
  · obtain ⟨d, p, b, n, q, qs, rfl, _⟩ := h
    rfl
  · obtain ⟨d, p, b, n, q, qs, rfl, n1, n9, dr, W, Z, hq, k⟩ := h
    have nd := sc_lwk.nd
    have r1 : Room 1 _ := hr.mono (by decide)
    have r2 : Room 2 _ := hr.mono (by decide)
    have r3 : Room 3 _ := hr.mono (by decide)
    have r9 : Room 9 _ := hr.mono (by decide)
    have r10 : Room 10 _ := hr.mono (by decide)
    refine' ⟨_, pss_cons ?h1 (pss_cons ?h2 (pss_cons ?h3 (pss_cons ?h4 (pss_cons ?h5 (pss_cons ?h6 (pss_cons ?h7 (pss_one ?h8))))))), ?hz⟩
    case h1 => exact ps_set (i := 4) nd rfl (.inl rfl) (pe_tak TKK r2 (by rfl) passUp (pa_cons (pv 1) pa_nil))
    case h2 => exact (ps_setLc (i := 5) (own := [("_law_x", 14)]) (g := gName 14) (tt := tYes) (te := tVar 14) rfl nd rfl (by rfl) (by rfl) (pi_range1 (by rfl) B.range (pa_cons (pv 2) pa_nil)) (blkOk_by (N := lwkN) (sc := defScope s_lwk) (by decide +kernel)) (fun _ _ _ _ _ => pg_name (i := 14) nd rfl (.inl rfl)) (fun _ _ _ _ _ => pts_nil) (fun _ _ _ _ _ => pv 14))
    case h3 => exact ps_set (i := 6) nd rfl (.inl rfl) (pe_lst pa_nil)
    case h4 => exact ps_set (i := 7) nd rfl (.inl rfl) (pe_lst (pa_cons (pe_op op_sub pe_int pe_int) (pa_cons (pv 2) (pa_cons pe_non (pa_cons pe_str (pa_cons pe_bl (pa_cons pe_bl (pa_cons (pe_op op_sub pe_int (pv 2)) pa_nil))))))))
    case h5 => exact ps_set (i := 8) nd rfl (.inl rfl) (pe_lst (pa_cons pe_non (pa_cons pe_str (pa_cons pe_str (pa_cons pe_str (pa_cons pe_str (pa_cons pe_non (pa_cons pe_str (pa_cons pe_int (pa_cons pe_str (pa_cons pe_bl pa_nil)))))))))))
    case h6 => exact (ps_for (passes_of rfl) rfl (pi_range1 (by rfl) B.range (pa_cons (pe_op op_add (pe_op op_mul pe_int (pv 2)) pe_int) pa_nil)) (pg_name (i := 9) nd rfl (.inl rfl))
        (pss_cons (ps_set (i := 10) nd rfl (.inl rfl) (pe_df TK r1 (by rfl) passUp (pa_cons (pv 0) (pa_cons (pv 2) pa_nil))))
        (pss_cons (ps_set (i := 11) nd rfl (.inl rfl) (pe_ix ix_list (pv 8) (pe_df TK r1 (by rfl) passUp (pa_cons (pv 0) (pa_cons pe_int pa_nil))) (fun _ _ => rfl)))
        (pss_cons (ps_if (pt_cmpR op_eq (pe_df TK r1 (by rfl) passUp (pa_cons (pv 0) (pa_cons pe_int pa_nil))) pe_int (nomark _)) (pss_one (ps_set (i := 10) nd rfl (.inl rfl) (pe_ix ix_list (pv 7) (pe_df TK r1 (by rfl) passUp (pa_cons (pv 0) (pa_cons pe_int pa_nil))) (fun _ _ => rfl)))) pss_nil)
        (pss_cons (ps_set (i := 12) nd rfl (.inl rfl) (pe_df LST r10 (by rfl) passUp (pa_cons (pv 4) (pa_cons (pv 3) (pa_cons (pv 5) (pa_cons (pv 6) (pa_cons (pv 10) (pa_cons (pv 11) (pa_cons pe_bl pa_nil)))))))))
        (pss_cons (ps_if (pt_not (pt_val (pe_ix ix_list (pv 12) pe_int (fun _ _ => rfl)))) (pss_one (ps_ret (pe_lst (pa_cons pe_bl (pa_cons (pv 5) pa_nil))))) pss_nil)
        (pss_cons (ps_set (i := 5) nd rfl (.inl rfl) (pe_ix ix_list (pv 12) pe_int (fun _ _ => rfl)))
        (pss_one (ps_set (i := 6) nd rfl (.inl rfl) (pe_ix ix_list (pv 12) pe_int (fun _ _ => rfl)))))))))))
    case h7 => exact (ps_for (passes_of rfl) rfl (pi_range1 (by rfl) B.range (pa_cons (pv 2) pa_nil)) (pg_name (i := 9) nd rfl (.inl rfl))
        (pss_cons (ps_set (i := 13) nd rfl (.inl rfl) (pe_df LAB r3 (by rfl) passUp (pa_cons (pv 3) (pa_cons (pv 5) pa_nil))))
        (pss_one (ps_if (pt_cmpR op_gt (pe_callB c_len (by rfl) B.len PySem.boot_len (pa_cons (pv 13) pa_nil)) pe_int (by rfl))
          (pss_cons (ps_set (i := 12) nd rfl (.inl rfl) (pe_df LST r10 (by rfl) passUp (pa_cons (pv 4) (pa_cons (pv 3) (pa_cons (pv 5) (pa_cons (pv 6) (pa_cons (pe_ix ix_list (pv 13) (pe_df TK r1 (by rfl) passUp (pa_cons (pv 0) (pa_cons (pe_callB c_len (by rfl) B.len PySem.boot_len (pa_cons (pv 13) pa_nil)) pa_nil))) (fun _ _ => rfl)) (pa_cons pe_non (pa_cons pe_bl pa_nil)))))))))
          (pss_cons (ps_if (pt_not (pt_val (pe_ix ix_list (pv 12) pe_int (fun _ _ => rfl)))) (pss_one (ps_ret (pe_lst (pa_cons pe_bl (pa_cons (pv 5) pa_nil))))) pss_nil)
          (pss_cons (ps_set (i := 5) nd rfl (.inl rfl) (pe_ix ix_list (pv 12) pe_int (fun _ _ => rfl)))
          (pss_one (ps_set (i := 6) nd rfl (.inl rfl) (pe_ix ix_list (pv 12) pe_int (fun _ _ => rfl))))))) pss_nil))))
    case h8 => exact ps_ret (pe_lst (pa_cons (pe_and (pe_df SR r2 (by rfl) passUp (pa_cons (pe_mt0 TA r9 passUp (pv 4)) (pa_cons (pv 5) pa_nil))) (pe_one (pe_df ST r3 (by rfl) passUp (pa_cons (pv 4) (pa_cons (pv 5) (pa_cons (pv 6) pa_nil)))))) (pa_cons (pv 5) pa_nil)))
    case hz =>
    have W0 := W.mono del_sub
    obtain ⟨dx0, c0, m0, l0, hp, _⟩ := id W0.ex
    refine ⟨_, rfl, p, _, rfl, hp, fun H1 t s1 nt TA1 => ?_⟩
    have td : t ≠ d := dr.ne nt
    have dr1 := dr.mono s1
    -- the things
    refine ⟨_, rfl, n, rfl, by omega, by omega, fun L0 nL0 => ?_⟩
    rw [Int.toNat_natCast]
    refine lc_range (lo := 0) (n := n) (fun i H' => Same H1 H' ∧ H' L0 = some (.lst (nvs (List.range i)))) ⟨same_upd nL0, upd_same⟩ (fun i H' hi ⟨sm, hD⟩ => ?_) (fun H2 ⟨s2, hL0⟩ => ?_)
    · refine ⟨rfl, ?_⟩
      rw [Int.zero_add]
      refine ⟨_, rfl, _, hD, by rw [nvs_len, List.length_range, sizeLine_eq]; omega, same_keep nL0 sm, ?_⟩
      rw [upd_same, List.range_succ]
      unfold nvs
      rw [List.map_append]
      rfl
    refine ⟨by show 0 ≤ sizeLine; exact Nat.zero_le _, fun c0 nc0 => ?_⟩
    have s3 := same_upd (o := .lst []) nc0
    have hc0 : (upd H2 c0 (.lst [])) c0 = some (.lst []) := upd_same
    generalize upd H2 c0 (.lst []) = H3 at s3 hc0 ⊢
    refine ⟨_, _, rfl, rfl, _, rfl, _, rfl, _, _, rfl, rfl, by show 7 ≤ sizeLine; decide, fun od nod => ?_⟩
    have s4 := same_upd (o := .lst [V.int (0 - 1), .int (n : Int), .non, .str "0", .bl true, .bl false, .int (0 - (n : Int))]) nod
    have hod : (upd H3 od (.lst [V.int (0 - 1), .int (n : Int), .non, .str "0", .bl true, .bl false, .int (0 - (n : Int))])) od = _ := upd_same
    generalize upd H3 od (.lst [V.int (0 - 1), .int (n : Int), .non, .str "0", .bl true, .bl false, .int (0 - (n : Int))]) = H4 at s4 hod ⊢
    refine ⟨by show 10 ≤ sizeLine; decide, fun sd nsd => ?_⟩
    have s5 := same_upd (o := .lst [V.non, .str "front", .str "back", .str "front", .str "back", .non, .str "top", .int 0, .str "Front", .bl true]) nsd
    have hsd : (upd H4 sd (.lst [V.non, .str "front", .str "back", .str "front", .str "back", .non, .str "top", .int 0, .str "Front", .bl true])) sd = _ := upd_same
    generalize upd H4 sd (.lst [V.non, .str "front", .str "back", .str "front", .str "back", .non, .str "top", .int 0, .str "Front", .bl true]) = H5 at s5 hsd ⊢
    have s25 := s3.trans (s4.trans s5)
    have s15 := s2.trans s25
    have s05 := s1.trans s15
    have dr5 := dr1.mono s15
    have L0d : L0 ≠ d := dr1.ne nL0
    have c0d : c0 ≠ d := (dr1.mono s2).ne nc0
    have odd_ : od ≠ d := (dr1.mono (s2.trans s3)).ne nod
    have sdd : sd ≠ d := (dr1.mono (s2.trans (s3.trans s4))).ne nsd
    have hL5 := s25 _ _ hL0
    have hc5 := (s4.trans s5) _ _ hc0
    have ho5 := s5 _ _ hod
    obtain ⟨dx, fa, ba, ka, ht5⟩ := (TA1.mono s15).obj
    have nel : ∀ {z : Addr} {xs : List V}, H5 z = some (.lst xs) → z ≠ t := fun e q => by
      rw [q, ht5] at e
      cases e
    have inG : ∀ {z : Addr} {xs : List V}, z ≠ d → H5 z = some (.lst xs) → (del (del H5 t) d) z = some (.lst xs) := fun zd e => by
      rw [del_ne zd, del_ne (nel e)]
      exact e
    have sG : Same (del H d) (del (del H5 t) d) := same_del ((same_notin (del_none nt) (del_sub.trans s05)))
    have WG : WebAt C (del (del H5 t) d) p (n : Int) q := W.mono sG
    have hqG : QsH (del (del H5 t) d) b qs := hq.mono sG
    have I0 : WkI C D (del H5 t) H5 d t p L0 c0 n q qs [] := by
      refine ⟨del_same, del_sub.trans del_sub, dr5, ?_, fun x hx => ?_⟩
      · have : Lws C D H5 t p L0 c0 n q [] := ⟨⟨by show 0 ≤ 1000; omega, TA1.mono s15, W.mono ((same_notin (del_none nt) (del_sub.trans s05))), n9⟩, by rw [del_ne (nel hL5), left_nil]; exact hL5, ⟨[], by rw [del_ne (nel hc5)]; exact hc5, rfl, fun z hz => by cases hz⟩⟩
        exact this.delD dr5 (W.mono (same_notin (del_none nt) (same_del (del_sub.trans s05)))) L0d c0d
      · rw [left_nil]
        exact List.mem_range.mpr (by have := shrI_sub n hx; exact List.mem_range.mp this)
    have oG := inG odd_ ho5
    have dG := inG sdd hsd
    generalize del H5 t = G at sG WG hqG I0 oG dG
    -- the end
    have fin : ∀ {H' : Hp} {A L : Addr}, Same (del G d) H' → DrO H' d → H' A = none → H' L = some (.lst (nvs (coreOf n qs))) → L ≠ d → Q (.ref A) (upd H' A (.lst [.bl true, .ref L])) := fun {H' A L} sm dr' nA hL Ld => by
      have Ad := dr'.ne nA
      refine k _ A L (sG.trans ?_) (dr'.upd Ad) (by rw [del_ne Ad, upd_same]) (by rw [del_ne Ld, upd_ne (ne_of_none hL nA)]; exact hL)
      exact sm.trans (same_upd nA)
    -- drawn steps
    let Pv : Nat → L2.St → Hp → Prop := fun i σ H' => ∃ (a c : Addr) (pr : List Pq) (o9 o10 o11 o12 : Option V), σ = [some (.ref d), some (.ref p), some (.int (n : Int)), some (.ref b), some (.ref t), some (.ref a), some (.ref c), some (.ref od), some (.ref sd), o9, o10, o11, o12, none, none] ∧ WkI C D G H' d t p a c n q qs pr ∧ pr.length ≤ i
    refine ⟨_, rfl, _, _, rfl, rfl, .inl ⟨by decide, by decide⟩, _, _, rfl, rfl, 3 * (n : Int) + 4, rfl, by omega, by omega, ?_⟩
    rw [show (3 * (n : Int) + 4).toNat = 3 * n + 4 by omega]
    refine for_range (n := 3 * n + 4) Pv ⟨L0, c0, [], none, none, none, none, rfl, I0, Nat.le_refl _⟩ (fun i σ H6 hi h => ?_) (fun σ H6 h => ?_)
    · obtain ⟨a, c, pr, o9, o10, o11, o12, rfl, I1, bnd⟩ := h
      refine ⟨_, rfl, _, rfl, d, (n : Int), rfl, by omega, I1.dr, fun x H7 x0 xn s7 dr7 => ?_⟩
      have I2 := I1.next s7 dr7
      refine ⟨_, rfl, _, rfl, d, 10, rfl, by decide, dr7, fun y H8 y0 yn s8 dr8 => ?_⟩
      have I3 := I2.next s8 dr8
      obtain ⟨sv, esv, fsv, sdv⟩ := sides_ok y0 yn
      refine ⟨sd, _, y, sv, rfl, rfl, SqL.of (I3.sm _ _ dG), esv, ?_⟩
      refine ⟨_, rfl, d, 6, rfl, by decide, dr8, fun z H9 z0 zn s9 dr9 => ⟨rfl, _, rfl, ?_⟩⟩
      have I4 := I3.next s9 dr9
      have go : ∀ (H' : Hp) (v : V) (dd : PyData), WkI C D G H' d t p a c n q qs pr → ThV n pr v dd →
        tSeq (tAsg (tCall (spLst7 C D) [] E (tCons (tVar 4) (tCons (tVar 3) (tCons (tVar 5) (tCons (tVar 6) (tCons (tVar 10) (tCons (tVar 11) (tCons (tC (.bl false)) tNil)))))))) (gName 12)) (tSeq (tIfS (tNot (tB (tOp (rIxL K) (tVar 12) (tC (.int 0))))) (tRet (tLst (tCons (tC (.bl false)) (tCons (tVar 5) tNil)))) tNext) (tSeq (tAsg (tOp (rIxL K) (tVar 12) (tC (.int 1))) (gName 5)) (tAsg (tOp (rIxL K) (tVar 12) (tC (.int 2))) (gName 6)))) { nx := Pv (i + 1), rt := Q, ct := Pv (i + 1) } [some (.ref d), some (.ref p), some (.int (n : Int)), some (.ref b), some (.ref t), some (.ref a), some (.ref c), some (.ref od), some (.ref sd), some (.int (0 + (i : Int))), some v, some sv, o12, none, none] H' := fun H' v dd I tv => by
        refine ⟨_, rfl, _, rfl, _, rfl, _, rfl, _, rfl, _, rfl, t, p, b, a, c, v, sv, false, dd, n, q, pr, qs, rfl, I.lw.mono del_sub, by omega, Z, hqG.at I.nt I.sm, tv, fsv, sdv, fun z => (nomatch z), fun H2 r a' c' pr' R ea ec nr s2 L2 hr => ?_⟩
        have I' := I.step WG R ea ec s2 L2
        have hr' := del_sub _ _ hr
        refine ⟨_, rfl, r, _, 0, _, rfl, rfl, SqL.of hr', lst3.1, _, rfl, iteF ?_⟩
        refine ⟨_, rfl, r, _, 1, _, rfl, rfl, SqL.of hr', lst3.2.1, ?_⟩
        refine ⟨_, rfl, r, _, 2, _, rfl, rfl, SqL.of hr', lst3.2.2, ?_⟩
        exact ⟨a', c', pr', _, _, _, _, rfl, I', by have := stepR_len R; omega⟩
      rw [dec_int]
      by_cases e : z = 5
      · rw [show (z == 5) = true by simpa using e]
        refine iteT ⟨_, rfl, _, rfl, d, 7, rfl, by decide, dr9, fun u H10 u0 un s10 dr10 => ?_⟩
        obtain ⟨v, dd, ev, tv⟩ := odd_ok n1 u0 un
        have I5 := I4.next s10 dr10
        refine ⟨od, _, u, v, rfl, rfl, SqL.of (I5.sm _ _ oG), ev, ?_⟩
        exact go _ v dd I5 (tv pr)
      · rw [show (z == 5) = false by simpa using e]
        exact iteF (go _ _ _ I4 (thv_any x0))
    obtain ⟨a, c, pr, o9, o10, o11, o12, rfl, I1, bnd⟩ := h
    -- what is left to take
    let Pw : Nat → L2.St → Hp → Prop := fun i σ H' => ∃ (a c : Addr) (pr : List Pq) (o9 o10 o11 o12 o13 : Option V), σ = [some (.ref d), some (.ref p), some (.int (n : Int)), some (.ref b), some (.ref t), some (.ref a), some (.ref c), some (.ref od), some (.ref sd), o9, o10, o11, o12, o13, none] ∧ WkI C D G H' d t p a c n q qs pr ∧ pr.length ≤ 3 * n + 4 + i ∧ ((left n pr).length + i ≤ n ∨ able qs (left n pr) = [])
    refine ⟨_, rfl, n, rfl, by omega, by omega, ?_⟩
    rw [Int.toNat_natCast]
    refine for_range (n := n) Pw ⟨a, c, pr, _, _, _, _, _, rfl, I1, bnd, .inl (left_le n pr)⟩ (fun i σ H6 hi h => ?_) (fun σ H6 h => ?_)
    · obtain ⟨a, c, pr, o9, o10, o11, o12, o13, rfl, I1, bnd, alt⟩ := h
      have ha := del_sub _ _ (del_sub _ _ I1.lw.lf)
      refine ⟨_, rfl, _, rfl, b, a, left n pr, qs, rfl, (hqG.at I1.nt I1.sm).mono del_sub, Z.few, ha, by have := left_le n pr; omega, fun H7 LA s7 nLA hLA => ?_⟩
      have I2 := I1.up s7
      have LAd : LA ≠ d := I1.dr.ne nLA
      refine ⟨_, rfl, LA, _, rfl, .inl (SqL.of hLA), _, _, rfl, rfl, _, rfl, ?_⟩
      rw [nvs_len]
      have xin : ∀ x ∈ able qs (left n pr), x ∈ left n pr ∧ (!hasE qs (left n pr) x || !hasM qs (left n pr) x) = true := fun x hx => List.mem_filter.mp hx
      by_cases e0 : able qs (left n pr) = []
      · rw [show decide ((0 : Int) < ((able qs (left n pr)).length : Nat)) = false by rw [e0]; rfl]
        exact iteF ⟨a, c, pr, _, _, _, _, _, rfl, I2, by omega, .inr e0⟩
      have pos : 0 < (able qs (left n pr)).length := List.length_pos_iff.mpr e0
      rw [show decide ((0 : Int) < ((able qs (left n pr)).length : Nat)) = true from decide_eq_true (by omega)]
      refine iteT ⟨_, rfl, _, rfl, _, rfl, _, rfl, _, rfl, _, rfl, _, rfl, LA, _, rfl, .inl (SqL.of hLA), d, _, rfl, by rw [nvs_len]; omega, I2.dr, fun y H8 y0 yn s8 dr8 => ?_⟩
      have I3 := I2.next s8 dr8
      obtain ⟨j, rfl⟩ := Int.eq_ofNat_of_zero_le y0
      rw [nvs_len] at yn
      have jl : j < (able qs (left n pr)).length := by omega
      have hx := List.getElem?_eq_getElem jl
      have xm := List.getElem_mem jl
      generalize (able qs (left n pr))[j] = x at hx xm
      obtain ⟨xl, xa⟩ := xin x xm
      have hv : (nvs (able qs (left n pr)))[j]? = some (.int (x : Int)) := by
        unfold nvs
        rw [List.getElem?_map, hx]
        rfl
      refine ⟨LA, _, (j : Int), _, rfl, rfl, SqL.of (s8 _ _ (by rw [del_ne LAd]; exact hLA)), atI_nat hv, ?_⟩
      refine ⟨t, p, b, a, c, .int (x : Int), .non, true, .int (x : Int), n, q, pr, qs, rfl, I3.lw.mono del_sub, by omega, Z, hqG.at I3.nt I3.sm, thv_in xl, rfl, .inl (.inl rfl), fun _ => rfl, fun H9 r a' c' pr' R ea ec nr s9 L9 hr => ?_⟩
      have I' := I3.step WG R ea ec s9 L9
      have hr' := del_sub _ _ hr
      refine ⟨_, rfl, r, _, 0, _, rfl, rfl, SqL.of hr', lst3.1, _, rfl, iteF ?_⟩
      refine ⟨_, rfl, r, _, 1, _, rfl, rfl, SqL.of hr', lst3.2.1, ?_⟩
      refine ⟨_, rfl, r, _, 2, _, rfl, rfl, SqL.of hr', lst3.2.2, ?_⟩
      refine ⟨a', c', pr', _, _, _, _, _, rfl, I', by have := stepR_len R; omega, .inl ?_⟩
      rcases R with ⟨_, no⟩ | ⟨x', b', xl', ev, _, pk, rfl⟩
      · exact absurd (pick_able xa) (no x _ xl rfl (.inl rfl))
      · have := left_less (b := b') xl'
        rcases alt with alt | alt
        · omega
        · exact absurd alt e0
    obtain ⟨a, c, pr, o9, o10, o11, o12, o13, rfl, I1, bnd, alt⟩ := h
    have e0 : able qs (left n pr) = [] := by
      rcases alt with alt | alt
      · have : left n pr = [] := List.eq_nil_of_length_eq_zero (by omega)
        rw [this]
        rfl
      · exact alt
    have eC := core_left I1.co e0
    have LL := I1.lw.mono del_sub
    obtain ⟨dx', fa', ba', ka', h1'⟩ := LL.tk.tk.obj
    have ha := del_sub _ _ LL.lf
    have ad : a ≠ d := fun e => by
      have := del_sub _ _ I1.lw.lf
      rw [e, del_same] at this
      cases this
    have dt : d ≠ t := fun e => td e.symm
    refine ⟨_, rfl, t, dx', _, rfl, h1', tkf_no _ _ _ _ (by decide +kernel) (by decide +kernel) (by decide +kernel) (by decide +kernel), ?_⟩
    dsimp only [tNil, List.append_nil]
    refine ⟨t, p, n, q, pr, qs, rfl, LL.tk, by omega, Z, fun H7 e s7 TK7 he => ?_⟩
    rw [grd_nil e0] at TK7 he
    have ha7 := s7 _ _ LL.lf
    refine ⟨_, rfl, e, a, left n pr, rfl, del_sub _ _ he, ha7, by have := left_le n pr; omega, fun H8 s8 => ⟨_, rfl, iteT ?_⟩⟩
    have s78 : Same (del H6 t) H8 := s7.trans s8
    refine ⟨_, rfl, _, rfl, _, rfl, t, a, c, p, n, q, pr, rfl, TK7.mono s8, s8 _ _ ha7, LL.prs.mono s78, fun H9 s9 => ?_⟩
    have s79 := s78.trans s9
    have ha9 := s79 _ _ LL.lf
    rw [eC] at ha9
    refine ⟨_, rfl, by show 2 ≤ sizeLine; decide, fun r nr => ?_⟩
    obtain ⟨ns, hd, hns⟩ := I1.dr
    exact fin ((same_notin (del_none I1.nt) I1.sm).trans s79) ⟨ns, s79 _ _ (by rw [del_ne dt]; exact hd), hns⟩ nr ha9 ad
end
end K0
set_option Elab.async false
set_option linter.all false
set_option maxRecDepth 100000
set_option maxHeartbeats 4000000
namespace K0
open PySem PySem.Spec PyProof.Rows L2
abbrev s_llf : Stmt := top 70
theorem nfW {K : PySem.W.Frag} {C : Addr} : PySem.W.notFirst K C (.ref C) = true := by simp [PySem.W.notFirst]
theorem PrH.delT {D : Addr} {H : Hp} {t p c : Addr} {pr pr2 : List Pq} (h : PrH H c pr) (T : TkAt D H t p pr2) : PrH (del H t) c pr := by
  obtain ⟨dx, fa, ba, ka, h1⟩ := T.obj
  obtain ⟨l, e1, e2, e3⟩ := h
  have ne : ∀ {z : Addr} {o : HO}, H z = some o → (∀ C' dx' fs', o ≠ .ins C' dx' fs') → (del H t) z = some o := fun {z o} e no => by
    have : z ≠ t := fun q => by
      rw [q, h1] at e
      cases e
      exact no _ _ _ rfl
    rw [del_ne this]
    exact e
  exact ⟨l, ne e1 (fun _ _ _ e => by cases e), e2, fun z hz => ne (e3 z hz) (fun _ _ _ e => by cases e)⟩
theorem lst_delT {D : Addr} {H : Hp} {t p a : Addr} {xs : List V} {pr : List Pq} (h : H a = some (.lst xs)) (T : TkAt D H t p pr) : (del H t) a = some (.lst xs) := by
  obtain ⟨dx, fa, ba, ka, h1⟩ := T.obj
  have : a ≠ t := fun q => by
    rw [q, h1] at h
    cases h
  rw [del_ne this]
  exact h
theorem PrH.push {H : Hp} {l : List (Addr × Pq)} {u c : Addr} {x : Nat} {y : Bool} (hl : ∀ z ∈ l, H z.1 = some (.tup [.int (z.2.1 : Int), .str (sideS z.2.2)])) (hu : H u = some (.tup [.int (x : Int), .str (sideS y)])) (hc : H c = some (.lst ((l.map fun z => V.ref z.1) ++ [.ref u]))) : PrH H c (l.map (·.2) ++ [(x, y)]) := by
  refine ⟨l ++ [(u, (x, y))], by rw [hc, List.map_append]; rfl, by rw [List.map_append]; rfl, fun z hz => ?_⟩
  rcases List.mem_append.mp hz with hz | hz
  · exact hl z hz
  · rw [List.mem_singleton.mp hz]
    exact hu
section
variable {P : Program} {w : World} {K : PySem.W.Frag} {mg : Str → Option Value} {base : Heap} {f : Addr} {fd : FuncData}
/-- a first take, or none -/
def One (n : Nat) (qs : List Q4) (pr : List Pq) : Prop := pr = [] ∨ ∃ x b, pr = [(x, b)] ∧ x < n ∧ pick (hasE qs (List.range n) x) (hasM qs (List.range n) x) (.str (sideS b)) = some b
/-- _law_least_first -/
def spLlf (C : Addr) : Sp := fun vs H Q _ => ∃ (p b c : Addr) (n : Nat) (q : List Pr) (qs : List Q4) (pr : List Pq), vs = [.ref p, .int (n : Int), .ref b, .ref c] ∧ 1 ≤ n ∧ n ≤ 9 ∧ WebAt C H p (n : Int) q ∧ Q4s n q qs ∧ QsH H b qs ∧ PrH H c pr ∧ One n qs pr ∧ Ret (.bl true) H Q
abbrev llfN : List Str := ["_law_web", "_law_many", "_law_quads_here", "_law_pairs", "_law_taking", "_law_left", "_law_pair", "_law_step_here", "_law_able_here", "_law_side", "_law_turn", "_law_x"]
theorem sc_llf : FnScope llfN ["_law_web", "_law_many", "_law_quads_here", "_law_pairs"] (defScope s_llf) := ⟨rfl, rfl, rfl, by decide +kernel, rfl, by decide +kernel, by decide +kernel⟩
theorem ok_llf {C D : Addr} (F : Fun K "_law_least_first" "_law_least_first" s_llf f fd) (B : Blt2 mg) (T : TakC K D) (TKK : TakK P w K mg base D) (LT : Df P w K mg base "_law_told" 9 ["_law_taking", "_law_thing", "_law_side", "_law_plain"] (spLto C D)) (LAB : Df P w K mg base "_law_able" 3 ["_law_quads_here", "_law_left"] spLab) (LE : Df P w K mg base "_law_no_end" 2 ["_law_quads_here", "_law_left", "_law_x"] (spLn7 hasE)) (SR : Df P w K mg base "_law_same_row" 2 ["_law_told_here", "_law_due_here"] spLsr) (TA : Mt P w K mg base D "take_all" 9 ["self"] (spTa C D)) (ST : Df P w K mg base "_law_state" 3 ["_law_taking", "_law_left", "_law_pairs"] (spSta C D)) (EQ : Mt P w K mg base C "__eq__" 1 ["self", "other"] (spEqW C)) : FnOk P w K mg base (L2.CX P w) 10 f fd ["_law_web", "_law_many", "_law_quads_here", "_law_pairs"] (spLlf C) := by
  refine F.okX sc_llf (fun vs H Q E h => ?_) (fun cdv A outer s H vs Q E hr h => ?_)
  · obtain ⟨p, b, c, n, q, qs, pr, rfl, _⟩ := h
    rfl
  · obtain ⟨p, b, c, n, q, qs, pr, rfl, n1, n9, W, Z, hq, hpr, one, k⟩ := h
    have nd := sc_llf.nd
    have r1 : Room 1 _ := hr.mono (by decide)
    have r2 : Room 2 _ := hr.mono (by decide)
    have r3 : Room 3 _ := hr.mono (by decide)
    have r9 : Room 9 _ := hr.mono (by decide)
    have hu : (A.deeper (envOfC "_law_least_first" (defScope s_llf) s.heap.objs.size f cdv)).units + 64 < cLine := by have := hr.un; omega
    refine' ⟨_, pss_cons ?h1 (pss_cons ?h2 (pss_cons ?h3 (pss_cons ?h4 (pss_cons ?h5 (pss_one ?h6))))), ?hz⟩
    case h1 => exact ps_set (i := 4) nd rfl (.inl rfl) (pe_tak TKK r2 (by rfl) passUp (pa_cons (pv 0) pa_nil))
    case h2 => exact (ps_setLc (i := 5) (own := [("_law_x", 11)]) (g := gName 11) (tt := tYes) (te := tVar 11) rfl nd rfl (by rfl) (by rfl) (pi_range1 (by rfl) B.range (pa_cons (pv 1) pa_nil)) (blkOk_by (N := llfN) (sc := defScope s_llf) (by decide +kernel)) (fun _ _ _ _ _ => pg_name (i := 11) nd rfl (.inl rfl)) (fun _ _ _ _ _ => pts_nil) (fun _ _ _ _ _ => pv 11))
    case h3 => exact (ps_for (passes_of rfl) rfl (pi_list (pv 3)) (pg_name (i := 6) nd rfl (.inr rfl))
        (pss_cons (ps_setLc (i := 5) (own := [("_law_x", 11)]) (g := gName 11) (tt := tTest (tOp rNe (tVar 11) (tOp (rIxT K) (tVar 6) (tC (.int 0))))) (te := tVar 11) rfl nd rfl (by rfl) (by rfl) (pi_list (pv 5)) (blkOk_by (N := llfN) (sc := defScope s_llf) (by decide +kernel)) (fun _ _ _ _ _ => pg_name (i := 11) nd rfl (.inl rfl)) (fun _ _ _ _ _ => pts_one (pt_cmpR op_ne (pv 11) (pe_ix ix_tup (pv 6) pe_int (fun _ _ => rfl)) (by rfl))) (fun _ _ _ _ _ => pv 11))
        (pss_one (ps_if (pt_cmpR (op_neD hu) (pe_df LT r9 (by rfl) passUp (pa_cons (pv 4) (pa_cons (pe_ix ix_tup (pv 6) pe_int (fun _ _ => rfl)) (pa_cons (pe_ix ix_tup (pv 6) pe_int (fun _ _ => rfl)) (pa_cons pe_bl pa_nil))))) (pe_lst (pa_cons pe_str (pa_cons (pe_ix ix_tup (pv 6) pe_int (fun _ _ => rfl)) pa_nil))) (by rfl)) (pss_one (ps_ret pe_bl)) pss_nil))))
    case h4 => exact (ps_for (passes_of rfl) rfl (pi_range1 (by rfl) B.range (pa_cons (pv 1) pa_nil)) (pg_name (i := 7) nd rfl (.inl rfl))
        (pss_cons (ps_set (i := 8) nd rfl (.inr rfl) (pe_df LAB r3 (by rfl) passUp (pa_cons (pv 2) (pa_cons (pv 5) pa_nil))))
        (pss_one (ps_if (pt_cmpR op_gt (pe_callB c_len (by rfl) B.len PySem.boot_len (pa_cons (pv 8) pa_nil)) pe_int (by rfl))
          (pss_cons (ps_set (i := 9) nd rfl (.inl rfl) pe_str)
          (pss_cons (ps_if (pt_val (pe_df LE r2 (by rfl) passUp (pa_cons (pv 2) (pa_cons (pv 5) (pa_cons (pe_ix ix_list (pv 8) pe_int (fun _ _ => rfl)) pa_nil))))) (pss_one (ps_set (i := 9) nd rfl (.inl rfl) pe_str)) pss_nil)
          (pss_cons (ps_setLc (i := 5) (own := [("_law_x", 11)]) (g := gName 11) (tt := tTest (tOp rNe (tVar 11) (tOp (rIxL K) (tVar 8) (tC (.int 0))))) (te := tVar 11) rfl nd rfl (by rfl) (by rfl) (pi_list (pv 5)) (blkOk_by (N := llfN) (sc := defScope s_llf) (by decide +kernel)) (fun _ _ _ _ _ => pg_name (i := 11) nd rfl (.inl rfl)) (fun _ _ _ _ _ => pts_one (pt_cmpR op_ne (pv 11) (pe_ix ix_list (pv 8) pe_int (fun _ _ => rfl)) (by rfl))) (fun _ _ _ _ _ => pv 11))
          (pss_one (ps_set (i := 3) nd rfl (.inl rfl) (pe_op op_cat (pv 3) (pe_lst (pa_cons (pe_tup (pa_cons (pe_ix ix_list (pv 8) pe_int (fun _ _ => rfl)) (pa_cons (pv 9) pa_nil))) pa_nil))))))))
          pss_nil))))
    case h5 => exact (ps_for (passes_of rfl) rfl (pi_range1 (by rfl) B.range (pa_cons pe_int pa_nil)) (pg_name (i := 10) nd rfl (.inl rfl))
        (pss_one (ps_if (PW.pt (pw_or (pt_not (pt_val (pe_df SR r2 (by rfl) passUp (pa_cons (pe_mt0 TA r9 passUp (pv 4)) (pa_cons (pv 5) pa_nil))))) (pw_or1 (pt_not (pt_val (pe_df ST r3 (by rfl) passUp (pa_cons (pv 4) (pa_cons (pv 5) (pa_cons (pv 3) pa_nil))))))))) (pss_one (ps_ret pe_bl)) pss_nil)))
    case h6 => exact ps_ret (pe_cmpR (op_eqO EQ r1 passUp) (pe_fld (pv 4) rfl) (pv 0) (by rfl))
    case hz =>
    have at1 : ∀ (y : V) (z : V), atI [y, z] 1 = some z := fun y z => lst_at
    have at0 : ∀ (y : V) (z : V), atI [y, z] 0 = some y := fun y z => by
      have e : atI [y, z] ((0 : Nat) : Int) = some y := atI_nat rfl
      exact e
    have pr1 : pr.length ≤ 1 := by
      rcases one with rfl | ⟨x, y, rfl, _⟩
      · exact Nat.zero_le _
      · exact Nat.le_refl _
    obtain ⟨dx0, c00, m0, l0, hp, _⟩ := id W.ex
    refine ⟨_, rfl, p, _, rfl, hp, fun H1 t s1 nt TA1 => ?_⟩
    -- the things
    refine ⟨_, rfl, n, rfl, by omega, by omega, fun L0 nL0 => ?_⟩
    rw [Int.toNat_natCast]
    refine lc_range (lo := 0) (n := n) (fun i H' => Same H1 H' ∧ H' L0 = some (.lst (nvs (List.range i)))) ⟨same_upd nL0, upd_same⟩ (fun i H' hi ⟨sm, hD⟩ => ?_) (fun H2 ⟨s2, hL0⟩ => ?_)
    · refine ⟨rfl, ?_⟩
      rw [Int.zero_add]
      refine ⟨_, rfl, _, hD, by rw [nvs_len, List.length_range, sizeLine_eq]; omega, same_keep nL0 sm, ?_⟩
      rw [upd_same, List.range_succ]
      unfold nvs
      rw [List.map_append]
      rfl
    have s02 := s1.trans s2
    have TK2 : TkW C D H2 t p n q [] := ⟨by show 0 ≤ 1000; omega, TA1.mono s2, W.mono (same_notin nt s02), n9⟩
    obtain ⟨l, hc, el, hl⟩ := id hpr
    -- the pairs told
    let P1 : Nat → L2.St → Hp → Prop := fun i σ H' => ∃ (a : Addr) (o6 : Option V), σ = [some (.ref p), some (.int (n : Int)), some (.ref b), some (.ref c), some (.ref t), some (.ref a), o6, none, none, none, none, none] ∧ Same H H' ∧ TkW C D H' t p n q (pr.take i) ∧ H' a = some (.lst (nvs (left n (pr.take i))))
    refine ⟨_, rfl, c, rfl, ⟨_, SqL.of (s02 _ _ hc)⟩, for_it (walk_list (K := K) (a := c) (xs := l.map fun z => V.ref z.1)) P1 ⟨L0, none, rfl, s02, TK2, by rw [List.take_zero, left_nil]; exact hL0⟩ (fun i σ H' _ h => ?_) (fun i v σ Hx H3 hi h y => ?_) (fun σ H3 h => ?_)⟩
    · obtain ⟨_, _, _, sm, _⟩ := h
      exact SqL.of (sm _ _ hc)
    · obtain ⟨a, o6, rfl, s3, TK3, ha⟩ := h
      obtain ⟨rfl, hv⟩ := y
      rw [List.length_map] at hi
      have ll : l.length = pr.length := by rw [← el, List.length_map]
      have i0 : i = 0 := by omega
      subst i0
      rw [List.take_zero] at TK3 ha
      have hli : l[0]? = some l[0] := List.getElem?_eq_getElem hi
      rw [List.getElem?_map, hli] at hv
      cases hv
      have hz := hl _ (List.getElem_mem hi)
      have epr : pr.take (0 + 1) = [l[0].2] := by
        rw [← el, ← List.map_take]
        match l, hi with
        | z :: r, _ => rfl
      have opr : pr = [l[0].2] := by
        rw [← epr, List.take_of_length_le (by omega)]
      generalize l[0] = z at hz epr opr
      obtain ⟨za, x, y⟩ := z
      have pk : x < n ∧ pick (hasE qs (List.range n) x) (hasM qs (List.range n) x) (.str (sideS y)) = some y := by
        rcases one with e | ⟨x', y', e, e1, e2⟩
        · rw [e] at opr
          cases opr
        · rw [e] at opr
          cases opr
          exact ⟨e1, e2⟩
      have xl : x ∈ left n [] := by rw [left_nil]; exact List.mem_range.mpr pk.1
      refine ⟨_, rfl, a, rfl, ⟨_, SqL.of ha⟩, fun D1 nD1 => ?_⟩
      refine lc_it (walk_list (K := K) (a := a) (xs := nvs (left n []))) (fun i H' => Same H3 H' ∧ H' D1 = some (.lst (nvs (((left n []).take i).filter fun z => !decide (z = x))))) ⟨same_upd nD1, upd_same⟩ (fun i H' _ z => SqL.of (z.1 _ _ ha)) (fun i v Hx H' hi z yy => ?_) (fun H4 z => ?_)
      · obtain ⟨rfl, hv⟩ := yy
        obtain ⟨sm, hD⟩ := z
        obtain ⟨z, hz', rfl⟩ := nvs_val hv
        refine ⟨rfl, _, rfl, _, rfl, za, _, 0, .int (x : Int), rfl, rfl, SqT.of (sm _ _ (s3 _ _ hz)), at0 _ _, rfl, _, rfl, ?_⟩
        rw [dec_int]
        by_cases e1 : z = x
        · rw [show (!(((z : Nat) : Int) == ((x : Nat) : Int))) = false by rw [beq_iff_eq.mpr (by omega)]; rfl]
          refine iteF ⟨sm, ?_⟩
          rw [snocF hz', if_neg (by rw [decide_eq_true e1]; exact Bool.false_ne_true), List.append_nil]
          exact hD
        · rw [show (!(((z : Nat) : Int) == ((x : Nat) : Int))) = true by rw [beq_eq_false_iff_ne.mpr (by omega)]; rfl]
          refine iteT ⟨_, rfl, _, hD, ?_, same_keep nD1 sm, ?_⟩
          · rw [nvs_len, sizeLine_eq]
            have h7 := List.length_filter_le (fun z => !decide (z = x)) ((left n []).take i)
            have h8 := left_le n []
            rw [List.length_take] at h7
            omega
          · rw [upd_same, snocF hz', if_pos (by rw [decide_eq_false e1]; rfl)]
            unfold nvs
            rw [List.map_append]
            rfl
      obtain ⟨s4, hD1⟩ := z
      rw [nvs_len, List.take_length, ← left_snoc (b := y), List.nil_append] at hD1
      have s34 := s3.trans s4
      have hz4 := s34 _ _ hz
      have TK4 := TK3.mono s4
      refine ⟨_, rfl, _, rfl, za, _, 0, .int (x : Int), rfl, rfl, SqT.of hz4, at0 _ _, _, rfl, za, _, 1, .str (sideS y), rfl, rfl, SqT.of hz4, at1 _ _, ?_⟩
      have sOk : PyData.strOk (sideS y) = true := by cases y <;> decide +kernel
      refine ⟨t, p, .int (x : Int), .str (sideS y), false, .int (x : Int), n, q, [], qs, rfl, TK4, by show 0 ≤ 900; omega, Z, .int _, rfl, rfl, .inr ⟨x, xl, rfl, rfl, .inr (.inr ⟨y, ?_, ?_, fun H5 r s5 TK5 hr5 => ?_⟩)⟩⟩
      · rw [if_neg Bool.false_ne_true]
        cases y
        · exact .inr (.inr rfl)
        · exact .inr (.inl rfl)
      · rw [if_neg Bool.false_ne_true, left_nil]
        exact pk.2
      rw [List.nil_append] at TK5
      have nl : ∀ {z : Addr} {xs : List V}, H4 z = some (.lst xs) → H5 z = some (.lst xs) := fun e => s5 _ _ (lst_delT e TK4.tk)
      have s05 : Same H H5 := (same_notin nt s34).trans s5
      refine ⟨_, rfl, za, _, 1, .str (sideS y), rfl, rfl, SqT.of (s05 _ _ hz), at1 _ _, by show 2 ≤ sizeLine; decide, fun r2 nr2 => ?_⟩
      have v := same_upd (o := .lst [.str "laid", .str (sideS y)]) nr2
      refine ne_kv (v _ _ (del_sub _ _ hr5)) upd_same (.str _) (by decide +kernel) (str_lay sOk) (str_dep _) ⟨_, rfl, iteF ?_⟩
      exact ⟨D1, _, rfl, s05.trans v, by rw [epr]; exact TK5.mono v, by rw [epr]; exact v _ _ (nl hD1)⟩
    obtain ⟨a, o6, rfl, s3, TK3, ha⟩ := h
    rw [List.length_map, show l.length = pr.length by rw [← el, List.length_map], List.take_of_length_le (Nat.le_refl _)] at TK3 ha
    -- the least first, by hand
    let P2 : Nat → L2.St → Hp → Prop := fun i σ H' => ∃ (a c' : Addr) (pr' : List Pq) (o7 o8 o9 : Option V), σ = [some (.ref p), some (.int (n : Int)), some (.ref b), some (.ref c'), some (.ref t), some (.ref a), o6, o7, o8, o9, none, none] ∧ Same H3 H' ∧ H' a = some (.lst (nvs (left n pr'))) ∧ PrH H' c' pr' ∧ grd qs n n pr' = grd qs n n pr ∧ pr'.length ≤ pr.length + i ∧ ((left n pr').length + i ≤ n ∨ able qs (left n pr') = [])
    refine ⟨_, rfl, n, rfl, by omega, by omega, ?_⟩
    rw [Int.toNat_natCast]
    refine for_range (n := n) P2 ⟨a, c, pr, none, none, none, rfl, .refl _, ha, hpr.mono s3, rfl, by omega, .inl (left_le n pr)⟩ (fun i σ H4 hi h => ?_) (fun σ H4 h => ?_)
    · obtain ⟨a, c', pr', o7, o8, o9, rfl, s4, ha, hpr', eg, bnd, alt⟩ := h
      have s04 := s3.trans s4
      refine ⟨_, rfl, _, rfl, b, a, left n pr', qs, rfl, hq.mono s04, Z.few, ha, by have := left_le n pr'; omega, fun H5 LA s5 nLA hLA => ?_⟩
      refine ⟨_, rfl, LA, _, rfl, .inl (SqL.of hLA), _, _, rfl, rfl, _, rfl, ?_⟩
      rw [nvs_len]
      cases ea : able qs (left n pr') with
      | nil =>
        rw [show decide ((0 : Int) < ((([] : List Nat).length : Nat) : Int)) = false from rfl]
        exact iteF ⟨a, c', pr', _, _, _, rfl, s4.trans s5, s5 _ _ ha, hpr'.mono s5, eg, by omega, .inr ea⟩
      | cons x r =>
        rw [ea] at hLA
        obtain ⟨xl, xa⟩ := able_mem ea
        have hx0 : atI (nvs (x :: r)) 0 = some (.int (x : Int)) := by
          have e : atI (nvs (x :: r)) ((0 : Nat) : Int) = some (.int (x : Int)) := atI_nat rfl
          exact e
        rw [show decide ((0 : Int) < (((x :: r).length : Nat) : Int)) = true from decide_eq_true (by rw [List.length_cons]; omega)]
        have go : ∀ (H6 : Hp), Same H5 H6 → tSeq (tAsg (tLc (iList K (tVar 5)) (gName 11) (tTest (tOp rNe (tVar 11) (tOp (rIxL K) (tVar 8) (tC (.int 0))))) (tVar 11) [11]) (gName 5)) (tAsg (tOp rCat (tVar 3) (tLst (tCons (tTup (tCons (tOp (rIxL K) (tVar 8) (tC (.int 0))) (tCons (tVar 9) tNil))) tNil))) (gName 3)) { nx := P2 (i + 1), rt := Q, ct := P2 (i + 1) } [some (.ref p), some (.int (n : Int)), some (.ref b), some (.ref c'), some (.ref t), some (.ref a), o6, some (.int (0 + (i : Int))), some (.ref LA), some (.str (sideS (!hasE qs (left n pr') x))), none, none] H6 := fun H6 s6 => by
          have s56 := s5.trans s6
          have hLA6 := s6 _ _ hLA
          have ha6 := s56 _ _ ha
          refine ⟨_, rfl, a, rfl, ⟨_, SqL.of ha6⟩, fun D1 nD1 => ?_⟩
          refine lc_it (walk_list (K := K) (a := a) (xs := nvs (left n pr'))) (fun i H' => Same H6 H' ∧ H' D1 = some (.lst (nvs (((left n pr').take i).filter fun z => !decide (z = x))))) ⟨same_upd nD1, upd_same⟩ (fun i H' _ z => SqL.of (z.1 _ _ ha6)) (fun i v Hx H' hi z yy => ?_) (fun H7 z => ?_)
          · obtain ⟨rfl, hv⟩ := yy
            obtain ⟨sm, hD⟩ := z
            obtain ⟨z, hz', rfl⟩ := nvs_val hv
            refine ⟨rfl, _, rfl, _, rfl, LA, _, 0, .int (x : Int), rfl, rfl, SqL.of (sm _ _ hLA6), hx0, rfl, _, rfl, ?_⟩
            rw [dec_int]
            by_cases e1 : z = x
            · rw [show (!(((z : Nat) : Int) == ((x : Nat) : Int))) = false by rw [beq_iff_eq.mpr (by omega)]; rfl]
              refine iteF ⟨sm, ?_⟩
              rw [snocF hz', if_neg (by rw [decide_eq_true e1]; exact Bool.false_ne_true), List.append_nil]
              exact hD
            · rw [show (!(((z : Nat) : Int) == ((x : Nat) : Int))) = true by rw [beq_eq_false_iff_ne.mpr (by omega)]; rfl]
              refine iteT ⟨_, rfl, _, hD, ?_, same_keep nD1 sm, ?_⟩
              · rw [nvs_len, sizeLine_eq]
                have h7 := List.length_filter_le (fun z => !decide (z = x)) ((left n pr').take i)
                have h8 := left_le n pr'
                rw [List.length_take] at h7
                omega
              · rw [upd_same, snocF hz', if_pos (by rw [decide_eq_false e1]; rfl)]
                unfold nvs
                rw [List.map_append]
                rfl
          obtain ⟨s7, hD1⟩ := z
          rw [nvs_len, List.take_length, ← left_snoc (b := !hasE qs (left n pr') x)] at hD1
          have s57 := s56.trans s7
          obtain ⟨l', hc', el', hl'⟩ := id hpr'
          have ll' : l'.length = pr'.length := by rw [← el', List.length_map]
          refine ⟨_, rfl, _, rfl, LA, _, 0, .int (x : Int), rfl, rfl, SqL.of (s7 _ _ hLA6), hx0, _, rfl, ?_⟩
          refine ⟨by show 2 ≤ sizeLine; decide, fun u1 w1 => ⟨by show 1 ≤ sizeLine; decide, fun u2 w2 => ?_⟩⟩
          have v1 := same_upd (o := .tup [.int (x : Int), .str (sideS (!hasE qs (left n pr') x))]) w1
          have g1 : (upd H7 u1 (.tup [.int (x : Int), .str (sideS (!hasE qs (left n pr') x))])) u1 = some (.tup [.int (x : Int), .str (sideS (!hasE qs (left n pr') x))]) := upd_same
          have v2' := same_upd (o := .lst [.ref u1]) w2
          have v2 := v1.trans v2'
          refine ⟨c', u2, _, _, rfl, rfl, v2 _ _ (s57 _ _ hc'), upd_same, by rw [List.length_map, ll', sizeLine_eq]; show _ + 1 ≤ _; omega, fun c2 nc2 => ?_⟩
          have v3' := same_upd (o := .lst ((l'.map fun z => V.ref z.1) ++ [.ref u1])) nc2
          have v3 := v2.trans v3'
          have s8 := s57.trans v3
          refine ⟨D1, c2, pr' ++ [(x, !hasE qs (left n pr') x)], _, _, _, rfl, s4.trans s8, v3 _ _ hD1, ?_, ?_, ?_, .inl ?_⟩
          · have := PrH.push (H := upd (upd (upd H7 u1 (.tup [.int (x : Int), .str (sideS (!hasE qs (left n pr') x))])) u2 (.lst [.ref u1])) c2 (.lst ((l'.map fun z => V.ref z.1) ++ [.ref u1]))) (l := l') (u := u1) (c := c2) (x := x) (y := !hasE qs (left n pr') x) (fun z hz => s8 _ _ (hl' z hz)) ((v2'.trans v3') _ _ g1) upd_same
            rw [el'] at this
            exact this
          · rw [← eg, grd_step ea]
          · rw [List.length_append]
            show _ + 1 ≤ _
            omega
          · have := left_less (b := !hasE qs (left n pr') x) xl
            rcases alt with alt | alt
            · omega
            · rw [alt] at ea
              cases ea
        refine iteT ⟨_, rfl, _, rfl, _, rfl, LA, _, 0, .int (x : Int), rfl, rfl, SqL.of hLA, hx0, b, a, x, left n pr', qs, rfl, hq.mono (s04.trans s5), Z.few, s5 _ _ ha, fun H6 s6 => ⟨_, rfl, ?_⟩⟩
        cases e : hasE qs (left n pr') x with
        | false =>
          rw [e] at go
          exact iteT (go H6 s6)
        | true =>
          rw [e] at go
          exact iteF (go H6 s6)
    obtain ⟨a, c', pr', o7, o8, o9, rfl, s4, ha, hpr', eg, bnd, alt⟩ := h
    have e0 : able qs (left n pr') = [] := by
      rcases alt with alt | alt
      · have : left n pr' = [] := List.eq_nil_of_length_eq_zero (by omega)
        rw [this]
        rfl
      · exact alt
    have eG : grd qs n n pr = pr' := by rw [← eg, grd_nil e0]
    have TK4 := TK3.mono s4
    have ha4 := lst_delT ha TK4.tk
    have hp4 := hpr'.delT TK4.tk
    let P3 : Nat → L2.St → Hp → Prop := fun i σ H' => ∃ (prc : List Pq) (o10 : Option V), σ = [some (.ref p), some (.int (n : Int)), some (.ref b), some (.ref c'), some (.ref t), some (.ref a), o6, o7, o8, o9, o10, none] ∧ Same (del H4 t) H' ∧ TkW C D H' t p n q prc ∧ grd qs n n prc = pr' ∧ prc.length ≤ 100
    refine ⟨2, rfl, by decide, by decide, for_range (n := 2) P3 ⟨pr, none, rfl, del_sub, TK4, eG, by omega⟩ (fun i σ H5 hi h => ?_) (fun σ H5 h => ?_)⟩
    · obtain ⟨prc, o10, rfl, s5, TK5, eg5, b5⟩ := h
      obtain ⟨dx', fa', ba', ka', h1'⟩ := TK5.tk.obj
      refine ⟨_, rfl, t, dx', _, rfl, h1', tkf_no _ _ _ _ (by decide +kernel) (by decide +kernel) (by decide +kernel) (by decide +kernel), ?_⟩
      dsimp only [tNil, List.append_nil]
      refine ⟨t, p, n, q, prc, qs, rfl, TK5, by omega, Z, fun H6 e s6 TK6 he => ?_⟩
      rw [eg5] at TK6 he
      have s46 : Same (del H4 t) H6 := same_trd' s5 s6
      refine ⟨_, rfl, e, a, left n pr', rfl, del_sub _ _ he, s46 _ _ ha4, by have := left_le n pr'; omega, fun H7 s7 => ⟨_, rfl, iteF ?_⟩⟩
      have s47 := s46.trans s7
      refine ⟨_, rfl, _, rfl, _, rfl, t, a, c', p, n, q, pr', rfl, TK6.mono s7, s47 _ _ ha4, hp4.mono s47, fun H8 s8 => ⟨_, rfl, iteF ?_⟩⟩
      exact ⟨pr', _, rfl, s47.trans s8, TK6.mono (s7.trans s8), grd_nil e0 n, by omega⟩
    obtain ⟨prc, o10, rfl, s5, TK5, _, _⟩ := h
    obtain ⟨dx', fa', ba', ka', h1'⟩ := TK5.tk.obj
    obtain ⟨dxw, cw, mw, lw, hpw, _⟩ := id TK5.wb.ex
    refine ⟨_, rfl, t, D, dx', _, _, rfl, h1', T.cl, T.nw, tkf_web _ _ _ _, _, rfl, p, dxw, _, .ref C, rfl, hpw, .ins hpw, nfW, p, .ref p, n, q, rfl, TK5.wb, .inl ⟨p, n, q, rfl, TK5.wb, fun H6 s6 => ⟨_, rfl, ?_⟩⟩⟩
    rw [decide_eq_true rfl, decide_eq_true rfl]
    exact k H6 ((same_notin nt (s3.trans s4)).trans (s5.trans s6))
end
end K0
set_option Elab.async false
set_option linter.all false
set_option maxRecDepth 100000
set_option maxHeartbeats 4000000
namespace K0
open PySem PySem.Spec PyProof.Rows L2
theorem new_del {H0 H : Hp} {d : Addr} (hd : H0 d ≠ none) : Same (New H0 H) (del H d) := fun b o e => by
  unfold New at e
  cases h : H0 b with
  | none =>
    rw [h] at e
    have ne : b ≠ d := fun z => by
      rw [z] at h
      exact hd h
    rw [del_ne ne]
    exact e
  | some x =>
    rw [h] at e
    cases e
theorem DrO.at {H : Hp} {d : Addr} (h : DrO H d) : H d ≠ none := by
  obtain ⟨ns, h1, _⟩ := h
  rw [h1]
  exact fun z => nomatch z
theorem same_und {H H' : Hp} {d : Addr} (a : Same H H') : Same (del H d) H' := fun x o h => a x o (del_sub x o h)
def listD (ns : List Int) : PyData := .list (ns.map PyData.int)
theorem ints_lay : ∀ ns : List Int, PyData.canLayAll0 (ns.map PyData.int) = true
  | [] => by simp [PyData.canLayAll0]
  | z :: cs => by
    rw [List.map_cons]
    simp only [PyData.canLayAll0, PyData.canLay0, ints_lay cs]
    rfl
theorem listD_lay (ns : List Int) : PyData.canLay0 (listD ns) = true := by
  unfold listD
  simp only [PyData.canLay0, ints_lay]
theorem depth_ints7 : ∀ ns : List Int, PyData.depthAll (ns.map PyData.int) = 0
  | [] => by simp [PyData.depthAll]
  | z :: cs => by
    rw [List.map_cons]
    simp only [PyData.depthAll, PyData.depth, depth_ints7 cs]
    rfl
theorem listD_shaped (ns : List Int) : SeqAt.shaped (listD ns) = true := by
  unfold SeqAt.shaped
  rw [Bool.and_eq_true, decide_eq_true_iff]
  refine ⟨listD_lay ns, ?_⟩
  unfold listD
  simp only [PyData.depth, depth_ints7]
  decide
theorem ne_nvs {K : PySem.W.Frag} {H : Hp} {Q : VK} {a b : Addr} {S : List Nat} (ha : H a = some (.lst (nvs S))) (hb : H b = some (.lst (nvs S))) (q : Q (.bl false) H) : rNeD K (.ref a) (.ref b) H Q := by
  rw [← asI_nvs] at ha hb
  exact ⟨listD (asI S), listD (asI S), (Dt.lst ha (.ints H _)).dp, (Dt.lst hb (.ints H _)).dp, listD_shaped _, listD_shaped _, by rw [PySem.SeqAt.eqv_refl _ (listD_lay _)]; exact q⟩
theorem qsA_del {H : Hp} {d : Addr} (dr : DrO H d) : ∀ {qs : List Q4} {xs : List V}, DtAll H xs ((qs.map r4).map rwD) → DtAll (del H d) xs ((qs.map r4).map rwD)
  | [], _, h => by
    cases h
    exact .nil
  | z :: r, _, h => by
    cases h with
    | cons h1 h2 =>
      refine .cons ?_ (qsA_del dr h2)
      have : DtAll H [_] (([z].map r4).map rwD) := .cons h1 .nil
      obtain ⟨z', b, hz, ev, hb⟩ := q4_at (i := 0) this rfl
      cases hz
      have bd : b ≠ d := fun e => by
        obtain ⟨ns, hd, _⟩ := dr
        rw [e, hd] at hb
        cases hb
      have ev' := ev
      subst ev'
      exact .tup (by rw [del_ne bd]; exact hb) (.cons (.int _) (.cons (.int _) (.cons (.int _) (.cons (.int _) .nil))))
theorem QsH.del {H : Hp} {b d : Addr} {qs : List Q4} (h : QsH H b qs) (dr : DrO H d) (bd : b ≠ d) : QsH (L2.del H d) b qs := by
  obtain ⟨xs, h1, h2⟩ := h
  exact ⟨xs, by rw [del_ne bd]; exact h1, qsA_del dr h2⟩
theorem ifMo {c : Bool} {A B : Prop} {KK : Int → Prop} {m : Int} (m0 : 6 ≤ m) (m8 : m ≤ 7) (rest : ∀ mo, 6 ≤ mo → mo ≤ 8 → KK mo) (hA : KK 8 → A) (hB : KK m → B) : if c = true then A else B := by
  cases c
  · exact hB (rest m m0 (by omega))
  · exact hA (rest 8 (by decide) (by decide))
end K0
set_option Elab.async false
set_option linter.all false
set_option maxRecDepth 100000
set_option maxHeartbeats 4000000
namespace K0
open PySem PySem.Spec PyProof.Rows L2
abbrev s_lw : Stmt := top 71
section
variable {P : Program} {w : World} {K : PySem.W.Frag} {mg : Str → Option Value} {base : Heap} {f : Addr} {fd : FuncData}
def spLw (K : PySem.W.Frag) : Sp := fun vs H Q _ => ∃ (a : Addr) (ns : List Int), vs = [.ref a] ∧ SqL K H a (ns.map V.int) ∧ ∀ H', Q (.bl true) H'
abbrev lwN : List Str := ["_law_script", "_law_draws_here", "_law_most", "_law_case_here", "_law_many", "_law_web", "_law_quads_here", "_law_left", "_law_turn", "_law_done", "_law_pairs", "_law_whole", "_law_able_here", "_law_first", "_law_x"]
theorem sc_lw : FnScope lwN ["_law_script"] (defScope s_lw) := ⟨rfl, rfl, rfl, by decide +kernel, rfl, by decide +kernel, by decide +kernel⟩
theorem ok_lw {C CN CW : Addr} (F : Fun K "law" "law" s_lw f fd) (B : Blt3 mg) (WK : WebK P w K mg base C CN CW) (DR : Df P w K mg base "_law_draws" 1 ["_law_script"] (spDr K)) (TK : Df P w K mg base "_law_take" 1 ["_law_draws_here", "_law_many"] spTk) (CA : Df P w K mg base "_law_case" 5 ["_law_draws_here", "_law_most"] spMd)
    (LQ : Df P w K mg base "_law_quads" 3 ["_law_many", "_law_pairs"] spLq) (CO : Df P w K mg base "_law_core" 1 ["_law_many", "_law_quads_here"] spLco) (CR : Df P w K mg base "core" 4 ["web"] (spCore C)) (SR : Df P w K mg base "_law_same_row" 2 ["_law_told_here", "_law_due_here"] spLsr) (LWK : Df P w K mg base "_law_walk" 11 ["_law_draws_here", "_law_web", "_law_many", "_law_quads_here"] (spLwk C))
    (LAB : Df P w K mg base "_law_able" 3 ["_law_quads_here", "_law_left"] spLab) (LM : Df P w K mg base "_law_no_middle" 2 ["_law_quads_here", "_law_left", "_law_x"] (spLn7 hasM)) (LLF : Df P w K mg base "_law_least_first" 10 ["_law_web", "_law_many", "_law_quads_here", "_law_pairs"] (spLlf C)) :
    FnOk P w K mg base (L2.CX P w) 12 f fd ["_law_script"] (spLw K) := by
  refine F.okX sc_lw (fun vs H Q E h => ?_) (fun cdv A outer s H vs Q E hr h => ?_)
  · obtain ⟨l, ms, rfl, _⟩ := h
    rfl
  · obtain ⟨l, ms, rfl, hs, k⟩ := h
    have nd := sc_lw.nd
    have r1 : Room 1 _ := hr.mono (by decide)
    have r2 : Room 2 _ := hr.mono (by decide)
    have r3 : Room 3 _ := hr.mono (by decide)
    have r4 : Room 4 _ := hr.mono (by decide)
    have r5 : Room 5 _ := hr.mono (by decide)
    have r10 : Room 10 _ := hr.mono (by decide)
    have hu : (A.deeper (envOfC "law" (defScope s_lw) s.heap.objs.size f cdv)).units + 64 < cLine := by have := hr.un; omega
    refine' ⟨_, pss_cons ?h1 (pss_cons ?h2 (pss_cons ?h3 (pss_cons ?h4 (pss_cons ?h5 (pss_cons ?h6 (pss_cons ?h7 (pss_cons ?h8 (pss_cons ?h9 (pss_cons ?h10 (pss_cons ?h11 (pss_cons ?h12 (pss_cons ?h13 (pss_cons ?h14 (pss_one ?h15)))))))))))))), ?hz⟩
    case h1 => exact (ps_set (i := 1) nd rfl (.inl rfl) (pe_df DR r1 (by rfl) passUp (pa_cons (pv 0) pa_nil)))
    case h2 => exact (ps_set (i := 2) nd rfl (.inl rfl) (pe_op op_add pe_int (pe_df TK r1 (by rfl) passUp (pa_cons (pv 1) (pa_cons pe_int pa_nil)))))
    case h3 => exact (ps_if (pt_cmpR op_eq (pe_df TK r1 (by rfl) passUp (pa_cons (pv 1) (pa_cons pe_int pa_nil))) pe_int (nomark _)) (pss_one (ps_set (i := 2) nd rfl (.inl rfl) pe_int)) pss_nil)
    case h4 => exact (ps_set (i := 3) nd rfl (.inl rfl) (pe_df CA r5 (by rfl) passUp (pa_cons (pv 1) (pa_cons (pv 2) pa_nil))))
    case h5 => exact (ps_set (i := 4) nd rfl (.inl rfl) (pe_ix ix_list (pv 3) pe_int (fun _ _ => rfl)))
    case h6 => exact (ps_set (i := 5) nd rfl (.inl rfl) (pe_web WK r5 (by rfl) passUp (pa_cons (pv 4) (pa_cons (pe_ix ix_list (pv 3) pe_int (fun _ _ => rfl)) pa_nil))))
    case h7 => exact (ps_set (i := 6) nd rfl (.inl rfl) (pe_df LQ r3 (by rfl) passUp (pa_cons (pv 4) (pa_cons (pe_ix ix_list (pv 3) pe_int (fun _ _ => rfl)) pa_nil))))
    case h8 => exact (ps_set (i := 7) nd rfl (.inl rfl) (pe_df CO r1 (by rfl) passUp (pa_cons (pv 4) (pa_cons (pv 6) pa_nil))))
    case h9 => exact (ps_if (pt_not (pt_val (pe_df SR r2 (by rfl) passUp (pa_cons (pe_df CR r4 (by rfl) passUp (pa_cons (pv 5) pa_nil)) (pa_cons (pv 7) pa_nil))))) (pss_one (ps_ret pe_bl)) pss_nil)
    case h10 => exact (ps_for (passes_of rfl) rfl (pi_range1 (by rfl) B.range (pa_cons pe_int pa_nil)) (pg_name (i := 8) nd rfl (.inl rfl))
        (pss_cons (ps_set (i := 9) nd rfl (.inl rfl) (pe_df LWK hr (by rfl) passUp (pa_cons (pv 1) (pa_cons (pv 5) (pa_cons (pv 4) (pa_cons (pv 6) pa_nil))))))
        (pss_one (ps_if (PW.pt (pw_or (pt_not (pt_val (pe_ix ix_list (pv 9) pe_int (fun _ _ => rfl)))) (pw_or1 (pt_cmpR (op_neD hu) (pe_ix ix_list (pv 9) pe_int (fun _ _ => rfl)) (pv 7) (by rfl))))) (pss_one (ps_ret pe_bl)) pss_nil))))
    case h11 => exact (ps_set (i := 10) nd rfl (.inl rfl) (pe_lst pa_nil))
    case h12 => exact (ps_setLc (i := 11) (own := [("_law_x", 14)]) (g := gName 14) (tt := tYes) (te := tVar 14) rfl nd rfl (by rfl) (by rfl) (pi_range1 (by rfl) B.range (pa_cons (pv 4) pa_nil)) (blkOk_by (N := lwN) (sc := defScope s_lw) (by decide +kernel)) (fun _ _ _ _ _ => pg_name (i := 14) nd rfl (.inl rfl)) (fun _ _ _ _ _ => pts_nil) (fun _ _ _ _ _ => pv 14))
    case h13 => exact (ps_set (i := 12) nd rfl (.inl rfl) (pe_df LAB r3 (by rfl) passUp (pa_cons (pv 6) (pa_cons (pv 11) pa_nil))))
    case h14 => exact (ps_if (PW.pt (pw_and (pt_cmpR op_gt (pe_callB c_len (by rfl) B.len PySem.boot_len (pa_cons (pv 12) pa_nil)) pe_int (by rfl)) (pw_and1 (pt_cmpR op_eq (pe_df TK r1 (by rfl) passUp (pa_cons (pv 1) (pa_cons pe_int pa_nil))) pe_int (nomark _)))))
        (pss_cons (ps_set (i := 13) nd rfl (.inl rfl) (pe_ix ix_list (pv 12) (pe_df TK r1 (by rfl) passUp (pa_cons (pv 1) (pa_cons (pe_callB c_len (by rfl) B.len PySem.boot_len (pa_cons (pv 12) pa_nil)) pa_nil))) (fun _ _ => rfl)))
        (pss_one (ps_if (pt_val (pe_df LM r2 (by rfl) passUp (pa_cons (pv 6) (pa_cons (pv 11) (pa_cons (pv 13) pa_nil)))))
          (pss_one (ps_set (i := 10) nd rfl (.inl rfl) (pe_lst (pa_cons (pe_tup (pa_cons (pv 13) (pa_cons pe_str pa_nil))) pa_nil))))
          (pss_one (ps_set (i := 10) nd rfl (.inl rfl) (pe_lst (pa_cons (pe_tup (pa_cons (pv 13) (pa_cons pe_str pa_nil))) pa_nil))))))) pss_nil)
    case h15 => exact (ps_ret (pe_and (pe_df LLF r10 (by rfl) passUp (pa_cons (pv 5) (pa_cons (pv 4) (pa_cons (pv 6) (pa_cons (pv 10) pa_nil))))) (pe_one (pe_df SR r2 (by rfl) passUp (pa_cons (pe_df CR r4 (by rfl) passUp (pa_cons (pv 5) pa_nil)) (pa_cons (pv 7) pa_nil))))))
    case hz =>
    refine ⟨_, rfl, l, ms, rfl, hs, fun H1 d s1 nd1 dr1 => ?_⟩
    refine ⟨_, rfl, d, 2, rfl, by decide, dr1, fun m H2 m0 m2 s2 dr2 => ⟨_, _, rfl, rfl, ?_⟩⟩
    refine ⟨_, rfl, d, 24, rfl, by decide, dr2, fun z H3 z0 z24 s3 dr3 => ⟨rfl, _, rfl, ?_⟩⟩
    refine ifMo (m := 6 + m) (KK := fun mo => tNext _ [some (.ref l), some (.ref d), some (.int mo), none, none, none, none, none, none, none, none, none, none, none, none] H3) (by omega) (by omega) ?rest (fun zz => zz) (fun zz => zz)
    intro mo mo6 mo8
    refine ⟨_, rfl, _, rfl, d, mo, rfl, by omega, mo8, dr3, fun H4 v n q r s4 dr4 cs ck n2 nm => ?_⟩
    obtain ⟨a, b, c, rfl, ha, ⟨ys, hy, dy⟩, _⟩ := id cs
    obtain ⟨N, rfl⟩ := Int.eq_ofNat_of_zero_le (show 0 ≤ n by omega)
    have ha0 := del_sub _ _ ha
    refine ⟨_, rfl, a, _, 0, _, rfl, rfl, SqL.of ha0, rfl, ?_⟩
    -- the web
    refine ⟨_, rfl, _, rfl, a, _, 1, _, rfl, rfl, SqL.of ha0, rfl, ?_⟩
    dsimp only [tNil]
    show spMk K C CN CW [.int (N : Int), .ref b] _ _ _
    refine mk_ls ⟨ys, del_sub _ _ hy, dy.mono del_sub⟩ ck.c.rng (by omega) (by omega) (by have := len28 ck.c (by omega); omega) fun H5 pw q' s5 npw cq eq' Wn => ?_
    have e0 : q = q' := (cl_eq ck.c cq eq').symm
    subst e0
    have W5 : WebAt C (del H5 d) pw N q := Wn.mono (new_del dr4.at)
    have dr5 := dr4.mono s5
    have hb5 : Ls H5 b q := ⟨ys, s5 _ _ (del_sub _ _ hy), (dy.mono del_sub).mono s5⟩
    -- its rows
    refine ⟨_, rfl, _, rfl, a, _, 1, _, rfl, rfl, SqL.of (s5 _ _ ha0), rfl, ?_⟩
    dsimp only [tNil]
    refine ⟨b, N, q, rfl, by omega, by omega, ck.c, hb5, fun H6 t xs rs s6 nt ht dt isr lrs => ?_⟩
    obtain ⟨qs, rfl, Z⟩ := q4s_of ck.c (by omega) isr
    have td := dr5.ne nt
    have dr6 := dr5.mono s6
    have hq6 : QsH (del H6 d) t qs := QsH.del ⟨xs, ht, dt⟩ dr6 td
    have W6 := W5.mono (same_del (same_und s6))
    -- what is due
    refine ⟨_, rfl, _, rfl, t, N, qs, rfl, by omega, hq6.mono del_sub, Z.few, fun H7 L s7 nL hL => ?_⟩
    have Ld := dr6.ne nL
    have dr7 := dr6.mono s7
    have W7 := W6.mono (same_del (same_und s7))
    have hq7 := hq6.mono (same_del (same_und s7))
    have cN : (coreOf N qs).length ≤ N := by
      have := len_sub (coreOf N qs) (List.range N) ((core_up N qs).imp (fun h => by omega)) fun y hy => List.mem_range.mpr (by have := shrI_sub N hy; exact List.mem_range.mp this)
      rwa [List.length_range] at this
    refine ⟨_, rfl, pw, N, q, rfl, W7.mono del_sub, by omega, fun H8 e qs' s8 Z' he => ?_⟩
    obtain rfl := Z.uniq Z'
    refine ⟨_, rfl, e, L, coreOf N qs, rfl, he, s8 _ _ hL, by omega, fun H9 s9 => ⟨_, rfl, iteF ?_⟩⟩
    have s79 := s8.trans s9
    have dr9 := dr7.mono s79
    have W9 := W7.mono (same_del (same_und s79))
    have hq9 := hq7.mono (same_del (same_und s79))
    have hL9 : (del H9 d) L = some (.lst (nvs (coreOf N qs))) := by
      rw [del_ne Ld]
      exact s79 _ _ hL
    -- two walks
    let Pv : Nat → L2.St → Hp → Prop := fun i σ H' => ∃ o8 o9, σ = [some (.ref l), some (.ref d), some (.int mo), some (.ref a), some (.int (N : Int)), some (.ref pw), some (.ref t), some (.ref L), o8, o9, none, none, none, none, none] ∧ Same (del H9 d) H' ∧ DrO H' d
    refine ⟨2, rfl, by decide, by decide, for_range (n := 2) Pv ⟨none, none, rfl, del_sub, dr9⟩ (fun i σ H10 hi h => ?_) (fun σ H10 h => ?_)⟩
    · obtain ⟨o8, o9, rfl, s10, dr10⟩ := h
      have sd := same_del s10
      refine ⟨_, rfl, _, rfl, _, rfl, _, rfl, d, pw, t, N, q, qs, rfl, by omega, by omega, dr10, W9.mono sd, Z, hq9.mono sd, fun H11 r L2 s11 dr11 hr hL2 => ?_⟩
      have hr' := del_sub _ _ hr
      have s911 : Same (del H9 d) H11 := same_trd' s10 s11
      have at0 : atI [V.bl true, .ref L2] 0 = some (.bl true) := by
        have e : atI [V.bl true, .ref L2] ((0 : Nat) : Int) = some (.bl true) := atI_nat rfl
        exact e
      refine ⟨_, rfl, r, _, 0, _, rfl, rfl, SqL.of hr', at0, _, rfl, iteF ?_⟩
      refine ⟨_, rfl, r, _, 1, _, rfl, rfl, SqL.of hr', lst_at, _, rfl, ne_nvs (del_sub _ _ hL2) (s911 _ _ hL9) ⟨_, rfl, iteF ?_⟩⟩
      exact ⟨_, _, rfl, s911, dr11⟩
    obtain ⟨o8, o9, rfl, s10, dr10⟩ := h
    -- the last
    have go : ∀ (H' : Hp) (c' L0 LA : Addr) (o13 : Option V) (pr : List Pq), Same (del H9 d) H' → PrH H' c' pr → One N qs pr → tRet (tAndV (tCall (spLlf C) [] E (tCons (tVar 5) (tCons (tVar 4) (tCons (tVar 6) (tCons (tVar 10) tNil))))) (tCall spLsr [] E (tCons (tCall (spCore C) [] E (tCons (tVar 5) tNil)) (tCons (tVar 7) tNil)))) { nx := fun x H' => Q V.non H', rt := Q } [some (.ref l), some (.ref d), some (.int mo), some (.ref a), some (.int (N : Int)), some (.ref pw), some (.ref t), some (.ref L), o8, o9, some (.ref c'), some (.ref L0), some (.ref LA), o13, none] H' := fun H' c' L0 LA o13 pr sm hpr one => by
      refine ⟨_, rfl, _, rfl, _, rfl, _, rfl, pw, t, c', N, q, qs, pr, rfl, by omega, by omega, W9.mono sm, Z, hq9.mono sm, hpr, one, fun G2 s2 => ⟨_, rfl, iteT ?_⟩⟩
      refine ⟨_, rfl, pw, N, q, rfl, W9.mono (sm.trans s2), by omega, fun G3 e qs' s3 Z' he => ?_⟩
      obtain rfl := Z.uniq Z'
      exact ⟨_, rfl, e, L, coreOf N qs, rfl, he, (sm.trans (s2.trans s3)) _ _ hL9, by omega, fun G4 s4 => k G4⟩
    refine ⟨by show 0 ≤ sizeLine; exact Nat.zero_le _, fun c0 nc0 => ?_⟩
    have s11 := same_upd (o := .lst []) nc0
    have hc0 : (upd H10 c0 (.lst [])) c0 = some (.lst []) := upd_same
    generalize upd H10 c0 (.lst []) = H11 at s11 hc0 ⊢
    refine ⟨_, rfl, N, rfl, by omega, by omega, fun L0 nL0 => ?_⟩
    rw [Int.toNat_natCast]
    refine lc_range (lo := 0) (n := N) (fun i H' => Same H11 H' ∧ H' L0 = some (.lst (nvs (List.range i)))) ⟨same_upd nL0, upd_same⟩ (fun i H' hi ⟨sm, hD⟩ => ?_) (fun H12 ⟨s12, hL0⟩ => ?_)
    · refine ⟨rfl, ?_⟩
      rw [Int.zero_add]
      refine ⟨_, rfl, _, hD, by rw [nvs_len, List.length_range, sizeLine_eq]; omega, same_keep nL0 sm, ?_⟩
      rw [upd_same, List.range_succ]
      unfold nvs
      rw [List.map_append]
      rfl
    have s912 : Same (del H9 d) H12 := s10.trans (s11.trans s12)
    have dr12 := dr10.mono (s11.trans s12)
    have L0d : L0 ≠ d := (dr10.mono s11).ne nL0
    have c0d : c0 ≠ d := dr10.ne nc0
    refine ⟨_, rfl, _, rfl, t, L0, List.range N, qs, rfl, hq9.mono s912, Z.few, hL0, by rw [List.length_range]; omega, fun H13 LA s13 nLA hLA => ?_⟩
    have s913 := s912.trans s13
    have dr13 := dr12.mono s13
    have LAd : LA ≠ d := dr12.ne nLA
    have hc13 := (s12.trans s13) _ _ hc0
    refine ⟨_, rfl, LA, _, rfl, .inl (SqL.of hLA), _, _, rfl, rfl, _, rfl, ?_⟩
    rw [nvs_len]
    by_cases e0 : able qs (List.range N) = []
    · rw [show decide ((0 : Int) < ((able qs (List.range N)).length : Nat)) = false by rw [e0]; rfl]
      exact iteF (iteF (go H13 c0 L0 LA none [] s913 ⟨[], hc13, rfl, fun z hz => by cases hz⟩ (.inl rfl)))
    have pos : 0 < (able qs (List.range N)).length := List.length_pos_iff.mpr e0
    rw [show decide ((0 : Int) < ((able qs (List.range N)).length : Nat)) = true from decide_eq_true (by omega)]
    refine iteT ⟨_, rfl, d, 2, rfl, by decide, dr13, fun z H14 z0 z2 s14 dr14 => ⟨rfl, _, rfl, ?_⟩⟩
    have s914 : Same (del H9 d) H14 := same_trd' s913 s14
    have to14 : ∀ {y : Addr} {o : HO}, y ≠ d → H13 y = some o → H14 y = some o := fun ne e => s14 _ _ (by rw [del_ne ne]; exact e)
    rw [dec_int]
    by_cases z1 : z = 1
    case neg =>
      rw [show (z == 1) = false by simpa using z1]
      exact iteF (go H14 c0 L0 LA none [] s914 ⟨[], to14 c0d hc13, rfl, fun z hz => by cases hz⟩ (.inl rfl))
    rw [show (z == 1) = true by simpa using z1]
    refine iteT ⟨_, rfl, _, rfl, _, rfl, LA, _, rfl, .inl (SqL.of (to14 LAd hLA)), d, _, rfl, by rw [nvs_len]; omega, dr14, fun y H15 y0 yn s15 dr15 => ?_⟩
    have s915 : Same (del H9 d) H15 := same_trd' s914 s15
    have to15 : ∀ {y : Addr} {o : HO}, y ≠ d → H13 y = some o → H15 y = some o := fun ne e => s15 _ _ (by rw [del_ne ne]; exact to14 ne e)
    obtain ⟨j, rfl⟩ := Int.eq_ofNat_of_zero_le y0
    rw [nvs_len] at yn
    have jl : j < (able qs (List.range N)).length := by omega
    have hx := List.getElem?_eq_getElem jl
    have xm := List.getElem_mem jl
    generalize (able qs (List.range N))[j] = x at hx xm
    have xa := List.mem_filter.mp xm
    have xN := List.mem_range.mp xa.1
    have hv : (nvs (able qs (List.range N)))[j]? = some (.int (x : Int)) := by
      unfold nvs
      rw [List.getElem?_map, hx]
      rfl
    refine ⟨LA, _, (j : Int), _, rfl, rfl, SqL.of (to15 LAd hLA), atI_nat hv, ?_⟩
    have hL15 := to15 L0d (s13 _ _ hL0)
    refine ⟨_, rfl, _, rfl, _, rfl, t, L0, x, List.range N, qs, rfl, hq9.mono s915, Z.few, hL15, fun H16 s16 => ⟨_, rfl, ?_⟩⟩
    have s916 := s915.trans s16
    have fin : ∀ (y : Bool) (u1 u2 : Addr), One N qs [(x, y)] → H16 u1 = none → (upd H16 u1 (.tup [.int (x : Int), .str (sideS y)])) u2 = none → tRet (tAndV (tCall (spLlf C) [] E (tCons (tVar 5) (tCons (tVar 4) (tCons (tVar 6) (tCons (tVar 10) tNil))))) (tCall spLsr [] E (tCons (tCall (spCore C) [] E (tCons (tVar 5) tNil)) (tCons (tVar 7) tNil)))) { nx := fun x H' => Q V.non H', rt := Q } [some (.ref l), some (.ref d), some (.int mo), some (.ref a), some (.int (N : Int)), some (.ref pw), some (.ref t), some (.ref L), o8, o9, some (.ref u2), some (.ref L0), some (.ref LA), some (.int (x : Int)), none] (upd (upd H16 u1 (.tup [.int (x : Int), .str (sideS y)])) u2 (.lst [.ref u1])) := fun y u1 u2 one w1 w2 => by
      have v1 := same_upd (o := .tup [.int (x : Int), .str (sideS y)]) w1
      have v2 := same_upd (o := .lst [.ref u1]) w2
      refine go _ u2 L0 LA _ [(x, y)] (s916.trans (v1.trans v2)) ⟨[(u1, (x, y))], upd_same, rfl, fun z hz => ?_⟩ one
      rw [List.mem_singleton.mp hz]
      exact v2 _ _ upd_same
    cases e : hasM qs (List.range N) x with
    | false =>
      refine iteT ⟨_, rfl, by show 2 ≤ sizeLine; decide, fun u1 w1 => ⟨by show 1 ≤ sizeLine; decide, fun u2 w2 => ?_⟩⟩
      exact fin false u1 u2 (.inr ⟨x, false, rfl, xN, pick_F (fun z => z.2 rfl) e (by decide +kernel)⟩) w1 w2
    | true =>
      refine iteF ⟨_, rfl, by show 2 ≤ sizeLine; decide, fun u1 w1 => ⟨by show 1 ≤ sizeLine; decide, fun u2 w2 => ?_⟩⟩
      have eE : hasE qs (List.range N) x = false := by
        have := xa.2
        rw [e] at this
        cases h : hasE qs (List.range N) x with
        | false => rfl
        | true =>
          rw [h] at this
          cases this
      exact fin true u1 u2 (.inr ⟨x, true, rfl, xN, pick_T eE (by decide +kernel)⟩) w1 w2
end
end K0
set_option Elab.async false
set_option linter.all false
set_option maxRecDepth 100000
set_option maxHeartbeats 2000000
namespace K0
open PySem PySem.Spec PyProof.Rows L2
abbrev s_eP : Stmt := inClass (top 7) 0
section
variable {P : Program} {w : World} {K : PySem.W.Frag} {mg : Str → Option Value} {base : Heap} {f C : Addr} {fd : FuncData}
theorem sc_eP : FnScope ["self", "place"] ["self", "place"] (defScope s_eP) := ⟨rfl, rfl, rfl, by decide +kernel, rfl, by decide +kernel, by decide +kernel⟩
theorem ok_eP (F : Fun K "__init__" "BadPart.__init__" s_eP f fd) (T : ErrC K C ["place"]) : FnOk P w K mg base CX0 1 f fd ["self", "place"] (spE1 C "place") := by
  refine F.ok sc_eP (fun vs H Q E h => ?_) (fun cdv A outer s H vs Q E hr h => ?_)
  · obtain ⟨a, v, rfl, _⟩ := h
    rfl
  · obtain ⟨a, v, rfl, ha, q⟩ := h
    refine ⟨_, pss_one (ps_stE (fl := ["place"]) (pv 0) (pv 1)), ?_⟩
    exact ⟨_, rfl, _, rfl, a, C, rfl, T, by decide, .inl ⟨ha, fun dx n ne => q dx n ne⟩⟩
end
end K0
set_option Elab.async false
set_option linter.all false
set_option maxRecDepth 100000
set_option maxHeartbeats 4000000
namespace K0
open PySem PySem.Spec PyProof.Rows L2
/-! ### what the top has written -/
/-- a def of the top -/
structure DG (K : PySem.W.Frag) (x : Str) (st : Stmt) : Prop where
  ex : ∃ (f : Addr) (fd : FuncData), PySem.W.nsIn K mainGlobals x = some (some (.ref f)) ∧ Fun K x x st f fd
/-- a method of the class at C -/
structure MG (K : PySem.W.Frag) (C : Addr) (m q : Str) (st : Stmt) : Prop where
  ex : ∃ (f : Addr) (fd : FuncData), PySem.W.findIn K (.ref C) m = some (some (.ref f)) ∧ PySem.W.isFn K (.ref f) = true ∧ PySem.W.fnIn K f = true ∧ Fun K m q st f fd
/-- an error class with its own __init__ -/
structure EG (K : PySem.W.Frag) (x : Str) (C : Addr) (fl : List Str) (q : Str) (st : Stmt) : Prop where
  T : ErrC K C fl
  g : PySem.W.nsIn K mainGlobals x = some (some (.ref C))
  ex : ∃ (f : Addr) (fd : FuncData), PySem.W.findIn K (.ref C) "__init__" = some (some (.ref f)) ∧ PySem.W.typeIn K (.ref f) = some (.type "function") ∧ Fun K "__init__" q st f fd
/-- a def with one default, the def's own name x where it is the top's -/
structure XG (K : PySem.W.Frag) (x q : Str) (st : Stmt) (f : Addr) (v : V) : Prop where
  ex : ∃ fd : FuncData, FunD K x q (defArgs st) (defBody st) (defScope st) [v] [] f fd
theorem FnOk.up {P : Program} {w : World} {K : PySem.W.Frag} {mg : Str → Option Value} {base : Heap} {CX : CXT} {k : Nat} {f : Addr} {fd : FuncData} {ps : List Str} {sp : Sp} (F : FnOk P w K mg base CX0 k f fd ps sp) : FnOk P w K mg base CX k f fd ps sp :=
  ⟨F.len, fun A outer s H args us vs Q E hr he hb hv hs Γ p hc hΓ => wpCode_mono (fun r s' h => by
    cases r with
    | ok v => cases v <;> exact h
    | error e => exact h.elim) (F.run A outer s H args us vs Q E hr he hb hv hs Γ p hc hΓ)⟩
section
variable {P : Program} {w : World} {K : PySem.W.Frag} {mg : Str → Option Value} {base h : Heap} {x q m : Str} {st : Stmt} {k : Nat} {ps : List Str} {sp : Sp} {C : Addr}
theorem DG.df (g : DG K x st) (X : K.In h) (G : h.Ns mainGlobals mg) (ok : ∀ f fd, Fun K x x st f fd → FnOk P w K mg base (L2.CX P w) k f fd ps sp)
    (hb : ∀ (kV doc pm : Value) (an : Option Addr) (cdv ct : Value) (us : List Value), us.length = ps.length → bindArgs (PySem.W.fnOf x x (defArgs st) (defBody st) (defScope st) .none kV doc pm an cdv ct) ⟨us, []⟩ = pure (ps.zip us)) : Df P w K mg base x k ps sp := by
  obtain ⟨f, fd, e, F⟩ := g.ex
  exact ⟨f, fd, PySem.W.mg_of X G e, F.kp, ok f fd F, F.binds hb⟩
theorem MG.mt (g : MG K C m q st) (c : Cls K C) (ok : ∀ f fd, Fun K m q st f fd → FnOk P w K mg base (L2.CX P w) k f fd ps sp)
    (hb : ∀ (kV doc pm : Value) (an : Option Addr) (cdv ct : Value) (us : List Value), us.length = ps.length → bindArgs (PySem.W.fnOf m q (defArgs st) (defBody st) (defScope st) .none kV doc pm an cdv ct) ⟨us, []⟩ = pure (ps.zip us)) : Mt P w K mg base C m k ps sp := by
  obtain ⟨f, fd, e, i, n, F⟩ := g.ex
  exact ⟨f, fd, c, ⟨e, i, F.kp⟩, i, n, e, ok f fd F, F.binds hb⟩
theorem EG.er {fl : List Str} (g : EG K x C fl q st) (X : K.In h) (G : h.Ns mainGlobals mg) (ok : ∀ f fd, Fun K "__init__" q st f fd → FnOk P w K mg base CX0 1 f fd ps sp)
    (hb : ∀ (kV doc pm : Value) (an : Option Addr) (cdv ct : Value) (us : List Value), us.length = ps.length → bindArgs (PySem.W.fnOf "__init__" q (defArgs st) (defBody st) (defScope st) .none kV doc pm an cdv ct) ⟨us, []⟩ = pure (ps.zip us)) : Er P w K mg base x C fl ps sp := by
  obtain ⟨f, fd, e, i, F⟩ := g.ex
  exact ⟨g.T, PySem.W.mg_of X G g.g, f, fd, e, i, ok f fd F, F.binds hb⟩
end
/-- a def at f -/
structure PG (K : PySem.W.Frag) (x q : Str) (st : Stmt) (f : Addr) : Prop where
  ex : ∃ fd : FuncData, Fun K x q st f fd
/-- the empty tuple that the top has made -/
structure EmT (K : PySem.W.Frag) (e : Addr) : Prop where
  ex : ∃ (o : Obj) (its : Array Value) (n : Nat), K.lookup e = some o ∧ o.cls = .type "tuple" ∧ o.data = .seq its n ∧ its = #[]
theorem em_mk {K : PySem.W.Frag} {e : Addr} {o : Obj} {its : Array Value} {n : Nat} (l : K.lookup e = some o) (x : o.cls = .type "tuple") (y : o.data = .seq its n) (z : its = #[]) : EmT K e := ⟨o, its, n, l, x, y, z⟩
theorem EmT.sq {K : PySem.W.Frag} {e : Addr} (h : EmT K e) (H : Hp) : SqT K H e [] := by
  obtain ⟨o, its, n, h1, h2, h3, rfl⟩ := h.ex
  exact .inr ⟨o, #[], n, h1, h2, h3, Nat.zero_le _, .nil⟩
theorem kit_no {K : PySem.W.Frag} {C : Addr} {T : String} (h1 : PySem.W.hasDictIn K C = true) (h2 : PySem.W.typeIn K (.ref C) = some (.type "type")) (h3 : PySem.W.subIn K (.type T) (.ref C) = some false) : PySem.W.kitOne K (.type T) (.ref C) = some false := by
  obtain ⟨cd, hc, _⟩ := PySem.W.any_some h1
  have e2 : ((PySem.W.clsIn K C).isSome && PySem.W.typeIn K (.ref C) == some (.type "type")) = true := by rw [hc, h2] <;> rfl
  have e1 : ¬ (((Value.type T) == .ref C) = true) := fun z => nomatch beq_iff_eq.mp z
  show (if ((Value.type T) == .ref C) = true then some true else (if ((PySem.W.clsIn K C).isSome && PySem.W.typeIn K (.ref C) == some (.type "type")) = true then PySem.W.subIn K (.type T) (.ref C) else none)) = some false
  rw [if_neg e1, if_pos e2]
  exact h3
theorem kit_self {K : PySem.W.Frag} {C : Addr} : PySem.W.kitOne K (.ref C) (.ref C) = some true := by
  unfold PySem.W.kitOne
  rw [if_pos (beq_iff_eq.mpr rfl)]
theorem ErrC.xf {K : PySem.W.Frag} {C : Addr} {fl : List Str} (T : ErrC K C fl) : XfC K C := ⟨T.ga, T.gg, T.exC, T.hd⟩
theorem ErrC.exm {K : PySem.W.Frag} {C : Addr} {fl : List Str} (T : ErrC K C fl) {cls : Value} {b : Bool} (h : PySem.W.subIn K cls (.ref C) = some b) : PySem.W.exmOne K cls (.ref C) = some b := PySem.W.exm_ref T.exC T.hd T.tyC h
theorem fun_of {K : PySem.W.Frag} {x q : Str} {st : Stmt} {oc : Value} {od an : Option Addr} {osl : Array (Option Value)} {kV doc pm cdv ct : Value} {ar : Arguments} {bo : List Stmt} {sc : Scope} {o : Obj} {f : Addr}
  (l : K.lookup f = some o) (e : o = ⟨oc, od, .func (PySem.W.fnOf x q ar bo sc .none kV doc pm an cdv ct), osl⟩) (e1 : ar = defArgs st) (e2 : bo = defBody st) (e3 : sc = defScope st) (c : PySem.W.codeIn K cdv q = true) (k : PySem.W.keepIn K (.ref f) = true) : ∃ fd, Fun K x q st f fd := by
  subst e1 e2 e3 e
  exact ⟨_, ⟨oc, od, kV, doc, pm, an, cdv, ct, osl, rfl, l, c⟩, k⟩
theorem dg_mk {K : PySem.W.Frag} {q : Str} {st : Stmt} {oc : Value} {od an : Option Addr} {osl : Array (Option Value)} {kV doc pm cdv ct : Value} {ar : Arguments} {bo : List Stmt} {sc : Scope} {o : Obj} {f : Addr}
  (a : PySem.W.nsIn K mainGlobals q = some (some (.ref f))) (l : K.lookup f = some o) (e : o = ⟨oc, od, .func (PySem.W.fnOf q q ar bo sc .none kV doc pm an cdv ct), osl⟩) (e1 : ar = defArgs st) (e2 : bo = defBody st) (e3 : sc = defScope st) (c : PySem.W.codeIn K cdv q = true) (k : PySem.W.keepIn K (.ref f) = true) : DG K q st := by
  obtain ⟨fd, F⟩ := fun_of l e e1 e2 e3 c k
  exact ⟨f, fd, a, F⟩
theorem mg_mk {K : PySem.W.Frag} {C : Addr} {m q : Str} {st : Stmt} {oc : Value} {od an : Option Addr} {osl : Array (Option Value)} {kV doc pm cdv ct : Value} {ar : Arguments} {bo : List Stmt} {sc : Scope} {o : Obj} {f : Addr}
  (a : PySem.W.findIn K (.ref C) m = some (some (.ref f))) (i : PySem.W.isFn K (.ref f) = true) (n : PySem.W.fnIn K f = true) (l : K.lookup f = some o) (e : o = ⟨oc, od, .func (PySem.W.fnOf m q ar bo sc .none kV doc pm an cdv ct), osl⟩) (e1 : ar = defArgs st) (e2 : bo = defBody st) (e3 : sc = defScope st) (c : PySem.W.codeIn K cdv q = true) (k : PySem.W.keepIn K (.ref f) = true) : MG K C m q st := by
  obtain ⟨fd, F⟩ := fun_of l e e1 e2 e3 c k
  exact ⟨f, fd, a, i, n, F⟩
theorem pg_mk {K : PySem.W.Frag} {m q : Str} {st : Stmt} {oc : Value} {od an : Option Addr} {osl : Array (Option Value)} {kV doc pm cdv ct : Value} {ar : Arguments} {bo : List Stmt} {sc : Scope} {o : Obj} {f : Addr}
  (l : K.lookup f = some o) (e : o = ⟨oc, od, .func (PySem.W.fnOf m q ar bo sc .none kV doc pm an cdv ct), osl⟩) (e1 : ar = defArgs st) (e2 : bo = defBody st) (e3 : sc = defScope st) (c : PySem.W.codeIn K cdv q = true) (k : PySem.W.keepIn K (.ref f) = true) : PG K m q st f := by
  obtain ⟨fd, F⟩ := fun_of l e e1 e2 e3 c k
  exact ⟨fd, F⟩
theorem eg_mk {K : PySem.W.Frag} {x : Str} {C : Addr} {fl : List Str} {q : Str} {st : Stmt} {oc : Value} {od an : Option Addr} {osl : Array (Option Value)} {kV doc pm cdv ct : Value} {ar : Arguments} {bo : List Stmt} {sc : Scope} {o : Obj} {f : Addr} {oC : Obj} {nm qn : Str} {N : Addr} {bs bm : List Value} {sn : List Str} {sub : List Value} {ab : Bool} {col : Option Bool} {dd : Option Addr} {m0 m1 m2 m3 m5 : Option Value}
  (g : PySem.W.nsIn K mainGlobals x = some (some (.ref C))) (xl : K.lookup C = some oC) (xe : oC = excClassObj nm qn C N bs bm true sn sub ab col dd m0 m1 m2 m3 m5 "Exception.__new__") (xb : (tailOf bm == exT) = true)
  (sa : PySem.W.findIn K (.ref C) "__setattr__" = some (some (.builtin "object.__setattr__"))) (ga : PySem.W.findIn K (.ref C) "__getattribute__" = some (some (.builtin "BaseException.__getattribute__"))) (gg : PySem.W.findIn K (.ref C) "__getattr__" = some none)
  (ex : PySem.W.subIn K (.ref C) (.type "BaseException") = some true) (ty : PySem.W.typeIn K (.ref C) = some (.type "type")) (kc : PySem.W.keepIn K (.ref C) = true) (hd : PySem.W.hasDictIn K C = true) (no : ∀ z ∈ fl, PySem.W.findIn K (.ref C) z = some none)
  (i : PySem.W.findIn K (.ref C) "__init__" = some (some (.ref f))) (t : PySem.W.typeIn K (.ref f) = some (.type "function")) (l : K.lookup f = some o) (e : o = ⟨oc, od, .func (PySem.W.fnOf "__init__" q ar bo sc .none kV doc pm an cdv ct), osl⟩) (e1 : ar = defArgs st) (e2 : bo = defBody st) (e3 : sc = defScope st) (c : PySem.W.codeIn K cdv q = true) (k : PySem.W.keepIn K (.ref f) = true) : EG K x C fl q st := by
  obtain ⟨fd, F⟩ := fun_of l e e1 e2 e3 c k
  subst xe
  exact ⟨⟨⟨nm, qn, N, bs, bm, sn, sub, ab, col, dd, m0, m1, m2, m3, m5, xl, xb⟩, sa, ga, gg, ex, ty, kc, hd, no⟩, g, f, fd, i, t, F⟩
theorem xg_mk {K : PySem.W.Frag} {x q : Str} {st : Stmt} {v : V} {oc : Value} {od an : Option Addr} {osl : Array (Option Value)} {kV doc pm cdv ct : Value} {ar : Arguments} {bo : List Stmt} {sc : Scope} {o : Obj} {f : Addr} {dV : Value} {T : Addr} {oT : Obj} {its : List Value} {n : Nat}
  (l : K.lookup f = some o) (e : o = ⟨oc, od, .func (PySem.W.fnOf x q ar bo sc dV kV doc pm an cdv ct), osl⟩) (e1 : ar = defArgs st) (e2 : bo = defBody st) (e3 : sc = defScope st) (c : PySem.W.codeIn K cdv q = true) (k : PySem.W.keepIn K (.ref f) = true) (d : dV = .ref T) (t : K.lookup T = some oT) (y : oT.data = .seq its.toArray n) (r : Vals [v] its) : XG K x q st f v := by
  subst e1 e2 e3 e
  exact ⟨_, ⟨oc, od, dV, kV, doc, pm, an, cdv, ct, osl, rfl, l, c, .inr ⟨by simp, T, oT, its, n, d, t, y, r⟩, .inl rfl⟩, k⟩
theorem all_mk {P : Program} {w : World} {K : PySem.W.Frag} {h : Heap} {mg : Str → Option Value} {fa ppthingsleft gpthingsleft fxnoends fxnomiddles fttake pptakesrow gptakesrow CN CW CP CT CNS CO C D fi e0 ftk f0 : Addr} {rpthingsleft rptakesrow : List Value} (X : K.In h) (G : h.Ns mainGlobals mg) (hfa : mg "law" = some (.ref fa))
    (eBadNumber : EG K "BadNumber" CN ["name"] "BadNumber.__init__" s_e1)
    (eBadWeb : EG K "BadWeb" CW ["x", "y"] "BadWeb.__init__" s_eW)
    (eBadPart : EG K "BadPart" CP ["place"] "BadPart.__init__" s_eP)
    (eBadThing : EG K "BadThing" CT ["thing"] "BadThing.__init__" s_eT)
    (eNoneSuch : EG K "NoneSuch" CNS ["name"] "NoneSuch.__init__" s_eNS)
    (aOrdersError : PySem.W.nsIn K mainGlobals "OrdersError" = some (some (.ref CO)))
    (aC : PySem.W.nsIn K mainGlobals "Web" = some (some (.ref C)))
    (pgC : PySem.W.plainGet K C Str.empty = true)
    (hdC : PySem.W.hasDictIn K C = true)
    (poC : PySem.W.plainOver K C = true)
    (saC : PySem.W.findIn K (.ref C) "__setattr__" = some (some (.builtin "object.__setattr__")))
    (mkC : PySem.W.makesIn K C = true)
    (kCC : PySem.W.keepIn K (.ref C) = true)
    (c1C : PySem.W.readsIn K C (.type "type") = true)
    (c2C : PySem.W.specialIn K (.ref C) "__getattribute__" = some (some (.builtin "type.__getattribute__")))
    (haC : PySem.W.findIn K (.ref C) "__class__" = some (some (.builtin "object.__class__")))
    (hmC : PySem.W.mroIn K C (.type "object") = some true)
    (tCC : PySem.W.typeIn K (.ref C) = some (.type "type"))
    (t0 : PySem.W.subIn K (.type "NoneType") (.ref C) = some false)
    (t1 : PySem.W.subIn K (.type "bool") (.ref C) = some false)
    (t2 : PySem.W.subIn K (.type "int") (.ref C) = some false)
    (t3 : PySem.W.subIn K (.type "str") (.ref C) = some false)
    (t4 : PySem.W.subIn K (.type "list") (.ref C) = some false)
    (t5 : PySem.W.subIn K (.type "tuple") (.ref C) = some false)
    (q0 : PySem.W.notFirst K C (.type "int") = true)
    (q1 : PySem.W.notFirst K C (.type "list") = true)
    (aD : PySem.W.nsIn K mainGlobals "Taking" = some (some (.ref D)))
    (pgD : PySem.W.plainGet K D Str.empty = true)
    (hdD : PySem.W.hasDictIn K D = true)
    (poD : PySem.W.plainOver K D = true)
    (saD : PySem.W.findIn K (.ref D) "__setattr__" = some (some (.builtin "object.__setattr__")))
    (mkD : PySem.W.makesIn K D = true)
    (kCD : PySem.W.keepIn K (.ref D) = true)
    (c1D : PySem.W.readsIn K D (.type "type") = true)
    (c2D : PySem.W.specialIn K (.ref D) "__getattribute__" = some (some (.builtin "type.__getattribute__")))
    (hn : PySem.W.specialIn K (.builtin "object.__class__") "__get__" = some (some (.builtin "getset_descriptor.__get__")))
    (tk : PySem.W.takesIn K (.builtin "object.__class__") = some true)
    (nm : PySem.W.findIn K (.ref C) "many" = some none)
    (nc : PySem.W.findIn K (.ref C) "clashes" = some none)
    (nk : PySem.W.findIn K (.ref C) "masks" = some none)
    (i1 : PySem.W.findIn K (.ref C) "__init__" = some (some (.ref fi)))
    (i2 : PySem.W.isFn K (.ref fi) = true)
    (i3 : XG K "__init__" "Web.__init__" s_wi fi (.ref e0))
    (i4 : EmT K e0)
    (nw : PySem.W.findIn K (.ref D) "web" = some none)
    (nf : PySem.W.findIn K (.ref D) "front" = some none)
    (nb : PySem.W.findIn K (.ref D) "back" = some none)
    (nt : PySem.W.findIn K (.ref D) "takes" = some none)
    (tk1 : PySem.W.findIn K (.ref D) "__init__" = some (some (.ref ftk)))
    (tk2 : PySem.W.isFn K (.ref ftk) = true)
    (tk3 : PG K "__init__" "Taking.__init__" (s_tg 0) ftk)
    (n1 : PySem.W.nsIn K mainGlobals "check_number" = some (some (.ref f0)))
    (n3 : XG K "check_number" "check_number" s_check_number f0 (.int 0))
    (xBadThingBadThing : PySem.W.subIn K (.ref CT) (.ref CT) = some true)
    (xBadNumberBadNumber : PySem.W.subIn K (.ref CN) (.ref CN) = some true)
    (xNoneSuchNoneSuch : PySem.W.subIn K (.ref CNS) (.ref CNS) = some true)
    (xBadNumberBadThing : PySem.W.subIn K (.ref CN) (.ref CT) = some false)
    (xNoneSuchBadThing : PySem.W.subIn K (.ref CNS) (.ref CT) = some false)
    (xNoneSuchBadNumber : PySem.W.subIn K (.ref CNS) (.ref CN) = some false)
    (pthingsleft1 : PySem.W.findIn K (.ref D) "things_left" = some (some (.ref ppthingsleft)))
    (pthingsleft2 : PySem.W.specialIn K (.ref ppthingsleft) "__get__" = some (some (.builtin "property.__get__")))
    (pthingsleft3 : PySem.W.takesIn K (.ref ppthingsleft) = some true)
    (pthingsleft4 : PySem.W.recIn K ppthingsleft "property" = some (.ref gpthingsleft :: rpthingsleft))
    (pthingsleft5 : PG K "things_left" "Taking.things_left" (s_tg 1) gpthingsleft)
    (x1noends : PySem.W.nsIn K mainGlobals "no_ends" = some (some (.ref fxnoends)))
    (x3noends : XG K "no_ends" "no_ends" s_ne7 fxnoends .non)
    (x1nomiddles : PySem.W.nsIn K mainGlobals "no_middles" = some (some (.ref fxnomiddles)))
    (x3nomiddles : XG K "no_middles" "no_middles" s_nm7 fxnomiddles .non)
    (mTaking_sides_for : MG K D "sides_for" "Taking.sides_for" ((s_tg 3)))
    (t1take : PySem.W.findIn K (.ref D) "take" = some (some (.ref fttake)))
    (t2take : PySem.W.isFn K (.ref fttake) = true)
    (t3take : PySem.W.fnIn K fttake = true)
    (t4take : XG K "take" "Taking.take" (s_tg 4) fttake .non)
    (ptakesrow1 : PySem.W.findIn K (.ref D) "takes_row" = some (some (.ref pptakesrow)))
    (ptakesrow2 : PySem.W.specialIn K (.ref pptakesrow) "__get__" = some (some (.builtin "property.__get__")))
    (ptakesrow3 : PySem.W.takesIn K (.ref pptakesrow) = some true)
    (ptakesrow4 : PySem.W.recIn K pptakesrow "property" = some (.ref gptakesrow :: rptakesrow))
    (ptakesrow5 : PG K "takes_row" "Taking.takes_row" (s_tg 2) gptakesrow)
    (mTaking_takable : MG K D "takable" "Taking.takable" ((s_tg 5)))
    (mTaking_take_all : MG K D "take_all" "Taking.take_all" ((s_tg 6)))
    (mWeb_eq : MG K C "__eq__" "Web.__eq__" ((s_w 11)))
    (z0 : PySem.W.nsIn K mainGlobals "isinstance" = some none)
    (z1 : PySem.W.nsIn K mainGlobals "int" = some none)
    (z2 : PySem.W.nsIn K mainGlobals "bool" = some none)
    (z3 : PySem.W.nsIn K mainGlobals "list" = some none)
    (z4 : PySem.W.nsIn K mainGlobals "tuple" = some none)
    (z5 : PySem.W.nsIn K mainGlobals "len" = some none)
    (z6 : PySem.W.nsIn K mainGlobals "set" = some none)
    (z7 : PySem.W.nsIn K mainGlobals "min" = some none)
    (z8 : PySem.W.nsIn K mainGlobals "max" = some none)
    (z9 : PySem.W.nsIn K mainGlobals "sorted" = some none)
    (z10 : PySem.W.nsIn K mainGlobals "range" = some none)
    (z11 : PySem.W.nsIn K mainGlobals "enumerate" = some none)
    (z12 : PySem.W.nsIn K mainGlobals "repr" = some none)
    (z13 : PySem.W.nsIn K mainGlobals "iter" = some none)
    (z14 : PySem.W.nsIn K mainGlobals "sum" = some none)
    (z15 : PySem.W.nsIn K mainGlobals "zip" = some none)
    (d_is_int : DG K "is_int" s_is_int)
    (d_is_pair : DG K "is_pair" s_is_pair)
    (d_is_thing : DG K "is_thing" s_is_thing)
    (d_checked_clashes : DG K "checked_clashes" s_cc)
    (d_near_masks : DG K "near_masks" s_nm)
    (d_law_draws : DG K "_law_draws" s_dr)
    (d_law_take : DG K "_law_take" s_tk)
    (d_law_line : DG K "_law_line" s_ln')
    (d_law_ring : DG K "_law_ring" s_rg)
    (d_law_ring_row : DG K "_law_ring_row" s_rr')
    (d_law_contrary : DG K "_law_contrary" s_co)
    (d_law_stretches : DG K "_law_stretches" s_st')
    (d_law_row : DG K "_law_row" s_ro)
    (d_law_falling : DG K "_law_falling" s_fa)
    (d_law_free : DG K "_law_free" s_fr)
    (d_law_small : DG K "_law_small" s_sm)
    (d_law_sides : DG K "_law_sides" s_sd)
    (d_law_near : DG K "_law_near" s_ne)
    (d_law_twins : DG K "_law_twins" s_tw)
    (d_law_made : DG K "_law_made" s_md)
    (d_law_moved : DG K "_law_moved" s_mv)
    (d_law_case : DG K "_law_case" s_ca)
    (d_law_clash : DG K "_law_clash" s_ck)
    (d_law_quads : DG K "_law_quads" s_lq)
    (d_law_core : DG K "_law_core" s_lco)
    (d_whole_mask : DG K "whole_mask" s_wh)
    (d_things_in : DG K "things_in" s_ti)
    (d_rows_of_four : DG K "rows_of_four" s_rf)
    (d_mask_of : DG K "mask_of" s_mo)
    (d_row_masks : DG K "row_masks" s_rm)
    (d_held_masks : DG K "held_masks" s_hm)
    (d_core : DG K "core" s_core)
    (d_law_int : DG K "_law_int" s_li)
    (d_law_same_row : DG K "_law_same_row" s_lsr)
    (d_law_inside : DG K "_law_inside" s_lins)
    (d_law_no_end : DG K "_law_no_end" s_lne)
    (d_law_no_middle : DG K "_law_no_middle" s_lnm)
    (d_law_due : DG K "_law_due" s_ldu)
    (d_first_unfit : DG K "first_unfit" s_fw)
    (d_check_things : DG K "check_things" s_cs)
    (d_check_part : DG K "check_part" s_cp)
    (d_law_told : DG K "_law_told" s_lto)
    (d_law_state : DG K "_law_state" s_lsa)
    (d_law_step : DG K "_law_step" s_lst7)
    (d_law_able : DG K "_law_able" s_lab)
    (d_law_walk : DG K "_law_walk" s_lwk)
    (d_law_least_first : DG K "_law_least_first" s_llf)
    (dLW : DG K "law" s_lw) :
    ∃ fd : FuncData, (∀ (s : Shared) (v : Value), BindsTo s fd ⟨[v], []⟩ [("_law_script", v)]) ∧ ∀ base : Heap, K.In base → base.Ns mainGlobals mg → FnOk P w K mg base (L2.CX P w) 12 fa fd ["_law_script"] (spLw K) := by
  have B3 : Blt3 mg := ⟨⟨⟨PySem.W.mg_none_of X G z0, PySem.W.mg_none_of X G z1, PySem.W.mg_none_of X G z2, PySem.W.mg_none_of X G z3, PySem.W.mg_none_of X G z4, PySem.W.mg_none_of X G z5⟩, PySem.W.mg_none_of X G z6, PySem.W.mg_none_of X G z7, PySem.W.mg_none_of X G z8, PySem.W.mg_none_of X G z9, PySem.W.mg_none_of X G z10, PySem.W.mg_none_of X G z11, PySem.W.mg_none_of X G z12, PySem.W.mg_none_of X G z13⟩, PySem.W.mg_none_of X G z14, PySem.W.mg_none_of X G z15⟩
  have B : Blt2 mg := B3.toBlt2
  have cC : Cls K C := ⟨pgC, hdC, poC, saC⟩
  have TW : WebC K C := ⟨cC, nm, nc, nk⟩
  have gWeb : mg "Web" = some (.ref C) := PySem.W.mg_of X G aC
  have TWI : WebI K C := ⟨TW, haC, hn, tk, hmC, kit_self, fun T hT => kit_no hdC tCC (by
    rcases List.mem_cons.mp hT with rfl | hT; exact t0
    rcases List.mem_cons.mp hT with rfl | hT; exact t1
    rcases List.mem_cons.mp hT with rfl | hT; exact t2
    rcases List.mem_cons.mp hT with rfl | hT; exact t3
    rcases List.mem_cons.mp hT with rfl | hT; exact t4
    rcases List.mem_cons.mp hT with rfl | hT; exact t5
    cases hT), fun T hT => by
    rcases List.mem_cons.mp hT with rfl | hT; exact q0
    rcases List.mem_cons.mp hT with rfl | hT; exact q1
    cases hT⟩
  have cD : Cls K D := ⟨pgD, hdD, poD, saD⟩
  have TT : TakC K D := ⟨cD, nw, nf, nb, nt⟩
  have gTaking : mg "Taking" = some (.ref D) := PySem.W.mg_of X G aD
  obtain ⟨fl, fdl, el, Fl⟩ := dLW.ex
  have el' := hfa.symm.trans (PySem.W.mg_of X G el)
  cases el'
  refine ⟨fdl, fun s v => ?_, fun base _ _ => ?_⟩
  · obtain ⟨oc, od, kV, doc, pm, an, cdv, ct, osl, rfl, _, _⟩ := Fl.ex
    exact .of_eq rfl
  have h_int : Df P w K mg base "is_int" 1 ["value"] (spInt) := d_is_int.df X G (fun f fd F => FnOk.up (ok_int F B.toBlt)) (fun _ _ _ _ _ _ us hl => match us, hl with | [_], _ => rfl)
  have eBadNumberR : Er P w K mg base "BadNumber" CN ["name"] ["self", "name"] (spE1 CN "name") := eBadNumber.er X G (fun f fd F => ok_e1 F eBadNumber.T) (fun _ _ _ _ _ _ us hl => match us, hl with | [_, _], _ => rfl)
  have CNum : DfD P w K mg base "check_number" 3 ["value", "name", "least"] [.int 0] (spCn CN) := by
    obtain ⟨fd, F⟩ := n3.ex
    obtain ⟨ds, v, b⟩ := F.binds1 (ps := ["value", "name", "least"]) 2 0 (by simp) rfl fun _ _ _ _ _ _ _ us its l1 l2 => match us, its, l1, l2 with | [_, _], [_], _, _ => ⟨_, rfl, rfl⟩
    exact ⟨f0, fd, ds, PySem.W.mg_of X G n1, F.kp, ok_cn F h_int eBadNumberR, v, b⟩
  have CN3 : Df P w K mg base "check_number" 3 ["value", "name", "least"] (spCn CN) := by
    obtain ⟨fd, F⟩ := n3.ex
    obtain ⟨ds2, v2, b2⟩ := F.binds1 (ps := ["value", "name", "least"]) 3 1 (by simp) rfl fun _ _ _ _ _ _ _ us its l1 l2 => match us, its, l1, l2 with | [_, _, _], [_], _, _ => ⟨_, rfl, rfl⟩
    have w2 : Vals [] ds2 := v2
    cases w2
    exact ⟨f0, fd, PySem.W.mg_of X G n1, F.kp, ok_cn F h_int eBadNumberR, b2⟩
  have h_pair : Df P w K mg base "is_pair" 1 ["value"] (spPair) := d_is_pair.df X G (fun f fd F => FnOk.up (ok_pair F B.toBlt)) (fun _ _ _ _ _ _ us hl => match us, hl with | [_], _ => rfl)
  have h_th : Df P w K mg base "is_thing" 2 ["many", "value"] (spTh) := d_is_thing.df X G (fun f fd F => ok_th F h_int) (fun _ _ _ _ _ _ us hl => match us, hl with | [_, _], _ => rfl)
  have eBadWebR : Er P w K mg base "BadWeb" CW ["x", "y"] ["self", "x", "y"] (spE2 CW "x" "y") := eBadWeb.er X G (fun f fd F => ok_eW F eBadWeb.T) (fun _ _ _ _ _ _ us hl => match us, hl with | [_, _, _], _ => rfl)
  have h_cc : Df P w K mg base "checked_clashes" 3 ["many", "clashes"] (spCC K CW) := d_checked_clashes.df X G (fun f fd F => ok_cc F B h_pair h_th eBadWebR) (fun _ _ _ _ _ _ us hl => match us, hl with | [_, _], _ => rfl)
  have h_nm : Df P w K mg base "near_masks" 1 ["many", "clashes"] (spNm) := d_near_masks.df X G (fun f fd F => ok_nm F B) (fun _ _ _ _ _ _ us hl => match us, hl with | [_, _], _ => rfl)
  have WK : WebK P w K mg base C CN CW := by
    obtain ⟨fd, F⟩ := i3.ex
    obtain ⟨ds, v, b⟩ := F.binds1 (ps := ["self", "many", "clashes"]) 2 0 (by simp) rfl fun _ _ _ _ _ _ _ us its l1 l2 => match us, its, l1, l2 with | [_, _], [_], _, _ => ⟨_, rfl, rfl⟩
    obtain ⟨ds2, v2, b2⟩ := F.binds1 (ps := ["self", "many", "clashes"]) 3 1 (by simp) rfl fun _ _ _ _ _ _ _ us its l1 l2 => match us, its, l1, l2 with | [_, _, _], [_], _, _ => ⟨_, rfl, rfl⟩
    have w1 : Vals [V.ref e0] ds := v
    have w2 : Vals [] ds2 := v2
    cases w2
    cases w1 with
    | cons r1 r2 =>
      cases r2
      cases r1
      exact ⟨gWeb, fi, fd, ⟨mkC, i1, i2, kCC⟩, ok_wi F TW CNum h_cc h_nm, b2, e0, i4.sq, b⟩
  have h_dr : Df P w K mg base "_law_draws" 1 ["_law_script"] (spDr K) := d_law_draws.df X G (fun f fd F => ok_dr F B) (fun _ _ _ _ _ _ us hl => match us, hl with | [_], _ => rfl)
  have h_tk : Df P w K mg base "_law_take" 1 ["_law_draws_here", "_law_many"] (spTk) := d_law_take.df X G (fun f fd F => ok_tk F B) (fun _ _ _ _ _ _ us hl => match us, hl with | [_, _], _ => rfl)
  have h_ln_p : Df P w K mg base "_law_line" 1 ["_law_many"] (spLine) := d_law_line.df X G (fun f fd F => ok_ln' F B) (fun _ _ _ _ _ _ us hl => match us, hl with | [_], _ => rfl)
  have h_rgN : Df P w K mg base "_law_ring" 1 ["_law_many"] (spRg) := d_law_ring.df X G (fun f fd F => ok_rgN F B) (fun _ _ _ _ _ _ us hl => match us, hl with | [_], _ => rfl)
  have h_rrw : Df P w K mg base "_law_ring_row" 1 ["_law_many"] (spRrw) := d_law_ring_row.df X G (fun f fd F => ok_rrw F B) (fun _ _ _ _ _ _ us hl => match us, hl with | [_], _ => rfl)
  have h_co : Df P w K mg base "_law_contrary" 1 ["_law_many", "_law_pairs"] (spCo) := d_law_contrary.df X G (fun f fd F => ok_co F B) (fun _ _ _ _ _ _ us hl => match us, hl with | [_, _], _ => rfl)
  have h_str : Df P w K mg base "_law_stretches" 2 ["_law_draws_here", "_law_many"] (spStr) := d_law_stretches.df X G (fun f fd F => ok_str F B h_tk) (fun _ _ _ _ _ _ us hl => match us, hl with | [_, _], _ => rfl)
  have h_ro : Df P w K mg base "_law_row" 2 ["_law_draws_here", "_law_many"] (spRo) := d_law_row.df X G (fun f fd F => ok_ro F B h_tk) (fun _ _ _ _ _ _ us hl => match us, hl with | [_, _], _ => rfl)
  have h_fa : Df P w K mg base "_law_falling" 3 ["_law_draws_here", "_law_many"] (spFa) := d_law_falling.df X G (fun f fd F => ok_fa F B h_ro) (fun _ _ _ _ _ _ us hl => match us, hl with | [_, _], _ => rfl)
  have h_fr : Df P w K mg base "_law_free" 2 ["_law_draws_here", "_law_many", "_law_left"] (spFr) := d_law_free.df X G (fun f fd F => ok_fr F B h_tk) (fun _ _ _ _ _ _ us hl => match us, hl with | [_, _, _], _ => rfl)
  have h_sm : Df P w K mg base "_law_small" 2 ["_law_draws_here"] (spSm) := d_law_small.df X G (fun f fd F => ok_sm F B h_tk h_ln_p) (fun _ _ _ _ _ _ us hl => match us, hl with | [_], _ => rfl)
  have h_sd : Df P w K mg base "_law_sides" 1 ["_law_one", "_law_other", "_law_joined"] (spSd) := d_law_sides.df X G (fun f fd F => ok_sd F B) (fun _ _ _ _ _ _ us hl => match us, hl with | [_, _, _], _ => rfl)
  have h_nu : Df P w K mg base "_law_near" 2 ["_law_many", "_law_pairs", "_law_x"] (spNu) := d_law_near.df X G (fun f fd F => ok_nu F B) (fun _ _ _ _ _ _ us hl => match us, hl with | [_, _, _], _ => rfl)
  have h_tw : Df P w K mg base "_law_twins" 3 ["_law_draws_here", "_law_case_here", "_law_most"] (spTwn) := d_law_twins.df X G (fun f fd F => ok_tw F B h_tk h_nu) (fun _ _ _ _ _ _ us hl => match us, hl with | [_, _, _], _ => rfl)
  have M : Mks P w K mg base := ⟨h_tk, h_ln_p, h_rgN, h_rrw, h_co, h_str, h_fa, h_fr, h_sm, h_sd, h_tw⟩
  have h_md : Df P w K mg base "_law_made" 4 ["_law_draws_here", "_law_most"] (spMd) := d_law_made.df X G (fun f fd F => ok_md F B M) (fun _ _ _ _ _ _ us hl => match us, hl with | [_, _], _ => rfl)
  have h_mv : Df P w K mg base "_law_moved" 1 ["_law_row_here", "_law_which", "_law_place"] (spMv) := d_law_moved.df X G (fun f fd F => ok_mv F B) (fun _ _ _ _ _ _ us hl => match us, hl with | [_, _, _], _ => rfl)
  have h_ca : Df P w K mg base "_law_case" 5 ["_law_draws_here", "_law_most"] (spMd) := d_law_case.df X G (fun f fd F => ok_ca F B h_tk h_md h_mv h_ro) (fun _ _ _ _ _ _ us hl => match us, hl with | [_, _], _ => rfl)
  have h_ne : Df P w K mg base "_law_near" 2 ["_law_many", "_law_pairs", "_law_x"] (spNe) := d_law_near.df X G (fun f fd F => ok_ne F B) (fun _ _ _ _ _ _ us hl => match us, hl with | [_, _, _], _ => rfl)
  have h_ck : Df P w K mg base "_law_clash" 2 ["_law_pairs", "_law_x", "_law_y"] (spCk) := d_law_clash.df X G (fun f fd F => ok_ck F B) (fun _ _ _ _ _ _ us hl => match us, hl with | [_, _, _], _ => rfl)
  have h_lq : Df P w K mg base "_law_quads" 3 ["_law_many", "_law_pairs"] (spLq) := d_law_quads.df X G (fun f fd F => ok_lq F B3 h_ne h_ck) (fun _ _ _ _ _ _ us hl => match us, hl with | [_, _], _ => rfl)
  have h_lco : Df P w K mg base "_law_core" 1 ["_law_many", "_law_quads_here"] (spLco) := d_law_core.df X G (fun f fd F => ok_lco F B) (fun _ _ _ _ _ _ us hl => match us, hl with | [_, _], _ => rfl)
  have h_wh : Df P w K mg base "whole_mask" 1 ["many"] (spWh) := d_whole_mask.df X G (fun f fd F => ok_wh F ) (fun _ _ _ _ _ _ us hl => match us, hl with | [_], _ => rfl)
  have h_ti : Df P w K mg base "things_in" 1 ["mask"] (spTi) := d_things_in.df X G (fun f fd F => ok_ti F B) (fun _ _ _ _ _ _ us hl => match us, hl with | [_], _ => rfl)
  have h_rf : Df P w K mg base "rows_of_four" 2 ["web"] (spRf C) := d_rows_of_four.df X G (fun f fd F => ok_rf F B3 TW h_ti) (fun _ _ _ _ _ _ us hl => match us, hl with | [_], _ => rfl)
  have h_mo : Df P w K mg base "mask_of" 1 ["things"] (spMo K) := d_mask_of.df X G (fun f fd F => ok_mo F ) (fun _ _ _ _ _ _ us hl => match us, hl with | [_], _ => rfl)
  have h_rm : Df P w K mg base "row_masks" 3 ["web"] (spRm C) := d_row_masks.df X G (fun f fd F => ok_rm F h_rf h_mo) (fun _ _ _ _ _ _ us hl => match us, hl with | [_], _ => rfl)
  have h_hm : Df P w K mg base "held_masks" 1 ["rows", "part"] (spHm) := d_held_masks.df X G (fun f fd F => ok_hm F ) (fun _ _ _ _ _ _ us hl => match us, hl with | [_, _], _ => rfl)
  have h_core : Df P w K mg base "core" 4 ["web"] (spCore C) := d_core.df X G (fun f fd F => ok_core F TW h_wh h_rm h_hm h_ti) (fun _ _ _ _ _ _ us hl => match us, hl with | [_], _ => rfl)
  have h_li : Df P w K mg base "_law_int" 1 ["_law_value"] (spInt) := d_law_int.df X G (fun f fd F => ok_li F B) (fun _ _ _ _ _ _ us hl => match us, hl with | [_], _ => rfl)
  have h_lsr : Df P w K mg base "_law_same_row" 2 ["_law_told_here", "_law_due_here"] (spLsr) := d_law_same_row.df X G (fun f fd F => ok_lsr F B h_li) (fun _ _ _ _ _ _ us hl => match us, hl with | [_, _], _ => rfl)
  have TKK : TakK P w K mg base D := by
    obtain ⟨fd, F⟩ := tk3.ex
    exact ⟨gTaking, ftk, fd, ⟨mkD, tk1, tk2, kCD⟩, ok_tki F TT, F.binds (ps := ["self", "web"]) (fun _ _ _ _ _ _ us hl => match us, hl with | [_, _], _ => rfl)⟩
  have h_ins : Df P w K mg base "_law_inside" 1 ["_law_quads_here", "_law_left"] (spIns) := d_law_inside.df X G (fun f fd F => ok_ins F B) (fun _ _ _ _ _ _ us hl => match us, hl with | [_, _], _ => rfl)
  have h_lne : Df P w K mg base "_law_no_end" 2 ["_law_quads_here", "_law_left", "_law_x"] (spLn7 hasE) := d_law_no_end.df X G (fun f fd F => ok_lne F B h_ins) (fun _ _ _ _ _ _ us hl => match us, hl with | [_, _, _], _ => rfl)
  have h_lnm : Df P w K mg base "_law_no_middle" 2 ["_law_quads_here", "_law_left", "_law_x"] (spLn7 hasM) := d_law_no_middle.df X G (fun f fd F => ok_lnm F B h_ins) (fun _ _ _ _ _ _ us hl => match us, hl with | [_, _, _], _ => rfl)
  have h_due : Df P w K mg base "_law_due" 3 ["_law_quads_here", "_law_left", "_law_thing", "_law_side"] (spDue K) := d_law_due.df X G (fun f fd F => ok_due F h_li h_lne h_lnm) (fun _ _ _ _ _ _ us hl => match us, hl with | [_, _, _, _], _ => rfl)
  have h_tl : PrT P w K mg base D "things_left" 1 (spTL C D) := by
    obtain ⟨fd, F⟩ := pthingsleft5.ex
    exact ⟨ppthingsleft, gpthingsleft, fd, cD, ⟨pthingsleft1, pthingsleft2, pthingsleft3, rpthingsleft, pthingsleft4⟩, ok_tl F B TW TT, F.binds (ps := ["self"]) (fun _ _ _ _ _ _ us hl => match us, hl with | [_], _ => rfl)⟩
  have h_fw : Df P w K mg base "first_unfit" 3 ["things", "row"] (spFw K) := d_first_unfit.df X G (fun f fd F => ok_fw F B h_int) (fun _ _ _ _ _ _ us hl => match us, hl with | [_, _], _ => rfl)
  have eBadPartR : Er P w K mg base "BadPart" CP ["place"] ["self", "place"] (spE1 CP "place") := eBadPart.er X G (fun f fd F => ok_eP F eBadPart.T) (fun _ _ _ _ _ _ us hl => match us, hl with | [_, _], _ => rfl)
  have h_cs : Df P w K mg base "check_things" 4 ["many", "things"] (spCs K CP) := d_check_things.df X G (fun f fd F => ok_cs F B h_fw eBadPartR) (fun _ _ _ _ _ _ us hl => match us, hl with | [_, _], _ => rfl)
  have h_cp : Df P w K mg base "check_part" 5 ["many", "part"] (spCp K) := d_check_part.df X G (fun f fd F => ok_cp F B h_cs) (fun _ _ _ _ _ _ us hl => match us, hl with | [_, _], _ => rfl)
  have h_ne7 : Df P w K mg base "no_ends" 6 ["web", "part"] (spNx C hasE) := by
    obtain ⟨fd, F⟩ := x3noends.ex
    obtain ⟨ds2, v2, b2⟩ := F.binds1 (ps := ["web", "part"]) 2 1 (by simp) rfl fun _ _ _ _ _ _ _ us its l1 l2 => match us, its, l1, l2 with | [_, _], [_], _, _ => ⟨_, rfl, rfl⟩
    have w2 : Vals [] ds2 := v2
    cases w2
    exact ⟨fxnoends, fd, PySem.W.mg_of X G x1noends, F.kp, ok_ne7 F TW h_cp h_mo h_rm h_hm h_ti, b2⟩
  have h_nm7 : Df P w K mg base "no_middles" 6 ["web", "part"] (spNx C hasM) := by
    obtain ⟨fd, F⟩ := x3nomiddles.ex
    obtain ⟨ds2, v2, b2⟩ := F.binds1 (ps := ["web", "part"]) 2 1 (by simp) rfl fun _ _ _ _ _ _ _ us its l1 l2 => match us, its, l1, l2 with | [_, _], [_], _, _ => ⟨_, rfl, rfl⟩
    have w2 : Vals [] ds2 := v2
    cases w2
    exact ⟨fxnomiddles, fd, PySem.W.mg_of X G x1nomiddles, F.kp, ok_nm7 F TW h_cp h_mo h_rm h_hm h_ti, b2⟩
  have h_sf : Mt P w K mg base D "sides_for" 7 ["self", "thing"] (spSf C D) := mTaking_sides_for.mt cD (fun f fd F => ok_sf F TT h_tl h_ne7 h_nm7) (fun _ _ _ _ _ _ us hl => match us, hl with | [_, _], _ => rfl)
  have eBadThingR : Er P w K mg base "BadThing" CT ["thing"] ["self", "thing"] (spE1 CT "thing") := eBadThing.er X G (fun f fd F => ok_eT F eBadThing.T) (fun _ _ _ _ _ _ us hl => match us, hl with | [_, _], _ => rfl)
  have eNoneSuchR : Er P w K mg base "NoneSuch" CNS ["name"] ["self", "name"] (spE1 CNS "name") := eNoneSuch.er X G (fun f fd F => ok_eNS F eNoneSuch.T) (fun _ _ _ _ _ _ us hl => match us, hl with | [_, _], _ => rfl)
  have TD_take : MtD P w K mg base D "take" 8 ["self", "thing", "side"] [.non] (spTake C D CT CN CNS) := by
    obtain ⟨fd, F⟩ := t4take.ex
    obtain ⟨ds, v, b⟩ := F.binds1 (ps := ["self", "thing", "side"]) 2 0 (by simp) rfl fun _ _ _ _ _ _ _ us its l1 l2 => match us, its, l1, l2 with | [_, _], [_], _, _ => ⟨_, rfl, rfl⟩
    exact ⟨fttake, fd, ds, cD, ⟨t1take, t2take, F.kp⟩, ok_tk7 F TT h_int h_tl h_sf eBadThingR eBadNumberR eNoneSuchR, v, b⟩
  have h_tk7 : Mt P w K mg base D "take" 8 ["self", "thing", "side"] (spTake C D CT CN CNS) := by
    obtain ⟨fd, F⟩ := t4take.ex
    obtain ⟨ds2, v2, b2⟩ := F.binds1 (ps := ["self", "thing", "side"]) 3 1 (by simp) rfl fun _ _ _ _ _ _ _ us its l1 l2 => match us, its, l1, l2 with | [_, _, _], [_], _, _ => ⟨_, rfl, rfl⟩
    have w2 : Vals [] ds2 := v2
    cases w2
    exact ⟨fttake, fd, cD, ⟨t1take, t2take, F.kp⟩, t2take, t3take, t1take, ok_tk7 F TT h_int h_tl h_sf eBadThingR eBadNumberR eNoneSuchR, b2⟩
  have h_lto : Df P w K mg base "_law_told" 9 ["_law_taking", "_law_thing", "_law_side", "_law_plain"] (spLto C D) := d_law_told.df X G (fun f fd F => ok_lto F (PySem.W.mg_of X G eBadThing.g) (PySem.W.mg_of X G eBadNumber.g) (PySem.W.mg_of X G eNoneSuch.g) (PySem.W.mg_of X G aOrdersError) (eBadThing.T.exm xBadThingBadThing) (eBadNumber.T.exm xBadNumberBadNumber) (eNoneSuch.T.exm xNoneSuchNoneSuch) (eBadThing.T.exm xBadNumberBadThing) (eBadThing.T.exm xNoneSuchBadThing) (eBadNumber.T.exm xNoneSuchBadNumber) eBadThing.T.xf eBadNumber.T.xf eNoneSuch.T.xf (eBadThing.T.no _ (by simp)) (eBadNumber.T.no _ (by simp)) (eNoneSuch.T.no _ (by simp)) TD_take h_tk7) (fun _ _ _ _ _ _ us hl => match us, hl with | [_, _, _, _], _ => rfl)
  have h_tr : PrT P w K mg base D "takes_row" 1 (spTR D) := by
    obtain ⟨fd, F⟩ := ptakesrow5.ex
    exact ⟨pptakesrow, gptakesrow, fd, cD, ⟨ptakesrow1, ptakesrow2, ptakesrow3, rptakesrow, ptakesrow4⟩, ok_tr F TT, F.binds (ps := ["self"]) (fun _ _ _ _ _ _ us hl => match us, hl with | [_], _ => rfl)⟩
  have h_sta : Df P w K mg base "_law_state" 3 ["_law_taking", "_law_left", "_law_pairs"] (spSta C D) := d_law_state.df X G (fun f fd F => ok_sta F B TT h_tl h_tr h_lsr) (fun _ _ _ _ _ _ us hl => match us, hl with | [_, _, _], _ => rfl)
  have h_lst7 : Df P w K mg base "_law_step" 10 ["_law_taking", "_law_quads_here", "_law_left", "_law_pairs", "_law_thing", "_law_side", "_law_plain"] (spLst7 C D) := d_law_step.df X G (fun f fd F => ok_lst7 F h_due h_lto h_sta) (fun _ _ _ _ _ _ us hl => match us, hl with | [_, _, _, _, _, _, _], _ => rfl)
  have h_lab : Df P w K mg base "_law_able" 3 ["_law_quads_here", "_law_left"] (spLab) := d_law_able.df X G (fun f fd F => ok_lab F h_lne h_lnm) (fun _ _ _ _ _ _ us hl => match us, hl with | [_, _], _ => rfl)
  have h_tb : Mt P w K mg base D "takable" 7 ["self"] (spTb C D) := mTaking_takable.mt cD (fun f fd F => ok_tb F TT h_tl h_ne7 h_nm7) (fun _ _ _ _ _ _ us hl => match us, hl with | [_], _ => rfl)
  have h_ta : Mt P w K mg base D "take_all" 9 ["self"] (spTa C D) := mTaking_take_all.mt cD (fun f fd F => ok_ta F h_tl h_tb TD_take) (fun _ _ _ _ _ _ us hl => match us, hl with | [_], _ => rfl)
  have h_lwk : Df P w K mg base "_law_walk" 11 ["_law_draws_here", "_law_web", "_law_many", "_law_quads_here"] (spLwk C) := d_law_walk.df X G (fun f fd F => ok_lwk F B TKK h_tk h_lst7 h_lab h_lsr h_ta h_sta) (fun _ _ _ _ _ _ us hl => match us, hl with | [_, _, _, _], _ => rfl)
  have h_eqw : Mt P w K mg base C "__eq__" 1 ["self", "other"] (spEqW C) := mWeb_eq.mt cC (fun f fd F => ok_eqw F B TWI gWeb) (fun _ _ _ _ _ _ us hl => match us, hl with | [_, _], _ => rfl)
  have h_llf : Df P w K mg base "_law_least_first" 10 ["_law_web", "_law_many", "_law_quads_here", "_law_pairs"] (spLlf C) := d_law_least_first.df X G (fun f fd F => ok_llf F B TT TKK h_lto h_lab h_lne h_lsr h_ta h_sta h_eqw) (fun _ _ _ _ _ _ us hl => match us, hl with | [_, _, _, _], _ => rfl)
  exact ok_lw  Fl B3 WK h_dr h_tk h_ca h_lq h_lco h_core h_lsr h_lwk h_lab h_lnm h_llf
theorem walk {l : PySem.W.OpenLaw} {q : Program} {loose : List Str} {XP : (Str → Option Value) → Heap → Prop} {YP : World → Heap → Prop} {d : DefRec} {K : Params → PySem.W.Frag} (hn : l.most = some 63) (hdf : d.params.defaults = [])
    (hY : ∀ (w : World) (h : Heap), YP w h → (K w.params).In h)
    (F : ∀ (w : World) (mg : Str → Option Value) (fa : Addr) (h : Heap), (K w.params).In h → h.Ns mainGlobals mg → mg d.name = some (.ref fa) →
      ∃ fd : FuncData, (∀ (s : Shared) (u : Value), BindsTo s fd ⟨[u], []⟩ [("_law_script", u)]) ∧ ∀ base : Heap, (K w.params).In base → base.Ns mainGlobals mg → FnOk l.prog w (K w.params) mg base (L2.CX l.prog w) 12 fa fd ["_law_script"] (spLw (K w.params))) :
    PySem.W.WalkO q loose XP YP l.row.toRowW d [] (fun f vs => PySem.call f vs) :=
  L2.walk_of (n := 63) (k := 12) (x := "_law_script") (CX := fun w => L2.CX l.prog w) (sp := fun w => spLw (K w.params)) hn (by decide) hdf ⟨rfl, by decide, by decide⟩ hY F (fun _ _ a ns _ _ hS => ⟨a, ns, rfl, hS, fun _ => rfl⟩)
    fun _ _ _ _ _ z => by
      obtain ⟨_, _, _, _, _, _, _, _, _, _, _, _, z⟩ := z
      exact z
end K0
set_option Elab.async false
set_option maxRecDepth 100000
open PySem PySem.W PyProof.Rows
set_option maxRecDepth 100000 in
set_option maxHeartbeats 0 in
theorem PySem.Challenge.cw_perfectorders_k79_one_core_however_taken_holds : PySem.Challenge.rw_perfectorders_k79_one_core_however_taken.Holds := by
  w_on; o_law; k_head; (case hw => w_witness2)
  k_fill
  refine K0.walk (l := PySem.Challenge.rw_perfectorders_k79_one_core_however_taken) rfl rfl (fun w h Y => PySem.W.kIn_of Y) ?F
  case F =>
    intro w mg fa h KX G hmg
    refine' K0.all_mk KX G hmg ?eBadNumber ?eBadWeb ?eBadPart ?eBadThing ?eNoneSuch ?aOrdersError ?aC ?pgC ?hdC ?poC ?saC ?mkC ?kCC ?c1C ?c2C ?haC ?hmC ?tCC ?t0 ?t1 ?t2 ?t3 ?t4 ?t5 ?q0 ?q1 ?aD ?pgD ?hdD ?poD ?saD ?mkD ?kCD ?c1D ?c2D ?hn ?tk ?nm ?nc ?nk ?i1 ?i2 ?i3 ?i4 ?nw ?nf ?nb ?nt ?tk1 ?tk2 ?tk3 ?n1 ?n3 ?xBadThingBadThing ?xBadNumberBadNumber ?xNoneSuchNoneSuch ?xBadNumberBadThing ?xNoneSuchBadThing ?xNoneSuchBadNumber ?pthingsleft1 ?pthingsleft2 ?pthingsleft3 ?pthingsleft4 ?pthingsleft5 ?x1noends ?x3noends ?x1nomiddles ?x3nomiddles ?mTaking_sides_for ?t1take ?t2take ?t3take ?t4take ?ptakesrow1 ?ptakesrow2 ?ptakesrow3 ?ptakesrow4 ?ptakesrow5 ?mTaking_takable ?mTaking_take_all ?mWeb_eq ?z0 ?z1 ?z2 ?z3 ?z4 ?z5 ?z6 ?z7 ?z8 ?z9 ?z10 ?z11 ?z12 ?z13 ?z14 ?z15 ?d_is_int ?d_is_pair ?d_is_thing ?d_checked_clashes ?d_near_masks ?d_law_draws ?d_law_take ?d_law_line ?d_law_ring ?d_law_ring_row ?d_law_contrary ?d_law_stretches ?d_law_row ?d_law_falling ?d_law_free ?d_law_small ?d_law_sides ?d_law_near ?d_law_twins ?d_law_made ?d_law_moved ?d_law_case ?d_law_clash ?d_law_quads ?d_law_core ?d_whole_mask ?d_things_in ?d_rows_of_four ?d_mask_of ?d_row_masks ?d_held_masks ?d_core ?d_law_int ?d_law_same_row ?d_law_inside ?d_law_no_end ?d_law_no_middle ?d_law_due ?d_first_unfit ?d_check_things ?d_check_part ?d_law_told ?d_law_state ?d_law_step ?d_law_able ?d_law_walk ?d_law_least_first ?dLW
    (case eBadNumber => (refine' K0.eg_mk ?eBadNumber_g ?eBadNumber_xl ?eBadNumber_xe ?eBadNumber_xb ?eBadNumber_sa ?eBadNumber_ga ?eBadNumber_gg ?eBadNumber_ex ?eBadNumber_ty ?eBadNumber_kc ?eBadNumber_hd ?eBadNumber_no ?eBadNumber_i ?eBadNumber_t ?eBadNumber_l ?eBadNumber_e ?eBadNumber_e1 ?eBadNumber_e2 ?eBadNumber_e3 ?eBadNumber_c ?eBadNumber_k; (case eBadNumber_g => k_is); (case eBadNumber_xl => k_is); (case eBadNumber_xe => exact rfl); (case eBadNumber_xb => decide +kernel); (case eBadNumber_sa => k_is); (case eBadNumber_ga => k_is); (case eBadNumber_gg => k_is); (case eBadNumber_ex => k_is); (case eBadNumber_ty => k_is); (case eBadNumber_kc => k_is); (case eBadNumber_hd => k_is); (case eBadNumber_no => (intro f hf; (repeat (first | (cases hf; done) | (rcases List.mem_cons.mp hf with rfl | hf; k_is))))); (case eBadNumber_i => k_is); (case eBadNumber_t => k_is); (case eBadNumber_l => k_is); (case eBadNumber_e => exact rfl); (case eBadNumber_e1 => exact rfl); (case eBadNumber_e2 => exact rfl); (case eBadNumber_e3 => exact rfl); (case eBadNumber_c => k_is); (case eBadNumber_k => k_is)))
    (case eBadWeb => (refine' K0.eg_mk ?eBadWeb_g ?eBadWeb_xl ?eBadWeb_xe ?eBadWeb_xb ?eBadWeb_sa ?eBadWeb_ga ?eBadWeb_gg ?eBadWeb_ex ?eBadWeb_ty ?eBadWeb_kc ?eBadWeb_hd ?eBadWeb_no ?eBadWeb_i ?eBadWeb_t ?eBadWeb_l ?eBadWeb_e ?eBadWeb_e1 ?eBadWeb_e2 ?eBadWeb_e3 ?eBadWeb_c ?eBadWeb_k; (case eBadWeb_g => k_is); (case eBadWeb_xl => k_is); (case eBadWeb_xe => exact rfl); (case eBadWeb_xb => decide +kernel); (case eBadWeb_sa => k_is); (case eBadWeb_ga => k_is); (case eBadWeb_gg => k_is); (case eBadWeb_ex => k_is); (case eBadWeb_ty => k_is); (case eBadWeb_kc => k_is); (case eBadWeb_hd => k_is); (case eBadWeb_no => (intro f hf; (repeat (first | (cases hf; done) | (rcases List.mem_cons.mp hf with rfl | hf; k_is))))); (case eBadWeb_i => k_is); (case eBadWeb_t => k_is); (case eBadWeb_l => k_is); (case eBadWeb_e => exact rfl); (case eBadWeb_e1 => exact rfl); (case eBadWeb_e2 => exact rfl); (case eBadWeb_e3 => exact rfl); (case eBadWeb_c => k_is); (case eBadWeb_k => k_is)))
    (case eBadPart => (refine' K0.eg_mk ?eBadPart_g ?eBadPart_xl ?eBadPart_xe ?eBadPart_xb ?eBadPart_sa ?eBadPart_ga ?eBadPart_gg ?eBadPart_ex ?eBadPart_ty ?eBadPart_kc ?eBadPart_hd ?eBadPart_no ?eBadPart_i ?eBadPart_t ?eBadPart_l ?eBadPart_e ?eBadPart_e1 ?eBadPart_e2 ?eBadPart_e3 ?eBadPart_c ?eBadPart_k; (case eBadPart_g => k_is); (case eBadPart_xl => k_is); (case eBadPart_xe => exact rfl); (case eBadPart_xb => decide +kernel); (case eBadPart_sa => k_is); (case eBadPart_ga => k_is); (case eBadPart_gg => k_is); (case eBadPart_ex => k_is); (case eBadPart_ty => k_is); (case eBadPart_kc => k_is); (case eBadPart_hd => k_is); (case eBadPart_no => (intro f hf; (repeat (first | (cases hf; done) | (rcases List.mem_cons.mp hf with rfl | hf; k_is))))); (case eBadPart_i => k_is); (case eBadPart_t => k_is); (case eBadPart_l => k_is); (case eBadPart_e => exact rfl); (case eBadPart_e1 => exact rfl); (case eBadPart_e2 => exact rfl); (case eBadPart_e3 => exact rfl); (case eBadPart_c => k_is); (case eBadPart_k => k_is)))
    (case eBadThing => (refine' K0.eg_mk ?eBadThing_g ?eBadThing_xl ?eBadThing_xe ?eBadThing_xb ?eBadThing_sa ?eBadThing_ga ?eBadThing_gg ?eBadThing_ex ?eBadThing_ty ?eBadThing_kc ?eBadThing_hd ?eBadThing_no ?eBadThing_i ?eBadThing_t ?eBadThing_l ?eBadThing_e ?eBadThing_e1 ?eBadThing_e2 ?eBadThing_e3 ?eBadThing_c ?eBadThing_k; (case eBadThing_g => k_is); (case eBadThing_xl => k_is); (case eBadThing_xe => exact rfl); (case eBadThing_xb => decide +kernel); (case eBadThing_sa => k_is); (case eBadThing_ga => k_is); (case eBadThing_gg => k_is); (case eBadThing_ex => k_is); (case eBadThing_ty => k_is); (case eBadThing_kc => k_is); (case eBadThing_hd => k_is); (case eBadThing_no => (intro f hf; (repeat (first | (cases hf; done) | (rcases List.mem_cons.mp hf with rfl | hf; k_is))))); (case eBadThing_i => k_is); (case eBadThing_t => k_is); (case eBadThing_l => k_is); (case eBadThing_e => exact rfl); (case eBadThing_e1 => exact rfl); (case eBadThing_e2 => exact rfl); (case eBadThing_e3 => exact rfl); (case eBadThing_c => k_is); (case eBadThing_k => k_is)))
    (case eNoneSuch => (refine' K0.eg_mk ?eNoneSuch_g ?eNoneSuch_xl ?eNoneSuch_xe ?eNoneSuch_xb ?eNoneSuch_sa ?eNoneSuch_ga ?eNoneSuch_gg ?eNoneSuch_ex ?eNoneSuch_ty ?eNoneSuch_kc ?eNoneSuch_hd ?eNoneSuch_no ?eNoneSuch_i ?eNoneSuch_t ?eNoneSuch_l ?eNoneSuch_e ?eNoneSuch_e1 ?eNoneSuch_e2 ?eNoneSuch_e3 ?eNoneSuch_c ?eNoneSuch_k; (case eNoneSuch_g => k_is); (case eNoneSuch_xl => k_is); (case eNoneSuch_xe => exact rfl); (case eNoneSuch_xb => decide +kernel); (case eNoneSuch_sa => k_is); (case eNoneSuch_ga => k_is); (case eNoneSuch_gg => k_is); (case eNoneSuch_ex => k_is); (case eNoneSuch_ty => k_is); (case eNoneSuch_kc => k_is); (case eNoneSuch_hd => k_is); (case eNoneSuch_no => (intro f hf; (repeat (first | (cases hf; done) | (rcases List.mem_cons.mp hf with rfl | hf; k_is))))); (case eNoneSuch_i => k_is); (case eNoneSuch_t => k_is); (case eNoneSuch_l => k_is); (case eNoneSuch_e => exact rfl); (case eNoneSuch_e1 => exact rfl); (case eNoneSuch_e2 => exact rfl); (case eNoneSuch_e3 => exact rfl); (case eNoneSuch_c => k_is); (case eNoneSuch_k => k_is)))
    (case aOrdersError => k_is)
    (case aC => k_is)
    (case pgC => k_is)
    (case hdC => k_is)
    (case poC => k_is)
    (case saC => k_is)
    (case mkC => k_is)
    (case kCC => k_is)
    (case c1C => k_is)
    (case c2C => k_is)
    (case haC => k_is)
    (case hmC => k_is)
    (case tCC => k_is)
    (case t0 => k_is)
    (case t1 => k_is)
    (case t2 => k_is)
    (case t3 => k_is)
    (case t4 => k_is)
    (case t5 => k_is)
    (case q0 => k_is)
    (case q1 => k_is)
    (case aD => k_is)
    (case pgD => k_is)
    (case hdD => k_is)
    (case poD => k_is)
    (case saD => k_is)
    (case mkD => k_is)
    (case kCD => k_is)
    (case c1D => k_is)
    (case c2D => k_is)
    (case hn => k_is)
    (case tk => k_is)
    (case nm => k_is)
    (case nc => k_is)
    (case nk => k_is)
    (case i1 => k_is)
    (case i2 => k_is)
    (case i3 => (refine' K0.xg_mk ?i3_l ?i3_e ?i3_e1 ?i3_e2 ?i3_e3 ?i3_c ?i3_k ?i3_d ?i3_t ?i3_y ?i3_r; (case i3_l => k_is); (case i3_e => exact rfl); (case i3_e1 => exact rfl); (case i3_e2 => exact rfl); (case i3_e3 => exact rfl); (case i3_c => k_is); (case i3_k => k_is); (case i3_d => exact rfl); (case i3_t => k_is); (case i3_y => exact rfl); (case i3_r => first | exact .cons rfl .nil | exact .cons ⟨_, rfl⟩ .nil)))
    (case i4 => (refine' K0.em_mk ?i4_l ?i4_x ?i4_y ?i4_z; (case i4_l => k_is); (case i4_x => exact rfl); (case i4_y => exact rfl); (case i4_z => exact rfl)))
    (case nw => k_is)
    (case nf => k_is)
    (case nb => k_is)
    (case nt => k_is)
    (case tk1 => k_is)
    (case tk2 => k_is)
    (case tk3 => (refine' K0.pg_mk ?tk3_l ?tk3_e ?tk3_e1 ?tk3_e2 ?tk3_e3 ?tk3_c ?tk3_k; (case tk3_l => k_is); (case tk3_e => exact rfl); (case tk3_e1 => exact rfl); (case tk3_e2 => exact rfl); (case tk3_e3 => exact rfl); (case tk3_c => k_is); (case tk3_k => k_is)))
    (case n1 => k_is)
    (case n3 => (refine' K0.xg_mk ?n3_l ?n3_e ?n3_e1 ?n3_e2 ?n3_e3 ?n3_c ?n3_k ?n3_d ?n3_t ?n3_y ?n3_r; (case n3_l => k_is); (case n3_e => exact rfl); (case n3_e1 => exact rfl); (case n3_e2 => exact rfl); (case n3_e3 => exact rfl); (case n3_c => k_is); (case n3_k => k_is); (case n3_d => exact rfl); (case n3_t => k_is); (case n3_y => exact rfl); (case n3_r => first | exact .cons rfl .nil | exact .cons ⟨_, rfl⟩ .nil)))
    (case xBadThingBadThing => k_is)
    (case xBadNumberBadNumber => k_is)
    (case xNoneSuchNoneSuch => k_is)
    (case xBadNumberBadThing => k_is)
    (case xNoneSuchBadThing => k_is)
    (case xNoneSuchBadNumber => k_is)
    (case pthingsleft1 => k_is)
    (case pthingsleft2 => k_is)
    (case pthingsleft3 => k_is)
    (case pthingsleft4 => k_is)
    (case pthingsleft5 => (refine' K0.pg_mk ?pthingsleft5_l ?pthingsleft5_e ?pthingsleft5_e1 ?pthingsleft5_e2 ?pthingsleft5_e3 ?pthingsleft5_c ?pthingsleft5_k; (case pthingsleft5_l => k_is); (case pthingsleft5_e => exact rfl); (case pthingsleft5_e1 => exact rfl); (case pthingsleft5_e2 => exact rfl); (case pthingsleft5_e3 => exact rfl); (case pthingsleft5_c => k_is); (case pthingsleft5_k => k_is)))
    (case x1noends => k_is)
    (case x3noends => (refine' K0.xg_mk ?x3noends_l ?x3noends_e ?x3noends_e1 ?x3noends_e2 ?x3noends_e3 ?x3noends_c ?x3noends_k ?x3noends_d ?x3noends_t ?x3noends_y ?x3noends_r; (case x3noends_l => k_is); (case x3noends_e => exact rfl); (case x3noends_e1 => exact rfl); (case x3noends_e2 => exact rfl); (case x3noends_e3 => exact rfl); (case x3noends_c => k_is); (case x3noends_k => k_is); (case x3noends_d => exact rfl); (case x3noends_t => k_is); (case x3noends_y => exact rfl); (case x3noends_r => first | exact .cons rfl .nil | exact .cons ⟨_, rfl⟩ .nil)))
    (case x1nomiddles => k_is)
    (case x3nomiddles => (refine' K0.xg_mk ?x3nomiddles_l ?x3nomiddles_e ?x3nomiddles_e1 ?x3nomiddles_e2 ?x3nomiddles_e3 ?x3nomiddles_c ?x3nomiddles_k ?x3nomiddles_d ?x3nomiddles_t ?x3nomiddles_y ?x3nomiddles_r; (case x3nomiddles_l => k_is); (case x3nomiddles_e => exact rfl); (case x3nomiddles_e1 => exact rfl); (case x3nomiddles_e2 => exact rfl); (case x3nomiddles_e3 => exact rfl); (case x3nomiddles_c => k_is); (case x3nomiddles_k => k_is); (case x3nomiddles_d => exact rfl); (case x3nomiddles_t => k_is); (case x3nomiddles_y => exact rfl); (case x3nomiddles_r => first | exact .cons rfl .nil | exact .cons ⟨_, rfl⟩ .nil)))
    (case mTaking_sides_for => (refine' K0.mg_mk ?mTaking_sides_for_a ?mTaking_sides_for_i ?mTaking_sides_for_n ?mTaking_sides_for_l ?mTaking_sides_for_e ?mTaking_sides_for_e1 ?mTaking_sides_for_e2 ?mTaking_sides_for_e3 ?mTaking_sides_for_c ?mTaking_sides_for_k; (case mTaking_sides_for_a => k_is); (case mTaking_sides_for_i => k_is); (case mTaking_sides_for_n => k_is); (case mTaking_sides_for_l => k_is); (case mTaking_sides_for_e => exact rfl); (case mTaking_sides_for_e1 => exact rfl); (case mTaking_sides_for_e2 => exact rfl); (case mTaking_sides_for_e3 => exact rfl); (case mTaking_sides_for_c => k_is); (case mTaking_sides_for_k => k_is)))
    (case t1take => k_is)
    (case t2take => k_is)
    (case t3take => k_is)
    (case t4take => (refine' K0.xg_mk ?t4take_l ?t4take_e ?t4take_e1 ?t4take_e2 ?t4take_e3 ?t4take_c ?t4take_k ?t4take_d ?t4take_t ?t4take_y ?t4take_r; (case t4take_l => k_is); (case t4take_e => exact rfl); (case t4take_e1 => exact rfl); (case t4take_e2 => exact rfl); (case t4take_e3 => exact rfl); (case t4take_c => k_is); (case t4take_k => k_is); (case t4take_d => exact rfl); (case t4take_t => k_is); (case t4take_y => exact rfl); (case t4take_r => first | exact .cons rfl .nil | exact .cons ⟨_, rfl⟩ .nil)))
    (case ptakesrow1 => k_is)
    (case ptakesrow2 => k_is)
    (case ptakesrow3 => k_is)
    (case ptakesrow4 => k_is)
    (case ptakesrow5 => (refine' K0.pg_mk ?ptakesrow5_l ?ptakesrow5_e ?ptakesrow5_e1 ?ptakesrow5_e2 ?ptakesrow5_e3 ?ptakesrow5_c ?ptakesrow5_k; (case ptakesrow5_l => k_is); (case ptakesrow5_e => exact rfl); (case ptakesrow5_e1 => exact rfl); (case ptakesrow5_e2 => exact rfl); (case ptakesrow5_e3 => exact rfl); (case ptakesrow5_c => k_is); (case ptakesrow5_k => k_is)))
    (case mTaking_takable => (refine' K0.mg_mk ?mTaking_takable_a ?mTaking_takable_i ?mTaking_takable_n ?mTaking_takable_l ?mTaking_takable_e ?mTaking_takable_e1 ?mTaking_takable_e2 ?mTaking_takable_e3 ?mTaking_takable_c ?mTaking_takable_k; (case mTaking_takable_a => k_is); (case mTaking_takable_i => k_is); (case mTaking_takable_n => k_is); (case mTaking_takable_l => k_is); (case mTaking_takable_e => exact rfl); (case mTaking_takable_e1 => exact rfl); (case mTaking_takable_e2 => exact rfl); (case mTaking_takable_e3 => exact rfl); (case mTaking_takable_c => k_is); (case mTaking_takable_k => k_is)))
    (case mTaking_take_all => (refine' K0.mg_mk ?mTaking_take_all_a ?mTaking_take_all_i ?mTaking_take_all_n ?mTaking_take_all_l ?mTaking_take_all_e ?mTaking_take_all_e1 ?mTaking_take_all_e2 ?mTaking_take_all_e3 ?mTaking_take_all_c ?mTaking_take_all_k; (case mTaking_take_all_a => k_is); (case mTaking_take_all_i => k_is); (case mTaking_take_all_n => k_is); (case mTaking_take_all_l => k_is); (case mTaking_take_all_e => exact rfl); (case mTaking_take_all_e1 => exact rfl); (case mTaking_take_all_e2 => exact rfl); (case mTaking_take_all_e3 => exact rfl); (case mTaking_take_all_c => k_is); (case mTaking_take_all_k => k_is)))
    (case mWeb_eq => (refine' K0.mg_mk ?mWeb_eq_a ?mWeb_eq_i ?mWeb_eq_n ?mWeb_eq_l ?mWeb_eq_e ?mWeb_eq_e1 ?mWeb_eq_e2 ?mWeb_eq_e3 ?mWeb_eq_c ?mWeb_eq_k; (case mWeb_eq_a => k_is); (case mWeb_eq_i => k_is); (case mWeb_eq_n => k_is); (case mWeb_eq_l => k_is); (case mWeb_eq_e => exact rfl); (case mWeb_eq_e1 => exact rfl); (case mWeb_eq_e2 => exact rfl); (case mWeb_eq_e3 => exact rfl); (case mWeb_eq_c => k_is); (case mWeb_eq_k => k_is)))
    (case z0 => k_is)
    (case z1 => k_is)
    (case z2 => k_is)
    (case z3 => k_is)
    (case z4 => k_is)
    (case z5 => k_is)
    (case z6 => k_is)
    (case z7 => k_is)
    (case z8 => k_is)
    (case z9 => k_is)
    (case z10 => k_is)
    (case z11 => k_is)
    (case z12 => k_is)
    (case z13 => k_is)
    (case z14 => k_is)
    (case z15 => k_is)
    (case d_is_int => (refine' K0.dg_mk ?d_is_int_a ?d_is_int_l ?d_is_int_e ?d_is_int_e1 ?d_is_int_e2 ?d_is_int_e3 ?d_is_int_c ?d_is_int_k; (case d_is_int_a => k_is); (case d_is_int_l => k_is); (case d_is_int_e => exact rfl); (case d_is_int_e1 => exact rfl); (case d_is_int_e2 => exact rfl); (case d_is_int_e3 => exact rfl); (case d_is_int_c => k_is); (case d_is_int_k => k_is)))
    (case d_is_pair => (refine' K0.dg_mk ?d_is_pair_a ?d_is_pair_l ?d_is_pair_e ?d_is_pair_e1 ?d_is_pair_e2 ?d_is_pair_e3 ?d_is_pair_c ?d_is_pair_k; (case d_is_pair_a => k_is); (case d_is_pair_l => k_is); (case d_is_pair_e => exact rfl); (case d_is_pair_e1 => exact rfl); (case d_is_pair_e2 => exact rfl); (case d_is_pair_e3 => exact rfl); (case d_is_pair_c => k_is); (case d_is_pair_k => k_is)))
    (case d_is_thing => (refine' K0.dg_mk ?d_is_thing_a ?d_is_thing_l ?d_is_thing_e ?d_is_thing_e1 ?d_is_thing_e2 ?d_is_thing_e3 ?d_is_thing_c ?d_is_thing_k; (case d_is_thing_a => k_is); (case d_is_thing_l => k_is); (case d_is_thing_e => exact rfl); (case d_is_thing_e1 => exact rfl); (case d_is_thing_e2 => exact rfl); (case d_is_thing_e3 => exact rfl); (case d_is_thing_c => k_is); (case d_is_thing_k => k_is)))
    (case d_checked_clashes => (refine' K0.dg_mk ?d_checked_clashes_a ?d_checked_clashes_l ?d_checked_clashes_e ?d_checked_clashes_e1 ?d_checked_clashes_e2 ?d_checked_clashes_e3 ?d_checked_clashes_c ?d_checked_clashes_k; (case d_checked_clashes_a => k_is); (case d_checked_clashes_l => k_is); (case d_checked_clashes_e => exact rfl); (case d_checked_clashes_e1 => exact rfl); (case d_checked_clashes_e2 => exact rfl); (case d_checked_clashes_e3 => exact rfl); (case d_checked_clashes_c => k_is); (case d_checked_clashes_k => k_is)))
    (case d_near_masks => (refine' K0.dg_mk ?d_near_masks_a ?d_near_masks_l ?d_near_masks_e ?d_near_masks_e1 ?d_near_masks_e2 ?d_near_masks_e3 ?d_near_masks_c ?d_near_masks_k; (case d_near_masks_a => k_is); (case d_near_masks_l => k_is); (case d_near_masks_e => exact rfl); (case d_near_masks_e1 => exact rfl); (case d_near_masks_e2 => exact rfl); (case d_near_masks_e3 => exact rfl); (case d_near_masks_c => k_is); (case d_near_masks_k => k_is)))
    (case d_law_draws => (refine' K0.dg_mk ?d_law_draws_a ?d_law_draws_l ?d_law_draws_e ?d_law_draws_e1 ?d_law_draws_e2 ?d_law_draws_e3 ?d_law_draws_c ?d_law_draws_k; (case d_law_draws_a => k_is); (case d_law_draws_l => k_is); (case d_law_draws_e => exact rfl); (case d_law_draws_e1 => exact rfl); (case d_law_draws_e2 => exact rfl); (case d_law_draws_e3 => exact rfl); (case d_law_draws_c => k_is); (case d_law_draws_k => k_is)))
    (case d_law_take => (refine' K0.dg_mk ?d_law_take_a ?d_law_take_l ?d_law_take_e ?d_law_take_e1 ?d_law_take_e2 ?d_law_take_e3 ?d_law_take_c ?d_law_take_k; (case d_law_take_a => k_is); (case d_law_take_l => k_is); (case d_law_take_e => exact rfl); (case d_law_take_e1 => exact rfl); (case d_law_take_e2 => exact rfl); (case d_law_take_e3 => exact rfl); (case d_law_take_c => k_is); (case d_law_take_k => k_is)))
    (case d_law_line => (refine' K0.dg_mk ?d_law_line_a ?d_law_line_l ?d_law_line_e ?d_law_line_e1 ?d_law_line_e2 ?d_law_line_e3 ?d_law_line_c ?d_law_line_k; (case d_law_line_a => k_is); (case d_law_line_l => k_is); (case d_law_line_e => exact rfl); (case d_law_line_e1 => exact rfl); (case d_law_line_e2 => exact rfl); (case d_law_line_e3 => exact rfl); (case d_law_line_c => k_is); (case d_law_line_k => k_is)))
    (case d_law_ring => (refine' K0.dg_mk ?d_law_ring_a ?d_law_ring_l ?d_law_ring_e ?d_law_ring_e1 ?d_law_ring_e2 ?d_law_ring_e3 ?d_law_ring_c ?d_law_ring_k; (case d_law_ring_a => k_is); (case d_law_ring_l => k_is); (case d_law_ring_e => exact rfl); (case d_law_ring_e1 => exact rfl); (case d_law_ring_e2 => exact rfl); (case d_law_ring_e3 => exact rfl); (case d_law_ring_c => k_is); (case d_law_ring_k => k_is)))
    (case d_law_ring_row => (refine' K0.dg_mk ?d_law_ring_row_a ?d_law_ring_row_l ?d_law_ring_row_e ?d_law_ring_row_e1 ?d_law_ring_row_e2 ?d_law_ring_row_e3 ?d_law_ring_row_c ?d_law_ring_row_k; (case d_law_ring_row_a => k_is); (case d_law_ring_row_l => k_is); (case d_law_ring_row_e => exact rfl); (case d_law_ring_row_e1 => exact rfl); (case d_law_ring_row_e2 => exact rfl); (case d_law_ring_row_e3 => exact rfl); (case d_law_ring_row_c => k_is); (case d_law_ring_row_k => k_is)))
    (case d_law_contrary => (refine' K0.dg_mk ?d_law_contrary_a ?d_law_contrary_l ?d_law_contrary_e ?d_law_contrary_e1 ?d_law_contrary_e2 ?d_law_contrary_e3 ?d_law_contrary_c ?d_law_contrary_k; (case d_law_contrary_a => k_is); (case d_law_contrary_l => k_is); (case d_law_contrary_e => exact rfl); (case d_law_contrary_e1 => exact rfl); (case d_law_contrary_e2 => exact rfl); (case d_law_contrary_e3 => exact rfl); (case d_law_contrary_c => k_is); (case d_law_contrary_k => k_is)))
    (case d_law_stretches => (refine' K0.dg_mk ?d_law_stretches_a ?d_law_stretches_l ?d_law_stretches_e ?d_law_stretches_e1 ?d_law_stretches_e2 ?d_law_stretches_e3 ?d_law_stretches_c ?d_law_stretches_k; (case d_law_stretches_a => k_is); (case d_law_stretches_l => k_is); (case d_law_stretches_e => exact rfl); (case d_law_stretches_e1 => exact rfl); (case d_law_stretches_e2 => exact rfl); (case d_law_stretches_e3 => exact rfl); (case d_law_stretches_c => k_is); (case d_law_stretches_k => k_is)))
    (case d_law_row => (refine' K0.dg_mk ?d_law_row_a ?d_law_row_l ?d_law_row_e ?d_law_row_e1 ?d_law_row_e2 ?d_law_row_e3 ?d_law_row_c ?d_law_row_k; (case d_law_row_a => k_is); (case d_law_row_l => k_is); (case d_law_row_e => exact rfl); (case d_law_row_e1 => exact rfl); (case d_law_row_e2 => exact rfl); (case d_law_row_e3 => exact rfl); (case d_law_row_c => k_is); (case d_law_row_k => k_is)))
    (case d_law_falling => (refine' K0.dg_mk ?d_law_falling_a ?d_law_falling_l ?d_law_falling_e ?d_law_falling_e1 ?d_law_falling_e2 ?d_law_falling_e3 ?d_law_falling_c ?d_law_falling_k; (case d_law_falling_a => k_is); (case d_law_falling_l => k_is); (case d_law_falling_e => exact rfl); (case d_law_falling_e1 => exact rfl); (case d_law_falling_e2 => exact rfl); (case d_law_falling_e3 => exact rfl); (case d_law_falling_c => k_is); (case d_law_falling_k => k_is)))
    (case d_law_free => (refine' K0.dg_mk ?d_law_free_a ?d_law_free_l ?d_law_free_e ?d_law_free_e1 ?d_law_free_e2 ?d_law_free_e3 ?d_law_free_c ?d_law_free_k; (case d_law_free_a => k_is); (case d_law_free_l => k_is); (case d_law_free_e => exact rfl); (case d_law_free_e1 => exact rfl); (case d_law_free_e2 => exact rfl); (case d_law_free_e3 => exact rfl); (case d_law_free_c => k_is); (case d_law_free_k => k_is)))
    (case d_law_small => (refine' K0.dg_mk ?d_law_small_a ?d_law_small_l ?d_law_small_e ?d_law_small_e1 ?d_law_small_e2 ?d_law_small_e3 ?d_law_small_c ?d_law_small_k; (case d_law_small_a => k_is); (case d_law_small_l => k_is); (case d_law_small_e => exact rfl); (case d_law_small_e1 => exact rfl); (case d_law_small_e2 => exact rfl); (case d_law_small_e3 => exact rfl); (case d_law_small_c => k_is); (case d_law_small_k => k_is)))
    (case d_law_sides => (refine' K0.dg_mk ?d_law_sides_a ?d_law_sides_l ?d_law_sides_e ?d_law_sides_e1 ?d_law_sides_e2 ?d_law_sides_e3 ?d_law_sides_c ?d_law_sides_k; (case d_law_sides_a => k_is); (case d_law_sides_l => k_is); (case d_law_sides_e => exact rfl); (case d_law_sides_e1 => exact rfl); (case d_law_sides_e2 => exact rfl); (case d_law_sides_e3 => exact rfl); (case d_law_sides_c => k_is); (case d_law_sides_k => k_is)))
    (case d_law_near => (refine' K0.dg_mk ?d_law_near_a ?d_law_near_l ?d_law_near_e ?d_law_near_e1 ?d_law_near_e2 ?d_law_near_e3 ?d_law_near_c ?d_law_near_k; (case d_law_near_a => k_is); (case d_law_near_l => k_is); (case d_law_near_e => exact rfl); (case d_law_near_e1 => exact rfl); (case d_law_near_e2 => exact rfl); (case d_law_near_e3 => exact rfl); (case d_law_near_c => k_is); (case d_law_near_k => k_is)))
    (case d_law_twins => (refine' K0.dg_mk ?d_law_twins_a ?d_law_twins_l ?d_law_twins_e ?d_law_twins_e1 ?d_law_twins_e2 ?d_law_twins_e3 ?d_law_twins_c ?d_law_twins_k; (case d_law_twins_a => k_is); (case d_law_twins_l => k_is); (case d_law_twins_e => exact rfl); (case d_law_twins_e1 => exact rfl); (case d_law_twins_e2 => exact rfl); (case d_law_twins_e3 => exact rfl); (case d_law_twins_c => k_is); (case d_law_twins_k => k_is)))
    (case d_law_made => (refine' K0.dg_mk ?d_law_made_a ?d_law_made_l ?d_law_made_e ?d_law_made_e1 ?d_law_made_e2 ?d_law_made_e3 ?d_law_made_c ?d_law_made_k; (case d_law_made_a => k_is); (case d_law_made_l => k_is); (case d_law_made_e => exact rfl); (case d_law_made_e1 => exact rfl); (case d_law_made_e2 => exact rfl); (case d_law_made_e3 => exact rfl); (case d_law_made_c => k_is); (case d_law_made_k => k_is)))
    (case d_law_moved => (refine' K0.dg_mk ?d_law_moved_a ?d_law_moved_l ?d_law_moved_e ?d_law_moved_e1 ?d_law_moved_e2 ?d_law_moved_e3 ?d_law_moved_c ?d_law_moved_k; (case d_law_moved_a => k_is); (case d_law_moved_l => k_is); (case d_law_moved_e => exact rfl); (case d_law_moved_e1 => exact rfl); (case d_law_moved_e2 => exact rfl); (case d_law_moved_e3 => exact rfl); (case d_law_moved_c => k_is); (case d_law_moved_k => k_is)))
    (case d_law_case => (refine' K0.dg_mk ?d_law_case_a ?d_law_case_l ?d_law_case_e ?d_law_case_e1 ?d_law_case_e2 ?d_law_case_e3 ?d_law_case_c ?d_law_case_k; (case d_law_case_a => k_is); (case d_law_case_l => k_is); (case d_law_case_e => exact rfl); (case d_law_case_e1 => exact rfl); (case d_law_case_e2 => exact rfl); (case d_law_case_e3 => exact rfl); (case d_law_case_c => k_is); (case d_law_case_k => k_is)))
    (case d_law_clash => (refine' K0.dg_mk ?d_law_clash_a ?d_law_clash_l ?d_law_clash_e ?d_law_clash_e1 ?d_law_clash_e2 ?d_law_clash_e3 ?d_law_clash_c ?d_law_clash_k; (case d_law_clash_a => k_is); (case d_law_clash_l => k_is); (case d_law_clash_e => exact rfl); (case d_law_clash_e1 => exact rfl); (case d_law_clash_e2 => exact rfl); (case d_law_clash_e3 => exact rfl); (case d_law_clash_c => k_is); (case d_law_clash_k => k_is)))
    (case d_law_quads => (refine' K0.dg_mk ?d_law_quads_a ?d_law_quads_l ?d_law_quads_e ?d_law_quads_e1 ?d_law_quads_e2 ?d_law_quads_e3 ?d_law_quads_c ?d_law_quads_k; (case d_law_quads_a => k_is); (case d_law_quads_l => k_is); (case d_law_quads_e => exact rfl); (case d_law_quads_e1 => exact rfl); (case d_law_quads_e2 => exact rfl); (case d_law_quads_e3 => exact rfl); (case d_law_quads_c => k_is); (case d_law_quads_k => k_is)))
    (case d_law_core => (refine' K0.dg_mk ?d_law_core_a ?d_law_core_l ?d_law_core_e ?d_law_core_e1 ?d_law_core_e2 ?d_law_core_e3 ?d_law_core_c ?d_law_core_k; (case d_law_core_a => k_is); (case d_law_core_l => k_is); (case d_law_core_e => exact rfl); (case d_law_core_e1 => exact rfl); (case d_law_core_e2 => exact rfl); (case d_law_core_e3 => exact rfl); (case d_law_core_c => k_is); (case d_law_core_k => k_is)))
    (case d_whole_mask => (refine' K0.dg_mk ?d_whole_mask_a ?d_whole_mask_l ?d_whole_mask_e ?d_whole_mask_e1 ?d_whole_mask_e2 ?d_whole_mask_e3 ?d_whole_mask_c ?d_whole_mask_k; (case d_whole_mask_a => k_is); (case d_whole_mask_l => k_is); (case d_whole_mask_e => exact rfl); (case d_whole_mask_e1 => exact rfl); (case d_whole_mask_e2 => exact rfl); (case d_whole_mask_e3 => exact rfl); (case d_whole_mask_c => k_is); (case d_whole_mask_k => k_is)))
    (case d_things_in => (refine' K0.dg_mk ?d_things_in_a ?d_things_in_l ?d_things_in_e ?d_things_in_e1 ?d_things_in_e2 ?d_things_in_e3 ?d_things_in_c ?d_things_in_k; (case d_things_in_a => k_is); (case d_things_in_l => k_is); (case d_things_in_e => exact rfl); (case d_things_in_e1 => exact rfl); (case d_things_in_e2 => exact rfl); (case d_things_in_e3 => exact rfl); (case d_things_in_c => k_is); (case d_things_in_k => k_is)))
    (case d_rows_of_four => (refine' K0.dg_mk ?d_rows_of_four_a ?d_rows_of_four_l ?d_rows_of_four_e ?d_rows_of_four_e1 ?d_rows_of_four_e2 ?d_rows_of_four_e3 ?d_rows_of_four_c ?d_rows_of_four_k; (case d_rows_of_four_a => k_is); (case d_rows_of_four_l => k_is); (case d_rows_of_four_e => exact rfl); (case d_rows_of_four_e1 => exact rfl); (case d_rows_of_four_e2 => exact rfl); (case d_rows_of_four_e3 => exact rfl); (case d_rows_of_four_c => k_is); (case d_rows_of_four_k => k_is)))
    (case d_mask_of => (refine' K0.dg_mk ?d_mask_of_a ?d_mask_of_l ?d_mask_of_e ?d_mask_of_e1 ?d_mask_of_e2 ?d_mask_of_e3 ?d_mask_of_c ?d_mask_of_k; (case d_mask_of_a => k_is); (case d_mask_of_l => k_is); (case d_mask_of_e => exact rfl); (case d_mask_of_e1 => exact rfl); (case d_mask_of_e2 => exact rfl); (case d_mask_of_e3 => exact rfl); (case d_mask_of_c => k_is); (case d_mask_of_k => k_is)))
    (case d_row_masks => (refine' K0.dg_mk ?d_row_masks_a ?d_row_masks_l ?d_row_masks_e ?d_row_masks_e1 ?d_row_masks_e2 ?d_row_masks_e3 ?d_row_masks_c ?d_row_masks_k; (case d_row_masks_a => k_is); (case d_row_masks_l => k_is); (case d_row_masks_e => exact rfl); (case d_row_masks_e1 => exact rfl); (case d_row_masks_e2 => exact rfl); (case d_row_masks_e3 => exact rfl); (case d_row_masks_c => k_is); (case d_row_masks_k => k_is)))
    (case d_held_masks => (refine' K0.dg_mk ?d_held_masks_a ?d_held_masks_l ?d_held_masks_e ?d_held_masks_e1 ?d_held_masks_e2 ?d_held_masks_e3 ?d_held_masks_c ?d_held_masks_k; (case d_held_masks_a => k_is); (case d_held_masks_l => k_is); (case d_held_masks_e => exact rfl); (case d_held_masks_e1 => exact rfl); (case d_held_masks_e2 => exact rfl); (case d_held_masks_e3 => exact rfl); (case d_held_masks_c => k_is); (case d_held_masks_k => k_is)))
    (case d_core => (refine' K0.dg_mk ?d_core_a ?d_core_l ?d_core_e ?d_core_e1 ?d_core_e2 ?d_core_e3 ?d_core_c ?d_core_k; (case d_core_a => k_is); (case d_core_l => k_is); (case d_core_e => exact rfl); (case d_core_e1 => exact rfl); (case d_core_e2 => exact rfl); (case d_core_e3 => exact rfl); (case d_core_c => k_is); (case d_core_k => k_is)))
    (case d_law_int => (refine' K0.dg_mk ?d_law_int_a ?d_law_int_l ?d_law_int_e ?d_law_int_e1 ?d_law_int_e2 ?d_law_int_e3 ?d_law_int_c ?d_law_int_k; (case d_law_int_a => k_is); (case d_law_int_l => k_is); (case d_law_int_e => exact rfl); (case d_law_int_e1 => exact rfl); (case d_law_int_e2 => exact rfl); (case d_law_int_e3 => exact rfl); (case d_law_int_c => k_is); (case d_law_int_k => k_is)))
    (case d_law_same_row => (refine' K0.dg_mk ?d_law_same_row_a ?d_law_same_row_l ?d_law_same_row_e ?d_law_same_row_e1 ?d_law_same_row_e2 ?d_law_same_row_e3 ?d_law_same_row_c ?d_law_same_row_k; (case d_law_same_row_a => k_is); (case d_law_same_row_l => k_is); (case d_law_same_row_e => exact rfl); (case d_law_same_row_e1 => exact rfl); (case d_law_same_row_e2 => exact rfl); (case d_law_same_row_e3 => exact rfl); (case d_law_same_row_c => k_is); (case d_law_same_row_k => k_is)))
    (case d_law_inside => (refine' K0.dg_mk ?d_law_inside_a ?d_law_inside_l ?d_law_inside_e ?d_law_inside_e1 ?d_law_inside_e2 ?d_law_inside_e3 ?d_law_inside_c ?d_law_inside_k; (case d_law_inside_a => k_is); (case d_law_inside_l => k_is); (case d_law_inside_e => exact rfl); (case d_law_inside_e1 => exact rfl); (case d_law_inside_e2 => exact rfl); (case d_law_inside_e3 => exact rfl); (case d_law_inside_c => k_is); (case d_law_inside_k => k_is)))
    (case d_law_no_end => (refine' K0.dg_mk ?d_law_no_end_a ?d_law_no_end_l ?d_law_no_end_e ?d_law_no_end_e1 ?d_law_no_end_e2 ?d_law_no_end_e3 ?d_law_no_end_c ?d_law_no_end_k; (case d_law_no_end_a => k_is); (case d_law_no_end_l => k_is); (case d_law_no_end_e => exact rfl); (case d_law_no_end_e1 => exact rfl); (case d_law_no_end_e2 => exact rfl); (case d_law_no_end_e3 => exact rfl); (case d_law_no_end_c => k_is); (case d_law_no_end_k => k_is)))
    (case d_law_no_middle => (refine' K0.dg_mk ?d_law_no_middle_a ?d_law_no_middle_l ?d_law_no_middle_e ?d_law_no_middle_e1 ?d_law_no_middle_e2 ?d_law_no_middle_e3 ?d_law_no_middle_c ?d_law_no_middle_k; (case d_law_no_middle_a => k_is); (case d_law_no_middle_l => k_is); (case d_law_no_middle_e => exact rfl); (case d_law_no_middle_e1 => exact rfl); (case d_law_no_middle_e2 => exact rfl); (case d_law_no_middle_e3 => exact rfl); (case d_law_no_middle_c => k_is); (case d_law_no_middle_k => k_is)))
    (case d_law_due => (refine' K0.dg_mk ?d_law_due_a ?d_law_due_l ?d_law_due_e ?d_law_due_e1 ?d_law_due_e2 ?d_law_due_e3 ?d_law_due_c ?d_law_due_k; (case d_law_due_a => k_is); (case d_law_due_l => k_is); (case d_law_due_e => exact rfl); (case d_law_due_e1 => exact rfl); (case d_law_due_e2 => exact rfl); (case d_law_due_e3 => exact rfl); (case d_law_due_c => k_is); (case d_law_due_k => k_is)))
    (case d_first_unfit => (refine' K0.dg_mk ?d_first_unfit_a ?d_first_unfit_l ?d_first_unfit_e ?d_first_unfit_e1 ?d_first_unfit_e2 ?d_first_unfit_e3 ?d_first_unfit_c ?d_first_unfit_k; (case d_first_unfit_a => k_is); (case d_first_unfit_l => k_is); (case d_first_unfit_e => exact rfl); (case d_first_unfit_e1 => exact rfl); (case d_first_unfit_e2 => exact rfl); (case d_first_unfit_e3 => exact rfl); (case d_first_unfit_c => k_is); (case d_first_unfit_k => k_is)))
    (case d_check_things => (refine' K0.dg_mk ?d_check_things_a ?d_check_things_l ?d_check_things_e ?d_check_things_e1 ?d_check_things_e2 ?d_check_things_e3 ?d_check_things_c ?d_check_things_k; (case d_check_things_a => k_is); (case d_check_things_l => k_is); (case d_check_things_e => exact rfl); (case d_check_things_e1 => exact rfl); (case d_check_things_e2 => exact rfl); (case d_check_things_e3 => exact rfl); (case d_check_things_c => k_is); (case d_check_things_k => k_is)))
    (case d_check_part => (refine' K0.dg_mk ?d_check_part_a ?d_check_part_l ?d_check_part_e ?d_check_part_e1 ?d_check_part_e2 ?d_check_part_e3 ?d_check_part_c ?d_check_part_k; (case d_check_part_a => k_is); (case d_check_part_l => k_is); (case d_check_part_e => exact rfl); (case d_check_part_e1 => exact rfl); (case d_check_part_e2 => exact rfl); (case d_check_part_e3 => exact rfl); (case d_check_part_c => k_is); (case d_check_part_k => k_is)))
    (case d_law_told => (refine' K0.dg_mk ?d_law_told_a ?d_law_told_l ?d_law_told_e ?d_law_told_e1 ?d_law_told_e2 ?d_law_told_e3 ?d_law_told_c ?d_law_told_k; (case d_law_told_a => k_is); (case d_law_told_l => k_is); (case d_law_told_e => exact rfl); (case d_law_told_e1 => exact rfl); (case d_law_told_e2 => exact rfl); (case d_law_told_e3 => exact rfl); (case d_law_told_c => k_is); (case d_law_told_k => k_is)))
    (case d_law_state => (refine' K0.dg_mk ?d_law_state_a ?d_law_state_l ?d_law_state_e ?d_law_state_e1 ?d_law_state_e2 ?d_law_state_e3 ?d_law_state_c ?d_law_state_k; (case d_law_state_a => k_is); (case d_law_state_l => k_is); (case d_law_state_e => exact rfl); (case d_law_state_e1 => exact rfl); (case d_law_state_e2 => exact rfl); (case d_law_state_e3 => exact rfl); (case d_law_state_c => k_is); (case d_law_state_k => k_is)))
    (case d_law_step => (refine' K0.dg_mk ?d_law_step_a ?d_law_step_l ?d_law_step_e ?d_law_step_e1 ?d_law_step_e2 ?d_law_step_e3 ?d_law_step_c ?d_law_step_k; (case d_law_step_a => k_is); (case d_law_step_l => k_is); (case d_law_step_e => exact rfl); (case d_law_step_e1 => exact rfl); (case d_law_step_e2 => exact rfl); (case d_law_step_e3 => exact rfl); (case d_law_step_c => k_is); (case d_law_step_k => k_is)))
    (case d_law_able => (refine' K0.dg_mk ?d_law_able_a ?d_law_able_l ?d_law_able_e ?d_law_able_e1 ?d_law_able_e2 ?d_law_able_e3 ?d_law_able_c ?d_law_able_k; (case d_law_able_a => k_is); (case d_law_able_l => k_is); (case d_law_able_e => exact rfl); (case d_law_able_e1 => exact rfl); (case d_law_able_e2 => exact rfl); (case d_law_able_e3 => exact rfl); (case d_law_able_c => k_is); (case d_law_able_k => k_is)))
    (case d_law_walk => (refine' K0.dg_mk ?d_law_walk_a ?d_law_walk_l ?d_law_walk_e ?d_law_walk_e1 ?d_law_walk_e2 ?d_law_walk_e3 ?d_law_walk_c ?d_law_walk_k; (case d_law_walk_a => k_is); (case d_law_walk_l => k_is); (case d_law_walk_e => exact rfl); (case d_law_walk_e1 => exact rfl); (case d_law_walk_e2 => exact rfl); (case d_law_walk_e3 => exact rfl); (case d_law_walk_c => k_is); (case d_law_walk_k => k_is)))
    (case d_law_least_first => (refine' K0.dg_mk ?d_law_least_first_a ?d_law_least_first_l ?d_law_least_first_e ?d_law_least_first_e1 ?d_law_least_first_e2 ?d_law_least_first_e3 ?d_law_least_first_c ?d_law_least_first_k; (case d_law_least_first_a => k_is); (case d_law_least_first_l => k_is); (case d_law_least_first_e => exact rfl); (case d_law_least_first_e1 => exact rfl); (case d_law_least_first_e2 => exact rfl); (case d_law_least_first_e3 => exact rfl); (case d_law_least_first_c => k_is); (case d_law_least_first_k => k_is)))
    (case dLW => (refine' K0.dg_mk ?dLW_a ?dLW_l ?dLW_e ?dLW_e1 ?dLW_e2 ?dLW_e3 ?dLW_c ?dLW_k; (case dLW_a => k_is); (case dLW_l => k_is); (case dLW_e => exact rfl); (case dLW_e1 => exact rfl); (case dLW_e2 => exact rfl); (case dLW_e3 => exact rfl); (case dLW_c => k_is); (case dLW_k => k_is)))
#print axioms PySem.Challenge.cw_perfectorders_k79_one_core_however_taken_holds
