import PyProof.Rows.All
import Wide.All
import OpenK.AllK
import Wide.FinOn
import HandS.ForMost
import HandS.ForExc
import HandS.IsInst
import HandS.Strs
import HandS.TupSets
import HandS.TryMany
import HandS.ExcInit
import HandS.NoneIn
import HandS.Property
import HandS.ExcField
import HandS.Defaults
import KE.BitLaws
import HandS.WideBits
import HandS.Steps
import HandS.Walk
import KE.GoesMore
import HandS.OwnEq
import KE.Datum
import HandS.Star
import HandS.RaiseMore
import HandS.Deep
import HandS.SortRule
import HandS.Zip
import HandS.ClsMeth
import HandS.SortInts
import HandS.Style
import HandS.Conv
import HandS.TupAny
import HandS.TryOnly
import HandS.TupMul
import HandS.NamedTupSort
import HandS.ExcIs
import KE.KStateDown
import HandS.Head0
import HandS.Head1
import HandS.Head2
import HandS.HeadEnd
import HandS.HeadHook1
import HandS.HeadHook2
import PySem.Challenge.RW_perfectorders_k20_first_lots_meet_full_k
set_option Elab.async false
set_option linter.all false
set_option maxRecDepth 100000
set_option maxHeartbeats 2000000
namespace K0
open PySem PySem.Spec PyProof.Rows L2
def top (i : Nat) : Stmt := PySem.Challenge.pw_perfectorders_k20_first_lots_meet_full_k.main.body.getD i (.Pass ⟨0, 0, 0, 0⟩)
abbrev s_is_int : Stmt := top 10
abbrev s_is_pair : Stmt := top 11
abbrev s_is_thing : Stmt := top 12
/-- the built-in names that the top leaves as they are -/
structure Blt (mg : Str → Option Value) : Prop where
  isi : mg "isinstance" = none
  int : mg "int" = none
  bool : mg "bool" = none
  list : mg "list" = none
  tuple : mg "tuple" = none
  len : mg "len" = none
section
variable {P : Program} {w : World} {K : PySem.W.Frag} {mg : Str → Option Value} {base : Heap}
inductive Plain (K : PySem.W.Frag) (H : Hp) : V → Bool → Prop where
  | non : Plain K H .non false
  | bl (b : Bool) : Plain K H (.bl b) false
  | int (i : Int) : Plain K H (.int i) true
  | str (x : Str) : Plain K H (.str x) false
  | tup {a : Addr} {xs : List V} (e : H a = some (.tup xs)) : Plain K H (.ref a) false
  | lst {a : Addr} {xs : List V} (e : H a = some (.lst xs)) : Plain K H (.ref a) false
def spIsInt (K : PySem.W.Frag) : Sp := fun vs H Q _ => ∃ v b, vs = [v] ∧ Plain K H v b ∧ Q (.bl b) H
theorem sc_is_int : FnScope ["value"] ["value"] (defScope s_is_int) := ⟨rfl, rfl, rfl, by decide +kernel, rfl, by decide +kernel, by decide +kernel⟩
theorem ok_is_int {f : Addr} {fd : FuncData} (F : Fun K "is_int" "is_int" s_is_int f fd) (B : Blt mg) : FnOk P w K mg base CX0 1 f fd ["value"] (spIsInt K) := by
  refine F.ok sc_is_int (fun vs H Q E h => ?_) (fun cdv A outer s H vs Q E hr h => ?_)
  · obtain ⟨v, b, rfl, _⟩ := h
    rfl
  · obtain ⟨v, b, rfl, hv, q⟩ := h
    refine ⟨_, pss_one (ps_ret (pe_and
      (pe_callB call_isi (by rfl) B.isi (by decide +kernel) (pa_cons (pv 0) (pa_cons (pe_bltn (v := .ty "int") (by rfl) B.int (by decide +kernel) rfl) pa_nil)))
      (pe_one (pe_not (pe_callB call_isi (by rfl) B.isi (by decide +kernel) (pa_cons (pv 0) (pa_cons (pe_bltn (v := .ty "bool") (by rfl) B.bool (by decide +kernel) rfl) pa_nil))))))), ?_⟩
    cases hv with
    | non =>
      exact ⟨_, rfl, _, _, _, _, _, rfl, .ty _, .base .non, kit_ty (r := false) (by decide +kernel), _, rfl, iteF q⟩
    | bl b =>
      exact ⟨_, rfl, _, _, _, _, _, rfl, .ty _, .base (.bl b), kit_ty (r := true) (by decide +kernel), _, rfl, iteT ⟨_, rfl, _, _, _, _, _, rfl, .ty _, .base (.bl b), kit_ty (r := true) (by decide +kernel), _, rfl, q⟩⟩
    | int i =>
      exact ⟨_, rfl, _, _, _, _, _, rfl, .ty _, .base (.int i), kit_ty (r := true) (by decide +kernel), _, rfl, iteT ⟨_, rfl, _, _, _, _, _, rfl, .ty _, .base (.int i), kit_ty (r := false) (by decide +kernel), _, rfl, q⟩⟩
    | str x =>
      exact ⟨_, rfl, _, _, _, _, _, rfl, .ty _, .base (.str x), kit_ty (r := false) (by decide +kernel), _, rfl, iteF q⟩
    | tup e =>
      exact ⟨_, rfl, _, _, _, _, _, rfl, .ty _, .base (.tup e), kit_ty (r := false) (by decide +kernel), _, rfl, iteF q⟩
    | lst e =>
      exact ⟨_, rfl, _, _, _, _, _, rfl, .ty _, .base (.lst e), kit_ty (r := false) (by decide +kernel), _, rfl, iteF q⟩
end
end K0
set_option Elab.async false
set_option linter.all false
set_option maxRecDepth 100000
set_option maxHeartbeats 2000000
namespace K0
open PySem PySem.Spec PyProof.Rows L2
/-! ### data that stands in the heap -/
mutual
inductive Dt (H : Hp) : V → PyData → Prop
  | non : Dt H .non .none
  | bl (b : Bool) : Dt H (.bl b) (.bool b)
  | int (i : Int) : Dt H (.int i) (.int i)
  | str (x : Str) : Dt H (.str x) (.str x)
  | lst {a : Addr} {xs : List V} {ds : List PyData} : H a = some (.lst xs) → DtAll H xs ds → Dt H (.ref a) (.list ds)
  | tup {a : Addr} {xs : List V} {ds : List PyData} : H a = some (.tup xs) → DtAll H xs ds → Dt H (.ref a) (.tuple ds)
inductive DtAll (H : Hp) : List V → List PyData → Prop
  | nil : DtAll H [] []
  | cons {v : V} {vs : List V} {d : PyData} {ds : List PyData} : Dt H v d → DtAll H vs ds → DtAll H (v :: vs) (d :: ds)
end
mutual
theorem Dt.mono {H H' : Hp} (s : Same H H') : ∀ {v : V} {d : PyData}, Dt H v d → Dt H' v d
  | _, _, .non => .non
  | _, _, .bl b => .bl b
  | _, _, .int i => .int i
  | _, _, .str x => .str x
  | _, _, .lst e h => .lst (s _ _ e) (DtAll.mono s h)
  | _, _, .tup e h => .tup (s _ _ e) (DtAll.mono s h)
theorem DtAll.mono {H H' : Hp} (s : Same H H') : ∀ {v : List V} {d : List PyData}, DtAll H v d → DtAll H' v d
  | _, _, .nil => .nil
  | _, _, .cons h t => .cons (Dt.mono s h) (DtAll.mono s t)
end
mutual
theorem Dt.dp {K : PySem.W.Frag} {H : Hp} : ∀ {v : V} {d : PyData}, Dt H v d → Dp K H v d
  | _, _, .non => .non
  | _, _, .bl b => .bl b
  | _, _, .int i => .int i
  | _, _, .str x => .str x
  | _, _, .lst e h => .lst (SqL.of e) (DtAll.dp h)
  | _, _, .tup e h => .tup (SqT.of e) (DtAll.dp h)
theorem DtAll.dp {K : PySem.W.Frag} {H : Hp} : ∀ {v : List V} {d : List PyData}, DtAll H v d → DpAll K H v d
  | _, _, .nil => .nil
  | _, _, .cons h t => .cons (Dt.dp h) (DtAll.dp t)
end
theorem DtAll.len {H : Hp} : ∀ {vs : List V} {ds : List PyData}, DtAll H vs ds → vs.length = ds.length
  | _, _, .nil => rfl
  | _, _, .cons _ t => congrArg (· + 1) t.len
theorem DtAll.at {H : Hp} : ∀ {vs : List V} {ds : List PyData} {i : Nat} {v : V}, DtAll H vs ds → vs[i]? = some v → ∃ d, ds[i]? = some d ∧ Dt H v d
  | _, _, _, _, .nil, e => by simp at e
  | _, _, 0, _, .cons h _, e => by
    have z := Option.some.inj e
    subst z
    exact ⟨_, rfl, h⟩
  | _, _, i + 1, _, .cons _ t, e => DtAll.at (i := i) t e
theorem DtAll.app {H : Hp} : ∀ {vs ws : List V} {ds es : List PyData}, DtAll H vs ds → DtAll H ws es → DtAll H (vs ++ ws) (ds ++ es)
  | _, _, _, _, .nil, h => h
  | _, _, _, _, .cons a t, h => .cons a (t.app h)
theorem DtAll.take {H : Hp} : ∀ {vs : List V} {ds : List PyData} (n : Nat), DtAll H vs ds → DtAll H (vs.take n) (ds.take n)
  | _, _, 0, _ => .nil
  | _, _, _ + 1, .nil => .nil
  | _, _, n + 1, .cons h t => .cons h (t.take n)
theorem DtAll.drop {H : Hp} : ∀ {vs : List V} {ds : List PyData} (n : Nat), DtAll H vs ds → DtAll H (vs.drop n) (ds.drop n)
  | _, _, 0, h => h
  | _, _, _ + 1, .nil => .nil
  | _, _, n + 1, .cons _ t => t.drop n
theorem DtAll.ints (H : Hp) : ∀ ns : List Int, DtAll H (ns.map V.int) (ns.map PyData.int)
  | [] => .nil
  | n :: r => .cons (.int n) (DtAll.ints H r)
theorem same_upd {H : Hp} {p : Addr} {o : HO} (h : H p = none) : Same H (upd H p o) := fun b u e => by
  rw [upd_ne (ne_of_none e h)]
  exact e
/-- is a whole number, and no truth value -/
def isI : PyData → Bool
  | .int _ => true
  | _ => false
def tyD : PyData → String
  | .none => "NoneType"
  | .bool _ => "bool"
  | .int _ => "int"
  | .str _ => "str"
  | .list _ => "list"
  | .tuple _ => "tuple"
  | .dict _ => "dict"
theorem Dt.ty {K : PySem.W.Frag} {H : Hp} {v : V} {d : PyData} (h : Dt H v d) : TyX K H v (.type (tyD d)) := by
  cases h with
  | non => exact .base .non
  | bl b => exact .base (.bl b)
  | int i => exact .base (.int i)
  | str x => exact .base (.str x)
  | lst e _ => exact .base (.lst e)
  | tup e _ => exact .base (.tup e)
/-! ### is_int and its like -/
section
variable {P : Program} {w : World} {K : PySem.W.Frag} {mg : Str → Option Value} {base : Heap}
def spInt : Sp := fun vs H Q _ => ∃ v d, vs = [v] ∧ Dt H v d ∧ Q (.bl (isI d)) H
theorem plain_dt {H : Hp} {v : V} {d : PyData} (h : Dt H v d) : Plain K H v (isI d) := by
  cases h with
  | non => exact .non
  | bl b => exact .bl b
  | int i => exact .int i
  | str x => exact .str x
  | lst e _ => exact .lst e
  | tup e _ => exact .tup e
theorem ok_int {f : Addr} {fd : FuncData} (F : Fun K "is_int" "is_int" s_is_int f fd) (B : Blt mg) : FnOk P w K mg base CX0 1 f fd ["value"] spInt :=
  (ok_is_int F B).imp fun vs H Q E h => by
    obtain ⟨v, d, e, hv, q⟩ := h
    exact ⟨v, isI d, e, plain_dt hv, q⟩
def isPairD : PyData → Bool
  | .list xs => xs.length == 2
  | .tuple xs => xs.length == 2
  | _ => false
theorem len_two (ds : List PyData) : ((ds.length : Int) == 2) = (ds.length == 2) := by
  rw [Bool.eq_iff_iff, beq_iff_eq, beq_iff_eq]
  omega
/-- what leaves all that was tracked -/
def Ret (v : V) (H : Hp) (Q : VK) : Prop := ∀ H', Same H H' → Q v H'
theorem Ret.now {v : V} {H : Hp} {Q : VK} (h : Ret v H Q) : Q v H := h H (Same.refl H)
def spPair : Sp := fun vs H Q _ => ∃ v d, vs = [v] ∧ Dt H v d ∧ Ret (.bl (isPairD d)) H Q
theorem sc_is_pair : FnScope ["value"] ["value"] (defScope s_is_pair) := ⟨rfl, rfl, rfl, by decide +kernel, rfl, by decide +kernel, by decide +kernel⟩
theorem kit2 {K : PySem.W.Frag} {t : String} {b1 b2 : Bool} (h1 : kitB t "list" = some b1) (h2 : kitB t "tuple" = some b2) : PySem.W.kitAny K (.type t) [.type "list", .type "tuple"] = some (b1 || b2) := by
  refine kitAny_cons (kit_ty h1) (fun e => ?_) (fun e => by rw [e]; rfl)
  refine kitAny_cons (kit_ty h2) (fun e2 => ?_) (fun e2 => by rw [e, e2]; rfl)
  rw [e, e2]
  exact kitAny_nil
theorem ok_pair {f : Addr} {fd : FuncData} (F : Fun K "is_pair" "is_pair" s_is_pair f fd) (B : Blt mg) : FnOk P w K mg base CX0 1 f fd ["value"] spPair := by
  refine F.ok sc_is_pair (fun vs H Q E h => ?_) (fun cdv A outer s H vs Q E hr h => ?_)
  · obtain ⟨v, d, rfl, _⟩ := h
    rfl
  · obtain ⟨v, d, rfl, hv, q⟩ := h
    refine ⟨_, pss_one (ps_ret (pe_and
      (pe_callB call_isiT (by rfl) B.isi (by decide +kernel) (pa_cons (pv 0) (pa_cons (pe_tup (pa_cons (pe_bltn (v := .ty "list") (by rfl) B.list (by decide +kernel) rfl) (pa_cons (pe_bltn (v := .ty "tuple") (by rfl) B.tuple (by decide +kernel) rfl) pa_nil))) pa_nil)))
      (pe_one (pe_cmpR op_eq (pe_callB call_len_seq (by rfl) B.len PySem.boot_len (pa_cons (pv 0) pa_nil)) pe_int (nomark _))))), ?_⟩
    refine ⟨_, rfl, by show 2 ≤ sizeLine; decide, fun t ht => ?_⟩
    have sm : Same H (upd H t (.tup [.ty "list", .ty "tuple"])) := same_upd ht
    have cl : Paired ClsV [V.ty "list", V.ty "tuple"] [Value.type "list", Value.type "tuple"] := .cons (.ty _) (.cons (.ty _) .nil)
    have ty : TyX K _ v _ := (hv.mono sm).ty
    cases hv with
    | non => exact ⟨_, _, _, _, _, _, rfl, upd_same, cl, ty, kit2 (b1 := false) (b2 := false) (by decide +kernel) (by decide +kernel), _, rfl, iteF (q _ sm)⟩
    | bl b => exact ⟨_, _, _, _, _, _, rfl, upd_same, cl, ty, kit2 (t := "bool") (b1 := false) (b2 := false) (by decide +kernel) (by decide +kernel), _, rfl, iteF (q _ sm)⟩
    | int b => exact ⟨_, _, _, _, _, _, rfl, upd_same, cl, ty, kit2 (t := "int") (b1 := false) (b2 := false) (by decide +kernel) (by decide +kernel), _, rfl, iteF (q _ sm)⟩
    | str b => exact ⟨_, _, _, _, _, _, rfl, upd_same, cl, ty, kit2 (t := "str") (b1 := false) (b2 := false) (by decide +kernel) (by decide +kernel), _, rfl, iteF (q _ sm)⟩
    | @lst a xs ds e h =>
      refine ⟨_, _, _, _, _, _, rfl, upd_same, cl, ty, kit2 (t := "list") (b1 := true) (b2 := false) (by decide +kernel) (by decide +kernel), _, rfl, iteT ⟨_, rfl, _, xs, rfl, .inl (SqL.of (sm _ _ e)), rfl, ?_⟩⟩
      rw [dec_int, h.len, show ((ds.length : Int) == 2) = isPairD (.list ds) from len_two ds]
      exact q _ sm
    | @tup a xs ds e h =>
      refine ⟨_, _, _, _, _, _, rfl, upd_same, cl, ty, kit2 (t := "tuple") (b1 := false) (b2 := true) (by decide +kernel) (by decide +kernel), _, rfl, iteT ⟨_, rfl, _, xs, rfl, .inr (SqT.of (sm _ _ e)), rfl, ?_⟩⟩
      rw [dec_int, h.len, show ((ds.length : Int) == 2) = isPairD (.tuple ds) from len_two ds]
      exact q _ sm
end
end K0
set_option Elab.async false
set_option linter.all false
set_option maxRecDepth 100000
set_option maxHeartbeats 2000000
/-! own error classes below Exception that store their arguments -/
namespace K0
open PySem PySem.Spec PyProof.Rows L2
/-- the classes behind the own ones -/
def tailOf : List Value → List Value
  | .ref _ :: r => tailOf r
  | l => l
abbrev exT : List Value := [.type "Exception", .type "BaseException", .type "object"]
theorem tail_refuse (self : Value) (wh : Str) : ∀ l : List Value, refuseLoop self wh l = refuseLoop self wh (tailOf l)
  | .ref C :: r => (refuseLoop_ref self wh C r).trans (tail_refuse self wh r)
  | [] => rfl
  | .none :: _ | .ellipsis :: _ | .notImplemented :: _ | .bool _ :: _ | .int _ _ :: _ | .float _ _ :: _ | .str _ _ :: _ | .bytes _ _ :: _ | .type _ :: _ | .builtin _ :: _ => rfl
theorem tail_has (Y : String) : ∀ l : List Value, l.contains (.type Y) = (tailOf l).contains (.type Y)
  | .ref C :: r => by
    rw [List.contains_cons, tail_has Y r]
    rfl
  | [] => rfl
  | .none :: _ | .ellipsis :: _ | .notImplemented :: _ | .bool _ :: _ | .int _ _ :: _ | .float _ _ :: _ | .str _ _ :: _ | .bytes _ _ :: _ | .type _ :: _ | .builtin _ :: _ => rfl
theorem tail_ne : ∀ l : List Value, tailOf l = exT → l.isEmpty = false
  | [], e => by cases e
  | _ :: _, _ => rfl
section
open Builtin Builtin.ObjectAttr PySem.HandSPX PySem.OEX
variable {prog : Program} {w : World} {A : Around} {R : Result → Shared → Prop} {hp : Heap} {g : Array GenState} {d : Drawn} {t : Nat} {os : OsState} {K : PySem.W.Frag} {name : Str} {tk : Tok} {v : Value} {x C : Addr} {fv : Array Value} {cd : ClassData}
/-- what is looked up ahead of a store to an exception of the class at C -/
structure Sto (prog : Program) (w : World) (K : PySem.W.Frag) (hp : Heap) (x C : Addr) (name : Str) (cd : ClassData) : Prop where
  ty : PySem.W.Looks (model prog w) hp (typeOf (.ref x)) (.ref C)
  sub : PySem.W.Looks (model prog w) hp (isInstance (.ref x) (.type "object")) true
  mro : PySem.W.Looks (model prog w) hp (mroOf (.ref C)) cd.mro
  cls : PySem.W.Looks (model prog w) hp (classData C) cd
  fnd : PySem.W.Looks (model prog w) hp (typeLookup (.ref C) name) none
  ref : ∀ self : Value, refuseLoop self "__setattr__" cd.mro = pure ()
theorem sto_of (X : K.In hp) {ox : Obj} {od : Option Obj} (I : PySem.W.InstAt hp x ox C od) (hcd : PySem.W.clsIn K C = some cd) (hm : tailOf cd.mro = exT) (ha : PySem.W.findIn K (.ref C) name = some none) : Sto prog w K hp x C name cd where
  ty := I.type
  sub := I.type.andThen (PySem.W.looks_mroIn X (by
    have h1 : cd.mro.contains (.type "object") = true := by rw [tail_has, hm]; decide +kernel
    unfold PySem.W.mroIn
    rw [hcd, Option.bind_some, if_neg (by rw [tail_ne _ hm]; decide), h1]))
  mro := (PySem.W.looks_clsIn X hcd).andThen .now
  cls := PySem.W.looks_clsIn X hcd
  fnd := PySem.W.looks_findIn X ha
  ref := fun self => by rw [tail_refuse, hm]; exact PySem.F.store_Exception.passes self
theorem osaE (S : Sto prog w K hp x C name cd) (hq : wpAny (model prog w) (A.in1) (storeInOwnDict (.ref x) (.ref C) (.str name tk) name v false) (fun fin s' => match fin with | .done f => R (.ok f) s' | .again c => c.quiet = true ∧ codeAny (model prog w) A c R s') (fun e s' => R (.error e) s') ⟨hp, g, d, t, os⟩) :
    codeAny (model prog w) A (.call (.builtin "object.__setattr__") ⟨[.ref x, .str name tk, v], []⟩) R ⟨hp, g, d, t, os⟩ := by
  have SF := PySem.F.store_object
  refine codeAny_call_builtin SF.slot.plain SF.entry (@PySem.W.check_slot (model prog w) _ _ ⟨hp, g, d, t, os⟩ "object.__setattr__" "object" "__setattr__" (.ref x) [.str name tk, v] [] _ SF.kind SF.split S.sub (SF.args (.ref x) (.str name tk) v) ?_)
  rw [PySem.W.osa_eq, refuse_eq]
  refine wpAny_bind (wpAny_bind (S.ty.at (wpAny_bind (S.mro.at ?_))))
  rw [S.ref]
  refine wpAny_pure (wpAny_bind (S.ty.at (wpAny_bind (S.fnd.at (wpAny_bind ((show PySem.W.Looks (model prog w) hp (storeTaker? none) none from .now).at ?_))))))
  exact hq
theorem osaE_new (X : K.In hp) (hx : hp.get? x = some { cls := .ref C, data := .fields fv }) (hcd : PySem.W.clsIn K C = some cd) (hm : tailOf cd.mro = exT) (hh : cd.hasDict = true) (ha : PySem.W.findIn K (.ref C) name = some none)
    (hq : ∀ h' tk' dx, (∀ b o, b ≠ x → hp.get? b = some o → h'.get? b = some o) → hp.objs.size ≤ dx → dx ≠ x → h'.get? x = some { cls := .ref C, dict := some dx, data := .fields fv } →
      h'.Ns1 dx (fun y => if y = name then some v else none) → R (.ok (.ret .none)) ⟨h', g, d, tk', os⟩) :
    codeAny (model prog w) A (.call (.builtin "object.__setattr__") ⟨[.ref x, .str name tk, v], []⟩) R ⟨hp, g, d, t, os⟩ := by
  have hxs : x ≠ hp.objs.size := Nat.ne_of_lt (Heap.lt_size hx)
  have S : Sto prog w K hp x C name cd := sto_of X (od := none) ⟨hx, rfl, rfl, trivial⟩ hcd hm ha
  refine osaE S ?_
  have hcls := S.cls
  obtain ⟨nm, bs, mro, ns, qn, hd, sn, sb, ab, col, del⟩ := cd
  dsimp only at hh
  subst hh
  unfold storeInOwnDict ownDictForStores
  repeat (first | with_reducible refine store_in_new ?_ ?_ | with_reducible refine wpAny_loadPart_at hx ?_ | with_reducible refine hcls.at ?_ | wp_step)
  · exact ⟨_, #[], _, (Heap.get?_update_ne _ _ _ _ hxs.symm).trans (Heap.get?_push_at rfl rfl), rfl, fun e he => absurd he (by simp), fun _ => rfl⟩
  · intro h' tk' hn' hs
    have hx1 : (hp.push { cls := .type "dict", data := .dict #[] }).get? x = some { cls := .ref C, data := .fields fv } := Heap.get?_push_of_some _ hx
    have old : ∀ b o, b ≠ x → hp.get? b = some o → h'.get? b = some o := fun b o hb ho =>
      (hs.2 b (Nat.ne_of_lt (Heap.lt_size ho))).trans ((Heap.get?_update_ne _ _ _ _ hb).trans (Heap.get?_push_of_some _ ho))
    exact hq h' tk' hp.objs.size old (Nat.le_refl _) hxs.symm ((hs.2 x hxs).trans (Heap.get?_update_self _ hx1 rfl)) hn'
theorem osaE_old {dx : Addr} {m0 : Str → Option Value} {nl : List Str} (X : K.In hp) (hx : hp.get? x = some { cls := .ref C, dict := some dx, data := .fields fv }) (hns : hp.Ns1 dx m0) (hw : Within m0 nl) (hz : nl.length ≤ 1000)
    (hcd : PySem.W.clsIn K C = some cd) (hm : tailOf cd.mro = exT) (hh : cd.hasDict = true) (ha : PySem.W.findIn K (.ref C) name = some none)
    (hq : ∀ h' tk', (∀ b o, b ≠ dx → hp.get? b = some o → h'.get? b = some o) → h'.Ns1 dx (fun y => if y = name then some v else m0 y) → R (.ok (.ret .none)) ⟨h', g, d, tk', os⟩) :
    codeAny (model prog w) A (.call (.builtin "object.__setattr__") ⟨[.ref x, .str name tk, v], []⟩) R ⟨hp, g, d, t, os⟩ := by
  obtain ⟨oD, esD, epD, hoD, hdD, _⟩ := hns.count hw
  have S : Sto prog w K hp x C name cd := sto_of X (od := some oD) ⟨hx, rfl, rfl, hoD⟩ hcd hm ha
  refine osaE S ?_
  have hcls := S.cls
  obtain ⟨nm, bs, mro, ns, qn, hd, sn, sb, ab, col, del⟩ := cd
  dsimp only at hh
  subst hh
  unfold storeInOwnDict ownDictForStores
  repeat (first | with_reducible refine store_in_old hns hw hz ?_ | with_reducible refine wpAny_loadPart_at hx ?_ | with_reducible refine hcls.at ?_ | wp_step)
  exact fun h' tk' hn' hs => hq h' tk' (fun b o hb ho => (hs.2 b hb).trans ho) hn'
end
/-! ### over the abstract heap -/
/-- what the written part says of such a class at C: its own names are not among fs -/
structure ErrC (K : PySem.W.Frag) (C : Addr) (fs : List Str) : Prop where
  cls : ∃ nm q N bs bm sn sub ab col dd k0 k1 k2 k3 k5, K.lookup C = some (excClassObj nm q C N bs bm true sn sub ab col dd k0 k1 k2 k3 k5 "Exception.__new__") ∧ (tailOf bm == exT) = true
  sa : PySem.W.findIn K (.ref C) "__setattr__" = some (some (.builtin "object.__setattr__"))
  ga : PySem.W.findIn K (.ref C) "__getattribute__" = some (some (.builtin "BaseException.__getattribute__"))
  gg : PySem.W.findIn K (.ref C) "__getattr__" = some none
  exC : PySem.W.subIn K (.ref C) (.type "BaseException") = some true
  tyC : PySem.W.typeIn K (.ref C) = some (.type "type")
  kC : PySem.W.keepIn K (.ref C) = true
  hd : PySem.W.hasDictIn K C = true
  no : ∀ f ∈ fs, PySem.W.findIn K (.ref C) f = some none
theorem ErrC.data {K : PySem.W.Frag} {C : Addr} {fs : List Str} (T : ErrC K C fs) : ∃ cd, PySem.W.clsIn K C = some cd ∧ tailOf cd.mro = exT ∧ cd.hasDict = true := by
  obtain ⟨nm, q, N, bs, bm, sn, sub, ab, col, dd, k0, k1, k2, k3, k5, hC, hbm⟩ := T.cls
  refine ⟨{ name := nm, bases := bs, mro := .ref C :: bm, ns := N, qualname := q, hasDict := true, slotNames := sn, subclasses := sub, abstract := ab, collection := col, hasDel := false }, ?_, beq_iff_eq.mp hbm, rfl⟩
  unfold PySem.W.clsIn
  rw [hC]
section
variable {X : Cx} {pins : List (Addr × Obj)} {σ : L2.St} {H : Hp} {s : Shared} {a C dx : Addr} {f : Str} {y : V} {u : Value} {fl : List Str} {fs : List (Str × V)} {Q : Unit → Shared → Prop} {E : Value → Shared → Prop} {A : Around}
/-- the first store: the exception gets its dict -/
theorem stE_new (T : ErrC X.K C fl) (I : Inv X pins σ H s) (e : H a = some (exo a C none)) (hno : f ∈ fl) (ry : RelV y u)
    (h : ∀ dx s', H dx = none → dx ≠ a → Inv X pins σ (upd (upd H dx (exd dx [(f, y)])) a (exo a C (some dx))) s' → Q () s') : wpAny (model X.prog X.w) A (setAttr (.ref a) f u) Q E s := by
  obtain ⟨cd, hcl, hm, hdd⟩ := T.data
  obtain ⟨t1, ho⟩ := exo_at I.hok e
  obtain ⟨hp, g, d, t, os⟩ := s
  refine PySem.W.set_plain I.kIn (ox := { cls := .ref C, dict := none, data := .fields #[.ref t1, .none, .none, .none, .bool false, .none] }) (od := none) ⟨ho, rfl, rfl, trivial⟩ T.sa ?_
  refine osaE_new I.kIn ho hcl hm hdd (T.no f hno) (fun h' tk' dx k dn dne hx hn => ?_)
  have hnd : H dx = none := I.hok.fresh dn
  have lt : ∀ {b : Addr} {o : Obj}, hp.get? b = some o → b ≠ dx := fun q => Nat.ne_of_lt (Nat.lt_of_lt_of_le (Heap.lt_size q) dn)
  have na : ∀ {b : Addr}, H b = none → b ≠ a := fun {b} n z => by rw [z, e] at n; cases n
  refine h dx _ hnd dne (I.un (t' := tk') { keep := fun b o q n _ _ => k b o (na n) q, slot := fun b o q n _ _ => ⟨o.slots, k b o (na n) q⟩, free := fun b o q n _ => ?_, there := fun b o q _ => ?_, tups := fun b xs q => ?_, frzs := fun b o v q => ?_, tbls := fun b ps q => ⟨#[], ?_⟩ } fun b o q => ?_)
  · rw [upd_ne (na n), upd_ne (lt q)]
    exact n
  · rcases Nat.decEq b a with hb | hb
    · exact ⟨o, k b o hb q⟩
    · exact ⟨_, by rw [hb]; exact hx⟩
  · rw [upd_ne (at_ne e q exo_tup), upd_ne (ne_of_none q hnd)]
    exact q
  · rw [upd_ne (at_ne e q exo_frz), upd_ne (ne_of_none q hnd)]
    exact q
  · rw [upd_ne (at_ne e q exo_tbl), upd_ne (ne_of_none q hnd), q]
    simp
  · by_cases hb : b = a
    · subst hb
      rw [upd_same] at q
      cases q
      exact exo_ok hx
    rw [upd_ne hb] at q
    by_cases hdx : b = dx
    · subst hdx
      rw [upd_same] at q
      cases q
      exact exd_ok hn (relO_put (fs := []) ry fun g => True.intro)
    rw [upd_ne hdx] at q
    refine (I.hok b o q).stay (fun c v hc z => k c v ?_ z) (fun c hc => ?_) (fun c xs hc => ?_)
    · rcases hc with hc | hc
      · rw [hc]; exact hb
      · exact at_ne e hc exo_own
    · rw [upd_ne (at_ne e hc exo_own), upd_ne (ne_of_none hc hnd)]
      exact hc
    · rw [upd_ne (at_ne e hc exo_tup), upd_ne (ne_of_none hc hnd)]
      exact hc
/-- a further store -/
theorem stE_old (T : ErrC X.K C fl) (I : Inv X pins σ H s) (e : H a = some (exo a C (some dx))) (ed : H dx = some (exd dx fs)) (hl : fs.length ≤ 900) (hno : f ∈ fl) (ry : RelV y u)
    (h : ∀ s', Inv X pins σ (upd H dx (exd dx ((f, y) :: fs))) s' → Q () s') : wpAny (model X.prog X.w) A (setAttr (.ref a) f u) Q E s := by
  obtain ⟨cd, hcl, hm, hdd⟩ := T.data
  obtain ⟨t1, ho⟩ := exo_at I.hok e
  obtain ⟨mA, hns, rel⟩ := exd_at I.hok ed
  have hw := within_of rel
  obtain ⟨hp, g, d, t, os⟩ := s
  obtain ⟨oD, _, _, hoD, _, _⟩ := hns.count hw
  refine PySem.W.set_plain I.kIn (ox := { cls := .ref C, dict := some dx, data := .fields #[.ref t1, .none, .none, .none, .bool false, .none] }) (od := some oD) ⟨ho, rfl, rfl, hoD⟩ T.sa ?_
  refine osaE_old I.kIn ho hns hw (by rw [List.length_map]; omega) hcl hm hdd (T.no f hno) (fun h' tk' k hn => ?_)
  have there : ∃ o, h'.get? dx = some o := by
    obtain ⟨o, _, _, e', _⟩ := hn
    exact ⟨o, e'⟩
  exact h _ (I.write (t' := tk') (x := dx) (e := dx) (o := exd dx ((f, y) :: fs)) (by rw [ed]; trivial) (.inl rfl) k there (exd_ok hn (relO_put ry rel)))
end
/-- self.f = e in the __init__ of such a class -/
def tStE (K : PySem.W.Frag) (fl : List Str) (f : Str) (to te : TE) : TS := fun D σ H => te σ H fun y H1 => to σ H1 fun x H2 => ∃ a C : Addr, x = .ref a ∧ ErrC K C fl ∧ f ∈ fl ∧
  ((H2 a = some (exo a C none) ∧ ∀ dx, H2 dx = none → dx ≠ a → D.nx σ (upd (upd H2 dx (exd dx [(f, y)])) a (exo a C (some dx)))) ∨
    ∃ (dx : Addr) (fs : List (Str × V)), H2 a = some (exo a C (some dx)) ∧ H2 dx = some (exd dx fs) ∧ fs.length ≤ 900 ∧ D.nx σ (upd H2 dx (exd dx ((f, y) :: fs))))
/-- C(e, ..): a new exception; behind it stand its class, its dict -/
def tMkE (C : Addr) (sp : Sp) (ta : TA) : L2.St → Hp → XK → Prop := fun σ H Q => ta σ H fun vs H1 => vs.length ≤ 1000 ∧ ∀ a, H1 a = none → sp (.ref a :: vs) (upd H1 a (exo a C none))
  (fun v H2 => v = .non ∧ ∃ (d : Addr) (fs : List (Str × V)), H2 a = some (exo a C (some d)) ∧ H2 d = some (exd d fs) ∧ H1 d = none ∧ Q (.ref C) (some d) (upd (del H2 a) d (.xd fs))) (fun _ _ _ => False)
section
variable {X : Cx} {o e : Expr} {es : List Expr} {to te : TE} {ta : TA} {f : Str} {p p' pos : Pos} {fl : List Str}
theorem ps_stE (ho : PE X o to) (he : PE X e te) (hs : swapsWith e (some (.Attribute o f p')) pos.line X.env = pure false := by rfl) : PS X (.Assign [.Attribute o f p'] e pos) (tStE X.K fl f to te) := by
  refine ⟨fun pins s σ H D I h => ?_⟩
  refine plainObj_wpAny_Assign_Attribute (thn (he.run pins s σ H _ I h) fun v s1 ⟨y, H1, I1, r1, q1⟩ => thn (ho.run pins s1 σ H1 _ I1 q1) fun u s2 ⟨x, H2, I2, r2, a, C, ex, T, hno, q⟩ => ?_) hs
  subst ex
  cases (show u = Value.ref a from r2)
  rcases q with ⟨ea, q⟩ | ⟨dx, fs, ea, ed, hl, q⟩
  · exact stE_new T I2 ea hno r1 fun dx s' n ne J => ⟨σ, _, J, q dx n ne⟩
  · exact stE_old T I2 ea ed hl hno r1 fun s' J => ⟨σ, _, J, q⟩
theorem pmk_E {CX : CXT} {x : Str} {C fI : Addr} {k : Nat} {fd : FuncData} {ps : List Str} {sp : Sp} (T : ErrC X.K C fl) (iC : PySem.W.findIn X.K (.ref C) "__init__" = some (some (.ref fI))) (tI : PySem.W.typeIn X.K (.ref fI) = some (.type "function"))
    (F1 : FnOk X.prog X.w X.K X.mg X.base CX k fI fd ps sp) (hr : Room (k + 1) X.A) (hb : Binds X.K fd ps []) (hx : Passes CX X (fun _ _ _ => False)) (hg : Gl X x) (hm : X.mg x = some (.ref C)) (ha : PA X (e :: es) ta)
    (hdb : (x == ("__debug__" : Str)) = false := by decide) (he : starEach (e :: es) X.env = (false, eval e X.env) :: starEach es X.env := by rfl) (hpl : (backTo pos (starEach es X.env)).any (·.1) = false := by rfl) :
    PMk X (.Call (.Name x p) (e :: es) [] pos) (tMkE C sp ta) := by
  intro pins s σ H Q I h
  obtain ⟨nm, q, N, bs, bm, sn, sub, ab, col, dd, k0, k1, k2, k3, k5, hC, hbm⟩ := T.cls
  have hbm' : tailOf bm = exT := beq_iff_eq.mp hbm
  refine wpAny_Call_Name_kw (ld_glob I hg hm ?_ hdb)
  refine PySem.W.callWith_K (h₀ := X.base) I.ok.mod.kin T.kC (thn (ha.run pos pins s σ H _ I h) fun us s1 ⟨vs, H1, I1, r1, hz, q1⟩ => ⟨I1.kIn, ?_⟩) he hpl
  show wpAny _ _ (call (.ref C) us) _ _ _
  obtain ⟨hp, g, dr, tk, os⟩ := s1
  have big : hp.objs.size ≤ hp.objs.size + 1 := Nat.le_succ _
  have hq := q1 (hp.objs.size + 1) (I1.hok.fresh big)
  have kk : ∀ b o, hp.get? b = some o → ((hp.push (PySem.W.kdv_tup us)).push (PySem.HandSPX.excO C hp.objs.size)).get? b = some o := fun b o e => Heap.get?_push_of_some _ (Heap.get?_push_of_some _ e)
  have hget : ((hp.push (PySem.W.kdv_tup us)).push (PySem.HandSPX.excO C hp.objs.size)).get? (hp.objs.size + 1) = some (PySem.HandSPX.excO C hp.objs.size) := by heap_get
  have I2 := I1.laid (t' := tk) (a := hp.objs.size + 1) (o := exo (hp.objs.size + 1) C none) (h' := (hp.push (PySem.W.kdv_tup us)).push (PySem.HandSPX.excO C hp.objs.size)) kk big (exo_ok hget)
  have r2 : Vals (V.ref (hp.objs.size + 1) :: vs) (Value.ref (hp.objs.size + 1) :: us) := .cons rfl r1
  have hl : (Value.ref (hp.objs.size + 1) :: us ++ []).length = ps.length := by
    rw [List.append_nil, ← r2.length]
    exact F1.len _ _ _ _ hq
  have hus : us.length ≤ sizeLine := by
    rw [← Paired.length r1, sizeLine_eq]
    omega
  have bnd := hb _ (Value.ref (hp.objs.size + 1) :: us) I2.kIn hl
  rw [List.append_nil] at bnd
  refine wpAny_call (PySem.HandSPX.call_own PySem.F.excBase_Exception (fun Y => (tail_has Y bm).trans (by rw [hbm'])) (I1.kIn _ _ hC) (PySem.W.looks_findIn I1.kIn iC) (fun self => PySem.W.bind_fn I1.kIn self tI) hus
    (codeAny_mono (F1.run _ X.stack _ _ ⟨Value.ref (hp.objs.size + 1) :: us, []⟩ (Value.ref (hp.objs.size + 1) :: us) _ _ (fun _ _ _ => False) (hr.make C us []) (I2.env0.make C us []) bnd r2 hq) fun r s' hq' => ?_))
  rcases r with er | fl'
  · exact hx pins σ _ _ er s' I2 hq'
  · cases fl' with
    | ret u =>
      obtain ⟨v, H2, os2, bare2, un2, hok2, rv, ev, d, fs, ea, ed, hd1, q2⟩ := hq'
      subst ev
      obtain ⟨h2, g2, d2, t2, os'⟩ := s'
      exact ⟨rv, mk_end (raises_own T.exC T.tyC) I1 big kk un2 hok2 os2 bare2 ea ed hd1 q2⟩
    | next => exact hq'.elim
    | brk => exact hq'.elim
    | cont => exact hq'.elim
/-- raise C(e, ..) -/
theorem ps_raiseE {CX : CXT} {W : WX} {x : Str} {C fI : Addr} {k : Nat} {fd : FuncData} {ps : List Str} {sp : Sp} {pos2 : Pos} (hc : X.calm = true) (tk : Takes X W) (T : ErrC X.K C fl) (iC : PySem.W.findIn X.K (.ref C) "__init__" = some (some (.ref fI))) (tI : PySem.W.typeIn X.K (.ref fI) = some (.type "function"))
    (F1 : FnOk X.prog X.w X.K X.mg X.base CX k fI fd ps sp) (hr : Room (k + 1) X.A) (hb : Binds X.K fd ps []) (hx : Passes CX X (fun _ _ _ => False)) (hg : Gl X x) (hm : X.mg x = some (.ref C)) (ha : PA X (e :: es) ta)
    (hdb : (x == ("__debug__" : Str)) = false := by decide) (he : starEach (e :: es) X.env = (false, eval e X.env) :: starEach es X.env := by rfl) (hpl : (backTo pos (starEach es X.env)).any (·.1) = false := by rfl) :
    PS X (.Raise (some (.Call (.Name x p) (e :: es) [] pos)) none pos2) (fun _ σ H => tMkE C sp ta σ H fun cls d H' => W cls d σ H') := ps_raise hc tk (pmk_E T iC tI F1 hr hb hx hg hm ha hdb he hpl)
end
end K0
set_option Elab.async false
set_option linter.all false
set_option maxRecDepth 100000
set_option maxHeartbeats 2000000
namespace K0
open PySem PySem.Spec PyProof.Rows L2
theorem PS_imp {X : Cx} {st : Stmt} {t t' : TS} (h : PS X st t) (i : ∀ D σ H, t' D σ H → t D σ H) : PS X st t' := ⟨fun pins s σ H D I q => h.run pins s σ H D I (i D σ H q)⟩
/-- a def that lets nothing out is one that may -/
theorem up0 {P : Program} {w : World} {K : PySem.W.Frag} {mg : Str → Option Value} {base : Heap} {CX : CXT} {k : Nat} {f : Addr} {fd : FuncData} {ps : List Str} {sp : Sp} (F : FnOk P w K mg base CX0 k f fd ps sp) : FnOk P w K mg base CX k f fd ps sp :=
  ⟨F.len, fun A outer s H args us vs Q E hr he hb hv hs => codeAny_mono (F.run A outer s H args us vs Q E hr he hb hv hs) fun r s' h => by
    cases r with
    | error e => exact False.elim h
    | ok fl => cases fl <;> exact h⟩
theorem passN {X : Cx} : Passes CX0 X (fun _ _ _ => False) := fun _ _ _ _ _ _ _ h => h.elim
theorem passUp {P : Program} {w : World} {K : PySem.W.Frag} {mg : Str → Option Value} {base : Heap} {N : List Str} {qual : Str} {sc : Scope} {f : Addr} {cd : Value} {A : Around} {outer : List Env} {s : Shared} {H : Hp} {E : XK} :
    Passes (L2.CX P w) (cxOf (L2.CX P w) P w K mg base N qual sc f cd A outer s H E) E := passes_call (takes_of rfl rfl rfl rfl) fun _ _ _ _ h => h
/-! ### the __init__ of an error with one, with two fields -/
abbrev s_e1 : Stmt := inClass (top 4) 0
abbrev s_eW : Stmt := inClass (top 5) 0
abbrev s_eT : Stmt := inClass (top 6) 0
def spE1 (C : Addr) (f : Str) : Sp := fun vs H Q _ => ∃ (a : Addr) (v : V), vs = [.ref a, v] ∧ H a = some (exo a C none) ∧ ∀ dx, H dx = none → dx ≠ a → Q .non (upd (upd H dx (exd dx [(f, v)])) a (exo a C (some dx)))
def spE2 (C : Addr) (f g : Str) : Sp := fun vs H Q _ => ∃ (a : Addr) (v u : V), vs = [.ref a, v, u] ∧ H a = some (exo a C none) ∧ ∀ dx, H dx = none → dx ≠ a → Q .non (upd (upd (upd H dx (exd dx [(f, v)])) a (exo a C (some dx))) dx (exd dx [(g, u), (f, v)]))
section
variable {P : Program} {w : World} {K : PySem.W.Frag} {mg : Str → Option Value} {base : Heap} {f C : Addr} {fd : FuncData}
theorem sc_e1 : FnScope ["self", "name"] ["self", "name"] (defScope s_e1) := ⟨rfl, rfl, rfl, by decide +kernel, rfl, by decide +kernel, by decide +kernel⟩
theorem ok_e1 (F : Fun K "__init__" "BadNumber.__init__" s_e1 f fd) (T : ErrC K C ["name"]) : FnOk P w K mg base CX0 1 f fd ["self", "name"] (spE1 C "name") := by
  refine F.ok sc_e1 (fun vs H Q E h => ?_) (fun cdv A outer s H vs Q E hr h => ?_)
  · obtain ⟨a, v, rfl, _⟩ := h
    rfl
  · obtain ⟨a, v, rfl, ha, q⟩ := h
    refine ⟨_, pss_one (ps_stE (fl := ["name"]) (pv 0) (pv 1)), ?_⟩
    exact ⟨_, rfl, _, rfl, a, C, rfl, T, by decide, .inl ⟨ha, fun dx n ne => q dx n ne⟩⟩
theorem sc_eT : FnScope ["self", "thing"] ["self", "thing"] (defScope s_eT) := ⟨rfl, rfl, rfl, by decide +kernel, rfl, by decide +kernel, by decide +kernel⟩
theorem ok_eT (F : Fun K "__init__" "BadThing.__init__" s_eT f fd) (T : ErrC K C ["thing"]) : FnOk P w K mg base CX0 1 f fd ["self", "thing"] (spE1 C "thing") := by
  refine F.ok sc_eT (fun vs H Q E h => ?_) (fun cdv A outer s H vs Q E hr h => ?_)
  · obtain ⟨a, v, rfl, _⟩ := h
    rfl
  · obtain ⟨a, v, rfl, ha, q⟩ := h
    refine ⟨_, pss_one (ps_stE (fl := ["thing"]) (pv 0) (pv 1)), ?_⟩
    exact ⟨_, rfl, _, rfl, a, C, rfl, T, by decide, .inl ⟨ha, fun dx n ne => q dx n ne⟩⟩
theorem sc_eW : FnScope ["self", "x", "y"] ["self", "x", "y"] (defScope s_eW) := ⟨rfl, rfl, rfl, by decide +kernel, rfl, by decide +kernel, by decide +kernel⟩
theorem ok_eW (F : Fun K "__init__" "BadWeb.__init__" s_eW f fd) (T : ErrC K C ["x", "y"]) : FnOk P w K mg base CX0 1 f fd ["self", "x", "y"] (spE2 C "x" "y") := by
  refine F.ok sc_eW (fun vs H Q E h => ?_) (fun cdv A outer s H vs Q E hr h => ?_)
  · obtain ⟨a, v, u, rfl, _⟩ := h
    rfl
  · obtain ⟨a, v, u, rfl, ha, q⟩ := h
    refine ⟨_, pss_cons (ps_stE (fl := ["x", "y"]) (pv 0) (pv 1)) (pss_one (ps_stE (fl := ["x", "y"]) (pv 0) (pv 2))), ?_⟩
    refine ⟨_, rfl, _, rfl, a, C, rfl, T, by decide, .inl ⟨ha, fun dx n ne => ?_⟩⟩
    exact ⟨_, rfl, _, rfl, a, C, rfl, T, by decide, .inr ⟨dx, _, upd_same, (by rw [upd_ne ne, upd_same]), (by show 1 ≤ 900; decide), q dx n ne⟩⟩
end
/-! ### raising them -/
/-- an error class with its __init__, as it stands behind the top -/
structure Er (P : Program) (w : World) (K : PySem.W.Frag) (mg : Str → Option Value) (base : Heap) (x : Str) (C : Addr) (fl ps : List Str) (sp : Sp) : Prop where
  T : ErrC K C fl
  g : mg x = some (.ref C)
  ex : ∃ (fI : Addr) (fd : FuncData), PySem.W.findIn K (.ref C) "__init__" = some (some (.ref fI)) ∧ PySem.W.typeIn K (.ref fI) = some (.type "function") ∧ FnOk P w K mg base CX0 1 fI fd ps sp ∧ Binds K fd ps []
section
variable {X : Cx} {e e2 : Expr} {te te2 : TE} {x f g : Str} {C : Addr} {W : WX} {p pos pos2 : Pos}
def tRz1 (C : Addr) (f : Str) (W : WX) (te : TE) : TS := fun _ σ H => te σ H fun v H1 => ∀ d, H1 d = none → W (.ref C) (some d) σ (upd H1 d (.xd [(f, v)]))
theorem ps_rz1 (hc : X.calm = true) (tk : Takes X W) (T : Er X.prog X.w X.K X.mg X.base x C [f] ["self", f] (spE1 C f)) (hr : Room 2 X.A) (hg : Gl X x) (he : PE X e te)
    (mono : ∀ σ H (Q Q' : VK), (∀ v H', Q v H' → Q' v H') → te σ H Q → te σ H Q')
    (hdb : (x == ("__debug__" : Str)) = false := by decide) (hs : starEach [e] X.env = (false, eval e X.env) :: starEach [] X.env := by rfl) (hpl : (backTo pos (starEach [] X.env)).any (·.1) = false := by rfl) :
    PS X (.Raise (some (.Call (.Name x p) [e] [] pos)) none pos2) (tRz1 C f W te) := by
  obtain ⟨fI, fd, i1, i2, F, b⟩ := T.ex
  refine PS_imp (ps_raiseE hc tk T.T i1 i2 F hr b passN hg T.g (pa_cons he pa_nil hs) hdb hs hpl) fun D σ H q => ?_
  refine mono σ H _ _ (fun v H1 q1 => ?_) q
  refine ⟨by show 1 ≤ 1000; decide, fun a ha => ⟨a, v, rfl, upd_same, fun dx n ne => ⟨rfl, dx, [(f, v)], upd_same, ?_, ?_, ?_⟩⟩⟩
  · rw [upd_ne ne, upd_same]
  · rw [upd_ne ne] at n
    exact n
  · have n' : H1 dx = none := by rw [upd_ne ne] at n; exact n
    have z := q1 dx n'
    have eq : upd (del (upd (upd (upd H1 a (exo a C none)) dx (exd dx [(f, v)])) a (exo a C (some dx))) a) dx (HO.xd [(f, v)]) = upd H1 dx (.xd [(f, v)]) := by
      funext b
      by_cases hb : b = dx
      · rw [hb, upd_same, upd_same]
      · rw [upd_ne hb, upd_ne hb]
        by_cases hba : b = a
        · rw [hba, del_same, ha]
        · rw [del_ne hba, upd_ne hba, upd_ne hb, upd_ne hba]
    rw [eq]
    exact z
def tRz2 (C : Addr) (f g : Str) (W : WX) (te te2 : TE) : TS := fun _ σ H => te σ H fun v H0 => te2 σ H0 fun u H1 => ∀ d, H1 d = none → W (.ref C) (some d) σ (upd H1 d (.xd [(g, u), (f, v)]))
theorem ps_rz2 (hc : X.calm = true) (tk : Takes X W) (T : Er X.prog X.w X.K X.mg X.base x C [f, g] ["self", f, g] (spE2 C f g)) (hr : Room 2 X.A) (hg : Gl X x) (he : PE X e te) (he2 : PE X e2 te2)
    (mono : ∀ σ H (Q Q' : VK), (∀ v H', Q v H' → Q' v H') → te σ H Q → te σ H Q') (mono2 : ∀ σ H (Q Q' : VK), (∀ v H', Q v H' → Q' v H') → te2 σ H Q → te2 σ H Q')
    (hdb : (x == ("__debug__" : Str)) = false := by decide) (hs : starEach [e, e2] X.env = (false, eval e X.env) :: starEach [e2] X.env := by rfl) (hs2 : starEach [e2] X.env = (false, eval e2 X.env) :: starEach [] X.env := by rfl) (hpl : (backTo pos (starEach [e2] X.env)).any (·.1) = false := by rfl) :
    PS X (.Raise (some (.Call (.Name x p) [e, e2] [] pos)) none pos2) (tRz2 C f g W te te2) := by
  obtain ⟨fI, fd, i1, i2, F, b⟩ := T.ex
  refine PS_imp (ps_raiseE hc tk T.T i1 i2 F hr b passN hg T.g (pa_cons he (pa_cons he2 pa_nil hs2) hs) hdb hs hpl) fun D σ H q => ?_
  refine mono σ H _ _ (fun v H0 q0 => mono2 σ H0 _ _ (fun u H1 q1 => ?_) q0) q
  refine ⟨by show 2 ≤ 1000; decide, fun a ha => ⟨a, v, u, rfl, upd_same, fun dx n ne => ⟨rfl, dx, [(g, u), (f, v)], ?_, upd_same, ?_, ?_⟩⟩⟩
  · rw [upd_ne ne.symm, upd_same]
  · rw [upd_ne ne] at n
    exact n
  · have n' : H1 dx = none := by rw [upd_ne ne] at n; exact n
    have z := q1 dx n'
    have eq : upd (del (upd (upd (upd (upd H1 a (exo a C none)) dx (exd dx [(f, v)])) a (exo a C (some dx))) dx (exd dx [(g, u), (f, v)])) a) dx (HO.xd [(g, u), (f, v)]) = upd H1 dx (.xd [(g, u), (f, v)]) := by
      funext b
      by_cases hb : b = dx
      · rw [hb, upd_same, upd_same]
      · rw [upd_ne hb, upd_ne hb]
        by_cases hba : b = a
        · rw [hba, del_same, ha]
        · rw [del_ne hba, upd_ne hb, upd_ne hba, upd_ne hb, upd_ne hba]
    rw [eq]
    exact z
end
theorem mono_var (i : Nat) : ∀ (σ : L2.St) (H : Hp) (Q Q' : VK), (∀ v H', Q v H' → Q' v H') → tVar i σ H Q → tVar i σ H Q' := fun _ _ _ _ h ⟨v, e, q⟩ => ⟨v, e, h _ _ q⟩
theorem mono_c (v : V) : ∀ (σ : L2.St) (H : Hp) (Q Q' : VK), (∀ v H', Q v H' → Q' v H') → tC v σ H Q → tC v σ H Q' := fun _ _ _ _ h q => h _ _ q
end K0
set_option Elab.async false
set_option linter.all false
set_option maxRecDepth 100000
set_option maxHeartbeats 2000000
namespace K0
open PySem PySem.Spec PyProof.Rows L2
abbrev s_check_number : Stmt := top 13
abbrev s_check_thing : Stmt := top 15
/-- a def of the program as it stands: its name, its promise -/
structure Df (P : Program) (w : World) (K : PySem.W.Frag) (mg : Str → Option Value) (base : Heap) (x : Str) (k : Nat) (ps : List Str) (sp : Sp) : Prop where
  ex : ∃ (f : Addr) (fd : FuncData), mg x = some (.ref f) ∧ PySem.W.keepIn K (.ref f) = true ∧ FnOk P w K mg base (L2.CX P w) k f fd ps sp ∧ Binds K fd ps []
/-- the call of such a def -/
theorem pe_df {X : Cx} {x : Str} {k : Nat} {ps : List Str} {sp : Sp} {E : XK} {e : Expr} {es : List Expr} {t : TA} {p pos : Pos} (T : Df X.prog X.w X.K X.mg X.base x k ps sp) (hr : Room k X.A) (hg : Gl X x) (hx : Passes (L2.CX X.prog X.w) X E) (ha : PA X (e :: es) t)
    (hdb : (x == ("__debug__" : Str)) = false := by decide) (he : starEach (e :: es) X.env = (false, eval e X.env) :: starEach es X.env := by rfl) (hpl : (backTo pos (starEach es X.env)).any (·.1) = false := by rfl) :
    PE X (.Call (.Name x p) (e :: es) [] pos) (tCall sp [] E t) := by
  obtain ⟨f, fd, g, kp, F, b⟩ := T.ex
  exact pe_call F hr hg g kp b .nil hx ha hdb he hpl
section
variable {P : Program} {w : World} {K : PySem.W.Frag} {mg : Str → Option Value} {base : Heap} {f : Addr} {fd : FuncData}
/-- a raise of the error at C, with these fields -/
def Rz (C : Addr) (fs : List (Str × V)) (H : Hp) (E : XK) : Prop := ∀ H' d, Same H H' → H' d = some (.xd fs) → E (.ref C) (some d) H'
theorem Rz.at {C : Addr} {fs : List (Str × V)} {H H1 : Hp} {E : XK} (r : Rz C fs H E) (s : Same H H1) {d : Addr} (n : H1 d = none) : E (.ref C) (some d) (upd H1 d (.xd fs)) := r _ d (s.trans (same_upd n)) upd_same
def isTh (n : Int) : PyData → Bool
  | .int i => decide (0 ≤ i ∧ i < n)
  | _ => false
def spTh : Sp := fun vs H Q _ => ∃ n v d, vs = [.int n, v] ∧ Dt H v d ∧ Ret (.bl (isTh n d)) H Q
theorem sc_th : FnScope ["many", "value"] ["many", "value"] (defScope s_is_thing) := ⟨rfl, rfl, rfl, by decide +kernel, rfl, by decide +kernel, by decide +kernel⟩
theorem ok_th (F : Fun K "is_thing" "is_thing" s_is_thing f fd) (I : Df P w K mg base "is_int" 1 ["value"] spInt) : FnOk P w K mg base (L2.CX P w) 2 f fd ["many", "value"] spTh := by
  refine F.okX sc_th (fun vs H Q E h => ?_) (fun cdv A outer s H vs Q E hr h => ?_)
  · obtain ⟨n, v, d, rfl, _⟩ := h
    rfl
  · obtain ⟨n, v, d, rfl, hv, q⟩ := h
    refine ⟨_, pss_one (ps_ret (pe_and (pe_df I hr (by rfl) passUp (pa_cons (pv 1) pa_nil)) (pe_one (pe_chain op_le op_lt pe_int (pv 1) (pv 0))))), ?_⟩
    refine ⟨_, rfl, v, d, rfl, hv, ?_⟩
    cases hv with
    | int i =>
      refine ⟨_, rfl, iteT ⟨_, rfl, _, _, rfl, rfl, _, rfl, ?_⟩⟩
      by_cases h0 : 0 ≤ i
      · rw [decide_eq_true h0]
        refine iteT ⟨_, rfl, _, _, rfl, rfl, ?_⟩
        have e : isTh n (.int i) = decide (i < n) := by
          show decide (0 ≤ i ∧ i < n) = decide (i < n)
          simp [h0]
        rw [e] at q
        exact q.now
      · rw [decide_eq_false h0]
        have e : isTh n (.int i) = false := by
          show decide (0 ≤ i ∧ i < n) = false
          simp [h0]
        rw [e] at q
        exact iteF q.now
    | non => exact ⟨_, rfl, iteF q.now⟩
    | bl b => exact ⟨_, rfl, iteF q.now⟩
    | str b => exact ⟨_, rfl, iteF q.now⟩
    | lst e h => exact ⟨_, rfl, iteF q.now⟩
    | tup e h => exact ⟨_, rfl, iteF q.now⟩
/-- check_thing: the thing itself, or BadThing of it -/
def spCt (C : Addr) : Sp := fun vs H Q E => ∃ n v d, vs = [.int n, v] ∧ Dt H v d ∧ (isTh n d = true → Ret v H Q) ∧ (isTh n d = false → Rz C [("thing", v)] H E)
theorem sc_ct : FnScope ["many", "thing"] ["many", "thing"] (defScope s_check_thing) := ⟨rfl, rfl, rfl, by decide +kernel, rfl, by decide +kernel, by decide +kernel⟩
theorem ok_ct {C : Addr} (F : Fun K "check_thing" "check_thing" s_check_thing f fd) (I : Df P w K mg base "is_thing" 2 ["many", "value"] spTh) (T : Er P w K mg base "BadThing" C ["thing"] ["self", "thing"] (spE1 C "thing")) :
    FnOk P w K mg base (L2.CX P w) 3 f fd ["many", "thing"] (spCt C) := by
  refine F.okX sc_ct (fun vs H Q E h => ?_) (fun cdv A outer s H vs Q E hr h => ?_)
  · obtain ⟨n, v, d, rfl, _⟩ := h
    rfl
  · obtain ⟨n, v, d, rfl, hv, q1, q2⟩ := h
    refine ⟨_, pss_cons (ps_if (pt_not (pt_val (pe_df I hr (by rfl) passUp (pa_cons (pv 0) (pa_cons (pv 1) pa_nil)))))
      (pss_one (ps_rz1 rfl (takes_of rfl rfl rfl rfl) T hr (by rfl) (pv 1) (mono_var 1))) pss_nil) (pss_one (ps_ret (pv 1))), ?_⟩
    refine ⟨_, rfl, _, rfl, n, v, d, rfl, hv, fun H' sm => ⟨_, rfl, ?_⟩⟩
    cases e : isTh n d with
    | true => exact iteF ⟨_, rfl, q1 e H' sm⟩
    | false => exact iteT ⟨_, rfl, fun dd nd => (q2 e).at sm nd⟩
end
end K0
set_option Elab.async false
set_option linter.all false
set_option maxRecDepth 100000
set_option maxHeartbeats 2000000
namespace K0
open PySem PySem.Spec PyProof.Rows L2
section
variable {P : Program} {w : World} {K : PySem.W.Frag} {mg : Str → Option Value} {base : Heap} {f : Addr} {fd : FuncData}
/-- check_number(value, name, least): the value, or BadNumber of the name -/
def okN (l : Int) : PyData → Bool
  | .int i => decide (l ≤ i)
  | _ => false
def spCn (C : Addr) : Sp := fun vs H Q E => ∃ (v : V) (d : PyData) (x : Str) (l : Int), vs = [v, .str x, .int l] ∧ Dt H v d ∧ (okN l d = true → Q v H) ∧ (okN l d = false → Rz C [("name", .str x)] H E)
theorem sc_cn : FnScope ["value", "name", "least"] ["value", "name", "least"] (defScope s_check_number) := ⟨rfl, rfl, rfl, by decide +kernel, rfl, by decide +kernel, by decide +kernel⟩
theorem ok_cn {C : Addr} (F : FunD K "check_number" "check_number" (defArgs s_check_number) (defBody s_check_number) (defScope s_check_number) [.int 0] [] f fd) (I : Df P w K mg base "is_int" 1 ["value"] spInt) (T : Er P w K mg base "BadNumber" C ["name"] ["self", "name"] (spE1 C "name")) :
    FnOk P w K mg base (L2.CX P w) 3 f fd ["value", "name", "least"] (spCn C) := by
  refine F.ok sc_cn (fun vs H Q E h => ?_) (fun cdv A outer s H vs Q E hr h => ?_)
  · obtain ⟨v, d, x, l, rfl, _⟩ := h
    rfl
  · obtain ⟨v, d, x, l, rfl, hv, q1, q2⟩ := h
    have hr1 : Room 1 _ := hr.mono (by decide)
    refine ⟨_, pss_cons (ps_if (PW.pt (pw_or (pt_not (pt_val (pe_df I hr1 (by rfl) passUp (pa_cons (pv 0) pa_nil)))) (pw_or1 (pt_cmpR op_lt (pv 0) (pv 2) (nomark _)))))
      (pss_one (ps_rz1 rfl (takes_of rfl rfl rfl rfl) T hr (by rfl) (pv 1) (mono_var 1))) pss_nil) (pss_one (ps_ret (pv 0))), ?_⟩
    refine ⟨_, rfl, v, d, rfl, hv, _, rfl, ?_⟩
    cases hv with
    | int i =>
      refine iteF ⟨_, rfl, _, rfl, _, _, rfl, rfl, _, rfl, ?_⟩
      by_cases c : i < l
      · rw [decide_eq_true c]
        have e : okN l (.int i) = false := by
          show decide (l ≤ i) = false
          simp [c]
        exact iteT ⟨_, rfl, fun dd nd => (q2 e).at (Same.refl _) nd⟩
      · rw [decide_eq_false c]
        have e : okN l (.int i) = true := by
          show decide (l ≤ i) = true
          simp
          omega
        exact iteF ⟨_, rfl, q1 e⟩
    | non => exact iteT ⟨_, rfl, fun dd nd => (q2 rfl).at (Same.refl _) nd⟩
    | bl b => exact iteT ⟨_, rfl, fun dd nd => (q2 rfl).at (Same.refl _) nd⟩
    | str b => exact iteT ⟨_, rfl, fun dd nd => (q2 rfl).at (Same.refl _) nd⟩
    | lst e h => exact iteT ⟨_, rfl, fun dd nd => (q2 rfl).at (Same.refl _) nd⟩
    | tup e h => exact iteT ⟨_, rfl, fun dd nd => (q2 rfl).at (Same.refl _) nd⟩
theorem th_int {n : Int} {H : Hp} {v : V} {d : PyData} (h : Dt H v d) (t : isTh n d = true) : ∃ i, v = .int i ∧ d = .int i ∧ 0 ≤ i ∧ i < n := by
  cases h with
  | int i =>
    have z : 0 ≤ i ∧ i < n := of_decide_eq_true t
    exact ⟨i, rfl, rfl, z⟩
  | non => cases t
  | bl b => cases t
  | str b => cases t
  | lst e h => cases t
  | tup e h => cases t
end
end K0
set_option Elab.async false
set_option linter.all false
set_option maxRecDepth 100000
set_option maxHeartbeats 2000000
/-! a set of tuples of ints that grows item by item -/
namespace K0
open PySem PySem.Spec PyProof.Rows L2
section
variable {X : Cx}
theorem cr_setT0 : CallR X (.type "set") (fun xs H Q => xs = [] ∧ ∀ p, H p = none → Q (.ref p) (upd H p (SetTO X.prog X.w p []))) := by
  intro pins s σ H xs us Q I r h
  obtain ⟨rfl, q⟩ := h
  cases r
  refine setR_new fun _ => ?_
  have get : (s.heap.push { cls := .type "set", dict := none, data := .set #[] 0 (.fresh 0 0 (!X.w.params.followText "set-order")) }).get? s.heap.objs.size = some { cls := .type "set", dict := none, data := .set #[] 0 (.fresh 0 0 (!X.w.params.followText "set-order")) } := Heap.get?_push_size _ rfl
  have R := setTR_fresh (P := X.prog) (w := X.w) get
  exact ⟨.ref _, _, I.laid (t' := s.toks) (fun b u e => Heap.get?_push_of_some _ e) (Nat.le_refl _) (setTO_new R.t0), rfl, q _ (I.hok.fresh (Nat.le_refl _))⟩
/-- what is asked ahead of found.add(t) -/
def rTAdd (K : PySem.W.Frag) (P : Program) (w : World) : V → List V → Hp → VK → Prop := fun x xs H Q => ∃ (a b : Addr) (k : List Int) (L : List (Addr × List Int)), x = V.ref a ∧ xs = [V.ref b] ∧ H a = some (SetTO P w a L) ∧
  (∀ p ∈ L, SqT K H p.1 (p.2.map V.int)) ∧ SqT K H b (k.map V.int) ∧ L.length + 1 < 64 ∧
  ∀ L', (k ∈ L.map (·.2) → L' = L) → (k ∉ L.map (·.2) → L'.Perm ((b, k) :: L)) → Q .non (upd H a (SetTO P w a L'))
theorem mt_tadd (hu : X.A.units + 64 < cLine) : MtR X "set.add" (rTAdd X.K X.prog X.w) := by
  intro pins s σ H x xs v us Q I rx rxs h
  obtain ⟨a, b, k, L, rfl, rfl, ha, hL, hb, few, q⟩ := h
  cases rx
  rw [Vals.ref1 rxs]
  have R0 : SetT0 X.prog X.w s.heap a L := (I.hok a _ ha).1
  obtain ⟨es, ep, t, R⟩ := R0.full fun p hp => I.isT (hL p hp)
  obtain ⟨o, ho, hex, hd⟩ := R.ob
  have tid : s.TypeIs (.ref a) "set" := ⟨o, ho, hex.1⟩
  refine wpAny_call_entry PySem.F.slot_set_add tid PySem.F.entry_set_add ?_ (PySem.F.args_set_add_2 _ _)
  unfold Builtin.«set.add» Builtin.Frozenset.oneOther
  simp only [List.isEmpty_nil, bind_assoc]
  unfold Builtin.Frozenset.addrOf setAdd
  refine wpAny_bind (wpAny_pure ?_)
  try dsimp only
  refine wpAny_bind (wpAny_pure ?_)
  try dsimp only
  refine wpAny_bind ?_
  refine wpAny_holding ?_
  have hx := I.isT hb
  have hin : ∀ B : Around, B.units ≤ X.A.units + 8 → B.units < cLine := fun B h => by omega
  refine wpAny_bind (wpAny_pyHash_tuple (ks := k) (hin _ ?_) hx ?_)
  · first | exact Nat.le_add_right _ 8 | (show X.A.units + 1 ≤ X.A.units + 8; omega)
  refine add_at (s := { s with toks := s.toks + (k.length + 1) }) R hx (hin _ ?_) few fun bb h' L' es' ep' t' hsb hS2 c1 c2 => ?_
  case _ => first | exact Nat.le_add_right _ 8 | (show X.A.units + 1 ≤ X.A.units + 8; omega)
  show wpAny _ _ (ret Value.none) _ _ _
  have he : ∃ u, h'.get? a = some u := by
    obtain ⟨o2, ho2, _⟩ := hS2.ob
    exact ⟨o2, ho2⟩
  exact wpAny_pure ⟨_, rfl, .non, _, I.write (e := a) (t' := s.toks + (k.length + 1)) (by rw [ha]; trivial) (.inl rfl) (fun b u hb hu => (hsb.2 b hb).trans hu) he (setTO_new hS2.t0), rfl, q L' c1 c2⟩
def tTAdd (K : PySem.W.Frag) (P : Program) (w : World) (to : TE) (t : TA) : TE := fun σ H Q => to σ H fun x H1 => (∃ a L, x = V.ref a ∧ H1 a = some (SetTO P w a L)) ∧ t σ H1 fun xs H2 => rTAdd K P w x xs H2 Q
variable {o e : Expr} {es : List Expr} {to : TE} {t : TA} {apos cpos : Pos}
theorem pe_tadd (hu : X.A.units + 64 < cLine) (ho : PE X o to) (ha : PA X (e :: es) t)
    (hbase : attributeBase o "add" X.env (eval o X.env) = eval o X.env := by rfl)
    (hfew : ((backTo cpos (starEach (e :: es) X.env)).all (fun x => !x.1) && (backToKw cpos (keywordEach [] X.env)).all (fun x => x.1.isSome) && decide ((e :: es).length + ([] : List Keyword).length + (if ([] : List Keyword).isEmpty then 0 else 1) < 30)) = true := by rfl)
    (hline : (apos.endLine == cpos.line) = true := by rfl) (hs : starEach (e :: es) X.env = (false, eval e X.env) :: starEach es X.env := by rfl) (hplain : (backTo cpos (starEach es X.env)).any (·.1) = false := by rfl) :
    PE X (.Call (.Attribute o "add" apos) (e :: es) [] cpos) (tTAdd X.K X.prog X.w to t) := by
  refine ⟨fun pins s σ H Q I h => ?_⟩
  refine wpAny_Call_method_late hbase hfew hline rfl (thn (ho.run pins s σ H _ I h) fun v s1 ⟨x, H1, I1, r1, ty, q1⟩ => ?_)
  obtain ⟨a, L, rfl, hka⟩ := ty
  obtain ⟨es', ep', t', ⟨ob, hob, hex, hdd⟩, _⟩ := SetT0.ex (I1.hok a _ hka).1
  cases r1
  refine ⟨"set", "set.add", PySem.F.plainAttrs_set, PySem.F.slot_set_add, PySem.F.type_set_add, ⟨ob, hob, hex.1⟩, (fun z hz => by cases hz; exact ⟨ob, hob, hex.2.1⟩), ?_⟩
  have hA := ha.run cpos pins s1 σ H1 _ I1 q1
  rw [hs] at hA ⊢
  refine Calls.callWith_builtin (by show (false || (backTo cpos (starEach es X.env)).any (·.1)) = false; rw [hplain]; rfl) (Calls.evalArgs_plain ?_)
  exact thn hA fun us s2 ⟨vs, H2, I2, r2, q2⟩ => mt_tadd hu pins s2 σ H2 (.ref a) vs (.ref a) us Q I2 rfl r2 q2
end
end K0
set_option Elab.async false
set_option linter.all false
set_option maxRecDepth 100000
set_option maxHeartbeats 2000000
namespace K0
open PySem PySem.Spec PyProof.Rows L2
/-! ### plain facts -/
theorem bor_nat (a b : Nat) : Builtin.bitOr (a : Int) (b : Int) = ((a ||| b : Nat) : Int) := by
  have h1 : ¬ 0 ≤ Builtin.bitNot (a : Int) := by unfold Builtin.bitNot; omega
  have h2 : ¬ 0 ≤ Builtin.bitNot (b : Int) := by unfold Builtin.bitNot; omega
  have n : ∀ c : Nat, Builtin.bitNot (Builtin.bitNot (c : Int)) = (c : Int) := fun c => by unfold Builtin.bitNot; omega
  unfold Builtin.bitOr
  rw [bitAnd_nn h1 h2, n, n, n, Int.toNat_natCast, Int.toNat_natCast]
theorem len_sub {α : Type} [DecidableEq α] : ∀ (l m : List α), l.Nodup → (∀ x ∈ l, x ∈ m) → l.length ≤ m.length
  | [], _, _, _ => Nat.zero_le _
  | a :: l, m, hn, hs => by
    have ha : a ∈ m := hs a List.mem_cons_self
    obtain ⟨hna, hnl⟩ := List.nodup_cons.mp hn
    have ih := len_sub l (m.erase a) hnl fun x hx => (List.mem_erase_of_ne (fun e => hna (by rw [← e]; exact hx))).mpr (hs x (List.mem_cons_of_mem _ hx))
    rw [List.length_erase_of_mem ha] at ih
    have := List.length_pos_of_mem ha
    rw [List.length_cons]
    omega
/-! ### pairs -/
abbrev Pr := Int × Int
/-- below, as tuples are -/
def plt (p q : Pr) : Prop := p.1 < q.1 ∨ (p.1 = q.1 ∧ p.2 < q.2)
theorem plt_irrefl {p : Pr} : ¬ plt p p := by unfold plt; omega
theorem plt_asymm {p q : Pr} (h : plt p q) : ¬ plt q p := by unfold plt at *; omega
theorem srt_unique : ∀ {l m : List Pr}, l.Pairwise plt → m.Pairwise plt → (∀ x, x ∈ l ↔ x ∈ m) → l = m
  | [], [], _, _, _ => rfl
  | [], b :: m, _, _, h => by cases (h b).mpr List.mem_cons_self
  | a :: l, [], _, _, h => by cases (h a).mp List.mem_cons_self
  | a :: l, b :: m, hl, hm, h => by
    obtain ⟨al, ll⟩ := List.pairwise_cons.mp hl
    obtain ⟨bm, mm⟩ := List.pairwise_cons.mp hm
    have e : a = b := by
      rcases List.mem_cons.mp ((h a).mp List.mem_cons_self) with e | e
      · exact e
      rcases List.mem_cons.mp ((h b).mpr List.mem_cons_self) with e2 | e2
      · exact e2.symm
      exact absurd (al b e2) (plt_asymm (bm a e))
    subst e
    rw [srt_unique ll mm fun x => ⟨fun hx => ?_, fun hx => ?_⟩]
    · rcases List.mem_cons.mp ((h x).mp (List.mem_cons_of_mem _ hx)) with e | e
      · rw [e] at hx
        exact absurd (al a hx) plt_irrefl
      · exact e
    · rcases List.mem_cons.mp ((h x).mpr (List.mem_cons_of_mem _ hx)) with e | e
      · rw [e] at hx
        exact absurd (bm a hx) plt_irrefl
      · exact e
/-- all pairs x < y < n stand among these -/
def code8 : List Pr := (List.range 16).flatMap fun (x : Nat) => ((List.range 16).filter fun (y : Nat) => decide (x < y)).map fun (y : Nat) => ((x : Int), (y : Int))
theorem code8_len : code8.length = 120 := by decide +kernel
theorem mem_code8 {p : Pr} (h : 0 ≤ p.1 ∧ p.1 < p.2 ∧ p.2 < 16) : p ∈ code8 := by
  obtain ⟨x, y⟩ := p
  obtain ⟨h1, h2, h3⟩ := h
  obtain ⟨a, rfl⟩ := Int.eq_ofNat_of_zero_le h1
  obtain ⟨b, rfl⟩ := Int.eq_ofNat_of_zero_le (show (0 : Int) ≤ y by omega)
  unfold code8
  refine List.mem_flatMap.mpr ⟨a, List.mem_range.mpr (by omega), List.mem_map.mpr ⟨b, List.mem_filter.mpr ⟨List.mem_range.mpr (by omega), decide_eq_true (by omega)⟩, rfl⟩⟩
/-- a row of clashes as a web holds it -/
structure Cl (n : Int) (q : List Pr) : Prop where
  srt : q.Pairwise plt
  rng : ∀ p ∈ q, 0 ≤ p.1 ∧ p.1 < p.2 ∧ p.2 < n
theorem pairwise_nodup {l : List Pr} (h : l.Pairwise plt) : l.Nodup := List.Pairwise.imp (R := plt) (S := fun a b => a ≠ b) (fun {a b} hab e => plt_irrefl (p := b) (by rw [e] at hab; exact hab)) h
theorem few28 {n : Int} {q : List Pr} (hn : n ≤ 16) (nd : q.Nodup) (rng : ∀ p ∈ q, 0 ≤ p.1 ∧ p.1 < p.2 ∧ p.2 < n) : q.length ≤ 120 := by
  rw [← code8_len]
  exact len_sub q code8 nd fun p hp => mem_code8 ⟨(rng p hp).1, (rng p hp).2.1, Int.lt_of_lt_of_le (rng p hp).2.2 hn⟩
theorem Cl.few {n : Int} {q : List Pr} (h : Cl n q) (hn : n ≤ 16) : q.length ≤ 120 := few28 hn (pairwise_nodup h.srt) h.rng
/-! ### what an entry of clashes is worth -/
def pairOf : PyData → Option (PyData × PyData)
  | .list [x, y] => some (x, y)
  | .tuple [x, y] => some (x, y)
  | _ => none
def entOf (n : Int) (d : PyData) : Except (PyData × PyData) Pr :=
  match pairOf d with
  | none => .error (.none, .none)
  | some (.int x, .int y) => if 0 ≤ x ∧ x < n ∧ 0 ≤ y ∧ y < n ∧ x ≠ y then .ok (min x y, max x y) else .error (.int x, .int y)
  | some (x, y) => .error (x, y)
/-- all entries, or the first bad one -/
def entsOf (n : Int) : List PyData → Except (PyData × PyData) (List Pr)
  | [] => .ok []
  | d :: r => match entOf n d with
    | .error e => .error e
    | .ok p => match entsOf n r with
      | .error e => .error e
      | .ok ps => .ok (p :: ps)
theorem entsOf_app {n : Int} : ∀ {ds es : List PyData} {ps : List Pr}, entsOf n ds = .ok ps → entsOf n (ds ++ es) = (match entsOf n es with | .error e => .error e | .ok qs => .ok (ps ++ qs))
  | [], es, ps, h => by
    cases h
    show entsOf n es = _
    cases entsOf n es <;> rfl
  | d :: r, es, ps, h => by
    rw [entsOf] at h
    rw [List.cons_append, entsOf]
    cases e : entOf n d with
    | error x => rw [e] at h; cases h
    | ok p =>
      rw [e] at h
      dsimp only at h ⊢
      cases e2 : entsOf n r with
      | error x => rw [e2] at h; cases h
      | ok qs =>
        rw [e2] at h
        cases h
        rw [entsOf_app e2]
        cases entsOf n es <;> rfl
theorem entOf_rng {n : Int} {d : PyData} {p : Pr} (h : entOf n d = .ok p) : 0 ≤ p.1 ∧ p.1 < p.2 ∧ p.2 < n := by
  unfold entOf at h
  split at h
  · cases h
  · split at h
    · cases h
      dsimp only
      omega
    · cases h
  · cases h
theorem pairOf_is (d : PyData) : isPairD d = (pairOf d).isSome := by
  unfold isPairD pairOf
  cases d with
  | list xs =>
    match xs with
    | [] => rfl
    | [_] => rfl
    | [_, _] => rfl
    | _ :: _ :: _ :: r => simp
  | tuple xs =>
    match xs with
    | [] => rfl
    | [_] => rfl
    | [_, _] => rfl
    | _ :: _ :: _ :: r => simp
  | _ => rfl
end K0
set_option Elab.async false
set_option linter.all false
set_option maxRecDepth 100000
set_option maxHeartbeats 2000000
namespace K0
open PySem PySem.Spec PyProof.Rows L2
abbrev s_cc : Stmt := top 40
theorem pi_or {X : Cx} {tg it : Expr} {w1 w2 : TI} (h1 : PI X tg it w1) (h2 : PI X tg it w2) : PI X tg it (fun σ H R => w1 σ H R ∨ w2 σ H R) := ⟨fun pins s σ H R I h => h.elim (h1.run pins s σ H R I) (h2.run pins s σ H R I)⟩
theorem pg_or {X : Cx} {tg : Expr} {w1 w2 : TG} (h1 : PG X tg w1) (h2 : PG X tg w2) : PG X tg (fun v σ H Q => w1 v σ H Q ∨ w2 v σ H Q) := ⟨fun pins s σ H v u Q I r h => h.elim (h1.run pins s σ H v u Q I r) (h2.run pins s σ H v u Q I r)⟩
/-- a list or tuple of data, or the () that the program was loaded with -/
inductive Sq (K : PySem.W.Frag) (H : Hp) (a : Addr) (ds : List PyData) : Prop where
  | lst {xs : List V} (e : H a = some (.lst xs)) (h : DtAll H xs ds)
  | tup {xs : List V} (e : H a = some (.tup xs)) (h : DtAll H xs ds)
  | kon (e : ∀ H' : Hp, SqT K H' a []) (z : ds = [])
  | frz {o : Obj} {xs : List V} (e : H a = some (.frz o (.tup xs))) (h : DtAll H xs ds)
theorem Sq.mono {K : PySem.W.Frag} {H H' : Hp} (s : Same H H') {a : Addr} {ds : List PyData} : Sq K H a ds → Sq K H' a ds
  | .lst e h => .lst (s _ _ e) (h.mono s)
  | .tup e h => .tup (s _ _ e) (h.mono s)
  | .kon e z => .kon e z
  | .frz e h => .frz (s _ _ e) (h.mono s)
theorem SqT.frz {K : PySem.W.Frag} {H : Hp} {a : Addr} {o : Obj} {xs : List V} (e : H a = some (.frz o (.tup xs))) : SqT K H a xs := .inl (.inr ⟨o, e⟩)
def prD (p : Pr) : PyData := .tuple [.int p.1, .int p.2]
theorem dt_pr {H : Hp} {t : Addr} {p : Pr} (h : H t = some (.tup [.int p.1, .int p.2])) : Dt H (.ref t) (prD p) := .tup h (.cons (.int _) (.cons (.int _) .nil))
theorem dtAll_prs {H : Hp} : ∀ {l : List (Addr × Pr)}, (∀ z ∈ l, H z.1 = some (.tup [.int z.2.1, .int z.2.2])) → DtAll H (l.map fun z => V.ref z.1) (l.map fun z => prD z.2)
  | [], _ => .nil
  | z :: r, h => .cons (dt_pr (h z List.mem_cons_self)) (dtAll_prs fun y hy => h y (List.mem_cons_of_mem _ hy))
section
variable {P : Program} {w : World} {K : PySem.W.Frag} {mg : Str → Option Value} {base : Heap} {f : Addr} {fd : FuncData}
structure Blt2 (mg : Str → Option Value) : Prop extends Blt mg where
  set : mg "set" = none
  min : mg "min" = none
  max : mg "max" = none
  sorted : mg "sorted" = none
  range : mg "range" = none
  enum : mg "enumerate" = none
  repr : mg "repr" = none
  iter : mg "iter" = none
/-- a new tuple of the pairs q -/
def NewQ (q : List Pr) (H : Hp) (Q : VK) : Prop := ∀ H' a xs, Same H H' → H a = none → H' a = some (.tup xs) → (∃ l : List (Addr × Pr), xs = l.map (fun z => V.ref z.1) ∧ q = l.map (·.2) ∧ ∀ z ∈ l, H z.1 = none ∧ H' z.1 = some (.tup [.int z.2.1, .int z.2.2])) → Q (.ref a) H'
/-- checked_clashes: the clashes as a web holds them, or BadWeb of the first bad entry -/
def spCC (K : PySem.W.Frag) (C : Addr) : Sp := fun vs H Q E => ∃ n a ds, vs = [.int n, .ref a] ∧ n ≤ 16 ∧ ds.length ≤ 62 ∧ Sq K H a ds ∧
  (∀ ps, entsOf n ds = .ok ps → ∀ q, Cl n q → (∀ p, p ∈ q ↔ p ∈ ps) → NewQ q H Q) ∧
  (∀ x y, entsOf n ds = .error (x, y) → ∀ H' d vx vy, Same H H' → Dt H' vx x → Dt H' vy y → H' d = some (.xd [("y", vy), ("x", vx)]) → E (.ref C) (some d) H')
/-- behind some items: the set at s holds the pairs ps, its tuples at their places -/
structure Sofar (P : Program) (w : World) (H0 H : Hp) (s : Addr) (n : Int) (ps : List Pr) : Prop where
  same : Same H0 H
  new : H0 s = none
  set : ∃ L : List (Addr × List Int), H s = some (SetTO P w s L) ∧ (L.map (·.2)).Nodup ∧ (∀ z ∈ L, H0 z.1 = none ∧ H z.1 = some (.tup (z.2.map V.int)) ∧ ∃ p ∈ ps, z.2 = [p.1, p.2]) ∧ ∀ p ∈ ps, ([p.1, p.2] : List Int) ∈ L.map (·.2)
theorem pair_at {H : Hp} {v : V} {d dx dy : PyData} (h : Dt H v d) (e : pairOf d = some (dx, dy)) : ∃ a vx vy, v = .ref a ∧ (H a = some (.tup [vx, vy]) ∨ H a = some (.lst [vx, vy])) ∧ Dt H vx dx ∧ Dt H vy dy := by
  cases h with
  | @lst a xs ds ea h =>
    match ds, h, e with
    | [_, _], .cons h1 (.cons h2 .nil), e =>
      cases e
      exact ⟨a, _, _, rfl, .inr ea, h1, h2⟩
  | @tup a xs ds ea h =>
    match ds, h, e with
    | [_, _], .cons h1 (.cons h2 .nil), e =>
      cases e
      exact ⟨a, _, _, rfl, .inl ea, h1, h2⟩
  | non => cases e
  | bl b => cases e
  | int i => cases e
  | str x => cases e
theorem Sofar.start {H : Hp} {s : Addr} {n : Int} (ns : H s = none) : Sofar P w H (upd H s (SetTO P w s [])) s n [] :=
  ⟨same_upd ns, ns, [], upd_same, List.nodup_nil, fun z hz => (by cases hz), fun p hp => (by cases hp)⟩
theorem Sofar.far {H0 H H1 : Hp} {s : Addr} {n : Int} {ps : List Pr} (h : Sofar P w H0 H s n ps) (e : Same H H1) : Sofar P w H0 H1 s n ps := by
  obtain ⟨L, h1, h2, h3, h4⟩ := h.set
  exact ⟨h.same.trans e, h.new, L, e _ _ h1, h2, fun z hz => ⟨(h3 z hz).1, e _ _ (h3 z hz).2.1, (h3 z hz).2.2⟩, h4⟩
/-- the set holds few -/
theorem Sofar.few {H0 H : Hp} {s : Addr} {n : Int} {ps : List Pr} {L : List (Addr × List Int)} (nd : (L.map (·.2)).Nodup) (hL : ∀ z ∈ L, ∃ p ∈ ps, z.2 = [p.1, p.2]) : L.length ≤ ps.length := by
  let g : Addr × List Int → Pr := fun z => (z.2.getD 0 0, z.2.getD 1 0)
  have hg : ∀ z ∈ L, g z ∈ ps ∧ z.2 = [(g z).1, (g z).2] := fun z hz => by
    obtain ⟨p, hp, e⟩ := hL z hz
    have eg : g z = p := by
      show (z.2.getD 0 0, z.2.getD 1 0) = p
      rw [e]
      rfl
    rw [eg]
    exact ⟨hp, e⟩
  have nd2 : (L.map g).Nodup := by
    refine List.pairwise_map.mpr ?_
    refine List.Pairwise.imp_of_mem (fun {a b} ha hb hne e => ?_) (List.pairwise_map.mp nd)
    refine hne ?_
    rw [(hg a ha).2, (hg b hb).2, e]
  have := len_sub (L.map g) ps nd2 fun p hp => by
    obtain ⟨z, hz, e⟩ := List.mem_map.mp hp
    rw [← e]
    exact (hg z hz).1
  rw [List.length_map] at this
  exact this
theorem Sofar.add {H0 H : Hp} {s b : Addr} {n : Int} {ps : List Pr} {p : Pr} {L L' : List (Addr × List Int)} (hS : H0 s = none) (sm : Same H0 H) (h1 : H s = some (SetTO P w s L)) (h2 : (L.map (·.2)).Nodup)
    (h3 : ∀ z ∈ L, H0 z.1 = none ∧ H z.1 = some (.tup (z.2.map V.int)) ∧ ∃ p ∈ ps, z.2 = [p.1, p.2]) (h4 : ∀ p ∈ ps, ([p.1, p.2] : List Int) ∈ L.map (·.2)) (hb : H0 b = none) (hbt : H b = some (.tup [.int p.1, .int p.2]))
    (c1 : ([p.1, p.2] : List Int) ∈ L.map (·.2) → L' = L) (c2 : ([p.1, p.2] : List Int) ∉ L.map (·.2) → L'.Perm ((b, [p.1, p.2]) :: L)) : Sofar P w H0 (upd H s (SetTO P w s L')) s n (ps ++ [p]) := by
  have sm2 : Same H0 (upd H s (SetTO P w s L')) := fun c o e => by
    rw [upd_ne (ne_of_none e hS)]
    exact sm c o e
  have tup_ne : ∀ {c : Addr} {xs : List V}, H c = some (.tup xs) → c ≠ s := fun {c xs} e z => by
    rw [z, h1] at e
    cases e
  by_cases m : ([p.1, p.2] : List Int) ∈ L.map (·.2)
  · have e := c1 m
    subst e
    refine ⟨sm2, hS, _, upd_same, h2, fun z hz => ?_, fun q hq => ?_⟩
    · obtain ⟨a1, a2, q, hq, a3⟩ := h3 z hz
      exact ⟨a1, by rw [upd_ne (tup_ne a2)]; exact a2, q, List.mem_append_left _ hq, a3⟩
    · rcases List.mem_append.mp hq with hq | hq
      · exact h4 q hq
      · rw [List.mem_singleton.mp hq]
        exact m
  · have pm := c2 m
    refine ⟨sm2, hS, _, upd_same, ?_, fun z hz => ?_, fun q hq => ?_⟩
    · refine (pm.map (·.2)).nodup_iff.mpr ?_
      rw [List.map_cons]
      exact List.nodup_cons.mpr ⟨m, h2⟩
    · rcases List.mem_cons.mp (pm.mem_iff.mp hz) with e | hz
      · rw [e]
        exact ⟨hb, by rw [upd_ne (tup_ne hbt)]; exact hbt, p, List.mem_append_right _ (List.mem_singleton.mpr rfl), rfl⟩
      · obtain ⟨a1, a2, q, hq, a3⟩ := h3 z hz
        exact ⟨a1, by rw [upd_ne (tup_ne a2)]; exact a2, q, List.mem_append_left _ hq, a3⟩
    · rw [(pm.map (·.2)).mem_iff, List.map_cons]
      rcases List.mem_append.mp hq with hq | hq
      · exact List.mem_cons_of_mem _ (h4 q hq)
      · rw [List.mem_singleton.mp hq]
        exact List.mem_cons_self
/-- what is sorted at the end -/
theorem Sofar.fin {n : Int} {ps : List Pr} {L L' : List (Addr × List Int)} (hn : n ≤ 16) (rng : ∀ p ∈ ps, 0 ≤ p.1 ∧ p.1 < p.2 ∧ p.2 < n) (hL : ∀ z ∈ L, ∃ p ∈ ps, z.2 = [p.1, p.2]) (all : ∀ p ∈ ps, ([p.1, p.2] : List Int) ∈ L.map (·.2)) (pm : L'.Perm L)
    (nd : (L'.map (·.2)).Nodup) (ord : L'.Pairwise fun q r => TS.code 64 q.2 ≤ TS.code 64 r.2) :
    ∃ l : List (Addr × Pr), L' = l.map (fun z => (z.1, [z.2.1, z.2.2])) ∧ Cl n (l.map (·.2)) ∧ ∀ p, p ∈ l.map (·.2) ↔ p ∈ ps := by
  let g : Addr × List Int → Addr × Pr := fun z => (z.1, z.2.getD 0 0, z.2.getD 1 0)
  have hg : ∀ z ∈ L', (g z).2 ∈ ps ∧ z = ((g z).1, [(g z).2.1, (g z).2.2]) := fun z hz => by
    obtain ⟨p, hp, e⟩ := hL z (pm.mem_iff.mp hz)
    have eg : (g z).2 = p := by
      show (z.2.getD 0 0, z.2.getD 1 0) = p
      rw [e]
      rfl
    refine ⟨by rw [eg]; exact hp, ?_⟩
    rw [eg, ← e]
  have mem : ∀ p, p ∈ (L'.map g).map (·.2) ↔ p ∈ ps := fun p => by
    rw [List.map_map]
    constructor
    · intro hp
      obtain ⟨z, hz, e⟩ := List.mem_map.mp hp
      rw [← e]
      exact (hg z hz).1
    · intro hp
      obtain ⟨z, hz, e⟩ := List.mem_map.mp (all p hp)
      refine List.mem_map.mpr ⟨z, pm.mem_iff.mpr hz, ?_⟩
      show (z.2.getD 0 0, z.2.getD 1 0) = p
      rw [e]
      rfl
  refine ⟨L'.map g, ?_, ⟨?_, fun p hp => rng p ((mem p).mp hp)⟩, mem⟩
  · rw [List.map_map]
    refine (List.map_congr_left fun z hz => ?_).trans (List.map_id _) |>.symm
    exact ((hg z hz).2).symm
  · rw [List.map_map]
    refine List.pairwise_map.mpr ?_
    have both := ord.and (List.pairwise_map.mp nd)
    refine List.Pairwise.imp_of_mem (fun {a b} ha hb hab => ?_) both
    obtain ⟨h1, h2⟩ := hab
    obtain ⟨ra, ea⟩ := hg a ha
    obtain ⟨rb, eb⟩ := hg b hb
    have r1 := rng _ ra
    have r2 := rng _ rb
    rw [ea, eb] at h1 h2
    have z := pair_lt h1 h2 (by omega) (by omega) (by omega) (by omega)
    exact z
end
end K0
set_option Elab.async false
set_option linter.all false
set_option maxRecDepth 100000
set_option maxHeartbeats 4000000
namespace K0
open PySem PySem.Spec PyProof.Rows L2
section
variable {P : Program} {w : World} {K : PySem.W.Frag} {mg : Str → Option Value} {base : Heap} {f : Addr} {fd : FuncData}
theorem sc_cc : FnScope ["many", "clashes", "pairs", "pair", "x", "y"] ["many", "clashes"] (defScope s_cc) := ⟨rfl, rfl, rfl, by decide +kernel, rfl, by decide +kernel, by decide +kernel⟩
theorem take_at {α : Type} {l : List α} {i : Nat} {x : α} (h : l[i]? = some x) : l.take (i + 1) = l.take i ++ [x] := by
  rw [List.take_succ, h]
  rfl
theorem drop_at {α : Type} {l : List α} {i : Nat} {x : α} (h : l[i]? = some x) : l = l.take i ++ x :: l.drop (i + 1) := by
  obtain ⟨hi, e⟩ := List.getElem?_eq_some_iff.mp h
  rw [← e, ← List.drop_eq_getElem_cons hi, List.take_append_drop]
theorem ents_bad {n : Int} {ds : List PyData} {i : Nat} {d : PyData} {ps : List Pr} {x y : PyData} (h1 : entsOf n (ds.take i) = .ok ps) (hd : ds[i]? = some d) (e : entOf n d = .error (x, y)) : entsOf n ds = .error (x, y) := by
  rw [drop_at hd, entsOf_app h1, entsOf, e]
theorem ents_good {n : Int} {ds : List PyData} {i : Nat} {d : PyData} {ps : List Pr} {p : Pr} (h1 : entsOf n (ds.take i) = .ok ps) (hd : ds[i]? = some d) (e : entOf n d = .ok p) : entsOf n (ds.take (i + 1)) = .ok (ps ++ [p]) := by
  rw [take_at hd, entsOf_app h1, entsOf, e]
  rfl
theorem ents_rng {n : Int} : ∀ {ds : List PyData} {ps : List Pr}, entsOf n ds = .ok ps → ∀ p ∈ ps, 0 ≤ p.1 ∧ p.1 < p.2 ∧ p.2 < n
  | [], ps, h => by
    cases h
    exact fun p hp => by cases hp
  | d :: r, ps, h => by
    rw [entsOf] at h
    cases e : entOf n d with
    | error x => rw [e] at h; cases h
    | ok q =>
      rw [e] at h
      dsimp only at h
      cases e2 : entsOf n r with
      | error x => rw [e2] at h; cases h
      | ok qs =>
        rw [e2] at h
        cases h
        intro p hp
        rcases List.mem_cons.mp hp with hp | hp
        · rw [hp]; exact entOf_rng e
        · exact ents_rng e2 p hp
/-- a loop over a list or tuple of data that the body leaves as it is -/
theorem ents_len {n : Int} : ∀ {ds : List PyData} {ps : List Pr}, entsOf n ds = .ok ps → ps.length = ds.length
  | [], ps, h => by
    cases h
    rfl
  | d :: r, ps, h => by
    rw [entsOf] at h
    cases e : entOf n d with
    | error x => rw [e] at h; cases h
    | ok q =>
      rw [e] at h
      dsimp only at h
      cases e2 : entsOf n r with
      | error x => rw [e2] at h; cases h
      | ok qs =>
        rw [e2] at h
        cases h
        rw [List.length_cons, List.length_cons, ents_len e2]
theorem tfor_sq {K : PySem.W.Frag} {i : Nat} {a : Addr} {ds : List PyData} {g : TG} {tb : TS} {D : Ends} {σ : L2.St} {H H0 : Hp} (hv : σ[i]? = some (some (.ref a))) (h : Sq K H0 a ds) (Pv : Nat → L2.St → Hp → Prop) (h0 : Pv 0 σ H)
    (hl : ∀ j σ H', Pv j σ H' → ∀ o, H0 a = some o → H' a = some o)
    (hs : ∀ j v d σ H', ds[j]? = some d → Dt H0 v d → Pv j σ H' → g v σ H' fun σ2 H2 => tb { D with nx := Pv (j + 1), ct := Pv (j + 1), bk := D.nx } σ2 H2) (hd : ∀ σ H', Pv ds.length σ H' → D.nx σ H') :
    tFor (fun σ H R => iList K (tVar i) σ H R ∨ iTup K (tVar i) σ H R) g tb D σ H := by
  cases h with
  | @lst xs e h =>
    refine .inl ⟨_, hv, a, rfl, ⟨xs, SqL.of (hl 0 _ _ h0 _ e)⟩, for_list (K := K) (a := a) (xs := xs) Pv h0 (fun j σ H' _ p => SqL.of (hl j σ H' p _ e)) (fun j v σ H' hj p => ?_) (fun σ H' p => ?_)⟩
    · obtain ⟨d, hd, hdt⟩ := h.at hj
      exact hs j v d σ H' hd hdt p
    · rw [h.len] at p
      exact hd σ H' p
  | @tup xs e h =>
    refine .inr ⟨_, hv, a, rfl, ⟨xs, SqT.of (hl 0 _ _ h0 _ e)⟩, for_tup (K := K) (a := a) (xs := xs) Pv h0 (fun j σ H' _ p => SqT.of (hl j σ H' p _ e)) (fun j v σ H' hj p => ?_) (fun σ H' p => ?_)⟩
    · obtain ⟨d, hd, hdt⟩ := h.at hj
      exact hs j v d σ H' hd hdt p
    · rw [h.len] at p
      exact hd σ H' p
  | @frz o xs e h =>
    refine .inr ⟨_, hv, a, rfl, ⟨xs, SqT.frz (hl 0 _ _ h0 _ e)⟩, for_tup (K := K) (a := a) (xs := xs) Pv h0 (fun j σ H' _ p => SqT.frz (hl j σ H' p _ e)) (fun j v σ H' hj p => ?_) (fun σ H' p => ?_)⟩
    · obtain ⟨d, hd, hdt⟩ := h.at hj
      exact hs j v d σ H' hd hdt p
    · rw [h.len] at p
      exact hd σ H' p
  | kon e z =>
    refine .inr ⟨_, hv, a, rfl, ⟨[], e _⟩, for_tup (K := K) (a := a) (xs := []) Pv h0 (fun j σ H' _ p => e _) (fun j v σ H' hj p => ?_) (fun σ H' p => ?_)⟩
    · cases hj
    · rw [z] at hd
      exact hd σ H' p
theorem entOf_ok {n : Int} {d : PyData} {p : Pr} (h : entOf n d = .ok p) : ∃ i k, pairOf d = some (.int i, .int k) ∧ (0 ≤ i ∧ i < n) ∧ (0 ≤ k ∧ k < n) ∧ i ≠ k := by
  unfold entOf at h
  split at h
  · cases h
  · rename_i x y e
    split at h
    · rename_i c
      exact ⟨x, y, e, ⟨c.1, c.2.1⟩, ⟨c.2.2.1, c.2.2.2.1⟩, c.2.2.2.2⟩
    · cases h
  · cases h
theorem entOf_err {n : Int} {d x y : PyData} (e : pairOf d = some (x, y)) (no : ∀ p, entOf n d ≠ .ok p) : entOf n d = .error (x, y) := by
  cases q : entOf n d with
  | ok p => exact absurd q (no p)
  | error z =>
    unfold entOf at q
    rw [e] at q
    split at q
    · rename_i w; cases w
    · rename_i w
      cases w
      split at q
      · cases q
      · exact q.symm
    · rename_i w
      cases w
      exact q.symm
theorem min2 (x y : Int) : (if y < x then y else x) = min x y := by omega
theorem max2 (x y : Int) : (if y > x then y else x) = max x y := by omega
theorem ok_cc {C : Addr} (F : Fun K "checked_clashes" "checked_clashes" s_cc f fd) (B : Blt2 mg) (IP : Df P w K mg base "is_pair" 1 ["value"] spPair) (TH : Df P w K mg base "is_thing" 2 ["many", "value"] spTh)
    (T : Er P w K mg base "BadWeb" C ["x", "y"] ["self", "x", "y"] (spE2 C "x" "y")) : FnOk P w K mg base (L2.CX P w) 3 f fd ["many", "clashes"] (spCC K C) := by
  refine F.okX sc_cc (fun vs H Q E h => ?_) (fun cdv A outer s H vs Q E hr h => ?_)
  · obtain ⟨n, a, ds, rfl, _⟩ := h
    rfl
  · obtain ⟨n, a, ds, rfl, hn, h62, hs, kq, ke⟩ := h
    have hr1 : Room 1 _ := hr.mono (by decide)
    have hu := hr.units
    have nd := sc_cc.nd
    refine ⟨_, pss_cons (ps_set (i := 2) nd rfl (.inl rfl) (pe_callTy0 cr_setT0 (by rfl) B.set (by decide +kernel)))
      (pss_cons (ps_for (passes_of rfl) rfl (pi_or (pi_list (pv 1)) (pi_tup (pv 1))) (pg_name (i := 3) nd rfl (.inl rfl))
        (pss_cons (ps_if (pt_not (pt_val (pe_df IP hr1 (by rfl) passUp (pa_cons (pv 3) pa_nil)))) (pss_one (ps_rz2 rfl (takes_of rfl rfl rfl rfl) T hr (by rfl) pe_non pe_non (mono_c .non) (mono_c .non))) pss_nil)
        (pss_cons (ps_asg (pv 3) (pg_or (pg_tup rfl (pgs_cons (pg_name (i := 4) nd rfl (.inl rfl)) (pgs_cons (pg_name (i := 5) nd rfl (.inl rfl)) pgs_nil))) (pg_unl rfl (pgs_cons (pg_name (i := 4) nd rfl (.inl rfl)) (pgs_cons (pg_name (i := 5) nd rfl (.inl rfl)) pgs_nil)))))
        (pss_cons (ps_if (PW.pt (pw_or (pt_not (pt_val (pe_df TH hr (by rfl) passUp (pa_cons (pv 0) (pa_cons (pv 4) pa_nil))))) (pw_or (pt_not (pt_val (pe_df TH hr (by rfl) passUp (pa_cons (pv 0) (pa_cons (pv 5) pa_nil))))) (pw_or1 (pt_cmpR op_eq (pv 4) (pv 5) (nomark _))))))
            (pss_one (ps_rz2 rfl (takes_of rfl rfl rfl rfl) T hr (by rfl) (pv 4) (pv 5) (mono_var 4) (mono_var 5))) pss_nil)
        (pss_one (ps_expr (pe_tadd hu (pv 2) (pa_cons (pe_tup (pa_cons (pe_callB (call_min2 rfl) (by rfl) B.min (by decide +kernel) (pa_cons (pv 4) (pa_cons (pv 5) pa_nil))) (pa_cons (pe_callB (call_max2 rfl) (by rfl) B.max (by decide +kernel) (pa_cons (pv 4) (pa_cons (pv 5) pa_nil))) pa_nil))) pa_nil))))))))
      (pss_one (ps_ret (pe_callTy call_tuple_of (by rfl) B.tuple (by decide +kernel) (pa_cons (pe_callB (cr_sortedT rfl) (by rfl) B.sorted (by decide +kernel) (pa_cons (pv 2) pa_nil)) pa_nil))))), ?_⟩
    refine ⟨rfl, fun s0 ns => ?_⟩
    -- the loop's word
    let Pv : Nat → L2.St → Hp → Prop := fun i σ H' => ∃ o3 o4 o5 ps, σ = [some (.int n), some (.ref a), some (.ref s0), o3, o4, o5] ∧ entsOf n (ds.take i) = .ok ps ∧ Sofar P w H H' s0 n ps
    have h0 : Pv 0 [some (.int n), some (.ref a), some (.ref s0), none, none, none] (upd H s0 (SetTO P w s0 [])) := ⟨none, none, none, [], rfl, rfl, Sofar.start ns⟩
    have sm0 : Same H (upd H s0 (SetTO P w s0 [])) := same_upd ns
    refine tfor_sq rfl hs Pv h0 (fun j σ H' p o e => ?_) (fun j v d σ H' hj hv p => ?_) (fun σ H' p => ?_)
    · obtain ⟨_, _, _, ps, _, _, S⟩ := p
      exact S.same _ _ e
    · obtain ⟨o3, o4, o5, ps, rfl, hps, S⟩ := p
      have hvH : Dt H' v d := hv.mono S.same
      refine ⟨_, rfl, v, d, rfl, hvH, fun H1 s1 => ⟨_, rfl, ?_⟩⟩
      cases ep : pairOf d with
      | none =>
        rw [pairOf_is, ep]
        refine iteT fun dd nd' => ?_
        have eb : entOf n d = .error (.none, .none) := by unfold entOf; rw [ep]
        exact ke .none .none (ents_bad hps hj eb) _ dd .non .non ((S.same.trans s1).trans (same_upd nd')) .non .non upd_same
      | some xy =>
        obtain ⟨dx, dy⟩ := xy
        rw [pairOf_is, ep]
        refine iteF ?_
        have S1 := S.far s1
        obtain ⟨b, vx, vy, rfl, hb, hx, hy⟩ := pair_at (hvH.mono s1) ep
        refine ⟨_, rfl, ?_⟩
        have un : ∀ (Q : L2.St → Hp → Prop), Q [some (.int n), some (.ref a), some (.ref s0), some (.ref b), some vx, some vy] H1 → (gTup K 2 (gCons (gName 4) (gCons (gName 5) gNil)) (.ref b) [some (.int n), some (.ref a), some (.ref s0), some (.ref b), o4, o5] H1 Q ∨ gUnl K 2 (gCons (gName 4) (gCons (gName 5) gNil)) (.ref b) [some (.int n), some (.ref a), some (.ref s0), some (.ref b), o4, o5] H1 Q) := fun Q q => by
          rcases hb with hb | hb
          · exact .inl ⟨b, _, rfl, SqT.of hb, rfl, vx, _, rfl, vy, _, rfl, rfl, q⟩
          · exact .inr ⟨b, _, rfl, SqL.of hb, rfl, vx, _, rfl, vy, _, rfl, rfl, q⟩
        refine un _ ?_
        -- the first is a thing?
        have bad : (∀ p, entOf n d ≠ .ok p) → ∀ H2 dd, Same H1 H2 → H2 dd = none → E (.ref C) (some dd) (upd H2 dd (.xd [("y", vy), ("x", vx)])) := fun no H2 dd s2 nd' => by
          have eb := entOf_err ep no
          have s3 := s2.trans (same_upd (o := .xd [("y", vy), ("x", vx)]) nd')
          exact ke dx dy (ents_bad hps hj eb) _ dd vx vy (S1.same.trans s3) (hx.mono s3) (hy.mono s3) upd_same
        refine ⟨_, rfl, _, rfl, n, vx, dx, rfl, hx, fun H2 s2 => ⟨_, rfl, ?_⟩⟩
        cases tx : isTh n dx with
        | false =>
          refine iteT ⟨_, rfl, _, rfl, fun dd nd' => bad (fun p e => ?_) _ dd s2 nd'⟩
          obtain ⟨i, k, e1, c1, c2, c3⟩ := entOf_ok e
          rw [ep] at e1
          cases e1
          rw [show isTh n (.int i) = true from decide_eq_true c1] at tx
          cases tx
        | true =>
          obtain ⟨i, rfl, rfl, hi⟩ := th_int hx tx
          refine iteF ⟨_, rfl, _, rfl, n, vy, dy, rfl, hy.mono s2, fun H3 s3 => ⟨_, rfl, ?_⟩⟩
          have s23 := s2.trans s3
          cases ty : isTh n dy with
          | false =>
            refine iteT ⟨_, rfl, _, rfl, fun dd nd' => bad (fun p e => ?_) _ dd s23 nd'⟩
            obtain ⟨i', k, e1, c1, c2, c3⟩ := entOf_ok e
            rw [ep] at e1
            cases e1
            rw [show isTh n (.int k) = true from decide_eq_true c2] at ty
            cases ty
          | true =>
            obtain ⟨k, rfl, rfl, hk⟩ := th_int hy ty
            refine iteF ⟨_, rfl, _, rfl, rfl, _, rfl, ?_⟩
            rw [dec_int]
            cases eq : (i == k) with
            | true =>
              refine iteT ⟨_, rfl, _, rfl, fun dd nd' => bad (fun p e => ?_) _ dd s23 nd'⟩
              obtain ⟨i', k', e1, c1, c2, c3⟩ := entOf_ok e
              rw [ep] at e1
              cases e1
              exact c3 (beq_iff_eq.mp eq)
            | false =>
              have ne : i ≠ k := fun z => by rw [z] at eq; simp at eq
              have eo : entOf n d = .ok (min i k, max i k) := by
                unfold entOf
                rw [ep]
                dsimp only
                rw [if_pos ⟨hi.1, hi.2, hk.1, hk.2, ne⟩]
              have S3 := S1.far s23
              obtain ⟨L, l1, l2, l3, l4⟩ := S3.set
              refine iteF ⟨_, rfl, ⟨s0, L, rfl, l1⟩, ?_⟩
              refine ⟨_, rfl, _, rfl, _, _, rfl, _, rfl, _, rfl, _, _, rfl, (by show 2 ≤ sizeLine; decide), fun t nt => ?_⟩
              rw [min2, max2]
              have s4 : Same H3 (upd H3 t (.tup [.int (min i k), .int (max i k)])) := same_upd nt
              have rng := ents_rng hps
              have few := Sofar.few (H0 := H) (H := H3) (s := s0) (n := n) l2 (fun z hz => (l3 z hz).2.2)
              have elen := ents_len hps
              rw [List.length_take] at elen
              refine ⟨s0, t, [min i k, max i k], L, rfl, rfl, s4 _ _ l1, fun z hz => SqT.of (s4 _ _ (l3 z hz).2.1), SqT.of upd_same, by omega, fun L' c1 c2 => ?_⟩
              refine ⟨_, _, _, ps ++ [(min i k, max i k)], rfl, ents_good hps hj eo, ?_⟩
              exact Sofar.add (p := (min i k, max i k)) S3.new (S3.same.trans s4) (s4 _ _ l1) l2 (fun z hz => ⟨(l3 z hz).1, s4 _ _ (l3 z hz).2.1, (l3 z hz).2.2⟩) l4 ((S3.same).free nt) upd_same c1 c2
    · obtain ⟨o3, o4, o5, ps, rfl, hps, S⟩ := p
      rw [List.take_length] at hps
      obtain ⟨L, l1, l2, l3, l4⟩ := S.set
      have rng := ents_rng hps
      refine ⟨_, rfl, s0, L, 2, 64, rfl, l1, fun z hz => SqT.of (l3 z hz).2.1, by decide, fun z hz => ?_, fun L' p pm nd' _ ord np => ?_⟩
      · obtain ⟨p, hp, e⟩ := (l3 z hz).2.2
        have := rng p hp
        rw [e]
        refine ⟨rfl, fun m hm => ?_⟩
        simp only [List.mem_cons, List.not_mem_nil, or_false] at hm
        omega
      · refine ⟨p, _, rfl, .inl ⟨SqL.of upd_same, fun l nl => ?_⟩⟩
        obtain ⟨ll, e1, hq, hmem⟩ := Sofar.fin hn rng (fun z hz => (l3 z hz).2.2) l4 pm nd' ord
        have s5 : Same H' (upd H' p (.lst (L'.map fun q => V.ref q.1))) := same_upd np
        have s6 := s5.trans (same_upd (o := .tup (L'.map fun q => V.ref q.1)) nl)
        refine kq ps hps _ hq hmem _ l (L'.map fun q => V.ref q.1) (S.same.trans s6) ((S.same.trans s5).free nl) upd_same ⟨ll, ?_, rfl, fun z hz => ?_⟩
        · rw [e1, List.map_map]
          rfl
        · have hz' : (z.1, [z.2.1, z.2.2]) ∈ L := pm.mem_iff.mp (by rw [e1]; exact List.mem_map.mpr ⟨z, hz, rfl⟩)
          have := l3 _ hz'
          exact ⟨this.1, s6 _ _ this.2.1⟩
end
end K0
set_option Elab.async false
set_option linter.all false
set_option maxRecDepth 100000
set_option maxHeartbeats 4000000
namespace K0
open PySem PySem.Spec PyProof.Rows L2
/-! ### masks -/
def mStep (ms : List Nat) (p : Pr) : List Nat :=
  let ms1 := ms.set p.1.toNat (ms.getD p.1.toNat 0 ||| 2 ^ p.2.toNat)
  ms1.set p.2.toNat (ms1.getD p.2.toNat 0 ||| 2 ^ p.1.toNat)
def mOf (n : Nat) (q : List Pr) : List Nat := q.foldl mStep (List.replicate n 0)
theorem mStep_len (ms : List Nat) (p : Pr) : (mStep ms p).length = ms.length := by simp [mStep]
theorem mFold_len : ∀ (q : List Pr) (ms : List Nat), (q.foldl mStep ms).length = ms.length
  | [], _ => rfl
  | p :: q, ms => by rw [List.foldl_cons, mFold_len q, mStep_len]
theorem mOf_len (n : Nat) (q : List Pr) : (mOf n q).length = n := by unfold mOf; rw [mFold_len, List.length_replicate]
theorem getD_set {l : List Nat} {i j v : Nat} (hi : i < l.length) : (l.set i v).getD j 0 = if j = i then v else l.getD j 0 := by
  rw [List.getD_eq_getElem?_getD, List.getElem?_set, List.getD_eq_getElem?_getD]
  by_cases e : i = j
  · subst e
    simp [hi]
  · rw [if_neg e, if_neg (fun z => e z.symm)]
/-- do x and y clash by the row q? -/
def hasP (q : List Pr) (x y : Nat) : Bool := decide (((x : Int), (y : Int)) ∈ q) || decide (((y : Int), (x : Int)) ∈ q)
theorem mStep_bit {ms : List Nat} {p : Pr} (h1 : 0 ≤ p.1) (h2 : p.1 < p.2) (h3 : p.2.toNat < ms.length) (x y : Nat) :
    ((mStep ms p).getD x 0).testBit y = ((ms.getD x 0).testBit y || (decide (x = p.1.toNat ∧ y = p.2.toNat) || decide (x = p.2.toNat ∧ y = p.1.toNat))) := by
  have a : p.1.toNat < ms.length := by omega
  have ne : p.1.toNat ≠ p.2.toNat := by omega
  unfold mStep
  dsimp only
  rw [getD_set (by rw [List.length_set]; exact h3), getD_set a, getD_set a]
  by_cases e2 : x = p.2.toNat
  · subst e2
    rw [if_pos rfl, if_neg (Ne.symm ne), Nat.testBit_or, Nat.testBit_two_pow]
    have : decide (p.2.toNat = p.1.toNat ∧ y = p.2.toNat) = false := decide_eq_false (fun z => ne z.1.symm)
    rw [this, Bool.false_or]
    congr 1
    simp only [true_and]
    exact decide_eq_decide.mpr ⟨fun h => h.symm, fun h => h.symm⟩
  · rw [if_neg e2]
    have z2 : decide (x = p.2.toNat ∧ y = p.1.toNat) = false := decide_eq_false (fun z => e2 z.1)
    rw [z2, Bool.or_false]
    by_cases e1 : x = p.1.toNat
    · subst e1
      rw [if_pos rfl, Nat.testBit_or, Nat.testBit_two_pow]
      congr 1
      simp only [true_and]
      exact decide_eq_decide.mpr ⟨fun h => h.symm, fun h => h.symm⟩
    · rw [if_neg e1, decide_eq_false (fun z : x = p.1.toNat ∧ y = p.2.toNat => e1 z.1), Bool.or_false]
theorem mFold_bit {n : Nat} : ∀ (q : List Pr) (ms : List Nat), ms.length = n → (∀ p ∈ q, 0 ≤ p.1 ∧ p.1 < p.2 ∧ p.2 < n) → ∀ x y, ((q.foldl mStep ms).getD x 0).testBit y = ((ms.getD x 0).testBit y || hasP q x y)
  | [], ms, _, _, x, y => by simp [hasP]
  | p :: q, ms, hl, h, x, y => by
    obtain ⟨a, b, c⟩ := h p List.mem_cons_self
    rw [List.foldl_cons, mFold_bit q (mStep ms p) (by rw [mStep_len]; exact hl) (fun r hr => h r (List.mem_cons_of_mem _ hr)) x y, mStep_bit a b (by omega)]
    rw [Bool.or_assoc]
    congr 1
    unfold hasP
    obtain ⟨p1, p2⟩ := p
    dsimp only at a b c ⊢
    have e1 : decide ((((x : Int), (y : Int)) : Pr) ∈ (p1, p2) :: q) = (decide (x = p1.toNat ∧ y = p2.toNat) || decide (((x : Int), (y : Int)) ∈ q)) := by
      rw [Bool.eq_iff_iff, Bool.or_eq_true, decide_eq_true_iff, decide_eq_true_iff, decide_eq_true_iff, List.mem_cons, Prod.mk.injEq]
      constructor
      · rintro (⟨h1, h2⟩ | h)
        · exact .inl ⟨by omega, by omega⟩
        · exact .inr h
      · rintro (⟨h1, h2⟩ | h)
        · exact .inl ⟨by omega, by omega⟩
        · exact .inr h
    have e2 : decide ((((y : Int), (x : Int)) : Pr) ∈ (p1, p2) :: q) = (decide (x = p2.toNat ∧ y = p1.toNat) || decide (((y : Int), (x : Int)) ∈ q)) := by
      rw [Bool.eq_iff_iff, Bool.or_eq_true, decide_eq_true_iff, decide_eq_true_iff, decide_eq_true_iff, List.mem_cons, Prod.mk.injEq]
      constructor
      · rintro (⟨h1, h2⟩ | h)
        · exact .inl ⟨by omega, by omega⟩
        · exact .inr h
      · rintro (⟨h1, h2⟩ | h)
        · exact .inl ⟨by omega, by omega⟩
        · exact .inr h
    rw [e1, e2]
    generalize decide (x = p1.toNat ∧ y = p2.toNat) = b1
    generalize decide (x = p2.toNat ∧ y = p1.toNat) = b2
    generalize decide (((x : Int), (y : Int)) ∈ q) = b3
    generalize decide (((y : Int), (x : Int)) ∈ q) = b4
    cases b1 <;> cases b2 <;> cases b3 <;> cases b4 <;> rfl
theorem mOf_bit {n : Nat} {q : List Pr} (h : Cl n q) (x y : Nat) : ((mOf n q).getD x 0).testBit y = hasP q x y := by
  unfold mOf
  rw [mFold_bit (n := n) q _ (by simp) h.rng x y]
  rw [List.getD_eq_getElem?_getD, List.getElem?_replicate]
  split <;> simp
end K0
set_option Elab.async false
set_option linter.all false
set_option maxRecDepth 100000
set_option maxHeartbeats 4000000
namespace K0
open PySem PySem.Spec PyProof.Rows L2
abbrev s_nm : Stmt := top 24
theorem dta_map {H : Hp} : ∀ {xs : List V} {q : List Pr} {i : Nat} {v : V}, DtAll H xs (q.map prD) → xs[i]? = some v → ∃ p a, q[i]? = some p ∧ v = .ref a ∧ H a = some (.tup [.int p.1, .int p.2]) := by
  intro xs q i v h e
  obtain ⟨d, hd, hv⟩ := h.at e
  rw [List.getElem?_map] at hd
  cases hq : q[i]? with
  | none => rw [hq] at hd; cases hd
  | some p =>
    rw [hq] at hd
    cases hd
    cases hv with
    | tup ea h2 =>
      cases h2 with
      | cons h3 h4 =>
        cases h4 with
        | cons h5 h6 =>
          cases h6
          cases h3
          cases h5
          exact ⟨p, _, rfl, rfl, ea⟩
section
variable {P : Program} {w : World} {K : PySem.W.Frag} {mg : Str → Option Value} {base : Heap} {f : Addr} {fd : FuncData}
def nvs (ms : List Nat) : List V := ms.map fun (k : Nat) => V.int (k : Int)
def spNm : Sp := fun vs H Q _ => ∃ (n : Int) (c : Addr) (xs : List V) (q : List Pr), vs = [.int n, .ref c] ∧ 0 ≤ n ∧ n ≤ 16 ∧ Cl n q ∧ H c = some (.tup xs) ∧ DtAll H xs (q.map prD) ∧
  ∀ H' m, Same H H' → H m = none → H' m = some (.tup (nvs (mOf n.toNat q))) → Q (.ref m) H'
theorem sc_nm : FnScope ["many", "clashes", "masks", "x", "y"] ["many", "clashes"] (defScope s_nm) := ⟨rfl, rfl, rfl, by decide +kernel, rfl, by decide +kernel, by decide +kernel⟩
theorem ixN_nat {n k : Nat} (h : k < n) : ixN n (k : Int) = some k := by
  unfold ixN
  rw [if_pos (Int.natCast_nonneg k), if_pos (by omega), Int.toNat_natCast]
theorem nvs_at {ms : List Nat} {k : Nat} (h : k < ms.length) : atI (nvs ms) (k : Int) = some (V.int ((ms.getD k 0 : Nat) : Int)) := by
  refine atI_nat ?_
  unfold nvs
  rw [List.getElem?_map, List.getElem?_eq_getElem h, List.getD_eq_getElem?_getD, List.getElem?_eq_getElem h]
  rfl
theorem nvs_set (ms : List Nat) (k v : Nat) : (nvs ms).set k (V.int (v : Int)) = nvs (ms.set k v) := by
  unfold nvs
  rw [List.map_set]
theorem nvs_len (ms : List Nat) : (nvs ms).length = ms.length := by unfold nvs; rw [List.length_map]
theorem rep_nvs (n : Nat) : (List.replicate n [V.int 0]).flatten = nvs (List.replicate n 0) := by
  unfold nvs
  rw [List.map_replicate]
  induction n with
  | zero => rfl
  | succ n ih => rw [List.replicate_succ, List.flatten_cons, ih, List.replicate_succ]; rfl
theorem shl1 (y : Nat) : (1 : Int) * 2 ^ ((y : Int).toNat) = ((2 ^ y : Nat) : Int) := by
  rw [Int.one_mul, Int.toNat_natCast]
  exact (Int.natCast_pow 2 y).symm
theorem OpR_imp {X : Cx} {f : Value → Value → Sem Value} {r r' : R2} (h : OpR X f r) (i : ∀ x y H Q, r' x y H Q → r x y H Q) : OpR X f r' := fun pins s σ H x y u v Q I rx ry q => h pins s σ H x y u v Q I rx ry (i _ _ _ _ q)
theorem op_orN {X : Cx} : OpR X (binaryOp .BitOr) (fun x y H Q => ∃ a b : Nat, x = .int (a : Int) ∧ y = .int (b : Int) ∧ Q (.int ((a ||| b : Nat) : Int)) H) := OpR_imp op_or fun x y H Q ⟨a, b, ex, ey, q⟩ => ⟨_, _, ex, ey, by show Q (.int (Builtin.bitOr (a : Int) (b : Int))) H; rw [bor_nat]; exact q⟩
theorem op_shl1 {X : Cx} : OpR X (binaryOp .LShift) (fun x y H Q => ∃ k : Nat, x = .int 1 ∧ y = .int (k : Int) ∧ k ≤ 1000 ∧ Q (.int ((2 ^ k : Nat) : Int)) H) := OpR_imp op_shl fun x y H Q ⟨k, ex, ey, hk, q⟩ => ⟨_, _, ex, ey, ⟨by omega, by omega, by decide⟩, by show Q (.int (1 * 2 ^ ((k : Int).toNat))) H; rw [shl1]; exact q⟩
theorem ok_nm (F : Fun K "near_masks" "near_masks" s_nm f fd) (B : Blt2 mg) : FnOk P w K mg base (L2.CX P w) 1 f fd ["many", "clashes"] spNm := by
  refine up0 (F.ok sc_nm (fun vs H Q E h => ?_) (fun cdv A outer s H vs Q E hr h => ?_))
  · obtain ⟨n, c, xs, q, rfl, _⟩ := h
    rfl
  · obtain ⟨n, c, xs, q, rfl, h0, h8, hq, hc, hx, kq⟩ := h
    have nd := sc_nm.nd
    obtain ⟨m, rfl⟩ := Int.eq_ofNat_of_zero_le h0
    rw [Int.toNat_natCast] at kq
    refine ⟨_, pss_cons (ps_set (i := 2) nd rfl (.inl rfl) (pe_op op_rep (pe_lst (pa_cons pe_int pa_nil)) (pv 0)))
      (pss_cons (ps_for PassesOwn.never rfl (pi_tup (pv 1)) (pg_tup rfl (pgs_cons (pg_name (i := 3) nd rfl (.inl rfl)) (pgs_cons (pg_name (i := 4) nd rfl (.inl rfl)) pgs_nil)))
        (pss_cons (ps_asg (pe_op op_orN (pe_ix ix_list (pv 2) (pv 3) (fun _ _ => rfl)) (pe_op op_shl1 pe_int (pv 4))) (pg_sub (pv 2) (pv 3) set_list))
        (pss_one (ps_asg (pe_op op_orN (pe_ix ix_list (pv 2) (pv 4) (fun _ _ => rfl)) (pe_op op_shl1 pe_int (pv 3))) (pg_sub (pv 2) (pv 4) set_list)))))
      (pss_one (ps_ret (pe_callTy call_tuple_of (by rfl) B.tuple (by decide +kernel) (pa_cons (pv 2) pa_nil))))), ?_⟩
    refine ⟨by show 1 ≤ sizeLine; decide, fun l nl => ?_⟩
    refine ⟨_, rfl, l, (m : Int), _, rfl, rfl, upd_same, by omega, by omega, ?_, fun t nt => ?_⟩
    · rw [Int.toNat_natCast, sizeLine_eq]
      show 1 * m ≤ _
      omega
    rw [Int.toNat_natCast, rep_nvs]
    have s1 : Same H (upd H l (.lst [V.int 0])) := same_upd nl
    have s2 := s1.trans (same_upd (o := .lst (nvs (List.replicate m 0))) nt)
    have ht : H t = none := s1.free nt
    let Pv : Nat → L2.St → Hp → Prop := fun i σ H' => ∃ o3 o4, σ = [some (.int (m : Int)), some (.ref c), some (.ref t), o3, o4] ∧ Same H H' ∧ H' t = some (.lst (nvs (mOf m (q.take i))))
    refine ⟨_, rfl, c, rfl, ⟨xs, SqT.of (s2 _ _ hc)⟩, for_tup (K := K) (a := c) (xs := xs) Pv ⟨none, none, rfl, s2, upd_same⟩ (fun i σ H' _ ⟨_, _, _, sm, _⟩ => SqT.of (sm _ _ hc)) ?_ ?_⟩
    · rintro i v σ H' hi ⟨o3, o4, rfl, sm, hl⟩
      obtain ⟨p, b, hp, rfl, hb⟩ := dta_map hx hi
      obtain ⟨r1, r2, r3⟩ := hq.rng p (List.mem_of_getElem? hp)
      obtain ⟨p1, p2⟩ := p
      dsimp only at r1 r2 r3 hb
      obtain ⟨x, rfl⟩ := Int.eq_ofNat_of_zero_le r1
      obtain ⟨y, rfl⟩ := Int.eq_ofNat_of_zero_le (show (0 : Int) ≤ p2 by omega)
      have hml : (mOf m (q.take i)).length = m := mOf_len _ _
      have hx8 : x < (mOf m (q.take i)).length := by omega
      have hy8 : y < (mOf m (q.take i)).length := by omega
      refine ⟨b, _, rfl, SqT.of (sm _ _ hb), rfl, _, _, rfl, _, _, rfl, rfl, ?_⟩
      refine ⟨_, rfl, _, rfl, t, _, _, _, rfl, rfl, SqL.of hl, nvs_at hx8, _, rfl, y, rfl, rfl, by omega, _, _, rfl, rfl, ?_⟩
      refine ⟨_, rfl, _, rfl, t, _, _, _, rfl, rfl, hl, (by rw [nvs_len]; exact ixN_nat hx8), ?_⟩
      rw [nvs_set]
      have hy9 : y < ((mOf m (q.take i)).set x ((mOf m (q.take i)).getD x 0 ||| 2 ^ y)).length := by rw [List.length_set]; exact hy8
      refine ⟨_, rfl, _, rfl, t, _, _, _, rfl, rfl, SqL.of upd_same, nvs_at hy9, _, rfl, x, rfl, rfl, by omega, _, _, rfl, rfl, ?_⟩
      refine ⟨_, rfl, _, rfl, t, _, _, _, rfl, rfl, upd_same, (by rw [nvs_len]; exact ixN_nat hy9), ?_⟩
      rw [nvs_set, upd_upd]
      refine ⟨_, _, rfl, fun a o e => ?_, ?_⟩
      · rw [upd_ne (ne_of_none e ht)]
        exact sm a o e
      · rw [upd_same, take_at hp]
        unfold mOf
        rw [List.foldl_append]
        rfl
    · rintro σ H' ⟨o3, o4, rfl, sm, hl⟩
      have el : xs.length = q.length := by rw [hx.len, List.length_map]
      rw [el, List.take_length] at hl
      refine ⟨_, rfl, t, _, rfl, .inl ⟨SqL.of hl, fun r nr => ?_⟩⟩
      exact kq _ r (sm.trans (same_upd nr)) (sm.free nr) upd_same
end
end K0
set_option Elab.async false
set_option linter.all false
set_option maxRecDepth 100000
set_option maxHeartbeats 4000000
namespace K0
open PySem PySem.Spec PyProof.Rows L2
abbrev s_wi : Stmt := inClass (top 43) 0
/-! ### what a web looks like -/
theorem k_mc : ¬ (("many" : Str) = "clashes") := by decide +kernel
theorem k_mm : ¬ (("many" : Str) = "masks") := by decide +kernel
def wf (n : Int) (c m : Addr) : List (Str × V) := putF "masks" (.ref m) (putF "clashes" (.ref c) (putF "many" (.int n) []))
theorem wf_many (n : Int) (c m : Addr) : (wf n c m).lookup ("many" : Str) = some (.int n) := by
  unfold wf
  rw [lookup_putF, if_neg k_mm, lookup_putF, if_neg k_mc, lookup_putF, if_pos rfl]
theorem wf_masks (n : Int) (c m : Addr) : (wf n c m).lookup ("masks" : Str) = some (.ref m) := by
  unfold wf
  rw [lookup_putF, if_pos rfl]
theorem wf_len1 (n : Int) : (putF ("many" : Str) (.int n) []).length < 1000 := by have := length_putF ("many" : Str) (.int n) []; simp at this; omega
theorem wf_len2 (n : Int) (c : Addr) : (putF ("clashes" : Str) (.ref c) (putF ("many" : Str) (.int n) [])).length < 1000 := by
  have h1 := length_putF ("clashes" : Str) (.ref c) (putF ("many" : Str) (.int n) [])
  have h2 := length_putF ("many" : Str) (.int n) []
  simp at h2
  omega
/-- the web of n things with the clashes q stands at p -/
structure WebAt (C : Addr) (H : Hp) (p : Addr) (n : Int) (q : List Pr) : Prop where
  ex : ∃ (dx c m : Addr) (l : List (Addr × Pr)), H p = some (.ins C dx (wf n c m)) ∧ H c = some (.tup (l.map fun z => V.ref z.1)) ∧ q = l.map (·.2) ∧ (∀ z ∈ l, H z.1 = some (.tup [.int z.2.1, .int z.2.2])) ∧ H m = some (.tup (nvs (mOf n.toNat q)))
  cl : Cl n q
  n0 : 0 ≤ n
  n8 : n ≤ 16
theorem WebAt.mono {C : Addr} {H H' : Hp} {p : Addr} {n : Int} {q : List Pr} (W : WebAt C H p n q) (s : Same H H') : WebAt C H' p n q := by
  obtain ⟨⟨dx, c, m, l, h1, h2, h3, h4, h5⟩, cl, n0, n8⟩ := W
  exact ⟨⟨dx, c, m, l, s _ _ h1, s _ _ h2, h3, fun z hz => s _ _ (h4 z hz), s _ _ h5⟩, cl, n0, n8⟩
/-- what is new in H' -/
def New (H H' : Hp) : Hp := fun b => match H b with
  | none => H' b
  | some _ => none
theorem new_at {H H' : Hp} {b : Addr} (h : H b = none) : New H H' b = H' b := by unfold New; rw [h]
theorem same_new {H H' : Hp} : Same (New H H') H' := fun b o e => by
  unfold New at e
  cases h : H b with
  | none => rw [h] at e; exact e
  | some _ => rw [h] at e; cases e
theorem new_mono {H H1 H' H2 : Hp} (a : ∀ b, H b = none → H' b ≠ none → H1 b = none) (s : Same H' H2) : Same (New H H') (New H1 H2) := fun b o e => by
  unfold New at e
  cases h : H b with
  | none =>
    rw [h] at e
    have e' : H' b = some o := e
    rw [new_at (a b h (by rw [e']; simp))]
    exact s _ _ e'
  | some _ => rw [h] at e; cases e
/-- all stays but the object at p -/
def SameX (p : Addr) (H H' : Hp) : Prop := ∀ b o, H b = some o → b ≠ p → H' b = some o
theorem SameX.trans {p : Addr} {H H1 H2 : Hp} (a : SameX p H H1) (b : SameX p H1 H2) : SameX p H H2 := fun c o e n => b c o (a c o e n) n
theorem sx {p : Addr} {H H' : Hp} (s : Same H H') : SameX p H H' := fun b o e _ => s b o e
theorem samex_upd {p : Addr} {H : Hp} {o : HO} : SameX p H (upd H p o) := fun b u e n => by rw [upd_ne n]; exact e
/-- lists and tuples alone -/
def seqs (H : Hp) : Hp := fun b => match H b with
  | some (.lst xs) => some (.lst xs)
  | some (.tup xs) => some (.tup xs)
  | _ => none
theorem seqs_lst {H : Hp} {b : Addr} {xs : List V} (e : H b = some (.lst xs)) : seqs H b = some (.lst xs) := by unfold seqs; rw [e]
theorem seqs_tup {H : Hp} {b : Addr} {xs : List V} (e : H b = some (.tup xs)) : seqs H b = some (.tup xs) := by unfold seqs; rw [e]
theorem seqs_of {H : Hp} {b : Addr} {o : HO} (e : seqs H b = some o) : H b = some o ∧ ∀ C dx fs, o ≠ .ins C dx fs := by
  unfold seqs at e
  split at e
  · rename_i h
    cases e
    exact ⟨h, fun _ _ _ z => by cases z⟩
  · rename_i h
    cases e
    exact ⟨h, fun _ _ _ z => by cases z⟩
  · cases e
mutual
theorem Dt.seqs {H : Hp} : ∀ {v : V} {d : PyData}, Dt H v d → Dt (seqs H) v d
  | _, _, .non => .non
  | _, _, .bl b => .bl b
  | _, _, .int i => .int i
  | _, _, .str x => .str x
  | _, _, .lst e h => .lst (seqs_lst e) (DtAll.seqs h)
  | _, _, .tup e h => .tup (seqs_tup e) (DtAll.seqs h)
theorem DtAll.seqs {H : Hp} : ∀ {v : List V} {d : List PyData}, DtAll H v d → DtAll (seqs H) v d
  | _, _, .nil => .nil
  | _, _, .cons h t => .cons (Dt.seqs h) (DtAll.seqs t)
end
theorem same_seqs {p C dx : Addr} {fs : List (Str × V)} {H H' : Hp} (hp : H p = some (.ins C dx fs)) (s : SameX p H H') : Same (seqs H) H' := fun b o e => by
  obtain ⟨h, no⟩ := seqs_of e
  exact s b o h fun z => by
    rw [z, hp] at h
    exact no C dx fs (Option.some.inj h).symm
theorem Dt.monoX {p C dx : Addr} {fs : List (Str × V)} {H H' : Hp} (hp : H p = some (.ins C dx fs)) (s : SameX p H H') {v : V} {d : PyData} (h : Dt H v d) : Dt H' v d := h.seqs.mono (same_seqs hp s)
theorem Sq.monoX {K : PySem.W.Frag} {p C dx : Addr} {fs : List (Str × V)} {H H' : Hp} (hp : H p = some (.ins C dx fs)) (s : SameX p H H') {a : Addr} {ds : List PyData} (h : Sq K H a ds) : Sq K H' a ds := by
  cases h with
  | lst e h => exact .lst (same_seqs hp s _ _ (seqs_lst e)) (h.seqs.mono (same_seqs hp s))
  | tup e h => exact .tup (same_seqs hp s _ _ (seqs_tup e)) (h.seqs.mono (same_seqs hp s))
  | kon e z => exact .kon e z
  | @frz o xs e h =>
    have e2 : H' a = some (.frz o (.tup xs)) := s _ _ e (by
      intro z
      rw [z, hp] at e
      cases e)
    exact .frz e2 (h.seqs.mono (same_seqs hp s))
section
variable {P : Program} {w : World} {K : PySem.W.Frag} {mg : Str → Option Value} {base : Heap} {f : Addr} {fd : FuncData}
/-- the class of webs as the top has made it -/
structure WebC (K : PySem.W.Frag) (C : Addr) : Prop where
  cl : Cls K C
  nm : NoAttr K C "many"
  nc : NoAttr K C "clashes"
  nk : NoAttr K C "masks"
/-- Web.__init__ -/
def spWi (K : PySem.W.Frag) (C CN CW : Addr) : Sp := fun vs H Q E => ∃ (p dx a : Addr) (v : V) (d : PyData) (ds : List PyData), vs = [.ref p, v, .ref a] ∧ H p = some (.ins C dx []) ∧ Dt H v d ∧ Sq K H a ds ∧
  (okN 0 d = false → ∀ H' e, SameX p H H' → H' e = some (.xd [("name", .str "many")]) → E (.ref CN) (some e) H') ∧
  (∀ n, d = .int n → 0 ≤ n → n ≤ 16 ∧ ds.length ≤ 62 ∧
    (∀ ps, entsOf n ds = .ok ps → ∀ q, Cl n q → (∀ z, z ∈ q ↔ z ∈ ps) → ∀ H', SameX p H H' → WebAt C (New (del H p) H') p n q → Q .non H') ∧
    (∀ x y, entsOf n ds = .error (x, y) → ∀ H' e vx vy, SameX p H H' → Dt H' vx x → Dt H' vy y → H' e = some (.xd [("y", vy), ("x", vx)]) → E (.ref CW) (some e) H'))
theorem sc_wi : FnScope ["self", "many", "clashes"] ["self", "many", "clashes"] (defScope s_wi) := ⟨rfl, rfl, rfl, by decide +kernel, rfl, by decide +kernel, by decide +kernel⟩
end
end K0
set_option Elab.async false
set_option linter.all false
set_option maxRecDepth 100000
set_option maxHeartbeats 4000000
namespace K0
open PySem PySem.Spec PyProof.Rows L2
/-- a def whose last parameters have defaults -/
structure DfD (P : Program) (w : World) (K : PySem.W.Frag) (mg : Str → Option Value) (base : Heap) (x : Str) (k : Nat) (ps : List Str) (dvs : List V) (sp : Sp) : Prop where
  ex : ∃ (f : Addr) (fd : FuncData) (ds : List Value), mg x = some (.ref f) ∧ PySem.W.keepIn K (.ref f) = true ∧ FnOk P w K mg base (L2.CX P w) k f fd ps sp ∧ Vals dvs ds ∧ Binds K fd ps ds
theorem pe_dfd {X : Cx} {x : Str} {k : Nat} {ps : List Str} {dvs : List V} {sp : Sp} {E : XK} {e : Expr} {es : List Expr} {t : TA} {p pos : Pos} (T : DfD X.prog X.w X.K X.mg X.base x k ps dvs sp) (hr : Room k X.A) (hg : Gl X x) (hx : Passes (L2.CX X.prog X.w) X E) (ha : PA X (e :: es) t)
    (hdb : (x == ("__debug__" : Str)) = false := by decide) (he : starEach (e :: es) X.env = (false, eval e X.env) :: starEach es X.env := by rfl) (hpl : (backTo pos (starEach es X.env)).any (·.1) = false := by rfl) :
    PE X (.Call (.Name x p) (e :: es) [] pos) (tCall sp dvs E t) := by
  obtain ⟨f, fd, ds, g, kp, F, v, b⟩ := T.ex
  exact pe_call F hr hg g kp b v hx ha hdb he hpl
section
variable {P : Program} {w : World} {K : PySem.W.Frag} {mg : Str → Option Value} {base : Heap} {f : Addr} {fd : FuncData}
theorem ok_wi {dvs : List V} {C CN CW : Addr} (F : FunD K "__init__" "Web.__init__" (defArgs s_wi) (defBody s_wi) (defScope s_wi) dvs [] f fd) (T : WebC K C) (CNum : DfD P w K mg base "check_number" 3 ["value", "name", "least"] [.int 0] (spCn CN))
    (CC : Df P w K mg base "checked_clashes" 3 ["many", "clashes"] (spCC K CW)) (NM : Df P w K mg base "near_masks" 1 ["many", "clashes"] spNm) : FnOk P w K mg base (L2.CX P w) 4 f fd ["self", "many", "clashes"] (spWi K C CN CW) := by
  refine F.ok sc_wi (fun vs H Q E h => ?_) (fun cdv A outer s H vs Q E hr h => ?_)
  · obtain ⟨p, dx, a, v, d, ds, rfl, _⟩ := h
    rfl
  · obtain ⟨p, dx, a, v, d, ds, rfl, hp, hv, hs, kn, kw⟩ := h
    have hr1 : Room 1 _ := hr.mono (by decide)
    refine ⟨_, pss_cons (ps_expr (pe_dfd CNum hr (by rfl) passUp (pa_cons (pv 1) (pa_cons pe_str pa_nil))))
      (pss_cons (ps_fld (pv 0) (pv 1) rfl)
      (pss_cons (ps_fld (pv 0) (pe_df CC hr (by rfl) passUp (pa_cons (pv 1) (pa_cons (pv 2) pa_nil))) rfl)
      (pss_one (ps_fld (pv 0) (pe_df NM hr1 (by rfl) passUp (pa_cons (pv 1) (pa_cons (pe_fld (pv 0) rfl) pa_nil))) rfl)))), ?_⟩
    refine ⟨_, rfl, v, d, _, 0, rfl, hv, fun ok => ?_, fun bad H' e sm he => kn bad H' e (sx sm) he⟩
    obtain ⟨n, rfl, rfl, h0⟩ : ∃ n, v = .int n ∧ d = .int n ∧ 0 ≤ n := by
      cases hv with
      | int i => exact ⟨i, rfl, rfl, of_decide_eq_true ok⟩
      | non => cases ok
      | bl b => cases ok
      | str b => cases ok
      | lst e h => cases ok
      | tup e h => cases ok
    obtain ⟨n8, n62, kq, ke⟩ := kw n rfl h0
    -- self.many = many
    refine ⟨_, rfl, _, rfl, p, C, dx, [], rfl, hp, T.cl, T.nm, (by show 0 < 1000; decide), ?_⟩
    have x1 : SameX p H (upd H p (.ins C dx (putF "many" (.int n) []))) := samex_upd
    have hs1 := hs.monoX hp x1
    -- self.clashes = checked_clashes(many, clashes)
    refine ⟨_, rfl, _, rfl, n, a, ds, rfl, n8, n62, hs1, fun ps hps q hq hm H2 c xs s2 nc hc hl => ?_, fun x y hxy H' e vx vy sm hx hy he => ke x y hxy H' e vx vy (x1.trans (sx sm)) hx hy he⟩
    have hp2 : H2 p = some (.ins C dx (putF "many" (.int n) [])) := s2 _ _ upd_same
    have cp : c ≠ p := fun z => by rw [z, upd_same] at nc; cases nc
    have nc' : H c = none := by rw [upd_ne cp] at nc; exact nc
    refine ⟨_, rfl, p, C, dx, _, rfl, hp2, T.cl, T.nc, wf_len1 n, ?_⟩
    obtain ⟨l, rfl, eq, hz⟩ := hl
    have x3 : SameX p H2 (upd H2 p (.ins C dx (putF "clashes" (.ref c) (putF "many" (.int n) [])))) := samex_upd
    have hc3 := x3 _ _ hc cp
    have zp : ∀ z ∈ l, z.1 ≠ p := fun z hz' e => by
      have := (hz z hz').1
      rw [e, upd_same] at this
      cases this
    have hz3 : ∀ z ∈ l, (upd H2 p (.ins C dx (putF "clashes" (.ref c) (putF "many" (.int n) [])))) z.1 = some (.tup [.int z.2.1, .int z.2.2]) := fun z hz' => x3 _ _ (hz z hz').2 (zp z hz')
    -- self.masks = near_masks(many, self.clashes)
    refine ⟨_, rfl, _, rfl, p, C, dx, _, .ref c, rfl, upd_same, T.cl, T.nc, (by rw [lookup_putF, if_pos rfl]), n, c, _, q, rfl, h0, n8, hq, hc3, (by rw [eq, List.map_map]; exact dtAll_prs hz3), fun H4 m s4 nm hm4 => ?_⟩
    have hp4 := s4 p _ upd_same
    have mp : m ≠ p := fun z => by rw [z, upd_same] at nm; cases nm
    have nm2 : H2 m = none := by rw [upd_ne mp] at nm; exact nm
    have nm' : H m = none := by
      have := s2.free nm2
      rw [upd_ne mp] at this
      exact this
    refine ⟨_, rfl, p, C, dx, _, rfl, hp4, T.cl, T.nk, wf_len2 n c, ?_⟩
    have x5 : SameX p H4 (upd H4 p (.ins C dx (wf n c m))) := samex_upd
    have xAll : SameX p H (upd H4 p (.ins C dx (wf n c m))) := x1.trans ((sx s2).trans (x3.trans ((sx s4).trans x5)))
    have dl : ∀ {b : Addr}, H b = none → (del H p) b = none := fun {b} h => by
      by_cases e : b = p
      · rw [e, del_same]
      · rw [del_ne e]; exact h
    refine kq ps hps q hq hm _ xAll ⟨⟨dx, c, m, l, ?_, ?_, eq, fun z hz' => ?_, ?_⟩, hq, h0, n8⟩
    · rw [new_at del_same]
      exact upd_same
    · rw [new_at (dl nc')]
      exact x5 _ _ (s4 _ _ hc3) cp
    · have n1 : H z.1 = none := by
        have := (hz z hz').1
        rw [upd_ne (zp z hz')] at this
        exact this
      rw [new_at (dl n1)]
      exact x5 _ _ (s4 _ _ (hz3 z hz')) (zp z hz')
    · rw [new_at (dl nm')]
      exact x5 _ _ hm4 mp
end
end K0
set_option Elab.async false
set_option linter.all false
set_option maxRecDepth 100000
set_option maxHeartbeats 4000000
namespace K0
open PySem PySem.Spec PyProof.Rows L2
abbrev s_ti : Stmt := top 22
def rS : R2 := fun x y H Q => ∃ a b : Nat, x = .int (a : Int) ∧ y = .int (b : Int) ∧ Q (.int ((a / 2 ^ b : Nat) : Int)) H
def rA : R2 := fun x y H Q => ∃ a : Nat, x = .int (a : Int) ∧ y = .int 1 ∧ Q (.int ((a % 2 : Nat) : Int)) H
theorem op_shr2 {X : Cx} : OpR X (binaryOp .RShift) rS := OpR_imp op_shr fun x y H Q ⟨a, b, ex, ey, q⟩ => ⟨_, _, ex, ey, Int.natCast_nonneg b, by
  show Q (.int ((a : Int) / 2 ^ ((b : Int).toNat))) H
  rw [Int.toNat_natCast, show (2 : Int) ^ b = ((2 ^ b : Nat) : Int) from (Int.natCast_pow 2 b).symm, ← Int.natCast_ediv]
  exact q⟩
theorem op_and1 {X : Cx} : OpR X (binaryOp .BitAnd) rA := OpR_imp op_and fun x y H Q ⟨a, ex, ey, q⟩ => ⟨_, _, ex, ey, by
  show Q (.int (Builtin.bitAnd (a : Int) 1)) H
  rw [bitAnd_m1, show ((a : Int) % 2) = ((a % 2 : Nat) : Int) from by omega]
  exact q⟩
theorem bit_val (m k : Nat) : ((((m / 2 ^ k % 2 : Nat) : Int)) != 0) = m.testBit k := by
  rw [Nat.testBit_eq_decide_div_mod_eq]
  rcases Nat.mod_two_eq_zero_or_one (m / 2 ^ k) with e | e <;> rw [e] <;> rfl
theorem range_cut {p : Nat → Bool} {a : Nat} (h : ∀ j, a ≤ j → p j = false) : ∀ d, (List.range (a + d)).filter p = (List.range a).filter p := fun d => by
  rw [List.range_add, List.filter_append]
  have : ((List.range d).map (a + ·)).filter p = [] := by
    rw [List.filter_eq_nil_iff]
    intro x hx
    obtain ⟨y, _, rfl⟩ := List.mem_map.mp hx
    rw [h _ (Nat.le_add_right a y)]
    simp
  rw [this, List.append_nil]
theorem range_same {p : Nat → Bool} {a b : Nat} (ha : ∀ j, a ≤ j → p j = false) (hb : ∀ j, b ≤ j → p j = false) : (List.range a).filter p = (List.range b).filter p := by
  rcases Nat.le_total a b with h | h
  · obtain ⟨d, rfl⟩ := Nat.exists_eq_add_of_le h
    exact (range_cut ha d).symm
  · obtain ⟨d, rfl⟩ := Nat.exists_eq_add_of_le h
    exact range_cut hb d
def bitsN (m : Nat) : Nat := Builtin.Int.intBits (m : Int)
theorem bits_out {m j : Nat} (h : bitsN m ≤ j) : m.testBit j = false := by
  refine Nat.testBit_lt_two_pow ?_
  unfold bitsN Builtin.Int.intBits at h
  by_cases e : m = 0
  · rw [e]
    exact Nat.two_pow_pos j
  · rw [if_neg (by simpa using e), Int.natAbs_natCast] at h
    exact Nat.lt_of_lt_of_le Nat.lt_log2_self (Nat.pow_le_pow_right (by decide) h)
/-- the places of the bits -/
def bitsOf (n m : Nat) : List Nat := (List.range n).filter m.testBit
theorem bitsOf_eq {n m : Nat} (h : ∀ j, n ≤ j → m.testBit j = false) : (List.range (bitsN m)).filter m.testBit = bitsOf n m := range_same (fun j => bits_out) h
section
variable {P : Program} {w : World} {K : PySem.W.Frag} {mg : Str → Option Value} {base : Heap} {f : Addr} {fd : FuncData}
def spTi : Sp := fun vs H Q _ => ∃ (m : Nat), vs = [.int (m : Int)] ∧ bitsN m ≤ 1000 ∧ ∀ H' t, Same H H' → H t = none → H' t = some (.tup (nvs ((List.range (bitsN m)).filter m.testBit))) → Q (.ref t) H'
theorem sc_ti : FnScope ["mask", "thing"] ["mask"] (defScope s_ti) := ⟨rfl, rfl, rfl, by decide +kernel, rfl, by decide +kernel, by decide +kernel⟩
theorem filter_take {p : Nat → Bool} (n i : Nat) (h : i < n) : ((List.range n).take (i + 1)).filter p = ((List.range n).take i).filter p ++ (if p i = true then [i] else []) := by
  rw [List.take_range, List.take_range, Nat.min_eq_left (by omega), Nat.min_eq_left (by omega), List.range_succ, List.filter_append]
  congr 1
  cases e : p i <;> simp [e]
theorem ok_ti (F : Fun K "things_in" "things_in" s_ti f fd) (B : Blt2 mg) : FnOk P w K mg base (L2.CX P w) 1 f fd ["mask"] spTi := by
  refine up0 (F.ok sc_ti (fun vs H Q E h => ?_) (fun cdv A outer s H vs Q E hr h => ?_))
  · obtain ⟨m, rfl, _⟩ := h
    rfl
  · obtain ⟨m, rfl, hb, q⟩ := h
    have nd := sc_ti.nd
    refine ⟨_, pss_one (ps_ret (pe_callTy call_tuple_of (by rfl) B.tuple (by decide +kernel) (pa_cons (pe_lc (tt := tTru K (tOp rA (tOp rS (tVar 0) (tVar 1)) (tC (.int 1)))) (te := tVar 1) (own := [("thing", 1)]) (g := gName 1) rfl nd (pi_range1 (by rfl) B.range (pa_cons (pe_bits (pv 0)) pa_nil))
      (blkOk_by (N := ["mask", "thing"]) (sc := defScope s_ti) (by decide +kernel)) (fun _ _ _ _ _ => pg_name (i := 1) nd rfl (.inl rfl))
      (fun _ _ _ _ _ => pts_one (pt_truth (pe_op op_and1 (pe_op op_shr2 (pv 0) (pv 1)) pe_int) (by intro _; rfl))) (fun _ _ _ _ _ => pv 1)) pa_nil))), ?_⟩
    refine ⟨_, rfl, _, rfl, _, rfl, by omega, by have : bitsN m < 2 ^ 62 := (by omega); exact Int.ofNat_lt.mpr this, fun D nD => ?_⟩
    have eN : ((Builtin.Int.intBits (m : Int) : Nat) : Int).toNat = bitsN m := Int.toNat_natCast _
    rw [eN]
    refine lc_range (lo := 0) (n := bitsN m) (fun i H' => Same H H' ∧ H' D = some (.lst (nvs (((List.range (bitsN m)).take i).filter m.testBit)))) ⟨same_upd nD, upd_same⟩ (fun i H' hi ⟨sm, hD⟩ => ?_) (fun H' ⟨sm, hD⟩ => ?_)
    · refine ⟨rfl, ?_⟩
      rw [Int.zero_add]
      refine ⟨_, rfl, _, rfl, m, i, rfl, rfl, _, rfl, rfl, _, rfl, ?_⟩
      rw [bit_val]
      cases e : m.testBit i with
      | false =>
        refine iteF ⟨sm, ?_⟩
        rw [filter_take _ _ hi, e]
        simpa using hD
      | true =>
        refine iteT ⟨_, rfl, _, hD, ?_, ?_, ?_⟩
        · rw [nvs_len, sizeLine_eq]
          have h1 := List.length_filter_le m.testBit ((List.range (bitsN m)).take i)
          rw [List.length_take, List.length_range] at h1
          omega
        · intro b o e2
          rw [upd_ne (ne_of_none e2 nD)]
          exact sm b o e2
        · rw [upd_same, filter_take _ _ hi, e]
          unfold nvs
          rw [List.map_append]
          rfl
    · rw [List.take_of_length_le (by rw [List.length_range]; exact Nat.le_refl _)] at hD
      exact ⟨D, _, rfl, .inl ⟨SqL.of hD, fun t nt => q _ t (sm.trans (same_upd nt)) (sm.free nt) upd_same⟩⟩
end
end K0
set_option Elab.async false
set_option linter.all false
set_option maxRecDepth 100000
set_option maxHeartbeats 4000000
/-! enumerate(tuple) -/
namespace K0
open PySem PySem.Spec PyProof.Rows L2
open AutoSeq1 (wpAny_loadPart')
theorem enumNewT (l : Addr) (items : Array Value) (n : Nat) (dct : Option Addr) (sl : Array (Option Value)) :
    Meets (Builtin.«enumerate.__new__» ⟨[.type "enumerate", .ref l], []⟩) (fun _ R s => s.heap.get? l = some { cls := .type "tuple", dict := dct, data := .seq items n, slots := sl } ∧
      R (.ok (.ret (.ref (s.heap.push { cls := .type "tuple_iterator", data := .fields #[.ref l, .int 0 0] }).objs.size)))
        { s with heap := (s.heap.push { cls := .type "tuple_iterator", data := .fields #[.ref l, .int 0 0] }).push { cls := .type "enumerate", data := .fields #[.none, .bool false, .ref s.heap.objs.size, rawInt 0, .none, .none] } }) :=
  .of_wp fun prog w A R s h => by
    obtain ⟨hp, g, d, tk, os⟩ := s
    obtain ⟨hl, h⟩ := h
    have hsub := sub_enumerate
    have hT : Heap.IsTuple (Shared.heap ⟨hp, g, d, tk, os⟩) l items := ⟨_, hl, rfl, n, rfl⟩
    wp_walk using wpAny_loadPart' hl
    refine wpAny_stack_any fun st => wpAny_pure ?_
    split
    · rename_i c _ _ _ _ _
      cases (c == Value.type "enumerate")
      · wp_walk using wpAny_loadPart' hl, wpAny_pyIter_tuple hT
        exact ⟨_, rfl, h⟩
      · wp_walk using wpAny_loadPart' hl, wpAny_pyIter_tuple hT
        exact ⟨_, rfl, h⟩
    · wp_walk using wpAny_loadPart' hl, wpAny_pyIter_tuple hT
      exact ⟨_, rfl, h⟩
section
variable {prog : Program} {w : World} {A : Around} {E : Value → Shared → Prop} {s : Shared}
theorem callEnumT {l : Addr} {items : Array Value} {Q : Value → Shared → Prop} (hL : s.heap.IsTuple l items)
    (h : ∀ h', IsEnum h' (s.heap.objs.size + 1) s.heap.objs.size 0 .none → h'.IsTupleIter s.heap.objs.size l 0 → h'.objs.size = s.heap.objs.size + 2 →
      (∀ b o, s.heap.get? b = some o → h'.get? b = some o) → Q (.ref (s.heap.objs.size + 1)) { s with heap := h' }) :
    wpAny (model prog w) A (call (.type "enumerate") [.ref l]) Q E s := by
  obtain ⟨⟨c, dct, dt, sl⟩, hl, hc, n, hd⟩ := hL
  replace hc : c = .type "tuple" := hc
  replace hd : dt = .seq items n := hd
  subst hc hd
  refine callType_new F.called_enumerate (by decide) (F.typeCall_enumerate_1 _) (F.newCall_enumerate_1 _) (fun obj => F.args_object_init_2 obj _) F.entry_enumerate_new
    (enumNewT l items n dct sl) ⟨hl, ?_⟩
  have hz : (s.heap.push { cls := .type "tuple_iterator", data := .fields #[.ref l, .int 0 0] }).objs.size = s.heap.objs.size + 1 := Heap.size_push ..
  show _ ∧ _
  rw [hz]
  have he : IsEnum ((s.heap.push { cls := .type "tuple_iterator", data := .fields #[.ref l, .int 0 0] }).push
      { cls := .type "enumerate", data := .fields #[.none, .bool false, .ref s.heap.objs.size, rawInt 0, .none, .none] }) (s.heap.objs.size + 1) s.heap.objs.size 0 .none := by
    have := Heap.get?_push_size (s.heap.push { cls := .type "tuple_iterator", data := .fields #[.ref l, .int 0 0] })
      (o := { cls := .type "enumerate", data := .fields #[.none, .bool false, .ref s.heap.objs.size, rawInt 0, .none, .none] }) rfl
    rw [hz] at this
    exact this
  refine ⟨⟨_, he, rfl⟩, h _ he ⟨_, Heap.get?_push_of_some _ (Heap.get?_push_size _ rfl), rfl, rfl⟩ (by rw [Heap.size_push, hz]) fun b o x => Heap.get?_push_of_some _ (Heap.get?_push_of_some _ x)⟩
end
/-- the tuple at a, each item in a new pair with its place -/
def IteT (K : PySem.W.Frag) (a : Addr) : It :=
  ⟨fun i H => ∃ (xs : List V) (x : V), SqT K H a xs ∧ xs[i]? = some x, fun i H v H' => ∃ T x, v = .ref T ∧ H T = none ∧ H' = upd H T (.tup [.int (i : Nat), x]) ∧ ∀ xs, SqT K H a xs → xs[i]? = some x, fun i H => ∃ xs : List V, SqT K H a xs ∧ xs.length ≤ i⟩
theorem turn_enumT {P : Program} {w : World} {K : PySem.W.Frag} {elts : List Expr} {kk : Nat} {tpos : Pos} (a e it : Addr) :
    Turn P w K (.Tuple elts kk tpos) (IteT K a) [e, it] e (fun i h => (∃ old, IsEnum h e it ((i : Nat) : Int) old) ∧ h.IsTupleIter it a i ∧ e ≠ it ∧ e ≠ a ∧ a ≠ it) where
  mem := by simp
  obj := fun i h st b hb => by
    obtain ⟨⟨old, he⟩, ⟨o, ho, hc, hd⟩, _⟩ := st
    have e' : b = e ∨ b = it := by simpa using hb
    rcases e' with z | z
    · rw [z]; exact ⟨_, he, fun v q => nomatch q⟩
    · rw [z]; exact ⟨o, ho, fun v q => by rw [hd] at q; cases q⟩
  keep := fun i h h' st k => let ⟨⟨old, he⟩, hi, hne⟩ := st; ⟨⟨old, k e (by simp) _ he⟩, hi.at fun o q => k it (by simp) o q, hne⟩
  item := by
    intro X hP hw hK hc i pins s σ H E I hf st hg
    subst hP hw hK
    obtain ⟨⟨old, he⟩, hit, hne, hea, hai⟩ := st
    obtain ⟨xs, x, hq, hx⟩ := hg
    obtain ⟨its, rv, p, hz⟩ := I.tuple hq
    obtain ⟨u, hu, ru⟩ := rv.get hx
    have hel : e < s.heap.objs.size := Heap.lt_size he
    have hil : it < s.heap.objs.size := by obtain ⟨_, q, _⟩ := hit; exact Heap.lt_size q
    have hT : s.heap.IsTuple a its.toArray := p
    have lt : i < its.toArray.size := by
      have := (List.getElem?_eq_some_iff.mp hu).1
      simpa using this
    refine wpAny_pyNext_enum_itemD (Draws.tuple (A := X.A.in1) (show X.A.in1.handled = none from I.ok.hd hc) it a hai its.toArray) he ⟨hit, hT⟩ lt hne (by simp [hne, hea]) fun y h' tk hy ho hst hTt hsz hk => ?_
    have ey : y = u := by
      rw [show its.toArray[i]? = some u by simpa using hu] at hy
      exact (Option.some.inj hy).symm
    subst ey
    refine ⟨_, rfl, wpAny_letOwnedTupleGo_enum (s := { s with heap := h', toks := tk + 1 }) ho fun h'' he' sb => ?_⟩
    have hT2 : h''.get? s.heap.objs.size = some { cls := .type "tuple", data := .seq #[.int i tk, y] } := (sb.2 _ (Nat.ne_of_gt hel)).trans hTt
    have new : ObjOk X.prog X.w (upd H s.heap.objs.size (.tup [.int (i : Nat), x])) h'' s.heap.objs.size (.tup [.int (i : Nat), x]) :=
      ⟨by show 2 ≤ sizeLine; decide, [.int i tk, y], .cons ⟨_, rfl⟩ (.cons ru .nil), ⟨_, hT2, rfl, _, rfl⟩⟩
    have I1 : Inv X pins σ (upd H s.heap.objs.size (.tup [.int (i : Nat), x])) { s with heap := h'', toks := tk + 1 } :=
      I.turnedNew (ch := [e, it]) (fun b ob hb q => (sb.2 b (fun z => hb (by simp [z]))).trans (hk b ob (fun z => hb (by simp [z])) (fun z => hb (by simp [z])) q)) hf (Nat.le_refl _) new
    refine ⟨.ref s.heap.objs.size, _, I1, rfl, ⟨_, x, rfl, I.hok.fresh (Nat.le_refl _), rfl, fun ys hy => by rw [I.tuple_inj hy hq]; exact hx⟩, ⟨⟨y, ?_⟩, hst.1.at fun o q => (sb.2 it (Ne.symm hne)).trans q, hne, hea, hai⟩, fun b hb => ?_⟩
    · have e1 : ((i + 1 : Nat) : Int) = (i : Int) + 1 := by omega
      rw [e1]; exact he'
    · have hb' : b < s.heap.objs.size := by
        have e' : b = e ∨ b = it := by simpa using hb
        rcases e' with z | z
        · rw [z]; exact hel
        · rw [z]; exact hil
      rw [upd_ne (Nat.ne_of_lt hb')]
      exact (hf b hb).1
  done := by
    intro X hP hw hK hc i pins s σ H E I hf st hg
    subst hP hw hK
    obtain ⟨⟨old, he⟩, hit, hne, hea, hai⟩ := st
    obtain ⟨xs, hq, hx⟩ := hg
    obtain ⟨its, rv, p, hz⟩ := I.tuple hq
    obtain ⟨f0, f1, f2, f3, f4, f5⟩ := hf it (by simp)
    have hl := rv.length
    have hT : s.heap.IsTuple a its.toArray := p
    have hTy : s.TypeIs (.ref e) "enumerate" := ⟨_, he, rfl⟩
    unfold pyNext
    refine wpAny_bind (wpAny_attempt (wpAny_callSpecial?_slot (name := Str.ofString "__next__") hTy F.slot_enumerate_next
      (wpAny_call_entry F.slot_enumerate_next hTy F.entry_enumerate_next ?_ (F.args_enumerate_next_1 _))))
    show wpAny _ _ (field (.ref e) 2 >>= _) _ _ _
    refine wpAny_bind (wpAny_field he rfl (x := .ref it) rfl ?_)
    refine wpAny_bind (wpAny_nextOf_tuple_end (A := X.A.in1) (show X.A.in1.handled = none from I.ok.hd hc) hit hT (by simp; omega) fun h' x he' hx' => ?_)
    obtain ⟨o, ho, hc⟩ := hx'
    refine wpAny_bind (wpAny_isInstance (T := "StopIteration") (b := true) ⟨o, ho, hc⟩ isSubtype_stop ?_)
    exact wpAny_pure ⟨rfl, I.turned (t' := s.toks) (fun b o hb q => he' b o hb q) f0 f1 f3 f4 f5⟩
  self := fun A i s Q E st h => let ⟨⟨_, he⟩, _⟩ := st; wpAny_pyIter_enum he h
def iEnumT (K : PySem.W.Frag) (ta : TA) : TI := fun σ H R => ta σ H fun vs H1 => ∃ a xs, vs = [.ref a] ∧ SqT K H1 a xs ∧ R (IteT K a) H1
theorem pi_enumT {X : Cx} {e : Expr} {ta : TA} {p pos tpos : Pos} {elts : List Expr} {kk : Nat} (hg : Gl X "enumerate") (hm : X.mg "enumerate" = none) (ha : PA X [e] ta) (hs : starEach [e] X.env = [(false, eval e X.env)] := by rfl) :
    PI X (.Tuple elts kk tpos) (.Call (.Name "enumerate" p) [e] [] pos) (iEnumT X.K ta) := by
  refine ⟨fun pins s σ H R I h => ?_⟩
  refine Call_ (ld_blt I hg hm boot_enumerate (PyProof.Rows.callWith_type1 (thn (ha.run pos pins s σ H _ I h) fun us s1 ⟨vs, H1, I1, r1, q1⟩ => ?_) hs rfl))
  obtain ⟨a, xs, ex, hq, q⟩ := q1
  subst ex
  cases r1 with
  | cons r rr =>
    cases rr
    cases r
    obtain ⟨its, rv, p', hz⟩ := I1.tuple hq
    have hT : s1.heap.IsTuple a its.toArray := p'
    have hal : a < s1.heap.objs.size := by obtain ⟨o, ho, _⟩ := hT; exact Heap.lt_size ho
    refine callEnumT hT fun h' he hit hsz hk => wpAny_pyIter_enum he ?_
    have I2 : Inv X pins σ H1 { s1 with heap := h' } := I1.kept (t' := s1.toks) hk
    refine ⟨s1.heap.objs.size + 1, [s1.heap.objs.size + 1, s1.heap.objs.size], _, _, H1, rfl, I2, turn_enumT a (s1.heap.objs.size + 1) s1.heap.objs.size, ⟨⟨.none, he⟩, hit, Nat.succ_ne_self _, Nat.ne_of_gt (Nat.lt_succ_of_lt hal), Nat.ne_of_lt hal⟩, fun b hb => ?_, q⟩
    have e' : b = s1.heap.objs.size + 1 ∨ b = s1.heap.objs.size := by simpa using hb
    have hle : s1.heap.objs.size ≤ b := by
      rcases e' with z | z
      · rw [z]; exact Nat.le_add_right _ _
      · rw [z]; exact Nat.le_refl _
    exact I1.fpOk hle (I1.hok.fresh hle)
theorem walk_enumT {K : PySem.W.Frag} {a : Addr} {xs : List V} : Walk (IteT K a) xs.length (fun H => SqT K H a xs) (YPair (fun i => some (.int (i : Nat))) (fun i => xs[i]?)) := by
  refine ⟨fun i _ hi q => ⟨xs, xs[i], q, by simp [hi]⟩, fun _ q => ⟨xs, q, Nat.le_refl _⟩, fun i H v H' _ q y => ?_⟩
  obtain ⟨T, x, h1, h2, h3, h4⟩ := y
  exact ⟨T, .int (i : Nat), x, h1, h2, h3, rfl, h4 xs q⟩
end K0
set_option Elab.async false
set_option linter.all false
set_option maxRecDepth 100000
set_option maxHeartbeats 4000000
namespace K0
open PySem PySem.Spec PyProof.Rows L2
/-- a loop over enumerate of a list or tuple of data -/
theorem tfor_en {K : PySem.W.Frag} {i : Nat} {a : Addr} {ds : List PyData} {g : TG} {tb : TS} {D : Ends} {σ : L2.St} {H H0 : Hp} (hv : σ[i]? = some (some (.ref a))) (h : Sq K H0 a ds) (Pv : Nat → L2.St → Hp → Prop) (h0 : Pv 0 σ H)
    (hl : ∀ j σ H', Pv j σ H' → ∀ o, H0 a = some o → H' a = some o)
    (hs : ∀ j v d σ H' T, ds[j]? = some d → Dt H0 v d → Pv j σ H' → H' T = none → g (.ref T) σ (upd H' T (.tup [.int (j : Nat), v])) fun σ2 H2 => tb { D with nx := Pv (j + 1), ct := Pv (j + 1), bk := D.nx } σ2 H2) (hd : ∀ σ H', Pv ds.length σ H' → D.nx σ H') :
    tFor (fun σ H R => iEnum K (tCons (tVar i) tNil) σ H R ∨ iEnumT K (tCons (tVar i) tNil) σ H R) g tb D σ H := by
  cases h with
  | @lst xs e h =>
    refine .inl ⟨_, hv, a, xs, rfl, SqL.of (hl 0 _ _ h0 _ e), for_it (walk_enum (K := K) (a := a) (xs := xs)) Pv h0 (fun j σ H' _ p => SqL.of (hl j σ H' p _ e)) (fun j v σ H' H2 hj p y => ?_) (fun σ H' p => ?_)⟩
    · obtain ⟨T, x, y, rfl, nT, rfl, e1, e2⟩ := y
      cases e1
      obtain ⟨d, hd, hdt⟩ := h.at e2
      exact hs j y d σ H' T hd hdt p nT
    · rw [h.len] at p
      exact hd σ H' p
  | @tup xs e h =>
    refine .inr ⟨_, hv, a, xs, rfl, SqT.of (hl 0 _ _ h0 _ e), for_it (walk_enumT (K := K) (a := a) (xs := xs)) Pv h0 (fun j σ H' _ p => SqT.of (hl j σ H' p _ e)) (fun j v σ H' H2 hj p y => ?_) (fun σ H' p => ?_)⟩
    · obtain ⟨T, x, y, rfl, nT, rfl, e1, e2⟩ := y
      cases e1
      obtain ⟨d, hd, hdt⟩ := h.at e2
      exact hs j y d σ H' T hd hdt p nT
    · rw [h.len] at p
      exact hd σ H' p
  | @frz o xs e h =>
    refine .inr ⟨_, hv, a, xs, rfl, SqT.frz (hl 0 _ _ h0 _ e), for_it (walk_enumT (K := K) (a := a) (xs := xs)) Pv h0 (fun j σ H' _ p => SqT.frz (hl j σ H' p _ e)) (fun j v σ H' H2 hj p y => ?_) (fun σ H' p => ?_)⟩
    · obtain ⟨T, x, y, rfl, nT, rfl, e1, e2⟩ := y
      cases e1
      obtain ⟨d, hd, hdt⟩ := h.at e2
      exact hs j y d σ H' T hd hdt p nT
    · rw [h.len] at p
      exact hd σ H' p
  | kon e z =>
    refine .inr ⟨_, hv, a, [], rfl, e _, for_it (walk_enumT (K := K) (a := a) (xs := [])) Pv h0 (fun j σ H' _ p => e _) (fun j v σ H' H2 hj p y => ?_) (fun σ H' p => ?_)⟩
    · cases hj
    · rw [z] at hd
      exact hd σ H' p
end K0
set_option Elab.async false
set_option linter.all false
set_option maxRecDepth 100000
set_option maxHeartbeats 4000000
/-! methods and operators of an own class that may raise -/
namespace K0
open PySem PySem.Spec PyProof.Rows L2
section
variable {X : Cx} {pins : List (Addr × Obj)} {σ : L2.St} {H : Hp} {s : Shared}
/-- a def of the text is called somewhere below -/
theorem run_any {A : Around} {n : Nat} {f : Addr} {fd : FuncData} {ps : List Str} {sp : Sp} {E : XK} {Q : VK} {vs : List V} {us : List Value} {CX : CXT} (sb : Sub X n A) (F : FnOk X.prog X.w X.K X.mg X.base CX n f fd ps sp) (hb : Binds X.K fd ps []) (hx : Passes CX X E)
    (I : Inv X pins σ H s) (r : Vals vs us) (h : sp vs H Q E) : wpAny (model X.prog X.w) A (call (.ref f) us) (EP X pins σ Q) X.xe s := by
  have e0 : Env0 X.prog X.w X.K X.mg X.base A X.stack s H := by
    have e := I.env0
    exact ⟨by rw [sb.fr]; exact e.frames, e.mod, e.bs, e.bsz, e.funs, e.frf, e.hok, e.bare⟩
  have hl := F.len _ _ _ _ h
  have hl2 : us.length = ps.length := by rw [← hl, r.length]
  refine wpAny_call (codeAny_mono (F.run A X.stack s H ⟨us, []⟩ us vs Q E sb.room e0 (by
    have := hb s us I.kIn (by simpa using hl2)
    simpa using this) r h) fun r s' hq => ?_)
  cases r with
  | error e => exact hx pins σ H s e s' I hq
  | ok fl =>
    cases fl with
    | ret w => exact I.after hq
    | next => exact False.elim hq
    | brk => exact False.elim hq
    | cont => exact False.elim hq
/-- a method of the class at C by its name, its promise -/
structure Mt (P : Program) (w : World) (K : PySem.W.Frag) (mg : Str → Option Value) (base : Heap) (C : Addr) (m : Str) (k : Nat) (ps : List Str) (sp : Sp) : Prop where
  ex : ∃ (f : Addr) (fd : FuncData), Cls K C ∧ Meth K C m f ∧ PySem.W.isFn K (.ref f) = true ∧ PySem.W.fnIn K f = true ∧ PySem.W.findIn K (.ref C) m = some (some (.ref f)) ∧ FnOk P w K mg base (L2.CX P w) k f fd ps sp ∧ Binds K fd ps []
variable {C : Addr} {m : Str} {k : Nat} {ps : List Str} {sp : Sp} {E : XK} {o e : Expr} {es : List Expr} {ta : TE} {t : TA} {apos pos : Pos}
theorem pe_mt1 {pl : Sem Bool} (T : Mt X.prog X.w X.K X.mg X.base C m k ps sp) (hr : Room k X.A) (hx : Passes (L2.CX X.prog X.w) X E) (he : PE X o ta) (ha : PA X (e :: es) t)
    (hst : starEach (e :: es) X.env = (false, eval e X.env) :: starEach es X.env := by rfl) (hpl : (backTo pos (starEach es X.env)).any (·.1) = false := by rfl)
    (ht : eval (.Call (.Attribute o m apos) (e :: es) [] pos) X.env = (do
      let ov ← eval o X.env
      standAt apos.atName
      let (f, first) ← holding [ov] (getMethod ov m pl)
      callWith pos f first (backTo pos (starEach (e :: es) X.env)) (backToKw pos (keywordEach [] X.env))) := by rfl) : PE X (.Call (.Attribute o m apos) (e :: es) [] pos) (tMeth C m sp [] E ta t) := by
  obtain ⟨f, fd, c, hm, _, _, _, F, b⟩ := T.ex
  exact pe_meth (pl := pl) he c hm F hr b .nil hx ha hst hpl ht
/-- len(o) -/
theorem cr_lenO (T : Mt X.prog X.w X.K X.mg X.base C "__len__" k ps sp) (hr : Room (k + 1) X.A) (hx : Passes (L2.CX X.prog X.w) X E) :
    CallR X (.builtin "len") (fun xs H Q => ∃ a dx fs, xs = [.ref a] ∧ H a = some (.ins C dx fs) ∧ sp [.ref a] H (fun v H2 => ∃ n : Nat, v = .int n ∧ n < 2 ^ 63 ∧ Q (.int n) H2) E) := by
  intro pins s σ H xs us Q I r h
  obtain ⟨a, dx, fs, rfl, ha, h⟩ := h
  obtain ⟨f, fd, c, hm, hfn, _, hs, F, b⟩ := T.ex
  obtain rfl := Vals.ref1 r
  obtain ⟨mA, J, _⟩ := ins_get I.hok ha
  obtain ⟨od, J, _⟩ := J.look
  obtain ⟨m, hF⟩ := I.fr
  refine PySem.W.len_K hF I.ok.mod.kin J hs hfn (wpAny_mono (run_any (vs := [.ref a]) (A := X.A.in1) ⟨hr.in1, rfl⟩ F b hx I (.cons rfl .nil) h) (fun r s' z => ?_) fun _ _ x => x)
  obtain ⟨w, H', I', rw', n, ew, hn, q⟩ := z
  subst ew
  obtain ⟨t, rfl⟩ := rw'
  exact ⟨⟨by omega, by omega⟩, .int n, H', I'.tok _, ⟨_, rfl⟩, q⟩
end
end K0
set_option Elab.async false
set_option linter.all false
set_option maxRecDepth 100000
set_option maxHeartbeats 4000000
namespace K0
open PySem PySem.Spec PyProof.Rows L2
section
variable {P : Program} {w : World} {K : PySem.W.Frag} {mg : Str → Option Value} {base : Heap}
/-- Web(many, clashes) -/
def spMk (K : PySem.W.Frag) (C CN CW : Addr) : Sp := fun vs H Q E => ∃ (a : Addr) (v : V) (d : PyData) (ds : List PyData), vs = [v, .ref a] ∧ Dt H v d ∧ Sq K H a ds ∧
  (okN 0 d = false → Rz CN [("name", .str "many")] H E) ∧
  (∀ n, d = .int n → 0 ≤ n → n ≤ 16 ∧ ds.length ≤ 62 ∧
    (∀ ps, entsOf n ds = .ok ps → ∀ q, Cl n q → (∀ z, z ∈ q ↔ z ∈ ps) → ∀ H' p, Same H H' → H p = none → WebAt C (New H H') p n q → Q (.ref p) H') ∧
    (∀ x y, entsOf n ds = .error (x, y) → ∀ H' e vx vy, Same H H' → Dt H' vx x → Dt H' vy y → H' e = some (.xd [("y", vy), ("x", vx)]) → E (.ref CW) (some e) H'))
/-- the class as it is called -/
structure WebK (P : Program) (w : World) (K : PySem.W.Frag) (mg : Str → Option Value) (base : Heap) (C CN CW : Addr) : Prop where
  g : mg "Web" = some (.ref C)
  ex : ∃ (f : Addr) (fd : FuncData), Mk K C f ∧ FnOk P w K mg base (L2.CX P w) 4 f fd ["self", "many", "clashes"] (spWi K C CN CW) ∧ Binds K fd ["self", "many", "clashes"] [] ∧
    ∃ e0 : Addr, (∀ H : Hp, SqT K H e0 []) ∧ Binds K fd ["self", "many", "clashes"] [.ref e0]
theorem spMk_in {C CN CW : Addr} {vs : List V} {H : Hp} {Q : VK} {E : XK} (h : spMk K C CN CW vs H Q E) (x dx : Addr) (nx : H x = none) (ndx : H dx = none) (ne : dx ≠ x) :
    spWi K C CN CW (.ref x :: vs) (upd (upd H dx (.own x)) x (.ins C dx [])) (fun v H2 => v = .non ∧ Q (.ref x) H2) E := by
  obtain ⟨a, v, d, ds, rfl, hv, hs, kn, kw⟩ := h
  have s1 : Same H (upd (upd H dx (.own x)) x (.ins C dx [])) := fun b o e => by
    rw [upd_ne (ne_of_none e nx), upd_ne (ne_of_none e ndx)]
    exact e
  have sX : ∀ {H'}, SameX x (upd (upd H dx (.own x)) x (.ins C dx [])) H' → Same H H' := fun {H'} z b o e => z b o (s1 b o e) (ne_of_none e nx)
  refine ⟨x, dx, a, v, d, ds, rfl, upd_same, hv.mono s1, hs.mono s1, fun bad H' e z he => kn bad H' e (sX z) he, fun n en h0 => ?_⟩
  obtain ⟨n8, n62, kq, ke⟩ := kw n en h0
  refine ⟨n8, n62, fun ps hps q hq hm H' z W => ⟨rfl, kq ps hps q hq hm H' x (sX z) nx (W.mono (new_mono (fun b e1 e2 => ?_) (Same.refl _)))⟩, fun y1 y2 he H' e vx vy z hx hy hd => ke y1 y2 he H' e vx vy (sX z) hx hy hd⟩
  by_cases eb : b = x
  · rw [eb]; exact nx
  · rw [del_ne eb, upd_ne eb] at e1
    by_cases ed : b = dx
    · rw [ed]; exact ndx
    · rw [upd_ne ed] at e1
      exact e1
section
variable {X : Cx} {C CN CW : Addr} {E : XK} {e : Expr} {es : List Expr} {t : TA} {p pos : Pos}
theorem pe_web (T : WebK X.prog X.w X.K X.mg X.base C CN CW) (hr : Room 5 X.A) (hg : Gl X "Web") (hx : Passes (L2.CX X.prog X.w) X E) (ha : PA X (e :: es) t)
    (he : starEach (e :: es) X.env = (false, eval e X.env) :: starEach es X.env := by rfl) (hpl : (backTo pos (starEach es X.env)).any (·.1) = false := by rfl) :
    PE X (.Call (.Name "Web" p) (e :: es) [] pos) (tCall (spMk X.K C CN CW) [] E t) := by
  obtain ⟨f, fd, M, F, b, _⟩ := T.ex
  refine ⟨fun pins s σ H Q I h => ?_⟩
  refine wpAny_Call_Name_kw (ld_glob I hg T.g ?_ (by decide))
  refine PySem.W.callWith_K (h₀ := X.base) I.ok.mod.kin M.kp (thn (ha.run pos pins s σ H _ I h) fun us s1 ⟨vs, H1, I1, r, q⟩ => ⟨I1.kIn, ?_⟩) he hpl
  refine run_make (dvs := []) M F hr b .nil hx I1 r fun x dx nx ndx ne => ?_
  rw [List.append_nil]
  have q : spMk X.K C CN CW (vs ++ []) H1 Q E := q
  rw [List.append_nil] at q
  exact spMk_in q x dx nx ndx ne
end
/-! ### what a web answers -/
variable {f : Addr} {fd : FuncData}
theorem hasP_out {n : Int} {q : List Pr} (h : Cl n q) {x y : Nat} (hy : n ≤ (y : Int)) : hasP q x y = false := by
  unfold hasP
  rw [Bool.or_eq_false_iff]
  refine ⟨decide_eq_false fun m => ?_, decide_eq_false fun m => ?_⟩
  · have := h.rng _ m
    dsimp only at this
    omega
  · have := h.rng _ m
    dsimp only at this
    omega
theorem mask_at {C : Addr} {H : Hp} {p : Addr} {n : Int} {q : List Pr} (W : WebAt C H p n q) (x : Nat) (hx : (x : Int) < n) : x < (mOf n.toNat q).length := by
  rw [mOf_len]
  have := W.n0
  omega
theorem mask_bits {C : Addr} {H : Hp} {p : Addr} {n : Int} {q : List Pr} (W : WebAt C H p n q) (x y : Nat) : ((mOf n.toNat q).getD x 0).testBit y = hasP q x y := by
  have := mOf_bit (n := n.toNat) (q := q) (by rw [Int.toNat_of_nonneg W.n0]; exact W.cl) x y
  exact this
theorem mask_small {C : Addr} {H : Hp} {p : Addr} {n : Int} {q : List Pr} (W : WebAt C H p n q) (x : Nat) : bitsN ((mOf n.toNat q).getD x 0) ≤ 16 := by
  have lt : (mOf n.toNat q).getD x 0 < 2 ^ 16 := Nat.lt_pow_two_of_testBit _ fun i hi => by
    rw [mask_bits W]
    exact hasP_out W.cl (by have := W.n8; omega)
  unfold bitsN Builtin.Int.intBits
  split
  · exact Nat.zero_le _
  · rename_i z
    rw [Int.natAbs_natCast]
    have nz : (mOf n.toNat q).getD x 0 ≠ 0 := by simpa using z
    have := (Nat.log2_lt nz).mpr lt
    omega
end
end K0
set_option Elab.async false
set_option linter.all false
set_option maxRecDepth 100000
set_option maxHeartbeats 4000000
namespace K0
open PySem PySem.Spec PyProof.Rows L2
section
variable {P : Program} {w : World} {K : PySem.W.Frag} {mg : Str → Option Value} {base : Heap} {f : Addr} {fd : FuncData}
/-- near -/
def nearOf (n : Int) (q : List Pr) (x : Nat) : List Nat := (List.range n.toNat).filter (hasP q x)
end
end K0
set_option Elab.async false
set_option linter.all false
set_option maxRecDepth 100000
set_option maxHeartbeats 4000000
namespace K0
open PySem PySem.Spec PyProof.Rows L2
theorem prD_lay (z : Pr) : (prD z).canLay0 = true := by simp [prD, PyData.canLay0, PyData.canLayAll0]
theorem prs_lay : ∀ zs : List Pr, PyData.canLayAll0 (zs.map prD) = true
  | [] => by simp [PyData.canLayAll0]
  | z :: zs => by rw [List.map_cons]; simp only [PyData.canLayAll0]; rw [prD_lay, prs_lay zs]; rfl
theorem prD_depth (z : Pr) : (prD z).depth ≤ 1 := by simp [prD, PyData.depth, PyData.depthAll]
theorem prs_depth : ∀ zs : List Pr, PyData.depthAll (zs.map prD) ≤ 1
  | [] => by simp [PyData.depthAll]
  | z :: zs => by rw [List.map_cons]; simp only [PyData.depthAll]; exact Nat.max_le.mpr ⟨prD_depth z, prs_depth zs⟩
theorem prsL_shaped (zs : List Pr) : SeqAt.shaped (.list (zs.map prD)) = true := by
  unfold SeqAt.shaped
  rw [Bool.and_eq_true, decide_eq_true_iff]
  refine ⟨by simp only [PyData.canLay0]; exact prs_lay zs, ?_⟩
  simp only [PyData.depth]
  have := prs_depth zs
  omega
section
variable {P : Program} {w : World} {K : PySem.W.Frag} {mg : Str → Option Value} {base : Heap} {f : Addr} {fd : FuncData}
/-- what isinstance and == ask of the class -/
structure WebI (K : PySem.W.Frag) (C : Addr) : Prop extends WebC K C where
  ha : PySem.W.findIn K (.ref C) "__class__" = some (some (.builtin "object.__class__"))
  hn : PySem.W.specialIn K (.builtin "object.__class__") "__get__" = some (some (.builtin "getset_descriptor.__get__"))
  tk : PySem.W.takesIn K (.builtin "object.__class__") = some true
  hm : PySem.W.mroIn K C (.type "object") = some true
  yes : PySem.W.kitOne K (.ref C) (.ref C) = some true
  no : ∀ T ∈ ["NoneType", "bool", "int", "str", "list", "tuple"], PySem.W.kitOne K (.type T) (.ref C) = some false
  nf : ∀ T ∈ ["int", "list"], PySem.W.notFirst K C (.type T) = true
theorem WebI.ty {C : Addr} (T : WebI K C) {H : Hp} {p : Addr} {n : Int} {q : List Pr} (W : WebAt C H p n q) : TyX K H (.ref p) (.ref C) := by
  obtain ⟨⟨ddx, c, m, l, h1, _⟩, _⟩ := W
  exact .base (.ins h1 T.cl T.ha T.hn T.tk T.hm)
theorem WebAt.tuple {C : Addr} {H : Hp} {p : Addr} {n : Int} {q : List Pr} (W : WebAt C H p n q) : ∃ (dx c m : Addr) (xs : List V), H p = some (.ins C dx (wf n c m)) ∧ H c = some (.tup xs) ∧ DtAll H xs (q.map prD) := by
  obtain ⟨⟨dx, c, m, l, h1, h2, h3, h4, h5⟩, _⟩ := W
  exact ⟨dx, c, m, _, h1, h2, by rw [h3, List.map_map]; exact dtAll_prs h4⟩
end
end K0
set_option Elab.async false
set_option linter.all false
set_option maxRecDepth 100000
set_option maxHeartbeats 4000000
namespace K0
open PySem PySem.Spec PyProof.Rows L2
theorem entsOf_prs {n : Int} : ∀ {zs : List Pr}, (∀ z ∈ zs, 0 ≤ z.1 ∧ z.1 < z.2 ∧ z.2 < n) → entsOf n (zs.map prD) = .ok zs
  | [], _ => rfl
  | z :: zs, h => by
    have ih := entsOf_prs (zs := zs) fun y hy => h y (List.mem_cons_of_mem _ hy)
    obtain ⟨x, y⟩ := z
    obtain ⟨a, b, c⟩ := h (x, y) List.mem_cons_self
    dsimp only at a b c
    have e : entOf n (prD (x, y)) = .ok (x, y) := by
      unfold entOf prD pairOf
      dsimp only
      rw [if_pos ⟨a, by omega, by omega, c, by omega⟩]
      congr 2
      · omega
      · omega
    rw [List.map_cons, entsOf, e, ih]
/-- what fresh tuples of pairs stand for -/
def PrsAt (H : Hp) (l : List (Addr × Pr)) : Prop := ∀ z ∈ l, H z.1 = some (.tup [.int z.2.1, .int z.2.2])
theorem PrsAt.mono {H H' : Hp} (s : Same H H') {l : List (Addr × Pr)} (h : PrsAt H l) : PrsAt H' l := fun z hz => s _ _ (h z hz)
end K0
set_option Elab.async false
set_option linter.all false
set_option maxRecDepth 100000
set_option maxHeartbeats 4000000
namespace K0
open PySem PySem.Spec PyProof.Rows L2
theorem prD_shaped (z : Pr) : SeqAt.shaped (prD z) = true := by
  unfold SeqAt.shaped
  rw [Bool.and_eq_true, decide_eq_true_iff]
  exact ⟨prD_lay z, by have := prD_depth z; omega⟩
theorem prD_eqv (a b : Pr) : PyData.eqv (prD a) (prD b) = decide (a = b) := PySem.W.Datum.eqv a b
section
variable {X : Cx} {o e : Expr} {es : List Expr} {to : TE} {t : TA} {apos cpos : Pos}
/-- o.append(e) -/
theorem pe_lapp (ho : PE X o to) (ha : PA X (e :: es) t)
    (hbase : attributeBase o "append" X.env (eval o X.env) = eval o X.env := by rfl)
    (hfew : ((backTo cpos (starEach (e :: es) X.env)).all (fun x => !x.1) && (backToKw cpos (keywordEach [] X.env)).all (fun x => x.1.isSome)
      && decide ((e :: es).length + ([] : List Keyword).length + (if ([] : List Keyword).isEmpty then 0 else 1) < 30)) = true := by rfl)
    (hline : (apos.endLine == cpos.line) = true := by rfl) (hs : starEach (e :: es) X.env = (false, eval e X.env) :: starEach es X.env := by rfl) (hplain : (backTo cpos (starEach es X.env)).any (·.1) = false := by rfl) :
    PE X (.Call (.Attribute o "append" apos) (e :: es) [] cpos) (tBM X.K "list" rAppend to t) :=
  pe_bm PySem.F.plainAttrs_list PySem.F.slot_list_append PySem.F.type_list_append mt_append ho ha hbase hfew hline hs hplain
end
end K0
set_option Elab.async false
set_option linter.all false
set_option maxRecDepth 100000
set_option maxHeartbeats 4000000
/-! several clauses, each with or without a name -/
namespace K0
open PySem PySem.Spec PyProof.Rows L2
abbrev Clause := Value × Option Nat × (Addr → Value → Option Addr → TS)
/-- how a clause's suite ends where its name's slot is i -/
def gone (i : Nat) (D : Ends) : Ends := { nx := fun σ' H' => D.nx (σ'.set i none) H', rt := D.rt, bk := fun σ' H' => D.bk (σ'.set i none) H', ct := fun σ' H' => D.ct (σ'.set i none) H' }
def wCl (K : PySem.W.Frag) (Wout : WX) (D : Ends) : List Clause → WX
  | [] => Wout
  | (c, none, ts) :: r => fun cls d σ H => ∃ b, PySem.W.exmOne K cls c = some b ∧ (b = true → ∀ a, H a = none → ts a cls d D σ H) ∧ (b = false → wCl K Wout D r cls d σ H)
  | (c, some i, ts) :: r => fun cls d σ H => ∃ b, PySem.W.exmOne K cls c = some b ∧ (b = true → ∀ a, H a = none → ts a cls d (gone i D) (σ.set i (some (.ref a))) H) ∧ (b = false → wCl K Wout D r cls d σ H)
inductive ClsOk (X : Cx) : List ExceptHandler → List Clause → Prop
  | nil : ClsOk X [] []
  | cons {x : Str} {c : Value} {ts : Addr → Value → Option Addr → TS} {b₀ : Stmt} {suite : List Stmt} {np pos' : Pos} {hds : List ExceptHandler} {l : List Clause} (hc : Names X x c)
      (hsu : ∀ (a : Addr) (oe : Obj) (cls : Value) (d : Option Addr) (pn : List (Addr × Obj)), Zc cls d oe → (∃ vs, oe.data = .fields vs) → PSs (X.suite a ((a, oe) :: pn)) (b₀ :: suite) (ts a cls d)) (r : ClsOk X hds l) :
      ClsOk X (.ExceptHandler (some (.Name x np)) none (b₀ :: suite) pos' :: hds) ((c, none, ts) :: l)
  | as {x n : Str} {c : Value} {i : Nat} {ts : Addr → Value → Option Addr → TS} {b₀ : Stmt} {suite : List Stmt} {np pos' : Pos} {hds : List ExceptHandler} {l : List Clause} (hN : X.N.Nodup) (hi : X.N[i]? = some n) (hln : X.env.kindOf n = some .local) (hc : Names X x c)
      (hsu : ∀ (a : Addr) (oe : Obj) (cls : Value) (d : Option Addr) (pn : List (Addr × Obj)), Zc cls d oe → (∃ vs, oe.data = .fields vs) → PSs (X.suite a ((a, oe) :: pn)) (b₀ :: suite) (ts a cls d)) (r : ClsOk X hds l) :
      ClsOk X (.ExceptHandler (some (.Name x np)) (some n) (b₀ :: suite) pos' :: hds) ((c, some i, ts) :: l)
section
variable {X : Cx} {body : List Stmt} {h₀ : ExceptHandler} {hds : List ExceptHandler} {l : List Clause} {pos : Pos} {tb : WX → TS} {Wout : WX}
theorem ps_try_any (hs : X.stack = X.env :: X.outer) (hf : X.env.frame = some X.env.locals) (tk : Takes X Wout)
    (hb : ∀ (W : WX) (pn : List (Addr × Obj)) (xe : Value → Shared → Prop), Takes (X.tr pn xe) W → PassesOwn (model X.prog X.w) X.A X.env xe → PSs (X.tr pn xe) body (tb W))
    (hh : ClsOk X (h₀ :: hds) l) : PS X (.Try body (h₀ :: hds) [] [] pos) (fun D σ H => tb (wCl X.K Wout D l) D σ H) := by
  refine ⟨fun pins s σ H D I h => ?_⟩
  have ok := I.ok
  have hfr : X.A.frames = some (X.env :: X.outer) := by rw [ok.frames, hs]
  refine wpAny_Try_except ?_
  refine wpAny_mono ((hb (wCl X.K Wout D l) (X.pn ++ pins) (fun e s₁ => wpAny (model X.prog X.w) X.A (noteFrame e X.env) (fun _ s₂ => wpAny (model X.prog X.w) X.A (setFlight e none) (fun _ s₃ =>
    wpAny (model X.prog X.w) X.A (handleBy e X.env (h₀ :: hds)) (SP X pins D) X.xe s₃) X.xe s₂) X.xe s₁) (fun u s' xx => ?_) PassesOwn.looking).run [] s σ H D (I.toTry _) h) (fun f s1 hsp => ?_) (fun e s1 he => he)
  · obtain ⟨a, B, sI, pins', σ', H', cls, d, rfl, J', nb, up, sky, na, os, ag, w⟩ := xx
    have J : Inv X pins σ' H' sI := J'.ofTry ok
    have sky' : Sky B (X.env :: X.outer) a (Zc cls d) X.env.locals s'.heap := by rw [← hs]; exact sky
    show wpAny (model X.prog X.w) X.A (noteFrame (.ref a) X.env) _ _ _
    refine Sky.land Zc.steady hfr hf sky' fun h3 fl3 up3 => ?_
    have J3 : Inv X pins σ' H' { s' with heap := h3 } := J.landed nb fl3.1 (up.trans up3) os ag
    obtain ⟨oe3, vs3, he3, hz3, hd3⟩ := fl3.there
    have notFr : ∀ {h : Heap} {o : Obj} {vs : Array Value}, h.FunFrames B (X.env :: X.outer) → h.get? a = some o → o.data = .fields vs → a ∉ frs (X.env :: X.outer) := fun {h o vs} ff e dd hm => by
      obtain ⟨_, o', e', hnf⟩ := ff.mem hm
      rw [e] at e'
      cases e'
      exact hnf _ dd
    have nfr := notFr fl3.2.2.1 he3 hd3
    have nL : a ≠ X.env.locals := fun z => nfr (List.mem_filterMap.mpr ⟨X.env, List.mem_cons_self, by rw [hf, z]⟩)
    have nF : a ∉ X.fs := fun hm => by
      obtain ⟨e, he, q⟩ := List.mem_filterMap.mp hm
      exact nfr (List.mem_filterMap.mpr ⟨e, List.mem_cons_of_mem _ he, q⟩)
    have S3 := J3.suite he3 hd3 na nL nF
    have LT : PySem.W.Looks (model X.prog X.w) h3 (typeOf (.ref a)) cls := fun A Q E s k q => wpAny_typeOf_ref (k _ _ he3) (by rw [hz3.1]; exact q)
    have test : ∀ {x : Str} {np : Pos} {c : Value} {Q : Value → Shared → Prop} {E : Value → Shared → Prop}, Names X x c → Q c { s' with heap := h3 } → wpAny (model X.prog X.w) (X.A.mark (some (.ref a))) (eval (.Name x np) X.env) Q E { s' with heap := h3 } := fun {x np c Q E} hc q => by
      obtain ⟨hg, hdbg, hm | ⟨hm, hv, hnn⟩⟩ := hc
      · exact ld_glob (X := X.suite a ((a, oe3) :: (X.pn ++ pins))) S3 hg hm q hdbg
      · exact ld_blt (X := X.suite a ((a, oe3) :: (X.pn ++ pins))) S3 hg hm hv q hnn hdbg
    have go : ∀ {hds' : List ExceptHandler} {l' : List Clause}, ClsOk X hds' l' → wCl X.K Wout D l' cls d σ' H' → wpAny (model X.prog X.w) X.A (handleBy (.ref a) X.env hds') (SP X pins D) X.xe { s' with heap := h3 } := by
      intro hds' l' hk
      induction hk with
      | nil =>
        intro w
        refine wpAny_handleBy_nil ?_
        obtain ⟨k1, k2, k3, oe, vs, T, oT, ts', he, hz, hd, h1, hr⟩ := id fl3
        unfold PySem.passOn
        refine wpAny_bind (wpAny_field he hd h1 ?_)
        rw [if_neg (show ¬ ((Value.ref T == Value.none) = true) from by simp)]
        have fin : wpAny (model X.prog X.w) X.A (setFlight (.ref a) X.env.frame) (fun _ s4 => wpAny (model X.prog X.w) X.A (throw (.ref a) : Sem Flow) (SP X pins D) X.xe s4) X.xe { s' with heap := h3 } := by
          rw [hf]
          refine HandSPX.setFlight_upZ fl3 fun h4 hh4 up4 => wpAny_throw (tk _ _ ?_)
          exact ⟨a, B, sI, pins, σ', H', cls, d, rfl, J, nb, (up.trans up3).trans up4, .inr (.inr (by rw [hs]; exact hh4)), na, os, ag, w⟩
        first
          | exact wpAny_bind (wpAny_pure (wpAny_bind fin))
          | exact wpAny_bind fin
      | @cons x c ts b₀ suite np pos' hds2 l2 hc hsu r ih =>
        intro w
        obtain ⟨b, hb1, hyes, hno⟩ := w
        refine wpAny_handleBy_cons (codeAny_handlers_test ?_) (by intro q; cases q)
        have LM := PySem.W.exm_one (M := model X.prog X.w) (J3.kIn) LT hb1
        refine test hc (LM.here ?_)
        cases b with
        | true =>
          refine codeAny_handlers_suite ?_
          refine HandSPX.lands_againZ fl3 fun h4 fl4 up4 => ?_
          have J4 : Inv X pins σ' H' { s' with heap := h4 } := J.landed nb fl4.1 ((up.trans up3).trans up4) os ag
          obtain ⟨oe4, vs4, he4, hz4, hd4⟩ := fl4.there
          have S4 := J4.suite he4 hd4 na nL nF
          refine wpAny_mono ((hsu a oe4 cls d (X.pn ++ pins) hz4 ⟨_, hd4⟩).run [] _ _ H' _ S4 (hyes rfl a na)) (fun f s6 hsp => ?_) (fun _ _ z => False.elim z)
          cases f with
          | next =>
            obtain ⟨σ6, H6, S6, q6⟩ := hsp
            exact ⟨_, _, S6.unsuite ok, q6⟩
          | brk =>
            obtain ⟨σ6, H6, S6, q6⟩ := hsp
            exact ⟨_, _, S6.unsuite ok, q6⟩
          | cont =>
            obtain ⟨σ6, H6, S6, q6⟩ := hsp
            exact ⟨_, _, S6.unsuite ok, q6⟩
          | ret u =>
            obtain ⟨v6, σ6, H6, S6, r6, q6⟩ := hsp
            exact ⟨_, _, _, S6.unsuite ok, r6, q6⟩
        | false =>
          show wpAny _ X.A (handleBy (.ref a) X.env hds2) _ _ _
          exact ih (hno rfl)
      | @as x n c i ts b₀ suite np pos' hds2 l2 hN hi hln hc hsu r ih =>
        intro w
        obtain ⟨b, hb1, hyes, hno⟩ := w
        refine wpAny_handleBy_cons (codeAny_handlers_test ?_) (by intro q; cases q)
        have LM := PySem.W.exm_one (M := model X.prog X.w) (J3.kIn) LT hb1
        refine test hc (LM.here ?_)
        cases b with
        | true =>
          refine codeAny_handlers_suite_as ?_
          refine HandSPX.lands_againZ fl3 fun h4 fl4 up4 => ?_
          have J4 : Inv X pins σ' H' { s' with heap := h4 } := J.landed nb fl4.1 ((up.trans up3).trans up4) os ag
          obtain ⟨oe4, vs4, he4, hz4, hd4⟩ := fl4.there
          have S4 := J4.suite he4 hd4 na nL nF
          refine store_ok (X := X.suite a ((a, oe4) :: (X.pn ++ pins))) (v := .ref a) S4 hN hi (.inl hln) rfl (fun s5 S5 => ?_) (.inr hln)
          refine wpAny_mono ((hsu a oe4 cls d (X.pn ++ pins) hz4 ⟨_, hd4⟩).run [] s5 _ H' _ S5 (hyes rfl a na)) (fun f s6 hsp => ?_) (fun _ _ z => False.elim z)
          have end_ : ∀ {σ6 : L2.St} {H6 : Hp} {Q : Shared → Prop}, Inv (X.suite a ((a, oe4) :: (X.pn ++ pins))) [] σ6 H6 s6 → (∀ s7, Inv X pins (σ6.set i none) H6 s7 → Q s7) →
              wpAny (model X.prog X.w) X.A (do bindName X.env n .none; unbindBehindTheSuite X.env n pos') (fun _ s7 => Q s7) X.xe s6 := fun {σ6 H6 Q} S6 hq => gone_ok (S6.unsuite ok) hN hi hln hq
          cases f with
          | next =>
            obtain ⟨σ6, H6, S6, q6⟩ := hsp
            exact end_ S6 fun s7 J7 => ⟨_, _, J7, q6⟩
          | brk =>
            obtain ⟨σ6, H6, S6, q6⟩ := hsp
            exact end_ S6 fun s7 J7 => ⟨_, _, J7, q6⟩
          | cont =>
            obtain ⟨σ6, H6, S6, q6⟩ := hsp
            exact end_ S6 fun s7 J7 => ⟨_, _, J7, q6⟩
          | ret u =>
            obtain ⟨v6, σ6, H6, S6, r6, q6⟩ := hsp
            exact end_ S6 fun s7 J7 => ⟨_, _, _, J7, r6, q6⟩
        | false =>
          show wpAny _ X.A (handleBy (.ref a) X.env hds2) _ _ _
          exact ih (hno rfl)
    exact go hh w
  · cases f with
    | next =>
      obtain ⟨σ', H', J', q⟩ := hsp
      exact wpAny_execs_nil ⟨σ', H', J'.ofTry ok, q⟩
    | brk =>
      obtain ⟨σ', H', J', q⟩ := hsp
      exact ⟨σ', H', J'.ofTry ok, q⟩
    | cont =>
      obtain ⟨σ', H', J', q⟩ := hsp
      exact ⟨σ', H', J'.ofTry ok, q⟩
    | ret u =>
      obtain ⟨v, σ', H', J', r, q⟩ := hsp
      exact ⟨v, σ', H', J'.ofTry ok, r, q⟩
end
end K0
set_option Elab.async false
set_option linter.all false
set_option maxRecDepth 100000
set_option maxHeartbeats 4000000
namespace K0
open PySem PySem.Spec PyProof.Rows L2
/-! ### the law's small helpers -/
theorem passE0 {X : Cx} : Passes (L2.CX X.prog X.w) X (fun _ _ _ => False) := fun _ _ _ _ _ _ _ hq => by
  obtain ⟨_, _, _, _, _, _, _, _, _, _, _, _, z⟩ := hq
  exact z.elim
theorem intsT_lay : ∀ ns : List Int, PyData.canLayAll0 (ns.map PyData.int) = true
  | [] => by simp [PyData.canLayAll0]
  | n :: r => by rw [List.map_cons]; simp only [PyData.canLayAll0, PyData.canLay0]; rw [intsT_lay r]; rfl
theorem intsT_depth : ∀ ns : List Int, PyData.depthAll (ns.map PyData.int) ≤ 0
  | [] => by simp [PyData.depthAll]
  | n :: r => by rw [List.map_cons]; simp only [PyData.depthAll, PyData.depth]; exact Nat.max_le.mpr ⟨Nat.le_refl _, intsT_depth r⟩
theorem intsT_shaped (ns : List Int) : SeqAt.shaped (.tuple (ns.map PyData.int)) = true := by
  unfold SeqAt.shaped
  rw [Bool.and_eq_true, decide_eq_true_iff]
  refine ⟨by simp only [PyData.canLay0]; exact intsT_lay ns, ?_⟩
  simp only [PyData.depth]
  have := intsT_depth ns
  omega
theorem intsL_shaped (ns : List Int) : SeqAt.shaped (.list (ns.map PyData.int)) = true := by
  unfold SeqAt.shaped
  rw [Bool.and_eq_true, decide_eq_true_iff]
  refine ⟨by simp only [PyData.canLay0]; exact intsT_lay ns, ?_⟩
  simp only [PyData.depth]
  have := intsT_depth ns
  omega
theorem ints_eqv (a b : List Int) : PyData.eqvAll (a.map PyData.int) (b.map PyData.int) = decide (a = b) := PySem.W.eqvAll_map a b
theorem intsT_eqv (a b : List Int) : PyData.eqv (.tuple (a.map PyData.int)) (.tuple (b.map PyData.int)) = decide (a = b) := by
  rw [PyData.eqv]
  exact ints_eqv a b
theorem intsL_eqv (a b : List Int) : PyData.eqv (.list (a.map PyData.int)) (.list (b.map PyData.int)) = decide (a = b) := by
  rw [PyData.eqv]
  exact ints_eqv a b
end K0
set_option Elab.async false
set_option linter.all false
set_option maxRecDepth 100000
set_option maxHeartbeats 4000000
namespace K0
open PySem PySem.Spec PyProof.Rows L2
/-! ### rows of ints -/
abbrev Rw := List Int
def rwD (r : Rw) : PyData := .tuple (r.map PyData.int)
theorem dta_ints {H : Hp} : ∀ {xs : List V} {r : List Int}, DtAll H xs (r.map PyData.int) → xs = r.map V.int
  | [], [], _ => rfl
  | _ :: _, [], h => by cases h
  | [], _ :: _, h => by cases h
  | x :: xs, n :: r, h => by
    cases h with
    | cons a b =>
      cases a
      rw [dta_ints b, List.map_cons]
theorem dt_row {H : Hp} {v : V} {r : Rw} (h : Dt H v (rwD r)) : ∃ a, v = .ref a ∧ H a = some (.tup (r.map V.int)) := by
  cases h with
  | tup e h => exact ⟨_, rfl, by rw [e, dta_ints h]⟩
theorem dta_row {H : Hp} {xs : List V} {rs : List Rw} {i : Nat} {v : V} (h : DtAll H xs (rs.map rwD)) (e : xs[i]? = some v) : ∃ r a, rs[i]? = some r ∧ v = .ref a ∧ H a = some (.tup (r.map V.int)) := by
  obtain ⟨d, hd, h⟩ := h.at e
  rw [List.getElem?_map] at hd
  obtain ⟨r, hr, rfl⟩ := Option.map_eq_some_iff.mp hd
  obtain ⟨a, ea, ha⟩ := dt_row h
  exact ⟨r, a, hr, ea, ha⟩
end K0
set_option Elab.async false
set_option linter.all false
set_option maxRecDepth 100000
set_option maxHeartbeats 4000000
namespace K0
open PySem PySem.Spec PyProof.Rows L2
section
variable {P : Program} {w : World} {K : PySem.W.Frag} {mg : Str → Option Value} {base : Heap} {f : Addr} {fd : FuncData}
def SqP (H : Hp) (b : Addr) (qs : List Pr) : Prop := ∃ ys, (H b = some (.lst ys) ∨ H b = some (.tup ys)) ∧ DtAll H ys (qs.map prD)
theorem SqP.mono {H H' : Hp} (s : Same H H') {b : Addr} {qs : List Pr} : SqP H b qs → SqP H' b qs := fun ⟨ys, h, d⟩ => ⟨ys, h.elim (fun z => .inl (s _ _ z)) fun z => .inr (s _ _ z), d.mono s⟩
end
end K0
set_option Elab.async false
set_option linter.all false
set_option maxRecDepth 100000
set_option maxHeartbeats 4000000
namespace K0
open PySem PySem.Spec PyProof.Rows L2
/-! ### rows of pairs that grow in their order -/
structure Lx (n : Int) (P : Pr → Prop) (i c : Int) (rs : List Pr) : Prop where
  srt : rs.Pairwise plt
  mem : ∀ z, z ∈ rs ↔ (0 ≤ z.1 ∧ z.1 < z.2 ∧ z.2 < n) ∧ (z.1 < i ∨ (z.1 = i ∧ z.2 < c)) ∧ P z
theorem Lx.start {n : Int} {P : Pr → Prop} : Lx n P 0 1 [] := ⟨.nil, fun z => ⟨fun h => (by cases h), fun ⟨h1, h2, _⟩ => (by omega)⟩⟩
theorem Lx.row {n : Int} {P : Pr → Prop} {i : Int} {rs : List Pr} (h : Lx n P i n rs) : Lx n P (i + 1) (i + 2) rs := ⟨h.srt, fun z => by
  rw [h.mem]
  constructor
  · rintro ⟨h1, h2, h3⟩
    exact ⟨h1, by omega, h3⟩
  · rintro ⟨h1, h2, h3⟩
    exact ⟨h1, by omega, h3⟩⟩
theorem Lx.skip {n : Int} {P : Pr → Prop} {i c : Int} {rs : List Pr} (h : Lx n P i c rs) (no : ¬ P (i, c)) : Lx n P i (c + 1) rs := ⟨h.srt, fun z => by
  rw [h.mem]
  constructor
  · rintro ⟨h1, h2, h3⟩
    exact ⟨h1, by omega, h3⟩
  · rintro ⟨h1, h2, h3⟩
    refine ⟨h1, ?_, h3⟩
    rcases h2 with h2 | ⟨h2, h4⟩
    · exact .inl h2
    · refine .inr ⟨h2, ?_⟩
      rcases Int.lt_or_le z.2 c with h5 | h5
      · exact h5
      · exact absurd h3 (by rw [show z = (i, c) from Prod.ext h2 (by omega)]; exact no)⟩
theorem Lx.add {n : Int} {P : Pr → Prop} {i c : Int} {rs : List Pr} (h : Lx n P i c rs) (yes : P (i, c)) (r : 0 ≤ i ∧ i < c ∧ c < n) : Lx n P i (c + 1) (rs ++ [(i, c)]) := ⟨by
  rw [List.pairwise_append]
  refine ⟨h.srt, by simp, fun a ha b hb => ?_⟩
  rw [List.mem_singleton.mp hb]
  have := ((h.mem a).mp ha).2.1
  exact this, fun z => by
  rw [List.mem_append, h.mem, List.mem_singleton]
  constructor
  · rintro (⟨h1, h2, h3⟩ | e)
    · exact ⟨h1, by omega, h3⟩
    · rw [e]
      exact ⟨r, .inr ⟨rfl, by dsimp only; omega⟩, yes⟩
  · rintro ⟨h1, h2, h3⟩
    by_cases e : z = (i, c)
    · exact .inr e
    · refine .inl ⟨h1, ?_, h3⟩
      rcases h2 with h2 | ⟨h2, h4⟩
      · exact .inl h2
      · refine .inr ⟨h2, ?_⟩
        rcases Int.lt_or_le z.2 c with h5 | h5
        · exact h5
        · exact absurd (Prod.ext h2 (by omega)) e⟩
theorem Lx.change {n : Int} {P P' : Pr → Prop} {i c : Int} {rs : List Pr} (h : Lx n P i c rs) (e : ∀ z, (z.1 < i ∨ (z.1 = i ∧ z.2 < c)) → (P z ↔ P' z)) : Lx n P' i c rs := ⟨h.srt, fun z => by
  rw [h.mem]
  exact and_congr Iff.rfl (and_congr_right fun b => e z b)⟩
theorem Lx.fin {n : Int} {P : Pr → Prop} {c : Int} {rs : List Pr} (h : Lx n P n c rs) : ∀ z, z ∈ rs ↔ (0 ≤ z.1 ∧ z.1 < z.2 ∧ z.2 < n) ∧ P z := fun z => by
  rw [h.mem]
  constructor
  · rintro ⟨h1, _, h3⟩
    exact ⟨h1, h3⟩
  · rintro ⟨h1, h3⟩
    exact ⟨h1, .inl (by omega), h3⟩
theorem Lx.cl {n : Int} {P : Pr → Prop} {i c : Int} {rs : List Pr} (h : Lx n P i c rs) : Cl n rs := ⟨h.srt, fun z hz => ((h.mem z).mp hz).1⟩
/-- the list at D holds the new pairs rs -/
def Grow (H : Hp) (D : Addr) (rs : List Pr) : Prop := ∃ l : List (Addr × Pr), H D = some (.lst (l.map fun z => V.ref z.1)) ∧ l.map (·.2) = rs ∧ PrsAt H l
theorem Grow.mono {H H' : Hp} {D : Addr} {rs : List Pr} (s : Same H H') : Grow H D rs → Grow H' D rs := fun ⟨l, h, e, p⟩ => ⟨l, s _ _ h, e, p.mono s⟩
theorem Grow.push {H : Hp} {D u : Addr} {rs : List Pr} {x y : Int} (g : Grow H D rs) (nu : H u = none) {xs : List V} (hx : H D = some (.lst xs)) : Grow (upd (upd H u (.tup [.int x, .int y])) D (.lst (xs ++ [.ref u]))) D (rs ++ [(x, y)]) := by
  obtain ⟨l, h, e, p⟩ := g
  rw [h] at hx
  cases hx
  refine ⟨l ++ [(u, (x, y))], by rw [upd_same, List.map_append]; rfl, by rw [List.map_append, e]; rfl, fun z hz => ?_⟩
  have s2 : Same H (upd H u (.tup [.int x, .int y])) := same_upd nu
  have hz2 : (upd H u (.tup [.int x, .int y])) z.1 = some (.tup [.int z.2.1, .int z.2.2]) := by
    rcases List.mem_append.mp hz with hz | hz
    · exact s2 _ _ (p z hz)
    · rw [List.mem_singleton.mp hz]
      exact upd_same
  have zD : z.1 ≠ D := fun e => by
    rw [e, s2 _ _ h] at hz2
    cases hz2
  rw [upd_ne zD]
  exact hz2
theorem Grow.at {H : Hp} {D : Addr} {rs : List Pr} (g : Grow H D rs) : ∃ xs, H D = some (.lst xs) ∧ xs.length = rs.length ∧ DtAll H xs (rs.map prD) := by
  obtain ⟨l, h, e, p⟩ := g
  refine ⟨_, h, by rw [← e, List.length_map, List.length_map], ?_⟩
  rw [← e, List.map_map]
  exact dtAll_prs p
theorem prs_any {q : List Pr} {p : Pr} : ((q.map prD).any fun z => PyData.eqv z (prD p)) = decide (p ∈ q) := by
  induction q with
  | nil => rfl
  | cons a q ih =>
    rw [List.map_cons, List.any_cons, ih, prD_eqv]
    by_cases e : a = p
    · subst e; simp
    · have : ¬ p = a := fun z => e z.symm
      simp [e, this]
/-- a list of pairs -/
def Ls (H : Hp) (b : Addr) (q : List Pr) : Prop := ∃ ys, H b = some (.lst ys) ∧ DtAll H ys (q.map prD)
theorem Ls.mono {H H' : Hp} (s : Same H H') {b : Addr} {q : List Pr} : Ls H b q → Ls H' b q := fun ⟨ys, h, d⟩ => ⟨ys, s _ _ h, d.mono s⟩
theorem Ls.dp {K : PySem.W.Frag} {H : Hp} {b : Addr} {q : List Pr} : Ls H b q → Dp K H (.ref b) (.list (q.map prD)) := fun ⟨ys, h, d⟩ => (Dt.lst h d).dp
theorem Ls.sq {K : PySem.W.Frag} {H : Hp} {b : Addr} {q : List Pr} : Ls H b q → Sq K H b (q.map prD) := fun ⟨ys, h, d⟩ => .lst h d
theorem Grow.ls {H : Hp} {D : Addr} {rs : List Pr} (g : Grow H D rs) : Ls H D rs := let ⟨xs, h, _, d⟩ := g.at; ⟨xs, h, d⟩
end K0
set_option Elab.async false
set_option linter.all false
set_option maxRecDepth 100000
set_option maxHeartbeats 4000000
namespace K0
open PySem PySem.Spec PyProof.Rows L2
theorem hasP_mm {n : Int} {q : List Pr} (h : Cl n q) (x y : Nat) : decide (((min (x : Int) y, max (x : Int) y) : Pr) ∈ q) = hasP q x y := by
  unfold hasP
  rw [Bool.eq_iff_iff, Bool.or_eq_true, decide_eq_true_iff, decide_eq_true_iff, decide_eq_true_iff]
  rcases Nat.lt_trichotomy x y with c | c | c
  · rw [show min (x : Int) y = x by omega, show max (x : Int) y = y by omega]
    refine ⟨.inl, fun z => z.elim (fun z => z) fun z => ?_⟩
    have := h.rng _ z
    dsimp only at this
    omega
  · subst c
    rw [show min (x : Int) x = x by omega, show max (x : Int) x = x by omega]
    exact ⟨.inl, fun z => z.elim (fun z => z) fun z => z⟩
  · rw [show min (x : Int) y = y by omega, show max (x : Int) y = x by omega]
    refine ⟨.inr, fun z => z.elim (fun z => ?_) fun z => z⟩
    have := h.rng _ z
    dsimp only at this
    omega
def rMinI : List V → Hp → VK → Prop := fun xs H Q => ∃ i j : Int, xs = [.int i, .int j] ∧ Q (.int (if j < i then j else i)) H
def rMaxI : List V → Hp → VK → Prop := fun xs H Q => ∃ i j : Int, xs = [.int i, .int j] ∧ Q (.int (if j > i then j else i)) H
theorem c_min {X : Cx} (hc : X.calm = true) : CallR X (.builtin "min") rMinI := call_min2 hc
theorem c_max {X : Cx} (hc : X.calm = true) : CallR X (.builtin "max") rMaxI := call_max2 hc
section
variable {P : Program} {w : World} {K : PySem.W.Frag} {mg : Str → Option Value} {base : Heap} {f : Addr} {fd : FuncData}
abbrev s_ne : Stmt := top 54
/-- _law_near -/
def spNe : Sp := fun vs H Q _ => ∃ (b : Addr) (n : Int) (x : Nat) (q : List Pr), vs = [.int n, .ref b, .int (x : Int)] ∧ 0 ≤ n ∧ n ≤ 16 ∧ Cl n q ∧ Ls H b q ∧ ∀ H' a, Same H H' → H a = none → H' a = some (.lst (nvs (nearOf n q x))) → Q (.ref a) H'
theorem sc_ne : FnScope ["_law_many", "_law_pairs", "_law_x", "_law_y"] ["_law_many", "_law_pairs", "_law_x"] (defScope s_ne) := ⟨rfl, rfl, rfl, by decide +kernel, rfl, by decide +kernel, by decide +kernel⟩
theorem ok_ne (F : Fun K "_law_near" "_law_near" s_ne f fd) (B : Blt2 mg) : FnOk P w K mg base (L2.CX P w) 2 f fd ["_law_many", "_law_pairs", "_law_x"] spNe := by
  refine F.okX sc_ne (fun vs H Q E h => ?_) (fun cdv A outer s H vs Q E hr h => ?_)
  · obtain ⟨b, n, x, q, rfl, _⟩ := h
    rfl
  · obtain ⟨b, n, x, q, rfl, n0, n8, cl, hl, k⟩ := h
    have nd := sc_ne.nd
    have hu : (A.deeper (envOfC "_law_near" (defScope s_ne) s.heap.objs.size f cdv)).units + 65 < cLine := by have := hr.un; omega
    refine ⟨_, pss_one (ps_ret (pe_lc (own := [("_law_y", 3)]) (g := gName 3)
      (tt := tTest (tOp (rInD K) (tTup (tCons (tCB rMinI (tCons (tVar 2) (tCons (tVar 3) tNil))) (tCons (tCB rMaxI (tCons (tVar 2) (tCons (tVar 3) tNil))) tNil))) (tVar 1)))
      (te := tVar 3) rfl nd (pi_range1 (by rfl) B.range (pa_cons (pv 0) pa_nil))
        (blkOk_by (N := ["_law_many", "_law_pairs", "_law_x", "_law_y"]) (sc := defScope s_ne) (by decide +kernel)) (fun _ _ _ _ _ => pg_name (i := 3) nd rfl (.inl rfl))
        (fun _ _ _ _ _ => pts_one (pt_cmpR (op_inD hu) (pe_tup (pa_cons (pe_callB (c_min rfl) (by rfl) B.min (by decide +kernel) (pa_cons (pv 2) (pa_cons (pv 3) pa_nil))) (pa_cons (pe_callB (c_max rfl) (by rfl) B.max (by decide +kernel) (pa_cons (pv 2) (pa_cons (pv 3) pa_nil))) pa_nil))) (pv 1) (by rfl))) (fun _ _ _ _ _ => pv 3))), ?_⟩
    refine ⟨_, rfl, n, rfl, by omega, by omega, fun D nD => ?_⟩
    refine lc_range (lo := 0) (n := n.toNat) (fun i H' => Same H H' ∧ H' D = some (.lst (nvs (((List.range n.toNat).take i).filter (hasP q x))))) ⟨same_upd nD, upd_same⟩ (fun i H' hi ⟨sm, hD⟩ => ?_) (fun H' ⟨sm, hD⟩ => ?_)
    · refine ⟨rfl, ?_⟩
      rw [Int.zero_add]
      refine ⟨_, rfl, _, rfl, _, _, rfl, _, rfl, _, rfl, _, _, rfl, (by show 2 ≤ sizeLine; decide), fun t nt => ?_⟩
      rw [min2, max2]
      have s2 : Same H' (upd H' t (.tup [.int (min (x : Int) i), .int (max (x : Int) i)])) := same_upd nt
      refine ⟨_, rfl, prD (min (x : Int) i, max (x : Int) i), _, (dt_pr (p := (min (x : Int) i, max (x : Int) i)) upd_same).dp, (hl.mono (sm.trans s2)).dp, prD_shaped _, prsL_shaped _, _, rfl, ?_⟩
      rw [prs_any, hasP_mm cl]
      cases e : hasP q x i with
      | false =>
        refine iteF ⟨sm.trans s2, ?_⟩
        rw [filter_take _ _ hi, e, s2 _ _ hD]
        simp
      | true =>
        refine iteT ⟨_, rfl, _, s2 _ _ hD, ?_, fun b o eb => ?_, ?_⟩
        · rw [nvs_len, sizeLine_eq]
          have g1 := List.length_filter_le (hasP q x) ((List.range n.toNat).take i)
          rw [List.length_take, List.length_range] at g1
          omega
        · rw [upd_ne (ne_of_none eb nD)]
          exact s2 _ _ (sm _ _ eb)
        · rw [upd_same, filter_take _ _ hi, e]
          unfold nvs
          rw [List.map_append]
          rfl
    · rw [List.take_of_length_le (by rw [List.length_range]; exact Nat.le_refl _)] at hD
      exact k H' D sm nD hD
def rLenI (K : PySem.W.Frag) : List V → Hp → VK → Prop := fun xs H Q => ∃ p ys, xs = [.ref p] ∧ (SqL K H p ys ∨ SqT K H p ys) ∧ Q (.int ys.length) H
theorem c_len {X : Cx} : CallR X (.builtin "len") (rLenI X.K) := call_len_seq
end
end K0
set_option Elab.async false
set_option linter.all false
set_option maxRecDepth 100000
set_option maxHeartbeats 4000000
namespace K0
open PySem PySem.Spec PyProof.Rows L2
section
variable {P : Program} {w : World} {K : PySem.W.Frag} {mg : Str → Option Value} {base : Heap} {f : Addr} {fd : FuncData}
theorem same_keep {H H' : Hp} {D : Addr} {o : HO} (n : H D = none) (s : Same H H') : Same H (upd H' D o) := fun b u e => by
  rw [upd_ne (ne_of_none e n)]
  exact s b u e
end
end K0
set_option Elab.async false
set_option linter.all false
set_option maxRecDepth 100000
set_option maxHeartbeats 4000000
namespace K0
open PySem PySem.Spec PyProof.Rows L2
/-- draws that are left -/
def DrO (H : Hp) (d : Addr) : Prop := ∃ ns : List Int, H d = some (.lst (ns.map V.int)) ∧ ∀ k ∈ ns, 0 ≤ k
def DrN (H : Hp) (d : Addr) (n : Nat) : Prop := ∃ ns : List Int, H d = some (.lst (ns.map V.int)) ∧ (∀ k ∈ ns, 0 ≤ k) ∧ ns.length ≤ n
theorem same_del {H H' : Hp} {d : Addr} (s : Same (del H d) H') : Same (del H d) (del H' d) := fun b o e => by
  by_cases hb : b = d
  · rw [hb, del_same] at e
    cases e
  · rw [del_ne hb]
    exact s b o e
theorem del_sub {H : Hp} {d : Addr} : Same (del H d) H := fun b o e => by
  by_cases hb : b = d
  · rw [hb, del_same] at e
    cases e
  · rw [del_ne hb] at e
    exact e
theorem del_upd {H : Hp} {d : Addr} {o : HO} : Same (del H d) (upd H d o) := fun b u e => by
  by_cases hb : b = d
  · rw [hb, del_same] at e
    cases e
  · rw [del_ne hb] at e
    rw [upd_ne hb]
    exact e
section
variable {X : Cx} {o e : Expr} {to : TE} {apos cpos : Pos}
theorem pe_lpop (ho : PE X o to) (hbase : attributeBase o "pop" X.env (eval o X.env) = eval o X.env := by rfl) (hline : (apos.endLine == cpos.line) = true := by rfl) :
    PE X (.Call (.Attribute o "pop" apos) [] [] cpos) (tBM0 X.K "list" rPop to) := pe_bm0 PySem.F.plainAttrs_list PySem.F.slot_list_pop PySem.F.type_list_pop mt_pop ho hbase hline
theorem pe_lrev (ho : PE X o to) (hbase : attributeBase o "reverse" X.env (eval o X.env) = eval o X.env := by rfl) (hline : (apos.endLine == cpos.line) = true := by rfl) :
    PE X (.Call (.Attribute o "reverse" apos) [] [] cpos) (tBM0 X.K "list" rReverse to) := pe_bm0 PySem.F.plainAttrs_list PySem.F.slot_list_reverse PySem.F.type_list_reverse mt_reverse ho hbase hline
end
section
variable {P : Program} {w : World} {K : PySem.W.Frag} {mg : Str → Option Value} {base : Heap} {f : Addr} {fd : FuncData}
abbrev s_tk : Stmt := top 51
abbrev s_dr : Stmt := top 50
/-- _law_take -/
def spTk : Sp := fun vs H Q _ => ∃ (d : Addr) (m : Int), vs = [.ref d, .int m] ∧ 0 < m ∧ DrO H d ∧ ∀ r H', 0 ≤ r → r < m → Same (del H d) H' → DrO H' d → Q (.int r) H'
theorem sc_tk : FnScope ["_law_draws_here", "_law_many"] ["_law_draws_here", "_law_many"] (defScope s_tk) := ⟨rfl, rfl, rfl, by decide +kernel, rfl, by decide +kernel, by decide +kernel⟩
theorem ok_tk (F : Fun K "_law_take" "_law_take" s_tk f fd) (B : Blt2 mg) : FnOk P w K mg base (L2.CX P w) 1 f fd ["_law_draws_here", "_law_many"] spTk := by
  refine F.okX sc_tk (fun vs H Q E h => ?_) (fun cdv A outer s H vs Q E hr h => ?_)
  · obtain ⟨d, m, rfl, _⟩ := h
    rfl
  · obtain ⟨d, m, rfl, m0, ⟨ns, hd, nn⟩, k⟩ := h
    refine ⟨_, pss_cons (ps_if (pt_cmpR op_eq (pe_callB call_len_seq (by rfl) B.len PySem.boot_len (pa_cons (pv 0) pa_nil)) pe_int (nomark _)) (pss_one (ps_ret pe_int)) pss_nil)
      (pss_one (ps_ret (pe_op op_mod (pe_callTy call_int1 (by rfl) B.int (by decide +kernel) (pa_cons (pe_lpop (pv 0)) pa_nil)) (pv 1)))), ?_⟩
    refine ⟨_, rfl, d, _, rfl, .inl (SqL.of hd), rfl, _, rfl, ?_⟩
    rw [dec_int, List.length_map]
    by_cases e : ns = []
    · subst e
      exact iteT (k 0 H (Int.le_refl _) m0 del_sub ⟨[], hd, nn⟩)
    · have l0 : 0 < ns.length := List.length_pos_iff.mpr e
      rw [show (((ns.length : Nat) : Int) == 0) = false by rw [beq_eq_false_iff_ne]; omega]
      have hlt : ns.length - 1 < ns.length := by omega
      refine iteF ⟨_, rfl, .inl ⟨rfl, _, SqL.of hd⟩, d, _, .int ns[ns.length - 1], rfl, rfl, hd, by rw [List.length_map, List.getElem?_map, List.getElem?_eq_getElem hlt]; rfl, ?_⟩
      refine .inl ⟨_, rfl, _, rfl, _, _, rfl, rfl, m0, ?_⟩
      refine k _ _ (Int.emod_nonneg _ (by omega)) (Int.emod_lt_of_pos _ m0) del_upd ⟨ns.dropLast, by rw [upd_same, List.map_dropLast], fun j hj => nn j (List.dropLast_subset _ hj)⟩
/-- _law_draws -/
def spDr (K : PySem.W.Frag) : Sp := fun vs H Q _ => ∃ (l : Addr) (ms : List Int), vs = [.ref l] ∧ SqL K H l (ms.map V.int) ∧ ∀ H' d, Same H H' → H d = none → DrO H' d → Q (.ref d) H'
theorem sc_dr : FnScope ["_law_script", "_law_draws_here", "_law_at", "_law_cell", "_law_k", "_law_number"] ["_law_script"] (defScope s_dr) := ⟨rfl, rfl, rfl, by decide +kernel, rfl, by decide +kernel, by decide +kernel⟩
theorem DrN.push {H : Hp} {d : Addr} {n : Nat} {x : Int} (h : DrN H d n) (hx : 0 ≤ x) {xs : List V} (e : H d = some (.lst xs)) : DrN (upd H d (.lst (xs ++ [.int x]))) d (n + 1) := by
  obtain ⟨ns, h1, h2, h3⟩ := h
  rw [h1] at e
  cases e
  refine ⟨ns ++ [x], by rw [upd_same, List.map_append]; rfl, fun k hk => ?_, by rw [List.length_append]; exact Nat.add_le_add_right h3 1⟩
  rcases List.mem_append.mp hk with hk | hk
  · exact h2 k hk
  · rw [List.mem_singleton.mp hk]
    exact hx
theorem DrN.at {H : Hp} {d : Addr} {n : Nat} (h : DrN H d n) : ∃ xs, H d = some (.lst xs) ∧ xs.length ≤ n := by
  obtain ⟨ns, h1, h2, h3⟩ := h
  exact ⟨_, h1, by rw [List.length_map]; exact h3⟩
theorem DrN.up {H : Hp} {d : Addr} {n m : Nat} (h : DrN H d n) (l : n ≤ m) : DrN H d m := by
  obtain ⟨ns, h1, h2, h3⟩ := h
  exact ⟨ns, h1, h2, Nat.le_trans h3 l⟩
theorem SqL.sm {K : PySem.W.Frag} {H H' : Hp} {a : Addr} {xs : List V} (h : SqL K H a xs) (s : Same H H') : SqL K H' a xs := h.ext fun b o e => s b o e
theorem ok_dr (F : Fun K "_law_draws" "_law_draws" s_dr f fd) (B : Blt2 mg) : FnOk P w K mg base (L2.CX P w) 1 f fd ["_law_script"] (spDr K) := by
  refine F.okX sc_dr (fun vs H Q E h => ?_) (fun cdv A outer s H vs Q E hr h => ?_)
  · obtain ⟨l, ms, rfl, _⟩ := h
    rfl
  · obtain ⟨l, ms, rfl, hl, k⟩ := h
    have nd := sc_dr.nd
    refine ⟨_, pss_cons (ps_set (i := 1) nd rfl (.inl rfl) (pe_lst pa_nil))
      (pss_cons (ps_for (passes_of rfl) rfl (pi_range1 (by rfl) B.range (pa_cons (pe_callB (c_min rfl) (by rfl) B.min (by decide +kernel) (pa_cons (pe_callB c_len (by rfl) B.len PySem.boot_len (pa_cons (pv 0) pa_nil)) (pa_cons pe_int pa_nil))) pa_nil)) (pg_name (i := 2) nd rfl (.inl rfl))
        (pss_cons (ps_set (i := 3) nd rfl (.inl rfl) (pe_callTy call_int1 (by rfl) B.int (by decide +kernel) (pa_cons (pe_ix ix_list (pv 0) (pv 2) (fun _ _ => rfl)) pa_nil)))
        (pss_cons (ps_if (pt_cmpR op_lt (pv 3) pe_int (nomark _)) (pss_one (ps_set (i := 3) nd rfl (.inl rfl) (pe_op op_sub pe_int (pv 3)))) pss_nil)
        (pss_one (ps_if (pt_cmpR op_ge (pv 3) (pe_op op_pow pe_int pe_int) (nomark _))
          (pss_one (ps_for (passes_of rfl) rfl (pi_range1 (by rfl) B.range (pa_cons pe_int pa_nil)) (pg_name (i := 4) nd rfl (.inl rfl))
            (pss_one (ps_if (pt_cmpR op_gt (pv 3) pe_int (nomark _))
              (pss_cons (ps_expr (pe_lapp (pv 1) (pa_cons (pe_op op_mod (pe_callTy call_int1 (by rfl) B.int (by decide +kernel) (pa_cons (pv 3) pa_nil)) pe_int) pa_nil)))
              (pss_one (ps_set (i := 3) nd rfl (.inl rfl) (pe_op op_fdiv (pv 3) pe_int)))) pss_nil))))
          (pss_cons (ps_set (i := 5) nd rfl (.inl rfl) (pe_op op_mod (pe_callTy call_int1 (by rfl) B.int (by decide +kernel) (pa_cons (pe_op op_add (pe_op op_add (pe_op op_mul (pv 3) pe_int) (pe_op op_mul (pv 2) pe_int)) pe_int) pa_nil)) pe_int))
          (pss_one (ps_for (passes_of rfl) rfl (pi_range1 (by rfl) B.range (pa_cons pe_int pa_nil)) (pg_name (i := 4) nd rfl (.inl rfl))
            (pss_cons (ps_set (i := 5) nd rfl (.inl rfl) (pe_op op_mod (pe_callTy call_int1 (by rfl) B.int (by decide +kernel) (pa_cons (pe_op op_add (pe_op op_add (pe_op op_add (pe_op op_mul (pv 5) (pv 5)) (pe_op op_mul (pv 4) pe_int)) (pv 2)) pe_int) pa_nil)) pe_int))
            (pss_one (ps_expr (pe_lapp (pv 1) (pa_cons (pv 5) pa_nil)))))))))))))
      (pss_cons (ps_expr (pe_lrev (pv 1)))
      (pss_one (ps_ret (pv 1))))), ?_⟩
    refine ⟨by show 0 ≤ sizeLine; exact Nat.zero_le _, fun D nD => ?_⟩
    have s0 : Same H (upd H D (.lst [])) := same_upd nD
    have eL : (ms.map V.int).length = ms.length := List.length_map _
    refine ⟨_, rfl, l, _, rfl, .inl (SqL.sm hl s0), _, _, rfl, ?_⟩
    rw [eL]
    obtain ⟨J, eJ⟩ : ∃ J : Int, J = if (63 : Int) < ((ms.length : Nat) : Int) then 63 else ((ms.length : Nat) : Int) := ⟨_, rfl⟩
    rw [← eJ]
    have hJ : 0 ≤ J ∧ J ≤ 63 ∧ J ≤ ((ms.length : Nat) : Int) := by
      rw [eJ]
      split <;> omega
    let P1 : Nat → L2.St → Hp → Prop := fun i σ H' => ∃ o2 o3 o4 o5, σ = [some (.ref l), some (.ref D), o2, o3, o4, o5] ∧ Same H H' ∧ DrN H' D (60 * i)
    refine ⟨J, rfl, by omega, by omega, for_range (n := J.toNat) P1 ⟨none, none, none, none, rfl, s0, [], upd_same, (fun k hk => by cases hk), Nat.zero_le _⟩ (fun i σ H' hi h => ?_) (fun σ H' h => ?_)⟩
    · obtain ⟨o2, o3, o4, o5, rfl, sm, dn⟩ := h
      rw [Int.zero_add]
      have hi2 : i < ms.length := by omega
      have at0 : atI (ms.map V.int) (i : Int) = some (V.int ms[i]) := atI_nat (by rw [List.getElem?_map, List.getElem?_eq_getElem hi2]; rfl)
      refine ⟨_, rfl, _, rfl, l, _, (i : Int), _, rfl, rfl, SqL.sm hl sm, at0, .inl ⟨_, rfl, ?_⟩⟩
      generalize ms[i] = c
      refine ⟨_, rfl, _, _, rfl, rfl, _, rfl, ?_⟩
      by_cases c0 : c < 0
      · rw [decide_eq_true c0]
        refine iteT ⟨_, rfl, _, _, rfl, rfl, ?_⟩
        have c1 : 0 ≤ 1 - c := by omega
        refine ⟨_, rfl, _, _, rfl, rfl, ⟨by decide, by decide, by decide⟩, _, _, rfl, rfl, decide ((1000000000000000000 : Int) ≤ (1 - c)), rfl, ?_⟩
        by_cases big : (1000000000000000000 : Int) ≤ (1 - c)
        · rw [decide_eq_true big]
          refine iteT ?_
          let P2 : Nat → L2.St → Hp → Prop := fun t σ H' => ∃ o4 c, σ = [some (.ref l), some (.ref D), some (.int (i : Int)), some (.int c), o4, o5] ∧ 0 ≤ c ∧ Same H H' ∧ DrN H' D (60 * i + t)
          refine ⟨60, rfl, by decide, by decide, for_range (n := 60) P2 ⟨o4, (1 - c), rfl, c1, sm, dn⟩ (fun t σ H2 ht h => ?_) (fun σ H2 h => ?_)⟩
          · obtain ⟨o4, c, rfl, c1, sm, dn⟩ := h
            refine ⟨_, rfl, _, _, rfl, rfl, _, rfl, ?_⟩
            by_cases g0 : 0 < c
            · rw [decide_eq_true g0]
              obtain ⟨xs, hx, lx⟩ := dn.at
              refine iteT ⟨_, rfl, .inl ⟨rfl, xs, SqL.of hx⟩, _, rfl, .inl ⟨_, rfl, _, _, rfl, rfl, (by show (0 : Int) < 24; decide), D, xs, _, rfl, rfl, hx, by rw [sizeLine_eq]; omega, ?_⟩⟩
              refine ⟨_, rfl, _, _, rfl, rfl, ⟨by decide, by decide⟩, _, c / 24, rfl, Int.ediv_nonneg c1 (by decide), same_keep nD sm, dn.push (Int.emod_nonneg _ (by decide)) hx⟩
            · rw [decide_eq_false g0]
              exact iteF ⟨_, c, rfl, c1, sm, dn.up (by omega)⟩
          · obtain ⟨o4, c, rfl, c1, sm, dn⟩ := h
            exact ⟨_, _, _, _, rfl, sm, dn.up (by omega)⟩
        · rw [decide_eq_false big]
          have cl : (1 - c) < 1000000000000000000 := Int.not_le.mp big
          refine iteF ⟨_, rfl, _, _, rfl, rfl, .inl ⟨by omega, by omega⟩, _, rfl, _, _, rfl, rfl, .inl ⟨by omega, by omega⟩, _, _, rfl, rfl, _, _, rfl, rfl, .inl ⟨_, rfl, _, _, rfl, rfl, (by show (0 : Int) < 2147483647; decide), ?_⟩⟩
          have v1 : 0 ≤ ((1 - c) * 48947 + (i : Int) * 60493 + 7) % 2147483647 ∧ ((1 - c) * 48947 + (i : Int) * 60493 + 7) % 2147483647 < 2147483647 := ⟨Int.emod_nonneg _ (by decide), Int.emod_lt_of_pos _ (by decide)⟩
          let P3 : Nat → L2.St → Hp → Prop := fun t σ H' => ∃ o4 v, σ = [some (.ref l), some (.ref D), some (.int (i : Int)), some (.int (1 - c)), o4, some (.int v)] ∧ (0 ≤ v ∧ v < 2147483647) ∧ Same H H' ∧ DrN H' D (60 * i + t)
          refine ⟨6, rfl, by decide, by decide, for_range (n := 6) P3 ⟨o4, ((1 - c) * 48947 + (i : Int) * 60493 + 7) % 2147483647, rfl, v1, sm, dn⟩ (fun t σ H2 ht h => ?_) (fun σ H2 h => ?_)⟩
          · obtain ⟨o4, v, rfl, v1, sm, dn⟩ := h
            refine ⟨_, rfl, _, rfl, _, _, rfl, rfl, .inl ⟨by omega, by omega⟩, _, rfl, _, _, rfl, rfl, .inl ⟨by omega, by omega⟩, _, _, rfl, rfl, _, rfl, _, _, rfl, rfl, _, _, rfl, rfl, .inl ⟨_, rfl, _, _, rfl, rfl, (by show (0 : Int) < 2147483587; decide), ?_⟩⟩
            have w1 : 0 ≤ (v * v + (0 + (t : Int)) * 38447 + (i : Int) + 11) % 2147483587 ∧ (v * v + (0 + (t : Int)) * 38447 + (i : Int) + 11) % 2147483587 < 2147483587 := ⟨Int.emod_nonneg _ (by decide), Int.emod_lt_of_pos _ (by decide)⟩
            obtain ⟨xs, hx, lx⟩ := dn.at
            refine ⟨_, rfl, .inl ⟨rfl, xs, SqL.of hx⟩, _, rfl, D, xs, _, rfl, rfl, hx, by rw [sizeLine_eq]; omega, ?_⟩
            exact ⟨_, (v * v + (0 + (t : Int)) * 38447 + (i : Int) + 11) % 2147483587, rfl, ⟨w1.1, Int.lt_trans w1.2 (by decide)⟩, same_keep nD sm, dn.push w1.1 hx⟩
          · obtain ⟨o4, v, rfl, v1, sm, dn⟩ := h
            exact ⟨_, _, _, _, rfl, sm, dn.up (by omega)⟩
      · rw [decide_eq_false c0]
        refine iteF ?_
        have c1 : 0 ≤ c := by omega
        refine ⟨_, rfl, _, _, rfl, rfl, ⟨by decide, by decide, by decide⟩, _, _, rfl, rfl, decide ((1000000000000000000 : Int) ≤ c), rfl, ?_⟩
        by_cases big : (1000000000000000000 : Int) ≤ c
        · rw [decide_eq_true big]
          refine iteT ?_
          let P2 : Nat → L2.St → Hp → Prop := fun t σ H' => ∃ o4 c, σ = [some (.ref l), some (.ref D), some (.int (i : Int)), some (.int c), o4, o5] ∧ 0 ≤ c ∧ Same H H' ∧ DrN H' D (60 * i + t)
          refine ⟨60, rfl, by decide, by decide, for_range (n := 60) P2 ⟨o4, c, rfl, c1, sm, dn⟩ (fun t σ H2 ht h => ?_) (fun σ H2 h => ?_)⟩
          · obtain ⟨o4, c, rfl, c1, sm, dn⟩ := h
            refine ⟨_, rfl, _, _, rfl, rfl, _, rfl, ?_⟩
            by_cases g0 : 0 < c
            · rw [decide_eq_true g0]
              obtain ⟨xs, hx, lx⟩ := dn.at
              refine iteT ⟨_, rfl, .inl ⟨rfl, xs, SqL.of hx⟩, _, rfl, .inl ⟨_, rfl, _, _, rfl, rfl, (by show (0 : Int) < 24; decide), D, xs, _, rfl, rfl, hx, by rw [sizeLine_eq]; omega, ?_⟩⟩
              refine ⟨_, rfl, _, _, rfl, rfl, ⟨by decide, by decide⟩, _, c / 24, rfl, Int.ediv_nonneg c1 (by decide), same_keep nD sm, dn.push (Int.emod_nonneg _ (by decide)) hx⟩
            · rw [decide_eq_false g0]
              exact iteF ⟨_, c, rfl, c1, sm, dn.up (by omega)⟩
          · obtain ⟨o4, c, rfl, c1, sm, dn⟩ := h
            exact ⟨_, _, _, _, rfl, sm, dn.up (by omega)⟩
        · rw [decide_eq_false big]
          have cl : c < 1000000000000000000 := Int.not_le.mp big
          refine iteF ⟨_, rfl, _, _, rfl, rfl, .inl ⟨by omega, by omega⟩, _, rfl, _, _, rfl, rfl, .inl ⟨by omega, by omega⟩, _, _, rfl, rfl, _, _, rfl, rfl, .inl ⟨_, rfl, _, _, rfl, rfl, (by show (0 : Int) < 2147483647; decide), ?_⟩⟩
          have v1 : 0 ≤ (c * 48947 + (i : Int) * 60493 + 7) % 2147483647 ∧ (c * 48947 + (i : Int) * 60493 + 7) % 2147483647 < 2147483647 := ⟨Int.emod_nonneg _ (by decide), Int.emod_lt_of_pos _ (by decide)⟩
          let P3 : Nat → L2.St → Hp → Prop := fun t σ H' => ∃ o4 v, σ = [some (.ref l), some (.ref D), some (.int (i : Int)), some (.int c), o4, some (.int v)] ∧ (0 ≤ v ∧ v < 2147483647) ∧ Same H H' ∧ DrN H' D (60 * i + t)
          refine ⟨6, rfl, by decide, by decide, for_range (n := 6) P3 ⟨o4, (c * 48947 + (i : Int) * 60493 + 7) % 2147483647, rfl, v1, sm, dn⟩ (fun t σ H2 ht h => ?_) (fun σ H2 h => ?_)⟩
          · obtain ⟨o4, v, rfl, v1, sm, dn⟩ := h
            refine ⟨_, rfl, _, rfl, _, _, rfl, rfl, .inl ⟨by omega, by omega⟩, _, rfl, _, _, rfl, rfl, .inl ⟨by omega, by omega⟩, _, _, rfl, rfl, _, rfl, _, _, rfl, rfl, _, _, rfl, rfl, .inl ⟨_, rfl, _, _, rfl, rfl, (by show (0 : Int) < 2147483587; decide), ?_⟩⟩
            have w1 : 0 ≤ (v * v + (0 + (t : Int)) * 38447 + (i : Int) + 11) % 2147483587 ∧ (v * v + (0 + (t : Int)) * 38447 + (i : Int) + 11) % 2147483587 < 2147483587 := ⟨Int.emod_nonneg _ (by decide), Int.emod_lt_of_pos _ (by decide)⟩
            obtain ⟨xs, hx, lx⟩ := dn.at
            refine ⟨_, rfl, .inl ⟨rfl, xs, SqL.of hx⟩, _, rfl, D, xs, _, rfl, rfl, hx, by rw [sizeLine_eq]; omega, ?_⟩
            exact ⟨_, (v * v + (0 + (t : Int)) * 38447 + (i : Int) + 11) % 2147483587, rfl, ⟨w1.1, Int.lt_trans w1.2 (by decide)⟩, same_keep nD sm, dn.push w1.1 hx⟩
          · obtain ⟨o4, v, rfl, v1, sm, dn⟩ := h
            exact ⟨_, _, _, _, rfl, sm, dn.up (by omega)⟩
    · obtain ⟨o2, o3, o4, o5, rfl, sm, dn⟩ := h
      obtain ⟨ns, h1, h2, h3⟩ := dn
      refine ⟨_, rfl, .inl ⟨rfl, _, SqL.of h1⟩, D, _, rfl, rfl, h1, _, rfl, ?_⟩
      exact k _ D (same_keep nD sm) nD ⟨ns.reverse, by rw [upd_same, List.map_reverse], fun j hj => h2 j (List.mem_reverse.mp hj)⟩
end
end K0
set_option Elab.async false
set_option linter.all false
set_option maxRecDepth 100000
set_option maxHeartbeats 4000000
namespace K0
open PySem PySem.Spec PyProof.Rows L2
theorem del_upd_ne {H : Hp} {a d : Addr} {o : HO} (h : a ≠ d) : del (upd H a o) d = upd (del H d) a o := by
  funext b
  by_cases hb : b = d
  · rw [hb, del_same, upd_ne h.symm, del_same]
  · rw [del_ne hb]
    by_cases ha : b = a
    · rw [ha, upd_same, upd_same]
    · rw [upd_ne ha, upd_ne ha, del_ne hb]
theorem DrO.ne {H : Hp} {d u : Addr} (h : DrO H d) (n : H u = none) : u ≠ d := fun e => by
  obtain ⟨ns, h1, _⟩ := h
  rw [e, h1] at n
  cases n
theorem DrO.upd {H : Hp} {d u : Addr} {o : HO} (h : DrO H d) (n : u ≠ d) : DrO (upd H u o) d := by
  obtain ⟨ns, h1, h2⟩ := h
  exact ⟨ns, by rw [upd_ne n.symm]; exact h1, h2⟩
/-- new things, the draws apart -/
theorem sd_upd {H H' : Hp} {d u : Addr} {o : HO} (s : Same (del H d) H') (n : H u = none) (ne : u ≠ d) : Same (del H d) (upd H' u o) := fun b v e => by
  have : b ≠ u := fun z => by
    rw [z, del_ne ne, n] at e
    cases e
  rw [upd_ne this]
  exact s b v e
theorem sd_trans {H H1 H2 : Hp} {d : Addr} (a : Same (del H d) H1) (b : Same (del H1 d) H2) : Same (del H d) H2 := (same_del a).trans b
theorem sd_none {H H' : Hp} {d a : Addr} (s : Same (del H d) H') (n : H' a = none) (ne : a ≠ d) : H a = none := by
  cases e : H a with
  | none => rfl
  | some o =>
    have := s a o (by rw [del_ne ne]; exact e)
    rw [this] at n
    cases n
end K0
set_option Elab.async false
set_option linter.all false
set_option maxRecDepth 100000
set_option maxHeartbeats 4000000
namespace K0
open PySem PySem.Spec PyProof.Rows L2
/-! ### calls whose exceptions are caught here -/
section
variable {X : Cx} {pins : List (Addr × Obj)} {σ : L2.St} {H : Hp} {s : Shared}
theorem run_anyS {A : Around} {n : Nat} {f : Addr} {fd : FuncData} {ps : List Str} {sp : Sp} {E : XK} {Q : VK} {vs : List V} {us : List Value} {CX : CXT} (sb : Sub X n A) (F : FnOk X.prog X.w X.K X.mg X.base CX n f fd ps sp) (hb : Binds X.K fd ps []) (hx : PassesAt CX X σ E)
    (I : Inv X pins σ H s) (r : Vals vs us) (h : sp vs H Q E) : wpAny (model X.prog X.w) A (call (.ref f) us) (EP X pins σ Q) X.xe s := by
  have e0 : Env0 X.prog X.w X.K X.mg X.base A X.stack s H := by
    have e := I.env0
    exact ⟨by rw [sb.fr]; exact e.frames, e.mod, e.bs, e.bsz, e.funs, e.frf, e.hok, e.bare⟩
  have hl := F.len _ _ _ _ h
  have hl2 : us.length = ps.length := by rw [← hl, r.length]
  refine wpAny_call (codeAny_mono (F.run A X.stack s H ⟨us, []⟩ us vs Q E sb.room e0 (by
    have := hb s us I.kIn (by simpa using hl2)
    simpa using this) r h) fun r s' hq => ?_)
  cases r with
  | error e => exact hx pins H s e s' I hq
  | ok fl =>
    cases fl with
    | ret w => exact I.after hq
    | next => exact False.elim hq
    | brk => exact False.elim hq
    | cont => exact False.elim hq
variable {C CN CW : Addr} {m : Str} {k : Nat} {ps : List Str} {sp : Sp} {E : L2.St → XK} {o e : Expr} {es : List Expr} {ta tb : TE} {t : TA} {p apos pos : Pos}
end
end K0
set_option Elab.async false
set_option linter.all false
set_option maxRecDepth 100000
set_option maxHeartbeats 4000000
namespace K0
open PySem PySem.Spec PyProof.Rows L2
abbrev heapOf {H H' : Hp} (_ : Same H H') : Hp := H'
theorem cut_take (xs : List V) (k : Nat) : cutV xs none (some (k : Int)) = xs.take k := by
  unfold cutV HT.sIx
  simp only [Nat.sub_zero, List.drop_zero]
  by_cases h : xs.length ≤ k
  · rw [List.take_of_length_le h]
    refine List.take_of_length_le ?_
    split <;> omega
  · congr 1
    split <;> omega
theorem cut_drop (xs : List V) (k : Nat) (h : k ≤ xs.length) : cutV xs (some (k : Int)) none = xs.drop k := by
  have e : HT.sIx xs.length 0 (some (k : Int)) = k := by
    unfold HT.sIx
    simp only
    split <;> omega
  have e2 : HT.sIx xs.length xs.length none = xs.length := rfl
  unfold cutV
  rw [e, e2]
  refine List.take_of_length_le ?_
  rw [List.length_drop]
  exact Nat.le_refl _
theorem cl_eq {n m : Int} {q q' : List Pr} (h : Cl n q) (h' : Cl m q') (e : ∀ z, z ∈ q' ↔ z ∈ q) : q' = q := srt_unique h'.srt h.srt e
theorem Cl.up {n m : Int} {q : List Pr} (h : Cl n q) (l : n ≤ m) : Cl m q := ⟨h.srt, fun p hp => by have := h.rng p hp; omega⟩
/-- Web(n, ..) on a list of pairs that holds just those of r, once or more -/
theorem mk_ls {K : PySem.W.Frag} {C CN CW : Addr} {H : Hp} {b : Addr} {n : Int} {ps : List Pr} {Q : VK} {E : XK} (hl : Ls H b ps) (rng : ∀ z ∈ ps, 0 ≤ z.1 ∧ z.1 < z.2 ∧ z.2 < n) (h0 : 0 ≤ n) (h8 : n ≤ 16) (h62 : ps.length ≤ 62)
    (k : ∀ H' p q, Same H H' → H p = none → Cl n q → (∀ z, z ∈ q ↔ z ∈ ps) → WebAt C (New H H') p n q → Q (.ref p) H') : spMk K C CN CW [.int n, .ref b] H Q E := by
  refine ⟨b, .int n, .int n, ps.map prD, rfl, .int n, hl.sq, fun z => ?_, fun m e _ => ?_⟩
  · have z' : ¬ (0 ≤ n) := of_decide_eq_false z
    exact absurd h0 z'
  · cases e
    refine ⟨h8, by rw [List.length_map]; exact h62, fun ps' hps q cq hm H' p sm np W => ?_, fun x y hxy => ?_⟩
    · rw [entsOf_prs rng] at hps
      cases hps
      exact k H' p q sm np cq hm W
    · rw [entsOf_prs rng] at hxy
      cases hxy
end K0
set_option Elab.async false
set_option linter.all false
set_option maxRecDepth 100000
set_option maxHeartbeats 4000000
set_option Elab.async false
set_option linter.all false
set_option maxRecDepth 100000
set_option maxHeartbeats 4000000
namespace K0
open PySem PySem.Spec PyProof.Rows L2
/-! ### sorted pairs -/
def kH (H : Hp) : V → Int × Int
  | .ref a => match H a with
    | some (.tup [.int x, .int y]) => (x, y)
    | _ => (0, 0)
  | _ => (0, 0)
theorem kH_at {H : Hp} {a : Addr} {p : Pr} (h : H a = some (.tup [.int p.1, .int p.2])) : kH H (.ref a) = p := by
  show (match H a with | some (.tup [.int x, .int y]) => (x, y) | _ => (0, 0)) = p
  rw [h]
theorem dta_kH {H : Hp} : ∀ {xs : List V} {ps : List Pr}, DtAll H xs (ps.map prD) → xs.map (kH H) = ps ∧ ∀ x ∈ xs, ∃ t, x = V.ref t ∧ H t = some (.tup [.int (kH H x).1, .int (kH H x).2])
  | xs, [], h => by
    cases h
    exact ⟨rfl, fun x hx => by cases hx⟩
  | xs, p :: ps, h => by
    cases h with
    | cons h1 h2 =>
      obtain ⟨e, hh⟩ := dta_kH h2
      cases h1 with
      | tup ea h =>
        cases h with
        | cons a b =>
          cases b with
          | cons c d =>
            cases a
            cases c
            cases d
            have ek := kH_at ea
            refine ⟨by rw [List.map_cons, ek, e], fun x hx => ?_⟩
            rcases List.mem_cons.mp hx with hx | hx
            · rw [hx, ek]
              exact ⟨_, rfl, ea⟩
            · exact hh x hx
theorem dta_of {H : Hp} {k : V → Int × Int} : ∀ {ys : List V}, (∀ y ∈ ys, ∃ t, y = V.ref t ∧ H t = some (.tup [.int (k y).1, .int (k y).2])) → DtAll H ys ((ys.map k).map prD)
  | [], _ => .nil
  | y :: ys, h => by
    obtain ⟨t, e, ht⟩ := h y List.mem_cons_self
    subst e
    exact .cons (dt_pr ht) (dta_of fun z hz => h z (List.mem_cons_of_mem _ hz))
theorem cr_srtP {X : Cx} : CallR X (.builtin "sorted") (fun xs H Q => ∃ a ps, xs = [.ref a] ∧ Ls H a ps ∧ ps.Nodup ∧ ∀ H' p rs, Same H H' → H p = none → Ls H' p rs → rs.Pairwise plt → (∀ z, z ∈ rs ↔ z ∈ ps) → rs.length = ps.length → Q (.ref p) H') := by
  intro pins s σ H xs us Q I r h
  obtain ⟨a, ps, rfl, ⟨ys, ha, hy⟩, nd, k⟩ := h
  obtain ⟨e, hh⟩ := dta_kH hy
  refine cr_sortedPO pins s σ H _ us Q I r ⟨a, ys, kH H, rfl, SqL.of ha, hh, fun zs p srt stb np => ?_⟩
  have sm : Same H (upd H p (.lst zs)) := same_upd np
  have pm : (zs.map (kH H)).Perm ps := by
    rw [← e]
    exact stb.perm.map _
  have nd2 : (zs.map (kH H)).Nodup := pm.nodup_iff.mpr nd
  refine k _ p (zs.map (kH H)) sm np ⟨zs, upd_same, dta_of fun y hy' => ?_⟩ ?_ (fun z => pm.mem_iff) pm.length_eq
  · obtain ⟨t, e1, e2⟩ := hh y (stb.perm.mem_iff.mp hy')
    exact ⟨t, e1, sm _ _ e2⟩
  · have s2 : (zs.map (kH H)).Pairwise fun x y => SrtO.lexB y x = false := List.pairwise_map.mpr srt
    refine List.Pairwise.imp₂ (fun x y h1 h2 => ?_) s2 nd2
    have := SrtO.lexB_no.mp h1
    have ne : x.1 ≠ y.1 ∨ x.2 ≠ y.2 := by
      by_cases e1 : x.1 = y.1
      · exact .inr fun e2 => h2 (Prod.ext e1 e2)
      · exact .inl e1
    unfold plt
    omega
end K0
set_option Elab.async false
set_option linter.all false
set_option maxRecDepth 100000
set_option maxHeartbeats 4000000
/-! ### rows of ints, sorted, any number of them -/
namespace RowS
open PySem PySem.Spec PyProof.Rows L2
abbrev cd (r : List Int) : Int := TS.code 64 r
/-- sorted rows, each once -/
abbrev Up (rs : List (List Int)) : Prop := rs.Pairwise fun a b => cd a < cd b
theorem up_unique : ∀ {l m : List (List Int)}, Up l → Up m → (∀ x, x ∈ l ↔ x ∈ m) → l = m
  | [], [], _, _, _ => rfl
  | [], b :: m, _, _, h => by cases (h b).mpr List.mem_cons_self
  | a :: l, [], _, _, h => by cases (h a).mp List.mem_cons_self
  | a :: l, b :: m, hl, hm, h => by
    obtain ⟨al, ll⟩ := List.pairwise_cons.mp hl
    obtain ⟨bm, mm⟩ := List.pairwise_cons.mp hm
    have e : a = b := by
      rcases List.mem_cons.mp ((h a).mp List.mem_cons_self) with e | e
      · exact e
      rcases List.mem_cons.mp ((h b).mpr List.mem_cons_self) with e2 | e2
      · exact e2.symm
      have p := bm a e
      have q := al b e2
      omega
    subst e
    have no : ∀ {k : List (List Int)}, (∀ x ∈ k, cd a < cd x) → a ∉ k := fun hk hx => Int.lt_irrefl _ (hk a hx)
    rw [up_unique ll mm fun x => ⟨fun hx => ?_, fun hx => ?_⟩]
    · rcases List.mem_cons.mp ((h x).mp (List.mem_cons_of_mem _ hx)) with e | e
      · exact absurd hx (by rw [e]; exact no al)
      · exact e
    · rcases List.mem_cons.mp ((h x).mpr (List.mem_cons_of_mem _ hx)) with e | e
      · exact absurd hx (by rw [e]; exact no bm)
      · exact e
section
variable {prog : Program} {w : World} {A : Around} {E : Value → Shared → Prop} {s : Shared}
theorem swo_cd {α : Type} (k : α → Int) : SrtO.Swo fun v u => decide (k v < k u) := by
  refine ⟨fun x y h => ?_, fun x y z h1 h2 => ?_⟩
  · have := of_decide_eq_true h
    exact decide_eq_false (by omega)
  · have := of_decide_eq_false h1
    have := of_decide_eq_false h2
    exact decide_eq_false (by omega)
theorem rows_cmp {d : Nat} {vs : List Value} {h0 : Heap} (hp : TS.TupsOk s.heap d 64 vs) (same : ∀ v ∈ vs, TS.intsOf h0 v = TS.intsOf s.heap v) :
    SrtO.Cmp prog w A s (tuples' true) (fun p => p.1 ∈ vs) (SrtO.lt2 fun v u => decide (cd (TS.intsOf h0 v) < cd (TS.intsOf h0 u))) := by
  intro p q hm hm'
  obtain ⟨ns, t1, l1, b1⟩ := hp _ hm
  obtain ⟨ms, t2, l2, b2⟩ := hp _ hm'
  show wpAny (model prog w) A (keyLt' (tuples' true) p.1 q.1) (fun r s' => s' = s ∧ r = decide (cd (TS.intsOf h0 p.1) < cd (TS.intsOf h0 q.1))) (fun _ _ => False) s
  rw [same _ hm, same _ hm', t1.ints, t2.ints]
  obtain ⟨a, xs, e, ⟨o, ho, hc, n, hd⟩, i⟩ := t1
  obtain ⟨a', xs', e', ⟨o', ho', hc', n', hd'⟩, i'⟩ := t2
  rw [e, e']
  refine PySem.W.kat_lt ho hd ho' hd' ?_
  have ez : decide (xs.size < xs'.size) = false := by
    have z1 := i.length
    have z2 := i'.length
    rw [Array.length_toList] at z1 z2
    exact decide_eq_false (by omega)
  rw [ez]
  exact TS.lex_ints 0 i i' (by omega) b1 b2 ⟨rfl, rfl⟩
theorem rows_sortable {d : Nat} {a : Addr} {vs : List Value} (hd : 1 ≤ d) (hz : 0 < vs.length) (hp : TS.TupsOk s.heap d 64 vs) (ha : ∀ o, s.heap.get? a = some o → o.cls ≠ .type "tuple") (h0 : Heap) (same : ∀ v ∈ vs, TS.intsOf h0 v = TS.intsOf s.heap v) :
    SrtO.SortableO prog w A s a vs fun v u => decide (cd (TS.intsOf h0 v) < cd (TS.intsOf h0 u)) := by
  intro h' keep
  have kp : ∀ b o, s.heap.get? b = some o → o.cls = .type "tuple" → h'.get? b = some o := fun b o e c => keep b o (fun z => by subst z; exact ha o e c) e
  have hp' : TS.TupsOk h' d 64 vs := hp.keeps kp
  have same' : ∀ v ∈ vs, TS.intsOf h0 v = TS.intsOf h' v := fun v hv => by
    obtain ⟨ns, t, _⟩ := hp v hv
    rw [same v hv, t.ints, (t.keeps kp).ints]
  obtain ⟨fs, h1, h2, h3⟩ := TS.firsts_of hd vs hp'
  refine ⟨tuples' true, fun Q E hq => ?_, rows_cmp (s := { s with heap := h' }) hp' same'⟩
  refine PySem.W.kat_kind (T := .type "int") h1 (by omega) (fun f hm => ?_) (by rfl) ?_
  · obtain ⟨x, t, rfl⟩ := h3 f hm
    exact PySem.W.Looks.now
  · have e : (Value.type "int" != Value.type "tuple") = true := by first | decide +kernel | rfl | decide
    rw [e]
    exact hq
theorem sorted_rows {l : Addr} {vs : List Value} {d : Nat} {Q : Value → Shared → Prop} (hl : s.heap.IsList l vs.toArray) (hz : vs.length ≤ sizeLine) (hd : 1 ≤ d) (hp : TS.TupsOk s.heap d 64 vs)
    (h : ∀ (h' : Heap) (p : Addr) (out : List Value), out.Perm vs → out.Pairwise (fun v u => cd (TS.intsOf s.heap v) ≤ cd (TS.intsOf s.heap u)) → (∀ b o, s.heap.get? b = some o → h'.get? b = some o) → s.heap.objs.size ≤ p → (∃ n, h'.get? p = some (seqObj "list" out.toArray n)) → Q (.ref p) { s with heap := h' }) :
    wpAny (model prog w) A (call (.builtin "sorted") [.ref l]) Q E s := by
  refine SrtO.sorted_ord (swo_cd fun v => cd (TS.intsOf s.heap v)) hl hz (fun h2 h₁ a ha kk => ?_) fun out hs hb => ?_
  · have kp : ∀ b o, s.heap.get? b = some o → o.cls = .type "tuple" → h₁.get? b = some o := fun b o e _ => (kk b o e).2
    refine rows_sortable (s := { s with heap := h₁ }) hd (by omega) (hp.keeps kp) (fun o e => ?_) s.heap fun v hv => ?_
    · have e' : some o = some (seqObj "list" vs.toArray 0) := e.symm.trans ha
      cases e'
      intro c
      exact absurd (Value.type.inj c) (by decide)
    · obtain ⟨ns, t, _⟩ := hp v hv
      rw [t.ints]
      exact (t.keeps kp).ints.symm
  · refine h _ _ out hb.perm (List.Pairwise.imp (fun {v u} z => ?_) hs) (fun b o e => sortedAll_old e) (Nat.le_succ _) (sortedAll_at s.heap vs out.toArray)
    have := of_decide_eq_false z
    omega
end
end RowS
namespace L2
open PySem PySem.Spec PyProof.Rows
/-- sorted(xs), xs a list of tuples of d ints in [0, 64): a new list of the same, by their codes -/
def rSortV (K : PySem.W.Frag) (d : Nat) : List V → Hp → VK → Prop := fun vs H Q => ∃ (a : Addr) (xs : List V), vs = [V.ref a] ∧ SqL K H a xs ∧ (∀ x ∈ xs, ∃ ns, TupI K H x ns ∧ ns.length = d ∧ TS.Bd 64 ns) ∧
  ∀ (ys : List V) (p : Addr), ys.Perm xs → ys.Pairwise (fun x y => ∀ n m, TupI K H x n → TupI K H y m → TS.code 64 n ≤ TS.code 64 m) → H p = none → Q (.ref p) (upd H p (.lst ys))
theorem cr_sortV {X : Cx} {d : Nat} (hd : 1 ≤ d) : CallR X (.builtin "sorted") (rSortV X.K d) := by
  intro pins s σ H vs us Q I r h
  obtain ⟨a, xs, rfl, hs, hx, q⟩ := h
  obtain ⟨its, rv, hl, hz⟩ := I.list hs
  rw [Vals.ref1 r]
  obtain ⟨e1, e2⟩ := bkV_refs rv fun x m => by
    obtain ⟨ns, ⟨t, e, _⟩, _⟩ := hx x m
    exact ⟨t, e⟩
  refine RowS.sorted_rows (d := d) hl.isList (by rw [← rv.length]; exact hz) hd (fun v hv => ?_) fun h' p out h1 h2 kp hp hn => ?_
  · obtain ⟨t, rfl⟩ := e2 v hv
    have hm : V.ref t ∈ xs := by
      rw [e1]
      exact List.mem_map.mpr ⟨_, hv, rfl⟩
    obtain ⟨ns, ⟨t', e, ht⟩, hn, hb⟩ := hx _ hm
    cases e
    exact ⟨ns, tupI_raw I ht, hn, hb⟩
  · have h3 : ∀ u ∈ out, ∃ a, u = Value.ref a := fun u hu => e2 u (h1.mem_iff.mp hu)
    obtain ⟨n, hn⟩ := hn
    have hp' : (out.map bkV).Perm xs := by
      rw [e1]
      exact h1.map bkV
    have hlen : (out.map bkV).length ≤ sizeLine := by
      rw [hp'.length_eq]
      exact hz
    refine ⟨.ref p, upd H p (.lst (out.map bkV)), I.laid (t' := s.toks) kp hp ⟨hlen, out, n, bkV_vals h3, hn⟩, rfl, q _ p hp' ?_ (I.hok.fresh hp)⟩
    rw [List.pairwise_map]
    refine List.Pairwise.imp (fun {u v} huv n m hn hm => ?_) h2
    obtain ⟨t, et, ht⟩ := hn
    obtain ⟨t', et', ht'⟩ := hm
    have eu := bkV_ref et
    have ev := bkV_ref et'
    have i1 : TS.intsOf s.heap u = n := by
      rw [eu]
      exact (tupI_raw I ht).ints
    have i2 : TS.intsOf s.heap v = m := by
      rw [ev]
      exact (tupI_raw I ht').ints
    have z := huv
    rw [i1, i2] at z
    exact z
end L2
set_option Elab.async false
set_option linter.all false
set_option maxRecDepth 100000
set_option maxHeartbeats 4000000
namespace K0
open PySem PySem.Spec PyProof.Rows L2
/-! ### rows of four, as sorted rows of ints -/
/-- x and y clash by the row q -/
def cl (q : List Pr) (x y : Int) : Prop := (x, y) ∈ q ∨ (y, x) ∈ q
theorem cl_symm {q : List Pr} {x y : Int} : cl q x y ↔ cl q y x := ⟨fun h => h.symm, fun h => h.symm⟩
theorem cl_ne {n : Int} {q : List Pr} (h : Cl n q) {x y : Int} (c : cl q x y) : x ≠ y := by
  rintro rfl
  rcases c with c | c <;> have := h.rng _ c <;> dsimp only at this <;> omega
theorem cl_rng {n : Int} {q : List Pr} (h : Cl n q) {x y : Int} (c : cl q x y) : (0 ≤ x ∧ x < n) ∧ 0 ≤ y ∧ y < n := by
  rcases c with c | c <;> have := h.rng _ c <;> dsimp only at this <;> omega
theorem hasP_cl {q : List Pr} {x y : Nat} : hasP q x y = true ↔ cl q x y := by
  unfold hasP cl
  rw [Bool.or_eq_true, decide_eq_true_iff, decide_eq_true_iff]
/-- a row of four -/
structure RQ (q : List Pr) (a b c d : Int) : Prop where
  ab : cl q a b
  bc : cl q b c
  cd : cl q c d
  ac : ¬ cl q a c
  bd : ¬ cl q b d
  ad : ¬ cl q a d
  nac : a ≠ c
  nbd : b ≠ d
  nad : a ≠ d
/-- the rows of four of a web, sorted -/
structure IsRows (n : Int) (q : List Pr) (rs : List Rw) : Prop where
  up : RowS.Up rs
  mem : ∀ r, r ∈ rs ↔ ∃ a b c d, r = [a, b, c, d] ∧ a < d ∧ RQ q a b c d
theorem IsRows.uniq {n m : Int} {q : List Pr} {rs ss : List Rw} (h : IsRows n q rs) (g : IsRows m q ss) : rs = ss := RowS.up_unique h.up g.up fun x => by rw [h.mem, g.mem]
theorem RQ.rng {n : Int} {q : List Pr} (h : Cl n q) {a b c d : Int} (r : RQ q a b c d) : (0 ≤ a ∧ a < n) ∧ (0 ≤ b ∧ b < n) ∧ (0 ≤ c ∧ c < n) ∧ 0 ≤ d ∧ d < n := ⟨(cl_rng h r.ab).1, (cl_rng h r.ab).2, (cl_rng h r.cd).1, (cl_rng h r.cd).2⟩
theorem bd_row {n : Int} (hn : n ≤ 64) {a b c d : Int} (h : (0 ≤ a ∧ a < n) ∧ (0 ≤ b ∧ b < n) ∧ (0 ≤ c ∧ c < n) ∧ 0 ≤ d ∧ d < n) : TS.Bd 64 [a, b, c, d] := fun m hm => by
  simp only [List.mem_cons, List.not_mem_nil, or_false] at hm
  omega
theorem code_inj : ∀ {r q : List Int}, r.length = q.length → TS.Bd 64 r → TS.Bd 64 q → TS.code 64 r = TS.code 64 q → r = q
  | [], [], _, _, _, _ => rfl
  | [], _ :: _, l, _, _, _ => by simp at l
  | _ :: _, [], l, _, _, _ => by simp at l
  | x :: r, y :: q, l, hr, hq, e => by
    have l' : r.length = q.length := by simpa using l
    rcases Int.lt_trichotomy x y with z | z | z
    · have := TS.code_lt l' hr.tail hq.tail z
      omega
    · subst z
      have c : TS.code 64 r = TS.code 64 q := by
        rcases Int.lt_trichotomy (TS.code 64 r) (TS.code 64 q) with w | w | w
        · have := (TS.code_same (d := x) (B := 64) l').mpr w
          omega
        · exact w
        · have := (TS.code_same (d := x) (B := 64) l'.symm).mpr w
          omega
      rw [code_inj l' hr.tail hq.tail c]
    · have := TS.code_lt l'.symm hq.tail hr.tail z
      omega
/-- sorted and each once -/
theorem up_of {rs : List Rw} (le : rs.Pairwise fun a b => TS.code 64 a ≤ TS.code 64 b) (nd : rs.Nodup) (b : ∀ r ∈ rs, r.length = 4 ∧ TS.Bd 64 r) : RowS.Up rs := by
  refine List.Pairwise.imp_of_mem (fun {x y} hx hy h => ?_) (le.and nd)
  obtain ⟨h1, h2⟩ := h
  have : TS.code 64 x ≠ TS.code 64 y := fun e => h2 (code_inj ((b x hx).1.trans (b y hy).1.symm) (b x hx).2 (b y hy).2 e)
  show TS.code 64 x < TS.code 64 y
  omega
theorem nodup_fm {α β : Type} {l : List α} {f : α → List β} (nl : l.Nodup) (nf : ∀ a ∈ l, (f a).Nodup) (ap : ∀ a ∈ l, ∀ b ∈ l, ∀ x, x ∈ f a → x ∈ f b → a = b) : (l.flatMap f).Nodup := by
  refine List.pairwise_flatMap.mpr ⟨nf, List.Pairwise.imp_of_mem (fun {a b} ha hb ne x hx y hy e => ?_) nl⟩
  subst e
  exact ne (ap a ha b hb x hx hy)
/-! ### what the program finds -/
abbrev near (n : Nat) (q : List Pr) (x : Nat) : List Nat := (List.range n).filter (hasP q x)
def fstN (n : Nat) (q : List Pr) (b c : Nat) : List Nat := (List.range n).filter fun a => hasP q b a && !hasP q c a && !decide (a = c)
def fthN (n : Nat) (q : List Pr) (a b c : Nat) : List Nat := (List.range n).filter fun d => hasP q c d && !hasP q b d && !hasP q a d && !decide (d = b)
def row4 (a b c d : Nat) : Rw := [(a : Int), (b : Int), (c : Int), (d : Int)]
def pf3 (n : Nat) (q : List Pr) (b c a : Nat) : List Rw := ((fthN n q a b c).filter fun d => decide (a < d)).map (row4 a b c)
def pf2 (n : Nat) (q : List Pr) (b c : Nat) : List Rw := (fstN n q b c).flatMap (pf3 n q b c)
def pf1 (n : Nat) (q : List Pr) (b : Nat) : List Rw := (near n q b).flatMap (pf2 n q b)
def pf (n : Nat) (q : List Pr) : List Rw := (List.range n).flatMap (pf1 n q)
theorem row4_inj {a b c d a' b' c' d' : Nat} (h : row4 a b c d = row4 a' b' c' d') : a = a' ∧ b = b' ∧ c = c' ∧ d = d' := by
  unfold row4 at h
  simp only [List.cons.injEq, and_true] at h
  omega
theorem nodup_filter_range {n : Nat} {p : Nat → Bool} : ((List.range n).filter p).Nodup := List.nodup_range.filter _
theorem mem_pf3 {n : Nat} {q : List Pr} {b c a : Nat} {x : Rw} : x ∈ pf3 n q b c a ↔ ∃ d, d ∈ fthN n q a b c ∧ a < d ∧ x = row4 a b c d := by
  unfold pf3
  rw [List.mem_map]
  constructor
  · rintro ⟨d, hd, rfl⟩
    obtain ⟨h1, h2⟩ := List.mem_filter.mp hd
    exact ⟨d, h1, of_decide_eq_true h2, rfl⟩
  · rintro ⟨d, h1, h2, rfl⟩
    exact ⟨d, List.mem_filter.mpr ⟨h1, decide_eq_true h2⟩, rfl⟩
theorem pf_nodup (n : Nat) (q : List Pr) : (pf n q).Nodup := by
  have k3 : ∀ {b c a x}, x ∈ pf3 n q b c a → ∃ d, x = row4 a b c d := fun h => by
    obtain ⟨d, _, _, e⟩ := mem_pf3.mp h
    exact ⟨d, e⟩
  have k2 : ∀ {b c x}, x ∈ pf2 n q b c → ∃ a d, x = row4 a b c d := fun {b c x} h => by
    obtain ⟨a, _, h⟩ := List.mem_flatMap.mp h
    obtain ⟨d, e⟩ := k3 h
    exact ⟨a, d, e⟩
  have k1 : ∀ {b x}, x ∈ pf1 n q b → ∃ a c d, x = row4 a b c d := fun {b x} h => by
    obtain ⟨c, _, h⟩ := List.mem_flatMap.mp h
    obtain ⟨a, d, e⟩ := k2 h
    exact ⟨a, c, d, e⟩
  refine nodup_fm List.nodup_range (fun b _ => nodup_fm nodup_filter_range (fun c _ => nodup_fm nodup_filter_range (fun a _ => ?_) fun a _ a' _ x h h' => ?_) fun c _ c' _ x h h' => ?_) fun b _ b' _ x h h' => ?_
  · refine List.pairwise_map.mpr (List.Pairwise.imp (fun {d d'} ne e => ne (row4_inj e).2.2.2) (nodup_filter_range.filter _))
  · obtain ⟨d, e⟩ := k3 h
    obtain ⟨d', e'⟩ := k3 h'
    exact (row4_inj (e.symm.trans e')).1
  · obtain ⟨a, d, e⟩ := k2 h
    obtain ⟨a', d', e'⟩ := k2 h'
    exact (row4_inj (e.symm.trans e')).2.2.1
  · obtain ⟨a, c, d, e⟩ := k1 h
    obtain ⟨a', c', d', e'⟩ := k1 h'
    exact (row4_inj (e.symm.trans e')).2.1
theorem nh {q : List Pr} {x y : Nat} : hasP q x y = false ↔ ¬ cl q x y := by
  rw [← hasP_cl]
  simp
theorem pf_mem {n : Nat} {q : List Pr} (h : Cl n q) (r : Rw) : r ∈ pf n q ↔ ∃ a b c d, r = [a, b, c, d] ∧ a < d ∧ RQ q a b c d := by
  unfold pf pf1 pf2
  simp only [List.mem_flatMap, mem_pf3, fstN, fthN, List.mem_filter, List.mem_range, Bool.and_eq_true, Bool.not_eq_true', decide_eq_false_iff_not, hasP_cl, nh]
  constructor
  · rintro ⟨b, hb, c, ⟨hc, bc⟩, a, ⟨ha, ⟨ba, nca⟩, nac⟩, d, ⟨hd, ⟨⟨cd, nbd⟩, nad⟩, ndb⟩, lt, rfl⟩
    refine ⟨a, b, c, d, rfl, by omega, cl_symm.mp ba, bc, cd, fun z => nca (cl_symm.mp z), nbd, nad, by omega, by omega, by omega⟩
  · rintro ⟨a, b, c, d, rfl, lt, R⟩
    obtain ⟨⟨a0, a1⟩, ⟨b0, b1⟩, ⟨c0, c1⟩, d0, d1⟩ := R.rng h
    obtain ⟨a, rfl⟩ := Int.eq_ofNat_of_zero_le a0
    obtain ⟨b, rfl⟩ := Int.eq_ofNat_of_zero_le b0
    obtain ⟨c, rfl⟩ := Int.eq_ofNat_of_zero_le c0
    obtain ⟨d, rfl⟩ := Int.eq_ofNat_of_zero_le d0
    have := R.nac
    have := R.nbd
    exact ⟨b, by omega, c, ⟨by omega, R.bc⟩, a, ⟨by omega, ⟨cl_symm.mp R.ab, fun z => R.ac (cl_symm.mp z)⟩, by omega⟩, d, ⟨by omega, ⟨⟨R.cd, R.bd⟩, R.ad⟩, by omega⟩, by omega, rfl⟩
/-- what the program sorts -/
theorem pf_rows {n : Nat} {q : List Pr} (h : Cl n q) (hn : n ≤ 64) {rs : List Rw} (pm : rs.Perm (pf n q)) (le : rs.Pairwise fun a b => TS.code 64 a ≤ TS.code 64 b) : IsRows n q rs := by
  have mem : ∀ r, r ∈ rs ↔ ∃ a b c d, r = [a, b, c, d] ∧ a < d ∧ RQ q a b c d := fun r => pm.mem_iff.trans (pf_mem h r)
  refine ⟨up_of le (pm.nodup_iff.mpr (pf_nodup n q)) fun r hr => ?_, mem⟩
  obtain ⟨a, b, c, d, rfl, _, R⟩ := (mem r).mp hr
  exact ⟨rfl, bd_row (n := n) (by omega) (R.rng h)⟩
/-! ### what the law finds -/
def lq3 (n : Nat) (q : List Pr) (a b c : Nat) : List Rw := ((near n q c).filter fun d => decide (a < d) && (!decide (d = b) && (!hasP q b d && !hasP q a d))).map (row4 a b c)
def lq2 (n : Nat) (q : List Pr) (a b : Nat) : List Rw := ((near n q b).filter fun c => !decide (c = a) && !hasP q a c).flatMap (lq3 n q a b)
def lq1 (n : Nat) (q : List Pr) (a : Nat) : List Rw := (near n q a).flatMap (lq2 n q a)
def lq (n : Nat) (q : List Pr) : List Rw := (List.range n).flatMap (lq1 n q)
theorem mem_lq3 {n : Nat} {q : List Pr} {b c a : Nat} {x : Rw} : x ∈ lq3 n q a b c ↔ ∃ d, ((d < n ∧ hasP q c d = true) ∧ a < d ∧ ¬ d = b ∧ hasP q b d = false ∧ hasP q a d = false) ∧ x = row4 a b c d := by
  unfold lq3 near
  simp only [List.mem_map, List.mem_filter, List.mem_range, Bool.and_eq_true, Bool.not_eq_true', decide_eq_true_iff, decide_eq_false_iff_not]
  constructor
  · rintro ⟨d, h, rfl⟩
    exact ⟨d, h, rfl⟩
  · rintro ⟨d, h, rfl⟩
    exact ⟨d, h, rfl⟩
theorem lq_nodup (n : Nat) (q : List Pr) : (lq n q).Nodup := by
  have k3 : ∀ {b c a x}, x ∈ lq3 n q a b c → ∃ d, x = row4 a b c d := fun h => by
    obtain ⟨d, _, e⟩ := mem_lq3.mp h
    exact ⟨d, e⟩
  have k2 : ∀ {a b x}, x ∈ lq2 n q a b → ∃ c d, x = row4 a b c d := fun {b c x} h => by
    obtain ⟨a, _, h⟩ := List.mem_flatMap.mp h
    obtain ⟨d, e⟩ := k3 h
    exact ⟨a, d, e⟩
  have k1 : ∀ {a x}, x ∈ lq1 n q a → ∃ b c d, x = row4 a b c d := fun {b x} h => by
    obtain ⟨c, _, h⟩ := List.mem_flatMap.mp h
    obtain ⟨a, d, e⟩ := k2 h
    exact ⟨c, a, d, e⟩
  refine nodup_fm List.nodup_range (fun b _ => nodup_fm nodup_filter_range (fun c _ => nodup_fm (nodup_filter_range.filter _) (fun a _ => ?_) fun a _ a' _ x h h' => ?_) fun c _ c' _ x h h' => ?_) fun b _ b' _ x h h' => ?_
  · refine List.pairwise_map.mpr (List.Pairwise.imp (fun {d d'} ne e => ne (row4_inj e).2.2.2) (nodup_filter_range.filter _))
  · obtain ⟨d, e⟩ := k3 h
    obtain ⟨d', e'⟩ := k3 h'
    exact (row4_inj (e.symm.trans e')).2.2.1
  · obtain ⟨a, d, e⟩ := k2 h
    obtain ⟨a', d', e'⟩ := k2 h'
    exact (row4_inj (e.symm.trans e')).2.1
  · obtain ⟨a, c, d, e⟩ := k1 h
    obtain ⟨a', c', d', e'⟩ := k1 h'
    exact (row4_inj (e.symm.trans e')).1
theorem lq_mem {n : Nat} {q : List Pr} (h : Cl n q) (r : Rw) : r ∈ lq n q ↔ ∃ a b c d, r = [a, b, c, d] ∧ a < d ∧ RQ q a b c d := by
  unfold lq lq1 lq2
  simp only [List.mem_flatMap, mem_lq3, near, List.mem_filter, List.mem_range, Bool.and_eq_true, Bool.not_eq_true', decide_eq_false_iff_not, hasP_cl, nh]
  constructor
  · rintro ⟨a, ha, b, ⟨hb, ab⟩, c, ⟨⟨hc, bc⟩, nca, nac⟩, d, ⟨⟨hd, cd⟩, lt, ndb, nbd, nad⟩, rfl⟩
    exact ⟨a, b, c, d, rfl, by omega, ab, bc, cd, nac, nbd, nad, by omega, by omega, by omega⟩
  · rintro ⟨a, b, c, d, rfl, lt, R⟩
    obtain ⟨⟨a0, a1⟩, ⟨b0, b1⟩, ⟨c0, c1⟩, d0, d1⟩ := R.rng h
    obtain ⟨a, rfl⟩ := Int.eq_ofNat_of_zero_le a0
    obtain ⟨b, rfl⟩ := Int.eq_ofNat_of_zero_le b0
    obtain ⟨c, rfl⟩ := Int.eq_ofNat_of_zero_le c0
    obtain ⟨d, rfl⟩ := Int.eq_ofNat_of_zero_le d0
    have := R.nac
    have := R.nbd
    exact ⟨a, by omega, b, ⟨by omega, R.ab⟩, c, ⟨⟨by omega, R.bc⟩, by omega, R.ac⟩, d, ⟨⟨by omega, R.cd⟩, by omega, by omega, R.bd, R.ad⟩, rfl⟩
theorem lq_rows {n : Nat} {q : List Pr} (h : Cl n q) (hn : n ≤ 64) {rs : List Rw} (pm : rs.Perm (lq n q)) (le : rs.Pairwise fun a b => TS.code 64 a ≤ TS.code 64 b) : IsRows n q rs := by
  have mem : ∀ r, r ∈ rs ↔ ∃ a b c d, r = [a, b, c, d] ∧ a < d ∧ RQ q a b c d := fun r => pm.mem_iff.trans (lq_mem h r)
  refine ⟨up_of le (pm.nodup_iff.mpr (lq_nodup n q)) fun r hr => ?_, mem⟩
  obtain ⟨a, b, c, d, rfl, _, R⟩ := (mem r).mp hr
  exact ⟨rfl, bd_row (n := n) (by omega) (R.rng h)⟩
end K0
set_option Elab.async false
set_option linter.all false
set_option maxRecDepth 100000
set_option maxHeartbeats 4000000
namespace K0
open PySem PySem.Spec PyProof.Rows L2
/-! ### webs put in -/
abbrev Wb := Int × List Pr
def nW (ws : List Wb) (v : Nat) : Int := (ws.getD v (0, [])).1
def qW (ws : List Wb) (v : Nat) : List Pr := (ws.getD v (0, [])).2
def fW (ws : List Wb) (v : Nat) : Int := ((ws.take v).map (·.1)).sum
structure Wbs (ws : List Wb) : Prop where
  n0 : ∀ w ∈ ws, 0 ≤ w.1
  cl : ∀ w ∈ ws, Cl w.1 w.2
theorem getD_mem {α : Type} {l : List α} {i : Nat} {d : α} (h : i < l.length) : l.getD i d ∈ l := by
  rw [List.getD_eq_getElem?_getD, List.getElem?_eq_getElem h]
  exact List.getElem_mem h
theorem Wbs.nn {ws : List Wb} (W : Wbs ws) (v : Nat) : 0 ≤ nW ws v := by
  unfold nW
  by_cases h : v < ws.length
  · exact W.n0 _ (getD_mem h)
  · rw [List.getD_eq_getElem?_getD, List.getElem?_eq_none (by omega)]
    exact Int.le_refl _
theorem sum_snoc (l : List Int) (x : Int) : (l ++ [x]).sum = l.sum + x := by
  induction l with
  | nil => simp
  | cons a l ih => rw [List.cons_append, List.sum_cons, List.sum_cons, ih]; omega
theorem fW_zero (ws : List Wb) : fW ws 0 = 0 := rfl
theorem fW_succ (ws : List Wb) (v : Nat) : fW ws (v + 1) = fW ws v + nW ws v := by
  unfold fW nW
  by_cases h : v < ws.length
  · rw [List.take_succ, List.getElem?_eq_getElem h, List.getD_eq_getElem?_getD, List.getElem?_eq_getElem h]
    show ((ws.take v ++ [ws[v]]).map (·.1)).sum = _
    rw [List.map_append]
    exact sum_snoc _ _
  · rw [List.take_of_length_le (by omega), List.take_of_length_le (by omega), List.getD_eq_getElem?_getD, List.getElem?_eq_none (by omega)]
    simp
theorem fW_mono {ws : List Wb} (W : Wbs ws) {u v : Nat} (h : u ≤ v) : fW ws u ≤ fW ws v := by
  induction v with
  | zero => rw [Nat.le_zero.mp h]; exact Int.le_refl _
  | succ v ih =>
    rcases Nat.lt_or_ge u (v + 1) with l | l
    · have := ih (by omega)
      have := W.nn v
      rw [fW_succ]
      omega
    · rw [show u = v + 1 by omega]
      exact Int.le_refl _
theorem fW_nonneg {ws : List Wb} (W : Wbs ws) (v : Nat) : 0 ≤ fW ws v := fW_mono W (Nat.zero_le v)
theorem fW_lt {ws : List Wb} (W : Wbs ws) {u v : Nat} (h : u < v) : fW ws u + nW ws u ≤ fW ws v := by
  rw [← fW_succ]
  exact fW_mono W h
/-- the thing t is the thing x of the web v -/
structure Loc (ws : List Wb) (t : Int) (k : Nat) (x : Int) : Prop where
  v : k < ws.length
  x0 : 0 ≤ x
  x1 : x < nW ws k
  e : t = fW ws k + x
theorem Loc.uniq {ws : List Wb} (W : Wbs ws) {t : Int} {u v : Nat} {x y : Int} (a : Loc ws t u x) (b : Loc ws t v y) : u = v ∧ x = y := by
  have e := a.e.symm.trans b.e
  have := a.x0; have := a.x1; have := b.x0; have := b.x1
  rcases Nat.lt_trichotomy u v with h | h | h
  · have := fW_lt W h
    omega
  · subst h
    exact ⟨rfl, by omega⟩
  · have := fW_lt W h
    omega
theorem Loc.ex {ws : List Wb} {t : Int} : ∀ {k : Nat}, k ≤ ws.length → 0 ≤ t → t < fW ws k → ∃ v x, Loc ws t v x
  | 0, _, h0, h1 => by rw [fW_zero] at h1; omega
  | k + 1, hk, h0, h1 => by
    rcases Int.lt_or_le t (fW ws k) with h | h
    · exact Loc.ex (k := k) (by omega) h0 h
    · rw [fW_succ] at h1
      exact ⟨k, t - fW ws k, by omega, by omega, by omega, by omega⟩
abbrev tot (ws : List Wb) : Int := fW ws ws.length
theorem Loc.rng {ws : List Wb} (W : Wbs ws) {t : Int} {v : Nat} {x : Int} (a : Loc ws t v x) : 0 ≤ t ∧ t < tot ws := by
  have := fW_nonneg W v
  have := fW_lt W a.v
  have := a.x0; have := a.x1; have := a.e
  show 0 ≤ t ∧ t < fW ws ws.length
  omega
theorem Loc.lt {ws : List Wb} (W : Wbs ws) {t t' : Int} {u v : Nat} {x y : Int} (a : Loc ws t u x) (b : Loc ws t' v y) : t < t' ↔ u < v ∨ (u = v ∧ x < y) := by
  have := a.x0; have := a.x1; have := b.x0; have := b.x1; have := a.e; have := b.e
  rcases Nat.lt_trichotomy u v with h | h | h
  · have := fW_lt W h
    omega
  · subst h
    omega
  · have := fW_lt W h
    omega
/-! ### the pairs -/
def shf (q : List Pr) (s : Int) : List Pr := q.map fun p => (p.1 + s, p.2 + s)
def grid (a m b k : Int) : List Pr := (List.range m.toNat).flatMap fun (x : Nat) => (List.range k.toNat).map fun (y : Nat) => (a + (x : Int), b + (y : Int))
def inL (ws : List Wb) (k : Nat) : List Pr := (List.range k).flatMap fun v => shf (qW ws v) (fW ws v)
def gr (ws : List Wb) (e : Pr) : List Pr := grid (fW ws e.1.toNat) (nW ws e.1.toNat) (fW ws e.2.toNat) (nW ws e.2.toNat)
def acL (Q : List Pr) (ws : List Wb) : List Pr := Q.flatMap (gr ws)
def putL (Q : List Pr) (ws : List Wb) : List Pr := inL ws ws.length ++ acL Q ws
theorem mem_shf {q : List Pr} {s : Int} {z : Pr} : z ∈ shf q s ↔ (z.1 - s, z.2 - s) ∈ q := by
  unfold shf
  rw [List.mem_map]
  constructor
  · rintro ⟨p, hp, rfl⟩
    rw [show ((p.1 + s, p.2 + s) : Pr).1 - s = p.1 from by show p.1 + s - s = p.1; omega, show ((p.1 + s, p.2 + s) : Pr).2 - s = p.2 from by show p.2 + s - s = p.2; omega]
    exact hp
  · intro h
    exact ⟨_, h, Prod.ext (by show z.1 - s + s = z.1; omega) (by show z.2 - s + s = z.2; omega)⟩
theorem mem_grid {a m b k : Int} {z : Pr} : z ∈ grid a m b k ↔ (a ≤ z.1 ∧ z.1 < a + m) ∧ b ≤ z.2 ∧ z.2 < b + k := by
  unfold grid
  simp only [List.mem_flatMap, List.mem_map, List.mem_range]
  constructor
  · rintro ⟨x, hx, y, hy, rfl⟩
    dsimp only
    omega
  · rintro ⟨⟨h1, h2⟩, h3, h4⟩
    exact ⟨(z.1 - a).toNat, by omega, (z.2 - b).toNat, by omega, Prod.ext (by dsimp only; omega) (by dsimp only; omega)⟩
/-- the web put in: its clashes, sorted -/
structure IsPut (Q : List Pr) (ws : List Wb) (p : List Pr) : Prop where
  c : Cl (tot ws) p
  m : ∀ z, z ∈ p ↔ z ∈ putL Q ws
theorem IsPut.uniq {Q : List Pr} {ws : List Wb} {p p' : List Pr} (h : IsPut Q ws p) (g : IsPut Q ws p') : p = p' := srt_unique h.c.srt g.c.srt fun z => by rw [h.m, g.m]
/-! ### its rows of four -/
/-! ### contraries -/
end K0
set_option Elab.async false
set_option linter.all false
set_option maxRecDepth 100000
set_option maxHeartbeats 4000000
namespace K0
open PySem PySem.Spec PyProof.Rows L2
/-! ### loops over a range, whatever is done in a turn -/
theorem pss_never {X : Cx} {b : List Stmt} : PSs X b (fun _ _ _ => False) := ⟨fun _ _ _ _ _ _ h => False.elim h⟩
end K0
set_option Elab.async false
set_option linter.all false
set_option maxRecDepth 100000
set_option maxHeartbeats 4000000
namespace K0
open PySem PySem.Spec PyProof.Rows L2
section
variable {P : Program} {w : World} {K : PySem.W.Frag} {mg : Str → Option Value} {base : Heap} {f : Addr} {fd : FuncData}
/-- a tuple of pairs -/
def TqP (H : Hp) (c : Addr) (q : List Pr) : Prop := ∃ xs, H c = some (.tup xs) ∧ DtAll H xs (q.map prD)
theorem TqP.mono {H H' : Hp} (s : Same H H') {c : Addr} {q : List Pr} : TqP H c q → TqP H' c q := fun ⟨xs, h, d⟩ => ⟨xs, s _ _ h, d.mono s⟩
abbrev rAddI : R2 := rI0 fun i j => .int (i + j)
/-! ### Web on a list of pairs -/
end
end K0
set_option Elab.async false
set_option linter.all false
set_option maxRecDepth 100000
set_option maxHeartbeats 4000000
namespace K0
open PySem PySem.Spec PyProof.Rows L2
section
variable {P : Program} {w : World} {K : PySem.W.Frag} {mg : Str → Option Value} {base : Heap} {f : Addr} {fd : FuncData}
theorem Grow.ys {H : Hp} {D : Addr} {rs : List Pr} (g : Grow H D rs) : ∃ ys, H D = some (.lst ys) ∧ ys.length = rs.length ∧ DtAll H ys (rs.map prD) := g.at
end
end K0
set_option Elab.async false
set_option linter.all false
set_option maxRecDepth 100000
set_option maxHeartbeats 4000000
namespace K0
open PySem PySem.Spec PyProof.Rows L2 ClX
/-! ### own operators -/
/-! ### defs called by positional promises -/
/-! ### the class as a local name -/
section
variable {P : Program} {w : World} {K : PySem.W.Frag} {mg : Str → Option Value} {base : Heap} {f : Addr} {fd : FuncData}
theorem len28 {n : Int} {q : List Pr} (h : Cl n q) (hn : n ≤ 8) : q.length ≤ 28 := by
  let c : List Pr := (List.range 8).flatMap fun (x : Nat) => ((List.range 8).filter fun (y : Nat) => decide (x < y)).map fun (y : Nat) => ((x : Int), (y : Int))
  have e : c.length = 28 := by decide +kernel
  rw [← e]
  refine len_sub q c (pairwise_nodup h.srt) fun p hp => ?_
  obtain ⟨h1, h2, h3⟩ := h.rng p hp
  exact List.mem_flatMap.mpr ⟨p.1.toNat, List.mem_range.mpr (by omega), List.mem_map.mpr ⟨p.2.toNat, List.mem_filter.mpr ⟨List.mem_range.mpr (by omega), decide_eq_true (by omega)⟩, Prod.ext (by dsimp only; omega) (by dsimp only; omega)⟩⟩
end
end K0
set_option Elab.async false
set_option linter.all false
set_option maxRecDepth 100000
set_option maxHeartbeats 4000000
namespace K0
open PySem PySem.Spec PyProof.Rows L2 StX
section
variable {P : Program} {w : World} {K : PySem.W.Frag} {mg : Str → Option Value} {base : Heap} {f : Addr} {fd : FuncData}
theorem WebAt.ins {C : Addr} {H : Hp} {p : Addr} {n : Int} {q : List Pr} (W : WebAt C H p n q) : ∃ dx fs, H p = some (.ins C dx fs) := by
  obtain ⟨⟨dx, c, m, l, h1, _⟩, _⟩ := W
  exact ⟨dx, _, h1⟩
theorem WebAt.new {C : Addr} {H H' : Hp} {p : Addr} {n : Int} {q : List Pr} (W : WebAt C (New H H') p n q) : WebAt C H' p n q := W.mono same_new
end
end K0
set_option Elab.async false
set_option linter.all false
set_option maxRecDepth 100000
set_option maxHeartbeats 4000000
namespace K0
open PySem PySem.Spec PyProof.Rows L2
/-! ### rows of webs -/
section
variable {P : Program} {w : World} {K : PySem.W.Frag} {mg : Str → Option Value} {base : Heap} {f : Addr} {fd : FuncData}
structure Blt3 (mg : Str → Option Value) : Prop extends Blt2 mg where
  sum : mg "sum" = none
  zip : mg "zip" = none
end
end K0
set_option Elab.async false
set_option linter.all false
set_option maxRecDepth 100000
set_option maxHeartbeats 4000000
namespace K0
open PySem PySem.Spec PyProof.Rows L2
section
variable {X : Cx} {o e : Expr} {es : List Expr} {to : TE} {t : TA} {apos cpos : Pos}
/-- o.extend(e) -/
theorem pe_lext (ho : PE X o to) (ha : PA X (e :: es) t) (hbase : attributeBase o "extend" X.env (eval o X.env) = eval o X.env := by rfl)
    (hfew : ((backTo cpos (starEach (e :: es) X.env)).all (fun x => !x.1) && (backToKw cpos (keywordEach [] X.env)).all (fun x => x.1.isSome) && decide ((e :: es).length + ([] : List Keyword).length + (if ([] : List Keyword).isEmpty then 0 else 1) < 30)) = true := by rfl)
    (hline : (apos.endLine == cpos.line) = true := by rfl) (hs : starEach (e :: es) X.env = (false, eval e X.env) :: starEach es X.env := by rfl) (hplain : (backTo cpos (starEach es X.env)).any (·.1) = false := by rfl) :
    PE X (.Call (.Attribute o "extend" apos) (e :: es) [] cpos) (tBM X.K "list" rExtend to t) := pe_bm PySem.F.plainAttrs_list PySem.F.slot_list_extend PySem.F.type_list_extend mt_extend ho ha hbase hfew hline hs hplain
end
/-- a list of fresh pairs behind another one -/
theorem Grow.cat {H : Hp} {D a : Addr} {rs ss : List Pr} {xs ys : List V} (g : Grow H D rs) (g' : Grow H a ss) (hx : H D = some (.lst xs)) (hy : H a = some (.lst ys)) : Grow (upd H D (.lst (xs ++ ys))) D (rs ++ ss) := by
  obtain ⟨l, h, e, p⟩ := g
  obtain ⟨l', h', e', p'⟩ := g'
  rw [h] at hx
  cases hx
  rw [h'] at hy
  cases hy
  refine ⟨l ++ l', by rw [upd_same, List.map_append], by rw [List.map_append, e, e'], fun z hz => ?_⟩
  have hz2 : H z.1 = some (.tup [.int z.2.1, .int z.2.2]) := (List.mem_append.mp hz).elim (p z) (p' z)
  have zD : z.1 ≠ D := fun e => by
    rw [e, h] at hz2
    cases hz2
  rw [upd_ne zD]
  exact hz2
theorem flat_take_le {α β : Type} (l : List α) (f : α → List β) (j : Nat) : ((l.take j).flatMap f).length ≤ (l.flatMap f).length := by
  have e : l.flatMap f = (l.take j).flatMap f ++ (l.drop j).flatMap f := by rw [← List.flatMap_append, List.take_append_drop]
  rw [e, List.length_append]
  exact Nat.le_add_right _ _
end K0
set_option Elab.async false
set_option linter.all false
set_option maxRecDepth 100000
set_option maxHeartbeats 4000000
namespace K0
open PySem PySem.Spec PyProof.Rows L2
/-! ### bits taken off -/
def andN (a b : Nat) : Nat := a - (a &&& b)
theorem andN_bit : ∀ (j a b : Nat), (andN a b).testBit j = (a.testBit j && !b.testBit j) := fun j => by
  induction j with
  | zero =>
    intro a b
    unfold andN
    have h1 : (a &&& b) % 2 = 1 ↔ a % 2 = 1 ∧ b % 2 = 1 := Nat.and_mod_two_eq_one
    have h2 : a &&& b ≤ a := Nat.and_le_left
    have h3 : (a &&& b) / 2 = a / 2 &&& b / 2 := Nat.and_div_two
    have h4 : a / 2 &&& b / 2 ≤ a / 2 := Nat.and_le_left
    rw [Nat.testBit_zero, Nat.testBit_zero, Nat.testBit_zero, Bool.eq_iff_iff, Bool.and_eq_true, Bool.not_eq_true', decide_eq_true_iff, decide_eq_true_iff, decide_eq_false_iff_not]
    by_cases ha : a % 2 = 1 <;> by_cases hb : b % 2 = 1 <;> omega
  | succ j ih =>
    intro a b
    rw [Nat.testBit_succ, Nat.testBit_succ, Nat.testBit_succ, ← ih]
    congr 1
    unfold andN
    have h1 : (a &&& b) % 2 = 1 ↔ a % 2 = 1 ∧ b % 2 = 1 := Nat.and_mod_two_eq_one
    have h2 : a &&& b ≤ a := Nat.and_le_left
    have h3 : (a &&& b) / 2 = a / 2 &&& b / 2 := Nat.and_div_two
    have h4 : a / 2 &&& b / 2 ≤ a / 2 := Nat.and_le_left
    by_cases ha : a % 2 = 1 <;> by_cases hb : b % 2 = 1 <;> omega
theorem andN_le (a b : Nat) : andN a b ≤ a := Nat.sub_le _ _
theorem and_not (a b : Nat) : Builtin.bitAnd (a : Int) (Builtin.bitNot (b : Int)) = ((andN a b : Nat) : Int) := by
  have n : Builtin.bitNot (Builtin.bitNot (b : Int)) = (b : Int) := by unfold Builtin.bitNot; omega
  have e1 : decide (0 ≤ (a : Int)) = true := decide_eq_true (Int.natCast_nonneg a)
  have e2 : decide (0 ≤ Builtin.bitNot (b : Int)) = false := decide_eq_false (by unfold Builtin.bitNot; omega)
  unfold Builtin.bitAnd
  rw [e1, e2]
  dsimp only
  rw [n, Int.toNat_natCast, Int.toNat_natCast]
  unfold andN
  have : a &&& b ≤ a := Nat.and_le_left
  omega
theorem bits_small {m k : Nat} (h : m < 2 ^ k) : bitsN m ≤ k := by
  unfold bitsN Builtin.Int.intBits
  split
  · exact Nat.zero_le _
  · rename_i z
    rw [Int.natAbs_natCast]
    have nz : m ≠ 0 := by simpa using z
    have := (Nat.log2_lt nz).mpr h
    omega
/-- x & ~y -/
def rAndN : R2 := fun x y H Q => ∃ a b : Nat, x = .int (a : Int) ∧ y = .int (Builtin.bitNot (b : Int)) ∧ Q (.int ((andN a b : Nat) : Int)) H
theorem op_andN {X : Cx} : OpR X (binaryOp .BitAnd) rAndN := OpR_imp op_and fun x y H Q ⟨a, b, ex, ey, q⟩ => ⟨_, _, ex, ey, by show Q (.int (Builtin.bitAnd (a : Int) (Builtin.bitNot (b : Int)))) H; rw [and_not]; exact q⟩
/-! ### lists of fresh rows -/
def GrowR (H : Hp) (D : Addr) (rs : List Rw) : Prop := ∃ l : List (Addr × Rw), H D = some (.lst (l.map fun z => V.ref z.1)) ∧ l.map (·.2) = rs ∧ ∀ z ∈ l, H z.1 = some (.tup (z.2.map V.int))
theorem GrowR.mono {H H' : Hp} {D : Addr} {rs : List Rw} (s : Same H H') : GrowR H D rs → GrowR H' D rs := fun ⟨l, h, e, p⟩ => ⟨l, s _ _ h, e, fun z hz => s _ _ (p z hz)⟩
theorem dtAll_rws {H : Hp} : ∀ {l : List (Addr × Rw)}, (∀ z ∈ l, H z.1 = some (.tup (z.2.map V.int))) → DtAll H (l.map fun z => V.ref z.1) (l.map fun z => rwD z.2)
  | [], _ => .nil
  | z :: r, h => .cons (.tup (h z List.mem_cons_self) (DtAll.ints _ _)) (dtAll_rws fun y hy => h y (List.mem_cons_of_mem _ hy))
theorem GrowR.at {H : Hp} {D : Addr} {rs : List Rw} (g : GrowR H D rs) : ∃ xs, H D = some (.lst xs) ∧ xs.length = rs.length ∧ DtAll H xs (rs.map rwD) := by
  obtain ⟨l, h, e, p⟩ := g
  refine ⟨_, h, by rw [← e, List.length_map, List.length_map], ?_⟩
  rw [← e, List.map_map]
  exact dtAll_rws p
theorem GrowR.nil {H : Hp} {D : Addr} (n : H D = none) : GrowR (upd H D (.lst [])) D [] := ⟨[], upd_same, rfl, fun z hz => by cases hz⟩
theorem GrowR.push {H : Hp} {D u : Addr} {rs : List Rw} {r : Rw} (g : GrowR H D rs) (nu : H u = none) {xs : List V} (hx : H D = some (.lst xs)) : GrowR (upd (upd H u (.tup (r.map V.int))) D (.lst (xs ++ [.ref u]))) D (rs ++ [r]) := by
  obtain ⟨l, h, e, p⟩ := g
  rw [h] at hx
  cases hx
  refine ⟨l ++ [(u, r)], by rw [upd_same, List.map_append]; rfl, by rw [List.map_append, e]; rfl, fun z hz => ?_⟩
  have s2 : Same H (upd H u (.tup (r.map V.int))) := same_upd nu
  have hz2 : (upd H u (.tup (r.map V.int))) z.1 = some (.tup (z.2.map V.int)) := by
    rcases List.mem_append.mp hz with hz | hz
    · exact s2 _ _ (p z hz)
    · rw [List.mem_singleton.mp hz]
      exact upd_same
  have zD : z.1 ≠ D := fun e => by
    rw [e, s2 _ _ h] at hz2
    cases hz2
  rw [upd_ne zD]
  exact hz2
theorem GrowR.cat {H : Hp} {D a : Addr} {rs ss : List Rw} {xs ys : List V} (g : GrowR H D rs) (g' : GrowR H a ss) (hx : H D = some (.lst xs)) (hy : H a = some (.lst ys)) : GrowR (upd H D (.lst (xs ++ ys))) D (rs ++ ss) := by
  obtain ⟨l, h, e, p⟩ := g
  obtain ⟨l', h', e', p'⟩ := g'
  rw [h] at hx
  cases hx
  rw [h'] at hy
  cases hy
  refine ⟨l ++ l', by rw [upd_same, List.map_append], by rw [List.map_append, e, e'], fun z hz => ?_⟩
  have hz2 : H z.1 = some (.tup (z.2.map V.int)) := (List.mem_append.mp hz).elim (p z) (p' z)
  have zD : z.1 ≠ D := fun e => by
    rw [e, h] at hz2
    cases hz2
  rw [upd_ne zD]
  exact hz2
/-- a list or tuple of rows -/
theorem tupI_row {K : PySem.W.Frag} {H : Hp} {v : V} {r : Rw} (h : Dt H v (rwD r)) : TupI K H v r := by
  obtain ⟨a, e, ha⟩ := dt_row h
  exact ⟨a, e, SqT.of ha⟩
theorem dta_pick {H : Hp} {r0 : V → Rw} : ∀ {xs : List V} {rs : List Rw}, DtAll H xs (rs.map rwD) → (∀ v r, Dt H v (rwD r) → r0 v = r) → xs.map r0 = rs ∧ ∀ x ∈ xs, Dt H x (rwD (r0 x))
  | [], [], _, _ => ⟨rfl, fun x hx => by cases hx⟩
  | _ :: _, [], h, _ => by cases h
  | [], _ :: _, h, _ => by cases h
  | x :: xs, r :: rs, h, k => by
    cases h with
    | cons a b =>
      obtain ⟨e1, e2⟩ := dta_pick b k
      have e := k x r a
      refine ⟨by rw [List.map_cons, e, e1], fun y hy => ?_⟩
      rcases List.mem_cons.mp hy with hy | hy
      · rw [hy, e]
        exact a
      · exact e2 y hy
theorem dta_rws {H : Hp} {r0 : V → Rw} : ∀ {ys : List V}, (∀ y ∈ ys, Dt H y (rwD (r0 y))) → DtAll H ys ((ys.map r0).map rwD)
  | [], _ => .nil
  | y :: ys, h => .cons (h y List.mem_cons_self) (dta_rws fun z hz => h z (List.mem_cons_of_mem _ hz))
def unV : V → Int
  | .int i => i
  | _ => 0
def r0H (H : Hp) : V → Rw
  | .ref a => match H a with
    | some (.tup xs) => xs.map unV
    | _ => []
  | _ => []
theorem r0H_at {H : Hp} (v : V) (r : Rw) (h : Dt H v (rwD r)) : r0H H v = r := by
  obtain ⟨a, rfl, ha⟩ := dt_row h
  show (match H a with | some (.tup xs) => xs.map unV | _ => []) = r
  rw [ha]
  show (r.map V.int).map unV = r
  rw [List.map_map]
  exact List.map_id _
/-- sorted of a list of rows of d things below 64 -/
theorem cr_srtW {X : Cx} {d : Nat} (hd : 1 ≤ d) : CallR X (.builtin "sorted") (fun xs H Q => ∃ (a : Addr) (rs : List Rw) (ys : List V), xs = [.ref a] ∧ H a = some (.lst ys) ∧ DtAll H ys (rs.map rwD) ∧ (∀ r ∈ rs, r.length = d ∧ TS.Bd 64 r) ∧
    ∀ (H' : Hp) (p : Addr) (zs : List V) (ss : List Rw), Same H H' → H p = none → H' p = some (.lst zs) → DtAll H' zs (ss.map rwD) → ss.Perm rs → ss.Pairwise (fun a b => TS.code 64 a ≤ TS.code 64 b) → Q (.ref p) H') := by
  intro pins s σ H xs us Q I r h
  obtain ⟨a, rs, ys, rfl, ha, hy, hb, k⟩ := h
  obtain ⟨e1, e2⟩ := dta_pick (r0 := r0H H) hy r0H_at
  refine cr_sortV (d := d) hd pins s σ H _ us Q I r ⟨a, ys, rfl, SqL.of ha, fun x hx => ⟨r0H H x, tupI_row (e2 x hx), ?_⟩, fun zs p pm le np => ?_⟩
  · exact hb _ (by rw [← e1]; exact List.mem_map.mpr ⟨x, hx, rfl⟩)
  · have sm : Same H (upd H p (.lst zs)) := same_upd np
    refine k _ p zs (zs.map (r0H H)) sm np upd_same (dta_rws fun y hy' => (e2 y (pm.mem_iff.mp hy')).mono sm) (by rw [← e1]; exact pm.map _) ?_
    refine List.pairwise_map.mpr (List.Pairwise.imp_of_mem (fun {x y} hx hy' le => ?_) le)
    exact le _ _ (tupI_row (e2 x (pm.mem_iff.mp hx))) (tupI_row (e2 y (pm.mem_iff.mp hy')))
end K0
set_option Elab.async false
set_option linter.all false
set_option maxRecDepth 100000
set_option maxHeartbeats 4000000
namespace K0
open PySem PySem.Spec PyProof.Rows L2
theorem len_fm {α β : Type} {m : Nat} {f : α → List β} : ∀ (l : List α), (∀ x ∈ l, (f x).length ≤ m) → (l.flatMap f).length ≤ l.length * m
  | [], _ => by simp
  | x :: l, h => by
    have := len_fm l fun y hy => h y (List.mem_cons_of_mem _ hy)
    have := h x List.mem_cons_self
    rw [List.flatMap_cons, List.length_append, List.length_cons, Nat.succ_mul]
    omega
theorem fil_len {n : Nat} (p : Nat → Bool) : ((List.range n).filter p).length ≤ n := by
  have := List.length_filter_le p (List.range n)
  rwa [List.length_range] at this
theorem pf3_len (n : Nat) (q : List Pr) (b c a : Nat) : (pf3 n q b c a).length ≤ n := by
  unfold pf3
  rw [List.length_map]
  exact Nat.le_trans (List.length_filter_le _ _) (fil_len _)
theorem pf2_len (n : Nat) (q : List Pr) (b c : Nat) : (pf2 n q b c).length ≤ n * n := Nat.le_trans (len_fm _ fun x _ => pf3_len n q b c x) (Nat.mul_le_mul_right _ (fil_len _))
theorem pf1_len (n : Nat) (q : List Pr) (b : Nat) : (pf1 n q b).length ≤ n * (n * n) := Nat.le_trans (len_fm _ fun x _ => pf2_len n q b x) (Nat.mul_le_mul_right _ (fil_len _))
theorem fm_snoc {α β : Type} {l : List α} {f : α → List β} {j : Nat} {e : α} (h : l[j]? = some e) : (l.take (j + 1)).flatMap f = (l.take j).flatMap f ++ f e := by
  rw [take_at h, List.flatMap_append]
  simp
theorem fm_len {α β : Type} {m : Nat} {f : α → List β} (l : List α) (j : Nat) (h : ∀ x ∈ l, (f x).length ≤ m) : ((l.take j).flatMap f).length ≤ l.length * m := Nat.le_trans (flat_take_le l f j) (len_fm l h)
theorem nvs_val {l : List Nat} {j : Nat} {v : V} (h : (nvs l)[j]? = some v) : ∃ x, l[j]? = some x ∧ v = .int (x : Int) := by
  unfold nvs at h
  rw [List.getElem?_map] at h
  cases e : l[j]? with
  | none => rw [e] at h; cases h
  | some x => rw [e] at h; exact ⟨x, rfl, (Option.some.inj h).symm⟩
section
variable {P : Program} {w : World} {K : PySem.W.Frag} {mg : Str → Option Value} {base : Heap} {f : Addr} {fd : FuncData}
/-- rows_of_four -/
def spRf (C : Addr) : Sp := fun vs H Q _ => ∃ (p : Addr) (n : Int) (q : List Pr), vs = [.ref p] ∧ WebAt C H p n q ∧ ∀ H' t xs rs, Same H H' → H t = none → H' t = some (.tup xs) → DtAll H' xs (rs.map rwD) → IsRows n q rs → Q (.ref t) H'
theorem mk_at {C : Addr} {H : Hp} {p : Addr} {n : Int} {q : List Pr} (W : WebAt C H p n q) {x : Nat} {Q : VK} {H' : Hp} {mm : Addr} (hm : SqT K H' mm (nvs (mOf n.toNat q))) (hx : x < n.toNat) (k : Q (.int (((mOf n.toNat q).getD x 0 : Nat) : Int)) H') : rIxT K (.ref mm) (.int (x : Int)) H' Q := by
  refine ⟨mm, _, (x : Int), _, rfl, rfl, hm, nvs_at (mask_at W x (by have := W.n0; omega)), k⟩
theorem bits3 {C : Addr} {H : Hp} {p : Addr} {n : Int} {q : List Pr} (W : WebAt C H p n q) (b c a : Nat) (x : Nat) : (andN (andN (andN ((mOf n.toNat q).getD c 0) ((mOf n.toNat q).getD b 0)) ((mOf n.toNat q).getD a 0)) (2 ^ b)).testBit x = (hasP q c x && !hasP q b x && !hasP q a x && !decide (x = b)) := by
  rw [andN_bit, andN_bit, andN_bit, mask_bits W, mask_bits W, mask_bits W, Nat.testBit_two_pow]
  congr 2
  exact decide_eq_decide.mpr eq_comm
theorem bits2 {C : Addr} {H : Hp} {p : Addr} {n : Int} {q : List Pr} (W : WebAt C H p n q) (b c : Nat) (x : Nat) : (andN (andN ((mOf n.toNat q).getD b 0) ((mOf n.toNat q).getD c 0)) (2 ^ c)).testBit x = (hasP q b x && !hasP q c x && !decide (x = c)) := by
  rw [andN_bit, andN_bit, mask_bits W, mask_bits W, Nat.testBit_two_pow]
  congr 2
  exact decide_eq_decide.mpr eq_comm
theorem bits_lt {m k : Nat} (h : ∀ j, k ≤ j → m.testBit j = false) (hk : k ≤ 16) : bitsN m ≤ 16 := bits_small (Nat.lt_pow_two_of_testBit _ fun i hi => h i (by omega))
end
end K0
set_option Elab.async false
set_option linter.all false
set_option maxRecDepth 100000
set_option maxHeartbeats 4000000
namespace K0
open PySem PySem.Spec PyProof.Rows L2
section
variable {P : Program} {w : World} {K : PySem.W.Frag} {mg : Str → Option Value} {base : Heap} {f : Addr} {fd : FuncData}
abbrev s_ck : Stmt := top 52
abbrev s_ln' : Stmt := top 57
abbrev s_rg : Stmt := top 58
abbrev s_lq : Stmt := top 69
/-- _law_clash -/
def spCk : Sp := fun vs H Q _ => ∃ (b : Addr) (n : Int) (x y : Nat) (q : List Pr), vs = [.ref b, .int (x : Int), .int (y : Int)] ∧ Cl n q ∧ Ls H b q ∧ Ret (.bl (hasP q x y)) H Q
theorem sc_ck : FnScope ["_law_pairs", "_law_x", "_law_y"] ["_law_pairs", "_law_x", "_law_y"] (defScope s_ck) := ⟨rfl, rfl, rfl, by decide +kernel, rfl, by decide +kernel, by decide +kernel⟩
theorem ok_ck (F : Fun K "_law_clash" "_law_clash" s_ck f fd) (B : Blt2 mg) : FnOk P w K mg base (L2.CX P w) 2 f fd ["_law_pairs", "_law_x", "_law_y"] spCk := by
  refine F.okX sc_ck (fun vs H Q E h => ?_) (fun cdv A outer s H vs Q E hr h => ?_)
  · obtain ⟨b, n, x, y, q, rfl, _⟩ := h
    rfl
  · obtain ⟨b, n, x, y, q, rfl, cl, hl, k⟩ := h
    have hu : (A.deeper (envOfC "_law_clash" (defScope s_ck) s.heap.objs.size f cdv)).units + 65 < cLine := by have := hr.un; omega
    refine ⟨_, pss_one (ps_ret (pe_cmpR (op_inD hu) (pe_tup (pa_cons (pe_callB (c_min rfl) (by rfl) B.min (by decide +kernel) (pa_cons (pv 1) (pa_cons (pv 2) pa_nil))) (pa_cons (pe_callB (c_max rfl) (by rfl) B.max (by decide +kernel) (pa_cons (pv 1) (pa_cons (pv 2) pa_nil))) pa_nil))) (pv 0) (by rfl))), ?_⟩
    refine ⟨_, rfl, _, rfl, _, _, rfl, _, rfl, _, rfl, _, _, rfl, (by show 2 ≤ sizeLine; decide), fun t nt => ?_⟩
    rw [min2, max2]
    have s2 : Same H (upd H t (.tup [.int (min (x : Int) y), .int (max (x : Int) y)])) := same_upd nt
    refine ⟨_, rfl, prD (min (x : Int) y, max (x : Int) y), _, (dt_pr (p := (min (x : Int) y, max (x : Int) y)) upd_same).dp, (hl.mono s2).dp, prD_shaped _, prsL_shaped _, ?_⟩
    rw [prs_any, hasP_mm cl]
    exact k _ s2
/-- pairs of neighbours -/
def lnP (k : Nat) : List Pr := (List.range k).map fun (x : Nat) => ((x : Int), (x : Int) + 1)
theorem lnP_succ (k : Nat) : lnP (k + 1) = lnP k ++ [((k : Int), (k : Int) + 1)] := by
  unfold lnP
  rw [List.range_succ, List.map_append]
  rfl
theorem lnP_len (k : Nat) : (lnP k).length = k := by unfold lnP; rw [List.length_map, List.length_range]
theorem new_upd {H G : Hp} {u : Addr} {o : HO} (n : H u = none) : New H (upd G u o) = upd (New H G) u o := by
  funext b
  by_cases e : b = u
  · rw [e, new_at n, upd_same, upd_same]
  · rw [upd_ne e]
    unfold New
    rw [upd_ne e]
theorem line_stepN {H H' : Hp} {D : Addr} {i : Nat} (nD : H D = none) (sm : Same H H') (g : Grow (New H H') D (lnP i)) (hi : i < 16) {u : Addr} (nu : H' u = none) :
    ∃ acc, (upd H' u (.tup [.int (i : Int), .int ((i : Int) + 1)])) D = some (.lst acc) ∧ acc.length < sizeLine ∧ Same H (upd (upd H' u (.tup [.int (i : Int), .int ((i : Int) + 1)])) D (.lst (acc ++ [.ref u]))) ∧ Grow (New H (upd (upd H' u (.tup [.int (i : Int), .int ((i : Int) + 1)])) D (.lst (acc ++ [.ref u])))) D (lnP (i + 1)) := by
  obtain ⟨as, hA, lA, _⟩ := g.at
  have s8 : Same H' (upd H' u (.tup [.int (i : Int), .int ((i : Int) + 1)])) := same_upd nu
  have hu : H u = none := sm.free nu
  refine ⟨as, s8 _ _ (same_new _ _ hA), ?_, same_keep nD (sm.trans s8), ?_⟩
  · rw [lA, lnP_len, sizeLine_eq]
    omega
  · rw [lnP_succ, new_upd nD, new_upd hu]
    exact g.push (by rw [new_at hu]; exact nu) hA
/-- _law_line -/
def spLine : Sp := fun vs H Q _ => ∃ (n : Int), vs = [.int n] ∧ 1 ≤ n ∧ n ≤ 16 ∧ ∀ H' D, Same H H' → H D = none → Grow (New H H') D (lnP (n - 1).toNat) → Q (.ref D) H'
theorem sc_ln' : FnScope ["_law_many", "_law_x"] ["_law_many"] (defScope s_ln') := ⟨rfl, rfl, rfl, by decide +kernel, rfl, by decide +kernel, by decide +kernel⟩
theorem line_step {H H' : Hp} {D : Addr} {i : Nat} (nD : H D = none) (sm : Same H H') (g : Grow H' D (lnP i)) (hi : i < 16) {u : Addr} (nu : H' u = none) :
    ∃ acc, (upd H' u (.tup [.int (i : Int), .int ((i : Int) + 1)])) D = some (.lst acc) ∧ acc.length < sizeLine ∧ Same H (upd (upd H' u (.tup [.int (i : Int), .int ((i : Int) + 1)])) D (.lst (acc ++ [.ref u]))) ∧ Grow (upd (upd H' u (.tup [.int (i : Int), .int ((i : Int) + 1)])) D (.lst (acc ++ [.ref u]))) D (lnP (i + 1)) := by
  obtain ⟨as, hA, lA, _⟩ := g.at
  have s8 : Same H' (upd H' u (.tup [.int (i : Int), .int ((i : Int) + 1)])) := same_upd nu
  refine ⟨as, s8 _ _ hA, ?_, same_keep nD (sm.trans s8), ?_⟩
  · rw [lA, lnP_len, sizeLine_eq]
    omega
  · rw [lnP_succ]
    exact g.push nu hA
theorem ok_ln' (F : Fun K "_law_line" "_law_line" s_ln' f fd) (B : Blt2 mg) : FnOk P w K mg base (L2.CX P w) 1 f fd ["_law_many"] spLine := by
  refine F.okX sc_ln' (fun vs H Q E h => ?_) (fun cdv A outer s H vs Q E hr h => ?_)
  · obtain ⟨n, rfl, _⟩ := h
    rfl
  · obtain ⟨n, rfl, n1, n16, k⟩ := h
    have nd := sc_ln'.nd
    refine ⟨_, pss_one (ps_ret (pe_lc (own := [("_law_x", 1)]) (g := gName 1) (tt := tYes) (te := tTup (tCons (tVar 1) (tCons (tOp (rI0 fun i j => .int (i + j)) (tVar 1) (tC (.int 1))) tNil))) rfl nd
      (pi_range1 (by rfl) B.range (pa_cons (pe_op op_sub (pv 0) pe_int) pa_nil)) (blkOk_by (N := ["_law_many", "_law_x"]) (sc := defScope s_ln') (by decide +kernel)) (fun _ _ _ _ _ => pg_name (i := 1) nd rfl (.inl rfl)) (fun _ _ _ _ _ => pts_nil)
      (fun _ _ _ _ _ => pe_tup (pa_cons (pv 1) (pa_cons (pe_op op_add (pv 1) pe_int) pa_nil))))), ?_⟩
    refine ⟨_, rfl, _, _, rfl, rfl, n - 1, rfl, by omega, by omega, fun D nD => ?_⟩
    refine lc_range (lo := 0) (n := (n - 1).toNat) (fun i H' => Same H H' ∧ Grow (New H H') D (lnP i)) ⟨same_upd nD, [], by rw [new_upd nD, upd_same]; rfl, rfl, fun z hz => by cases hz⟩ (fun i H' hi ⟨sm, g⟩ => ?_) (fun H' ⟨sm, g⟩ => k H' D sm nD g)
    refine ⟨rfl, ?_⟩
    rw [Int.zero_add]
    exact ⟨_, rfl, _, rfl, _, _, rfl, rfl, (by show 2 ≤ sizeLine; decide), fun u nu => line_stepN nD sm g (by omega) nu⟩
end
end K0
set_option Elab.async false
set_option linter.all false
set_option maxRecDepth 100000
set_option maxHeartbeats 4000000
namespace K0
open PySem PySem.Spec PyProof.Rows L2
theorem fil_snoc {α : Type} {l : List α} {p : α → Bool} {k : Nat} {e : α} (h : l[k]? = some e) : (l.take (k + 1)).filter p = (l.take k).filter p ++ if p e = true then [e] else [] := by
  rw [take_at h, List.filter_append]
  congr 1
  cases hp : p e <;> simp [hp]
theorem GrowR.ne {H : Hp} {D u : Addr} {rs : List Rw} (g : GrowR H D rs) (n : H u = none) : u ≠ D := fun e => by
  obtain ⟨xs, h, _⟩ := g.at
  rw [e, h] at n
  cases n
theorem lq3_len (n : Nat) (q : List Pr) (a b c : Nat) : (lq3 n q a b c).length ≤ n := by
  unfold lq3
  rw [List.length_map]
  exact Nat.le_trans (List.length_filter_le _ _) (fil_len _)
theorem lq2_len (n : Nat) (q : List Pr) (a b : Nat) : (lq2 n q a b).length ≤ n * n := Nat.le_trans (len_fm _ fun x _ => lq3_len n q a b x) (Nat.mul_le_mul_right _ (Nat.le_trans (List.length_filter_le _ _) (fil_len _)))
theorem lq1_len (n : Nat) (q : List Pr) (a : Nat) : (lq1 n q a).length ≤ n * (n * n) := Nat.le_trans (len_fm _ fun x _ => lq2_len n q a x) (Nat.mul_le_mul_right _ (fil_len _))
theorem lq_len (n : Nat) (q : List Pr) : (lq n q).length ≤ n * (n * (n * n)) := by
  have := len_fm (List.range n) (f := lq1 n q) fun x _ => lq1_len n q x
  rwa [List.length_range] at this
section
variable {P : Program} {w : World} {K : PySem.W.Frag} {mg : Str → Option Value} {base : Heap} {f : Addr} {fd : FuncData}
theorem sc_rg : FnScope ["_law_many", "_law_pairs", "_law_x"] ["_law_many"] (defScope s_rg) := ⟨rfl, rfl, rfl, by decide +kernel, rfl, by decide +kernel, by decide +kernel⟩
/-- _law_quads -/
def spLq : Sp := fun vs H Q _ => ∃ (b : Addr) (n : Int) (q : List Pr), vs = [.int n, .ref b] ∧ 0 ≤ n ∧ n ≤ 16 ∧ Cl n q ∧ Ls H b q ∧ ∀ H' t xs rs, Same H H' → H t = none → H' t = some (.lst xs) → DtAll H' xs (rs.map rwD) → IsRows n q rs → rs.length ≤ n.toNat * (n.toNat * (n.toNat * n.toNat)) → Q (.ref t) H'
theorem sc_lq : FnScope ["_law_many", "_law_pairs", "_law_quads_here", "_law_a", "_law_b", "_law_c", "_law_d"] ["_law_many", "_law_pairs"] (defScope s_lq) := ⟨rfl, rfl, rfl, by decide +kernel, rfl, by decide +kernel, by decide +kernel⟩
theorem ok_lq (F : Fun K "_law_quads" "_law_quads" s_lq f fd) (B : Blt3 mg) (NE : Df P w K mg base "_law_near" 2 ["_law_many", "_law_pairs", "_law_x"] spNe) (CK : Df P w K mg base "_law_clash" 2 ["_law_pairs", "_law_x", "_law_y"] spCk) : FnOk P w K mg base (L2.CX P w) 3 f fd ["_law_many", "_law_pairs"] spLq := by
  refine F.okX sc_lq (fun vs H Q E h => ?_) (fun cdv A outer s H vs Q E hr h => ?_)
  · obtain ⟨b, n, q, rfl, _⟩ := h
    rfl
  · obtain ⟨pb, n, q, rfl, n0, n16', cl, hl, k⟩ := h
    have nd := sc_lq.nd
    have r2 : Room 2 _ := hr.mono (by decide)
    have n16 : n.toNat ≤ 16 := by omega
    have clN : Cl (n.toNat : Int) q := by rw [Int.toNat_of_nonneg n0]; exact cl
    refine ⟨_, pss_cons (ps_set (i := 2) nd rfl (.inl rfl) (pe_lst pa_nil))
      (pss_cons (ps_for (passes_of rfl) rfl (pi_range1 (by rfl) B.range (pa_cons (pv 0) pa_nil)) (pg_name (i := 3) nd rfl (.inl rfl))
        (pss_one (ps_for (passes_of rfl) rfl (pi_list (pe_df NE r2 (by rfl) passUp (pa_cons (pv 0) (pa_cons (pv 1) (pa_cons (pv 3) pa_nil))))) (pg_name (i := 4) nd rfl (.inl rfl))
        (pss_one (ps_for (passes_of rfl) rfl (pi_list (pe_df NE r2 (by rfl) passUp (pa_cons (pv 0) (pa_cons (pv 1) (pa_cons (pv 4) pa_nil))))) (pg_name (i := 5) nd rfl (.inl rfl))
        (pss_one (ps_if (PW.pt (pw_and (pt_cmpR op_ne (pv 5) (pv 3) (by rfl)) (pw_and1 (pt_not (pt_val (pe_df CK r2 (by rfl) passUp (pa_cons (pv 1) (pa_cons (pv 3) (pa_cons (pv 5) pa_nil)))))))))
          (pss_one (ps_for (passes_of rfl) rfl (pi_list (pe_df NE r2 (by rfl) passUp (pa_cons (pv 0) (pa_cons (pv 1) (pa_cons (pv 5) pa_nil))))) (pg_name (i := 6) nd rfl (.inl rfl))
            (pss_one (ps_if (PW.pt (pw_and (pt_cmpR op_lt (pv 3) (pv 6) (nomark _)) (pw_and (pt_cmpR op_ne (pv 6) (pv 4) (by rfl)) (pw_and (pt_not (pt_val (pe_df CK r2 (by rfl) passUp (pa_cons (pv 1) (pa_cons (pv 4) (pa_cons (pv 6) pa_nil))))))
                (pw_and1 (pt_not (pt_val (pe_df CK r2 (by rfl) passUp (pa_cons (pv 1) (pa_cons (pv 3) (pa_cons (pv 6) pa_nil)))))))))))
              (pss_one (ps_expr (pe_lapp (pv 2) (pa_cons (pe_tup (pa_cons (pv 3) (pa_cons (pv 4) (pa_cons (pv 5) (pa_cons (pv 6) pa_nil))))) pa_nil)))) pss_nil)))) pss_nil)))))))
      (pss_one (ps_ret (pe_callB (cr_srtW (d := 4) (by decide)) (by rfl) B.sorted (by decide +kernel) (pa_cons (pv 2) pa_nil))))), ?_⟩
    refine ⟨by show 0 ≤ sizeLine; exact Nat.zero_le _, fun D nD => ?_⟩
    have s0 : Same H (upd H D (.lst [])) := same_upd nD
    let N := n.toNat
    let P1 : Nat → L2.St → Hp → Prop := fun i σ H' => ∃ o3 o4 o5 o6, σ = [some (.int n), some (.ref pb), some (.ref D), o3, o4, o5, o6] ∧ Same H H' ∧ GrowR H' D ((List.range i).flatMap (lq1 N q))
    refine ⟨_, rfl, n, rfl, by omega, by omega, for_range (n := n.toNat) P1 ⟨none, none, none, none, rfl, s0, GrowR.nil nD⟩ (fun a σ H1 ha h => ?_) (fun σ H1 h => ?_)⟩
    · obtain ⟨o3, o4, o5, o6, rfl, s1, g1⟩ := h
      rw [Int.zero_add]
      refine ⟨_, rfl, _, rfl, _, rfl, pb, n, a, q, rfl, n0, n16', cl, hl.mono s1, fun H2 ta s2 na hta => ?_⟩
      have taD : ta ≠ D := g1.ne na
      have la : ((List.range a).flatMap (lq1 N q)).length ≤ 65536 := by
        have h1 := len_fm (List.range a) (f := lq1 N q) fun x _ => lq1_len N q x
        rw [List.length_range] at h1
        exact Nat.le_trans h1 (Nat.le_trans (Nat.mul_le_mul (by omega : a ≤ 16) (Nat.mul_le_mul n16 (Nat.mul_le_mul n16 n16))) (by decide))
      let P2 : Nat → L2.St → Hp → Prop := fun j σ H' => ∃ o4 o5 o6, σ = [some (.int n), some (.ref pb), some (.ref D), some (.int (a : Int)), o4, o5, o6] ∧ Same H H' ∧ H' ta = some (.lst (nvs (near N q a))) ∧ GrowR H' D ((List.range a).flatMap (lq1 N q) ++ ((near N q a).take j).flatMap (lq2 N q a))
      refine ⟨ta, rfl, ⟨_, SqL.of hta⟩, for_list (K := K) (a := ta) (xs := nvs (near N q a)) P2 ⟨o4, o5, o6, rfl, s1.trans s2, hta, by simpa using g1.mono s2⟩ (fun j σ H' _ h => ?_) (fun j v σ H3 hj h => ?_) (fun σ H3 h => ?_)⟩
      · obtain ⟨_, _, _, _, _, ht, _⟩ := h
        exact SqL.of ht
      · obtain ⟨o4, o5, o6, rfl, s3, hta3, g3⟩ := h
        obtain ⟨b, hb, rfl⟩ := nvs_val hj
        have lb : (((near N q a).take j).flatMap (lq2 N q a)).length ≤ 4096 := by
          have h1 := fm_len (near N q a) j (f := lq2 N q a) fun x _ => lq2_len N q a x
          exact Nat.le_trans h1 (Nat.le_trans (Nat.mul_le_mul (Nat.le_trans (fil_len _) n16) (Nat.mul_le_mul n16 n16)) (by decide))
        refine ⟨_, rfl, _, rfl, _, rfl, pb, n, b, q, rfl, n0, n16', cl, hl.mono s3, fun H4 tb s4 nb htb => ?_⟩
        have tbD : tb ≠ D := g3.ne nb
        let AB : List Rw := (List.range a).flatMap (lq1 N q) ++ ((near N q a).take j).flatMap (lq2 N q a)
        have eAB : AB.length = ((List.range a).flatMap (lq1 N q)).length + (((near N q a).take j).flatMap (lq2 N q a)).length := List.length_append
        let pc : Nat → Bool := fun c => !decide (c = a) && !hasP q a c
        let P3 : Nat → L2.St → Hp → Prop := fun k σ H' => ∃ o5 o6, σ = [some (.int n), some (.ref pb), some (.ref D), some (.int (a : Int)), some (.int (b : Int)), o5, o6] ∧ Same H H' ∧ H' ta = some (.lst (nvs (near N q a))) ∧ H' tb = some (.lst (nvs (near N q b))) ∧ GrowR H' D (AB ++ (((near N q b).take k).filter pc).flatMap (lq3 N q a b))
        refine ⟨tb, rfl, ⟨_, SqL.of htb⟩, for_list (K := K) (a := tb) (xs := nvs (near N q b)) P3 ⟨o5, o6, rfl, s3.trans s4, s4 _ _ hta3, htb, by simpa [AB] using g3.mono s4⟩ (fun k σ H' _ h => ?_) (fun k v σ H5 hk h => ?_) (fun σ H5 h => ?_)⟩
        · obtain ⟨_, _, _, _, _, ht, _⟩ := h
          exact SqL.of ht
        · obtain ⟨o5, o6, rfl, s5, hta5, htb5, g5⟩ := h
          obtain ⟨c, hc, rfl⟩ := nvs_val hk
          have lc : ((((near N q b).take k).filter pc).flatMap (lq3 N q a b)).length ≤ 256 := by
            have h1 := len_fm (((near N q b).take k).filter pc) (f := lq3 N q a b) fun x _ => lq3_len N q a b x
            refine Nat.le_trans h1 (Nat.le_trans (Nat.mul_le_mul (Nat.le_trans (List.length_filter_le _ _) ?_) n16) (by decide : 16 * 16 ≤ 256))
            rw [List.length_take]
            exact Nat.le_trans (Nat.min_le_right _ _) (Nat.le_trans (fil_len _) n16)
          have ex : pc c = (!decide (c = a) && !hasP q a c) := rfl
          have skip : ∀ {H' : Hp}, Same H5 H' → pc c = false → GrowR H' D (AB ++ (((near N q b).take (k + 1)).filter pc).flatMap (lq3 N q a b)) := fun s e => by
            rw [fil_snoc hc, e]
            simpa using g5.mono s
          refine ⟨_, rfl, _, rfl, rfl, _, rfl, ?_⟩
          rw [dec_int]
          by_cases ca : c = a
          · rw [show (!(((c : Nat) : Int) == ((a : Nat) : Int))) = false by simp [ca]]
            refine iteF (iteF ⟨_, _, rfl, s5, hta5, htb5, skip (Same.refl _) ?_⟩)
            rw [ex, decide_eq_true ca]
            rfl
          rw [show (!(((c : Nat) : Int) == ((a : Nat) : Int))) = true by simp; omega]
          refine iteT ⟨_, rfl, _, rfl, _, rfl, pb, n, a, c, q, rfl, cl, hl.mono s5, fun H6 s6 => ⟨_, rfl, ?_⟩⟩
          have s56 := s5.trans s6
          cases hac : hasP q a c with
          | true =>
            refine iteF ⟨_, _, rfl, s56, s6 _ _ hta5, s6 _ _ htb5, skip s6 ?_⟩
            rw [ex, hac]
            simp
          | false =>
            refine iteT ⟨_, rfl, _, rfl, _, rfl, pb, n, c, q, rfl, n0, n16', cl, hl.mono s56, fun H7 tc s7 nc htc => ?_⟩
            have tcD : tc ≠ D := (g5.mono s6).ne nc
            have s57 := s56.trans s7
            let AC : List Rw := AB ++ (((near N q b).take k).filter pc).flatMap (lq3 N q a b)
            have eAC : AC.length = AB.length + ((((near N q b).take k).filter pc).flatMap (lq3 N q a b)).length := List.length_append
            let pd : Nat → Bool := fun d => decide (a < d) && (!decide (d = b) && (!hasP q b d && !hasP q a d))
            let R3 : Nat → List Rw := fun i => (((near N q c).take i).filter pd).map (row4 a b c)
            let P4 : Nat → L2.St → Hp → Prop := fun i σ H' => ∃ o6, σ = [some (.int n), some (.ref pb), some (.ref D), some (.int (a : Int)), some (.int (b : Int)), some (.int (c : Int)), o6] ∧ Same H H' ∧ H' ta = some (.lst (nvs (near N q a))) ∧ H' tb = some (.lst (nvs (near N q b))) ∧ H' tc = some (.lst (nvs (near N q c))) ∧ GrowR H' D (AC ++ R3 i)
            have lR : ∀ i, (R3 i).length ≤ 16 := fun i => by
              show (List.map _ _).length ≤ _
              rw [List.length_map]
              refine Nat.le_trans (List.length_filter_le _ _) ?_
              rw [List.length_take]
              exact Nat.le_trans (Nat.min_le_right _ _) (Nat.le_trans (fil_len _) n16)
            refine ⟨tc, rfl, ⟨_, SqL.of htc⟩, for_list (K := K) (a := tc) (xs := nvs (near N q c)) P4 ⟨o6, rfl, s57, s7 _ _ (s6 _ _ hta5), s7 _ _ (s6 _ _ htb5), htc, by simpa [AC, R3] using g5.mono (s6.trans s7)⟩ (fun i σ H' _ h => ?_) (fun i v σ H8 hi h => ?_) (fun σ H8 h => ?_)⟩
            · obtain ⟨_, _, _, _, _, ht, _⟩ := h
              exact SqL.of ht
            · obtain ⟨o6, rfl, s8, hta8, htb8, htc8, g8⟩ := h
              obtain ⟨d, hd, rfl⟩ := nvs_val hi
              have eR : R3 (i + 1) = R3 i ++ (if pd d = true then [row4 a b c d] else []) := by
                show (List.map _ _) = _
                rw [fil_snoc hd, List.map_append]
                congr 1
                cases pd d <;> rfl
              have ed : pd d = (decide (a < d) && (!decide (d = b) && (!hasP q b d && !hasP q a d))) := rfl
              have no : ∀ {H' : Hp}, Same H8 H' → pd d = false → P4 (i + 1) [some (.int n), some (.ref pb), some (.ref D), some (.int (a : Int)), some (.int (b : Int)), some (.int (c : Int)), some (.int (d : Int))] H' := fun {H'} s e => by
                refine ⟨_, rfl, s8.trans s, s _ _ hta8, s _ _ htb8, s _ _ htc8, ?_⟩
                rw [eR, e]
                simpa using g8.mono s
              refine ⟨_, rfl, _, rfl, _, _, rfl, rfl, _, rfl, ?_⟩
              by_cases lt : a < d
              case neg =>
                rw [decide_eq_false (by omega : ¬ (a : Int) < (d : Int))]
                refine iteF (iteF (no (Same.refl _) ?_))
                rw [ed, decide_eq_false lt]
                rfl
              rw [decide_eq_true (by omega : (a : Int) < (d : Int))]
              refine iteT ⟨_, rfl, _, rfl, rfl, _, rfl, ?_⟩
              rw [dec_int]
              by_cases db : d = b
              · rw [show (!(((d : Nat) : Int) == ((b : Nat) : Int))) = false by simp [db]]
                refine iteF (iteF (no (Same.refl _) ?_))
                rw [ed, decide_eq_true db]
                simp
              rw [show (!(((d : Nat) : Int) == ((b : Nat) : Int))) = true by simp; omega]
              refine iteT ⟨_, rfl, _, rfl, _, rfl, pb, n, b, d, q, rfl, cl, hl.mono s8, fun H9 s9 => ⟨_, rfl, ?_⟩⟩
              cases hbd : hasP q b d with
              | true =>
                refine iteF (iteF (no s9 ?_))
                rw [ed, hbd]
                simp
              | false =>
                refine iteT ⟨_, rfl, _, rfl, _, rfl, pb, n, a, d, q, rfl, cl, hl.mono (s8.trans s9), fun H10 s10 => ⟨_, rfl, ?_⟩⟩
                have s910 := s9.trans s10
                cases had : hasP q a d with
                | true =>
                  refine iteF (no s910 ?_)
                  rw [ed, had]
                  simp
                | false =>
                  have g10 := g8.mono s910
                  obtain ⟨as, hA, lA, _⟩ := g10.at
                  refine iteT ⟨_, rfl, .inl ⟨rfl, as, SqL.of hA⟩, _, rfl, _, rfl, _, rfl, _, rfl, (by show 4 ≤ sizeLine; decide), fun u nu => ?_⟩
                  have s11 : Same H10 (upd H10 u (.tup ((row4 a b c d).map V.int))) := same_upd nu
                  have up : pd d = true := by
                    rw [ed, hbd, had, decide_eq_true lt, decide_eq_false db]
                    rfl
                  refine ⟨D, as, _, rfl, rfl, s11 _ _ hA, ?_, ⟨_, rfl, same_keep nD ((s8.trans s910).trans s11), ?_, ?_, ?_, ?_⟩⟩
                  · have := lR i
                    have e1 : (AC ++ R3 i).length = AC.length + (R3 i).length := List.length_append
                    rw [lA, e1, sizeLine_eq]
                    omega
                  · rw [upd_ne taD]
                    exact s11 _ _ (s910 _ _ hta8)
                  · rw [upd_ne tbD]
                    exact s11 _ _ (s910 _ _ htb8)
                  · rw [upd_ne tcD]
                    exact s11 _ _ (s910 _ _ htc8)
                  · have g11 := g10.push (r := row4 a b c d) nu hA
                    rw [eR, if_pos up, ← List.append_assoc]
                    exact g11
            · obtain ⟨o6, rfl, s8, hta8, htb8, htc8, g8⟩ := h
              rw [nvs_len] at g8
              refine ⟨_, _, rfl, s8, hta8, htb8, ?_⟩
              have e1 : R3 (near N q c).length = lq3 N q a b c := by
                show (List.map _ _) = _
                rw [List.take_length]
                rfl
              have up : pc c = true := by
                rw [ex, hac, decide_eq_false ca]
                rfl
              rw [e1] at g8
              rw [fil_snoc hc, if_pos up, List.flatMap_append, ← List.append_assoc]
              simpa [AC] using g8
        · obtain ⟨o5, o6, rfl, s5, hta5, htb5, g5⟩ := h
          rw [nvs_len, List.take_length] at g5
          refine ⟨_, _, _, rfl, s5, hta5, ?_⟩
          rw [fm_snoc hb, ← List.append_assoc]
          exact g5
      · obtain ⟨o4, o5, o6, rfl, s3, ht3, g3⟩ := h
        rw [nvs_len, List.take_length] at g3
        refine ⟨_, _, _, _, rfl, s3, ?_⟩
        rw [List.range_succ, List.flatMap_append]
        simpa [lq1] using g3
    · obtain ⟨o3, o4, o5, o6, rfl, s1, g1⟩ := h
      obtain ⟨ys, hy, ly, dy⟩ := g1.at
      have eP : (List.range n.toNat).flatMap (lq1 N q) = lq N q := rfl
      rw [eP] at dy
      refine ⟨_, rfl, D, lq N q, ys, rfl, hy, dy, fun r hr' => ?_, fun H2 t zs ss s2 nt ht dz pm le => ?_⟩
      · obtain ⟨a, b, c, d, rfl, _, R⟩ := (lq_mem clN r).mp hr'
        exact ⟨rfl, bd_row (by omega) (R.rng clN)⟩
      · have is := lq_rows clN (by omega) pm le
        refine k H2 t zs ss (s1.trans s2) (s1.free nt) ht dz ⟨is.up, is.mem⟩ ?_
        rw [pm.length_eq]
        exact lq_len N q
end
end K0
set_option Elab.async false
set_option linter.all false
set_option maxRecDepth 100000
set_option maxHeartbeats 4000000
set_option Elab.async false
set_option linter.all false
set_option maxRecDepth 100000
set_option maxHeartbeats 2000000
set_option Elab.async false
set_option linter.all false
set_option maxRecDepth 100000
set_option maxHeartbeats 4000000
/-! ### rules that the library lacks: sorted over a tuple of ints; t[::-1] of a tuple of four -/
namespace K0
open PySem PySem.Spec PyProof.Rows L2
section
variable {prog : Program} {w : World} {A : Around} {E : Value → Shared → Prop} {s : Shared}
abbrev heldH (h : Heap) (vs : List Value) : Heap :=
  Heap.update (Heap.push h (seqObj "list" #[] 0)) h.objs.size (Obj.mapSeq fun z => z ++ vs.toArray)
theorem gather_tup {l : Addr} {vs : List Value} {Q : List Value → Shared → Prop} (ht : IsTup s.heap l vs.toArray) (hz : vs.length ≤ sizeLine)
    (k : Q vs { s with heap := heldH s.heap vs }) : wpAny (model prog w) A (collect (.ref l)) Q E s := by
  obtain ⟨o, ho, hc, m, hd⟩ := id ht
  have at' : (s.heap.push (seqObj "list" #[] 0)).get? l = some o := Heap.get?_push_of_some _ ho
  have at0 : (s.heap.push (seqObj "list" #[] 0)).get? s.heap.objs.size = some (seqObj "list" #[] 0) := Heap.get?_push_size _ rfl
  unfold collect
  refine wpAny_bind (wpAny_runValue (codeAny_builtin entry_proto_collect' ?_))
  change wpAny (model prog w) _ (do again (.builtin "list.__iadd__" ⟨[← newList [], .ref l], []⟩)) _ _ s
  refine wpAny_bind (wpAny_newList (wpAny_pure ⟨Code.quiet_builtin _ (by decide +kernel), codeAny_builtin entry_list_iadd' ?_⟩))
  change wpAny (model prog w) _ (Builtin.List.listExtendWith (.ref s.heap.objs.size) (.ref l) (.ref s.heap.objs.size)) _ _ _
  unfold Builtin.List.listExtendWith
  refine wpAny_bind (wpAny_typeOf (T := "tuple") ⟨o, at', hc⟩ ?_)
  have same : (Value.type "tuple" == Value.type "tuple") = true := by rfl
  rw [if_pos (by rw [same]; simp)]
  refine wpAny_bind (listItems_at at' hd (wpAny_bind (listItems_at at0 rfl ?_)))
  rw [if_neg (by simp)]
  have fit : (#[] ++ vs.toArray : Array Value).size ≤ sizeLine + 1 := by
    simp only [Array.size_append, List.size_toArray, List.length_nil]
    omega
  refine wpAny_bind (listUpdate_at at0 rfl (wpAny_pure ?_) (Nat.zero_le _) fit)
  change wpAny (model prog w) A (do
      let o ← load s.heap.objs.size
      match o.data with
      | .seq z _ => pure z.toList
      | _ => unsupported "internal:collect") Q E { s with heap := heldH s.heap vs }
  refine wpAny_bind (wpAny_load (get?_update_seq at0 _) ?_)
  have e : (#[] ++ vs.toArray : Array Value).toList = vs := by simp
  change wpAny (model prog w) _ (pure (#[] ++ vs.toArray : Array Value).toList) Q E _
  rw [e]
  exact wpAny_pure k
theorem sorted_itup {l : Addr} {vs : List Value} {ns : List Int} {Q : Value → Shared → Prop} (ht : IsTup s.heap l vs.toArray) (hI : IntsAre vs ns) (h64 : vs.length < 64)
    (k : ∀ (out : Array Value) (ms : List Int), IntsAre out.toList ms → ms.Perm ns → ms.Pairwise (· ≤ ·) → Q (.ref (s.heap.objs.size + 1)) { s with heap := sortedAll s.heap vs out }) :
    wpAny (model prog w) A (call (.builtin "sorted") [.ref l]) Q E s := by
  have line : vs.length ≤ sizeLine := by rw [sizeLine_eq]; omega
  refine Calls.call_function_entry kind_sorted plain_sorted entry_sorted (args_sorted1 _) ?_
  unfold Builtin.«sorted»
  refine wpAny_bind (m := checkCount "sorted" 1 1 _) (wpAny_pure (wpAny_bind (gather_tup ht line (wpAny_bind (wpAny_newList ?_)))))
  have sz : (heldH s.heap vs).objs.size = s.heap.objs.size + 1 := by rw [Heap.size_update, size_push']
  have here : ((heldH s.heap vs).push (seqObj "list" vs.toArray 0)).get? (s.heap.objs.size + 1) = some (seqObj "list" vs.toArray 0) := by
    rw [← sz]
    exact Heap.get?_push_size _ rfl
  change wpAny (model prog w) _ _ _ _ { s with heap := (heldH s.heap vs).push (seqObj "list" vs.toArray 0) }
  rw [sz]
  have run := fun (P : Fin → Shared → Prop) q => list_sort_tree (prog := prog) (w := w) (A := A.in1.in1) (E := E) (s := { s with heap := (heldH s.heap vs).push (seqObj "list" vs.toArray 0) }) (P := P) here hI h64 q
  refine wpAny_bind (wpAny_holding (wpAny_call_entry slot_list_sort ⟨_, here, rfl⟩ entry_list_sort (run _ fun out ms a b c => ⟨_, rfl, ?_⟩) (args_list_sort _)))
  exact wpAny_pure ⟨_, rfl, k out ms a b c⟩
end
/-- sorted(t) of a tuple of ints -/
def rSrtTup (K : PySem.W.Frag) : List V → Hp → VK → Prop := fun vs H Q => ∃ (a : Addr) (ns : List Int), vs = [V.ref a] ∧ SqT K H a (ns.map V.int) ∧ ns.length < 64 ∧
  ∀ (ms : List Int) (p : Addr), ms.Perm ns → ms.Pairwise (· ≤ ·) → H p = none → Q (.ref p) (upd H p (.lst (ms.map V.int)))
theorem cr_sorted_itup {X : Cx} : CallR X (.builtin "sorted") (rSrtTup X.K) := by
  intro pins s σ H vs us Q I r h
  obtain ⟨a, ns, rfl, hs, h64, q⟩ := h
  obtain ⟨its, rv, ht, hz⟩ := I.tuple hs
  rw [Vals.ref1 r]
  have hi := rv.ints
  have n64 : its.length < 64 := by rw [hi.length]; exact h64
  refine sorted_itup ht hi n64 fun out ms h1 h2 h3 => ?_
  have fit : (ms.map V.int).length ≤ sizeLine := by
    rw [List.length_map, h2.length_eq, sizeLine_eq]
    omega
  obtain ⟨ep, at1⟩ := PyProof.Rows.sortedAll_at s.heap its out
  refine ⟨.ref _, upd H (s.heap.objs.size + 1) (.lst (ms.map V.int)), ?_, rfl, q ms _ h2 h3 (I.hok.fresh (Nat.le_succ _))⟩
  exact I.laid (t' := s.toks) (fun _ _ => PyProof.Rows.sortedAll_old) (Nat.le_succ _) ⟨fit, out.toList, ep, vals_of_ints h1, at1⟩
end K0
set_option Elab.async false
set_option linter.all false
set_option maxRecDepth 100000
set_option maxHeartbeats 4000000
namespace K0
open PySem PySem.Spec PyProof.Rows L2
abbrev s_fw : Stmt := top 16
abbrev s_cs : Stmt := top 17
def okAt (n : Int) (sn : List Int) : PyData → Bool
  | .int i => decide (0 ≤ i ∧ i < n ∧ i ∉ sn)
  | _ => false
def toI : PyData → Int
  | .int i => i
  | _ => 0
/-- the first wrong place, behind the things sn -/
def fwG (n : Int) : List PyData → List Int → Option Nat
  | [], _ => none
  | d :: r, sn => if okAt n sn d = true then fwG n r (sn ++ [toI d]) else some sn.length
structure Good (n : Int) (sn : List Int) : Prop where
  nd : sn.Nodup
  rng : ∀ k ∈ sn, 0 ≤ k ∧ k < n
theorem Good.few {n : Int} {sn : List Int} (h : Good n sn) (hn : n ≤ 9) : sn.length ≤ 9 := by
  have := len_sub sn ((List.range 9).map fun (k : Nat) => (k : Int)) h.nd fun k hk => by
    obtain ⟨a, b⟩ := h.rng k hk
    exact List.mem_map.mpr ⟨k.toNat, List.mem_range.mpr (by omega), by omega⟩
  simpa using this
theorem fwG_none {n : Int} : ∀ {ds : List PyData} {sn : List Int}, Good n sn → fwG n ds sn = none → ∃ r, ds = r.map PyData.int ∧ Good n (sn ++ r)
  | [], sn, h, _ => ⟨[], rfl, by rw [List.append_nil]; exact h⟩
  | d :: ds, sn, h, e => by
    rw [fwG] at e
    cases c : okAt n sn d with
    | false => rw [c] at e; cases e
    | true =>
      rw [c, if_pos rfl] at e
      cases d with
      | int i =>
        have z : 0 ≤ i ∧ i < n ∧ i ∉ sn := of_decide_eq_true c
        have g : Good n (sn ++ [i]) := ⟨by
          rw [List.nodup_append]
          refine ⟨h.nd, by simp, fun a ha b hb => ?_⟩
          rw [List.mem_singleton.mp hb]
          exact fun e => z.2.2 (e ▸ ha), fun k hk => by
          rcases List.mem_append.mp hk with hk | hk
          · exact h.rng k hk
          · rw [List.mem_singleton.mp hk]; exact ⟨z.1, z.2.1⟩⟩
        obtain ⟨r, e1, e2⟩ := fwG_none g e
        refine ⟨i :: r, by rw [e1]; rfl, ?_⟩
        rw [List.append_assoc] at e2
        exact e2
      | _ => cases c
section
variable {P : Program} {w : World} {K : PySem.W.Frag} {mg : Str → Option Value} {base : Heap} {f : Addr} {fd : FuncData}
theorem inV_ints (m : Int) : ∀ ns : List Int, inV (.int m) (ns.map V.int) = decide (m ∈ ns)
  | [] => by simp [inV]
  | n :: ns => by
    have ih := inV_ints m ns
    unfold inV at ih ⊢
    rw [List.map_cons, List.any_cons, ih]
    show ((n == m) || _) = _
    by_cases c : n = m
    · subst c
      simp
    · have c2 : ¬ m = n := fun e => c e.symm
      simp [c, c2]
theorem rgV_ints (n : Int) : rgV 0 n = ((List.range n.toNat).map fun (k : Nat) => (k : Int)).map V.int := by
  unfold rgV
  rw [List.map_map]
  have e : n - 0 = n := by omega
  rw [e]
  refine List.map_congr_left fun k _ => ?_
  show V.int (0 + (k : Int)) = V.int (k : Int)
  rw [Int.zero_add]
theorem inV_rg (i n : Int) : inV (.int i) (rgV 0 n) = decide (0 ≤ i ∧ i < n) := by
  rw [rgV_ints, inV_ints]
  refine decide_eq_decide.mpr ⟨fun h => ?_, fun h => ?_⟩
  · obtain ⟨k, hk, e⟩ := List.mem_map.mp h
    have := List.mem_range.mp hk
    omega
  · exact List.mem_map.mpr ⟨i.toNat, List.mem_range.mpr (by omega), by omega⟩
theorem flat_rg (n : Int) : (rgV 0 n).all flatV = true := by
  rw [rgV_ints, List.all_map]
  exact List.all_eq_true.mpr fun k _ => rfl
/-- first_unfit(things, row), the things 0 to n - 1 -/
def spFw (K : PySem.W.Frag) : Sp := fun vs H Q _ => ∃ T n a ds, vs = [.ref T, .ref a] ∧ n ≤ 9 ∧ SqT K H T (rgV 0 n) ∧ (∀ H', Same H H' → SqT K H' T (rgV 0 n)) ∧ Sq K H a ds ∧ (fwG n ds [] = none → Ret .non H Q) ∧ (∀ i, fwG n ds [] = some i → Ret (.int (i : Nat)) H Q)
theorem sc_fw : FnScope ["things", "row", "seen", "place", "thing"] ["things", "row"] (defScope s_fw) := ⟨rfl, rfl, rfl, by decide +kernel, rfl, by decide +kernel, by decide +kernel⟩
theorem ok_fw (F : Fun K "first_unfit" "first_unfit" s_fw f fd) (B : Blt2 mg) (I : Df P w K mg base "is_int" 1 ["value"] spInt) : FnOk P w K mg base (L2.CX P w) 3 f fd ["things", "row"] (spFw K) := by
  refine F.okX sc_fw (fun vs H Q E h => ?_) (fun cdv A outer s H vs Q E hr h => ?_)
  · obtain ⟨T, n, a, ds, rfl, _⟩ := h
    rfl
  · obtain ⟨T, n, a, ds, rfl, hn, hT0, hT, hs, q1, q2⟩ := h
    have nd := sc_fw.nd
    have hr1 : Room 1 _ := hr.mono (by decide)
    refine ⟨_, pss_cons (ps_set (i := 2) nd rfl (.inl rfl) (pe_callTy0 cr_set0 (by rfl) B.set (by decide +kernel)))
      (pss_cons (ps_for (passes_of rfl) rfl (pi_or (pi_enum (by rfl) B.enum (pa_cons (pv 1) pa_nil)) (pi_enumT (by rfl) B.enum (pa_cons (pv 1) pa_nil))) (pg_tup rfl (pgs_cons (pg_name (i := 3) nd rfl (.inl rfl)) (pgs_cons (pg_name (i := 4) nd rfl (.inl rfl)) pgs_nil)))
        (pss_cons (ps_if (PW.pt (pw_or (pt_not (pt_val (pe_df I hr1 (by rfl) passUp (pa_cons (pv 4) pa_nil)))) (pw_or (pt_cmpR op_notIn_seq (pv 4) (pv 0) (by rfl)) (pw_or1 (pt_cmpR or_sin (pv 4) (pv 2) (by rfl))))))
            (pss_one (ps_ret (pv 3))) pss_nil)
        (pss_one (ps_expr (pe_sadd (pv 2) (pa_cons (pv 4) pa_nil))))))
      (pss_one (ps_ret pe_non))), ?_⟩
    refine ⟨rfl, fun s0 ns => ?_⟩
    let Pv : Nat → L2.St → Hp → Prop := fun i σ H' => ∃ o3 o4 sn S, σ = [some (.ref T), some (.ref a), some (.ref s0), o3, o4] ∧ Same H H' ∧ fwG n ds [] = fwG n (ds.drop i) sn ∧ sn.length = i ∧ Good n sn ∧ H' s0 = some (SetO w s0 S sn.length) ∧ ∀ k, S k = decide (k ∈ sn)
    have h0 : Pv 0 [some (.ref T), some (.ref a), some (.ref s0), none, none] (upd H s0 (SetO w s0 (fun _ => false) 0)) := ⟨none, none, [], _, rfl, same_upd ns, rfl, rfl, ⟨List.nodup_nil, fun k hk => by cases hk⟩, upd_same, fun k => by simp⟩
    refine tfor_en rfl hs Pv h0 (fun j σ H' p o e => ?_) (fun j v d σ H' T' hj hv p nT => ?_) (fun σ H' p => ?_)
    · obtain ⟨_, _, _, _, _, sm, _⟩ := p
      exact sm _ _ e
    · obtain ⟨o3, o4, sn, S, rfl, sm, ef, el, g, hS, eS⟩ := p
      have s1 : Same H' (upd H' T' (.tup [.int (j : Nat), v])) := same_upd nT
      have few := g.few hn
      have ed : ds.drop j = d :: ds.drop (j + 1) := by
        obtain ⟨hi, e⟩ := List.getElem?_eq_some_iff.mp hj
        rw [← e]
        exact List.drop_eq_getElem_cons hi
      rw [ed, fwG] at ef
      have hv1 := hv.mono (sm.trans s1)
      refine ⟨T', _, rfl, SqT.of upd_same, rfl, _, _, rfl, _, _, rfl, rfl, ?_⟩
      refine ⟨_, rfl, v, d, rfl, hv1, _, rfl, ?_⟩
      have no : ∀ (x : PyData), okAt n sn x = false → ∀ H3 : Hp, Same H' H3 → d = x → Q (.int (j : Nat)) H3 := fun x ex H3 s3 e => q2 j (by rw [ef, e, ex, if_neg (by simp), el]) _ (sm.trans s3)
      cases hv1 with
      | int i =>
        refine iteF ⟨_, rfl, _, rfl, T, _, rfl, .inr (hT _ (sm.trans s1)), rfl, flat_rg n, ?_⟩
        rw [inV_rg]
        by_cases c : 0 ≤ i ∧ i < n
        · rw [decide_eq_true c]
          refine ⟨_, rfl, iteF ⟨_, rfl, _, rfl, i, s0, S, _, rfl, rfl, s1 _ _ hS, _, rfl, ?_⟩⟩
          rw [eS]
          by_cases m : i ∈ sn
          · rw [decide_eq_true m]
            exact iteT ⟨_, rfl, no (.int i) (decide_eq_false fun y => y.2.2 m) _ s1 rfl⟩
          · rw [decide_eq_false m]
            have yes : okAt n sn (.int i) = true := decide_eq_true ⟨c.1, c.2, m⟩
            refine iteF ⟨_, rfl, ⟨s0, S, _, rfl, s1 _ _ hS⟩, _, rfl, s0, i, S, _, rfl, rfl, s1 _ _ hS, (by have : (10 : Nat) < scanBound := (by decide); omega), ?_⟩
            have e0 : S i = false := by rw [eS]; exact decide_eq_false m
            rw [e0, if_neg (by simp)]
            refine ⟨_, _, sn ++ [i], (fun j => S j || decide (j = i)), rfl, fun b o e => ?_, ?_, by rw [List.length_append, el]; rfl, ⟨?_, ?_⟩, ?_, fun k => ?_⟩
            · rw [upd_ne (ne_of_none e ns)]
              exact (sm.trans s1) b o e
            · rw [ef, yes, if_pos rfl]
              rfl
            · rw [List.nodup_append]
              refine ⟨g.nd, by simp, fun a ha b hb => ?_⟩
              rw [List.mem_singleton.mp hb]
              exact fun e => m (e ▸ ha)
            · intro k hk
              rcases List.mem_append.mp hk with hk | hk
              · exact g.rng k hk
              · rw [List.mem_singleton.mp hk]; exact c
            · rw [upd_same, List.length_append]
              rfl
            · show (S k || decide (k = i)) = _
              rw [eS]
              by_cases c1 : k ∈ sn
              · simp [c1]
              · by_cases c2 : k = i
                · simp [c2]
                · simp [c1, c2]
        · rw [decide_eq_false c]
          exact ⟨_, rfl, iteT ⟨_, rfl, no (.int i) (decide_eq_false fun y => c ⟨y.1, y.2.1⟩) _ s1 rfl⟩⟩
      | non => exact iteT ⟨_, rfl, no _ rfl _ s1 rfl⟩
      | bl b => exact iteT ⟨_, rfl, no _ rfl _ s1 rfl⟩
      | str b => exact iteT ⟨_, rfl, no _ rfl _ s1 rfl⟩
      | lst e h => exact iteT ⟨_, rfl, no _ rfl _ s1 rfl⟩
      | tup e h => exact iteT ⟨_, rfl, no _ rfl _ s1 rfl⟩
    · obtain ⟨o3, o4, sn, S, rfl, sm, ef, el, g, hS, eS⟩ := p
      rw [List.drop_length] at ef
      exact q1 ef _ sm
theorem cr_or {X : Cx} {f : Value} {r1 r2 : List V → Hp → VK → Prop} (h1 : CallR X f r1) (h2 : CallR X f r2) : CallR X f fun vs H Q => r1 vs H Q ∨ r2 vs H Q :=
  fun pins s σ H vs us Q I r h => h.elim (h1 pins s σ H vs us Q I r) (h2 pins s σ H vs us Q I r)
/-- tuple(list), the object known -/
theorem cr_tupF {X : Cx} : CallR X (.type "tuple") (fun xs H Q => ∃ p ys, xs = [.ref p] ∧ SqL X.K H p ys ∧ ∀ l o, H l = none → o.dict = none → Q (.ref l) (upd H l (.frz o (.tup ys)))) := by
  intro pins s σ H xs us Q I r h
  obtain ⟨p, ys, rfl, hq, q⟩ := h
  obtain ⟨u, rfl, rx⟩ := vals1 r
  cases rx
  obtain ⟨its, r', pl, hz⟩ := I.list hq
  have hlen := r'.length
  refine call_tuple_list pl.isList (fun h' kp => ?_) (by simp only [List.size_toArray] <;> omega)
  have I1 : Inv X pins σ H { s with heap := h' } := I.kept (t' := s.toks) kp
  have g := Heap.get?_push_size h' (o := { cls := .type "tuple", data := .seq its.toArray }) rfl
  have I2 : Inv X pins σ (upd H h'.objs.size (.frz { cls := .type "tuple", data := .seq its.toArray } (.tup ys))) { s with heap := h'.push { cls := .type "tuple", data := .seq its.toArray } } :=
    I1.laid (t' := s.toks) (fun b o e => Heap.get?_push_of_some _ e) (Nat.le_refl _) (show ObjOk X.prog X.w _ _ _ (.frz _ (.tup ys)) from ⟨g, hz, its, r', IsTup.new _ _⟩)
  exact ⟨.ref h'.objs.size, _, I2, rfl, q _ _ (I1.hok.fresh (Nat.le_refl _)) rfl⟩
/-- a tuple of whole numbers, its object known -/
def TupF (H : Hp) (t : Addr) (ns : List Int) : Prop := ∃ o, H t = some (.frz o (.tup (ns.map V.int))) ∧ o.dict = none
theorem TupF.mono {H H' : Hp} (s : Same H H') {t : Addr} {ns : List Int} : TupF H t ns → TupF H' t ns := fun ⟨o, h, d⟩ => ⟨o, s _ _ h, d⟩
theorem TupF.sq {K : PySem.W.Frag} {H : Hp} {t : Addr} {ns : List Int} : TupF H t ns → SqT K H t (ns.map V.int) := fun ⟨o, h, _⟩ => .inl (.inr ⟨o, h⟩)
/-- check_things on a list or a tuple that is right, or on anything wrong -/
def spCs (K : PySem.W.Frag) (C : Addr) : Sp := fun vs H Q E => ∃ n a ds, vs = [.int n, .ref a] ∧ 0 ≤ n ∧ n ≤ 9 ∧ Sq K H a ds ∧ (fwG n ds [] = none → (∃ xs, (H a = some (.lst xs) ∨ SqT K H a xs ∧ ∀ H', Same H H' → SqT K H' a xs) ∧ DtAll H xs ds) ∧ ∀ H' t (ns : List Int), Same H H' → H t = none → TupF H' t ns → ns.Pairwise (· < ·) → (∀ k, k ∈ ns ↔ PyData.int k ∈ ds) → Q (.ref t) H') ∧
  (∀ i, fwG n ds [] = some i → Rz C [("place", .int (i : Nat))] H E)
theorem sc_cs : FnScope ["many", "things", "place"] ["many", "things"] (defScope s_cs) := ⟨rfl, rfl, rfl, by decide +kernel, rfl, by decide +kernel, by decide +kernel⟩
theorem srt_lt {l : List Int} (h : l.Pairwise (· ≤ ·)) (nd : l.Nodup) : l.Pairwise (· < ·) := by
  refine List.Pairwise.imp₂ (fun a b h1 h2 => ?_) h nd
  omega
theorem ok_cs {C : Addr} (F : Fun K "check_things" "check_things" s_cs f fd) (B : Blt2 mg) (FW : Df P w K mg base "first_unfit" 3 ["things", "row"] (spFw K))
    (T : Er P w K mg base "BadPart" C ["place"] ["self", "place"] (spE1 C "place")) : FnOk P w K mg base (L2.CX P w) 4 f fd ["many", "things"] (spCs K C) := by
  refine F.okX sc_cs (fun vs H Q E h => ?_) (fun cdv A outer s H vs Q E hr h => ?_)
  · obtain ⟨n, a, ds, rfl, _⟩ := h
    rfl
  · obtain ⟨n, a, ds, rfl, hn0, hn, hs, q1, q2⟩ := h
    have nd := sc_cs.nd
    have hr2 : Room 2 _ := hr.mono (by decide)
    refine ⟨_, pss_cons (ps_set (i := 2) nd rfl (.inl rfl) (pe_df FW hr (by rfl) passUp (pa_cons (pe_tupRg rfl (by rfl) B.tuple (prg_1 (by rfl) B.range (pv 0))) (pa_cons (pv 1) pa_nil))))
      (pss_cons (ps_if (pt_cmpR op_notN (pv 2) pe_non (nomark _)) (pss_one (ps_rz1 rfl (takes_of rfl rfl rfl rfl) T hr2 (by rfl) (pv 2) (mono_var 2))) pss_nil)
      (pss_one (ps_ret (pe_callTy cr_tupF (by rfl) B.tuple (by decide +kernel) (pa_cons (pe_callB (cr_or cr_sorted cr_sorted_itup) (by rfl) B.sorted (by decide +kernel) (pa_cons (pv 1) pa_nil)) pa_nil))))), ?_⟩
    refine ⟨_, rfl, _, rfl, RgOk.of_le (by decide) (by omega) (by decide) hn0, fun p0 np0 => ?_⟩
    have s0 : Same H (upd H p0 (.tup (rgV 0 n))) := same_upd np0
    refine ⟨_, rfl, p0, n, a, ds, rfl, hn, SqT.of upd_same, fun H' s' => SqT.of (s' _ _ upd_same), hs.mono s0, fun e H1 s01 => ?_, fun i e H1 s01 => ?_⟩
    · have s1 := s0.trans s01
      refine ⟨_, rfl, rfl, _, rfl, iteF ?_⟩
      obtain ⟨⟨xs, hx, hd⟩, q⟩ := q1 e
      obtain ⟨r, er, g⟩ := fwG_none (sn := []) ⟨List.nodup_nil, fun k hk => by cases hk⟩ e
      rw [List.nil_append] at g
      have few := g.few hn
      have hxs : xs = r.map V.int := by
        rw [er] at hd
        clear er few g q q1 q2 hx e
        induction r generalizing xs with
        | nil => cases hd; rfl
        | cons k r ih =>
          cases hd with
          | cons h1 h2 =>
            cases h1
            rw [ih _ h2]
            rfl
      have last : ∀ (ns : List Int) (p : Addr), ns.Perm r → ns.Pairwise (· ≤ ·) → H1 p = none → ∃ p' ys, ([V.ref p] : List V) = [.ref p'] ∧ SqL K (upd H1 p (.lst (ns.map V.int))) p' ys ∧ ∀ l o, (upd H1 p (.lst (ns.map V.int))) l = none → o.dict = none → Q (.ref l) (upd (upd H1 p (.lst (ns.map V.int))) l (.frz o (.tup ys))) := fun ns p pm srt np => by
        refine ⟨p, _, rfl, SqL.of upd_same, fun t o nt od => ?_⟩
        have s2 : Same H1 (upd H1 p (.lst (ns.map V.int))) := same_upd np
        refine q _ t ns (s1.trans (s2.trans (same_upd nt))) ((s1.trans s2).free nt) ⟨o, upd_same, od⟩ (srt_lt srt (pm.nodup_iff.mpr g.nd)) fun k => ?_
        rw [pm.mem_iff, er]
        simp
      rcases hx with hx | hx
      · refine ⟨_, rfl, .inl ⟨a, r, rfl, SqL.of (by rw [← hxs]; exact s1 _ _ hx), by omega, fun ns p pm srt np => ?_⟩⟩
        exact last ns p pm srt np
      · refine ⟨_, rfl, .inr ⟨a, r, rfl, (by rw [← hxs]; exact hx.2 _ s1), by omega, fun ns p pm srt np => ?_⟩⟩
        exact last ns p pm srt np
    · exact ⟨_, rfl, rfl, _, rfl, iteT ⟨_, rfl, fun dd nd' => (q2 i e).at (s0.trans s01) nd'⟩⟩
end
end K0
set_option Elab.async false
set_option linter.all false
set_option maxRecDepth 100000
set_option maxHeartbeats 4000000
set_option Elab.async false
set_option linter.all false
set_option maxRecDepth 100000
set_option maxHeartbeats 4000000
namespace K0
open PySem PySem.Spec PyProof.Rows L2
section
variable {P : Program} {w : World} {K : PySem.W.Frag} {mg : Str → Option Value} {base : Heap} {f : Addr} {fd : FuncData}
abbrev s_co : Stmt := top 53
end
end K0
set_option Elab.async false
set_option linter.all false
set_option maxRecDepth 100000
set_option maxHeartbeats 4000000
namespace K0
open PySem PySem.Spec PyProof.Rows L2
section
variable {P : Program} {w : World} {K : PySem.W.Frag} {mg : Str → Option Value} {base : Heap} {f : Addr} {fd : FuncData}
/-- _law_contrary -/
def spCo : Sp := fun vs H Q _ => ∃ (b : Addr) (n : Int) (q : List Pr), vs = [.int n, .ref b] ∧ 0 ≤ n ∧ n ≤ 16 ∧ Ls H b q ∧ ∀ H' a rs, Same H H' → H a = none → Grow H' a rs → Lx n (fun z => z ∉ q) n (n + 1) rs → Q (.ref a) H'
theorem sc_co : FnScope ["_law_many", "_law_pairs", "_law_rest", "_law_x", "_law_y"] ["_law_many", "_law_pairs"] (defScope s_co) := ⟨rfl, rfl, rfl, by decide +kernel, rfl, by decide +kernel, by decide +kernel⟩
theorem ok_co (F : Fun K "_law_contrary" "_law_contrary" s_co f fd) (B : Blt2 mg) : FnOk P w K mg base (L2.CX P w) 1 f fd ["_law_many", "_law_pairs"] spCo := by
  refine F.okX sc_co (fun vs H Q E h => ?_) (fun cdv A outer s H vs Q E hr h => ?_)
  · obtain ⟨b, n, q, rfl, _⟩ := h
    rfl
  · obtain ⟨b, n, q, rfl, n0, n8, hl, k⟩ := h
    have nd := sc_co.nd
    have hu : (A.deeper (envOfC "_law_contrary" (defScope s_co) s.heap.objs.size f cdv)).units + 65 < cLine := by have := hr.un; omega
    refine ⟨_, pss_cons (ps_set (i := 2) nd rfl (.inl rfl) (pe_lst pa_nil))
      (pss_cons (ps_for (passes_of rfl) rfl (pi_range1 (by rfl) B.range (pa_cons (pv 0) pa_nil)) (pg_name (i := 3) nd rfl (.inl rfl))
        (pss_one (ps_for (passes_of rfl) rfl (pi_range2 (by rfl) B.range (pa_cons (pe_op op_add (pv 3) pe_int) (pa_cons (pv 0) pa_nil))) (pg_name (i := 4) nd rfl (.inl rfl))
          (pss_one (ps_if (pt_cmpR (op_notInD hu) (pe_tup (pa_cons (pv 3) (pa_cons (pv 4) pa_nil))) (pv 1) (by rfl)) (pss_one (ps_expr (pe_lapp (pv 2) (pa_cons (pe_tup (pa_cons (pv 3) (pa_cons (pv 4) pa_nil))) pa_nil)))) pss_nil)))))
      (pss_one (ps_ret (pv 2)))), ?_⟩
    refine ⟨by show 0 ≤ sizeLine; exact Nat.zero_le _, fun D nD => ?_⟩
    let P1 : Nat → L2.St → Hp → Prop := fun i σ H' => ∃ o3 o4 rs, σ = [some (.int n), some (.ref b), some (.ref D), o3, o4] ∧ Same H H' ∧ Grow H' D rs ∧ Lx n (fun z => z ∉ q) i (i + 1) rs
    refine ⟨_, rfl, n, rfl, by omega, by omega, for_range (n := n.toNat) P1 ⟨none, none, [], rfl, same_upd nD, ⟨[], upd_same, rfl, fun z hz => by cases hz⟩, by simpa using Lx.start⟩ (fun i σ H' hi h => ?_) (fun σ H' h => ?_)⟩
    · obtain ⟨o3, o4, rs, rfl, sm, g, lx⟩ := h
      rw [Int.zero_add]
      let P2 : Nat → L2.St → Hp → Prop := fun t σ H' => ∃ o4 rs, σ = [some (.int n), some (.ref b), some (.ref D), some (.int (i : Int)), o4] ∧ Same H H' ∧ Grow H' D rs ∧ Lx n (fun z => z ∉ q) i ((i : Int) + 1 + t) rs
      refine ⟨_, rfl, _, _, rfl, rfl, _, rfl, _, _, rfl, ⟨by omega, by omega, by omega, by omega⟩, for_range (n := (n - ((i : Int) + 1)).toNat) P2 ⟨o4, rs, rfl, sm, g, by simpa using lx⟩ (fun t σ H2 ht h => ?_) (fun σ H2 h => ?_)⟩
      · obtain ⟨o4, rs, rfl, sm, g, lx⟩ := h
        refine ⟨_, rfl, _, rfl, (by show 2 ≤ sizeLine; decide), fun u nu => ?_⟩
        have s2 : Same H2 (upd H2 u (.tup [.int (i : Int), .int ((i : Int) + 1 + t)])) := same_upd nu
        refine ⟨_, rfl, prD ((i : Int), (i : Int) + 1 + t), _, (dt_pr (p := ((i : Int), (i : Int) + 1 + t)) upd_same).dp, (hl.mono (sm.trans s2)).dp, prD_shaped _, prsL_shaped _, _, rfl, ?_⟩
        rw [prs_any]
        have g2 := g.mono s2
        have r : 0 ≤ (i : Int) ∧ (i : Int) < (i : Int) + 1 + t ∧ (i : Int) + 1 + t < n := by omega
        by_cases m : (((i : Int), (i : Int) + 1 + t) : Pr) ∈ q
        · rw [decide_eq_true m]
          refine iteF ⟨_, rs, rfl, sm.trans s2, g2, ?_⟩
          have := lx.skip (by exact fun z => z m)
          rw [Int.add_assoc] at this
          exact_mod_cast this
        · rw [decide_eq_false m]
          obtain ⟨xs, hx, lxs, _⟩ := g2.at
          have few := lx.cl.few (by omega)
          refine iteT ⟨_, rfl, .inl ⟨rfl, xs, SqL.of hx⟩, _, rfl, _, rfl, (by show 2 ≤ sizeLine; decide), fun v nv => ?_⟩
          have s3 : Same (upd H2 u (.tup [.int (i : Int), .int ((i : Int) + 1 + t)])) (upd (upd H2 u (.tup [.int (i : Int), .int ((i : Int) + 1 + t)])) v (.tup [.int (i : Int), .int ((i : Int) + 1 + t)])) := same_upd nv
          refine ⟨D, xs, _, rfl, rfl, s3 _ _ hx, by rw [sizeLine_eq]; omega, ?_⟩
          refine ⟨_, rs ++ [((i : Int), (i : Int) + 1 + t)], rfl, same_keep nD ((sm.trans s2).trans s3), g2.push nv hx, ?_⟩
          have := lx.add m r
          rw [Int.add_assoc] at this
          exact_mod_cast this
      · obtain ⟨o4, rs, rfl, sm, g, lx⟩ := h
        rw [show (i : Int) + 1 + ((n - ((i : Int) + 1)).toNat : Int) = n by omega] at lx
        refine ⟨_, _, rs, rfl, sm, g, ?_⟩
        have := lx.row
        rw [show (i : Int) + 2 = (i : Int) + 1 + 1 by omega] at this
        exact_mod_cast this
    · obtain ⟨o3, o4, rs, rfl, sm, g, lx⟩ := h
      rw [show ((n.toNat : Nat) : Int) = n by omega] at lx
      exact ⟨_, rfl, k H' D rs sm nD g lx⟩
end
end K0
set_option Elab.async false
set_option linter.all false
set_option maxRecDepth 100000
set_option maxHeartbeats 4000000
namespace K0
open PySem PySem.Spec PyProof.Rows L2
section
variable {P : Program} {w : World} {K : PySem.W.Frag} {mg : Str → Option Value} {base : Heap} {f : Addr} {fd : FuncData}
/-- _law_set -/
def spSe : Sp := fun vs H Q _ => ∃ (d : Addr) (n : Int), vs = [.ref d, .int n] ∧ 0 ≤ n ∧ n ≤ 8 ∧ DrO H d ∧
  ∀ H' a (ns : List Int), Same (del H d) H' → DrO H' d → H a = none → H' a = some (.lst (ns.map V.int)) → ns.Pairwise (· < ·) → (∀ k ∈ ns, 0 ≤ k ∧ k < n) → Q (.ref a) H'
end
end K0
set_option Elab.async false
set_option linter.all false
set_option maxRecDepth 100000
set_option maxHeartbeats 4000000
namespace K0
open PySem PySem.Spec PyProof.Rows L2
/-! ### rows of things -/
abbrev IL (H : Hp) (a : Addr) (r : List Int) : Prop := H a = some (.lst (r.map V.int))
theorem perm_pick (r : List Int) {w : Nat} (hw : w < r.length) : (r.getD w 0 :: ((List.range r.length).filter fun k => !decide (k = w)).map fun k => r.getD k 0).Perm r := by
  have h1 : (w :: (List.range r.length).filter fun k => !decide (k = w)).Perm (List.range r.length) := by
    refine (List.perm_ext_iff_of_nodup ?_ List.nodup_range).mpr fun x => ?_
    · refine List.nodup_cons.mpr ⟨fun h => ?_, List.nodup_range.filter _⟩
      have := (List.mem_filter.mp h).2
      simp at this
    · simp only [List.mem_cons, List.mem_filter, List.mem_range, Bool.not_eq_true', decide_eq_false_iff_not]
      constructor
      · rintro (rfl | ⟨h, _⟩)
        · exact hw
        · exact h
      · intro h
        by_cases e : x = w
        · exact .inl e
        · exact .inr ⟨h, e⟩
  have h2 := h1.map fun k => r.getD k 0
  have e : (List.range r.length).map (fun k => r.getD k 0) = r := by
    refine List.ext_getElem (by rw [List.length_map, List.length_range]) fun i h1 h2 => ?_
    rw [List.getElem_map, List.getElem_range, List.getD_eq_getElem?_getD, List.getElem?_eq_getElem h2]
    rfl
  rw [e] at h2
  exact h2
theorem perm_put {α : Type} (l : List α) (x : α) (p : Nat) : (l.take p ++ [x] ++ l.drop p).Perm (x :: l) := by
  have h : (l.take p ++ [x] ++ l.drop p).Perm (x :: (l.take p ++ l.drop p)) := by
    rw [List.append_assoc]
    exact List.perm_middle
  rwa [List.take_append_drop] at h
section
variable {P : Program} {w : World} {K : PySem.W.Frag} {mg : Str → Option Value} {base : Heap} {f : Addr} {fd : FuncData}
abbrev s_mv : Stmt := top 56
abbrev s_rr' : Stmt := top 59
/-- _law_moved -/
def spMv : Sp := fun vs H Q _ => ∃ (a : Addr) (r : List Int) (w p : Nat), vs = [.ref a, .int (w : Int), .int (p : Int)] ∧ IL H a r ∧ w < r.length ∧ p < r.length ∧ r.length ≤ 1000 ∧ ∀ H' b r', Same H H' → H b = none → IL H' b r' → r'.Perm r → Q (.ref b) H'
theorem sc_mv : FnScope ["_law_row_here", "_law_which", "_law_place", "_law_rest", "_law_k"] ["_law_row_here", "_law_which", "_law_place"] (defScope s_mv) := ⟨rfl, rfl, rfl, by decide +kernel, rfl, by decide +kernel, by decide +kernel⟩
theorem ok_mv (F : Fun K "_law_moved" "_law_moved" s_mv f fd) (B : Blt2 mg) : FnOk P w K mg base (L2.CX P w) 1 f fd ["_law_row_here", "_law_which", "_law_place"] spMv := by
  refine F.okX sc_mv (fun vs H Q E h => ?_) (fun cdv A outer s H vs Q E hr h => ?_)
  · obtain ⟨a, r, w, p, rfl, _⟩ := h
    rfl
  · obtain ⟨a, r, wh, p, rfl, ha, hw, hp, l1000, k⟩ := h
    have nd := sc_mv.nd
    refine ⟨_, pss_cons (ps_setLc (i := 3) (own := [("_law_k", 4)]) (g := gName 4) (tt := tTest (tOp rNe (tVar 4) (tVar 1))) (te := tOp (rIxL K) (tVar 0) (tVar 4)) rfl nd rfl (by rfl) (by rfl)
        (pi_range1 (by rfl) B.range (pa_cons (pe_callB c_len (by rfl) B.len PySem.boot_len (pa_cons (pv 0) pa_nil)) pa_nil)) (blkOk_by (N := ["_law_row_here", "_law_which", "_law_place", "_law_rest", "_law_k"]) (sc := defScope s_mv) (by decide +kernel)) (fun _ _ _ _ _ => pg_name (i := 4) nd rfl (.inl rfl))
        (fun _ _ _ _ _ => pts_one (pt_cmpR op_ne (pv 4) (pv 1) (by rfl))) (fun _ _ _ _ _ => pe_ix ix_list (pv 0) (pv 4) (fun _ _ => rfl)))
      (pss_one (ps_ret (pe_op op_cat (pe_op op_cat (pe_slice sl_list (pv 3) po_none (po_some (pv 2))) (pe_lst (pa_cons (pe_ix ix_list (pv 0) (pv 1) (fun _ _ => rfl)) pa_nil))) (pe_slice sl_list (pv 3) (po_some (pv 2)) po_none)))), ?_⟩
    have at_ : ∀ {i : Nat}, i < r.length → atI (r.map V.int) (i : Int) = some (.int (r.getD i 0)) := fun {i} hi => atI_nat (by rw [List.getElem?_map, List.getD_eq_getElem?_getD, List.getElem?_eq_getElem hi]; rfl)
    let W : Nat → List Int := fun i => (((List.range r.length).take i).filter fun k => !decide (k = wh)).map fun k => r.getD k 0
    refine ⟨_, rfl, a, _, rfl, .inl (SqL.of ha), _, rfl, by rw [List.length_map]; omega, by rw [List.length_map]; omega, fun D nD => ?_⟩
    rw [List.length_map, Int.toNat_natCast]
    refine lc_range (lo := 0) (n := r.length) (fun i H' => Same H H' ∧ IL H' D (W i)) ⟨same_upd nD, upd_same⟩ (fun i H' hi z => ?_) (fun H' z => ?_)
    · obtain ⟨sm, hD⟩ := z
      rw [Int.zero_add]
      have eW : W (i + 1) = W i ++ (if i = wh then [] else [r.getD i 0]) := by
        show List.map _ _ = _
        rw [filter_take _ _ hi, List.map_append]
        congr 1
        by_cases e : i = wh <;> simp [e]
      have lW : (W i).length ≤ r.length := by
        show (List.map _ _).length ≤ _
        rw [List.length_map]
        refine Nat.le_trans (List.length_filter_le _ _) ?_
        rw [List.length_take, List.length_range]
        exact Nat.min_le_right _ _
      refine ⟨rfl, _, rfl, _, rfl, rfl, _, rfl, ?_⟩
      rw [dec_int]
      by_cases e : i = wh
      · rw [show (!(((i : Nat) : Int) == ((wh : Nat) : Int))) = false by simp [e]]
        refine iteF ⟨sm, ?_⟩
        rw [eW, if_pos e, List.append_nil]
        exact hD
      · rw [show (!(((i : Nat) : Int) == ((wh : Nat) : Int))) = true by simp; omega]
        refine iteT ⟨_, rfl, _, rfl, a, _, _, _, rfl, rfl, SqL.of (sm _ _ ha), at_ hi, _, hD, by rw [List.length_map, sizeLine_eq]; omega, same_keep nD sm, ?_⟩
        show (upd _ _ _) _ = _
        rw [upd_same, eW, if_neg e, List.map_append]
        rfl
    · obtain ⟨sm, hD⟩ := z
      let R := W r.length
      have eR : R = ((List.range r.length).filter fun k => !decide (k = wh)).map fun k => r.getD k 0 := by
        show List.map _ _ = _
        rw [List.take_of_length_le (by rw [List.length_range]; exact Nat.le_refl _)]
      have pk := perm_pick r hw
      rw [← eR] at pk
      have lR : R.length + 1 = r.length := by
        have := pk.length_eq
        rw [List.length_cons] at this
        exact this
      have hD : H' D = some (.lst (R.map V.int)) := hD
      refine ⟨_, rfl, _, rfl, _, rfl, D, _, rfl, SqL.of hD, fun c1 n1 => ?_⟩
      have s1 := same_upd (o := .lst (cutV (R.map V.int) none (some (p : Int)))) n1
      rw [cut_take] at s1 ⊢
      refine ⟨_, rfl, _, rfl, a, _, _, _, rfl, rfl, SqL.of ((sm.trans s1) _ _ ha), at_ hw, by show 1 ≤ sizeLine; decide, fun c2 n2 => ?_⟩
      have s2 := same_upd (o := .lst [.int (r.getD wh 0)]) n2
      refine ⟨c1, c2, _, _, rfl, rfl, s2 _ _ upd_same, upd_same, ?_, fun c3 n3 => ?_⟩
      · rw [List.length_take, List.length_map, sizeLine_eq]
        show _ + 1 ≤ _
        omega
      have s3 := same_upd (o := .lst ((R.map V.int).take p ++ [.int (r.getD wh 0)])) n3
      refine ⟨_, rfl, _, rfl, _, rfl, D, _, rfl, SqL.of ((s1.trans (s2.trans s3)) _ _ hD), fun c4 n4 => ?_⟩
      have s4 := same_upd (o := .lst (cutV (R.map V.int) (some (p : Int)) none)) n4
      rw [cut_drop _ _ (by rw [List.length_map]; omega)] at s4 ⊢
      refine ⟨c3, c4, _, _, rfl, rfl, s4 _ _ upd_same, upd_same, ?_, fun c5 n5 => ?_⟩
      · rw [List.length_append, List.length_take, List.length_drop, List.length_map, sizeLine_eq]
        show _ + 1 + _ ≤ _
        omega
      · refine k _ c5 (R.take p ++ [r.getD wh 0] ++ R.drop p) ((sm.trans (s1.trans (s2.trans (s3.trans s4)))).trans (same_upd n5)) ((sm.trans (s1.trans (s2.trans (s3.trans s4)))).free n5) ?_ ((perm_put R _ p).trans pk)
        show (upd _ _ _) _ = _
        rw [upd_same, List.map_append, List.map_append, List.map_take, List.map_drop]
        rfl
end
end K0
set_option Elab.async false
set_option linter.all false
set_option maxRecDepth 100000
set_option maxHeartbeats 4000000
namespace K0
open PySem PySem.Spec PyProof.Rows L2
def ran (n : Nat) : List Int := (List.range n).map fun (k : Nat) => (k : Int)
theorem ran_len (n : Nat) : (ran n).length = n := by unfold ran; rw [List.length_map, List.length_range]
theorem lnP_cl {n : Int} {k : Nat} (h : (k : Int) < n) : Cl n (lnP k) := by
  refine ⟨List.pairwise_map.mpr (List.Pairwise.imp (fun {a b} h => ?_) List.pairwise_lt_range), fun p hp => ?_⟩
  · exact .inl (by omega)
  · obtain ⟨x, hx, rfl⟩ := List.mem_map.mp hp
    have := List.mem_range.mp hx
    dsimp only
    omega
section
variable {P : Program} {w : World} {K : PySem.W.Frag} {mg : Str → Option Value} {base : Heap} {f : Addr} {fd : FuncData}
/-- _law_ring, of any size -/
def spRg : Sp := fun vs H Q _ => ∃ (n : Int), vs = [.int n] ∧ 3 ≤ n ∧ n ≤ 16 ∧ ∀ H' D rs, Same H H' → H D = none → Ls H' D rs → Cl n rs → (∀ z, z ∈ rs ↔ z ∈ lnP (n - 1).toNat ++ [((0 : Int), n - 1)]) → Q (.ref D) H'
theorem ok_rgN (F : Fun K "_law_ring" "_law_ring" s_rg f fd) (B : Blt2 mg) : FnOk P w K mg base (L2.CX P w) 1 f fd ["_law_many"] spRg := by
  refine F.okX sc_rg (fun vs H Q E h => ?_) (fun cdv A outer s H vs Q E hr h => ?_)
  · obtain ⟨n, rfl, _⟩ := h
    rfl
  · obtain ⟨n, rfl, n3, n16, k⟩ := h
    have nd := sc_rg.nd
    refine ⟨_, pss_cons (ps_setLc (i := 1) (own := [("_law_x", 2)]) (g := gName 2) (tt := tYes) (te := tTup (tCons (tVar 2) (tCons (tOp (rI0 fun i j => .int (i + j)) (tVar 2) (tC (.int 1))) tNil))) rfl nd rfl (by rfl) (by rfl)
      (pi_range1 (by rfl) B.range (pa_cons (pe_op op_sub (pv 0) pe_int) pa_nil)) (blkOk_by (N := ["_law_many", "_law_pairs", "_law_x"]) (sc := defScope s_rg) (by decide +kernel)) (fun _ _ _ _ _ => pg_name (i := 2) nd rfl (.inl rfl)) (fun _ _ _ _ _ => pts_nil)
      (fun _ _ _ _ _ => pe_tup (pa_cons (pv 2) (pa_cons (pe_op op_add (pv 2) pe_int) pa_nil))))
      (pss_cons (ps_expr (pe_lapp (pv 1) (pa_cons (pe_tup (pa_cons pe_int (pa_cons (pe_op op_sub (pv 0) pe_int) pa_nil))) pa_nil)))
      (pss_one (ps_ret (pe_callB cr_srtP (by rfl) B.sorted (by decide +kernel) (pa_cons (pv 1) pa_nil))))), ?_⟩
    refine ⟨_, rfl, _, _, rfl, rfl, n - 1, rfl, by omega, by omega, fun D nD => ?_⟩
    refine lc_range (lo := 0) (n := (n - 1).toNat) (fun i H' => Same H H' ∧ Grow H' D (lnP i)) ⟨same_upd nD, [], upd_same, rfl, fun z hz => by cases hz⟩ (fun i H' hi ⟨sm, g⟩ => ?_) (fun H' ⟨sm, g⟩ => ?_)
    · refine ⟨rfl, ?_⟩
      rw [Int.zero_add]
      exact ⟨_, rfl, _, rfl, _, _, rfl, rfl, (by show 2 ≤ sizeLine; decide), fun u nu => line_step nD sm g (by omega) nu⟩
    · obtain ⟨as, hA, lA, _⟩ := g.at
      refine ⟨_, rfl, .inl ⟨rfl, as, SqL.of hA⟩, _, rfl, _, _, rfl, rfl, (by show 2 ≤ sizeLine; decide), fun u nu => ?_⟩
      have s8 : Same H' (upd H' u (.tup [.int 0, .int (n - 1)])) := same_upd nu
      refine ⟨D, as, _, rfl, rfl, s8 _ _ hA, (by rw [lA, lnP_len, sizeLine_eq]; omega), ?_⟩
      have g2 := g.push (x := 0) (y := n - 1) nu hA
      have s9 : Same H (upd (upd H' u (.tup [.int 0, .int (n - 1)])) D (.lst (as ++ [.ref u]))) := same_keep nD (sm.trans s8)
      have cl0 : Cl n (lnP (n - 1).toNat) := lnP_cl (by omega)
      have no : ((0 : Int), n - 1) ∉ lnP (n - 1).toNat := fun h => by
        obtain ⟨x, _, e⟩ := List.mem_map.mp h
        obtain ⟨e1, e2⟩ := Prod.ext_iff.mp e
        dsimp only at e1 e2
        omega
      have ndp : (lnP (n - 1).toNat ++ [((0 : Int), n - 1)]).Nodup := List.nodup_append.mpr ⟨pairwise_nodup cl0.srt, by simp, fun a ha b hb e => by
        rw [List.mem_singleton.mp hb] at e
        rw [e] at ha
        exact no ha⟩
      refine ⟨_, rfl, D, _, rfl, g2.ls, ndp, fun H2 p rs s2 np hl pw hm _ => ?_⟩
      refine k H2 p rs (s9.trans s2) (s9.free np) hl ⟨pw, fun z hz => ?_⟩ hm
      rcases List.mem_append.mp ((hm z).mp hz) with h | h
      · exact cl0.rng z h
      · rw [List.mem_singleton.mp h]
        dsimp only
        omega
/-- _law_ring_row -/
def spRrw : Sp := fun vs H Q _ => ∃ (n : Int), vs = [.int n] ∧ 4 ≤ n ∧ n ≤ 7 ∧ ∀ H' D r, Same H H' → H D = none → IL H' D r → r.Perm (ran n.toNat) → Q (.ref D) H'
theorem sc_rr' : FnScope ["_law_many", "_law_x"] ["_law_many"] (defScope s_rr') := ⟨rfl, rfl, rfl, by decide +kernel, rfl, by decide +kernel, by decide +kernel⟩
def stepL (lo : Int) (m : Nat) : List Int := (List.range m).map fun (k : Nat) => lo + (k : Int) * 2
theorem stepL_succ (lo : Int) (m : Nat) : stepL lo (m + 1) = stepL lo m ++ [lo + (m : Int) * 2] := by
  unfold stepL
  rw [List.range_succ, List.map_append]
  rfl
theorem stepL_len (lo : Int) (m : Nat) : (stepL lo m).length = m := by unfold stepL; rw [List.length_map, List.length_range]
theorem ok_rrw (F : Fun K "_law_ring_row" "_law_ring_row" s_rr' f fd) (B : Blt2 mg) : FnOk P w K mg base (L2.CX P w) 1 f fd ["_law_many"] spRrw := by
  refine F.okX sc_rr' (fun vs H Q E h => ?_) (fun cdv A outer s H vs Q E hr h => ?_)
  · obtain ⟨n, rfl, _⟩ := h
    rfl
  · obtain ⟨n, rfl, n4, n7, k⟩ := h
    have nd := sc_rr'.nd
    refine ⟨_, pss_one (ps_ret (pe_op op_cat
      (pe_lc (own := [("_law_x", 1)]) (g := gName 1) (tt := tYes) (te := tVar 1) rfl nd (pi_range3 (by rfl) B.range (pa_cons pe_int (pa_cons (pv 0) (pa_cons pe_int pa_nil)))) (blkOk_by (N := ["_law_many", "_law_x"]) (sc := defScope s_rr') (by decide +kernel)) (fun _ _ _ _ _ => pg_name (i := 1) nd rfl (.inl rfl)) (fun _ _ _ _ _ => pts_nil) (fun _ _ _ _ _ => pv 1))
      (pe_lc (own := [("_law_x", 1)]) (g := gName 1) (tt := tYes) (te := tVar 1) rfl nd (pi_range3 (by rfl) B.range (pa_cons pe_int (pa_cons (pv 0) (pa_cons pe_int pa_nil)))) (blkOk_by (N := ["_law_many", "_law_x"]) (sc := defScope s_rr') (by decide +kernel)) (fun _ _ _ _ _ => pg_name (i := 1) nd rfl (.inl rfl)) (fun _ _ _ _ _ => pts_nil) (fun _ _ _ _ _ => pv 1)))), ?_⟩
    obtain ⟨m1, m2, r1, r2, pm, s1, s2⟩ : ∃ m1 m2 : Nat, RgC 0 n 2 m1 ∧ RgC 1 n 2 m2 ∧ (stepL 0 m1 ++ stepL 1 m2).Perm (ran n.toNat) ∧ m1 ≤ 10 ∧ m2 ≤ 10 := by
      obtain rfl | rfl | rfl | rfl : n = 4 ∨ n = 5 ∨ n = 6 ∨ n = 7 := by omega
      · exact ⟨2, 2, ⟨by decide, by decide, by decide +kernel, by decide +kernel⟩, ⟨by decide, by decide, by decide +kernel, by decide +kernel⟩, by decide +kernel, by decide, by decide⟩
      · exact ⟨3, 2, ⟨by decide, by decide, by decide +kernel, by decide +kernel⟩, ⟨by decide, by decide, by decide +kernel, by decide +kernel⟩, by decide +kernel, by decide, by decide⟩
      · exact ⟨3, 3, ⟨by decide, by decide, by decide +kernel, by decide +kernel⟩, ⟨by decide, by decide, by decide +kernel, by decide +kernel⟩, by decide +kernel, by decide, by decide⟩
      · exact ⟨4, 3, ⟨by decide, by decide, by decide +kernel, by decide +kernel⟩, ⟨by decide, by decide, by decide +kernel, by decide +kernel⟩, by decide +kernel, by decide, by decide⟩
    refine ⟨_, rfl, 0, n, 2, m1, rfl, r1, fun D nD => ?_⟩
    refine lc_it walk_rangeC (fun i H' => Same H H' ∧ IL H' D (stepL 0 i)) ⟨same_upd nD, upd_same⟩ (fun i H' _ z => trivial) (fun i x H' H2 hi z y => ?_) (fun H' z => ?_)
    · obtain ⟨sm, hD⟩ := z
      obtain ⟨rfl, rfl⟩ := y
      refine ⟨rfl, _, rfl, _, hD, by rw [List.length_map, stepL_len, sizeLine_eq]; omega, same_keep nD sm, ?_⟩
      show (upd _ _ _) _ = _
      rw [upd_same, stepL_succ, List.map_append]
      rfl
    · obtain ⟨sm, hD⟩ := z
      refine ⟨_, rfl, 1, n, 2, m2, rfl, r2, fun G nG => ?_⟩
      refine lc_it walk_rangeC (fun i H2 => Same H' H2 ∧ IL H2 G (stepL 1 i)) ⟨same_upd nG, upd_same⟩ (fun i H' _ z => trivial) (fun i x H2 H3 hi z y => ?_) (fun H2 z => ?_)
      · obtain ⟨sm2, hG⟩ := z
        obtain ⟨rfl, rfl⟩ := y
        refine ⟨rfl, _, rfl, _, hG, by rw [List.length_map, stepL_len, sizeLine_eq]; omega, same_keep nG sm2, ?_⟩
        show (upd _ _ _) _ = _
        rw [upd_same, stepL_succ, List.map_append]
        rfl
      · obtain ⟨sm2, hG⟩ := z
        refine ⟨D, G, _, _, rfl, rfl, sm2 _ _ hD, hG, by rw [List.length_map, List.length_map, stepL_len, stepL_len, sizeLine_eq]; omega, fun A nA => ?_⟩
        refine k _ A (stepL 0 m1 ++ stepL 1 m2) ((sm.trans sm2).trans (same_upd nA)) ((sm.trans sm2).free nA) ?_ pm
        show (upd _ _ _) _ = _
        rw [upd_same, List.map_append]
end
end K0
set_option Elab.async false
set_option linter.all false
set_option maxRecDepth 100000
set_option maxHeartbeats 4000000
namespace K0
open PySem PySem.Spec PyProof.Rows L2
theorem ran_succ (n : Nat) : ran (n + 1) = ran n ++ [(n : Int)] := by
  unfold ran
  rw [List.range_succ, List.map_append]
  rfl
theorem ran_add (n m : Nat) : ran (n + m) = ran n ++ (ran m).map fun x => (n : Int) + x := by
  unfold ran
  rw [List.range_add, List.map_append, List.map_map, List.map_map]
  congr 1
theorem ints_val {l : List Int} {j : Nat} {v : V} (h : (l.map V.int)[j]? = some v) : ∃ x, l[j]? = some x ∧ v = .int x := by
  rw [List.getElem?_map] at h
  cases e : l[j]? with
  | none => rw [e] at h; cases h
  | some x => rw [e] at h; exact ⟨x, rfl, (Option.some.inj h).symm⟩
theorem take_room {α : Type} (l : List α) (i : Nat) : (l.take i).length ≤ l.length := by rw [List.length_take]; exact Nat.min_le_right _ _
/-- a case: a number, pairs, a row -/
def CsAt (H : Hp) (v : V) (n : Int) (q : List Pr) (r : List Int) : Prop := ∃ a b c, v = .ref a ∧ H a = some (.lst [.int n, .ref b, .ref c]) ∧ Ls H b q ∧ IL H c r
theorem CsAt.mono {H H' : Hp} (s : Same H H') {v : V} {n : Int} {q : List Pr} {r : List Int} : CsAt H v n q r → CsAt H' v n q r := fun ⟨a, b, c, e, h, l, i⟩ => ⟨a, b, c, e, s _ _ h, l.mono s, s _ _ i⟩
/-- .. of new things -/
def CsNew (H H' : Hp) (v : V) (n : Int) (q : List Pr) (r : List Int) : Prop := ∃ a b c, v = .ref a ∧ H a = none ∧ H b = none ∧ H c = none ∧ H' a = some (.lst [.int n, .ref b, .ref c]) ∧ Ls H' b q ∧ IL H' c r
structure Csk (n : Int) (q : List Pr) (r : List Int) : Prop where
  c : Cl n q
  n1 : 1 ≤ n
  p : r.Perm (ran n.toNat)
theorem Csk.len {n : Int} {q : List Pr} {r : List Int} (h : Csk n q r) : r.length = n.toNat := by rw [h.p.length_eq, ran_len]
theorem dta_prs {H : Hp} : ∀ {ys : List V} {q : List Pr}, DtAll H ys (q.map prD) → ∃ l : List (Addr × Pr), ys = (l.map fun z => V.ref z.1) ∧ l.map (·.2) = q ∧ PrsAt H l
  | _, [], .nil => ⟨[], rfl, rfl, fun z hz => by cases hz⟩
  | _, p :: q, h => by
    cases h with
    | cons h1 h2 =>
      obtain ⟨l, e1, e2, e3⟩ := dta_prs h2
      cases h1 with
      | tup ea h =>
        cases h with
        | cons a b =>
          cases b with
          | cons c d =>
            cases a
            cases c
            cases d
            rename_i t
            refine ⟨(t, p) :: l, by rw [e1]; rfl, by rw [List.map_cons, e2], fun z hz => ?_⟩
            rcases List.mem_cons.mp hz with rfl | hz
            · exact ea
            · exact e3 z hz
theorem Ls.grow {H : Hp} {D : Addr} {q : List Pr} : Ls H D q → Grow H D q := fun ⟨ys, h, d⟩ => by
  obtain ⟨l, e1, e2, e3⟩ := dta_prs d
  exact ⟨l, by rw [← e1]; exact h, e2, e3⟩
section
variable {P : Program} {w : World} {K : PySem.W.Frag} {mg : Str → Option Value} {base : Heap} {f : Addr} {fd : FuncData}
abbrev s_sd : Stmt := top 60
abbrev s_sm : Stmt := top 61
/-- _law_sides -/
def spSd : Sp := fun vs H Q _ => ∃ (v u : V) (j : Bool) (n m : Int) (q p : List Pr) (r s : List Int), vs = [v, u, .bl j] ∧ CsAt H v n q r ∧ CsAt H u m p s ∧ Csk n q r ∧ Csk m p s ∧ n + m ≤ 16 ∧
  ∀ H' x q' r', Same H H' → CsNew H H' x (n + m) q' r' → Csk (n + m) q' r' → Q x H'
theorem sc_sd : FnScope ["_law_one", "_law_other", "_law_joined", "_law_pairs", "_law_pair", "_law_x", "_law_y", "_law_row_here"] ["_law_one", "_law_other", "_law_joined"] (defScope s_sd) := ⟨rfl, rfl, rfl, by decide +kernel, rfl, by decide +kernel, by decide +kernel⟩
theorem ok_sd (F : Fun K "_law_sides" "_law_sides" s_sd f fd) (B : Blt2 mg) : FnOk P w K mg base (L2.CX P w) 1 f fd ["_law_one", "_law_other", "_law_joined"] spSd := by
  refine F.okX sc_sd (fun vs H Q E h => ?_) (fun cdv A outer s H vs Q E hr h => ?_)
  · obtain ⟨v, u, j, n, m, q, p, r, s, rfl, _⟩ := h
    rfl
  · obtain ⟨v, u, j, n, m, q, p, r, s', rfl, ⟨a1, b1, c1, rfl, h1, hq, hr1⟩, ⟨a2, b2, c2, rfl, h2, hp, hr2⟩, K1, K2, n16, k⟩ := h
    have nd := sc_sd.nd
    have n1 := K1.n1; have m1 := K2.n1
    refine ⟨_, pss_cons (ps_set (i := 3) nd rfl (.inl rfl) (pe_callTy call_list_of (by rfl) B.list (by decide +kernel) (pa_cons (pe_ix ix_list (pv 0) pe_int (fun _ _ => rfl)) pa_nil)))
      (pss_cons (ps_for (passes_of rfl) rfl (pi_list (pe_ix ix_list (pv 1) pe_int (fun _ _ => rfl))) (pg_name (i := 4) nd rfl (.inl rfl))
        (pss_one (ps_expr (pe_lapp (pv 3) (pa_cons (pe_tup (pa_cons (pe_op op_add (pe_ix ix_tup (pv 4) pe_int (fun _ _ => rfl)) (pe_ix ix_list (pv 0) pe_int (fun _ _ => rfl))) (pa_cons (pe_op op_add (pe_ix ix_tup (pv 4) pe_int (fun _ _ => rfl)) (pe_ix ix_list (pv 0) pe_int (fun _ _ => rfl))) pa_nil))) pa_nil)))))
      (pss_cons (ps_if (pt_val (pv 2)) (pss_one (ps_for (passes_of rfl) rfl (pi_range1 (by rfl) B.range (pa_cons (pe_ix ix_list (pv 0) pe_int (fun _ _ => rfl)) pa_nil)) (pg_name (i := 5) nd rfl (.inl rfl))
        (pss_one (ps_for (passes_of rfl) rfl (pi_range1 (by rfl) B.range (pa_cons (pe_ix ix_list (pv 1) pe_int (fun _ _ => rfl)) pa_nil)) (pg_name (i := 6) nd rfl (.inl rfl))
          (pss_one (ps_expr (pe_lapp (pv 3) (pa_cons (pe_tup (pa_cons (pv 5) (pa_cons (pe_op op_add (pe_ix ix_list (pv 0) pe_int (fun _ _ => rfl)) (pv 6)) pa_nil))) pa_nil)))))))) pss_nil)
      (pss_cons (ps_set (i := 7) nd rfl (.inl rfl) (pe_op op_cat (pe_callTy call_list_of (by rfl) B.list (by decide +kernel) (pa_cons (pe_ix ix_list (pv 0) pe_int (fun _ _ => rfl)) pa_nil))
        (pe_lc (own := [("_law_y", 6)]) (g := gName 6) (tt := tYes) (te := tOp rAddI (tOp (rIxL K) (tVar 0) (tC (.int 0))) (tVar 6)) rfl nd (pi_list (pe_ix ix_list (pv 1) pe_int (fun _ _ => rfl)))
          (blkOk_by (N := ["_law_one", "_law_other", "_law_joined", "_law_pairs", "_law_pair", "_law_x", "_law_y", "_law_row_here"]) (sc := defScope s_sd) (by decide +kernel)) (fun _ _ _ _ _ => pg_name (i := 6) nd rfl (.inl rfl)) (fun _ _ _ _ _ => pts_nil)
          (fun _ _ _ _ _ => pe_op op_add (pe_ix ix_list (pv 0) pe_int (fun _ _ => rfl)) (pv 6)))))
      (pss_one (ps_ret (pe_lst (pa_cons (pe_op op_add (pe_ix ix_list (pv 0) pe_int (fun _ _ => rfl)) (pe_ix ix_list (pv 1) pe_int (fun _ _ => rfl))) (pa_cons (pe_callB cr_srtP (by rfl) B.sorted (by decide +kernel) (pa_cons (pv 3) pa_nil)) (pa_cons (pv 7) pa_nil))))))))), ?_⟩
    obtain ⟨qs, hb1, dq⟩ := id hq
    obtain ⟨ps, hb2, dp⟩ := id hp
    have lps := dp.len
    rw [List.length_map] at lps
    have lq := K1.c.few (by omega)
    have lp' := K2.c.few (by omega)
    have lr := K1.len
    have ls := K2.len
    have rowP : (r ++ s'.map fun x => n + x).Perm (ran (n + m).toNat) := by
      have e : (n + m).toNat = n.toNat + m.toNat := by omega
      have en : ((n.toNat : Nat) : Int) = n := by omega
      rw [e, ran_add, en]
      exact K1.p.append (K2.p.map _)
    have mshf : ∀ z, z ∈ shf p n → n ≤ z.1 ∧ z.1 < z.2 ∧ z.2 < n + m := fun z hz => by
      have := K2.c.rng _ (mem_shf.mp hz)
      dsimp only at this
      omega
    have nd2 : (q ++ shf p n).Nodup := List.nodup_append.mpr ⟨pairwise_nodup K1.c.srt, List.pairwise_map.mpr (List.Pairwise.imp (fun {c d} ne e => ne (Prod.ext (by have := (Prod.ext_iff.mp e).1; dsimp only at this; omega) (by have := (Prod.ext_iff.mp e).2; dsimp only at this; omega))) (pairwise_nodup K2.c.srt)), fun z h1 z' h2 e => by
      subst e
      have := K1.c.rng z h1
      have := mshf z h2
      omega⟩
    have rg2 : ∀ z ∈ q ++ shf p n, 0 ≤ z.1 ∧ z.1 < z.2 ∧ z.2 < n + m := fun z hz => by
      rcases List.mem_append.mp hz with h | h
      · have := K1.c.rng z h
        omega
      · have := mshf z h
        omega
    have mgr : ∀ z, z ∈ grid 0 n n m ↔ (0 ≤ z.1 ∧ z.1 < 0 + n) ∧ n ≤ z.2 ∧ z.2 < n + m := fun z => mem_grid
    have grid_nd : (grid 0 n n m).Nodup := by
      unfold grid
      refine nodup_fm List.nodup_range (fun x _ => List.pairwise_map.mpr (List.Pairwise.imp (fun {c d} ne e => ?_) List.nodup_range)) fun x _ y _ z h1 h2 => ?_
      · have := (Prod.ext_iff.mp e).2
        dsimp only at this
        omega
      · obtain ⟨u, _, e1⟩ := List.mem_map.mp h1
        obtain ⟨v, _, e2⟩ := List.mem_map.mp h2
        rw [← e2] at e1
        have := (Prod.ext_iff.mp e1).1
        dsimp only at this
        omega
    have nd3 : (q ++ shf p n ++ grid 0 n n m).Nodup := List.nodup_append.mpr ⟨nd2, grid_nd, fun z h1 z' h2 e => by
      subst e
      have h2 := (mgr z).mp h2
      rcases List.mem_append.mp h1 with h | h
      · have := K1.c.rng z h
        omega
      · have := mshf z h
        omega⟩
    have rg3 : ∀ z ∈ q ++ shf p n ++ grid 0 n n m, 0 ≤ z.1 ∧ z.1 < z.2 ∧ z.2 < n + m := fun z hz => by
      rcases List.mem_append.mp hz with h | h
      · exact rg2 z h
      · have := (mgr z).mp h
        omega
    refine ⟨_, rfl, a1, _, 1, _, rfl, rfl, SqL.of h1, rfl, b1, _, rfl, .inl (SqL.of hb1), fun D nD => ?_⟩
    have s1 := same_upd (o := .lst qs) nD
    have g1 : Grow (heapOf s1) D q := Ls.grow ⟨qs, upd_same, dq.mono s1⟩
    let P1 : Nat → L2.St → Hp → Prop := fun i σ H' => ∃ o4, σ = [some (.ref a1), some (.ref a2), some (.bl j), some (.ref D), o4, none, none, none] ∧ Same H H' ∧ Grow H' D (q ++ shf (p.take i) n)
    refine ⟨_, rfl, a2, _, 1, _, rfl, rfl, SqL.of (s1 _ _ h2), rfl, b2, rfl, ⟨ps, SqL.of (s1 _ _ hb2)⟩, for_list (K := K) (a := b2) (xs := ps) P1 ⟨none, rfl, s1, by simpa [shf] using g1⟩ (fun i σ H' _ h => ?_) (fun i x σ H2 hi h => ?_) (fun σ H2 h => ?_)⟩
    · obtain ⟨_, _, sm, _⟩ := h
      exact SqL.of (sm _ _ hb2)
    · obtain ⟨o4, rfl, s2, g2⟩ := h
      obtain ⟨e, eb, he, rfl, heb⟩ := dta_map (dp.mono s2) hi
      obtain ⟨as, hA, lA, _⟩ := g2.at
      refine ⟨_, rfl, .inl ⟨rfl, as, SqL.of hA⟩, _, rfl, eb, _, 0, _, rfl, rfl, SqT.of heb, rfl, _, rfl, a1, _, 0, _, rfl, rfl, SqL.of (s2 _ _ h1), rfl, _, _, rfl, rfl, _, rfl, eb, _, 1, _, rfl, rfl, SqT.of heb, rfl, _, rfl, a1, _, 0, _, rfl, rfl, SqL.of (s2 _ _ h1), rfl, _, _, rfl, rfl, (by show 2 ≤ sizeLine; decide), fun u nu => ?_⟩
      have s3 := same_upd (o := .tup [.int (e.1 + n), .int (e.2 + n)]) nu
      have ltk : (shf (p.take i) n).length ≤ p.length := by
        show (List.map _ _).length ≤ _
        rw [List.length_map]
        exact take_room p i
      refine ⟨D, as, _, rfl, rfl, s3 _ _ hA, by rw [lA, List.length_append, sizeLine_eq]; omega, _, rfl, same_keep nD (s2.trans s3), ?_⟩
      have e1 : shf (p.take (i + 1)) n = shf (p.take i) n ++ [(e.1 + n, e.2 + n)] := by
        unfold shf
        rw [take_at he, List.map_append]
        rfl
      rw [e1, ← List.append_assoc]
      exact g2.push nu hA
    · obtain ⟨o4, rfl, s2, g2⟩ := h
      rw [lps, List.take_length] at g2
      refine ⟨_, rfl, j, rfl, ?_⟩
      cases j with
      | false =>
        have sm := s2
        have g := g2
        refine iteF ⟨_, rfl, a1, _, 2, _, rfl, rfl, SqL.of (sm _ _ h1), rfl, c1, _, rfl, .inl (SqL.of (sm _ _ hr1)), fun E1 nE1 => ?_⟩
        have sA := same_upd (o := .lst (r.map V.int)) nE1
        have hE1' := (upd_same : heapOf sA E1 = some (.lst (r.map V.int)))
        have s6 := sm.trans sA
        refine ⟨_, rfl, a2, _, 2, _, rfl, rfl, SqL.of (s6 _ _ h2), rfl, c2, rfl, ⟨_, SqL.of (s6 _ _ hr2)⟩, fun E2 nE2 => ?_⟩
        refine lc_list (K := K) (a := c2) (xs := s'.map V.int) (fun i H' => Same (heapOf sA) H' ∧ IL H' E2 ((s'.take i).map fun x => n + x)) ⟨same_upd nE2, upd_same⟩ (fun i H' _ z => SqL.of ((s6.trans z.1) _ _ hr2)) (fun i x H' hi z => ?_) (fun H7 z => ?_)
        · obtain ⟨s7, hE⟩ := z
          obtain ⟨y, hy, rfl⟩ := ints_val hi
          have := take_room s' i
          refine ⟨rfl, _, rfl, a1, _, 0, _, rfl, rfl, SqL.of ((s6.trans s7) _ _ h1), rfl, _, rfl, _, _, rfl, rfl, _, hE, by rw [List.length_map, List.length_map, sizeLine_eq]; omega, same_keep nE2 s7, ?_⟩
          show (upd _ _ _) _ = _
          rw [upd_same, take_at hy, List.map_append, List.map_append]
          rfl
        · obtain ⟨s7, hE⟩ := z
          rw [List.length_map, List.take_length] at hE
          refine ⟨E1, E2, _, _, rfl, rfl, s7 _ _ hE1', hE, by rw [List.length_map, List.length_map, List.length_map, sizeLine_eq]; omega, fun E3 nE3 => ?_⟩
          have s8 := same_upd (o := .lst (r.map V.int ++ (s'.map fun x => n + x).map V.int)) nE3
          have hE3 : IL (heapOf s8) E3 (r ++ s'.map fun x => n + x) := by
            show (upd _ _ _) _ = _
            rw [upd_same, List.map_append]
          have s78 := (sA.trans s7).trans s8
          have s08 := sm.trans s78
          refine ⟨_, rfl, a1, _, 0, _, rfl, rfl, SqL.of (s08 _ _ h1), rfl, _, rfl, a2, _, 0, _, rfl, rfl, SqL.of (s08 _ _ h2), rfl, _, _, rfl, rfl, _, rfl, D, _, rfl, (g.mono s78).ls, nd2, fun H9 pA rs s9 np lp pw hm _ => ⟨_, rfl, (by show 3 ≤ sizeLine; decide), fun R nR => ?_⟩⟩
          have s10 := same_upd (o := .lst [.int (n + m), .ref pA, .ref E3]) nR
          refine k _ (.ref R) rs _ ((s08.trans s9).trans s10) ⟨R, pA, E3, rfl, (s08.trans s9).free nR, s08.free np, (sm.trans (sA.trans s7)).free nE3, upd_same, lp.mono s10, (s9.trans s10) _ _ hE3⟩ ⟨⟨pw, fun z hz => rg2 z ((hm z).mp hz)⟩, by omega, rowP⟩
      | true =>
        let row : Nat → List Pr := fun i => (List.range m.toNat).map fun (y : Nat) => ((0 : Int) + (i : Int), n + (y : Int))
        let GG : Nat → List Pr := fun i => (List.range i).flatMap row
        have eGG : GG n.toNat = grid 0 n n m := rfl
        have lrow : ∀ i, (row i).length = m.toNat := fun i => by show (List.map _ _).length = _; rw [List.length_map, List.length_range]
        have lGG : ∀ i, i ≤ 16 → (GG i).length ≤ 256 := fun i hi => by
          have h1 := len_fm (List.range i) (f := row) (m := 16) fun x _ => by rw [lrow]; omega
          rw [List.length_range] at h1
          exact Nat.le_trans h1 (Nat.mul_le_mul_right 16 hi)
        have lsh : (shf p n).length = p.length := List.length_map _
        let P2 : Nat → L2.St → Hp → Prop := fun i σ H' => ∃ o5 o6, σ = [some (.ref a1), some (.ref a2), some (.bl true), some (.ref D), o4, o5, o6, none] ∧ Same H H' ∧ Grow H' D (q ++ shf p n ++ GG i)
        refine iteT ⟨_, rfl, a1, _, 0, _, rfl, rfl, SqL.of (s2 _ _ h1), rfl, n, rfl, by omega, by omega, for_range (n := n.toNat) P2 ⟨none, none, rfl, s2, by simpa [GG] using g2⟩ (fun i σ H3 hi h => ?_) (fun σ H3 h => ?_)⟩
        · obtain ⟨o5, o6, rfl, s3, g3⟩ := h
          let P3 : Nat → L2.St → Hp → Prop := fun t σ H' => ∃ o6, σ = [some (.ref a1), some (.ref a2), some (.bl true), some (.ref D), o4, some (.int (0 + (i : Int))), o6, none] ∧ Same H H' ∧ Grow H' D (q ++ shf p n ++ GG i ++ (row i).take t)
          refine ⟨_, rfl, a2, _, 0, _, rfl, rfl, SqL.of (s3 _ _ h2), rfl, m, rfl, by omega, by omega, for_range (n := m.toNat) P3 ⟨o6, rfl, s3, by simpa using g3⟩ (fun t σ H4 ht h => ?_) (fun σ H4 h => ?_)⟩
          · obtain ⟨o6, rfl, s4, g4⟩ := h
            obtain ⟨as, hA, lA, _⟩ := g4.at
            refine ⟨_, rfl, .inl ⟨rfl, as, SqL.of hA⟩, _, rfl, _, rfl, a1, _, 0, _, rfl, rfl, SqL.of (s4 _ _ h1), rfl, _, rfl, _, _, rfl, rfl, (by show 2 ≤ sizeLine; decide), fun u nu => ?_⟩
            have s5 := same_upd (o := .tup [.int (0 + (i : Int)), .int (n + (0 + (t : Int)))]) nu
            have ltk := take_room (row i) t
            have lrow' := lrow i
            have lgg := lGG i (by omega)
            refine ⟨D, as, _, rfl, rfl, s5 _ _ hA, by rw [lA, List.length_append, List.length_append, List.length_append, sizeLine_eq]; omega, _, rfl, same_keep nD (s4.trans s5), ?_⟩
            have e : (row i)[t]? = some ((0 : Int) + (i : Int), n + (t : Int)) := by
              show ((List.range m.toNat).map _)[t]? = _
              rw [List.getElem?_map, List.getElem?_range ht]
              rfl
            rw [take_at e, ← List.append_assoc]
            have z := g4.push (x := 0 + (i : Int)) (y := n + (0 + (t : Int))) nu hA
            rw [Int.zero_add (t : Int)] at z
            rw [Int.zero_add (t : Int)]
            exact z
          · obtain ⟨o6, rfl, s4, g4⟩ := h
            rw [List.take_of_length_le (by rw [lrow]; exact Nat.le_refl _)] at g4
            refine ⟨_, _, rfl, s4, ?_⟩
            have e : GG (i + 1) = GG i ++ row i := by
              show (List.range (i + 1)).flatMap row = _
              rw [List.range_succ, List.flatMap_append]
              simp [GG]
            rw [e, ← List.append_assoc]
            exact g4
        · obtain ⟨o5, o6, rfl, s3, g3⟩ := h
          rw [eGG] at g3
          have sm := s3
          have g := g3
          refine ⟨_, rfl, a1, _, 2, _, rfl, rfl, SqL.of (sm _ _ h1), rfl, c1, _, rfl, .inl (SqL.of (sm _ _ hr1)), fun E1 nE1 => ?_⟩
          have sA := same_upd (o := .lst (r.map V.int)) nE1
          have hE1' := (upd_same : heapOf sA E1 = some (.lst (r.map V.int)))
          have s6 := sm.trans sA
          refine ⟨_, rfl, a2, _, 2, _, rfl, rfl, SqL.of (s6 _ _ h2), rfl, c2, rfl, ⟨_, SqL.of (s6 _ _ hr2)⟩, fun E2 nE2 => ?_⟩
          refine lc_list (K := K) (a := c2) (xs := s'.map V.int) (fun i H' => Same (heapOf sA) H' ∧ IL H' E2 ((s'.take i).map fun x => n + x)) ⟨same_upd nE2, upd_same⟩ (fun i H' _ z => SqL.of ((s6.trans z.1) _ _ hr2)) (fun i x H' hi z => ?_) (fun H7 z => ?_)
          · obtain ⟨s7, hE⟩ := z
            obtain ⟨y, hy, rfl⟩ := ints_val hi
            have := take_room s' i
            refine ⟨rfl, _, rfl, a1, _, 0, _, rfl, rfl, SqL.of ((s6.trans s7) _ _ h1), rfl, _, rfl, _, _, rfl, rfl, _, hE, by rw [List.length_map, List.length_map, sizeLine_eq]; omega, same_keep nE2 s7, ?_⟩
            show (upd _ _ _) _ = _
            rw [upd_same, take_at hy, List.map_append, List.map_append]
            rfl
          · obtain ⟨s7, hE⟩ := z
            rw [List.length_map, List.take_length] at hE
            refine ⟨E1, E2, _, _, rfl, rfl, s7 _ _ hE1', hE, by rw [List.length_map, List.length_map, List.length_map, sizeLine_eq]; omega, fun E3 nE3 => ?_⟩
            have s8 := same_upd (o := .lst (r.map V.int ++ (s'.map fun x => n + x).map V.int)) nE3
            have hE3 : IL (heapOf s8) E3 (r ++ s'.map fun x => n + x) := by
              show (upd _ _ _) _ = _
              rw [upd_same, List.map_append]
            have s78 := (sA.trans s7).trans s8
            have s08 := sm.trans s78
            refine ⟨_, rfl, a1, _, 0, _, rfl, rfl, SqL.of (s08 _ _ h1), rfl, _, rfl, a2, _, 0, _, rfl, rfl, SqL.of (s08 _ _ h2), rfl, _, _, rfl, rfl, _, rfl, D, _, rfl, (g.mono s78).ls, nd3, fun H9 pA rs s9 np lp pw hm _ => ⟨_, rfl, (by show 3 ≤ sizeLine; decide), fun R nR => ?_⟩⟩
            have s10 := same_upd (o := .lst [.int (n + m), .ref pA, .ref E3]) nR
            refine k _ (.ref R) rs _ ((s08.trans s9).trans s10) ⟨R, pA, E3, rfl, (s08.trans s9).free nR, s08.free np, (sm.trans (sA.trans s7)).free nE3, upd_same, lp.mono s10, (s9.trans s10) _ _ hE3⟩ ⟨⟨pw, fun z hz => rg3 z ((hm z).mp hz)⟩, by omega, rowP⟩
end
end K0
set_option Elab.async false
set_option linter.all false
set_option maxRecDepth 100000
set_option maxHeartbeats 4000000
namespace K0
open PySem PySem.Spec PyProof.Rows L2
theorem DrO.mono {H H' : Hp} (s : Same H H') {d : Addr} : DrO H d → DrO H' d := fun ⟨ns, h, p⟩ => ⟨ns, s _ _ h, p⟩
/-- a list of pairs, apart from the draws -/
theorem Ls.del {H : Hp} {D d : Addr} {q : List Pr} (h : Ls H D q) (dr : DrO H d) (ne : D ≠ d) : Ls (del H d) D q := by
  obtain ⟨ys, hD, hy⟩ := h
  obtain ⟨e, hh⟩ := dta_kH hy
  refine ⟨ys, by rw [del_ne ne]; exact hD, ?_⟩
  rw [← e]
  refine dta_of fun y hy' => ?_
  obtain ⟨t, e1, e2⟩ := hh y hy'
  refine ⟨t, e1, ?_⟩
  have : t ≠ d := fun z => by
    obtain ⟨ns, h1, _⟩ := dr
    rw [z, h1] at e2
    cases e2
  rw [del_ne this]
  exact e2
theorem cs_up {H G : Hp} {d b c A : Addr} {n : Int} {q : List Pr} {r : List Int} (sm : Same (del H d) G) (dr : DrO G d) (hb : Ls (del G d) b q) (hc : IL (del G d) c r) (nA : G A = none) :
    Same (del H d) (upd G A (.lst [.int n, .ref b, .ref c])) ∧ DrO (upd G A (.lst [.int n, .ref b, .ref c])) d ∧ CsAt (del (upd G A (.lst [.int n, .ref b, .ref c])) d) (.ref A) n q r := by
  have Ad := dr.ne nA
  have hA := sd_none sm nA Ad
  have s : Same (del G d) (del (upd G A (.lst [.int n, .ref b, .ref c])) d) := by
    rw [del_upd_ne Ad]
    exact same_upd (by rw [del_ne Ad]; exact nA)
  exact ⟨sd_upd sm hA Ad, dr.upd Ad, A, b, c, rfl, by rw [del_ne Ad, upd_same], hb.mono s, s _ _ hc⟩
theorem delF {H H' : Hp} {d : Addr} (s : Same H H') : Same (del H d) (del H' d) := fun b o e => by
  by_cases hb : b = d
  · rw [hb, del_same] at e
    cases e
  · rw [del_ne hb] at e ⊢
    exact s b o e
theorem IL.del {H : Hp} {a d : Addr} {r : List Int} (h : IL H a r) (ne : a ≠ d) : IL (L2.del H d) a r := by
  show (L2.del H d) a = _
  rw [del_ne ne]
  exact h
theorem ran_step {H0 : Hp} {D : Addr} {n i : Nat} {H' : Hp} (nD : H0 D = none) (hi : i < n) (hn : n ≤ 1000) (z : Same H0 H' ∧ IL H' D (ran i)) : ∃ acc, H' D = some (.lst acc) ∧ acc.length < sizeLine ∧ Same H0 (upd H' D (.lst (acc ++ [.int (i : Int)]))) ∧ IL (upd H' D (.lst (acc ++ [.int (i : Int)]))) D (ran (i + 1)) := by
  obtain ⟨sm, hD⟩ := z
  refine ⟨_, hD, by rw [List.length_map, ran_len, sizeLine_eq]; omega, same_keep nD sm, ?_⟩
  show (upd _ _ _) _ = _
  rw [upd_same, ran_succ, List.map_append]
  rfl
/-- what a maker of the law hands on -/
def OutCs (H : Hp) (d : Addr) (l m : Int) (Q : VK) : Prop := ∀ H' v n q r, Same (del H d) H' → DrO H' d → CsAt (del H' d) v n q r → Csk n q r → l ≤ n → n ≤ m → Q v H'
section
variable {P : Program} {w : World} {K : PySem.W.Frag} {mg : Str → Option Value} {base : Heap} {f : Addr} {fd : FuncData}
/-- _law_small -/
def spSm : Sp := fun vs H Q _ => ∃ (d : Addr), vs = [.ref d] ∧ DrO H d ∧ OutCs H d 1 4 Q
theorem sc_sm : FnScope ["_law_draws_here", "_law_many", "_law_x"] ["_law_draws_here"] (defScope s_sm) := ⟨rfl, rfl, rfl, by decide +kernel, rfl, by decide +kernel, by decide +kernel⟩
theorem ok_sm (F : Fun K "_law_small" "_law_small" s_sm f fd) (B : Blt2 mg) (TK : Df P w K mg base "_law_take" 1 ["_law_draws_here", "_law_many"] spTk) (LN : Df P w K mg base "_law_line" 1 ["_law_many"] spLine) : FnOk P w K mg base (L2.CX P w) 2 f fd ["_law_draws_here"] spSm := by
  refine F.okX sc_sm (fun vs H Q E h => ?_) (fun cdv A outer s H vs Q E hr h => ?_)
  · obtain ⟨d, rfl, _⟩ := h
    rfl
  · obtain ⟨d, rfl, dr, k⟩ := h
    have nd := sc_sm.nd
    have r1 : Room 1 _ := hr.mono (by decide)
    refine ⟨_, pss_cons (ps_set (i := 1) nd rfl (.inl rfl) (pe_op op_add pe_int (pe_df TK r1 (by rfl) passUp (pa_cons (pv 0) (pa_cons pe_int pa_nil)))))
      (pss_cons (ps_if (pt_cmpR op_eq (pe_df TK r1 (by rfl) passUp (pa_cons (pv 0) (pa_cons pe_int pa_nil))) pe_int (nomark _)) (pss_one (ps_ret (pe_lst (pa_cons (pv 1) (pa_cons (pe_lst pa_nil) (pa_cons (pe_lc (own := [("_law_x", 2)]) (g := gName 2) (tt := tYes) (te := tVar 2) rfl nd
          (pi_range1 (by rfl) B.range (pa_cons (pv 1) pa_nil)) (blkOk_by (N := ["_law_draws_here", "_law_many", "_law_x"]) (sc := defScope s_sm) (by decide +kernel)) (fun _ _ _ _ _ => pg_name (i := 2) nd rfl (.inl rfl)) (fun _ _ _ _ _ => pts_nil) (fun _ _ _ _ _ => pv 2)) pa_nil)))))) pss_nil)
      (pss_one (ps_ret (pe_lst (pa_cons (pv 1) (pa_cons (pe_df LN r1 (by rfl) passUp (pa_cons (pv 1) pa_nil)) (pa_cons (pe_lc (own := [("_law_x", 2)]) (g := gName 2) (tt := tYes) (te := tVar 2) rfl nd
          (pi_range1 (by rfl) B.range (pa_cons (pv 1) pa_nil)) (blkOk_by (N := ["_law_draws_here", "_law_many", "_law_x"]) (sc := defScope s_sm) (by decide +kernel)) (fun _ _ _ _ _ => pg_name (i := 2) nd rfl (.inl rfl)) (fun _ _ _ _ _ => pts_nil) (fun _ _ _ _ _ => pv 2)) pa_nil))))))), ?_⟩
    refine ⟨_, rfl, d, 4, rfl, by decide, dr, fun r1' H1 a0 a4 s1 dr1 => ?_⟩
    let n : Int := 1 + r1'
    have en : n = 1 + r1' := rfl
    refine ⟨_, _, rfl, rfl, ?_⟩
    refine ⟨_, rfl, d, 3, rfl, by decide, dr1, fun r2 H2 b0 b3 s2 dr2 => ⟨rfl, _, rfl, ?_⟩⟩
    rw [dec_int]
    have s12 := sd_trans s1 s2
    by_cases e : r2 = 1
    · rw [show (r2 == 1) = true by simpa using e]
      refine iteT ⟨_, rfl, by show 0 ≤ sizeLine; exact Nat.zero_le _, fun D nD => ?_⟩
      have Dd := dr2.ne nD
      have s3 := same_upd (o := .lst []) nD
      have dr3 := dr2.mono s3
      refine ⟨_, rfl, n, rfl, by omega, by omega, fun G nG => ?_⟩
      refine lc_range (lo := 0) (n := n.toNat) (fun i H' => Same (heapOf s3) H' ∧ IL H' G (ran i)) ⟨same_upd nG, upd_same⟩ (fun i H' hi z => ?_) (fun H4 z => ?_)
      · rw [Int.zero_add]
        exact ⟨rfl, _, rfl, ran_step nG hi (by omega) z⟩
      · obtain ⟨s4, hG⟩ := z
        refine ⟨(by show 3 ≤ sizeLine; decide), fun A nA => ?_⟩
        have dr4 := dr3.mono s4
        have Gd := dr3.ne nG
        have hD : Ls (heapOf s4) D [] := ⟨[], s4 _ _ upd_same, .nil⟩
        obtain ⟨x, y, z⟩ := cs_up (n := n) (sd_trans s12 (del_sub.trans (s3.trans s4))) dr4 (hD.del dr4 Dd) (hG.del Gd) nA
        exact k _ _ _ _ _ x y z ⟨⟨.nil, fun p hp => by cases hp⟩, by omega, .refl _⟩ (by omega) (by omega)
    · rw [show (r2 == 1) = false by simpa using e]
      refine iteF ⟨_, rfl, _, rfl, n, rfl, by omega, by omega, fun H3 D s3 nD hD => ?_⟩
      have Dd := dr2.ne nD
      have dr3 := dr2.mono s3
      refine ⟨_, rfl, n, rfl, by omega, by omega, fun G nG => ?_⟩
      refine lc_range (lo := 0) (n := n.toNat) (fun i H' => Same H3 H' ∧ IL H' G (ran i)) ⟨same_upd nG, upd_same⟩ (fun i H' hi z => ?_) (fun H4 z => ?_)
      · rw [Int.zero_add]
        exact ⟨rfl, _, rfl, ran_step nG hi (by omega) z⟩
      · obtain ⟨s4, hG⟩ := z
        refine ⟨(by show 3 ≤ sizeLine; decide), fun A nA => ?_⟩
        have dr4 := dr3.mono s4
        have Gd := dr3.ne nG
        have hL : Ls (heapOf s4) D (lnP (n - 1).toNat) := ((hD.mono same_new).ls).mono s4
        obtain ⟨x, y, z⟩ := cs_up (n := n) (sd_trans s12 (del_sub.trans (s3.trans s4))) dr4 (hL.del dr4 Dd) (hG.del Gd) nA
        exact k _ _ _ _ _ x y z ⟨lnP_cl (by omega), by omega, .refl _⟩ (by omega) (by omega)
end
end K0
set_option Elab.async false
set_option linter.all false
set_option maxRecDepth 100000
set_option maxHeartbeats 4000000
namespace K0
open PySem PySem.Spec PyProof.Rows L2
section
variable {X : Cx} {o e : Expr} {es : List Expr} {to : TE} {t : TA} {apos cpos : Pos}
/-- o.index(e) -/
theorem pe_lidx (ho : PE X o to) (ha : PA X (e :: es) t) (hbase : attributeBase o "index" X.env (eval o X.env) = eval o X.env := by rfl)
    (hfew : ((backTo cpos (starEach (e :: es) X.env)).all (fun x => !x.1) && (backToKw cpos (keywordEach [] X.env)).all (fun x => x.1.isSome) && decide ((e :: es).length + ([] : List Keyword).length + (if ([] : List Keyword).isEmpty then 0 else 1) < 30)) = true := by rfl)
    (hline : (apos.endLine == cpos.line) = true := by rfl) (hs : starEach (e :: es) X.env = (false, eval e X.env) :: starEach es X.env := by rfl) (hplain : (backTo cpos (starEach es X.env)).any (·.1) = false := by rfl) :
    PE X (.Call (.Attribute o "index" apos) (e :: es) [] cpos) (tBM X.K "list" (rIndex X.K) to t) := pe_bm PySem.F.plainAttrs_list PySem.F.slot_list_index PySem.F.type_list_index mt_index ho ha hbase hfew hline hs hplain
end
theorem ex_idx {x : Int} : ∀ {r : List Int}, x ∈ r → ∃ j : Nat, r[j]? = some x ∧ ∀ m : Nat, m < j → ∀ z, r[m]? = some z → z ≠ x
  | [], h => by cases h
  | y :: r, h => by
    by_cases e : y = x
    · exact ⟨0, by rw [e]; rfl, fun m hm => absurd hm (Nat.not_lt_zero m)⟩
    · have h2 : x ∈ r := by
        rcases List.mem_cons.mp h with h | h
        · exact absurd h.symm e
        · exact h
      obtain ⟨j, h3, h4⟩ := ex_idx h2
      refine ⟨j + 1, h3, fun m hm z hz => ?_⟩
      cases m with
      | zero => rw [← Option.some.inj hz]; exact e
      | succ m => exact h4 m (by omega) z hz
theorem hasP_mmU {q : List Pr} (h : ∀ z ∈ q, z.1 < z.2) (x y : Nat) : decide (((min (x : Int) y, max (x : Int) y) : Pr) ∈ q) = hasP q x y := by
  unfold hasP
  rw [Bool.eq_iff_iff, Bool.or_eq_true, decide_eq_true_iff, decide_eq_true_iff, decide_eq_true_iff]
  rcases Nat.lt_trichotomy x y with c | c | c
  · rw [show min (x : Int) y = x by omega, show max (x : Int) y = y by omega]
    refine ⟨.inl, fun z => z.elim (fun z => z) fun z => ?_⟩
    have := h _ z
    dsimp only at this
    omega
  · subst c
    rw [show min (x : Int) x = x by omega, show max (x : Int) x = x by omega]
    exact ⟨.inl, fun z => z.elim (fun z => z) fun z => z⟩
  · rw [show min (x : Int) y = y by omega, show max (x : Int) y = x by omega]
    refine ⟨.inr, fun z => z.elim (fun z => ?_) fun z => z⟩
    have := h _ z
    dsimp only at this
    omega
section
variable {P : Program} {w : World} {K : PySem.W.Frag} {mg : Str → Option Value} {base : Heap} {f : Addr} {fd : FuncData}
abbrev s_tw : Stmt := top 62
/-- _law_near, of pairs in any order -/
def spNu : Sp := fun vs H Q _ => ∃ (b : Addr) (n : Int) (x : Nat) (q : List Pr), vs = [.int n, .ref b, .int (x : Int)] ∧ 0 ≤ n ∧ n ≤ 16 ∧ (∀ z ∈ q, z.1 < z.2) ∧ Ls H b q ∧ ∀ H' a, Same H H' → H a = none → H' a = some (.lst (nvs (nearOf n q x))) → Q (.ref a) H'
theorem ok_nu (F : Fun K "_law_near" "_law_near" s_ne f fd) (B : Blt2 mg) : FnOk P w K mg base (L2.CX P w) 2 f fd ["_law_many", "_law_pairs", "_law_x"] spNu := by
  refine F.okX sc_ne (fun vs H Q E h => ?_) (fun cdv A outer s H vs Q E hr h => ?_)
  · obtain ⟨b, n, x, q, rfl, _⟩ := h
    rfl
  · obtain ⟨b, n, x, q, rfl, n0, n8, cl, hl, k⟩ := h
    have nd := sc_ne.nd
    have hu : (A.deeper (envOfC "_law_near" (defScope s_ne) s.heap.objs.size f cdv)).units + 65 < cLine := by have := hr.un; omega
    refine ⟨_, pss_one (ps_ret (pe_lc (own := [("_law_y", 3)]) (g := gName 3)
      (tt := tTest (tOp (rInD K) (tTup (tCons (tCB rMinI (tCons (tVar 2) (tCons (tVar 3) tNil))) (tCons (tCB rMaxI (tCons (tVar 2) (tCons (tVar 3) tNil))) tNil))) (tVar 1)))
      (te := tVar 3) rfl nd (pi_range1 (by rfl) B.range (pa_cons (pv 0) pa_nil))
        (blkOk_by (N := ["_law_many", "_law_pairs", "_law_x", "_law_y"]) (sc := defScope s_ne) (by decide +kernel)) (fun _ _ _ _ _ => pg_name (i := 3) nd rfl (.inl rfl))
        (fun _ _ _ _ _ => pts_one (pt_cmpR (op_inD hu) (pe_tup (pa_cons (pe_callB (c_min rfl) (by rfl) B.min (by decide +kernel) (pa_cons (pv 2) (pa_cons (pv 3) pa_nil))) (pa_cons (pe_callB (c_max rfl) (by rfl) B.max (by decide +kernel) (pa_cons (pv 2) (pa_cons (pv 3) pa_nil))) pa_nil))) (pv 1) (by rfl))) (fun _ _ _ _ _ => pv 3))), ?_⟩
    refine ⟨_, rfl, n, rfl, by omega, by omega, fun D nD => ?_⟩
    refine lc_range (lo := 0) (n := n.toNat) (fun i H' => Same H H' ∧ H' D = some (.lst (nvs (((List.range n.toNat).take i).filter (hasP q x))))) ⟨same_upd nD, upd_same⟩ (fun i H' hi ⟨sm, hD⟩ => ?_) (fun H' ⟨sm, hD⟩ => ?_)
    · refine ⟨rfl, ?_⟩
      rw [Int.zero_add]
      refine ⟨_, rfl, _, rfl, _, _, rfl, _, rfl, _, rfl, _, _, rfl, (by show 2 ≤ sizeLine; decide), fun t nt => ?_⟩
      rw [min2, max2]
      have s2 : Same H' (upd H' t (.tup [.int (min (x : Int) i), .int (max (x : Int) i)])) := same_upd nt
      refine ⟨_, rfl, prD (min (x : Int) i, max (x : Int) i), _, (dt_pr (p := (min (x : Int) i, max (x : Int) i)) upd_same).dp, (hl.mono (sm.trans s2)).dp, prD_shaped _, prsL_shaped _, _, rfl, ?_⟩
      rw [prs_any, hasP_mmU cl]
      cases e : hasP q x i with
      | false =>
        refine iteF ⟨sm.trans s2, ?_⟩
        rw [filter_take _ _ hi, e, s2 _ _ hD]
        simp
      | true =>
        refine iteT ⟨_, rfl, _, s2 _ _ hD, ?_, fun b o eb => ?_, ?_⟩
        · rw [nvs_len, sizeLine_eq]
          have g1 := List.length_filter_le (hasP q x) ((List.range n.toNat).take i)
          rw [List.length_take, List.length_range] at g1
          omega
        · rw [upd_ne (ne_of_none eb nD)]
          exact s2 _ _ (sm _ _ eb)
        · rw [upd_same, filter_take _ _ hi, e]
          unfold nvs
          rw [List.map_append]
          rfl
    · rw [List.take_of_length_le (by rw [List.length_range]; exact Nat.le_refl _)] at hD
      exact k H' D sm nD hD
theorem Ls.cat {H : Hp} {A G B : Addr} {rs ss : List Pr} {xs ys : List V} (h : Ls H A rs) (g : Ls H G ss) (hx : H A = some (.lst xs)) (hy : H G = some (.lst ys)) (nB : H B = none) : Ls (upd H B (.lst (xs ++ ys))) B (rs ++ ss) := by
  obtain ⟨xs', h1, h2⟩ := h
  obtain ⟨ys', g1, g2⟩ := g
  rw [h1] at hx
  cases hx
  rw [g1] at hy
  cases hy
  refine ⟨_, upd_same, ?_⟩
  rw [List.map_append]
  exact (h2.app g2).mono (same_upd nB)
theorem Ls.len {H : Hp} {A : Addr} {rs : List Pr} {xs : List V} (h : Ls H A rs) (hx : H A = some (.lst xs)) : xs.length = rs.length := by
  obtain ⟨xs', h1, h2⟩ := h
  rw [h1] at hx
  cases hx
  have := h2.len
  rwa [List.length_map] at this
structure TwI (mo : Int) (H H' : Hp) (d b c : Addr) (N : Int) (ps : List Pr) (r : List Int) : Prop where
  sm : Same (del H d) H'
  dr : DrO H' d
  ls : Ls (del H' d) b ps
  il : IL (del H' d) c r
  N4 : 4 ≤ N
  N7 : N ≤ mo
  ndp : ps.Nodup
  rng : ∀ z ∈ ps, 0 ≤ z.1 ∧ z.1 < z.2 ∧ z.2 < N
  p : r.Perm (ran N.toNat)
theorem TwI.next {mo : Int} {H H' H2 : Hp} {d b c : Addr} {N : Int} {ps : List Pr} {r : List Int} (I : TwI mo H H' d b c N ps r) (s : Same (del H' d) H2) (dr : DrO H2 d) : TwI mo H H2 d b c N ps r :=
  ⟨sd_trans I.sm s, dr, I.ls.mono (same_del s), (same_del s) _ _ I.il, I.N4, I.N7, I.ndp, I.rng, I.p⟩
/-- _law_twins -/
def spTwn : Sp := fun vs H Q _ => ∃ (d : Addr) (v : V) (q : List Pr) (r : List Int) (mo : Int), vs = [.ref d, v, .int mo] ∧ 5 ≤ mo ∧ mo ≤ 7 ∧ DrO H d ∧ CsAt (del H d) v 4 q r ∧ Csk 4 q r ∧ OutCs H d 2 mo Q
theorem sc_tw : FnScope ["_law_draws_here", "_law_case_here", "_law_most", "_law_many", "_law_pairs", "_law_row_here", "_law_turn", "_law_old", "_law_near_here", "_law_x", "_law_place"] ["_law_draws_here", "_law_case_here", "_law_most"] (defScope s_tw) := ⟨rfl, rfl, rfl, by decide +kernel, rfl, by decide +kernel, by decide +kernel⟩
theorem ok_tw (F : Fun K "_law_twins" "_law_twins" s_tw f fd) (B : Blt2 mg) (TK : Df P w K mg base "_law_take" 1 ["_law_draws_here", "_law_many"] spTk) (NE : Df P w K mg base "_law_near" 2 ["_law_many", "_law_pairs", "_law_x"] spNu) : FnOk P w K mg base (L2.CX P w) 3 f fd ["_law_draws_here", "_law_case_here", "_law_most"] spTwn := by
  refine F.okX sc_tw (fun vs H Q E h => ?_) (fun cdv A outer s H vs Q E hr h => ?_)
  · obtain ⟨d, v, q, r, mo, rfl, _⟩ := h
    rfl
  · obtain ⟨d, v, q, r, mo, rfl, mo5, mo7, dr, ⟨a1, b1, c1, rfl, h1, hq, hr1⟩, K1, k⟩ := h
    have nd := sc_tw.nd
    have r1 : Room 1 _ := hr.mono (by decide)
    have r2 : Room 2 _ := hr.mono (by decide)
    refine ⟨_, pss_cons (ps_set (i := 3) nd rfl (.inr rfl) (pe_ix ix_list (pv 1) pe_int (fun _ _ => rfl)))
      (pss_cons (ps_set (i := 4) nd rfl (.inl rfl) (pe_callTy call_list_of (by rfl) B.list (by decide +kernel) (pa_cons (pe_ix ix_list (pv 1) pe_int (fun _ _ => rfl)) pa_nil)))
      (pss_cons (ps_set (i := 5) nd rfl (.inl rfl) (pe_callTy call_list_of (by rfl) B.list (by decide +kernel) (pa_cons (pe_ix ix_list (pv 1) pe_int (fun _ _ => rfl)) pa_nil)))
      (pss_cons (ps_for (passes_of rfl) rfl (pi_range1 (by rfl) B.range (pa_cons pe_int pa_nil)) (pg_name (i := 6) nd rfl (.inl rfl))
        (pss_cons (ps_set (i := 7) nd rfl (.inl rfl) (pe_df TK r1 (by rfl) passUp (pa_cons (pv 0) (pa_cons (pv 3) pa_nil))))
        (pss_one (ps_if (PW.pt (pw_and (pt_cmpR op_lt (pv 3) (pv 2) (nomark _)) (pw_and1 (pt_cmpR op_gt (pe_df TK r1 (by rfl) passUp (pa_cons (pv 0) (pa_cons pe_int pa_nil))) pe_int (nomark _)))))
          (pss_cons (ps_set (i := 8) nd rfl (.inl rfl) (pe_df NE r2 (by rfl) passUp (pa_cons (pv 3) (pa_cons (pv 4) (pa_cons (pv 7) pa_nil)))))
          (pss_cons (ps_if (pt_cmpR op_eq (pe_df TK r1 (by rfl) passUp (pa_cons (pv 0) (pa_cons pe_int pa_nil))) pe_int (nomark _)) (pss_one (ps_expr (pe_lapp (pv 8) (pa_cons (pv 7) pa_nil)))) pss_nil)
          (pss_cons (ps_set (i := 4) nd rfl (.inl rfl) (pe_op op_cat (pv 4) (pe_lc (own := [("_law_x", 9)]) (g := gName 9) (tt := tYes) (te := tTup (tCons (tVar 9) (tCons (tVar 3) tNil))) rfl nd (pi_list (pv 8))
            (blkOk_by (N := ["_law_draws_here", "_law_case_here", "_law_most", "_law_many", "_law_pairs", "_law_row_here", "_law_turn", "_law_old", "_law_near_here", "_law_x", "_law_place"]) (sc := defScope s_tw) (by decide +kernel)) (fun _ _ _ _ _ => pg_name (i := 9) nd rfl (.inl rfl)) (fun _ _ _ _ _ => pts_nil) (fun _ _ _ _ _ => pe_tup (pa_cons (pv 9) (pa_cons (pv 3) pa_nil))))))
          (pss_cons (ps_set (i := 10) nd rfl (.inl rfl) (pe_op op_add (pe_lidx (pv 5) (pa_cons (pv 7) pa_nil)) pe_int))
          (pss_cons (ps_set (i := 5) nd rfl (.inl rfl) (pe_op op_cat (pe_op op_cat (pe_slice sl_list (pv 5) po_none (po_some (pv 10))) (pe_lst (pa_cons (pv 3) pa_nil))) (pe_slice sl_list (pv 5) (po_some (pv 10)) po_none)))
          (pss_one (ps_set (i := 3) nd rfl (.inr rfl) (pe_op op_add (pv 3) pe_int)))))))) pss_nil))))
      (pss_one (ps_ret (pe_lst (pa_cons (pv 3) (pa_cons (pe_callB cr_srtP (by rfl) B.sorted (by decide +kernel) (pa_cons (pv 4) pa_nil)) (pa_cons (pv 5) pa_nil))))))))), ?_⟩
    obtain ⟨qs, hb1, dq⟩ := id hq
    have h1' := del_sub _ _ h1
    have hr' : H c1 = some (.lst (r.map V.int)) := del_sub _ _ hr1
    refine ⟨_, rfl, a1, _, 0, _, rfl, rfl, SqL.of h1', rfl, ?_⟩
    refine ⟨_, rfl, a1, _, 1, _, rfl, rfl, SqL.of h1', rfl, b1, _, rfl, .inl (SqL.of (del_sub _ _ hb1)), fun D nD => ?_⟩
    have s1 := same_upd (o := .lst qs) nD
    have Dd := dr.ne nD
    refine ⟨_, rfl, a1, _, 2, _, rfl, rfl, SqL.of (s1 _ _ h1'), rfl, c1, _, rfl, .inl (SqL.of (s1 _ _ hr')), fun G0 nG0 => ?_⟩
    have s2 := same_upd (o := .lst (r.map V.int)) nG0
    have G0d := (dr.mono s1).ne nG0
    have s12 := s1.trans s2
    have I0 : TwI mo H (heapOf s2) d D G0 4 q r := ⟨del_sub.trans s12, dr.mono s12, Ls.del ⟨qs, s2 _ _ upd_same, dq.mono (del_sub.trans s12)⟩ (dr.mono s12) Dd, IL.del upd_same G0d, by decide, by omega, pairwise_nodup K1.c.srt, K1.c.rng, K1.p⟩
    let Pv : Nat → L2.St → Hp → Prop := fun i σ H' => ∃ (N : Int) (ps : List Pr) (r : List Int) (b c : Addr) (o6 o7 o8 o10 : Option V), σ = [some (.ref d), some (.ref a1), some (.int mo), some (.int N), some (.ref b), some (.ref c), o6, o7, o8, none, o10] ∧ TwI mo H H' d b c N ps r
    refine ⟨3, rfl, by decide, by decide, for_range (n := 3) Pv ⟨4, q, r, D, G0, none, none, none, none, rfl, I0⟩ (fun i σ H1 hi h => ?_) (fun σ H1 h => ?_)⟩
    · obtain ⟨N, ps, r, b, c, o6, o7, o8, o10, rfl, I1⟩ := h
      have N4 := I1.N4; have N7 := I1.N7
      refine ⟨_, rfl, _, rfl, d, N, rfl, by omega, I1.dr, fun old H2 o0 oN s2 dr2 => ?_⟩
      obtain ⟨x, rfl⟩ := Int.eq_ofNat_of_zero_le o0
      have I2 := I1.next s2 dr2
      refine ⟨_, rfl, _, rfl, _, _, rfl, rfl, _, rfl, ?_⟩
      by_cases lt : N < mo
      case neg =>
        rw [decide_eq_false lt]
        exact iteF (iteF ⟨N, ps, r, b, c, _, _, _, _, rfl, I2⟩)
      rw [decide_eq_true lt]
      refine iteT ⟨_, rfl, d, 4, rfl, by decide, dr2, fun t H3 t0 t4 s3 dr3 => ⟨_, _, rfl, rfl, _, rfl, ?_⟩⟩
      have I3 := I2.next s3 dr3
      by_cases tp : 0 < t
      case neg =>
        rw [decide_eq_false tp]
        exact iteF ⟨N, ps, r, b, c, _, _, _, _, rfl, I3⟩
      rw [decide_eq_true tp]
      refine iteT ⟨_, rfl, _, rfl, _, rfl, b, N, x, ps, rfl, by omega, by omega, (fun z hz => (I3.rng z hz).2.1), I3.ls.mono del_sub, fun H4 t' s4 nt ht => ?_⟩
      have td := dr3.ne nt
      have dr4 := dr3.mono s4
      have s34 : Same (del H3 d) H4 := del_sub.trans s4
      refine ⟨_, rfl, d, 2, rfl, by decide, dr4, fun u H5 u0 u2 s5 dr5 => ⟨rfl, _, rfl, ?_⟩⟩
      rw [dec_int]
      have s35 := sd_trans s34 s5
      have ht5 : H5 t' = some (.lst (nvs (nearOf N ps x))) := s5 _ _ (by rw [del_ne td]; exact ht)
      have ndn : (nearOf N ps x).Nodup := List.nodup_range.filter _
      have ltn : ∀ y ∈ nearOf N ps x, (y : Int) < N := fun y hy => by
        have := List.mem_range.mp (List.mem_filter.mp hy).1
        omega
      have lnn : (nearOf N ps x).length ≤ 7 := by
        have := List.length_filter_le (hasP ps x) (List.range N.toNat)
        rw [List.length_range] at this
        exact Nat.le_trans this (by omega)
      by_cases eu : u = 1
      · rw [show (u == 1) = true by simpa using eu]
        refine iteT ⟨_, rfl, .inl ⟨rfl, _, SqL.of ht5⟩, _, rfl, t', _, _, rfl, rfl, ht5, by rw [nvs_len, sizeLine_eq]; omega, ?_⟩
        have I6 : TwI mo H (upd H5 t' (.lst (nvs (nearOf N ps x) ++ [.int (x : Int)]))) d b c N ps r := I3.next (sd_upd s35 nt td) (dr5.upd td)
        have ht6 : (upd H5 t' (.lst (nvs (nearOf N ps x) ++ [.int (x : Int)]))) t' = some (.lst (nvs (nearOf N ps x ++ [x]))) := by
          rw [upd_same]
          unfold nvs
          rw [List.map_append]
          rfl
        have nx : x ∉ nearOf N ps x := fun h => by
          have := (List.mem_filter.mp h).2
          have this := hasP_cl.mp this
          unfold cl at this
          rcases this with h | h <;> (have := I3.rng _ h; dsimp only at this; omega)
        have nd6 : (nearOf N ps x ++ [x]).Nodup := List.nodup_append.mpr ⟨ndn, by simp, fun a ha b hb e => by
          rw [List.mem_singleton.mp hb] at e
          rw [e] at ha
          exact nx ha⟩
        have lt6 : ∀ y ∈ nearOf N ps x ++ [x], (y : Int) < N := fun y hy => by
          rcases List.mem_append.mp hy with h | h
          · exact ltn y h
          · rw [List.mem_singleton.mp h]; exact oN
        have ln6 : (nearOf N ps x ++ [x]).length ≤ 8 := by rw [List.length_append]; show _ + 1 ≤ 8; omega
        obtain ⟨bs, hb6, _⟩ := id (I6.ls.mono del_sub)
        have ls6 := I6.ls.mono del_sub
        refine ⟨_, rfl, _, rfl, t', rfl, ⟨_, SqL.of ht6⟩, fun G nG => ?_⟩
        refine lc_list (K := K) (a := t') (xs := nvs (nearOf N ps x ++ [x])) (fun i H' => Same (upd H5 t' (.lst (nvs (nearOf N ps x) ++ [.int (x : Int)]))) H' ∧ Grow H' G (((nearOf N ps x ++ [x]).take i).map fun (y : Nat) => ((y : Int), N))) ⟨same_upd nG, [], upd_same, rfl, fun z hz => by cases hz⟩ (fun i H' _ z => SqL.of (z.1 _ _ ht6)) (fun i v H' hi z => ?_) (fun H7 z => ?_)
        · obtain ⟨s7, g7⟩ := z
          obtain ⟨y, hy, rfl⟩ := nvs_val hi
          obtain ⟨as, hA, lA, _⟩ := g7.at
          refine ⟨rfl, _, rfl, _, rfl, (by show 2 ≤ sizeLine; decide), fun u nu => ?_⟩
          have s8 : Same H' (upd H' u (.tup [.int (y : Int), .int N])) := same_upd nu
          have := take_room (nearOf N ps x ++ [x]) i
          refine ⟨as, s8 _ _ hA, by rw [lA, List.length_map, sizeLine_eq]; omega, same_keep nG (s7.trans s8), ?_⟩
          rw [take_at hy, List.map_append]
          exact g7.push nu hA
        · obtain ⟨s7, g7⟩ := z
          rw [nvs_len, List.take_length] at g7
          obtain ⟨as, hA, lA, _⟩ := g7.at
          rw [List.length_map] at lA
          have few := few28 (n := N) (by omega) I6.ndp I6.rng
          refine ⟨_, G, bs, as, rfl, rfl, s7 _ _ hb6, hA, by rw [ls6.len hb6, lA, sizeLine_eq]; omega, fun B' nB => ?_⟩
          have s8 := same_upd (o := .lst (bs ++ as)) nB
          have lsB : Ls (heapOf s8) B' (ps ++ (nearOf N ps x ++ [x]).map fun (y : Nat) => ((y : Int), N)) := (ls6.mono s7).cat g7.ls (s7 _ _ hb6) hA nB
          have s68 := s7.trans s8
          have I8 := I6.next (del_sub.trans s68) (I6.dr.mono s68)
          have hc8 : heapOf s8 c = some (.lst (r.map V.int)) := del_sub _ _ I8.il
          have memr : (x : Int) ∈ r := I6.p.mem_iff.mpr (List.mem_map.mpr ⟨x, List.mem_range.mpr (by omega), rfl⟩)
          obtain ⟨j, hj, hno⟩ := ex_idx memr
          have hj2 : j < r.length := (List.getElem?_eq_some_iff.mp hj).1
          have lr : r.length = N.toNat := by rw [I6.p.length_eq, ran_len]
          refine ⟨_, rfl, .inl ⟨rfl, _, SqL.of hc8⟩, _, rfl, c, r.map V.int, .int (x : Int), j, .int (x : Int), rfl, rfl, SqL.of hc8, rfl, List.all_eq_true.mpr (fun v hv => by obtain ⟨i, _, rfl⟩ := List.mem_map.mp hv; rfl), by rw [List.getElem?_map, hj]; rfl, by show ((x : Int) == (x : Int)) = true; simp, fun m z' hm hz => ?_, _, _, rfl, rfl, ?_⟩
          · obtain ⟨i, hi, rfl⟩ := ints_val hz
            have := hno m hm i hi
            show ((i : Int) == (x : Int)) = false
            simpa using this
          refine ⟨_, rfl, _, rfl, _, rfl, c, _, rfl, SqL.of hc8, fun k1 m1 => ?_⟩
          have ej : ((j : Nat) : Int) + 1 = ((j + 1 : Nat) : Int) := rfl
          rw [ej, cut_take]
          have q1 := same_upd (o := .lst ((r.map V.int).take (j + 1))) m1
          refine ⟨_, rfl, by show 1 ≤ sizeLine; decide, fun k2 m2 => ?_⟩
          have q2 := same_upd (o := .lst [.int N]) m2
          refine ⟨k1, k2, _, _, rfl, rfl, q2 _ _ upd_same, upd_same, ?_, fun k3 m3 => ?_⟩
          · rw [List.length_take, List.length_map, sizeLine_eq]
            show _ + 1 ≤ _
            omega
          have q3 := same_upd (o := .lst ((r.map V.int).take (j + 1) ++ [.int N])) m3
          refine ⟨_, rfl, _, rfl, _, rfl, c, _, rfl, SqL.of ((q1.trans (q2.trans q3)) _ _ hc8), fun k4 m4 => ?_⟩
          rw [ej, cut_drop _ _ (by rw [List.length_map]; omega)]
          have q4 := same_upd (o := .lst ((r.map V.int).drop (j + 1))) m4
          refine ⟨k3, k4, _, _, rfl, rfl, q4 _ _ upd_same, upd_same, ?_, fun k5 m5 => ?_⟩
          · rw [List.length_append, List.length_take, List.length_drop, List.length_map, sizeLine_eq]
            show _ + 1 + _ ≤ _
            omega
          have q5 := same_upd (o := .lst ((r.map V.int).take (j + 1) ++ [.int N] ++ (r.map V.int).drop (j + 1))) m5
          have q15 := ((q1.trans q2).trans q3).trans (q4.trans q5)
          have I9 := I8.next (del_sub.trans q15) (I8.dr.mono q15)
          have dr8 := I8.dr
          have Bd : B' ≠ d := (I6.dr.mono s7).ne nB
          have k5d : k5 ≠ d := (I8.dr.mono (((q1.trans q2).trans q3).trans q4)).ne m5
          refine ⟨_, rfl, _, _, rfl, rfl, N + 1, ps ++ (nearOf N ps x ++ [x]).map (fun (y : Nat) => ((y : Int), N)), r.take (j + 1) ++ [N] ++ r.drop (j + 1), B', k5, _, _, _, _, rfl, I9.sm, I9.dr, (lsB.mono q15).del I9.dr Bd, IL.del (by show (upd _ _ _) _ = _; rw [upd_same, List.map_append, List.map_append, List.map_take, List.map_drop]; rfl) k5d, by have := I6.N4; omega, by omega, ?_, ?_, ?_⟩
          · refine List.nodup_append.mpr ⟨I6.ndp, List.pairwise_map.mpr (List.Pairwise.imp (fun {a b} ne e => ne (by have := (Prod.ext_iff.mp e).1; dsimp only at this; omega)) nd6), fun z h1 z' h2 e => ?_⟩
            subst e
            obtain ⟨y, _, rfl⟩ := List.mem_map.mp h2
            have := I6.rng _ h1
            dsimp only at this
            omega
          · intro z hz
            rcases List.mem_append.mp hz with h | h
            · have := I6.rng z h
              omega
            · obtain ⟨y, hy, rfl⟩ := List.mem_map.mp h
              have := lt6 y hy
              dsimp only
              omega
          · have e : (N + 1).toNat = N.toNat + 1 := by have := I6.N4; omega
            have eN : ((N.toNat : Nat) : Int) = N := by have := I6.N4; omega
            rw [e, ran_succ, eN]
            refine (perm_put r N (j + 1)).trans ?_
            refine List.Perm.trans (.cons N I6.p) ?_
            exact (List.perm_append_singleton N (ran N.toNat)).symm
      · rw [show (u == 1) = false by simpa using eu]
        refine iteF ?_
        have I6 := I3.next s35 dr5
        obtain ⟨bs, hb6, _⟩ := id (I6.ls.mono del_sub)
        have ls6 := I6.ls.mono del_sub
        refine ⟨_, rfl, _, rfl, t', rfl, ⟨_, SqL.of ht5⟩, fun G nG => ?_⟩
        refine lc_list (K := K) (a := t') (xs := nvs (nearOf N ps x)) (fun i H' => Same H5 H' ∧ Grow H' G (((nearOf N ps x).take i).map fun (y : Nat) => ((y : Int), N))) ⟨same_upd nG, [], upd_same, rfl, fun z hz => by cases hz⟩ (fun i H' _ z => SqL.of (z.1 _ _ ht5)) (fun i v H' hi z => ?_) (fun H7 z => ?_)
        · obtain ⟨s7, g7⟩ := z
          obtain ⟨y, hy, rfl⟩ := nvs_val hi
          obtain ⟨as, hA, lA, _⟩ := g7.at
          refine ⟨rfl, _, rfl, _, rfl, (by show 2 ≤ sizeLine; decide), fun u nu => ?_⟩
          have s8 : Same H' (upd H' u (.tup [.int (y : Int), .int N])) := same_upd nu
          have := take_room (nearOf N ps x) i
          refine ⟨as, s8 _ _ hA, by rw [lA, List.length_map, sizeLine_eq]; omega, same_keep nG (s7.trans s8), ?_⟩
          rw [take_at hy, List.map_append]
          exact g7.push nu hA
        · obtain ⟨s7, g7⟩ := z
          rw [nvs_len, List.take_length] at g7
          obtain ⟨as, hA, lA, _⟩ := g7.at
          rw [List.length_map] at lA
          have few := few28 (n := N) (by omega) I6.ndp I6.rng
          refine ⟨_, G, bs, as, rfl, rfl, s7 _ _ hb6, hA, by rw [ls6.len hb6, lA, sizeLine_eq]; omega, fun B' nB => ?_⟩
          have s8 := same_upd (o := .lst (bs ++ as)) nB
          have lsB : Ls (heapOf s8) B' (ps ++ (nearOf N ps x).map fun (y : Nat) => ((y : Int), N)) := (ls6.mono s7).cat g7.ls (s7 _ _ hb6) hA nB
          have s68 := s7.trans s8
          have I8 := I6.next (del_sub.trans s68) (I6.dr.mono s68)
          have hc8 : heapOf s8 c = some (.lst (r.map V.int)) := del_sub _ _ I8.il
          have memr : (x : Int) ∈ r := I6.p.mem_iff.mpr (List.mem_map.mpr ⟨x, List.mem_range.mpr (by omega), rfl⟩)
          obtain ⟨j, hj, hno⟩ := ex_idx memr
          have hj2 : j < r.length := (List.getElem?_eq_some_iff.mp hj).1
          have lr : r.length = N.toNat := by rw [I6.p.length_eq, ran_len]
          refine ⟨_, rfl, .inl ⟨rfl, _, SqL.of hc8⟩, _, rfl, c, r.map V.int, .int (x : Int), j, .int (x : Int), rfl, rfl, SqL.of hc8, rfl, List.all_eq_true.mpr (fun v hv => by obtain ⟨i, _, rfl⟩ := List.mem_map.mp hv; rfl), by rw [List.getElem?_map, hj]; rfl, by show ((x : Int) == (x : Int)) = true; simp, fun m z' hm hz => ?_, _, _, rfl, rfl, ?_⟩
          · obtain ⟨i, hi, rfl⟩ := ints_val hz
            have := hno m hm i hi
            show ((i : Int) == (x : Int)) = false
            simpa using this
          refine ⟨_, rfl, _, rfl, _, rfl, c, _, rfl, SqL.of hc8, fun k1 m1 => ?_⟩
          have ej : ((j : Nat) : Int) + 1 = ((j + 1 : Nat) : Int) := rfl
          rw [ej, cut_take]
          have q1 := same_upd (o := .lst ((r.map V.int).take (j + 1))) m1
          refine ⟨_, rfl, by show 1 ≤ sizeLine; decide, fun k2 m2 => ?_⟩
          have q2 := same_upd (o := .lst [.int N]) m2
          refine ⟨k1, k2, _, _, rfl, rfl, q2 _ _ upd_same, upd_same, ?_, fun k3 m3 => ?_⟩
          · rw [List.length_take, List.length_map, sizeLine_eq]
            show _ + 1 ≤ _
            omega
          have q3 := same_upd (o := .lst ((r.map V.int).take (j + 1) ++ [.int N])) m3
          refine ⟨_, rfl, _, rfl, _, rfl, c, _, rfl, SqL.of ((q1.trans (q2.trans q3)) _ _ hc8), fun k4 m4 => ?_⟩
          rw [ej, cut_drop _ _ (by rw [List.length_map]; omega)]
          have q4 := same_upd (o := .lst ((r.map V.int).drop (j + 1))) m4
          refine ⟨k3, k4, _, _, rfl, rfl, q4 _ _ upd_same, upd_same, ?_, fun k5 m5 => ?_⟩
          · rw [List.length_append, List.length_take, List.length_drop, List.length_map, sizeLine_eq]
            show _ + 1 + _ ≤ _
            omega
          have q5 := same_upd (o := .lst ((r.map V.int).take (j + 1) ++ [.int N] ++ (r.map V.int).drop (j + 1))) m5
          have q15 := ((q1.trans q2).trans q3).trans (q4.trans q5)
          have I9 := I8.next (del_sub.trans q15) (I8.dr.mono q15)
          have dr8 := I8.dr
          have Bd : B' ≠ d := (I6.dr.mono s7).ne nB
          have k5d : k5 ≠ d := (I8.dr.mono (((q1.trans q2).trans q3).trans q4)).ne m5
          refine ⟨_, rfl, _, _, rfl, rfl, N + 1, ps ++ (nearOf N ps x).map (fun (y : Nat) => ((y : Int), N)), r.take (j + 1) ++ [N] ++ r.drop (j + 1), B', k5, _, _, _, _, rfl, I9.sm, I9.dr, (lsB.mono q15).del I9.dr Bd, IL.del (by show (upd _ _ _) _ = _; rw [upd_same, List.map_append, List.map_append, List.map_take, List.map_drop]; rfl) k5d, by have := I6.N4; omega, by omega, ?_, ?_, ?_⟩
          · refine List.nodup_append.mpr ⟨I6.ndp, List.pairwise_map.mpr (List.Pairwise.imp (fun {a b} ne e => ne (by have := (Prod.ext_iff.mp e).1; dsimp only at this; omega)) ndn), fun z h1 z' h2 e => ?_⟩
            subst e
            obtain ⟨y, _, rfl⟩ := List.mem_map.mp h2
            have := I6.rng _ h1
            dsimp only at this
            omega
          · intro z hz
            rcases List.mem_append.mp hz with h | h
            · have := I6.rng z h
              omega
            · obtain ⟨y, hy, rfl⟩ := List.mem_map.mp h
              have := ltn y hy
              dsimp only
              omega
          · have e : (N + 1).toNat = N.toNat + 1 := by have := I6.N4; omega
            have eN : ((N.toNat : Nat) : Int) = N := by have := I6.N4; omega
            rw [e, ran_succ, eN]
            refine (perm_put r N (j + 1)).trans ?_
            refine List.Perm.trans (.cons N I6.p) ?_
            exact (List.perm_append_singleton N (ran N.toNat)).symm
    · obtain ⟨N, ps, r, b, c, o6, o7, o8, o10, rfl, I1⟩ := h
      have N4 := I1.N4; have N7 := I1.N7
      refine ⟨_, rfl, _, rfl, b, ps, rfl, I1.ls.mono del_sub, I1.ndp, fun H2 pA rs s2 np lp pw hm _ => ⟨_, rfl, (by show 3 ≤ sizeLine; decide), fun R nR => ?_⟩⟩
      have dr2 := I1.dr.mono s2
      have pd := I1.dr.ne np
      have I2 := I1.next (del_sub.trans s2) dr2
      obtain ⟨x1, x2, x3⟩ := cs_up (n := N) I2.sm dr2 (lp.del dr2 pd) I2.il nR
      exact k _ _ _ _ _ x1 x2 x3 ⟨⟨pw, fun z hz => I1.rng z ((hm z).mp hz)⟩, by omega, I1.p⟩ (by omega) N7
end
end K0
set_option Elab.async false
set_option linter.all false
set_option maxRecDepth 100000
set_option maxHeartbeats 4000000
namespace K0
open PySem PySem.Spec PyProof.Rows L2
section
variable {P : Program} {w : World} {K : PySem.W.Frag} {mg : Str → Option Value} {base : Heap} {f : Addr} {fd : FuncData}
abbrev s_ro : Stmt := top 64
abbrev s_fa : Stmt := top 66
/-- _law_row -/
def spRo : Sp := fun vs H Q _ => ∃ (d : Addr) (n : Int), vs = [.ref d, .int n] ∧ 0 ≤ n ∧ n ≤ 16 ∧ DrO H d ∧ ∀ H' a r, Same (del H d) H' → DrO H' d → H a = none → IL (del H' d) a r → r.Perm (ran n.toNat) → Q (.ref a) H'
theorem sc_ro : FnScope ["_law_draws_here", "_law_many", "_law_rest", "_law_x", "_law_row_here", "_law_k", "_law_which", "_law_j"] ["_law_draws_here", "_law_many"] (defScope s_ro) := ⟨rfl, rfl, rfl, by decide +kernel, rfl, by decide +kernel, by decide +kernel⟩
structure RoI (H H' : Hp) (d c D : Addr) (n : Nat) (R W : List Int) : Prop where
  sm : Same (del H d) H'
  dr : DrO H' d
  il : IL (del H' d) c R
  iw : IL (del H' d) D W
  cD : c ≠ D
  p : (W ++ R).Perm (ran n)
theorem ok_ro (F : Fun K "_law_row" "_law_row" s_ro f fd) (B : Blt2 mg) (TK : Df P w K mg base "_law_take" 1 ["_law_draws_here", "_law_many"] spTk) : FnOk P w K mg base (L2.CX P w) 2 f fd ["_law_draws_here", "_law_many"] spRo := by
  refine F.okX sc_ro (fun vs H Q E h => ?_) (fun cdv A outer s H vs Q E hr h => ?_)
  · obtain ⟨d, n, rfl, _⟩ := h
    rfl
  · obtain ⟨d, n, rfl, n0, n16, dr, k⟩ := h
    have nd := sc_ro.nd
    have r1 : Room 1 _ := hr.mono (by decide)
    refine ⟨_, pss_cons (ps_set (i := 2) nd rfl (.inr rfl) (pe_lc (own := [("_law_x", 3)]) (g := gName 3) (tt := tYes) (te := tVar 3) rfl nd (pi_range1 (by rfl) B.range (pa_cons (pv 1) pa_nil))
        (blkOk_by (N := ["_law_draws_here", "_law_many", "_law_rest", "_law_x", "_law_row_here", "_law_k", "_law_which", "_law_j"]) (sc := defScope s_ro) (by decide +kernel)) (fun _ _ _ _ _ => pg_name (i := 3) nd rfl (.inl rfl)) (fun _ _ _ _ _ => pts_nil) (fun _ _ _ _ _ => pv 3)))
      (pss_cons (ps_set (i := 4) nd rfl (.inl rfl) (pe_lst pa_nil))
      (pss_cons (ps_for (passes_of rfl) rfl (pi_range1 (by rfl) B.range (pa_cons (pv 1) pa_nil)) (pg_name (i := 5) nd rfl (.inl rfl))
        (pss_cons (ps_set (i := 6) nd rfl (.inr rfl) (pe_df TK r1 (by rfl) passUp (pa_cons (pv 0) (pa_cons (pe_callB c_len (by rfl) B.len PySem.boot_len (pa_cons (pv 2) pa_nil)) pa_nil))))
        (pss_cons (ps_expr (pe_lapp (pv 4) (pa_cons (pe_ix ix_list (pv 2) (pv 6) (fun _ _ => rfl)) pa_nil)))
        (pss_one (ps_set (i := 2) nd rfl (.inr rfl) (pe_lc (own := [("_law_j", 7)]) (g := gName 7) (tt := tTest (tOp rNe (tVar 7) (tVar 6))) (te := tOp (rIxL K) (tVar 2) (tVar 7)) rfl nd
          (pi_range1 (by rfl) B.range (pa_cons (pe_callB c_len (by rfl) B.len PySem.boot_len (pa_cons (pv 2) pa_nil)) pa_nil)) (blkOk_by (N := ["_law_draws_here", "_law_many", "_law_rest", "_law_x", "_law_row_here", "_law_k", "_law_which", "_law_j"]) (sc := defScope s_ro) (by decide +kernel)) (fun _ _ _ _ _ => pg_name (i := 7) nd rfl (.inl rfl))
          (fun _ _ _ _ _ => pts_one (pt_cmpR op_ne (pv 7) (pv 6) (by rfl))) (fun _ _ _ _ _ => pe_ix ix_list (pv 2) (pv 7) (fun _ _ => rfl))))))))
      (pss_one (ps_ret (pv 4))))), ?_⟩
    refine ⟨_, rfl, n, rfl, by omega, by omega, fun C0 nC0 => ?_⟩
    refine lc_range (lo := 0) (n := n.toNat) (fun i H' => Same H H' ∧ IL H' C0 (ran i)) ⟨same_upd nC0, upd_same⟩ (fun i H' hi z => ?_) (fun H1 z => ?_)
    · rw [Int.zero_add]
      exact ⟨rfl, _, rfl, ran_step nC0 hi (by omega) z⟩
    obtain ⟨s1, hC0⟩ := z
    have dr1 := dr.mono s1
    have C0d := dr.ne nC0
    refine ⟨by show 0 ≤ sizeLine; exact Nat.zero_le _, fun D nD => ?_⟩
    have s2 := same_upd (o := .lst []) nD
    have Dd := dr1.ne nD
    have hD0 : H D = none := s1.free nD
    have C0D : C0 ≠ D := fun e => by rw [e] at hC0; rw [show H1 D = _ from hC0] at nD; cases nD
    let Pv : Nat → L2.St → Hp → Prop := fun i σ H' => ∃ (c : Addr) (o5 o6 : Option V) (R W : List Int), σ = [some (.ref d), some (.int n), some (.ref c), none, some (.ref D), o5, o6, none] ∧ RoI H H' d c D n.toNat R W ∧ R.length + i = n.toNat
    refine ⟨_, rfl, n, rfl, by omega, by omega, for_range (n := n.toNat) Pv ⟨C0, none, none, ran n.toNat, [], rfl, ⟨del_sub.trans (s1.trans s2), dr1.mono s2, IL.del (s2 _ _ hC0) C0d, IL.del upd_same Dd, C0D, by rw [List.nil_append]⟩, by rw [ran_len]; rfl⟩ (fun i σ H2 hi h => ?_) (fun σ H2 h => ?_)⟩
    · obtain ⟨c, o5, o6, R, W, rfl, I, lR⟩ := h
      have hc := del_sub _ _ I.il
      have lRW : R.length + W.length = n.toNat := by
        have := I.p.length_eq
        rw [List.length_append, ran_len] at this
        omega
      refine ⟨_, rfl, _, rfl, c, _, rfl, .inl (SqL.of hc), d, _, rfl, by rw [List.length_map]; omega, I.dr, fun wv H3 w0 w1 s3 dr3 => ?_⟩
      rw [List.length_map] at w1
      obtain ⟨wh, rfl⟩ := Int.eq_ofNat_of_zero_le w0
      have hw : wh < R.length := by omega
      have sm3 := sd_trans I.sm s3
      have il3 := (same_del s3) _ _ I.il
      have iw3 := (same_del s3) _ _ I.iw
      have hc3 : H3 c = some (.lst (R.map V.int)) := del_sub _ _ il3
      have hD3 : H3 D = some (.lst (W.map V.int)) := del_sub _ _ iw3
      have at_ : ∀ {i : Nat}, i < R.length → atI (R.map V.int) (i : Int) = some (.int (R.getD i 0)) := fun {i} hi => atI_nat (by rw [List.getElem?_map, List.getD_eq_getElem?_getD, List.getElem?_eq_getElem hi]; rfl)
      refine ⟨_, rfl, .inl ⟨rfl, _, SqL.of hD3⟩, _, rfl, _, rfl, c, _, _, _, rfl, rfl, SqL.of hc3, at_ hw, D, _, _, rfl, rfl, hD3, by rw [List.length_map, sizeLine_eq]; omega, ?_⟩
      have sm4 := sd_upd (o := .lst (W.map V.int ++ [.int (R.getD wh 0)])) sm3 hD0 Dd
      have dr4 : DrO (upd H3 D (.lst (W.map V.int ++ [.int (R.getD wh 0)]))) d := dr3.upd Dd
      have hc4 : (upd H3 D (.lst (W.map V.int ++ [.int (R.getD wh 0)]))) c = some (.lst (R.map V.int)) := by rw [upd_ne I.cD]; exact hc3
      have hD4 : (upd H3 D (.lst (W.map V.int ++ [.int (R.getD wh 0)]))) D = some (.lst ((W ++ [R.getD wh 0]).map V.int)) := by rw [upd_same, List.map_append]; rfl
      let Wk : Nat → List Int := fun i => (((List.range R.length).take i).filter fun k => !decide (k = wh)).map fun k => R.getD k 0
      refine ⟨_, rfl, c, _, rfl, .inl (SqL.of hc4), _, rfl, by rw [List.length_map]; omega, by rw [List.length_map]; omega, fun E nE => ?_⟩
      rw [List.length_map, Int.toNat_natCast]
      refine lc_range (lo := 0) (n := R.length) (fun i H' => Same (upd H3 D (.lst (W.map V.int ++ [.int (R.getD wh 0)]))) H' ∧ IL H' E (Wk i)) ⟨same_upd nE, upd_same⟩ (fun i H' hi z => ?_) (fun H' z => ?_)
      · obtain ⟨sm, hE⟩ := z
        rw [Int.zero_add]
        have eW : Wk (i + 1) = Wk i ++ (if i = wh then [] else [R.getD i 0]) := by
          show List.map _ _ = _
          rw [filter_take _ _ hi, List.map_append]
          congr 1
          by_cases e : i = wh <;> simp [e]
        have lW : (Wk i).length ≤ R.length := by
          show (List.map _ _).length ≤ _
          rw [List.length_map]
          refine Nat.le_trans (List.length_filter_le _ _) ?_
          rw [List.length_take, List.length_range]
          exact Nat.min_le_right _ _
        refine ⟨rfl, _, rfl, _, rfl, rfl, _, rfl, ?_⟩
        rw [dec_int]
        by_cases e : i = wh
        · rw [show (!(((i : Nat) : Int) == ((wh : Nat) : Int))) = false by simp [e]]
          refine iteF ⟨sm, ?_⟩
          rw [eW, if_pos e, List.append_nil]
          exact hE
        · rw [show (!(((i : Nat) : Int) == ((wh : Nat) : Int))) = true by simp; omega]
          refine iteT ⟨_, rfl, _, rfl, c, _, _, _, rfl, rfl, SqL.of (sm _ _ hc4), at_ hi, _, hE, by rw [List.length_map, sizeLine_eq]; omega, same_keep nE sm, ?_⟩
          show (upd _ _ _) _ = _
          rw [upd_same, eW, if_neg e, List.map_append]
          rfl
      · obtain ⟨sm, hE⟩ := z
        have eR : Wk R.length = ((List.range R.length).filter fun k => !decide (k = wh)).map fun k => R.getD k 0 := by
          show List.map _ _ = _
          rw [List.take_of_length_le (by rw [List.length_range]; exact Nat.le_refl _)]
        have pk := perm_pick R hw
        rw [← eR] at pk
        have lE := pk.length_eq
        rw [List.length_cons] at lE
        have Ed := dr4.ne nE
        have ED : E ≠ D := fun e => by rw [e, hD4] at nE; cases nE
        refine ⟨E, _, _, Wk R.length, W ++ [R.getD wh 0], rfl, ⟨sd_trans sm4 (del_sub.trans sm), dr4.mono sm, IL.del hE Ed, IL.del (sm _ _ hD4) Dd, ED, ?_⟩, by omega⟩
        rw [List.append_assoc]
        exact (List.Perm.append_left W pk).trans I.p
    · obtain ⟨c, o5, o6, R, W, rfl, I, lR⟩ := h
      have : R = [] := List.length_eq_zero_iff.mp (by omega)
      subst this
      have p := I.p
      rw [List.append_nil] at p
      exact ⟨_, rfl, k H2 D W I.sm I.dr hD0 I.iw p⟩
end
end K0
set_option Elab.async false
set_option linter.all false
set_option maxRecDepth 100000
set_option maxHeartbeats 4000000
namespace K0
open PySem PySem.Spec PyProof.Rows L2
section
variable {P : Program} {w : World} {K : PySem.W.Frag} {mg : Str → Option Value} {base : Heap} {f : Addr} {fd : FuncData}
abbrev s_fr : Stmt := top 65
/-- _law_falling -/
def spFa : Sp := fun vs H Q _ => ∃ (d : Addr) (n : Int), vs = [.ref d, .int n] ∧ 2 ≤ n ∧ n ≤ 16 ∧ DrO H d ∧ OutCs H d 2 n Q
theorem sc_fa : FnScope ["_law_draws_here", "_law_many", "_law_numbers", "_law_pairs", "_law_x", "_law_y"] ["_law_draws_here", "_law_many"] (defScope s_fa) := ⟨rfl, rfl, rfl, by decide +kernel, rfl, by decide +kernel, by decide +kernel⟩
theorem ok_fa (F : Fun K "_law_falling" "_law_falling" s_fa f fd) (B : Blt2 mg) (RO : Df P w K mg base "_law_row" 2 ["_law_draws_here", "_law_many"] spRo) : FnOk P w K mg base (L2.CX P w) 3 f fd ["_law_draws_here", "_law_many"] spFa := by
  refine F.okX sc_fa (fun vs H Q E h => ?_) (fun cdv A outer s H vs Q E hr h => ?_)
  · obtain ⟨d, n, rfl, _⟩ := h
    rfl
  · obtain ⟨d, n, rfl, n1, n16, dr, k⟩ := h
    have nd := sc_fa.nd
    have r2 : Room 2 _ := hr.mono (by decide)
    refine ⟨_, pss_cons (ps_set (i := 2) nd rfl (.inl rfl) (pe_df RO r2 (by rfl) passUp (pa_cons (pv 0) (pa_cons (pv 1) pa_nil))))
      (pss_cons (ps_set (i := 3) nd rfl (.inl rfl) (pe_lst pa_nil))
      (pss_cons (ps_for (passes_of rfl) rfl (pi_range1 (by rfl) B.range (pa_cons (pv 1) pa_nil)) (pg_name (i := 4) nd rfl (.inl rfl))
        (pss_one (ps_for (passes_of rfl) rfl (pi_range2 (by rfl) B.range (pa_cons (pe_op op_add (pv 4) pe_int) (pa_cons (pv 1) pa_nil))) (pg_name (i := 5) nd rfl (.inl rfl))
          (pss_one (ps_if (pt_cmpR op_gt (pe_ix ix_list (pv 2) (pv 4) (fun _ _ => rfl)) (pe_ix ix_list (pv 2) (pv 5) (fun _ _ => rfl)) (by rfl)) (pss_one (ps_expr (pe_lapp (pv 3) (pa_cons (pe_tup (pa_cons (pv 4) (pa_cons (pv 5) pa_nil))) pa_nil)))) pss_nil)))))
      (pss_one (ps_ret (pe_lst (pa_cons (pv 1) (pa_cons (pv 3) (pa_cons (pe_lc (own := [("_law_x", 4)]) (g := gName 4) (tt := tYes) (te := tVar 4) rfl nd (pi_range1 (by rfl) B.range (pa_cons (pv 1) pa_nil))
        (blkOk_by (N := ["_law_draws_here", "_law_many", "_law_numbers", "_law_pairs", "_law_x", "_law_y"]) (sc := defScope s_fa) (by decide +kernel)) (fun _ _ _ _ _ => pg_name (i := 4) nd rfl (.inl rfl)) (fun _ _ _ _ _ => pts_nil) (fun _ _ _ _ _ => pv 4)) pa_nil)))))))), ?_⟩
    refine ⟨_, rfl, _, rfl, d, n, rfl, by omega, n16, dr, fun H1 a r s1 dr1 na ha pr => ?_⟩
    have lr : r.length = n.toNat := by rw [pr.length_eq, ran_len]
    have ha1 : H1 a = some (.lst (r.map V.int)) := del_sub _ _ ha
    have at_ : ∀ {i : Nat}, i < r.length → atI (r.map V.int) (i : Int) = some (.int (r.getD i 0)) := fun {i} hi => atI_nat (by rw [List.getElem?_map, List.getD_eq_getElem?_getD, List.getElem?_eq_getElem hi]; rfl)
    refine ⟨by show 0 ≤ sizeLine; exact Nat.zero_le _, fun D nD => ?_⟩
    have Dd := dr1.ne nD
    let PP : Pr → Prop := fun z => r.getD z.2.toNat 0 < r.getD z.1.toNat 0
    let P1 : Nat → L2.St → Hp → Prop := fun i σ H' => ∃ o4 o5 rs, σ = [some (.ref d), some (.int n), some (.ref a), some (.ref D), o4, o5] ∧ Same H1 H' ∧ Grow H' D rs ∧ Lx n PP i (i + 1) rs
    refine ⟨_, rfl, n, rfl, by omega, by omega, for_range (n := n.toNat) P1 ⟨none, none, [], rfl, same_upd nD, ⟨[], upd_same, rfl, fun z hz => by cases hz⟩, by simpa using Lx.start⟩ (fun i σ H' hi h => ?_) (fun σ H' h => ?_)⟩
    · obtain ⟨o4, o5, rs, rfl, sm, g, lx⟩ := h
      rw [Int.zero_add]
      let P2 : Nat → L2.St → Hp → Prop := fun t σ H' => ∃ o5 rs, σ = [some (.ref d), some (.int n), some (.ref a), some (.ref D), some (.int (i : Int)), o5] ∧ Same H1 H' ∧ Grow H' D rs ∧ Lx n PP i ((i : Int) + 1 + t) rs
      refine ⟨_, rfl, _, _, rfl, rfl, _, rfl, _, _, rfl, ⟨by omega, by omega, by omega, by omega⟩, for_range (n := (n - ((i : Int) + 1)).toNat) P2 ⟨o5, rs, rfl, sm, g, by simpa using lx⟩ (fun t σ H2 ht h => ?_) (fun σ H2 h => ?_)⟩
      · obtain ⟨o5, rs, rfl, sm, g, lx⟩ := h
        have e0 : (i : Int) + 1 + t = ((i + 1 + t : Nat) : Int) := by omega
        rw [e0]
        have e1 : ((i + 1 + t : Nat) : Int) + 1 = (i : Int) + 1 + ((t + 1 : Nat) : Int) := by omega
        rw [e0] at lx
        refine ⟨_, rfl, _, rfl, a, _, _, _, rfl, rfl, SqL.of (sm _ _ ha1), at_ (by omega), _, rfl, _, rfl, a, _, _, _, rfl, rfl, SqL.of (sm _ _ ha1), at_ (by omega), _, _, rfl, rfl, _, rfl, ?_⟩
        by_cases lt : r.getD (i + 1 + t) 0 < r.getD i 0
        · rw [decide_eq_true lt]
          obtain ⟨xs, hx, lxs, _⟩ := g.at
          have few := lx.cl.few (by omega)
          refine iteT ⟨_, rfl, .inl ⟨rfl, xs, SqL.of hx⟩, _, rfl, _, rfl, (by show 2 ≤ sizeLine; decide), fun u nu => ?_⟩
          have s4 : Same H2 (upd H2 u (.tup [.int (i : Int), .int ((i + 1 + t : Nat) : Int)])) := same_upd nu
          refine ⟨D, xs, _, rfl, rfl, s4 _ _ hx, by rw [sizeLine_eq]; omega, _, rs ++ [((i : Int), ((i + 1 + t : Nat) : Int))], rfl, same_keep nD (sm.trans s4), g.push nu hx, ?_⟩
          have := lx.add (show PP ((i : Int), ((i + 1 + t : Nat) : Int)) from lt) ⟨by omega, by omega, by omega⟩
          rw [e1] at this
          exact this
        · rw [decide_eq_false lt]
          refine iteF ⟨_, rs, rfl, sm, g, ?_⟩
          have := lx.skip (show ¬ PP ((i : Int), ((i + 1 + t : Nat) : Int)) from lt)
          rw [e1] at this
          exact this
      · obtain ⟨o5, rs, rfl, sm, g, lx⟩ := h
        rw [show (i : Int) + 1 + ((n - ((i : Int) + 1)).toNat : Int) = n by omega] at lx
        refine ⟨_, _, rs, rfl, sm, g, ?_⟩
        have := lx.row
        rw [show (i : Int) + 2 = (i : Int) + 1 + 1 by omega] at this
        exact_mod_cast this
    · obtain ⟨o4, o5, rs, rfl, sm, g, lx⟩ := h
      rw [show ((n.toNat : Nat) : Int) = n by omega] at lx
      refine ⟨_, rfl, _, rfl, _, rfl, n, rfl, by omega, by omega, fun G nG => ?_⟩
      refine lc_range (lo := 0) (n := n.toNat) (fun i H2 => Same H' H2 ∧ IL H2 G (ran i)) ⟨same_upd nG, upd_same⟩ (fun i H2 hi z => ?_) (fun H2 z => ?_)
      · rw [Int.zero_add]
        exact ⟨rfl, _, rfl, ran_step nG hi (by omega) z⟩
      · obtain ⟨s4, hG⟩ := z
        refine ⟨(by show 3 ≤ sizeLine; decide), fun R nR => ?_⟩
        have dr2 := dr1.mono sm
        have dr4 := dr2.mono s4
        have Gd := dr2.ne nG
        obtain ⟨x1, x2, x3⟩ := cs_up (n := n) (sd_trans s1 (del_sub.trans (sm.trans s4))) dr4 ((g.ls.mono s4).del dr4 Dd) (hG.del Gd) nR
        exact k _ _ _ _ _ x1 x2 x3 ⟨lx.cl, by omega, .refl _⟩ (by omega) (Int.le_refl _)
end
end K0
set_option Elab.async false
set_option linter.all false
set_option maxRecDepth 100000
set_option maxHeartbeats 4000000
namespace K0
open PySem PySem.Spec PyProof.Rows L2
section
variable {P : Program} {w : World} {K : PySem.W.Frag} {mg : Str → Option Value} {base : Heap} {f : Addr} {fd : FuncData}
/-- _law_free -/
def spFr : Sp := fun vs H Q _ => ∃ (d : Addr) (n m : Int), vs = [.ref d, .int n, .int m] ∧ 2 ≤ n ∧ n ≤ 16 ∧ DrO H d ∧ OutCs H d 2 n Q
theorem sc_fr : FnScope ["_law_draws_here", "_law_many", "_law_left", "_law_pairs", "_law_x", "_law_y"] ["_law_draws_here", "_law_many", "_law_left"] (defScope s_fr) := ⟨rfl, rfl, rfl, by decide +kernel, rfl, by decide +kernel, by decide +kernel⟩
theorem ok_fr (F : Fun K "_law_free" "_law_free" s_fr f fd) (B : Blt2 mg) (TK : Df P w K mg base "_law_take" 1 ["_law_draws_here", "_law_many"] spTk) : FnOk P w K mg base (L2.CX P w) 2 f fd ["_law_draws_here", "_law_many", "_law_left"] spFr := by
  refine F.okX sc_fr (fun vs H Q E h => ?_) (fun cdv A outer s H vs Q E hr h => ?_)
  · obtain ⟨d, n, m, rfl, _⟩ := h
    rfl
  · obtain ⟨d, n, m, rfl, n1, n16, dr, k⟩ := h
    have nd := sc_fr.nd
    have r1 : Room 1 _ := hr.mono (by decide)
    refine ⟨_, pss_cons (ps_set (i := 3) nd rfl (.inl rfl) (pe_lst pa_nil))
      (pss_cons (ps_for (passes_of rfl) rfl (pi_range1 (by rfl) B.range (pa_cons (pv 1) pa_nil)) (pg_name (i := 4) nd rfl (.inl rfl))
        (pss_one (ps_for (passes_of rfl) rfl (pi_range2 (by rfl) B.range (pa_cons (pe_op op_add (pv 4) pe_int) (pa_cons (pv 1) pa_nil))) (pg_name (i := 5) nd rfl (.inl rfl))
          (pss_one (ps_if (PW.pt (pw_and (PW.pt (pw_or (pt_cmpR op_eq (pv 2) pe_int (nomark _)) (pw_or1 (pt_chain op_lt op_le (pv 4) (pv 2) (pv 5))))) (pw_and1 (pt_cmpR op_eq (pe_df TK r1 (by rfl) passUp (pa_cons (pv 0) (pa_cons pe_int pa_nil))) pe_int (nomark _)))))
            (pss_one (ps_expr (pe_lapp (pv 3) (pa_cons (pe_tup (pa_cons (pv 4) (pa_cons (pv 5) pa_nil))) pa_nil)))) pss_nil)))))
      (pss_one (ps_ret (pe_lst (pa_cons (pv 1) (pa_cons (pv 3) (pa_cons (pe_lc (own := [("_law_x", 4)]) (g := gName 4) (tt := tYes) (te := tVar 4) rfl nd (pi_range1 (by rfl) B.range (pa_cons (pv 1) pa_nil))
        (blkOk_by (N := ["_law_draws_here", "_law_many", "_law_left", "_law_pairs", "_law_x", "_law_y"]) (sc := defScope s_fr) (by decide +kernel)) (fun _ _ _ _ _ => pg_name (i := 4) nd rfl (.inl rfl)) (fun _ _ _ _ _ => pts_nil) (fun _ _ _ _ _ => pv 4)) pa_nil))))))), ?_⟩
    refine ⟨by show 0 ≤ sizeLine; exact Nat.zero_le _, fun D nD => ?_⟩
    have Dd := dr.ne nD
    let P1 : Nat → L2.St → Hp → Prop := fun i σ H' => ∃ o4 o5 rs P, σ = [some (.ref d), some (.int n), some (.int m), some (.ref D), o4, o5] ∧ Same (del H d) H' ∧ DrO H' d ∧ Grow (del H' d) D rs ∧ Lx n P i (i + 1) rs
    refine ⟨_, rfl, n, rfl, by omega, by omega, for_range (n := n.toNat) P1 ⟨none, none, [], fun _ => True, rfl, sd_upd del_sub nD Dd, dr.upd Dd, ⟨[], by rw [del_ne Dd, upd_same]; rfl, rfl, fun z hz => by cases hz⟩, by simpa using Lx.start⟩ (fun i σ H' hi h => ?_) (fun σ H' h => ?_)⟩
    · obtain ⟨o4, o5, rs, PP, rfl, sm, dr', g, lx⟩ := h
      rw [Int.zero_add]
      let P2 : Nat → L2.St → Hp → Prop := fun t σ H' => ∃ o5 rs P, σ = [some (.ref d), some (.int n), some (.int m), some (.ref D), some (.int (i : Int)), o5] ∧ Same (del H d) H' ∧ DrO H' d ∧ Grow (del H' d) D rs ∧ Lx n P i ((i : Int) + 1 + t) rs
      refine ⟨_, rfl, _, _, rfl, rfl, _, rfl, _, _, rfl, ⟨by omega, by omega, by omega, by omega⟩, for_range (n := (n - ((i : Int) + 1)).toNat) P2 ⟨o5, rs, PP, rfl, sm, dr', g, by simpa using lx⟩ (fun t σ H2 ht h => ?_) (fun σ H2 h => ?_)⟩
      · obtain ⟨o5, rs, PP, rfl, sm, dr', g, lx⟩ := h
        have r' : 0 ≤ (i : Int) ∧ (i : Int) < (i : Int) + 1 + t ∧ (i : Int) + 1 + t < n := by omega
        have e1 : (i : Int) + 1 + t + 1 = (i : Int) + 1 + ((t + 1 : Nat) : Int) := by omega
        have skip : ∀ {H3 : Hp}, Same (del H d) H3 → DrO H3 d → Grow (del H3 d) D rs → P2 (t + 1) [some (.ref d), some (.int n), some (.int m), some (.ref D), some (.int (i : Int)), some (.int ((i : Int) + 1 + (t : Int)))] H3 := fun {H3} sm3 dr3 g3 => by
          refine ⟨_, rs, fun z => PP z ∧ z ≠ ((i : Int), (i : Int) + 1 + t), rfl, sm3, dr3, g3, ?_⟩
          have lx' : Lx n (fun z => PP z ∧ z ≠ ((i : Int), (i : Int) + 1 + t)) i ((i : Int) + 1 + t) rs := lx.change fun z hz => ⟨fun h => ⟨h, fun h => by rw [h] at hz; dsimp only at hz; omega⟩, fun h => h.1⟩
          have := lx'.skip (fun z => z.2 rfl)
          rw [e1] at this
          exact this
        refine ⟨_, rfl, rfl, _, rfl, ?_⟩
        rw [dec_int]
        by_cases em : m = 0
        · rw [show (m == 0) = true by simpa using em]
          refine iteT ?_
          refine ⟨_, rfl, d, 2, rfl, by decide, dr', fun rr H3 r0 r2' s3 dr3 => ⟨rfl, _, rfl, ?_⟩⟩
          rw [dec_int]
          have sm3 := sd_trans sm s3
          have g3 := g.mono (same_del s3)
          by_cases er : rr = 1
          · rw [show (rr == 1) = true by simpa using er]
            obtain ⟨xs, hx, lxs, _⟩ := g3.at
            have hx3 : H3 D = some (.lst xs) := by rw [del_ne Dd] at hx; exact hx
            have few := lx.cl.few (by omega)
            refine iteT ⟨_, rfl, .inl ⟨rfl, xs, SqL.of hx3⟩, _, rfl, _, rfl, (by show 2 ≤ sizeLine; decide), fun u nu => ?_⟩
            have ud := dr3.ne nu
            have s4 : Same H3 (upd H3 u (.tup [.int (i : Int), .int ((i : Int) + 1 + t)])) := same_upd nu
            refine ⟨D, xs, _, rfl, rfl, s4 _ _ hx3, by rw [sizeLine_eq]; omega, ?_⟩
            refine ⟨_, rs ++ [((i : Int), (i : Int) + 1 + t)], fun z => PP z ∨ z = ((i : Int), (i : Int) + 1 + t), rfl, sd_upd (sd_upd sm3 (sd_none sm3 nu ud) ud) nD Dd, (dr3.upd ud).upd Dd, ?_, ?_⟩
            · rw [del_upd_ne Dd, del_upd_ne ud]
              exact g3.push (by rw [del_ne ud]; exact nu) hx
            · have lx' : Lx n (fun z => PP z ∨ z = ((i : Int), (i : Int) + 1 + t)) i ((i : Int) + 1 + t) rs := lx.change fun z hz => ⟨.inl, fun h => h.elim (fun h => h) fun h => by rw [h] at hz; dsimp only at hz; omega⟩
              have := lx'.add (.inr rfl) r'
              rw [e1] at this
              exact this
          · rw [show (rr == 1) = false by simpa using er]
            exact iteF (skip sm3 dr3 g3)
        · rw [show (m == 0) = false by simpa using em]
          refine iteF ⟨_, rfl, _, rfl, _, _, rfl, rfl, _, rfl, ?_⟩
          by_cases c1 : (i : Int) < m
          · rw [decide_eq_true c1]
            refine iteT ⟨_, rfl, _, _, rfl, rfl, _, rfl, ?_⟩
            by_cases c2 : m ≤ (i : Int) + 1 + t
            · rw [decide_eq_true c2]
              refine iteT ?_
              refine ⟨_, rfl, d, 2, rfl, by decide, dr', fun rr H3 r0 r2' s3 dr3 => ⟨rfl, _, rfl, ?_⟩⟩
              rw [dec_int]
              have sm3 := sd_trans sm s3
              have g3 := g.mono (same_del s3)
              by_cases er : rr = 1
              · rw [show (rr == 1) = true by simpa using er]
                obtain ⟨xs, hx, lxs, _⟩ := g3.at
                have hx3 : H3 D = some (.lst xs) := by rw [del_ne Dd] at hx; exact hx
                have few := lx.cl.few (by omega)
                refine iteT ⟨_, rfl, .inl ⟨rfl, xs, SqL.of hx3⟩, _, rfl, _, rfl, (by show 2 ≤ sizeLine; decide), fun u nu => ?_⟩
                have ud := dr3.ne nu
                have s4 : Same H3 (upd H3 u (.tup [.int (i : Int), .int ((i : Int) + 1 + t)])) := same_upd nu
                refine ⟨D, xs, _, rfl, rfl, s4 _ _ hx3, by rw [sizeLine_eq]; omega, ?_⟩
                refine ⟨_, rs ++ [((i : Int), (i : Int) + 1 + t)], fun z => PP z ∨ z = ((i : Int), (i : Int) + 1 + t), rfl, sd_upd (sd_upd sm3 (sd_none sm3 nu ud) ud) nD Dd, (dr3.upd ud).upd Dd, ?_, ?_⟩
                · rw [del_upd_ne Dd, del_upd_ne ud]
                  exact g3.push (by rw [del_ne ud]; exact nu) hx
                · have lx' : Lx n (fun z => PP z ∨ z = ((i : Int), (i : Int) + 1 + t)) i ((i : Int) + 1 + t) rs := lx.change fun z hz => ⟨.inl, fun h => h.elim (fun h => h) fun h => by rw [h] at hz; dsimp only at hz; omega⟩
                  have := lx'.add (.inr rfl) r'
                  rw [e1] at this
                  exact this
              · rw [show (rr == 1) = false by simpa using er]
                exact iteF (skip sm3 dr3 g3)
            · rw [decide_eq_false c2]
              exact iteF (iteF (skip sm dr' g))
          · rw [decide_eq_false c1]
            exact iteF ⟨false, rfl, iteF (iteF (skip sm dr' g))⟩
      · obtain ⟨o5, rs, PP, rfl, sm, dr', g, lx⟩ := h
        rw [show (i : Int) + 1 + ((n - ((i : Int) + 1)).toNat : Int) = n by omega] at lx
        refine ⟨_, _, rs, PP, rfl, sm, dr', g, ?_⟩
        have := lx.row
        rw [show (i : Int) + 2 = (i : Int) + 1 + 1 by omega] at this
        exact_mod_cast this
    · obtain ⟨o4, o5, rs, PP, rfl, sm, dr', g, lx⟩ := h
      rw [show ((n.toNat : Nat) : Int) = n by omega] at lx
      refine ⟨_, rfl, _, rfl, _, rfl, n, rfl, by omega, by omega, fun G nG => ?_⟩
      refine lc_range (lo := 0) (n := n.toNat) (fun i H2 => Same H' H2 ∧ IL H2 G (ran i)) ⟨same_upd nG, upd_same⟩ (fun i H2 hi z => ?_) (fun H2 z => ?_)
      · rw [Int.zero_add]
        exact ⟨rfl, _, rfl, ran_step nG hi (by omega) z⟩
      · obtain ⟨s4, hG⟩ := z
        refine ⟨(by show 3 ≤ sizeLine; decide), fun R nR => ?_⟩
        have dr4 := dr'.mono s4
        have Gd := dr'.ne nG
        obtain ⟨x1, x2, x3⟩ := cs_up (n := n) (sd_trans sm (del_sub.trans s4)) dr4 (g.ls.mono (delF s4)) (hG.del Gd) nR
        exact k _ _ _ _ _ x1 x2 x3 ⟨lx.cl, by omega, .refl _⟩ (by omega) (Int.le_refl _)
end
end K0
set_option Elab.async false
set_option linter.all false
set_option maxRecDepth 100000
set_option maxHeartbeats 4000000
namespace K0
open PySem PySem.Spec PyProof.Rows L2
section
variable {P : Program} {w : World} {K : PySem.W.Frag} {mg : Str → Option Value} {base : Heap} {f : Addr} {fd : FuncData}
abbrev s_st' : Stmt := top 63
/-- _law_stretches -/
def spStr : Sp := fun vs H Q _ => ∃ (d : Addr) (n : Int), vs = [.ref d, .int n] ∧ 2 ≤ n ∧ n ≤ 16 ∧ DrO H d ∧ OutCs H d 2 n Q
theorem sc_st' : FnScope ["_law_draws_here", "_law_many", "_law_spans", "_law_x", "_law_start", "_law_pairs", "_law_y", "_law_span"] ["_law_draws_here", "_law_many"] (defScope s_st') := ⟨rfl, rfl, rfl, by decide +kernel, rfl, by decide +kernel, by decide +kernel⟩
structure SpnOk (i : Nat) (W : List Rw) : Prop where
  l : W.length = i
  r : ∀ (j : Nat) (r : Rw), W[j]? = some r → ∃ s e : Int, r = [s, e, (j : Int)] ∧ 0 ≤ s ∧ s ≤ 6 ∧ 0 ≤ e ∧ e ≤ 9
theorem SpnOk.add {i : Nat} {W : List Rw} {s e : Int} (h : SpnOk i W) (s0 : 0 ≤ s) (s6 : s ≤ 6) (e0 : 0 ≤ e) (e9 : e ≤ 9) : SpnOk (i + 1) (W ++ [[s, e, (i : Int)]]) := by
  refine ⟨by rw [List.length_append, h.l]; rfl, fun j r hj => ?_⟩
  by_cases lt : j < W.length
  · rw [List.getElem?_append_left lt] at hj
    exact h.r j r hj
  · have e2 : j = W.length := by
      have := (List.getElem?_eq_some_iff.mp hj).1
      rw [List.length_append] at this
      simp at this
      omega
    subst e2
    rw [List.getElem?_append_right (Nat.le_refl _), Nat.sub_self] at hj
    cases hj
    exact ⟨s, e, by rw [h.l], s0, s6, e0, e9⟩
theorem SpnOk.third {i : Nat} {W : List Rw} (h : SpnOk i W) : W.map (fun r => r.getD 2 0) = ran i := by
  refine List.ext_getElem? fun j => ?_
  unfold ran
  rw [List.getElem?_map, List.getElem?_map]
  by_cases lt : j < W.length
  · rw [List.getElem?_eq_getElem lt, List.getElem?_range (by have := h.l; omega)]
    obtain ⟨s, e, er, _⟩ := h.r j _ (List.getElem?_eq_getElem lt)
    rw [er]
    rfl
  · rw [List.getElem?_eq_none (by omega), List.getElem?_eq_none (by rw [List.length_range]; have := h.l; omega)]
    rfl
theorem ok_str (F : Fun K "_law_stretches" "_law_stretches" s_st' f fd) (B : Blt2 mg) (TK : Df P w K mg base "_law_take" 1 ["_law_draws_here", "_law_many"] spTk) : FnOk P w K mg base (L2.CX P w) 2 f fd ["_law_draws_here", "_law_many"] spStr := by
  refine F.okX sc_st' (fun vs H Q E h => ?_) (fun cdv A outer s H vs Q E hr h => ?_)
  · obtain ⟨d, n, rfl, _⟩ := h
    rfl
  · obtain ⟨d, n, rfl, n1, n16, dr, k⟩ := h
    have nd := sc_st'.nd
    have r1 : Room 1 _ := hr.mono (by decide)
    refine ⟨_, pss_cons (ps_set (i := 2) nd rfl (.inl rfl) (pe_lst pa_nil))
      (pss_cons (ps_for (passes_of rfl) rfl (pi_range1 (by rfl) B.range (pa_cons (pv 1) pa_nil)) (pg_name (i := 3) nd rfl (.inl rfl))
        (pss_cons (ps_set (i := 4) nd rfl (.inl rfl) (pe_df TK r1 (by rfl) passUp (pa_cons (pv 0) (pa_cons pe_int pa_nil))))
        (pss_one (ps_expr (pe_lapp (pv 2) (pa_cons (pe_tup (pa_cons (pv 4) (pa_cons (pe_op op_add (pv 4) (pe_df TK r1 (by rfl) passUp (pa_cons (pv 0) (pa_cons pe_int pa_nil)))) (pa_cons (pv 3) pa_nil)))) pa_nil))))))
      (pss_cons (ps_set (i := 5) nd rfl (.inl rfl) (pe_lst pa_nil))
      (pss_cons (ps_for (passes_of rfl) rfl (pi_range1 (by rfl) B.range (pa_cons (pv 1) pa_nil)) (pg_name (i := 3) nd rfl (.inl rfl))
        (pss_one (ps_for (passes_of rfl) rfl (pi_range2 (by rfl) B.range (pa_cons (pe_op op_add (pv 3) pe_int) (pa_cons (pv 1) pa_nil))) (pg_name (i := 6) nd rfl (.inl rfl))
          (pss_one (ps_if (pt_cmpR op_le (pe_callB (c_max rfl) (by rfl) B.max (by decide +kernel) (pa_cons (pe_ix ix_tup (pe_ix ix_list (pv 2) (pv 3) (fun _ _ => rfl)) pe_int (fun _ _ => rfl)) (pa_cons (pe_ix ix_tup (pe_ix ix_list (pv 2) (pv 6) (fun _ _ => rfl)) pe_int (fun _ _ => rfl)) pa_nil)))
              (pe_callB (c_min rfl) (by rfl) B.min (by decide +kernel) (pa_cons (pe_ix ix_tup (pe_ix ix_list (pv 2) (pv 3) (fun _ _ => rfl)) pe_int (fun _ _ => rfl)) (pa_cons (pe_ix ix_tup (pe_ix ix_list (pv 2) (pv 6) (fun _ _ => rfl)) pe_int (fun _ _ => rfl)) pa_nil))) (by rfl))
            (pss_one (ps_expr (pe_lapp (pv 5) (pa_cons (pe_tup (pa_cons (pv 3) (pa_cons (pv 6) pa_nil))) pa_nil)))) pss_nil)))))
      (pss_one (ps_ret (pe_lst (pa_cons (pv 1) (pa_cons (pv 5) (pa_cons (pe_lc (own := [("_law_span", 7)]) (g := gName 7) (tt := tYes) (te := tOp (rIxT K) (tVar 7) (tC (.int 2))) rfl nd (pi_list (pe_callB (cr_srtW (d := 3) (by decide)) (by rfl) B.sorted (by decide +kernel) (pa_cons (pv 2) pa_nil)))
        (blkOk_by (N := ["_law_draws_here", "_law_many", "_law_spans", "_law_x", "_law_start", "_law_pairs", "_law_y", "_law_span"]) (sc := defScope s_st') (by decide +kernel)) (fun _ _ _ _ _ => pg_name (i := 7) nd rfl (.inl rfl)) (fun _ _ _ _ _ => pts_nil) (fun _ _ _ _ _ => pe_ix ix_tup (pv 7) pe_int (fun _ _ => rfl))) pa_nil))))))))), ?_⟩
    refine ⟨by show 0 ≤ sizeLine; exact Nat.zero_le _, fun S nS => ?_⟩
    have Sd := dr.ne nS
    let P0 : Nat → L2.St → Hp → Prop := fun i σ H' => ∃ o3 o4 W, σ = [some (.ref d), some (.int n), some (.ref S), o3, o4, none, none, none] ∧ Same (del H d) H' ∧ DrO H' d ∧ GrowR (del H' d) S W ∧ SpnOk i W
    refine ⟨_, rfl, n, rfl, by omega, by omega, for_range (n := n.toNat) P0 ⟨none, none, [], rfl, sd_upd del_sub nS Sd, dr.upd Sd, ⟨[], by rw [del_ne Sd, upd_same]; rfl, rfl, fun z hz => by cases hz⟩, rfl, fun j r hj => by simp at hj⟩ (fun i σ H' hi h => ?_) (fun σ H1 h => ?_)⟩
    · obtain ⟨o3, o4, W, rfl, sm, dr', g, sk⟩ := h
      rw [Int.zero_add]
      refine ⟨_, rfl, d, 7, rfl, by decide, dr', fun a H2 a0 a7 s2 dr2 => ?_⟩
      have g2 := g.mono (same_del s2)
      obtain ⟨xs, hx, lxs, _⟩ := g2.at
      have hx2 : H2 S = some (.lst xs) := by rw [del_ne Sd] at hx; exact hx
      refine ⟨_, rfl, .inl ⟨rfl, xs, SqL.of hx2⟩, _, rfl, _, rfl, _, rfl, d, 4, rfl, by decide, dr2, fun b H3 b0 b4 s3 dr3 => ⟨_, _, rfl, rfl, _, rfl, (by show 3 ≤ sizeLine; decide), fun u nu => ?_⟩⟩
      have g3 := g2.mono (same_del s3)
      have hx3 : H3 S = some (.lst xs) := s3 _ _ hx
      have hxd : (del H3 d) S = some (.lst xs) := (same_del s3) _ _ hx
      have sm3 := sd_trans (sd_trans sm s2) s3
      have ud := dr3.ne nu
      have s4 : Same H3 (upd H3 u (.tup (([a, a + b, (i : Int)] : Rw).map V.int))) := same_upd nu
      have lW := sk.l
      refine ⟨S, xs, _, rfl, rfl, s4 _ _ hx3, by rw [lxs, sizeLine_eq]; omega, _, _, W ++ [[a, a + b, (i : Int)]], rfl, sd_upd (sd_upd sm3 (sd_none sm3 nu ud) ud) nS Sd, (dr3.upd ud).upd Sd, ?_, sk.add a0 (by omega) (by omega) (by omega)⟩
      rw [del_upd_ne Sd, del_upd_ne ud]
      exact g3.push (r := [a, a + b, (i : Int)]) (by rw [del_ne ud]; exact nu) hxd
    · obtain ⟨o3, o4, W, rfl, sm1, dr1, g1, sk⟩ := h
      have gS := g1.mono del_sub
      obtain ⟨xs, hx, lxs, dx⟩ := gS.at
      have lW := sk.l
      have spn : ∀ {i : Nat} {H' : Hp}, Same H1 H' → i < n.toNat → ∃ (a : Addr) (s e : Int), xs[i]? = some (.ref a) ∧ H' a = some (.tup [.int s, .int e, .int (i : Int)]) := fun {i H'} sm hi => by
        have hi2 : i < xs.length := by omega
        obtain ⟨r, a, hr', ea, ha⟩ := dta_row (dx.mono sm) (List.getElem?_eq_getElem hi2)
        obtain ⟨s, e, er, _⟩ := sk.r i r hr'
        exact ⟨a, s, e, by rw [List.getElem?_eq_getElem hi2, ea], by rw [er] at ha; exact ha⟩
      refine ⟨by show 0 ≤ sizeLine; exact Nat.zero_le _, fun D nD => ?_⟩
      have Dd := dr1.ne nD
      let P1 : Nat → L2.St → Hp → Prop := fun i σ H' => ∃ o3 o6 rs P, σ = [some (.ref d), some (.int n), some (.ref S), o3, o4, some (.ref D), o6, none] ∧ Same H1 H' ∧ Grow H' D rs ∧ Lx n P i (i + 1) rs
      refine ⟨_, rfl, n, rfl, by omega, by omega, for_range (n := n.toNat) P1 ⟨_, none, [], fun _ => True, rfl, same_upd nD, ⟨[], upd_same, rfl, fun z hz => by cases hz⟩, by simpa using Lx.start⟩ (fun i σ H' hi h => ?_) (fun σ H' h => ?_)⟩
      · obtain ⟨o3, o6, rs, PP, rfl, sm, g, lx⟩ := h
        rw [Int.zero_add]
        let P2 : Nat → L2.St → Hp → Prop := fun t σ H' => ∃ o6 rs P, σ = [some (.ref d), some (.int n), some (.ref S), some (.int (i : Int)), o4, some (.ref D), o6, none] ∧ Same H1 H' ∧ Grow H' D rs ∧ Lx n P i ((i : Int) + 1 + t) rs
        refine ⟨_, rfl, _, _, rfl, rfl, _, rfl, _, _, rfl, ⟨by omega, by omega, by omega, by omega⟩, for_range (n := (n - ((i : Int) + 1)).toNat) P2 ⟨o6, rs, PP, rfl, sm, g, by simpa using lx⟩ (fun t σ H2 ht h => ?_) (fun σ H2 h => ?_)⟩
        · obtain ⟨o6, rs, PP, rfl, sm, g, lx⟩ := h
          have e0 : (i : Int) + 1 + t = ((i + 1 + t : Nat) : Int) := by omega
          rw [e0]
          rw [e0] at lx
          have r' : 0 ≤ (i : Int) ∧ (i : Int) < ((i + 1 + t : Nat) : Int) ∧ ((i + 1 + t : Nat) : Int) < n := by omega
          have e1 : ((i + 1 + t : Nat) : Int) + 1 = (i : Int) + 1 + ((t + 1 : Nat) : Int) := by omega
          obtain ⟨x1, s1, t1, hx1, hh1⟩ := spn sm hi
          obtain ⟨x2, s2, t2, hx2, hh2⟩ := spn (i := i + 1 + t) sm (by omega)
          have hS := sm _ _ hx
          refine ⟨_, rfl, _, rfl, S, xs, _, _, rfl, rfl, SqL.of hS, atI_nat hx1, x1, _, 0, _, rfl, rfl, SqT.of hh1, rfl, _, rfl, _, rfl, S, xs, _, _, rfl, rfl, SqL.of hS, atI_nat hx2, x2, _, 0, _, rfl, rfl, SqT.of hh2, rfl, _, _, rfl, ?_⟩
          refine ⟨_, rfl, _, rfl, S, xs, _, _, rfl, rfl, SqL.of hS, atI_nat hx1, x1, _, 1, _, rfl, rfl, SqT.of hh1, rfl, _, rfl, _, rfl, S, xs, _, _, rfl, rfl, SqL.of hS, atI_nat hx2, x2, _, 1, _, rfl, rfl, SqT.of hh2, rfl, _, _, rfl, _, _, rfl, rfl, _, rfl, ?_⟩
          refine ite2 (fun _ => ?_) (fun _ => ?_)
          case refine_1 =>
            obtain ⟨zs, hz, lz, _⟩ := g.at
            have few := lx.cl.few (by omega)
            refine ⟨_, rfl, .inl ⟨rfl, zs, SqL.of hz⟩, _, rfl, _, rfl, (by show 2 ≤ sizeLine; decide), fun u nu => ?_⟩
            have s4 : Same H2 (upd H2 u (.tup [.int (i : Int), .int ((i + 1 + t : Nat) : Int)])) := same_upd nu
            refine ⟨D, zs, _, rfl, rfl, s4 _ _ hz, by rw [sizeLine_eq]; omega, _, rs ++ [((i : Int), ((i + 1 + t : Nat) : Int))], fun z => PP z ∨ z = ((i : Int), ((i + 1 + t : Nat) : Int)), rfl, same_keep nD (sm.trans s4), g.push nu hz, ?_⟩
            have lx' : Lx n (fun z => PP z ∨ z = ((i : Int), ((i + 1 + t : Nat) : Int))) i ((i + 1 + t : Nat) : Int) rs := lx.change fun z hz => ⟨.inl, fun h => h.elim (fun h => h) fun h => by rw [h] at hz; dsimp only at hz; omega⟩
            have := lx'.add (.inr rfl) r'
            rw [e1] at this
            exact this
          case refine_2 =>
            refine ⟨_, rs, fun z => PP z ∧ z ≠ ((i : Int), ((i + 1 + t : Nat) : Int)), rfl, sm, g, ?_⟩
            have lx' : Lx n (fun z => PP z ∧ z ≠ ((i : Int), ((i + 1 + t : Nat) : Int))) i ((i + 1 + t : Nat) : Int) rs := lx.change fun z hz => ⟨fun h => ⟨h, fun h => by rw [h] at hz; dsimp only at hz; omega⟩, fun h => h.1⟩
            have := lx'.skip (fun z => z.2 rfl)
            rw [e1] at this
            exact this
        · obtain ⟨o6, rs, PP, rfl, sm, g, lx⟩ := h
          rw [show (i : Int) + 1 + ((n - ((i : Int) + 1)).toNat : Int) = n by omega] at lx
          refine ⟨_, _, rs, PP, rfl, sm, g, ?_⟩
          have := lx.row
          rw [show (i : Int) + 2 = (i : Int) + 1 + 1 by omega] at this
          exact_mod_cast this
      · obtain ⟨o3, o6, rs, PP, rfl, sm, g, lx⟩ := h
        rw [show ((n.toNat : Nat) : Int) = n by omega] at lx
        refine ⟨_, rfl, _, rfl, _, rfl, S, W, xs, rfl, sm _ _ hx, dx.mono sm, fun r hr' => ?_, fun H2 p zs ss s2 np hp dz pm _ => ?_⟩
        · obtain ⟨j, hj⟩ := List.getElem?_of_mem hr'
          obtain ⟨s, e, er, s0, s6, e0, e9⟩ := sk.r j r hj
          have hjl := (List.getElem?_eq_some_iff.mp hj).1
          subst er
          refine ⟨rfl, fun m hm => ?_⟩
          simp only [List.mem_cons, List.not_mem_nil, or_false] at hm
          omega
        · have s12 := sm.trans s2
          have dr2 := dr1.mono s12
          refine ⟨p, rfl, ⟨zs, SqL.of hp⟩, fun G nG => ?_⟩
          have lss : ss.length = n.toNat := by rw [pm.length_eq, lW]
          have lzs : zs.length = ss.length := by have := dz.len; rwa [List.length_map] at this
          refine lc_list (K := K) (a := p) (xs := zs) (fun j H3 => Same H2 H3 ∧ IL H3 G ((ss.take j).map fun r => r.getD 2 0)) ⟨same_upd nG, upd_same⟩ (fun j H3 _ z => SqL.of (z.1 _ _ hp)) (fun j v H3 hj z => ?_) (fun H3 z => ?_)
          · obtain ⟨s3, hG⟩ := z
            obtain ⟨r, ra, hr', rfl, hra⟩ := dta_row (dz.mono s3) hj
            obtain ⟨j', hj'⟩ := List.getElem?_of_mem (pm.mem_iff.mp (List.mem_of_getElem? hr'))
            obtain ⟨s, e, er, _⟩ := sk.r j' r hj'
            have := take_room ss j
            refine ⟨rfl, _, rfl, ra, _, 2, .int (r.getD 2 0), rfl, rfl, SqT.of hra, by rw [er]; rfl, _, hG, by rw [List.length_map, List.length_map, sizeLine_eq]; omega, same_keep nG s3, ?_⟩
            show (upd _ _ _) _ = _
            rw [upd_same, take_at hr', List.map_append, List.map_append]
            rfl
          · obtain ⟨s3, hG⟩ := z
            rw [lzs, List.take_length] at hG
            refine ⟨(by show 3 ≤ sizeLine; decide), fun R nR => ?_⟩
            have dr3 := dr2.mono s3
            have Gd := dr2.ne nG
            obtain ⟨y1, y2, y3⟩ := cs_up (n := n) (sd_trans sm1 (del_sub.trans (s12.trans s3))) dr3 ((g.ls.mono (s2.trans s3)).del dr3 Dd) (hG.del Gd) nR
            refine k _ _ _ _ _ y1 y2 y3 ⟨lx.cl, by omega, ?_⟩ (by omega) (Int.le_refl _)
            rw [← sk.third]
            exact pm.map _
end
end K0
set_option Elab.async false
set_option linter.all false
set_option maxRecDepth 100000
set_option maxHeartbeats 4000000
namespace K0
open PySem PySem.Spec PyProof.Rows L2
section
variable {P : Program} {w : World} {K : PySem.W.Frag} {mg : Str → Option Value} {base : Heap} {f : Addr} {fd : FuncData}
abbrev s_md : Stmt := top 67
/-- _law_made -/
def spMd : Sp := fun vs H Q _ => ∃ (d : Addr) (mo : Int), vs = [.ref d, .int mo] ∧ 5 ≤ mo ∧ mo ≤ 7 ∧ DrO H d ∧ OutCs H d 2 mo Q
theorem sc_md : FnScope ["_law_draws_here", "_law_most", "_law_word", "_law_many", "_law_plain", "_law_x", "_law_one", "_law_other", "_law_house"] ["_law_draws_here", "_law_most"] (defScope s_md) := ⟨rfl, rfl, rfl, by decide +kernel, rfl, by decide +kernel, by decide +kernel⟩
/-- the makers -/
structure Mks (P : Program) (w : World) (K : PySem.W.Frag) (mg : Str → Option Value) (base : Heap) : Prop where
  tk : Df P w K mg base "_law_take" 1 ["_law_draws_here", "_law_many"] spTk
  ln : Df P w K mg base "_law_line" 1 ["_law_many"] spLine
  rg : Df P w K mg base "_law_ring" 1 ["_law_many"] spRg
  rr : Df P w K mg base "_law_ring_row" 1 ["_law_many"] spRrw
  co : Df P w K mg base "_law_contrary" 1 ["_law_many", "_law_pairs"] spCo
  st : Df P w K mg base "_law_stretches" 2 ["_law_draws_here", "_law_many"] spStr
  fa : Df P w K mg base "_law_falling" 3 ["_law_draws_here", "_law_many"] spFa
  fr : Df P w K mg base "_law_free" 2 ["_law_draws_here", "_law_many", "_law_left"] spFr
  sm : Df P w K mg base "_law_small" 2 ["_law_draws_here"] spSm
  sd : Df P w K mg base "_law_sides" 1 ["_law_one", "_law_other", "_law_joined"] spSd
  tw : Df P w K mg base "_law_twins" 3 ["_law_draws_here", "_law_case_here", "_law_most"] spTwn
theorem OutCs.now {H G : Hp} {d b c A : Addr} {n l m : Int} {q : List Pr} {r : List Int} {Q : VK} (o : OutCs H d l m Q) (sm : Same (del H d) G) (dr : DrO G d) (hb : Ls G b q) (bd : b ≠ d) (hc : IL G c r) (cd : c ≠ d) (k : Csk n q r) (hl : l ≤ n) (hn : n ≤ m) (nA : G A = none) : Q (.ref A) (upd G A (.lst [.int n, .ref b, .ref c])) := by
  obtain ⟨x, y, z⟩ := cs_up (n := n) sm dr (hb.del dr bd) (hc.del cd) nA
  exact o _ _ _ _ _ x y z k hl hn
theorem outNow {H G H' : Hp} {d : Addr} {x : V} {n l m : Int} {q : List Pr} {r : List Int} {Q : VK} (o : OutCs H d l m Q) (sm : Same (del H d) G) (dr : DrO G d) (s : Same G H') (c : CsNew G H' x n q r) (k : Csk n q r) (hl : l ≤ n) (hn : n ≤ m) : Q x H' := by
  obtain ⟨a, b, c, rfl, na, nb, nc, ha, hb, hc⟩ := c
  have dr' := dr.mono s
  exact o H' _ n q r (sd_trans sm (del_sub.trans s)) dr' ⟨a, b, c, rfl, by rw [del_ne (dr.ne na)]; exact ha, hb.del dr' (dr.ne nb), IL.del hc (dr.ne nc)⟩ k hl hn
theorem ok_md (F : Fun K "_law_made" "_law_made" s_md f fd) (B : Blt2 mg) (M : Mks P w K mg base) : FnOk P w K mg base (L2.CX P w) 4 f fd ["_law_draws_here", "_law_most"] spMd := by
  refine F.okX sc_md (fun vs H Q E h => ?_) (fun cdv A outer s H vs Q E hr h => ?_)
  · obtain ⟨d, mo, rfl, _⟩ := h
    rfl
  · obtain ⟨d, mo, rfl, mo5, mo7, dr, k⟩ := h
    have nd := sc_md.nd
    have r1 : Room 1 _ := hr.mono (by decide)
    have r2 : Room 2 _ := hr.mono (by decide)
    have r3 : Room 3 _ := hr.mono (by decide)
    refine ⟨_, pss_cons (ps_set (i := 2) nd rfl (.inl rfl) (pe_df M.tk r1 (by rfl) passUp (pa_cons (pv 0) (pa_cons pe_int pa_nil))))
      (pss_cons (ps_set (i := 3) nd rfl (.inl rfl) (pe_op op_add pe_int (pe_df M.tk r1 (by rfl) passUp (pa_cons (pv 0) (pa_cons (pe_op op_sub (pv 1) pe_int) pa_nil)))))
      (pss_cons (ps_setLc (i := 4) (own := [("_law_x", 5)]) (g := gName 5) (tt := tYes) (te := tVar 5) rfl nd rfl (by rfl) (by rfl) (pi_range1 (by rfl) B.range (pa_cons (pv 3) pa_nil))
        (blkOk_by (N := ["_law_draws_here", "_law_most", "_law_word", "_law_many", "_law_plain", "_law_x", "_law_one", "_law_other", "_law_house"]) (sc := defScope s_md) (by decide +kernel)) (fun _ _ _ _ _ => pg_name (i := 5) nd rfl (.inl rfl)) (fun _ _ _ _ _ => pts_nil) (fun _ _ _ _ _ => pv 5))
      (pss_cons (ps_if (pt_cmpR op_eq (pv 2) pe_int (nomark _)) (pss_one (ps_ret (pe_lst (pa_cons pe_int (pa_cons (pe_df M.ln r1 (by rfl) passUp (pa_cons pe_int pa_nil)) (pa_cons (pe_lst (pa_cons pe_int (pa_cons pe_int (pa_cons pe_int (pa_cons pe_int pa_nil))))) pa_nil)))))) pss_nil)
      (pss_cons (ps_if (pt_cmpR op_eq (pv 2) pe_int (nomark _)) (pss_one (ps_ret (pe_lst (pa_cons (pv 3) (pa_cons (pe_df M.rg r1 (by rfl) passUp (pa_cons (pv 3) pa_nil)) (pa_cons (pe_df M.rr r1 (by rfl) passUp (pa_cons (pv 3) pa_nil)) pa_nil)))))) pss_nil)
      (pss_cons (ps_if (pt_cmpR op_eq (pv 2) pe_int (nomark _)) (pss_cons (ps_set (i := 3) nd rfl (.inl rfl) (pe_callB (c_max rfl) (by rfl) B.max (by decide +kernel) (pa_cons (pv 3) (pa_cons pe_int pa_nil))))
        (pss_one (ps_ret (pe_lst (pa_cons (pv 3) (pa_cons (pe_df M.co r1 (by rfl) passUp (pa_cons (pv 3) (pa_cons (pe_df M.rg r1 (by rfl) passUp (pa_cons (pv 3) pa_nil)) pa_nil))) (pa_cons (pe_df M.rr r1 (by rfl) passUp (pa_cons (pv 3) pa_nil)) pa_nil))))))) pss_nil)
      (pss_cons (ps_if (pt_cmpR op_eq (pv 2) pe_int (nomark _)) (pss_one (ps_ret (pe_lst (pa_cons (pv 3) (pa_cons (pe_df M.ln r1 (by rfl) passUp (pa_cons (pv 3) pa_nil)) (pa_cons (pv 4) pa_nil)))))) pss_nil)
      (pss_cons (ps_if (pt_cmpR op_eq (pv 2) pe_int (nomark _)) (pss_one (ps_ret (pe_df M.st r2 (by rfl) passUp (pa_cons (pv 0) (pa_cons (pv 3) pa_nil))))) pss_nil)
      (pss_cons (ps_if (pt_cmpR op_eq (pv 2) pe_int (nomark _)) (pss_one (ps_ret (pe_df M.fa r3 (by rfl) passUp (pa_cons (pv 0) (pa_cons (pv 3) pa_nil))))) pss_nil)
      (pss_cons (ps_if (pt_cmpR op_eq (pv 2) pe_int (nomark _)) (pss_one (ps_ret (pe_df M.fr r2 (by rfl) passUp (pa_cons (pv 0) (pa_cons (pv 3) (pa_cons pe_int pa_nil)))))) pss_nil)
      (pss_cons (ps_if (PW.pt (pw_or (pt_cmpR op_eq (pv 2) pe_int (nomark _)) (pw_or1 (pt_cmpR op_eq (pv 2) pe_int (nomark _)))))
        (pss_cons (ps_set (i := 6) nd rfl (.inl rfl) (pe_df M.sm r2 (by rfl) passUp (pa_cons (pv 0) pa_nil)))
        (pss_cons (ps_set (i := 7) nd rfl (.inl rfl) (pe_df M.sm r2 (by rfl) passUp (pa_cons (pv 0) pa_nil)))
        (pss_cons (ps_if (pt_cmpR op_gt (pe_op op_add (pe_ix ix_list (pv 6) pe_int (fun _ _ => rfl)) (pe_ix ix_list (pv 7) pe_int (fun _ _ => rfl))) (pv 1) (by rfl)) (pss_one (ps_set (i := 7) nd rfl (.inl rfl) (pe_lst (pa_cons pe_int (pa_cons (pe_lst pa_nil) (pa_cons (pe_lst (pa_cons pe_int pa_nil)) pa_nil)))))) pss_nil)
        (pss_one (ps_ret (pe_df M.sd r1 (by rfl) passUp (pa_cons (pv 6) (pa_cons (pv 7) (pa_cons (pe_cmpR op_eq (pv 2) pe_int (nomark _)) pa_nil)))))))))  pss_nil)
      (pss_cons (ps_if (pt_cmpR op_eq (pv 2) pe_int (nomark _)) (pss_one (ps_ret (pe_df M.tw r3 (by rfl) passUp (pa_cons (pv 0) (pa_cons (pe_lst (pa_cons pe_int (pa_cons (pe_df M.ln r1 (by rfl) passUp (pa_cons pe_int pa_nil)) (pa_cons (pe_lst (pa_cons pe_int (pa_cons pe_int (pa_cons pe_int (pa_cons pe_int pa_nil))))) pa_nil)))) (pa_cons (pv 1) pa_nil)))))) pss_nil)
      (pss_cons (ps_if (pt_cmpR op_eq (pv 2) pe_int (nomark _)) (pss_cons (ps_set (i := 8) nd rfl (.inl rfl) (pe_callB cr_srtP (by rfl) B.sorted (by decide +kernel) (pa_cons (pe_op op_cat (pe_df M.rg r1 (by rfl) passUp (pa_cons pe_int pa_nil)) (pe_lst (pa_cons (pe_tup (pa_cons pe_int (pa_cons pe_int pa_nil))) pa_nil))) pa_nil)))
        (pss_one (ps_ret (pe_lst (pa_cons pe_int (pa_cons (pv 8) (pa_cons (pe_lst (pa_cons pe_int (pa_cons pe_int (pa_cons pe_int (pa_cons pe_int (pa_cons pe_int pa_nil)))))) pa_nil))))))) pss_nil)
      (pss_one (ps_ret (pe_df M.fr r2 (by rfl) passUp (pa_cons (pv 0) (pa_cons (pv 3) (pa_cons pe_int pa_nil)))))))))))))))))), ?_⟩
    refine ⟨_, rfl, d, 12, rfl, by decide, dr, fun wd H1 w0 w12 s1 dr1 => ?_⟩
    refine ⟨_, rfl, _, rfl, _, _, rfl, rfl, d, mo - 3, rfl, by omega, dr1, fun r1' H2 a0 a4 s2 dr2 => ?_⟩
    let n : Int := 4 + r1'
    have en : n = 4 + r1' := rfl
    have s02 := sd_trans s1 s2
    refine ⟨_, _, rfl, rfl, ?_⟩
    refine ⟨_, rfl, n, rfl, by omega, by omega, fun G nG => ?_⟩
    refine lc_range (lo := 0) (n := n.toNat) (fun i H' => Same H2 H' ∧ IL H' G (ran i)) ⟨same_upd nG, upd_same⟩ (fun i H' hi z => ?_) (fun H3 z => ?_)
    · rw [Int.zero_add]
      exact ⟨rfl, _, rfl, ran_step nG hi (by omega) z⟩
    obtain ⟨s3, hG⟩ := z
    have dr3 := dr2.mono s3
    have Gd := dr2.ne nG
    have s03 : Same (del H d) H3 := sd_trans s02 (del_sub.trans s3)
    have N4 : 4 ≤ n := by omega
    have N7 : n ≤ mo := by omega
    have N77 : n ≤ 7 := by omega
    have OutS : ∀ {m : Int} {H' : Hp}, m ≤ mo → Same (del H d) H' → OutCs H' d 2 m Q := fun {m H'} hm s H2 v n q r s2 dr cs ck hl hn => k H2 v n q r (sd_trans s s2) dr cs ck hl (by omega)
    obtain rfl | rfl | rfl | rfl | rfl | rfl | rfl | rfl | rfl | rfl | rfl | rfl : wd = 0 ∨ wd = 1 ∨ wd = 2 ∨ wd = 3 ∨ wd = 4 ∨ wd = 5 ∨ wd = 6 ∨ wd = 7 ∨ wd = 8 ∨ wd = 9 ∨ wd = 10 ∨ wd = 11 := by omega
    · refine ⟨_, rfl, rfl, true, rfl, iteT ⟨4, rfl, by decide, by decide, fun H4 D s4 nD hD => ?_⟩⟩
      refine ⟨by show 4 ≤ sizeLine; decide, fun R nR => ⟨by show 3 ≤ sizeLine; decide, fun A nA => ?_⟩⟩
      have sR := same_upd (o := .lst [.int 0, .int 1, .int 2, .int 3]) nR
      have Dd := dr3.ne nD
      have dr4 := dr3.mono s4
      have Rd := dr4.ne nR
      exact k.now (c := R) (r := [0, 1, 2, 3]) (sd_trans s03 (del_sub.trans (s4.trans sR))) (dr4.mono sR) (((hD.mono same_new).ls).mono sR) Dd upd_same Rd ⟨lnP_cl (by decide), by decide, .refl _⟩ (by decide) (by omega) nA
    · refine ⟨_, rfl, rfl, false, rfl, iteF ⟨_, rfl, rfl, true, rfl, iteT ⟨_, rfl, _, rfl, n, rfl, by omega, by omega, fun H4 D rs s4 nD hD cD _ => ?_⟩⟩⟩
      refine ⟨_, rfl, n, rfl, N4, N77, fun H5 R r s5 nR hR pR => ⟨by show 3 ≤ sizeLine; decide, fun A nA => ?_⟩⟩
      have Dd := dr3.ne nD
      have dr4 := dr3.mono s4
      have Rd := dr4.ne nR
      exact k.now (sd_trans s03 (del_sub.trans (s4.trans s5))) (dr4.mono s5) (hD.mono s5) Dd hR Rd ⟨cD, by omega, pR⟩ (by omega) N7 nA
    · refine ⟨_, rfl, rfl, false, rfl, iteF ⟨_, rfl, rfl, false, rfl, iteF ⟨_, rfl, rfl, true, rfl, iteT ⟨_, rfl, _, _, rfl, ?_⟩⟩⟩⟩
      let m : Int := if 5 > n then 5 else n
      have m5 : 5 ≤ m := by show 5 ≤ if 5 > n then 5 else n; split <;> omega
      have m7 : m ≤ mo := by show (if 5 > n then 5 else n) ≤ mo; split <;> omega
      have m77 : m ≤ 7 := by omega
      refine ⟨_, rfl, _, rfl, _, rfl, m, rfl, by omega, by omega, fun H4 D rs s4 nD hD cD _ => ?_⟩
      refine ⟨D, m, rs, rfl, by omega, by omega, hD, fun H5 E qs s5 nE gE lx => ?_⟩
      refine ⟨_, rfl, m, rfl, by omega, m77, fun H6 R r s6 nR hR pR => ⟨by show 3 ≤ sizeLine; decide, fun A nA => ?_⟩⟩
      have dr4 := dr3.mono s4
      have dr5 := dr4.mono s5
      have Ed := dr4.ne nE
      have Rd := dr5.ne nR
      exact k.now (sd_trans s03 (del_sub.trans ((s4.trans s5).trans s6))) (dr5.mono s6) (gE.ls.mono s6) Ed hR Rd ⟨lx.cl, by omega, pR⟩ (by omega) m7 nA
    · refine ⟨_, rfl, rfl, false, rfl, iteF ⟨_, rfl, rfl, false, rfl, iteF ⟨_, rfl, rfl, false, rfl, iteF ⟨_, rfl, rfl, true, rfl, iteT ⟨_, rfl, _, rfl, n, rfl, by omega, by omega, fun H4 D s4 nD hD => ⟨_, rfl, by show 3 ≤ sizeLine; decide, fun A nA => ?_⟩⟩⟩⟩⟩⟩
      have Dd := dr3.ne nD
      exact k.now (sd_trans s03 (del_sub.trans s4)) (dr3.mono s4) (hD.mono same_new).ls Dd (s4 _ _ hG) Gd ⟨lnP_cl (by omega), by omega, .refl _⟩ (by omega) N7 nA
    · exact ⟨_, rfl, rfl, false, rfl, iteF ⟨_, rfl, rfl, false, rfl, iteF ⟨_, rfl, rfl, false, rfl, iteF ⟨_, rfl, rfl, false, rfl, iteF ⟨_, rfl, rfl, true, rfl, iteT ⟨_, rfl, _, rfl, d, n, rfl, by omega, by omega, dr3, OutS N7 s03⟩⟩⟩⟩⟩⟩
    · exact ⟨_, rfl, rfl, false, rfl, iteF ⟨_, rfl, rfl, false, rfl, iteF ⟨_, rfl, rfl, false, rfl, iteF ⟨_, rfl, rfl, false, rfl, iteF ⟨_, rfl, rfl, false, rfl, iteF ⟨_, rfl, rfl, true, rfl, iteT ⟨_, rfl, _, rfl, d, n, rfl, by omega, by omega, dr3, OutS N7 s03⟩⟩⟩⟩⟩⟩⟩
    · exact ⟨_, rfl, rfl, false, rfl, iteF ⟨_, rfl, rfl, false, rfl, iteF ⟨_, rfl, rfl, false, rfl, iteF ⟨_, rfl, rfl, false, rfl, iteF ⟨_, rfl, rfl, false, rfl, iteF ⟨_, rfl, rfl, false, rfl, iteF ⟨_, rfl, rfl, true, rfl, iteT ⟨_, rfl, _, rfl, d, n, 2, rfl, by omega, by omega, dr3, OutS N7 s03⟩⟩⟩⟩⟩⟩⟩⟩
    · refine ⟨_, rfl, rfl, false, rfl, iteF ⟨_, rfl, rfl, false, rfl, iteF ⟨_, rfl, rfl, false, rfl, iteF ⟨_, rfl, rfl, false, rfl, iteF ⟨_, rfl, rfl, false, rfl, iteF ⟨_, rfl, rfl, false, rfl, iteF ⟨_, rfl, rfl, false, rfl, iteF ⟨_, rfl, rfl, true, rfl, iteT ⟨_, rfl, d, rfl, dr3, fun H4 v1 n1 q1 r1 s4 dr4 c1 k1 g1 l1 => ?_⟩⟩⟩⟩⟩⟩⟩⟩⟩
      refine ⟨_, rfl, d, rfl, dr4, fun H5 v2 n2 q2 r2 s5 dr5 c2 k2 g2 l2 => ?_⟩
      have c1' := c1.mono s5
      have s35 := sd_trans s03 (sd_trans s4 s5)
      obtain ⟨x1, y1, z1, rfl, hx1, _, _⟩ := id c1'
      obtain ⟨x2, y2, z2, rfl, hx2, _, _⟩ := id (c2.mono del_sub)
      have p1 := k1.n1; have p2 := k2.n1
      refine ⟨_, rfl, x1, _, 0, _, rfl, rfl, SqL.of hx1, rfl, _, rfl, x2, _, 0, _, rfl, rfl, SqL.of hx2, rfl, _, _, rfl, rfl, _, rfl, _, _, rfl, rfl, _, rfl, ?_⟩
      by_cases big : mo < n1 + n2
      · rw [decide_eq_true big]
        refine iteT ⟨by show 0 ≤ sizeLine; exact Nat.zero_le _, fun e1 m1 => ⟨by show 1 ≤ sizeLine; decide, fun e2 m2 => ⟨by show 3 ≤ sizeLine; decide, fun e3 m3 => ?_⟩⟩⟩
        have t1 := same_upd (o := .lst []) m1
        have t2 := same_upd (o := .lst [.int 0]) m2
        have t3 := same_upd (o := .lst [.int 1, .ref e1, .ref e2]) m3
        have t13 := (t1.trans t2).trans t3
        have c3 : CsAt (heapOf t3) (.ref e3) 1 [] [0] := ⟨e3, e1, e2, rfl, upd_same, ⟨[], (t2.trans t3) _ _ upd_same, .nil⟩, t3 _ _ upd_same⟩
        refine ⟨_, rfl, _, rfl, _, rfl, rfl, _, _, true, n1, 1, q1, [], r1, [0], rfl, c1'.mono t13, c3, k1, ⟨⟨.nil, fun p hp => by cases hp⟩, by decide, .refl _⟩, by omega, fun H6 x q' r' s6 c6 k6 => ?_⟩
        exact outNow k (sd_trans s35 (del_sub.trans t13)) (dr5.mono t13) s6 c6 k6 (by omega) (by omega)
      · rw [decide_eq_false big]
        refine iteF ⟨_, rfl, _, rfl, _, rfl, rfl, _, _, true, n1, n2, q1, q2, r1, r2, rfl, c1', c2.mono del_sub, k1, k2, by omega, fun H6 x q' r' s6 c6 k6 => ?_⟩
        exact outNow k s35 dr5 s6 c6 k6 (by omega) (by omega)
    · refine ⟨_, rfl, rfl, false, rfl, iteF ⟨_, rfl, rfl, false, rfl, iteF ⟨_, rfl, rfl, false, rfl, iteF ⟨_, rfl, rfl, false, rfl, iteF ⟨_, rfl, rfl, false, rfl, iteF ⟨_, rfl, rfl, false, rfl, iteF ⟨_, rfl, rfl, false, rfl, iteF ⟨_, rfl, rfl, false, rfl, iteF ⟨_, rfl, rfl, true, rfl, iteT ⟨_, rfl, d, rfl, dr3, fun H4 v1 n1 q1 r1 s4 dr4 c1 k1 g1 l1 => ?_⟩⟩⟩⟩⟩⟩⟩⟩⟩⟩
      refine ⟨_, rfl, d, rfl, dr4, fun H5 v2 n2 q2 r2 s5 dr5 c2 k2 g2 l2 => ?_⟩
      have c1' := c1.mono s5
      have s35 := sd_trans s03 (sd_trans s4 s5)
      obtain ⟨x1, y1, z1, rfl, hx1, _, _⟩ := id c1'
      obtain ⟨x2, y2, z2, rfl, hx2, _, _⟩ := id (c2.mono del_sub)
      have p1 := k1.n1; have p2 := k2.n1
      refine ⟨_, rfl, x1, _, 0, _, rfl, rfl, SqL.of hx1, rfl, _, rfl, x2, _, 0, _, rfl, rfl, SqL.of hx2, rfl, _, _, rfl, rfl, _, rfl, _, _, rfl, rfl, _, rfl, ?_⟩
      by_cases big : mo < n1 + n2
      · rw [decide_eq_true big]
        refine iteT ⟨by show 0 ≤ sizeLine; exact Nat.zero_le _, fun e1 m1 => ⟨by show 1 ≤ sizeLine; decide, fun e2 m2 => ⟨by show 3 ≤ sizeLine; decide, fun e3 m3 => ?_⟩⟩⟩
        have t1 := same_upd (o := .lst []) m1
        have t2 := same_upd (o := .lst [.int 0]) m2
        have t3 := same_upd (o := .lst [.int 1, .ref e1, .ref e2]) m3
        have t13 := (t1.trans t2).trans t3
        have c3 : CsAt (heapOf t3) (.ref e3) 1 [] [0] := ⟨e3, e1, e2, rfl, upd_same, ⟨[], (t2.trans t3) _ _ upd_same, .nil⟩, t3 _ _ upd_same⟩
        refine ⟨_, rfl, _, rfl, _, rfl, rfl, _, _, false, n1, 1, q1, [], r1, [0], rfl, c1'.mono t13, c3, k1, ⟨⟨.nil, fun p hp => by cases hp⟩, by decide, .refl _⟩, by omega, fun H6 x q' r' s6 c6 k6 => ?_⟩
        exact outNow k (sd_trans s35 (del_sub.trans t13)) (dr5.mono t13) s6 c6 k6 (by omega) (by omega)
      · rw [decide_eq_false big]
        refine iteF ⟨_, rfl, _, rfl, _, rfl, rfl, _, _, false, n1, n2, q1, q2, r1, r2, rfl, c1', c2.mono del_sub, k1, k2, by omega, fun H6 x q' r' s6 c6 k6 => ?_⟩
        exact outNow k s35 dr5 s6 c6 k6 (by omega) (by omega)
    · refine ⟨_, rfl, rfl, false, rfl, iteF ⟨_, rfl, rfl, false, rfl, iteF ⟨_, rfl, rfl, false, rfl, iteF ⟨_, rfl, rfl, false, rfl, iteF ⟨_, rfl, rfl, false, rfl, iteF ⟨_, rfl, rfl, false, rfl, iteF ⟨_, rfl, rfl, false, rfl, iteF ⟨_, rfl, rfl, false, rfl, iteF ⟨_, rfl, rfl, false, rfl, iteF ⟨_, rfl, rfl, true, rfl, iteT ⟨_, rfl, 4, rfl, by decide, by decide, fun H4 D s4 nD hD => ?_⟩⟩⟩⟩⟩⟩⟩⟩⟩⟩⟩
      refine ⟨by show 4 ≤ sizeLine; decide, fun R nR => ⟨by show 3 ≤ sizeLine; decide, fun A nA => ⟨_, rfl, ?_⟩⟩⟩
      have sR := same_upd (o := .lst [.int 0, .int 1, .int 2, .int 3]) nR
      have Dd := dr3.ne nD
      have dr4 := dr3.mono s4
      have Rd := dr4.ne nR
      have drR := dr4.mono sR
      obtain ⟨x, y, z⟩ := cs_up (n := 4) (r := [0, 1, 2, 3]) (sd_trans s03 (del_sub.trans (s4.trans sR))) drR ((((hD.mono same_new).ls).mono sR).del drR Dd) (IL.del upd_same Rd) nA
      exact ⟨d, _, _, [0, 1, 2, 3], mo, rfl, mo5, mo7, y, z, ⟨lnP_cl (by decide), by decide, .refl _⟩, OutS (by omega) x⟩
    · refine ⟨_, rfl, rfl, false, rfl, iteF ⟨_, rfl, rfl, false, rfl, iteF ⟨_, rfl, rfl, false, rfl, iteF ⟨_, rfl, rfl, false, rfl, iteF ⟨_, rfl, rfl, false, rfl, iteF ⟨_, rfl, rfl, false, rfl, iteF ⟨_, rfl, rfl, false, rfl, iteF ⟨_, rfl, rfl, false, rfl, iteF ⟨_, rfl, rfl, false, rfl, iteF ⟨_, rfl, rfl, false, rfl, iteF ⟨_, rfl, rfl, true, rfl, iteT ⟨5, rfl, by decide, by decide, fun H4 D rs s4 nD hD cD mD => ?_⟩⟩⟩⟩⟩⟩⟩⟩⟩⟩⟩⟩
      refine ⟨by show 2 ≤ sizeLine; decide, fun t1 m1 => ⟨by show 1 ≤ sizeLine; decide, fun e1 m2 => ?_⟩⟩
      have u1 := same_upd (o := .tup [.int 0, .int 2]) m1
      have u2 := same_upd (o := .lst [.ref t1]) m2
      obtain ⟨ds, hds, _⟩ := id (hD.mono (u1.trans u2))
      have lrs := cD.few (by decide)
      have lE : Ls (heapOf u2) e1 [(0, 2)] := ⟨_, upd_same, .cons (dt_pr (p := (0, 2)) (u2 _ _ upd_same)) .nil⟩
      refine ⟨D, e1, ds, [.ref t1], rfl, rfl, hds, upd_same, by rw [(hD.mono (u1.trans u2)).len hds, sizeLine_eq]; show _ + 1 ≤ _; omega, fun e2 m3 => ?_⟩
      have u3 := same_upd (o := .lst (ds ++ [.ref t1])) m3
      have lC : Ls (heapOf u3) e2 (rs ++ [(0, 2)]) := (hD.mono (u1.trans u2)).cat lE hds upd_same m3
      have no : ((0 : Int), (2 : Int)) ∉ rs := fun h => by
        have := (mD _).mp h
        revert this
        decide
      have ndp : (rs ++ [((0 : Int), (2 : Int))]).Nodup := List.nodup_append.mpr ⟨pairwise_nodup cD.srt, by simp, fun a ha b hb e => by
        rw [List.mem_singleton.mp hb] at e
        rw [e] at ha
        exact no ha⟩
      refine ⟨e2, _, rfl, lC, ndp, fun H5 pA qs s5 np lp pw hm _ => ?_⟩
      refine ⟨_, rfl, by show 5 ≤ sizeLine; decide, fun R nR => ⟨by show 3 ≤ sizeLine; decide, fun A nA => ?_⟩⟩
      have sR := same_upd (o := .lst [.int 0, .int 2, .int 1, .int 3, .int 4]) nR
      have dr4 := ((dr3.mono s4).mono ((u1.trans u2).trans u3))
      have pd := dr4.ne np
      have dr5 := dr4.mono s5
      have Rd := dr5.ne nR
      exact k.now (c := R) (r := [0, 2, 1, 3, 4]) (sd_trans s03 (del_sub.trans (((s4.trans ((u1.trans u2).trans u3)).trans s5).trans sR))) (dr5.mono sR) (lp.mono sR) pd upd_same Rd ⟨⟨pw, fun z hz => by
        rcases List.mem_append.mp ((hm z).mp hz) with h | h
        · exact cD.rng z h
        · rw [List.mem_singleton.mp h]; decide⟩, by decide, by decide +kernel⟩ (by decide) (by omega) nA
    · exact ⟨_, rfl, rfl, false, rfl, iteF ⟨_, rfl, rfl, false, rfl, iteF ⟨_, rfl, rfl, false, rfl, iteF ⟨_, rfl, rfl, false, rfl, iteF ⟨_, rfl, rfl, false, rfl, iteF ⟨_, rfl, rfl, false, rfl, iteF ⟨_, rfl, rfl, false, rfl, iteF ⟨_, rfl, rfl, false, rfl, iteF ⟨_, rfl, rfl, false, rfl, iteF ⟨_, rfl, rfl, false, rfl, iteF ⟨_, rfl, rfl, false, rfl, iteF ⟨_, rfl, _, rfl, d, n, 0, rfl, by omega, by omega, dr3, OutS N7 s03⟩⟩⟩⟩⟩⟩⟩⟩⟩⟩⟩⟩
end
end K0
set_option Elab.async false
set_option linter.all false
set_option maxRecDepth 100000
set_option maxHeartbeats 4000000
namespace K0
open PySem PySem.Spec PyProof.Rows L2
section
variable {P : Program} {w : World} {K : PySem.W.Frag} {mg : Str → Option Value} {base : Heap} {f : Addr} {fd : FuncData}
abbrev s_ca : Stmt := top 68
/-- _law_case -/
theorem sc_ca : FnScope ["_law_draws_here", "_law_most", "_law_case_here", "_law_mode", "_law_row_here", "_law_which", "_law_place"] ["_law_draws_here", "_law_most"] (defScope s_ca) := ⟨rfl, rfl, rfl, by decide +kernel, rfl, by decide +kernel, by decide +kernel⟩
theorem ok_ca (F : Fun K "_law_case" "_law_case" s_ca f fd) (B : Blt2 mg) (TK : Df P w K mg base "_law_take" 1 ["_law_draws_here", "_law_many"] spTk) (MD : Df P w K mg base "_law_made" 4 ["_law_draws_here", "_law_most"] spMd) (MV : Df P w K mg base "_law_moved" 1 ["_law_row_here", "_law_which", "_law_place"] spMv) (RO : Df P w K mg base "_law_row" 2 ["_law_draws_here", "_law_many"] spRo) :
    FnOk P w K mg base (L2.CX P w) 5 f fd ["_law_draws_here", "_law_most"] spMd := by
  refine F.okX sc_ca (fun vs H Q E h => ?_) (fun cdv A outer s H vs Q E hr h => ?_)
  · obtain ⟨d, mo, rfl, _⟩ := h
    rfl
  · obtain ⟨d, mo, rfl, mo5, mo7, dr, k⟩ := h
    have nd := sc_ca.nd
    have r1 : Room 1 _ := hr.mono (by decide)
    have r2 : Room 2 _ := hr.mono (by decide)
    have r4 : Room 4 _ := hr.mono (by decide)
    refine ⟨_, pss_cons (ps_set (i := 2) nd rfl (.inl rfl) (pe_df MD r4 (by rfl) passUp (pa_cons (pv 0) (pa_cons (pv 1) pa_nil))))
      (pss_cons (ps_set (i := 3) nd rfl (.inl rfl) (pe_df TK r1 (by rfl) passUp (pa_cons (pv 0) (pa_cons pe_int pa_nil))))
      (pss_cons (ps_set (i := 4) nd rfl (.inl rfl) (pe_callTy call_list_of (by rfl) B.list (by decide +kernel) (pa_cons (pe_ix ix_list (pv 2) pe_int (fun _ _ => rfl)) pa_nil)))
      (pss_cons (ps_if (pt_cmpR op_eq (pv 3) pe_int (nomark _))
        (pss_cons (ps_set (i := 5) nd rfl (.inl rfl) (pe_op op_mod (pe_callTy call_int1 (by rfl) B.int (by decide +kernel) (pa_cons (pe_op op_add (pe_op op_sub (pe_ix ix_list (pv 2) pe_int (fun _ _ => rfl)) pe_int) (pe_df TK r1 (by rfl) passUp (pa_cons (pv 0) (pa_cons (pe_ix ix_list (pv 2) pe_int (fun _ _ => rfl)) pa_nil)))) pa_nil)) (pe_ix ix_list (pv 2) pe_int (fun _ _ => rfl))))
        (pss_cons (ps_set (i := 6) nd rfl (.inl rfl) (pe_op op_mod (pe_callTy call_int1 (by rfl) B.int (by decide +kernel) (pa_cons (pe_op op_add pe_int (pe_df TK r1 (by rfl) passUp (pa_cons (pv 0) (pa_cons (pe_ix ix_list (pv 2) pe_int (fun _ _ => rfl)) pa_nil)))) pa_nil)) (pe_ix ix_list (pv 2) pe_int (fun _ _ => rfl))))
        (pss_one (ps_set (i := 4) nd rfl (.inl rfl) (pe_df MV r1 (by rfl) passUp (pa_cons (pv 4) (pa_cons (pv 5) (pa_cons (pv 6) pa_nil)))))))) pss_nil)
      (pss_cons (ps_if (pt_cmpR op_eq (pv 3) pe_int (nomark _)) (pss_one (ps_set (i := 4) nd rfl (.inl rfl) (pe_df RO r2 (by rfl) passUp (pa_cons (pv 0) (pa_cons (pe_ix ix_list (pv 2) pe_int (fun _ _ => rfl)) pa_nil))))) pss_nil)
      (pss_one (ps_ret (pe_lst (pa_cons (pe_ix ix_list (pv 2) pe_int (fun _ _ => rfl)) (pa_cons (pe_ix ix_list (pv 2) pe_int (fun _ _ => rfl)) (pa_cons (pv 4) pa_nil)))))))))), ?_⟩
    refine ⟨_, rfl, _, rfl, d, mo, rfl, mo5, mo7, dr, fun H1 v n q r s1 dr1 cs ck n2 n7 => ?_⟩
    obtain ⟨a, b, c, rfl, ha, hb, hc⟩ := id cs
    have n1 := ck.n1
    have lr := ck.len
    refine ⟨_, rfl, d, 4, rfl, by decide, dr1, fun mo H2 m0 m4 s2 dr2 => ?_⟩
    have s02 := sd_trans s1 s2
    have ha2 := (same_del s2) _ _ ha
    have hb2 := hb.mono (same_del s2)
    have hc2 : IL (del H2 d) c r := (same_del s2) _ _ hc
    refine ⟨_, rfl, a, _, 2, _, rfl, rfl, SqL.of (del_sub _ _ ha2), rfl, c, _, rfl, .inl (SqL.of (del_sub _ _ hc2)), fun R nR => ?_⟩
    have s3 := same_upd (o := .lst (r.map V.int)) nR
    have Rd := dr2.ne nR
    have dr3 := dr2.mono s3
    have s03 : Same (del H d) (heapOf s3) := sd_trans s02 (del_sub.trans s3)
    have ha3 := (delF (d := d) s3) _ _ ha2
    have hb3 := hb2.mono (delF (d := d) s3)
    have hR : IL (del (heapOf s3) d) R r := IL.del upd_same Rd
    have fin : ∀ {H' : Hp} {R' : Addr} {r' : List Int} {A' : Addr}, Same (del (heapOf s3) d) H' → DrO H' d → IL (del H' d) R' r' → r'.Perm (ran n.toNat) → H' A' = none → Q (.ref A') (upd H' A' (.lst [.int n, .ref b, .ref R'])) := fun {H' R' r' A'} s dr' hr' pr nA => by
      obtain ⟨x, y, z⟩ := cs_up (n := n) (sd_trans s03 s) dr' (hb3.mono (same_del s)) hr' nA
      exact k _ _ _ _ _ x y z ⟨ck.c, n1, pr⟩ n2 n7
    have ret : ∀ {H' : Hp}, Same (del (heapOf s3) d) H' → H' a = some (.lst [.int n, .ref b, .ref c]) := fun s => s _ _ ha3
    refine ⟨_, rfl, rfl, _, rfl, ?_⟩
    rw [dec_int]
    by_cases e0 : mo = 0
    · rw [show (mo == 0) = true by simpa using e0]
      have rA := ret (H' := heapOf s3) del_sub
      refine iteT ⟨_, rfl, a, _, 0, _, rfl, rfl, SqL.of rA, rfl, _, _, rfl, rfl, _, rfl, _, rfl, a, _, 0, _, rfl, rfl, SqL.of rA, rfl, d, n, rfl, by omega, dr3, fun w1 H4 w10 w1n s4 dr4 => ?_⟩
      have rA4 := ret s4
      refine ⟨_, _, rfl, rfl, .inl ⟨_, rfl, _, rfl, a, _, 0, _, rfl, rfl, SqL.of rA4, rfl, _, _, rfl, rfl, by omega, ?_⟩⟩
      refine ⟨_, rfl, _, rfl, a, _, 0, _, rfl, rfl, SqL.of rA4, rfl, d, n, rfl, by omega, dr4, fun w2 H5 w20 w2n s5 dr5 => ?_⟩
      have s35 := sd_trans s4 s5
      have rA5 := ret s35
      refine ⟨_, _, rfl, rfl, .inl ⟨_, rfl, _, rfl, a, _, 0, _, rfl, rfl, SqL.of rA5, rfl, _, _, rfl, rfl, by omega, ?_⟩⟩
      obtain ⟨x, hx⟩ := Int.eq_ofNat_of_zero_le (Int.emod_nonneg (n - 1 + w1) (by omega : n ≠ 0))
      obtain ⟨y, hy⟩ := Int.eq_ofNat_of_zero_le (Int.emod_nonneg (1 + w2) (by omega : n ≠ 0))
      have hx2 := Int.emod_lt_of_pos (n - 1 + w1) (by omega : 0 < n)
      have hy2 := Int.emod_lt_of_pos (1 + w2) (by omega : 0 < n)
      have hR5 := (same_del s35) _ _ hR
      refine ⟨_, rfl, _, rfl, _, rfl, R, r, x, y, by rw [← hx, ← hy]; rfl, del_sub _ _ hR5, by omega, by omega, by omega, fun H6 R' r' s6 nR' hR' pR' => ?_⟩
      have dr6 := dr5.mono s6
      have Rd' := dr5.ne nR'
      have s36 : Same (del (heapOf s3) d) H6 := sd_trans s35 (del_sub.trans s6)
      have rA6 := ret s36
      refine ⟨_, rfl, rfl, false, by rw [e0]; rfl, iteF ⟨_, rfl, a, _, 0, _, rfl, rfl, SqL.of rA6, rfl, _, rfl, a, _, 1, _, rfl, rfl, SqL.of rA6, rfl, _, rfl, (by show 3 ≤ sizeLine; decide), fun A' nA => ?_⟩⟩
      exact fin s36 dr6 (IL.del hR' Rd') (pR'.trans ck.p) nA
    · rw [show (mo == 0) = false by simpa using e0]
      refine iteF ⟨_, rfl, rfl, _, rfl, ?_⟩
      rw [dec_int]
      have rA := ret (H' := heapOf s3) del_sub
      by_cases e3 : mo = 3
      · rw [show (mo == 3) = true by simpa using e3]
        refine iteT ⟨_, rfl, _, rfl, a, _, 0, _, rfl, rfl, SqL.of rA, rfl, d, n, rfl, by omega, by omega, dr3, fun H4 R' r' s4 dr4 nR' hR' pR' => ?_⟩
        have rA4 := ret s4
        exact ⟨_, rfl, a, _, 0, _, rfl, rfl, SqL.of rA4, rfl, _, rfl, a, _, 1, _, rfl, rfl, SqL.of rA4, rfl, _, rfl, (by show 3 ≤ sizeLine; decide), fun A' nA => fin s4 dr4 hR' pR' nA⟩
      · rw [show (mo == 3) = false by simpa using e3]
        exact iteF ⟨_, rfl, a, _, 0, _, rfl, rfl, SqL.of rA, rfl, _, rfl, a, _, 1, _, rfl, rfl, SqL.of rA, rfl, _, rfl, (by show 3 ≤ sizeLine; decide), fun A' nA => fin del_sub dr3 hR ck.p nA⟩
end
end K0
set_option Elab.async false
set_option linter.all false
set_option maxRecDepth 100000
set_option maxHeartbeats 4000000
set_option Elab.async false
set_option linter.all false
set_option maxRecDepth 100000
set_option maxHeartbeats 4000000
namespace K0
open PySem PySem.Spec PyProof.Rows L2
abbrev s_pa : Stmt := top 55
section
variable {P : Program} {w : World} {K : PySem.W.Frag} {mg : Str → Option Value} {base : Heap} {f : Addr} {fd : FuncData}
/-- _law_part -/
def spPa : Sp := fun vs H Q _ => ∃ (b t : Addr) (q : List Pr) (ts : List Int), vs = [.ref b, .ref t] ∧ Ls H b q ∧ H t = some (.lst (ts.map V.int)) ∧ ts.length ≤ 8 ∧
  ∀ H' a rs, Same H H' → H a = none → Grow H' a rs → Lx ts.length (fun z => ((ts.getD z.1.toNat 0, ts.getD z.2.toNat 0) : Pr) ∈ q) ts.length (ts.length + 1) rs → Q (.ref a) H'
theorem sc_pa : FnScope ["_law_pairs", "_law_things", "_law_kept", "_law_i", "_law_j"] ["_law_pairs", "_law_things"] (defScope s_pa) := ⟨rfl, rfl, rfl, by decide +kernel, rfl, by decide +kernel, by decide +kernel⟩
theorem ok_pa (F : Fun K "_law_part" "_law_part" s_pa f fd) (B : Blt2 mg) : FnOk P w K mg base (L2.CX P w) 1 f fd ["_law_pairs", "_law_things"] spPa := by
  refine F.okX sc_pa (fun vs H Q E h => ?_) (fun cdv A outer s H vs Q E hr h => ?_)
  · obtain ⟨b, t, q, ts, rfl, _⟩ := h
    rfl
  · obtain ⟨b, tt, q, ts, rfl, hl, ht0, n8, k⟩ := h
    have nd := sc_pa.nd
    have hu : (A.deeper (envOfC "_law_part" (defScope s_pa) s.heap.objs.size f cdv)).units + 65 < cLine := by have := hr.un; omega
    refine ⟨_, pss_cons (ps_set (i := 2) nd rfl (.inl rfl) (pe_lst pa_nil))
      (pss_cons (ps_for (passes_of rfl) rfl (pi_range1 (by rfl) B.range (pa_cons (pe_callB c_len (by rfl) B.len PySem.boot_len (pa_cons (pv 1) pa_nil)) pa_nil)) (pg_name (i := 3) nd rfl (.inl rfl))
        (pss_one (ps_for (passes_of rfl) rfl (pi_range2 (by rfl) B.range (pa_cons (pe_op op_add (pv 3) pe_int) (pa_cons (pe_callB c_len (by rfl) B.len PySem.boot_len (pa_cons (pv 1) pa_nil)) pa_nil))) (pg_name (i := 4) nd rfl (.inl rfl))
          (pss_one (ps_if (pt_cmpR (op_inD hu) (pe_tup (pa_cons (pe_ix ix_list (pv 1) (pv 3) (fun _ _ => rfl)) (pa_cons (pe_ix ix_list (pv 1) (pv 4) (fun _ _ => rfl)) pa_nil))) (pv 0) (by rfl)) (pss_one (ps_expr (pe_lapp (pv 2) (pa_cons (pe_tup (pa_cons (pv 3) (pa_cons (pv 4) pa_nil))) pa_nil)))) pss_nil)))))
      (pss_one (ps_ret (pv 2)))), ?_⟩
    refine ⟨by show 0 ≤ sizeLine; exact Nat.zero_le _, fun D nD => ?_⟩
    have s0 : Same H (upd H D (.lst [])) := same_upd nD
    have eL : (ts.map V.int).length = ts.length := List.length_map _
    obtain ⟨n, en⟩ : ∃ n : Int, n = ts.length := ⟨_, rfl⟩
    rw [← en] at k
    let PP : Pr → Prop := fun z => ((ts.getD z.1.toNat 0, ts.getD z.2.toNat 0) : Pr) ∈ q
    have tAt : ∀ {j : Nat}, j < ts.length → atI (ts.map V.int) (j : Int) = some (V.int (ts.getD j 0)) := fun {j} hj => atI_nat (by rw [List.getElem?_map, List.getElem?_eq_getElem hj, List.getD_eq_getElem?_getD, List.getElem?_eq_getElem hj]; rfl)
    let P1 : Nat → L2.St → Hp → Prop := fun i σ H' => ∃ o3 o4 rs, σ = [some (.ref b), some (.ref tt), some (.ref D), o3, o4] ∧ Same H H' ∧ Grow H' D rs ∧ Lx n PP i (i + 1) rs
    refine ⟨_, rfl, tt, _, rfl, .inl (SqL.of (s0 _ _ ht0)), _, rfl, by rw [eL]; omega, by rw [eL]; omega, ?_⟩
    rw [eL, Int.toNat_natCast]
    refine for_range (n := ts.length) P1 ⟨none, none, [], rfl, same_upd nD, ⟨[], upd_same, rfl, fun z hz => by cases hz⟩, by simpa using Lx.start⟩ (fun i σ H' hi h => ?_) (fun σ H' h => ?_)
    · obtain ⟨o3, o4, rs, rfl, sm, g, lx⟩ := h
      rw [Int.zero_add]
      let P2 : Nat → L2.St → Hp → Prop := fun t σ H' => ∃ o4 rs, σ = [some (.ref b), some (.ref tt), some (.ref D), some (.int (i : Int)), o4] ∧ Same H H' ∧ Grow H' D rs ∧ Lx n PP i ((i : Int) + 1 + t) rs
      refine ⟨_, rfl, _, _, rfl, rfl, _, rfl, tt, _, rfl, .inl (SqL.of (sm _ _ ht0)), _, _, rfl, ⟨by omega, by omega, by rw [eL]; omega, by rw [eL]; omega⟩, ?_⟩
      rw [eL, ← en]
      refine for_range (n := (n - ((i : Int) + 1)).toNat) P2 ⟨o4, rs, rfl, sm, g, by simpa using lx⟩ (fun t σ H2 ht h => ?_) (fun σ H2 h => ?_)
      · obtain ⟨o4, rs, rfl, sm, g, lx⟩ := h
        have ej : (i : Int) + 1 + t = ((i + 1 + t : Nat) : Int) := by omega
        rw [ej] at lx ⊢
        have hj : i + 1 + t < ts.length := by omega
        refine ⟨_, rfl, _, rfl, tt, _, (i : Int), _, rfl, rfl, SqL.of (sm _ _ ht0), tAt hi, _, rfl, _, rfl, tt, _, ((i + 1 + t : Nat) : Int), _, rfl, rfl, SqL.of (sm _ _ ht0), tAt hj, (by show 2 ≤ sizeLine; decide), fun u nu => ?_⟩
        have s2 : Same H2 (upd H2 u (.tup [.int (ts.getD i 0), .int (ts.getD (i + 1 + t) 0)])) := same_upd nu
        refine ⟨_, rfl, prD (ts.getD i 0, ts.getD (i + 1 + t) 0), _, (dt_pr (p := (ts.getD i 0, ts.getD (i + 1 + t) 0)) upd_same).dp, (hl.mono (sm.trans s2)).dp, prD_shaped _, prsL_shaped _, _, rfl, ?_⟩
        rw [prs_any]
        have g2 := g.mono s2
        have r : 0 ≤ (i : Int) ∧ (i : Int) < ((i + 1 + t : Nat) : Int) ∧ ((i + 1 + t : Nat) : Int) < n := by omega
        have ePP : PP ((i : Int), ((i + 1 + t : Nat) : Int)) ↔ ((ts.getD i 0, ts.getD (i + 1 + t) 0) : Pr) ∈ q := Iff.rfl
        have e1 : ((i + 1 + t : Nat) : Int) + 1 = (i : Int) + 1 + ((t + 1 : Nat) : Int) := by omega
        by_cases m : ((ts.getD i 0, ts.getD (i + 1 + t) 0) : Pr) ∈ q
        · rw [decide_eq_true m]
          obtain ⟨xs, hx, lxs, _⟩ := g2.at
          have few := lx.cl.few (by omega)
          refine iteT ⟨_, rfl, .inl ⟨rfl, xs, SqL.of hx⟩, _, rfl, _, rfl, (by show 2 ≤ sizeLine; decide), fun v nv => ?_⟩
          have s3 : Same (upd H2 u (.tup [.int (ts.getD i 0), .int (ts.getD (i + 1 + t) 0)])) (upd (upd H2 u (.tup [.int (ts.getD i 0), .int (ts.getD (i + 1 + t) 0)])) v (.tup [.int (i : Int), .int ((i + 1 + t : Nat) : Int)])) := same_upd nv
          refine ⟨D, xs, _, rfl, rfl, s3 _ _ hx, by rw [sizeLine_eq]; omega, ?_⟩
          refine ⟨_, rs ++ [((i : Int), ((i + 1 + t : Nat) : Int))], rfl, same_keep nD ((sm.trans s2).trans s3), g2.push nv hx, ?_⟩
          have := lx.add (ePP.mpr m) r
          rw [e1] at this
          exact this
        · rw [decide_eq_false m]
          refine iteF ⟨_, rs, rfl, sm.trans s2, g2, ?_⟩
          have := lx.skip (fun z => m (ePP.mp z))
          rw [e1] at this
          exact this
      · obtain ⟨o4, rs, rfl, sm, g, lx⟩ := h
        rw [show (i : Int) + 1 + ((n - ((i : Int) + 1)).toNat : Int) = n by omega] at lx
        refine ⟨_, _, rs, rfl, sm, g, ?_⟩
        have := lx.row
        rw [show (i : Int) + 2 = (i : Int) + 1 + 1 by omega] at this
        exact_mod_cast this
    · obtain ⟨o3, o4, rs, rfl, sm, g, lx⟩ := h
      rw [← en] at lx
      exact ⟨_, rfl, k H' D rs sm nD g lx⟩
end
end K0
set_option Elab.async false
set_option linter.all false
set_option maxRecDepth 100000
set_option maxHeartbeats 4000000
namespace K0
open PySem PySem.Spec PyProof.Rows L2
/-! ### orders -/
abbrev s_cro : Stmt := top 45
abbrev s_crw : Stmt := top 46
abbrev s_pin : Stmt := top 47
abbrev s_o (i : Nat) : Stmt := inClass (top 48) i
/-- a list or tuple of data that is no known object -/
inductive Sq3 (K : PySem.W.Frag) (H : Hp) (a : Addr) (ds : List PyData) : Prop where
  | lst {xs : List V} (e : H a = some (.lst xs)) (h : DtAll H xs ds)
  | tup {xs : List V} (e : H a = some (.tup xs)) (h : DtAll H xs ds)
  | kon (e : ∀ H' : Hp, SqT K H' a []) (z : ds = [])
theorem Sq3.mono {K : PySem.W.Frag} {H H' : Hp} (s : Same H H') {a : Addr} {ds : List PyData} : Sq3 K H a ds → Sq3 K H' a ds
  | .lst e h => .lst (s _ _ e) (h.mono s)
  | .tup e h => .tup (s _ _ e) (h.mono s)
  | .kon e z => .kon e z
theorem Sq3.monoX {K : PySem.W.Frag} {p C dx : Addr} {fs : List (Str × V)} {H H' : Hp} (hp : H p = some (.ins C dx fs)) (s : SameX p H H') {a : Addr} {ds : List PyData} (h : Sq3 K H a ds) : Sq3 K H' a ds := by
  cases h with
  | lst e h => exact .lst (same_seqs hp s _ _ (seqs_lst e)) (h.seqs.mono (same_seqs hp s))
  | tup e h => exact .tup (same_seqs hp s _ _ (seqs_tup e)) (h.seqs.mono (same_seqs hp s))
  | kon e z => exact .kon e z
theorem Sq3.sq {K : PySem.W.Frag} {H : Hp} {a : Addr} {ds : List PyData} : Sq3 K H a ds → Sq K H a ds
  | .lst e h => .lst e h
  | .tup e h => .tup e h
  | .kon e z => .kon e z
/-- a row as an order holds it -/
def RowT (K : PySem.W.Frag) (H : Hp) (t : Addr) (r : List Nat) : Prop := H t = some (.tup (nvs r)) ∨ (r = [] ∧ ∀ H' : Hp, SqT K H' t [])
theorem RowT.mono {K : PySem.W.Frag} {H H' : Hp} (s : Same H H') {t : Addr} {r : List Nat} : RowT K H t r → RowT K H' t r
  | .inl h => .inl (s _ _ h)
  | .inr h => .inr h
theorem RowT.sqT {K : PySem.W.Frag} {H : Hp} {t : Addr} {r : List Nat} : RowT K H t r → SqT K H t (nvs r)
  | .inl h => SqT.of h
  | .inr ⟨e, h⟩ => by rw [e]; exact h H
def nsD (r : List Nat) : List PyData := r.map fun (k : Nat) => PyData.int (k : Int)
theorem dta_nvs {H : Hp} : ∀ r : List Nat, DtAll H (nvs r) (nsD r)
  | [] => .nil
  | k :: r => .cons (.int (k : Int)) (dta_nvs r)
theorem RowT.sq {K : PySem.W.Frag} {H : Hp} {t : Addr} {r : List Nat} : RowT K H t r → Sq K H t (nsD r)
  | .inl h => .tup h (dta_nvs r)
  | .inr ⟨e, h⟩ => by rw [e]; exact .kon h rfl
theorem idx_at {r : List Nat} (nd : r.Nodup) {i : Nat} (hi : i < r.length) : r.idxOf r[i] = i := by
  have hl : r.idxOf r[i] < r.length := List.idxOf_lt_length_of_mem (List.getElem_mem hi)
  have e := List.getElem_idxOf hl
  have pw := List.pairwise_iff_getElem.mp nd
  rcases Nat.lt_trichotomy (r.idxOf r[i]) i with c | c | c
  · exact absurd e (pw _ _ hl hi c)
  · exact c
  · exact absurd e.symm (pw _ _ hi hl c)
/-- the places of the things in the row -/
def posL (r : List Nat) : List Nat := (List.range r.length).map fun x => r.idxOf x
def posU (r : List Nat) (i : Nat) : List Nat := (List.range r.length).map fun x => if r.idxOf x < i then r.idxOf x else 0
theorem posU_zero (r : List Nat) : posU r 0 = List.replicate r.length 0 := by
  unfold posU
  refine List.ext_getElem (by simp) fun j h1 h2 => ?_
  simp
theorem posU_all {r : List Nat} (h : r.Perm (List.range r.length)) : posU r r.length = posL r := by
  unfold posU posL
  refine List.map_congr_left fun x hx => ?_
  rw [if_pos (List.idxOf_lt_length_of_mem (h.mem_iff.mpr hx))]
theorem posU_step {r : List Nat} (nd : r.Nodup) {i x : Nat} (h : r[i]? = some x) (hx : x < r.length) : (posU r i).set x i = posU r (i + 1) := by
  obtain ⟨hi, e⟩ := List.getElem?_eq_some_iff.mp h
  have ix : r.idxOf x = i := by
    rw [← e]
    exact idx_at nd hi
  unfold posU
  refine List.ext_getElem (by simp) fun j h1 h2 => ?_
  simp only [List.length_set, List.length_map, List.length_range] at h1
  rw [List.getElem_set]
  simp only [List.getElem_map, List.getElem_range]
  by_cases c : x = j
  · subst c
    rw [if_pos rfl, ix, if_pos (Nat.lt_succ_self i)]
  · rw [if_neg c]
    by_cases c2 : r.idxOf j = i
    · have hj : j ∈ r := by
        refine Classical.byContradiction fun no => ?_
        rw [List.idxOf_eq_length no] at c2
        omega
      have e2 := List.getElem_idxOf (List.idxOf_lt_length_of_mem hj)
      have e3 : r[i] = j := by
        rw [← e2]
        congr 1
        exact c2.symm
      exact absurd (e.symm.trans e3) c
    · by_cases c3 : r.idxOf j < i
      · rw [if_pos c3, if_pos (by omega)]
      · rw [if_neg c3, if_neg (by omega)]
theorem posL_len (r : List Nat) : (posL r).length = r.length := by unfold posL; rw [List.length_map, List.length_range]
theorem posL_at {r : List Nat} {x : Nat} (h : x < r.length) : (posL r).getD x 0 = r.idxOf x := by
  unfold posL
  rw [List.getD_eq_getElem?_getD, List.getElem?_map, List.getElem?_range h]
  rfl
/-- what an order has -/
theorem k_wr : ¬ (("web" : Str) = "row") := by decide +kernel
theorem k_wp : ¬ (("web" : Str) = "places") := by decide +kernel
theorem k_rp : ¬ (("row" : Str) = "places") := by decide +kernel
def ofs (w t m : Addr) : List (Str × V) := putF "places" (.ref m) (putF "row" (.ref t) (putF "web" (.ref w) []))
theorem of_web (w t m : Addr) : (ofs w t m).lookup ("web" : Str) = some (.ref w) := by
  unfold ofs
  rw [lookup_putF, if_neg k_wp, lookup_putF, if_neg k_wr, lookup_putF, if_pos rfl]
theorem of_row (w t m : Addr) : (ofs w t m).lookup ("row" : Str) = some (.ref t) := by
  unfold ofs
  rw [lookup_putF, if_neg k_rp, lookup_putF, if_pos rfl]
theorem of_places (w t m : Addr) : (ofs w t m).lookup ("places" : Str) = some (.ref m) := by
  unfold ofs
  rw [lookup_putF, if_pos rfl]
theorem of_no (w t m : Addr) {x : Str} (h1 : ¬ x = "web") (h2 : ¬ x = "row") (h3 : ¬ x = "places") : (ofs w t m).lookup x = none := by
  unfold ofs
  rw [lookup_putF, if_neg h3, lookup_putF, if_neg h2, lookup_putF, if_neg h1]
  rfl
structure OrdAt (K : PySem.W.Frag) (C D : Addr) (H : Hp) (o p : Addr) (n : Int) (q : List Pr) (r : List Nat) : Prop where
  ex : ∃ dx t m, H o = some (.ins D dx (ofs p t m)) ∧ RowT K H t r ∧ H m = some (.tup (nvs (posL r)))
  W : WebAt C H p n q
  n9 : n ≤ 9
  p : r.Perm (List.range n.toNat)
theorem OrdAt.mono {K : PySem.W.Frag} {C D : Addr} {H H' : Hp} {o p : Addr} {n : Int} {q : List Pr} {r : List Nat} (h : OrdAt K C D H o p n q r) (s : Same H H') : OrdAt K C D H' o p n q r := by
  obtain ⟨⟨dx, t, m, h1, h2, h3⟩, W, n9, p⟩ := h
  exact ⟨⟨dx, t, m, s _ _ h1, h2.mono s, s _ _ h3⟩, W.mono s, n9, p⟩
theorem OrdAt.len {K : PySem.W.Frag} {C D : Addr} {H : Hp} {o p : Addr} {n : Int} {q : List Pr} {r : List Nat} (h : OrdAt K C D H o p n q r) : (r.length : Int) = n := by
  have := h.p.length_eq
  have := h.W.n0
  rw [List.length_range] at *
  omega
structure OrdC (K : PySem.W.Frag) (D : Addr) : Prop where
  cl : Cls K D
  nw : NoAttr K D "web"
  nr : NoAttr K D "row"
  np : NoAttr K D "places"
section
variable {P : Program} {w : World} {K : PySem.W.Frag} {mg : Str → Option Value} {base : Heap} {f : Addr} {fd : FuncData}
/-- checked_row_of, checked_row: a row that is right -/
def spCrO (K : PySem.W.Frag) : Sp := fun vs H Q _ => ∃ T n a r, vs = [.ref T, .ref a] ∧ 0 ≤ n ∧ n ≤ 9 ∧ SqT K H T (rgV 0 n) ∧ (∀ H', Same H H' → SqT K H' T (rgV 0 n)) ∧ Sq3 K H a (nsD r) ∧ r.Perm (List.range n.toNat) ∧ ∀ H' t, Same H H' → RowT K H' t r → Q (.ref t) H'
theorem sc_cro : FnScope ["things", "row", "place"] ["things", "row"] (defScope s_cro) := ⟨rfl, rfl, rfl, by decide +kernel, rfl, by decide +kernel, by decide +kernel⟩
theorem fwG_row {n : Int} {r : List Nat} (n0 : 0 ≤ n) (h : r.Perm (List.range n.toNat)) : fwG n (nsD r) [] = none := by
  have nd : r.Nodup := h.nodup_iff.mpr List.nodup_range
  have go : ∀ {l : List Nat} {sn : List Int}, (∀ m ∈ l, (m : Int) < n ∧ (m : Int) ∉ sn) → l.Nodup → fwG n (nsD l) sn = none := by
    intro l
    induction l with
    | nil => intro sn _ _; rfl
    | cons m l ih =>
      intro sn h nd
      show fwG n (PyData.int (m : Int) :: nsD l) sn = none
      rw [List.nodup_cons] at nd
      have h0 := h m (.head _)
      rw [fwG, if_pos (show okAt n sn (.int (m : Int)) = true from decide_eq_true ⟨Int.natCast_nonneg m, h0.1, h0.2⟩)]
      refine ih (fun k hk => ?_) nd.2
      obtain ⟨h2, h3⟩ := h k (.tail _ hk)
      refine ⟨h2, fun hm => ?_⟩
      rcases List.mem_append.mp hm with hm | hm
      · exact h3 hm
      · have e : (k : Int) = m := List.mem_singleton.mp hm
        have e2 : k = m := by omega
        subst e2
        exact nd.1 hk
  exact go (fun m hm => ⟨by have := List.mem_range.mp (h.mem_iff.mp hm); omega, by simp⟩) nd
theorem sq_nvs {K : PySem.W.Frag} {H : Hp} {a : Addr} {r : List Nat} (h : Sq3 K H a (nsD r)) : (H a = some (.lst (nvs r)) ∨ H a = some (.tup (nvs r))) ∨ (r = [] ∧ ∀ H', SqT K H' a []) := by
  have go : ∀ {xs : List V} {r : List Nat}, DtAll H xs (nsD r) → xs = nvs r := by
    intro xs r
    induction r generalizing xs with
    | nil => intro h; cases h; rfl
    | cons k r ih =>
      intro h
      cases h with
      | cons h1 h2 =>
        cases h1
        rw [ih h2]
        rfl
  cases h with
  | lst e h => exact .inl (.inl (by rw [e, go h]))
  | tup e h => exact .inl (.inr (by rw [e, go h]))
  | kon e z =>
    refine .inr ⟨?_, e⟩
    cases r with
    | nil => rfl
    | cons k r => cases z
theorem ok_cro (F : Fun K "checked_row_of" "checked_row_of" s_cro f fd) (B : Blt2 mg) (FW : Df P w K mg base "first_unfit" 3 ["things", "row"] (spFw K)) : FnOk P w K mg base (L2.CX P w) 4 f fd ["things", "row"] (spCrO K) := by
  refine F.okX sc_cro (fun vs H Q E h => ?_) (fun cdv A outer s H vs Q E hr h => ?_)
  · obtain ⟨T, n, a, r, rfl, _⟩ := h
    rfl
  · obtain ⟨T, n, a, r, rfl, n0, n9, hT, hT', hs, pr, k⟩ := h
    have nd := sc_cro.nd
    have r3 : Room 3 _ := hr.mono (by decide)
    refine ⟨_, pss_cons (ps_set (i := 2) nd rfl (.inl rfl) (pe_df FW r3 (by rfl) passUp (pa_cons (pv 0) (pa_cons (pv 1) pa_nil))))
      (pss_cons (ps_if (pt_cmpR op_notN (pv 2) pe_non (nomark _)) pss_never pss_nil)
      (pss_cons (ps_if (pt_cmpR op_lt (pe_callB call_len_seq (by rfl) B.len PySem.boot_len (pa_cons (pv 1) pa_nil)) (pe_callB call_len_seq (by rfl) B.len PySem.boot_len (pa_cons (pv 0) pa_nil)) (nomark _)) pss_never pss_nil)
      (pss_one (ps_ret (pe_callTy call_tuple_of (by rfl) B.tuple (by decide +kernel) (pa_cons (pv 1) pa_nil)))))), ?_⟩
    have e0 := fwG_row n0 pr
    refine ⟨_, rfl, _, rfl, T, n, a, nsD r, rfl, n9, hT, hT', hs.sq, fun _ H1 s1 => ?_, fun i e => (by rw [e0] at e; cases e)⟩
    refine ⟨_, rfl, rfl, _, rfl, iteF ?_⟩
    have lr : r.length = n.toNat := by
      have := pr.length_eq
      rwa [List.length_range] at this
    have lv : (nvs r).length = r.length := nvs_len r
    obtain ⟨ys, ly, sq, fin⟩ : ∃ ys : List V, ys.length = r.length ∧ (SqL K H1 a ys ∨ SqT K H1 a ys) ∧ ((SqL K H1 a ys ∧ ∀ l, H1 l = none → Q (.ref l) (upd H1 l (.tup ys))) ∨ (SqT K H1 a ys ∧ Q (.ref a) H1)) := by
      rcases sq_nvs (hs.mono s1) with (h | h) | ⟨e, h⟩
      · exact ⟨_, lv, .inl (SqL.of h), .inl ⟨SqL.of h, fun l nl => k _ l (s1.trans (same_upd nl)) (.inl upd_same)⟩⟩
      · exact ⟨_, lv, .inr (SqT.of h), .inr ⟨SqT.of h, k _ a s1 (.inl h)⟩⟩
      · subst e
        exact ⟨[], rfl, .inr (h _), .inr ⟨h _, k _ a s1 (.inr ⟨rfl, h⟩)⟩⟩
    refine ⟨_, rfl, a, ys, rfl, sq, _, rfl, T, rgV 0 n, rfl, .inr (hT' _ s1), _, _, rfl, rfl, _, rfl, ?_⟩
    rw [show decide ((ys.length : Int) < ((rgV 0 n).length : Int)) = false from decide_eq_false (by rw [rgV_length, ly, lr]; omega)]
    exact iteF ⟨_, rfl, a, ys, rfl, fin⟩
end
end K0
set_option Elab.async false
set_option linter.all false
set_option maxRecDepth 100000
set_option maxHeartbeats 4000000
namespace K0
open PySem PySem.Spec PyProof.Rows L2
theorem WebAt.monoX {C : Addr} {H H' : Hp} {p o E dx : Addr} {fs : List (Str × V)} {n : Int} {q : List Pr} (W : WebAt C H p n q) (ho : H o = some (.ins E dx fs)) (po : p ≠ o) (s : SameX o H H') : WebAt C H' p n q := by
  obtain ⟨⟨ddx, c, m, l, h1, h2, h3, h4, h5⟩, cl, n0, n8⟩ := W
  have tup : ∀ {b : Addr} {xs : List V}, H b = some (.tup xs) → H' b = some (.tup xs) := fun {b xs} h => s _ _ h fun z => by
    rw [z, ho] at h
    cases h
  exact ⟨⟨ddx, c, m, l, s _ _ h1 po, tup h2, h3, fun z hz => tup (h4 z hz), tup h5⟩, cl, n0, n8⟩
theorem putF_few1 (x : Str) (v : V) (fs : List (Str × V)) : (putF x v fs).length ≤ fs.length + 1 := length_putF x v fs
section
variable {P : Program} {w : World} {K : PySem.W.Frag} {mg : Str → Option Value} {base : Heap} {f : Addr} {fd : FuncData}
def spCrw (K : PySem.W.Frag) : Sp := fun vs H Q _ => ∃ n a r, vs = [.int n, .ref a] ∧ 0 ≤ n ∧ n ≤ 9 ∧ Sq3 K H a (nsD r) ∧ r.Perm (List.range n.toNat) ∧ ∀ H' t, Same H H' → RowT K H' t r → Q (.ref t) H'
theorem sc_crw : FnScope ["many", "row"] ["many", "row"] (defScope s_crw) := ⟨rfl, rfl, rfl, by decide +kernel, rfl, by decide +kernel, by decide +kernel⟩
theorem ok_crw (F : Fun K "checked_row" "checked_row" s_crw f fd) (B : Blt2 mg) (CR : Df P w K mg base "checked_row_of" 4 ["things", "row"] (spCrO K)) : FnOk P w K mg base (L2.CX P w) 5 f fd ["many", "row"] (spCrw K) := by
  refine F.okX sc_crw (fun vs H Q E h => ?_) (fun cdv A outer s H vs Q E hr h => ?_)
  · obtain ⟨n, a, r, rfl, _⟩ := h
    rfl
  · obtain ⟨n, a, r, rfl, n0, n9, hs, pr, k⟩ := h
    have nd := sc_crw.nd
    have r4 : Room 4 _ := hr.mono (by decide)
    refine ⟨_, pss_one (ps_ret (pe_df CR r4 (by rfl) passUp (pa_cons (pe_tupRg rfl (by rfl) B.tuple (prg_1 (by rfl) B.range (pv 0))) (pa_cons (pv 1) pa_nil)))), ?_⟩
    refine ⟨_, rfl, _, rfl, RgOk.of_le (by decide) (by omega) (by decide) n0, fun p0 np0 => ?_⟩
    have s0 : Same H (upd H p0 (.tup (rgV 0 n))) := same_upd np0
    exact ⟨_, rfl, p0, n, a, r, rfl, n0, n9, SqT.of upd_same, fun H' s' => SqT.of (s' _ _ upd_same), hs.mono s0, pr, fun H' t s' h => k H' t (s0.trans s') h⟩
/-- places_in -/
def spPin (K : PySem.W.Frag) : Sp := fun vs H Q _ => ∃ t r, vs = [.ref t] ∧ RowT K H t r ∧ r.Perm (List.range r.length) ∧ r.length ≤ 16 ∧ ∀ H' m, Same H H' → H m = none → H' m = some (.tup (nvs (posL r))) → Q (.ref m) H'
theorem sc_pin : FnScope ["row", "places", "place", "thing"] ["row"] (defScope s_pin) := ⟨rfl, rfl, rfl, by decide +kernel, rfl, by decide +kernel, by decide +kernel⟩
theorem ok_pin (F : Fun K "places_in" "places_in" s_pin f fd) (B : Blt2 mg) : FnOk P w K mg base (L2.CX P w) 1 f fd ["row"] (spPin K) := by
  refine F.okX sc_pin (fun vs H Q E h => ?_) (fun cdv A outer s H vs Q E hr h => ?_)
  · obtain ⟨t, r, rfl, _⟩ := h
    rfl
  · obtain ⟨t, r, rfl, ht, pr, l16, k⟩ := h
    have nd := sc_pin.nd
    refine ⟨_, pss_cons (ps_set (i := 1) nd rfl (.inl rfl) (pe_op op_rep (pe_lst (pa_cons pe_int pa_nil)) (pe_callB call_len_seq (by rfl) B.len PySem.boot_len (pa_cons (pv 0) pa_nil))))
      (pss_cons (ps_for (passes_of rfl) rfl (pi_or (pi_enum (by rfl) B.enum (pa_cons (pv 0) pa_nil)) (pi_enumT (by rfl) B.enum (pa_cons (pv 0) pa_nil))) (pg_tup rfl (pgs_cons (pg_name (i := 2) nd rfl (.inl rfl)) (pgs_cons (pg_name (i := 3) nd rfl (.inl rfl)) pgs_nil)))
        (pss_one (ps_asg (pv 2) (pg_sub (pv 1) (pv 3) set_list))))
      (pss_one (ps_ret (pe_callTy call_tuple_of (by rfl) B.tuple (by decide +kernel) (pa_cons (pv 1) pa_nil))))), ?_⟩
    refine ⟨by show 1 ≤ sizeLine; decide, fun l nl => ?_⟩
    have s1 : Same H (upd H l (.lst [V.int 0])) := same_upd nl
    refine ⟨_, rfl, t, nvs r, rfl, .inr (ht.mono s1).sqT, l, ((nvs r).length : Int), _, rfl, rfl, upd_same, by omega, by rw [nvs_len]; omega, ?_, fun u nu => ?_⟩
    · rw [Int.toNat_natCast, sizeLine_eq, nvs_len]
      show 1 * _ ≤ _
      omega
    rw [Int.toNat_natCast, rep_nvs, nvs_len, ← posU_zero]
    have s2 := s1.trans (same_upd (o := .lst (nvs (posU r 0))) nu)
    have hu : H u = none := s1.free nu
    have ndr : r.Nodup := pr.nodup_iff.mpr List.nodup_range
    let Pv : Nat → L2.St → Hp → Prop := fun i σ H' => ∃ o2 o3, σ = [some (.ref t), some (.ref u), o2, o3] ∧ Same H H' ∧ H' u = some (.lst (nvs (posU r i)))
    refine tfor_en rfl ht.sq Pv ⟨none, none, rfl, s2, upd_same⟩ (fun j σ H' p o e => ?_) (fun j v d σ H' T hj hv p nT => ?_) (fun σ H' p => ?_)
    · obtain ⟨_, _, _, sm, hl⟩ := p
      exact sm _ _ e
    · obtain ⟨o2, o3, rfl, sm, hl⟩ := p
      obtain ⟨x, hx, rfl⟩ : ∃ x : Nat, r[j]? = some x ∧ d = .int (x : Int) := by
        unfold nsD at hj
        rw [List.getElem?_map] at hj
        obtain ⟨x, hx, e⟩ := Option.map_eq_some_iff.mp hj
        exact ⟨x, hx, e.symm⟩
      cases hv
      have xl : x < r.length := List.mem_range.mp (pr.mem_iff.mp (List.mem_of_getElem? hx))
      have s3 : Same H' (upd H' T (.tup [.int (j : Nat), .int (x : Int)])) := same_upd nT
      have uT : u ≠ T := fun z => by rw [z, nT] at hl; cases hl
      refine ⟨T, _, rfl, SqT.of upd_same, rfl, _, _, rfl, _, _, rfl, rfl, ?_⟩
      refine ⟨_, rfl, _, rfl, _, rfl, u, _, _, _, rfl, rfl, s3 _ _ hl, ixN_nat (by rw [nvs_len]; unfold posU; rw [List.length_map, List.length_range]; exact xl), ?_⟩
      rw [nvs_set, posU_step ndr hx xl]
      refine ⟨_, _, rfl, fun a o e => ?_, upd_same⟩
      rw [upd_ne (ne_of_none e hu)]
      exact s3 _ _ (sm a o e)
    · obtain ⟨o2, o3, rfl, sm, hl⟩ := p
      have e1 : (nsD r).length = r.length := by unfold nsD; rw [List.length_map]
      rw [e1, posU_all pr] at hl
      refine ⟨_, rfl, u, _, rfl, .inl ⟨SqL.of hl, fun m nm => ?_⟩⟩
      exact k _ m (sm.trans (same_upd nm)) (sm.free nm) upd_same
abbrev s_oi : Stmt := s_o 1
/-- Order.__init__ -/
def spOi (K : PySem.W.Frag) (C D : Addr) : Sp := fun vs H Q _ => ∃ (o dx pw a : Addr) (n : Int) (q : List Pr) (r : List Nat), vs = [.ref o, .ref pw, .ref a] ∧ H o = some (.ins D dx []) ∧ pw ≠ o ∧ WebAt C H pw n q ∧ n ≤ 9 ∧ Sq3 K H a (nsD r) ∧ r.Perm (List.range n.toNat) ∧
  ∀ H', SameX o H H' → OrdAt K C D H' o pw n q r → Q .non H'
theorem sc_oi : FnScope ["self", "web", "row"] ["self", "web", "row"] (defScope s_oi) := ⟨rfl, rfl, rfl, by decide +kernel, rfl, by decide +kernel, by decide +kernel⟩
theorem ok_oi {C D : Addr} (F : Fun K "__init__" "Order.__init__" s_oi f fd) (TW : WebC K C) (T : OrdC K D) (CR : Df P w K mg base "checked_row" 5 ["many", "row"] (spCrw K)) (PI : Df P w K mg base "places_in" 1 ["row"] (spPin K)) : FnOk P w K mg base (L2.CX P w) 6 f fd ["self", "web", "row"] (spOi K C D) := by
  refine F.okX sc_oi (fun vs H Q E h => ?_) (fun cdv A outer s H vs Q E hr h => ?_)
  · obtain ⟨o, dx, pw, a, n, q, r, rfl, _⟩ := h
    rfl
  · obtain ⟨o, dx, pw, a, n, q, r, rfl, ho, po, W, n9, hs, pr, k⟩ := h
    have r5 : Room 5 _ := hr.mono (by decide)
    have r1 : Room 1 _ := hr.mono (by decide)
    refine ⟨_, pss_cons (ps_fld (pv 0) (pv 1) rfl)
      (pss_cons (ps_fld (pv 0) (pe_df CR r5 (by rfl) passUp (pa_cons (pe_fld (pv 1) rfl) (pa_cons (pv 2) pa_nil))) rfl)
      (pss_one (ps_fld (pv 0) (pe_df PI r1 (by rfl) passUp (pa_cons (pe_fld (pv 0) rfl) pa_nil)) rfl))), ?_⟩
    -- self.web = web
    refine ⟨_, rfl, _, rfl, o, D, dx, [], rfl, ho, T.cl, T.nw, (by show 0 < 1000; decide), ?_⟩
    have x1 : SameX o H (upd H o (.ins D dx (putF "web" (.ref pw) []))) := samex_upd
    have W1 := W.monoX ho po x1
    have hs1 := hs.monoX ho x1
    obtain ⟨ddx, c, mm, xs, h1, _⟩ := W1.tuple
    -- self.row = checked_row(web.many, row)
    refine ⟨_, rfl, pw, C, ddx, _, _, rfl, h1, TW.cl, TW.nm, wf_many _ _ _, _, rfl, n, a, r, rfl, W.n0, n9, hs1, pr, fun H2 t s2 ht => ?_⟩
    have ho2 : H2 o = some (.ins D dx (putF "web" (.ref pw) [])) := s2 _ _ upd_same
    have l1 : (putF ("web" : Str) (.ref pw) []).length ≤ 1 := putF_few1 _ _ _
    refine ⟨_, rfl, o, D, dx, _, rfl, ho2, T.cl, T.nr, (by omega), ?_⟩
    have x2 : SameX o H2 (upd H2 o (.ins D dx (putF "row" (.ref t) (putF "web" (.ref pw) [])))) := samex_upd
    have W2 := (W1.mono s2).monoX ho2 po x2
    have ht2 : RowT K (upd H2 o (.ins D dx (putF "row" (.ref t) (putF "web" (.ref pw) [])))) t r := by
      rcases ht with h | h
      · exact .inl (x2 _ _ h fun z => by rw [z, ho2] at h; cases h)
      · exact .inr h
    have lr : r.length = n.toNat := by
      have := pr.length_eq
      rwa [List.length_range] at this
    -- self.places = places_in(self.row)
    refine ⟨_, rfl, o, D, dx, _, _, rfl, upd_same, T.cl, T.nr, (by rw [lookup_putF, if_pos rfl]), t, r, rfl, ht2, by rw [lr]; exact pr, by rw [lr]; omega, fun H3 m s3 nm hm => ?_⟩
    have ho3 := s3 _ _ (upd_same (H := H2) (a := o) (o := .ins D dx (putF "row" (.ref t) (putF "web" (.ref pw) []))))
    have l2 : (putF ("row" : Str) (.ref t) (putF ("web" : Str) (.ref pw) [])).length ≤ 2 := Nat.le_trans (putF_few1 _ _ _) (by omega)
    refine ⟨_, rfl, o, D, dx, _, rfl, ho3, T.cl, T.np, (by omega), ?_⟩
    have x4 : SameX o H3 (upd H3 o (.ins D dx (ofs pw t m))) := samex_upd
    have keep : ∀ {b : Addr} {xs : List V}, H3 b = some (.tup xs) → (upd H3 o (.ins D dx (ofs pw t m))) b = some (.tup xs) := fun {b xs} h => x4 _ _ h fun z => by
      rw [z, ho3] at h
      cases h
    refine k _ (((x1.trans (sx s2)).trans x2).trans ((sx s3).trans x4)) ⟨⟨dx, t, m, upd_same, ?_, keep hm⟩, (W2.mono s3).monoX ho3 po x4, n9, pr⟩
    rcases ht2.mono s3 with h | h
    · exact .inl (keep h)
    · exact .inr h
end
end K0
set_option Elab.async false
set_option linter.all false
set_option maxRecDepth 100000
set_option maxHeartbeats 4000000
namespace K0
open PySem PySem.Spec PyProof.Rows L2 ClX
/-- Order(web, row) -/
def spMo (K : PySem.W.Frag) (C D : Addr) : Sp := fun vs H Q _ => ∃ (pw a : Addr) (n : Int) (q : List Pr) (r : List Nat), vs = [.ref pw, .ref a] ∧ WebAt C H pw n q ∧ n ≤ 9 ∧ Sq3 K H a (nsD r) ∧ r.Perm (List.range n.toNat) ∧ ∀ H' o, Same H H' → H o = none → OrdAt K C D H' o pw n q r → Q (.ref o) H'
structure OrdK (P : Program) (w : World) (K : PySem.W.Frag) (mg : Str → Option Value) (base : Heap) (C D : Addr) : Prop where
  g : mg "Order" = some (.ref D)
  ex : ∃ (f : Addr) (fd : FuncData), Mk K D f ∧ FnOk P w K mg base (L2.CX P w) 6 f fd ["self", "web", "row"] (spOi K C D) ∧ Binds K fd ["self", "web", "row"] []
theorem spMo_in {K : PySem.W.Frag} {C D : Addr} {vs : List V} {H : Hp} {Q : VK} {E : XK} (h : spMo K C D vs H Q E) (x dx : Addr) (nx : H x = none) (ndx : H dx = none) (ne : dx ≠ x) :
    spOi K C D (.ref x :: vs) (upd (upd H dx (.own x)) x (.ins D dx [])) (fun v H2 => v = .non ∧ Q (.ref x) H2) E := by
  obtain ⟨pw, a, n, q, r, rfl, W, n9, hs, pr, k⟩ := h
  have s1 : Same H (upd (upd H dx (.own x)) x (.ins D dx [])) := fun b o e => by
    rw [upd_ne (ne_of_none e nx), upd_ne (ne_of_none e ndx)]
    exact e
  have po : pw ≠ x := by
    obtain ⟨ddx, c, m, xs, h1, _⟩ := W.tuple
    exact ne_of_none h1 nx
  refine ⟨x, dx, pw, a, n, q, r, rfl, upd_same, po, W.mono s1, n9, hs.mono s1, pr, fun H' z O => ⟨rfl, k H' x (fun b o e => z b o (s1 b o e) (ne_of_none e nx)) nx O⟩⟩
section
variable {X : Cx} {C D : Addr} {E : XK} {e : Expr} {es : List Expr} {t : TA} {p pos : Pos} {i : Nat} {x : Str}
theorem pe_ord (T : OrdK X.prog X.w X.K X.mg X.base C D) (hr : Room 7 X.A) (hg : Gl X "Order") (hx : Passes (L2.CX X.prog X.w) X E) (ha : PA X (e :: es) t)
    (he : starEach (e :: es) X.env = (false, eval e X.env) :: starEach es X.env := by rfl) (hpl : (backTo pos (starEach es X.env)).any (·.1) = false := by rfl) :
    PE X (.Call (.Name "Order" p) (e :: es) [] pos) (tCall (spMo X.K C D) [] E t) := by
  obtain ⟨f, fd, M, F, b⟩ := T.ex
  refine ⟨fun pins s σ H Q I h => ?_⟩
  refine wpAny_Call_Name_kw (ld_glob I hg T.g ?_ (by decide))
  refine PySem.W.callWith_K (h₀ := X.base) I.ok.mod.kin M.kp (thn (ha.run pos pins s σ H _ I h) fun us s1 ⟨vs, H1, I1, r, q⟩ => ⟨I1.kIn, ?_⟩) he hpl
  refine run_make (dvs := []) M F hr b .nil hx I1 r fun y dx nx ndx ne => ?_
  rw [List.append_nil]
  have q : spMo X.K C D (vs ++ []) H1 Q E := q
  rw [List.append_nil] at q
  exact spMo_in q y dx nx ndx ne
end
theorem th_natO {n : Int} {x : Nat} (h : (x : Int) < n) : isTh n (.int (x : Int)) = true := decide_eq_true ⟨by omega, h⟩
section
variable {P : Program} {w : World} {K : PySem.W.Frag} {mg : Str → Option Value} {base : Heap} {f : Addr} {fd : FuncData}
/-- ahead -/
def spAh (K : PySem.W.Frag) (C D : Addr) : Sp := fun vs H Q _ => ∃ (o p : Addr) (n : Int) (q : List Pr) (r : List Nat) (x y : Nat), vs = [.ref o, .int (x : Int), .int (y : Int)] ∧ OrdAt K C D H o p n q r ∧ (x : Int) < n ∧ (y : Int) < n ∧ Ret (.bl (decide (r.idxOf x < r.idxOf y))) H Q
theorem sc_ah : FnScope ["self", "x", "y"] ["self", "x", "y"] (defScope (s_o 2)) := ⟨rfl, rfl, rfl, by decide +kernel, rfl, by decide +kernel, by decide +kernel⟩
theorem ok_ah {C D CT : Addr} (F : Fun K "ahead" "Order.ahead" (s_o 2) f fd) (TW : WebC K C) (T : OrdC K D) (CH : Df P w K mg base "check_thing" 3 ["many", "thing"] (spCt CT)) : FnOk P w K mg base (L2.CX P w) 4 f fd ["self", "x", "y"] (spAh K C D) := by
  refine F.okX sc_ah (fun vs H Q E h => ?_) (fun cdv A outer s H vs Q E hr h => ?_)
  · obtain ⟨o, p, n, q, r, x, y, rfl, _⟩ := h
    rfl
  · obtain ⟨o, p, n, q, r, x, y, rfl, O, hx, hy, k⟩ := h
    have r3 : Room 3 _ := hr.mono (by decide)
    obtain ⟨dx, t, m, h1, h2, h3⟩ := O.ex
    obtain ⟨ddx, c, mm, xs, w1, _⟩ := O.W.tuple
    have lr := O.len
    refine ⟨_, pss_cons (ps_expr (pe_df CH r3 (by rfl) passUp (pa_cons (pe_fld (pe_fld (pv 0) rfl) rfl) (pa_cons (pv 1) pa_nil))))
      (pss_cons (ps_expr (pe_df CH r3 (by rfl) passUp (pa_cons (pe_fld (pe_fld (pv 0) rfl) rfl) (pa_cons (pv 2) pa_nil))))
      (pss_one (ps_ret (pe_cmpR op_lt (pe_ix ix_tup (pe_fld (pv 0) rfl) (pv 1) (fun _ _ => rfl)) (pe_ix ix_tup (pe_fld (pv 0) rfl) (pv 2) (fun _ _ => rfl)) (nomark _))))), ?_⟩
    refine ⟨_, rfl, o, D, dx, _, _, rfl, h1, T.cl, T.nw, of_web _ _ _, p, C, ddx, _, _, rfl, w1, TW.cl, TW.nm, wf_many _ _ _, _, rfl, n, _, .int (x : Int), rfl, .int _, fun _ H1 s1 => ?_, fun z => (by rw [th_natO hx] at z; cases z)⟩
    refine ⟨_, rfl, o, D, dx, _, _, rfl, s1 _ _ h1, T.cl, T.nw, of_web _ _ _, p, C, ddx, _, _, rfl, s1 _ _ w1, TW.cl, TW.nm, wf_many _ _ _, _, rfl, n, _, .int (y : Int), rfl, .int _, fun _ H2 s2 => ?_, fun z => (by rw [th_natO hy] at z; cases z)⟩
    have s12 := s1.trans s2
    refine ⟨_, rfl, o, D, dx, _, _, rfl, s12 _ _ h1, T.cl, T.np, of_places _ _ _, _, rfl, m, _, (x : Int), _, rfl, rfl, SqT.of (s12 _ _ h3), nvs_at (by rw [posL_len]; omega), _, rfl, o, D, dx, _, _, rfl, s12 _ _ h1, T.cl, T.np, of_places _ _ _, _, rfl, m, _, (y : Int), _, rfl, rfl, SqT.of (s12 _ _ h3), nvs_at (by rw [posL_len]; omega), _, _, rfl, rfl, ?_⟩
    rw [posL_at (by omega), posL_at (by omega)]
    show Q (V.bl (decide (((r.idxOf x : Nat) : Int) < ((r.idxOf y : Nat) : Int)))) H2
    have e : decide (((r.idxOf x : Nat) : Int) < ((r.idxOf y : Nat) : Int)) = decide (r.idxOf x < r.idxOf y) := decide_eq_decide.mpr (by omega)
    rw [e]
    exact k _ s12
theorem nsD_range (n : Int) : rgV 0 n = nvs (List.range n.toNat) := by
  rw [rgV_ints]
  unfold nvs
  rw [List.map_map]
  rfl
end
end K0
set_option Elab.async false
set_option linter.all false
set_option maxRecDepth 100000
set_option maxHeartbeats 4000000
namespace K0
open PySem PySem.Spec PyProof.Rows L2 ClX
abbrev s_bdr : Stmt := top 34
abbrev s_fb : Stmt := top 35
/-- led in at both ends -/
def badB (r : List Nat) : Rw → Bool
  | [a, b, c, d] => decide (r.idxOf a.toNat < r.idxOf b.toNat) && decide (r.idxOf d.toNat < r.idxOf c.toNat)
  | _ => false
def badL (r : List Nat) (rs : List Rw) : List Rw := rs.filter (badB r)
theorem IsRows.few9 {n : Int} {q : List Pr} {rs : List Rw} (h : IsRows n q rs) (hq : Cl n q) (n9 : n ≤ 9) : rs.length ≤ 6561 := by
  let A : List (List Int) := (List.range 9).flatMap fun (a : Nat) => (List.range 9).flatMap fun (b : Nat) => (List.range 9).flatMap fun (c : Nat) => (List.range 9).map fun (d : Nat) => ([(a : Int), (b : Int), (c : Int), (d : Int)] : List Int)
  have nd : rs.Nodup := h.up.imp fun {a b} l e => by
    rw [e] at l
    exact Int.lt_irrefl _ l
  have l1 : rs.length ≤ A.length := len_sub rs A nd fun r hr => by
    obtain ⟨a, b, c, d, rfl, _, R⟩ := (h.mem r).mp hr
    obtain ⟨ra, rb, rc, rd⟩ := R.rng hq
    have m : ∀ {x : Int}, 0 ≤ x ∧ x < n → x.toNat ∈ List.range 9 ∧ ((x.toNat : Nat) : Int) = x := fun hx => ⟨List.mem_range.mpr (by omega), by omega⟩
    refine List.mem_flatMap.mpr ⟨_, (m ra).1, List.mem_flatMap.mpr ⟨_, (m rb).1, List.mem_flatMap.mpr ⟨_, (m rc).1, List.mem_map.mpr ⟨_, (m rd).1, ?_⟩⟩⟩⟩
    rw [(m ra).2, (m rb).2, (m rc).2, (m rd).2]
  refine Nat.le_trans l1 ?_
  have r9 : (List.range 9).length = 9 := List.length_range
  refine Nat.le_trans (len_fm _ fun a _ => len_fm _ fun b _ => len_fm (m := 9) _ fun c _ => ?_) ?_
  · rw [List.length_map, r9]
    exact Nat.le_refl _
  · rw [r9]
    decide
theorem fil_snoc' {α : Type} {l : List α} {i : Nat} {x : α} (p : α → Bool) (h : l[i]? = some x) : (l.take (i + 1)).filter p = (l.take i).filter p ++ if p x = true then [x] else [] := by
  rw [take_at h, List.filter_append]
  congr 1
  cases e : p x with
  | true => rw [if_pos rfl, List.filter_cons_of_pos e]; rfl
  | false => rw [if_neg Bool.false_ne_true, List.filter_cons_of_neg (by rw [e]; exact Bool.false_ne_true)]; rfl
section
variable {P : Program} {w : World} {K : PySem.W.Frag} {mg : Str → Option Value} {base : Heap} {f : Addr} {fd : FuncData}
/-- bad_rows -/
def spBdr (K : PySem.W.Frag) (C D : Addr) : Sp := fun vs H Q _ => ∃ (o p : Addr) (n : Int) (q : List Pr) (r : List Nat), vs = [.ref o] ∧ OrdAt K C D H o p n q r ∧ ∀ (H' : Hp) (t : Addr) (xs : List V) (rs : List Rw), Same H H' → H t = none → H' t = some (.tup xs) → DtAll H' xs ((badL r rs).map rwD) → IsRows n q rs → Q (.ref t) H'
theorem sc_bdr : FnScope ["order", "a", "b", "c", "d"] ["order"] (defScope s_bdr) := ⟨rfl, rfl, rfl, by decide +kernel, rfl, by decide +kernel, by decide +kernel⟩
theorem ah_use {C D : Addr} {H : Hp} {o p : Addr} {n : Int} {q : List Pr} {r : List Nat} {x y : Int} {Q : VK} {E : XK} (O : OrdAt K C D H o p n q r) (hx : 0 ≤ x ∧ x < n) (hy : 0 ≤ y ∧ y < n) (k : Ret (.bl (decide (r.idxOf x.toNat < r.idxOf y.toNat))) H Q) : spAh K C D [.ref o, .int x, .int y] H Q E :=
  ⟨o, p, n, q, r, x.toNat, y.toNat, by rw [Int.toNat_of_nonneg hx.1, Int.toNat_of_nonneg hy.1], O, by omega, by omega, k⟩
theorem ok_bdr {C D : Addr} (F : Fun K "bad_rows" "bad_rows" s_bdr f fd) (B : Blt2 mg) (T : OrdC K D) (RF : Df P w K mg base "rows_of_four" 2 ["web"] (spRf C)) (AH : Mt P w K mg base D "ahead" 4 ["self", "x", "y"] (spAh K C D)) : FnOk P w K mg base (L2.CX P w) 5 f fd ["order"] (spBdr K C D) := by
  refine F.okX sc_bdr (fun vs H Q E h => ?_) (fun cdv A outer s H vs Q E hr h => ?_)
  · obtain ⟨o, p, n, q, r, rfl, _⟩ := h
    rfl
  · obtain ⟨o, p, n, q, r, rfl, O, k⟩ := h
    have nd := sc_bdr.nd
    have r2 : Room 2 _ := hr.mono (by decide)
    have r4 : Room 4 _ := hr.mono (by decide)
    obtain ⟨dx, t, m, h1, h2, h3⟩ := O.ex
    let tA (i j : Nat) : TT := tB (tMeth D "ahead" (spAh K C D) [] (fun _ _ _ => False) (tVar 0) (tCons (tVar i) (tCons (tVar j) tNil)))
    refine ⟨_, pss_one (ps_ret (pe_callTy call_tuple_of (by rfl) B.tuple (by decide +kernel) (pa_cons (pe_lc (own := [("a", 1), ("b", 2), ("c", 3), ("d", 4)]) (g := gTup K 4 (gCons (gName 1) (gCons (gName 2) (gCons (gName 3) (gCons (gName 4) gNil))))) (tt := tAnd (tA 1 2) (tA 4 3)) (te := tTup (tCons (tVar 1) (tCons (tVar 2) (tCons (tVar 3) (tCons (tVar 4) tNil))))) rfl nd
      (pi_tup (pe_df RF r2 (by rfl) passUp (pa_cons (pe_fld (pv 0) rfl) pa_nil))) (blkOk_by (N := ["order", "a", "b", "c", "d"]) (sc := defScope s_bdr) (by decide +kernel))
      (fun _ _ _ _ _ => pg_tup rfl (pgs_cons (pg_name (i := 1) nd rfl (.inl rfl)) (pgs_cons (pg_name (i := 2) nd rfl (.inl rfl)) (pgs_cons (pg_name (i := 3) nd rfl (.inl rfl)) (pgs_cons (pg_name (i := 4) nd rfl (.inl rfl)) pgs_nil)))))
      (fun _ _ _ _ _ => pts_one (PW.pt (pw_and (pt_val (pe_mt1 AH r4 passE0 (pv 0) (pa_cons (pv 1) (pa_cons (pv 2) pa_nil)))) (pw_and1 (pt_val (pe_mt1 AH r4 passE0 (pv 0) (pa_cons (pv 4) (pa_cons (pv 3) pa_nil))))))))
      (fun _ _ _ _ _ => pe_tup (pa_cons (pv 1) (pa_cons (pv 2) (pa_cons (pv 3) (pa_cons (pv 4) pa_nil)))))) pa_nil))), ?_⟩
    refine ⟨_, rfl, o, D, dx, _, _, rfl, h1, T.cl, T.nw, of_web _ _ _, p, n, q, rfl, O.W, fun H1 t1 xs rs s1 nt1 ht1 dx1 is => ⟨t1, rfl, ⟨_, SqT.of ht1⟩, fun G nG => ?_⟩⟩
    have few := is.few9 O.W.cl O.n9
    have lx : xs.length = rs.length := by
      have := dx1.len
      rw [List.length_map] at this
      exact this
    refine lc_tup (K := K) (a := t1) (xs := xs) (fun i H' => Same H1 H' ∧ GrowR H' G ((rs.take i).filter (badB r))) ⟨same_upd nG, GrowR.nil nG⟩ (fun i H' _ z => SqT.of (z.1 _ _ ht1)) (fun i v H' hi z => ?_) (fun H2 z => ?_)
    · obtain ⟨s2, g2⟩ := z
      obtain ⟨row, ra, hr', rfl, hra⟩ := dta_row (dx1.mono s2) hi
      obtain ⟨a, b, c, d, rfl, _, R⟩ := (is.mem row).mp (List.mem_of_getElem? hr')
      obtain ⟨rga, rgb, rgc, rgd⟩ := R.rng O.W.cl
      have s12 := s1.trans s2
      refine ⟨ra, _, rfl, SqT.of hra, rfl, _, _, rfl, _, _, rfl, _, _, rfl, _, _, rfl, rfl, rfl, ?_⟩
      have O2 := O.mono s12
      refine ⟨_, rfl, o, dx, _, rfl, s12 _ _ h1, of_no _ _ _ (by decide +kernel) (by decide +kernel) (by decide +kernel), _, rfl, _, rfl, ah_use (E := fun _ _ _ => False) O2 rga rgb fun H3 s3 => ⟨_, rfl, ?_⟩⟩
      have eF := fil_snoc' (badB r) hr'
      cases e1 : decide (r.idxOf a.toNat < r.idxOf b.toNat) with
      | false =>
        refine iteF (iteF ⟨s2.trans s3, ?_⟩)
        have eb : badB r [a, b, c, d] = false := by
          show (_ && _) = false
          rw [e1]
          rfl
        rw [eF, eb, if_neg Bool.false_ne_true, List.append_nil]
        exact g2.mono s3
      | true =>
        refine iteT ⟨_, rfl, o, dx, _, rfl, (s12.trans s3) _ _ h1, of_no _ _ _ (by decide +kernel) (by decide +kernel) (by decide +kernel), _, rfl, _, rfl, ah_use (E := fun _ _ _ => False) (O2.mono s3) rgd rgc fun H4 s4 => ⟨_, rfl, ?_⟩⟩
        have eb : badB r [a, b, c, d] = decide (r.idxOf d.toNat < r.idxOf c.toNat) := by
          show (_ && _) = _
          rw [e1]
          rfl
        cases e2 : decide (r.idxOf d.toNat < r.idxOf c.toNat) with
        | false =>
          refine iteF ⟨(s2.trans s3).trans s4, ?_⟩
          rw [eF, eb, e2, if_neg Bool.false_ne_true, List.append_nil]
          exact (g2.mono s3).mono s4
        | true =>
          refine iteT ⟨_, rfl, _, rfl, _, rfl, _, rfl, (by show 4 ≤ sizeLine; decide), fun u nu => ?_⟩
          obtain ⟨as, hA, lA, _⟩ := ((g2.mono s3).mono s4).at
          have s5 : Same H4 (upd H4 u (.tup (([a, b, c, d] : Rw).map V.int))) := same_upd nu
          refine ⟨as, s5 _ _ hA, ?_, same_keep nG (((s2.trans s3).trans s4).trans s5), ?_⟩
          · have h5 := List.length_filter_le (badB r) (rs.take i)
            have h6 : (rs.take i).length ≤ rs.length := by rw [List.length_take]; omega
            rw [lA, sizeLine_eq]
            omega
          · rw [eF, eb, e2, if_pos rfl]
            exact ((g2.mono s3).mono s4).push (r := [a, b, c, d]) nu hA
    · obtain ⟨s2, g2⟩ := z
      rw [lx, List.take_length] at g2
      obtain ⟨as, hA, lA, dA⟩ := g2.at
      refine ⟨G, as, rfl, .inl ⟨SqL.of hA, fun l nl => ?_⟩⟩
      exact k _ l as rs ((s1.trans s2).trans (same_upd nl)) ((s1.trans s2).free nl) upd_same (dA.mono (same_upd nl)) is
/-- first_bad -/
def spFb (K : PySem.W.Frag) (C D : Addr) : Sp := fun vs H Q _ => ∃ (o p : Addr) (n : Int) (q : List Pr) (r : List Nat), vs = [.ref o] ∧ OrdAt K C D H o p n q r ∧
  (∀ (H' : Hp) (rs : List Rw), Same H H' → IsRows n q rs → badL r rs = [] → Q .non H') ∧ (∀ (H' : Hp) (t : Addr) (rs l : List Rw) (z : Rw), Same H H' → IsRows n q rs → badL r rs = z :: l → H' t = some (.tup (z.map V.int)) → Q (.ref t) H')
theorem sc_fb : FnScope ["order", "rows"] ["order"] (defScope s_fb) := ⟨rfl, rfl, rfl, by decide +kernel, rfl, by decide +kernel, by decide +kernel⟩
theorem ok_fb {C D : Addr} (F : Fun K "first_bad" "first_bad" s_fb f fd) (BR : Df P w K mg base "bad_rows" 5 ["order"] (spBdr K C D)) : FnOk P w K mg base (L2.CX P w) 6 f fd ["order"] (spFb K C D) := by
  refine F.okX sc_fb (fun vs H Q E h => ?_) (fun cdv A outer s H vs Q E hr h => ?_)
  · obtain ⟨o, p, n, q, r, rfl, _⟩ := h
    rfl
  · obtain ⟨o, p, n, q, r, rfl, O, k0, k1⟩ := h
    have nd := sc_fb.nd
    have r5 : Room 5 _ := hr.mono (by decide)
    refine ⟨_, pss_cons (ps_set (i := 1) nd rfl (.inl rfl) (pe_df BR r5 (by rfl) passUp (pa_cons (pv 0) pa_nil)))
      (pss_cons (ps_if (pt_truth (pv 1) (by intro _; rfl)) (pss_one (ps_ret (pe_ix ix_tup (pv 1) pe_int (fun _ _ => rfl)))) pss_nil)
      (pss_one (ps_ret pe_non))), ?_⟩
    refine ⟨_, rfl, o, p, n, q, r, rfl, O, fun H1 t xs rs s1 nt ht dx is => ?_⟩
    cases e : badL r rs with
    | nil =>
      rw [e] at dx
      cases dx
      refine ⟨_, rfl, false, .inr (.inl ⟨[], SqT.of ht, rfl⟩), iteF ?_⟩
      exact k0 H1 rs s1 is e
    | cons z l =>
      rw [e] at dx
      cases dx with
      | @cons v _ vs _ h hh =>
        obtain ⟨a, rfl, ha⟩ := dt_row h
        refine ⟨_, rfl, true, .inr (.inl ⟨_, SqT.of ht, rfl⟩), iteT ?_⟩
        exact ⟨_, rfl, t, _, 0, _, rfl, rfl, SqT.of ht, atI_nat (j := 0) rfl, k1 H1 a rs l z s1 is e ha⟩
end
end K0
set_option Elab.async false
set_option linter.all false
set_option maxRecDepth 100000
set_option maxHeartbeats 4000000
namespace K0
open PySem PySem.Spec PyProof.Rows L2 ClX
abbrev s_let : Stmt := top 70
abbrev s_lbd : Stmt := top 71
theorem ps_wk {X : Cx} {st : Stmt} {t t' : TS} (h : PS X st t) (g : ∀ D σ H, t' D σ H → t D σ H) : PS X st t' := ⟨fun pins s σ H D I z => h.run pins s σ H D I (g D σ H z)⟩
theorem nvs_flat (r : List Nat) : (nvs r).all flatV = true := List.all_eq_true.mpr fun v hv => by obtain ⟨i, _, rfl⟩ := List.mem_map.mp hv; rfl
theorem idx_at_mem {r : List Nat} {x : Nat} (h : x ∈ r) : r[r.idxOf x]? = some x := by
  have hl := List.idxOf_lt_length_of_mem h
  rw [List.getElem?_eq_getElem hl, List.getElem_idxOf hl]
theorem idx_no {r : List Nat} {x m : Nat} (h : m < r.idxOf x) {y : Nat} (hy : r[m]? = some y) : y ≠ x := fun e => by
  subst e
  obtain ⟨hm, e⟩ := List.getElem?_eq_some_iff.mp hy
  have h2 := List.not_of_lt_findIdx (p := (· == y)) (xs := r) h
  rw [e] at h2
  simp at h2
theorem idx_use {K : PySem.W.Frag} {H : Hp} {a : Addr} {r : List Nat} {x : Nat} {Q : VK} (h : x ∈ r) (ha : SqL K H a (nvs r)) (q : Q (.int (r.idxOf x : Nat)) H) : rIndex K (.ref a) [.int (x : Int)] H Q := by
  refine ⟨a, nvs r, .int (x : Int), r.idxOf x, .int (x : Int), rfl, rfl, ha, rfl, nvs_flat r, ?_, by show ((x : Int) == (x : Int)) = true; simp, fun m z' hm hz => ?_, q⟩
  · unfold nvs
    rw [List.getElem?_map, idx_at_mem h]
    rfl
  · obtain ⟨y, hy, rfl⟩ := nvs_val hz
    have := idx_no hm hy
    show ((y : Int) == (x : Int)) = false
    simpa using fun e : (y : Int) = x => this (by omega)
section
variable {P : Program} {w : World} {K : PySem.W.Frag} {mg : Str → Option Value} {base : Heap} {f : Addr} {fd : FuncData}
/-- one letter more, or none -/
def tLet (cn : Nat → Nat → Nat → Nat → Bool) (c : Str) : TS := fun D σ H => ∃ (v0 v1 : Option V) (A : Addr) (p0 p1 p2 p3 : Nat) (s : Str), σ = [v0, v1, some (.ref A), some (.str s), none] ∧ H A = some (.lst (nvs [p0, p1, p2, p3])) ∧ s.length + c.length ≤ sizeLine ∧
  (cn p0 p1 p2 p3 = true → D.nx [v0, v1, some (.ref A), some (.str (s ++ c)), none] H) ∧ (cn p0 p1 p2 p3 = false → D.nx σ H)
abbrev letN : List Str := ["_law_row_here", "_law_quad", "_law_at", "_law_letters_here", "_law_x"]
theorem sc_let : FnScope letN ["_law_row_here", "_law_quad"] (defScope s_let) := ⟨rfl, rfl, rfl, by decide +kernel, rfl, by decide +kernel, by decide +kernel⟩
theorem lt_dec (a b : Nat) : decide ((a : Int) < (b : Int)) = decide (a < b) := decide_eq_decide.mpr (by omega)
end
end K0
set_option Elab.async false
set_option linter.all false
set_option maxRecDepth 100000
set_option maxHeartbeats 4000000
namespace K0
open PySem PySem.Spec PyProof.Rows L2 ClX
section
variable {P : Program} {w : World} {K : PySem.W.Frag} {mg : Str → Option Value} {base : Heap} {f : Addr} {fd : FuncData}
abbrev lbdN : List Str := ["_law_row_here", "_law_quads_here", "_law_letter", "_law_quad"]
theorem sc_lbd : FnScope lbdN ["_law_row_here", "_law_quads_here", "_law_letter"] (defScope s_lbd) := ⟨rfl, rfl, rfl, by decide +kernel, rfl, by decide +kernel, by decide +kernel⟩
end
end K0
set_option Elab.async false
set_option linter.all false
set_option maxRecDepth 100000
set_option maxHeartbeats 4000000
namespace K0
open PySem PySem.Spec PyProof.Rows L2 ClX
/-- the letters that there are -/
abbrev ftcd : Str := Str.ofString "FTCD"
def okL (l : Str) : Prop := (∀ c ∈ l.cps.toList, c ∈ ftcd.cps.toList) ∧ l.cps.size ≤ 1000
def addL (b : Bool) (c s : Str) : Str := if b = true then s ++ c else s
def ltI (r : List Nat) (x y : Int) : Bool := decide (r.idxOf x.toNat < r.idxOf y.toNat)
def letS (r : List Nat) (a b c d : Int) : Str := addL (ltI r d b && ltI r a c) "D" (addL (ltI r b d && ltI r c a) "C" (addL (ltI r b a && ltI r c d) "T" (addL (ltI r a b && ltI r d c) "F" "")))
def hitB (l s : Str) : Bool := (s.cps.toList.map fun c => decide (c ∈ l.cps.toList)).any id
def hitR (l : Str) (r : List Nat) : Rw → Bool
  | [a, b, c, d] => hitB l (letS r a b c d)
  | _ => false
end K0
set_option Elab.async false
set_option linter.all false
set_option maxRecDepth 100000
set_option maxHeartbeats 4000000
set_option Elab.async false
set_option linter.all false
set_option maxRecDepth 100000
set_option maxHeartbeats 4000000
namespace K0
open PySem PySem.Spec PyProof.Rows L2 ClX
def oneL (l : Str) : Prop := ∃ c ∈ ftcd.cps.toList, l = ⟨#[c]⟩
theorem oneL.ok {l : Str} (h : oneL l) : okL l := by
  obtain ⟨c, hc, rfl⟩ := h
  refine ⟨fun x hx => ?_, by show 1 ≤ 1000; decide⟩
  have : x ∈ [c] := hx
  rw [List.mem_singleton.mp this]
  exact hc
theorem GrowR.oldC {H : Hp} {D u : Addr} {rs : List Rw} {r : Rw} (g : GrowR H D rs) (uD : u ≠ D) (hu : H u = some (.tup (r.map V.int))) {xs : List V} (hx : H D = some (.lst xs)) : GrowR (upd H D (.lst (xs ++ [.ref u]))) D (rs ++ [r]) := by
  obtain ⟨l, h, e, p⟩ := g
  rw [h] at hx
  cases hx
  refine ⟨l ++ [(u, r)], by rw [upd_same, List.map_append]; rfl, by rw [List.map_append, e]; rfl, fun z hz => ?_⟩
  have hz2 : H z.1 = some (.tup (z.2.map V.int)) := by
    rcases List.mem_append.mp hz with hz | hz
    · exact p z hz
    · rw [List.mem_singleton.mp hz]
      exact hu
  have zD : z.1 ≠ D := fun e => by
    rw [e, h] at hz2
    cases hz2
  rw [upd_ne zD]
  exact hz2
theorem GrowR.ne' {H : Hp} {D u : Addr} {rs : List Rw} {r : Rw} (g : GrowR H D rs) (hu : H u = some (.tup (r.map V.int))) : u ≠ D := fun e => by
  obtain ⟨xs, h, _⟩ := g.at
  rw [e, h] at hu
  cases hu
section
variable {P : Program} {w : World} {K : PySem.W.Frag} {mg : Str → Option Value} {base : Heap} {f : Addr} {fd : FuncData}
/-- _law_letters, exactly -/
def spLe2 : Sp := fun vs H Q _ => ∃ (a t : Addr) (r : List Nat) (x0 x1 x2 x3 : Int), vs = [.ref a, .ref t] ∧ H a = some (.lst (nvs r)) ∧ H t = some (.tup (([x0, x1, x2, x3] : Rw).map V.int)) ∧ (∀ x ∈ ([x0, x1, x2, x3] : Rw), 0 ≤ x ∧ x.toNat ∈ r) ∧ r.length ≤ 16 ∧
  Ret (.str (letS r x0 x1 x2 x3)) H Q
theorem ok_le2 (F : Fun K "_law_letters" "_law_letters" s_let f fd) : FnOk P w K mg base (L2.CX P w) 1 f fd ["_law_row_here", "_law_quad"] spLe2 := by
  refine F.okX sc_let (fun vs H Q E h => ?_) (fun cdv A outer s H vs Q E hr h => ?_)
  · obtain ⟨a, t, r, x0, x1, x2, x3, rfl, _⟩ := h
    rfl
  · obtain ⟨a, t, r, x0, x1, x2, x3, rfl, ha, ht, hx, l16, k⟩ := h
    have nd := sc_let.nd
    have L4 : ∀ {D : Ends} {A : Addr} {p0 p1 p2 p3 : Nat} {H : Hp}, H A = some (.lst (nvs [p0, p1, p2, p3])) → SqL K H A (nvs [p0, p1, p2, p3]) := fun h => SqL.of h
    refine' ⟨_, pss_cons ?h1 (pss_cons ?h2 (pss_cons (ps_wk (t' := tLet (fun p0 p1 p2 p3 => decide (p0 < p1) && decide (p3 < p2)) "F") ?h3 ?g3) (pss_cons (ps_wk (t' := tLet (fun p0 p1 p2 p3 => decide (p1 < p0) && decide (p2 < p3)) "T") ?h4 ?g4)
      (pss_cons (ps_wk (t' := tLet (fun p0 p1 p2 p3 => decide (p1 < p3) && decide (p2 < p0)) "C") ?h5 ?g5) (pss_cons (ps_wk (t' := tLet (fun p0 p1 p2 p3 => decide (p3 < p1) && decide (p0 < p2)) "D") ?h6 ?g6) (pss_one (ps_ret (pv 3)))))))), ?h7⟩
    case h1 => exact (ps_setLc (i := 2) (own := [("_law_x", 4)]) (g := gName 4) (tt := tYes) (te := tBM K "list" (rIndex K) (tVar 0) (tCons (tVar 4) tNil)) rfl nd rfl (by rfl) (by rfl) (pi_tup (pv 1)) (blkOk_by (N := letN) (sc := defScope s_let) (by decide +kernel)) (fun _ _ _ _ _ => pg_name (i := 4) nd rfl (.inl rfl)) (fun _ _ _ _ _ => pts_nil)
      (fun _ _ _ _ _ => pe_lidx (pv 0) (pa_cons (pv 4) pa_nil)))
    case h2 => exact (ps_set (i := 3) nd rfl (.inl rfl) pe_str)
    case h3 => exact (ps_if (PW.pt (pw_and (pt_cmpR op_lt (pe_ix ix_list (pv 2) pe_int (fun _ _ => rfl)) (pe_ix ix_list (pv 2) pe_int (fun _ _ => rfl)) (by rfl)) (pw_and1 (pt_cmpR op_lt (pe_ix ix_list (pv 2) pe_int (fun _ _ => rfl)) (pe_ix ix_list (pv 2) pe_int (fun _ _ => rfl)) (by rfl))))) (pss_one (ps_set (i := 3) nd rfl (.inl rfl) (pe_op op_add_str (pv 3) pe_str))) pss_nil)
    case h4 => exact (ps_if (PW.pt (pw_and (pt_cmpR op_lt (pe_ix ix_list (pv 2) pe_int (fun _ _ => rfl)) (pe_ix ix_list (pv 2) pe_int (fun _ _ => rfl)) (by rfl)) (pw_and1 (pt_cmpR op_lt (pe_ix ix_list (pv 2) pe_int (fun _ _ => rfl)) (pe_ix ix_list (pv 2) pe_int (fun _ _ => rfl)) (by rfl))))) (pss_one (ps_set (i := 3) nd rfl (.inl rfl) (pe_op op_add_str (pv 3) pe_str))) pss_nil)
    case h5 => exact (ps_if (PW.pt (pw_and (pt_cmpR op_lt (pe_ix ix_list (pv 2) pe_int (fun _ _ => rfl)) (pe_ix ix_list (pv 2) pe_int (fun _ _ => rfl)) (by rfl)) (pw_and1 (pt_cmpR op_lt (pe_ix ix_list (pv 2) pe_int (fun _ _ => rfl)) (pe_ix ix_list (pv 2) pe_int (fun _ _ => rfl)) (by rfl))))) (pss_one (ps_set (i := 3) nd rfl (.inl rfl) (pe_op op_add_str (pv 3) pe_str))) pss_nil)
    case h6 => exact (ps_if (PW.pt (pw_and (pt_cmpR op_lt (pe_ix ix_list (pv 2) pe_int (fun _ _ => rfl)) (pe_ix ix_list (pv 2) pe_int (fun _ _ => rfl)) (by rfl)) (pw_and1 (pt_cmpR op_lt (pe_ix ix_list (pv 2) pe_int (fun _ _ => rfl)) (pe_ix ix_list (pv 2) pe_int (fun _ _ => rfl)) (by rfl))))) (pss_one (ps_set (i := 3) nd rfl (.inl rfl) (pe_op op_add_str (pv 3) pe_str))) pss_nil)
    case g3 =>
      intro D σ H ⟨v0, v1, A, p0, p1, p2, p3, s, e0, hA, ls, y, n⟩
      subst e0
      refine ⟨_, rfl, A, _, 0, _, rfl, rfl, SqL.of hA, rfl, _, rfl, A, _, 1, _, rfl, rfl, SqL.of hA, rfl, _, _, rfl, rfl, _, rfl, ?_⟩
      rw [lt_dec]
      cases e1 : decide (p0 < p1) with
      | false => exact iteF (iteF (n (by show (_ && _) = _; rw [e1]; rfl)))
      | true =>
        refine iteT ⟨_, rfl, A, _, 3, _, rfl, rfl, SqL.of hA, rfl, _, rfl, A, _, 2, _, rfl, rfl, SqL.of hA, rfl, _, _, rfl, rfl, _, rfl, ?_⟩
        rw [lt_dec]
        cases e2 : decide (p3 < p2) with
        | false => exact iteF (n (by show (_ && _) = _; rw [e1, e2]; rfl))
        | true => exact iteT ⟨_, rfl, _, _, rfl, rfl, ls, y (by show (_ && _) = _; rw [e1, e2]; rfl)⟩
    case g4 =>
      intro D σ H ⟨v0, v1, A, p0, p1, p2, p3, s, e0, hA, ls, y, n⟩
      subst e0
      refine ⟨_, rfl, A, _, 1, _, rfl, rfl, SqL.of hA, rfl, _, rfl, A, _, 0, _, rfl, rfl, SqL.of hA, rfl, _, _, rfl, rfl, _, rfl, ?_⟩
      rw [lt_dec]
      cases e1 : decide (p1 < p0) with
      | false => exact iteF (iteF (n (by show (_ && _) = _; rw [e1]; rfl)))
      | true =>
        refine iteT ⟨_, rfl, A, _, 2, _, rfl, rfl, SqL.of hA, rfl, _, rfl, A, _, 3, _, rfl, rfl, SqL.of hA, rfl, _, _, rfl, rfl, _, rfl, ?_⟩
        rw [lt_dec]
        cases e2 : decide (p2 < p3) with
        | false => exact iteF (n (by show (_ && _) = _; rw [e1, e2]; rfl))
        | true => exact iteT ⟨_, rfl, _, _, rfl, rfl, ls, y (by show (_ && _) = _; rw [e1, e2]; rfl)⟩
    case g5 =>
      intro D σ H ⟨v0, v1, A, p0, p1, p2, p3, s, e0, hA, ls, y, n⟩
      subst e0
      refine ⟨_, rfl, A, _, 1, _, rfl, rfl, SqL.of hA, rfl, _, rfl, A, _, 3, _, rfl, rfl, SqL.of hA, rfl, _, _, rfl, rfl, _, rfl, ?_⟩
      rw [lt_dec]
      cases e1 : decide (p1 < p3) with
      | false => exact iteF (iteF (n (by show (_ && _) = _; rw [e1]; rfl)))
      | true =>
        refine iteT ⟨_, rfl, A, _, 2, _, rfl, rfl, SqL.of hA, rfl, _, rfl, A, _, 0, _, rfl, rfl, SqL.of hA, rfl, _, _, rfl, rfl, _, rfl, ?_⟩
        rw [lt_dec]
        cases e2 : decide (p2 < p0) with
        | false => exact iteF (n (by show (_ && _) = _; rw [e1, e2]; rfl))
        | true => exact iteT ⟨_, rfl, _, _, rfl, rfl, ls, y (by show (_ && _) = _; rw [e1, e2]; rfl)⟩
    case g6 =>
      intro D σ H ⟨v0, v1, A, p0, p1, p2, p3, s, e0, hA, ls, y, n⟩
      subst e0
      refine ⟨_, rfl, A, _, 3, _, rfl, rfl, SqL.of hA, rfl, _, rfl, A, _, 1, _, rfl, rfl, SqL.of hA, rfl, _, _, rfl, rfl, _, rfl, ?_⟩
      rw [lt_dec]
      cases e1 : decide (p3 < p1) with
      | false => exact iteF (iteF (n (by show (_ && _) = _; rw [e1]; rfl)))
      | true =>
        refine iteT ⟨_, rfl, A, _, 0, _, rfl, rfl, SqL.of hA, rfl, _, rfl, A, _, 2, _, rfl, rfl, SqL.of hA, rfl, _, _, rfl, rfl, _, rfl, ?_⟩
        rw [lt_dec]
        cases e2 : decide (p0 < p2) with
        | false => exact iteF (n (by show (_ && _) = _; rw [e1, e2]; rfl))
        | true => exact iteT ⟨_, rfl, _, _, rfl, rfl, ls, y (by show (_ && _) = _; rw [e1, e2]; rfl)⟩
    case h7 =>
    refine ⟨_, rfl, t, rfl, ⟨_, SqT.of ht⟩, fun D nD => ?_⟩
    let z : Rw := [x0, x1, x2, x3]
    refine lc_tup (K := K) (a := t) (xs := z.map V.int) (fun i H' => Same H H' ∧ H' D = some (.lst (nvs ((z.take i).map fun x => r.idxOf x.toNat)))) ⟨same_upd nD, upd_same⟩ (fun i H' _ z => SqT.of (z.1 _ _ ht)) (fun i v H' hi y => ?_) (fun H1 y => ?_)
    · obtain ⟨sm, hD⟩ := y
      obtain ⟨x, hx', rfl⟩ := ints_val hi
      obtain ⟨x00, xm⟩ := hx x (List.mem_of_getElem? hx')
      refine ⟨rfl, _, rfl, .inl ⟨rfl, _, SqL.of (sm _ _ ha)⟩, _, rfl, ?_⟩
      have ex : (x : Int) = ((x.toNat : Nat) : Int) := by omega
      rw [ex]
      dsimp only [tNil]
      refine idx_use xm (SqL.of (sm _ _ ha)) ⟨_, hD, ?_, same_keep nD sm, ?_⟩
      · have lz : z.length = 4 := rfl
        rw [nvs_len, List.length_map, List.length_take, sizeLine_eq]
        omega
      · rw [upd_same, take_at hx', List.map_append]
        unfold nvs
        rw [List.map_append]
        rfl
    obtain ⟨sm, hD⟩ := y
    have hD : H1 D = some (.lst (nvs [r.idxOf x0.toNat, r.idxOf x1.toNat, r.idxOf x2.toNat, r.idxOf x3.toNat])) := hD
    refine ⟨_, _, D, _, _, _, _, _, rfl, hD, (by decide), fun e1 => ?_, fun e1 => ?_⟩
    all_goals refine ⟨_, _, D, _, _, _, _, _, rfl, hD, (by decide), fun e2 => ?_, fun e2 => ?_⟩
    all_goals refine ⟨_, _, D, _, _, _, _, _, rfl, hD, (by decide), fun e3 => ?_, fun e3 => ?_⟩
    all_goals refine ⟨_, _, D, _, _, _, _, _, rfl, hD, (by decide), fun e4 => ?_, fun e4 => ?_⟩
    all_goals
      refine ⟨_, rfl, ?_⟩
      have q1 : (ltI r x0 x1 && ltI r x3 x2) = _ := e1
      have q2 : (ltI r x1 x0 && ltI r x2 x3) = _ := e2
      have q3 : (ltI r x1 x3 && ltI r x2 x0) = _ := e3
      have q4 : (ltI r x3 x1 && ltI r x0 x2) = _ := e4
      have E := k H1 sm
      unfold letS at E
      rw [q1, q2, q3, q4] at E
      exact E
theorem hit_one {c : Nat} {s : Str} : hitB ⟨#[c]⟩ s = decide (c ∈ s.cps.toList) := by
  unfold hitB
  rw [Bool.eq_iff_iff, List.any_eq_true, decide_eq_true_iff]
  constructor
  · rintro ⟨b, hb, e⟩
    obtain ⟨x, hx, rfl⟩ := List.mem_map.mp hb
    have h1 : x ∈ [c] := of_decide_eq_true e
    rw [List.mem_singleton.mp h1] at hx
    exact hx
  · intro h
    exact ⟨true, List.mem_map.mpr ⟨c, h, decide_eq_true (List.mem_singleton.mpr rfl)⟩, rfl⟩
theorem row_r {n : Int} {q : List Pr} {r : List Nat} {x0 x1 x2 x3 : Int} (cl : Cl n q) (R : RQ q x0 x1 x2 x3) (pr : r.Perm (List.range n.toNat)) : ∀ x ∈ ([x0, x1, x2, x3] : Rw), 0 ≤ x ∧ x.toNat ∈ r := fun x hx => by
  obtain ⟨g0, g1, g2, g3⟩ := R.rng cl
  have mm : ∀ {x : Int}, 0 ≤ x ∧ x < n → 0 ≤ x ∧ x.toNat ∈ r := fun h => ⟨h.1, pr.mem_iff.mpr (List.mem_range.mpr (by omega))⟩
  simp only [List.mem_cons, List.not_mem_nil, or_false] at hx
  rcases hx with rfl | rfl | rfl | rfl
  · exact mm g0
  · exact mm g1
  · exact mm g2
  · exact mm g3
/-- _law_bad, of one letter -/
def spLb2 : Sp := fun vs H Q _ => ∃ (a c : Addr) (l : Str) (n : Int) (q : List Pr) (r : List Nat) (zs : List V) (rs : List Rw), vs = [.ref a, .ref c, .str l] ∧ oneL l ∧ H a = some (.lst (nvs r)) ∧ H c = some (.lst zs) ∧ DtAll H zs (rs.map rwD) ∧ IsRows n q rs ∧ Cl n q ∧ 0 ≤ n ∧ n ≤ 9 ∧ r.Perm (List.range n.toNat) ∧
  ∀ H' t xs, Same H H' → H t = none → H' t = some (.lst xs) → DtAll H' xs ((rs.filter (hitR l r)).map rwD) → Q (.ref t) H'
theorem ok_lb2 (F : Fun K "_law_bad" "_law_bad" s_lbd f fd) (LT : Df P w K mg base "_law_letters" 1 ["_law_row_here", "_law_quad"] spLe2) : FnOk P w K mg base (L2.CX P w) 2 f fd ["_law_row_here", "_law_quads_here", "_law_letter"] spLb2 := by
  refine F.okX sc_lbd (fun vs H Q E h => ?_) (fun cdv A outer s H vs Q E hr h => ?_)
  · obtain ⟨a, c, l, n, q, r, zs, rs, rfl, _⟩ := h
    rfl
  · obtain ⟨a, c, l, n, q, r, zs, rs, rfl, ⟨c0, hc0, rfl⟩, ha, hc, dz, is, cl, n0, n9, pr, k⟩ := h
    have nd := sc_lbd.nd
    have r1 : Room 1 _ := hr.mono (by decide)
    refine ⟨_, pss_one (ps_ret (pe_lc (own := [("_law_quad", 3)]) (g := gName 3) (tt := tTest (tOp rInS (tVar 2) (tCall spLe2 [] (fun _ _ _ => False) (tCons (tVar 0) (tCons (tVar 3) tNil))))) (te := tVar 3) rfl nd (pi_list (pv 1)) (blkOk_by (N := lbdN) (sc := defScope s_lbd) (by decide +kernel)) (fun _ _ _ _ _ => pg_name (i := 3) nd rfl (.inl rfl))
      (fun _ _ _ _ _ => pts_one (pt_cmpR op_inS (pv 2) (pe_df LT r1 (by rfl) passE0 (pa_cons (pv 0) (pa_cons (pv 3) pa_nil))) (by rfl))) (fun _ _ _ _ _ => pv 3))), ?_⟩
    refine ⟨_, rfl, c, rfl, ⟨zs, SqL.of hc⟩, fun D nD => ?_⟩
    have few := is.few9 cl n9
    have lz : zs.length = rs.length := by
      have := dz.len
      rw [List.length_map] at this
      exact this
    refine lc_list (K := K) (a := c) (xs := zs) (fun i H' => Same H H' ∧ GrowR H' D ((rs.take i).filter (hitR ⟨#[c0]⟩ r))) ⟨same_upd nD, GrowR.nil nD⟩ (fun i H' _ z => SqL.of (z.1 _ _ hc)) (fun i v H' hi z => ?_) (fun H1 z => ?_)
    · obtain ⟨sm, g⟩ := z
      obtain ⟨z, ra, hz, rfl, hra⟩ := dta_row (dz.mono sm) hi
      obtain ⟨x0, x1, x2, x3, rfl, _, R⟩ := (is.mem z).mp (List.mem_of_getElem? hz)
      have lr : r.length ≤ 16 := by
        rw [pr.length_eq, List.length_range]
        omega
      refine ⟨rfl, _, rfl, _, rfl, _, rfl, a, ra, r, x0, x1, x2, x3, rfl, sm _ _ ha, hra, row_r cl R pr, lr, fun H2 s2 => ?_⟩
      refine ⟨c0, _, rfl, rfl, _, rfl, ?_⟩
      have eF := fil_snoc' (hitR ⟨#[c0]⟩ r) hz
      have eh : hitR ⟨#[c0]⟩ r [x0, x1, x2, x3] = decide (c0 ∈ (letS r x0 x1 x2 x3).cps.toList) := hit_one
      rw [← eh]
      have g2 := g.mono s2
      cases e : hitR ⟨#[c0]⟩ r [x0, x1, x2, x3] with
      | false =>
        refine iteF ⟨sm.trans s2, ?_⟩
        rw [eF, e, if_neg Bool.false_ne_true, List.append_nil]
        exact g2
      | true =>
        obtain ⟨as, hA, lA, _⟩ := g2.at
        refine iteT ⟨_, rfl, as, hA, ?_, same_keep nD (sm.trans s2), ?_⟩
        · have h5 := List.length_filter_le (hitR ⟨#[c0]⟩ r) (rs.take i)
          have h6 : (rs.take i).length ≤ rs.length := by rw [List.length_take]; omega
          rw [lA, sizeLine_eq]
          omega
        · have ht4 := s2 _ _ hra
          rw [eF, e, if_pos rfl]
          exact g2.oldC (r := [x0, x1, x2, x3]) (g2.ne' (r := [x0, x1, x2, x3]) ht4) ht4 hA
    · obtain ⟨sm, g⟩ := z
      rw [lz, List.take_length] at g
      obtain ⟨ys, hD, _, dD⟩ := g.at
      exact k H1 D ys sm nD hD dD
end
end K0
set_option Elab.async false
set_option linter.all false
set_option maxRecDepth 100000
set_option maxHeartbeats 4000000
set_option Elab.async false
set_option linter.all false
set_option maxRecDepth 100000
set_option maxHeartbeats 4000000
namespace K0
open PySem PySem.Spec PyProof.Rows L2
/-! ### full knots by masks, as mathematics -/
def ClqM (q : List Pr) (m : Nat) : Prop := ∀ x y : Nat, m.testBit x = true → m.testBit y = true → x ≠ y → hasP q x y = true
def SubM (a b : Nat) : Prop := ∀ x : Nat, a.testBit x = true → b.testBit x = true
theorem SubM.trans {a b c : Nat} (h : SubM a b) (g : SubM b c) : SubM a c := fun x hx => g x (h x hx)
/-- a knot of the part that no thing of the part goes with -/
structure MaxM (q : List Pr) (part m : Nat) : Prop where
  clq : ClqM q m
  sub : SubM m part
  max : ∀ y : Nat, part.testBit y = true → m.testBit y = false → ∃ x, m.testBit x = true ∧ hasP q x y = false
structure Ent where
  k : Nat
  f : Nat
  d : Nat
structure EntOk (q : List Pr) (part : Nat) (e : Ent) : Prop where
  clq : ClqM q e.k
  kp : SubM e.k part
  fp : SubM e.f part
  dp : SubM e.d part
  nb : ∀ x y : Nat, e.k.testBit x = true → (e.f.testBit y = true ∨ e.d.testBit y = true) → hasP q x y = true
  dj : ∀ y : Nat, e.f.testBit y = true → e.d.testBit y = false
structure Hit (e : Ent) (m : Nat) : Prop where
  lo : SubM e.k m
  hi : ∀ x : Nat, m.testBit x = true → e.k.testBit x = true ∨ e.f.testBit x = true
theorem two_bit (t y : Nat) : (2 ^ t).testBit y = decide (t = y) := Nat.testBit_two_pow
theorem or_two (m t y : Nat) : (m ||| 2 ^ t).testBit y = (m.testBit y || decide (t = y)) := by rw [Nat.testBit_or, two_bit]
theorem hasP_irr {n : Int} {q : List Pr} (h : Cl n q) (x : Nat) : hasP q x x = false := by
  cases e : hasP q x x with
  | false => rfl
  | true =>
    unfold hasP at e
    rw [Bool.or_self, decide_eq_true_iff] at e
    have := h.rng _ e
    omega
theorem hasP_sym (q : List Pr) (x y : Nat) : hasP q x y = hasP q y x := Bool.or_comm _ _
def kids (ms : Nat → Nat) (K : Nat) : Nat → Nat → List Nat → List Ent
  | _, _, [] => []
  | F, D, t :: g => ⟨K ||| 2 ^ t, F &&& ms t, D &&& ms t⟩ :: kids ms K (andN F (2 ^ t)) (D ||| 2 ^ t) g
section
variable {n : Int} {q : List Pr} {ms : Nat → Nat} {part : Nat}
theorem kid_ok (cl : Cl n q) (hm : ∀ x y, (ms x).testBit y = hasP q x y) {K F D t : Nat} (ok : EntOk q part ⟨K, F, D⟩) (ht : F.testBit t = true) : EntOk q part ⟨K ||| 2 ^ t, F &&& ms t, D &&& ms t⟩ ∧ EntOk q part ⟨K, andN F (2 ^ t), D ||| 2 ^ t⟩ := by
  have nb := ok.nb
  dsimp only at nb
  constructor
  · refine ⟨fun x y hx hy ne => ?_, fun x hx => ?_, fun x hx => ?_, fun x hx => ?_, fun x y hx hy => ?_, fun y hy => ?_⟩
    · dsimp only at hx hy
      rw [or_two, Bool.or_eq_true, decide_eq_true_iff] at hx hy
      rcases hx with hx | rfl
      · rcases hy with hy | rfl
        · exact ok.clq x y hx hy ne
        · exact nb x _ hx (.inl ht)
      · rcases hy with hy | rfl
        · rw [hasP_sym]
          exact nb y _ hy (.inl ht)
        · exact absurd rfl ne
    · dsimp only at hx
      rw [or_two, Bool.or_eq_true, decide_eq_true_iff] at hx
      rcases hx with hx | rfl
      · exact ok.kp x hx
      · exact ok.fp _ ht
    · dsimp only at hx
      rw [Nat.testBit_and, Bool.and_eq_true] at hx
      exact ok.fp x hx.1
    · dsimp only at hx
      rw [Nat.testBit_and, Bool.and_eq_true] at hx
      exact ok.dp x hx.1
    · dsimp only at hx hy
      rw [or_two, Bool.or_eq_true, decide_eq_true_iff] at hx
      rw [Nat.testBit_and, Bool.and_eq_true, Nat.testBit_and, Bool.and_eq_true] at hy
      rcases hx with hx | rfl
      · exact nb x y hx (hy.imp (fun h => h.1) (fun h => h.1))
      · rcases hy with hy | hy
        · rw [← hm]; exact hy.2
        · rw [← hm]; exact hy.2
    · dsimp only at hy ⊢
      rw [Nat.testBit_and, Bool.and_eq_true] at hy
      rw [Nat.testBit_and, ok.dj y hy.1, Bool.false_and]
  · refine ⟨ok.clq, ok.kp, fun x hx => ?_, fun x hx => ?_, fun x y hx hy => ?_, fun y hy => ?_⟩
    · dsimp only at hx
      rw [andN_bit, Bool.and_eq_true] at hx
      exact ok.fp x hx.1
    · dsimp only at hx
      rw [or_two, Bool.or_eq_true, decide_eq_true_iff] at hx
      rcases hx with hx | rfl
      · exact ok.dp x hx
      · exact ok.fp _ ht
    · dsimp only at hx hy
      rw [andN_bit, Bool.and_eq_true, or_two, Bool.or_eq_true, decide_eq_true_iff] at hy
      rcases hy with hy | hy | rfl
      · exact nb x y hx (.inl hy.1)
      · exact nb x y hx (.inr hy)
      · exact nb x _ hx (.inl ht)
    · dsimp only at hy ⊢
      rw [andN_bit, Bool.and_eq_true, two_bit, Bool.not_eq_true', decide_eq_false_iff_not] at hy
      rw [or_two, ok.dj y hy.1, Bool.false_or]
      exact decide_eq_false hy.2
theorem kids_ok (cl : Cl n q) (hm : ∀ x y, (ms x).testBit y = hasP q x y) {K : Nat} : ∀ {g : List Nat} {F D : Nat}, EntOk q part ⟨K, F, D⟩ → g.Nodup → (∀ t ∈ g, F.testBit t = true) → ∀ e ∈ kids ms K F D g, EntOk q part e
  | [], _, _, _, _, _, e, he => by cases he
  | t :: g, F, D, ok, nd, hg, e, he => by
    obtain ⟨o1, o2⟩ := kid_ok cl hm ok (hg t List.mem_cons_self)
    rcases List.mem_cons.mp he with rfl | he
    · exact o1
    · refine kids_ok cl hm o2 (List.nodup_cons.mp nd).2 (fun y hy => ?_) e he
      rw [andN_bit, hg y (List.mem_cons_of_mem _ hy), two_bit, Bool.true_and, Bool.not_eq_true', decide_eq_false_iff_not]
      rintro rfl
      exact (List.nodup_cons.mp nd).1 hy
theorem kids_hit (hm : ∀ x y, (ms x).testBit y = hasP q x y) {K m : Nat} (mx : MaxM q part m) : ∀ {g : List Nat} {F D : Nat}, Hit ⟨K, F, D⟩ m → (∃ t ∈ g, m.testBit t = true) → ∃ e ∈ kids ms K F D g, Hit e m
  | [], _, _, _, ⟨_, h, _⟩ => by cases h
  | t :: g, F, D, hit, ⟨u, hu, mu⟩ => by
    by_cases ht : m.testBit t = true
    · refine ⟨_, List.mem_cons_self, ⟨fun x hx => ?_, fun x hx => ?_⟩⟩
      · dsimp only at hx
        rw [or_two, Bool.or_eq_true, decide_eq_true_iff] at hx
        rcases hx with hx | rfl
        · exact hit.lo x hx
        · exact ht
      · dsimp only
        rw [or_two, Bool.or_eq_true, decide_eq_true_iff, Nat.testBit_and, Bool.and_eq_true]
        by_cases e : t = x
        · exact .inl (.inr e)
        · rcases hit.hi x hx with h | h
          · exact .inl (.inl h)
          · exact .inr ⟨h, by rw [hm]; exact mx.clq t x ht hx e⟩
    · rcases List.mem_cons.mp hu with rfl | hu
      · exact absurd mu ht
      · obtain ⟨e, he, h⟩ := kids_hit hm mx (g := g) (F := andN F (2 ^ t)) (D := D ||| 2 ^ t) ⟨hit.lo, fun x hx => by
          dsimp only
          rcases hit.hi x hx with h | h
          · exact .inl h
          · refine .inr ?_
            rw [andN_bit, two_bit]
            dsimp only at h
            rw [h, Bool.true_and, Bool.not_eq_true', decide_eq_false_iff_not]
            rintro rfl
            exact ht hx⟩ ⟨u, hu, mu⟩
        exact ⟨e, List.mem_cons_of_mem _ he, h⟩
/-- the pivot's way: some of the growing ones is in each full knot -/
theorem grow_hit (cl : Cl n q) (hm : ∀ x y, (ms x).testBit y = hasP q x y) {K F D p m : Nat} (ok : EntOk q part ⟨K, F, D⟩) (mx : MaxM q part m) (hit : Hit ⟨K, F, D⟩ m) (hp : F.testBit p = true ∨ D.testBit p = true) : ∃ t, (andN F (ms p)).testBit t = true ∧ m.testBit t = true := by
  refine Classical.byContradiction fun no => ?_
  have no' : ∀ t, F.testBit t = true → m.testBit t = true → hasP q p t = true := fun t hF hM => by
    cases e : hasP q p t with
    | true => rfl
    | false => exact absurd ⟨t, by rw [andN_bit, hF, hm, e]; rfl, hM⟩ no
  have nb := ok.nb
  have hh := hit.hi
  dsimp only at nb hh
  have pM : m.testBit p = false := by
    cases e : m.testBit p with
    | false => rfl
    | true =>
      rcases hh p e with h | h
      · have := nb p p h hp
        rw [hasP_irr cl] at this
        cases this
      · have := no' p h e
        rw [hasP_irr cl] at this
        cases this
  have pp : part.testBit p = true := by
    rcases hp with h | h
    · exact ok.fp p h
    · exact ok.dp p h
  obtain ⟨x, hx, nx⟩ := mx.max p pp pM
  rcases hh x hx with h | h
  · rw [nb x p h hp] at nx
    cases nx
  · have := no' x h hx
    rw [hasP_sym, nx] at this
    cases this
theorem leaf_hit {K F D m : Nat} (ok : EntOk q part ⟨K, F, D⟩) (z : F ||| D = 0) (hit : Hit ⟨K, F, D⟩ m) : m = K := by
  refine Nat.eq_of_testBit_eq fun x => ?_
  have f0 : F.testBit x = false := by
    have : (F ||| D).testBit x = false := by rw [z, Nat.zero_testBit]
    rw [Nat.testBit_or, Bool.or_eq_false_iff] at this
    exact this.1
  rw [Bool.eq_iff_iff]
  constructor
  · intro h
    rcases hit.hi x h with h | h
    · exact h
    · dsimp only at h
      rw [f0] at h
      cases h
  · exact hit.lo x
/-- each knot of a part lies in a full one -/
theorem ext_max (part : Nat) : ∀ (l : List Nat) {s : Nat}, ClqM q s → SubM s part → (∀ y ∈ l, part.testBit y = true) → ∃ m, SubM s m ∧ ClqM q m ∧ SubM m part ∧ ∀ y ∈ l, m.testBit y = false → ∃ x, m.testBit x = true ∧ hasP q x y = false
  | [], s, c, sp, _ => ⟨s, fun _ h => h, c, sp, fun y hy => by cases hy⟩
  | y :: l, s, c, sp, hl => by
    by_cases all : ∀ x : Nat, s.testBit x = true → x ≠ y → hasP q x y = true
    · obtain ⟨m, h1, h2, h3, h4⟩ := ext_max part l (s := s ||| 2 ^ y) (fun a b ha hb ne => by
        rw [or_two, Bool.or_eq_true, decide_eq_true_iff] at ha hb
        rcases ha with ha | rfl
        · rcases hb with hb | rfl
          · exact c a b ha hb ne
          · exact all a ha ne
        · rcases hb with hb | rfl
          · rw [hasP_sym]
            exact all b hb (Ne.symm ne)
          · exact absurd rfl ne) (fun x hx => by
        rw [or_two, Bool.or_eq_true, decide_eq_true_iff] at hx
        rcases hx with hx | rfl
        · exact sp x hx
        · exact hl _ List.mem_cons_self) (fun z hz => hl z (List.mem_cons_of_mem _ hz))
      refine ⟨m, fun x hx => h1 x (by rw [or_two, hx]; rfl), h2, h3, fun z hz hn => ?_⟩
      rcases List.mem_cons.mp hz with rfl | hz
      · rw [h1 z (by rw [or_two, decide_eq_true rfl, Bool.or_true])] at hn
        cases hn
      · exact h4 z hz hn
    · obtain ⟨m, h1, h2, h3, h4⟩ := ext_max part l (s := s) c sp (fun z hz => hl z (List.mem_cons_of_mem _ hz))
      refine ⟨m, h1, h2, h3, fun z hz hn => ?_⟩
      rcases List.mem_cons.mp hz with rfl | hz
      · obtain ⟨x, hx⟩ := Classical.not_forall.mp all
        have hx1 := Classical.not_imp.mp hx
        have hx2 := Classical.not_imp.mp hx1.2
        exact ⟨x, h1 x hx1.1, by cases e : hasP q x z with | false => rfl | true => exact absurd e hx2.2⟩
      · exact h4 z hz hn
end
end K0
set_option Elab.async false
set_option linter.all false
set_option maxRecDepth 100000
set_option maxHeartbeats 4000000
namespace K0
open PySem PySem.Spec PyProof.Rows L2
theorem fil_lt {p r : Nat → Bool} : ∀ {l : List Nat}, (∀ x ∈ l, p x = true → r x = true) → (∃ t ∈ l, r t = true ∧ p t = false) → (l.filter p).length + 1 ≤ (l.filter r).length
  | [], _, ⟨_, h, _⟩ => by cases h
  | a :: l, h, ⟨t, ht, rt, pt⟩ => by
    have le : (l.filter p).length ≤ (l.filter r).length := by
      clear pt rt ht
      have h' : ∀ x ∈ l, p x = true → r x = true := fun x hx => h x (List.mem_cons_of_mem _ hx)
      clear h
      induction l with
      | nil => exact Nat.le_refl _
      | cons b l ih =>
        have ih := ih fun x hx => h' x (List.mem_cons_of_mem _ hx)
        have hb := h' b List.mem_cons_self
        rw [List.filter_cons, List.filter_cons]
        cases e : p b with
        | true =>
          rw [hb e, if_pos rfl, if_pos rfl, List.length_cons, List.length_cons]
          omega
        | false =>
          rw [if_neg Bool.false_ne_true]
          cases e2 : r b with
          | true => rw [if_pos rfl, List.length_cons]; omega
          | false => rw [if_neg Bool.false_ne_true]; exact ih
    rw [List.filter_cons, List.filter_cons]
    rcases List.mem_cons.mp ht with rfl | ht
    · rw [rt, pt, if_pos rfl, if_neg Bool.false_ne_true, List.length_cons]
      omega
    · have ih := fil_lt (l := l) (fun x hx => h x (List.mem_cons_of_mem _ hx)) ⟨t, ht, rt, pt⟩
      have ha := h a List.mem_cons_self
      cases e : p a with
      | true =>
        rw [ha e, if_pos rfl, if_pos rfl, List.length_cons, List.length_cons]
        omega
      | false =>
        rw [if_neg Bool.false_ne_true]
        cases e2 : r a with
        | true => rw [if_pos rfl, List.length_cons]; omega
        | false => rw [if_neg Bool.false_ne_true]; exact ih
def cntM (N m : Nat) : Nat := (bitsOf N m).length
theorem cnt_lt {N a b t : Nat} (s : SubM a b) (ht : t < N) (hb : b.testBit t = true) (ha : a.testBit t = false) : cntM N a + 1 ≤ cntM N b := fil_lt (fun x _ h => s x h) ⟨t, List.mem_range.mpr ht, hb, ha⟩
theorem cnt_le {N m : Nat} : cntM N m ≤ N := by
  unfold cntM bitsOf
  have := List.length_filter_le m.testBit (List.range N)
  rw [List.length_range] at this
  exact this
def muE (N : Nat) (e : Ent) : Nat := 2 ^ cntM N e.f
theorem and_sub (a b : Nat) : SubM (a &&& b) a := fun x h => by
  rw [Nat.testBit_and, Bool.and_eq_true] at h
  exact h.1
theorem andN_sub (a b : Nat) : SubM (andN a b) a := fun x h => by
  rw [andN_bit, Bool.and_eq_true] at h
  exact h.1
theorem kids_mu {n : Int} {q : List Pr} {ms : Nat → Nat} {N : Nat} (cl : Cl n q) (hm : ∀ x y, (ms x).testBit y = hasP q x y) {K : Nat} : ∀ {g : List Nat} {F D : Nat}, g.Nodup → (∀ t ∈ g, t < N ∧ F.testBit t = true) → ((kids ms K F D g).map (muE N)).sum + 1 ≤ 2 ^ cntM N F
  | [], F, D, _, _ => Nat.one_le_two_pow
  | t :: g, F, D, nd, hg => by
    obtain ⟨tN, tF⟩ := hg t List.mem_cons_self
    have c1 := cnt_lt (N := N) (and_sub F (ms t)) tN tF (by rw [Nat.testBit_and, hm, hasP_irr cl, Bool.and_false])
    have c2 := cnt_lt (N := N) (andN_sub F (2 ^ t)) tN tF (by rw [andN_bit, two_bit, decide_eq_true rfl]; simp)
    have ih := kids_mu cl hm (K := K) (g := g) (F := andN F (2 ^ t)) (D := D ||| 2 ^ t) (List.nodup_cons.mp nd).2 (fun y hy => by
      obtain ⟨yN, yF⟩ := hg y (List.mem_cons_of_mem _ hy)
      refine ⟨yN, ?_⟩
      rw [andN_bit, yF, two_bit, Bool.true_and, Bool.not_eq_true', decide_eq_false_iff_not]
      rintro rfl
      exact (List.nodup_cons.mp nd).1 hy)
    show (muE N ⟨K ||| 2 ^ t, F &&& ms t, D &&& ms t⟩ + ((kids ms K (andN F (2 ^ t)) (D ||| 2 ^ t) g).map (muE N)).sum) + 1 ≤ 2 ^ cntM N F
    obtain ⟨c, hc⟩ : ∃ c, cntM N F = c + 1 := ⟨cntM N F - 1, by omega⟩
    have p1 : muE N ⟨K ||| 2 ^ t, F &&& ms t, D &&& ms t⟩ ≤ 2 ^ c := Nat.pow_le_pow_right (by decide) (by show cntM N (F &&& ms t) ≤ c; omega)
    have p2 : 2 ^ cntM N (andN F (2 ^ t)) ≤ 2 ^ c := Nat.pow_le_pow_right (by decide) (by omega)
    rw [hc, Nat.pow_succ]
    omega
/-- how far the search for full knots is -/
structure RunM (N : Nat) (q : List Pr) (part : Nat) (found : List Nat) (wait : List Ent) : Prop where
  fo : ∀ m ∈ found, ClqM q m ∧ SubM m part
  wo : ∀ e ∈ wait, EntOk q part e
  cov : ∀ m, MaxM q part m → m ∈ found ∨ ∃ e ∈ wait, Hit e m
  mu : found.length + (wait.map (muE N)).sum ≤ 2 ^ cntM N part
/-- what the search finds -/
structure Fulls (q : List Pr) (part : Nat) (found : List Nat) : Prop where
  fo : ∀ m ∈ found, ClqM q m ∧ SubM m part
  all : ∀ s, ClqM q s → SubM s part → ∃ m ∈ found, SubM s m
section
variable {n : Int} {q : List Pr} {ms : Nat → Nat} {part N : Nat} {found : List Nat} {w : List Ent} {e : Ent}
theorem RunM.start (q : List Pr) (part N : Nat) : RunM N q part [] [⟨0, part, 0⟩] := by
  have z : ∀ x, (0 : Nat).testBit x = false := Nat.zero_testBit
  refine ⟨fun m hm => (by cases hm), fun e he => ?_, fun m mx => .inr ⟨_, List.mem_singleton.mpr rfl, ⟨fun x hx => ?_, fun x hx => .inr (mx.sub x hx)⟩⟩, ?_⟩
  · rw [List.mem_singleton.mp he]
    refine ⟨fun x y hx => ?_, fun x hx => ?_, fun x hx => hx, fun x hx => ?_, fun x y hx => ?_, fun y _ => z y⟩
    all_goals (dsimp only at hx; rw [z] at hx; cases hx)
  · dsimp only at hx
    rw [z] at hx
    cases hx
  · show 0 + (2 ^ cntM N part + 0) ≤ _
    omega
theorem RunM.leaf (R : RunM N q part found (w ++ [e])) (z : e.f ||| e.d = 0) : RunM N q part (found ++ [e.k]) w := by
  have oe := R.wo e (List.mem_append_right _ (List.mem_singleton.mpr rfl))
  refine ⟨fun m hm => ?_, fun x hx => R.wo x (List.mem_append_left _ hx), fun m mx => ?_, ?_⟩
  · rcases List.mem_append.mp hm with hm | hm
    · exact R.fo m hm
    · rw [List.mem_singleton.mp hm]
      exact ⟨oe.clq, oe.kp⟩
  · rcases R.cov m mx with h | ⟨x, hx, h⟩
    · exact .inl (List.mem_append_left _ h)
    · rcases List.mem_append.mp hx with hx | hx
      · exact .inr ⟨x, hx, h⟩
      · rw [List.mem_singleton.mp hx] at h
        exact .inl (List.mem_append_right _ (List.mem_singleton.mpr (leaf_hit (K := e.k) (F := e.f) (D := e.d) oe z h)))
  · have := R.mu
    rw [List.map_append, List.sum_append, List.map_cons, List.map_nil, List.sum_cons, List.sum_nil] at this
    have p : 1 ≤ muE N e := Nat.one_le_two_pow
    rw [List.length_append]
    show found.length + 1 + _ ≤ _
    omega
theorem RunM.node (cl : Cl n q) (hm : ∀ x y, (ms x).testBit y = hasP q x y) (pN : ∀ x, part.testBit x = true → x < N) (R : RunM N q part found (w ++ [e])) {p : Nat} (hp : e.f.testBit p = true ∨ e.d.testBit p = true) {g : List Nat} (gd : g.Nodup) (hg : ∀ t, t ∈ g ↔ (andN e.f (ms p)).testBit t = true) : RunM N q part found (w ++ kids ms e.k e.f e.d g) := by
  have oe := R.wo e (List.mem_append_right _ (List.mem_singleton.mpr rfl))
  have gF : ∀ t ∈ g, e.f.testBit t = true := fun t ht => andN_sub _ _ t ((hg t).mp ht)
  refine ⟨R.fo, fun x hx => ?_, fun m mx => ?_, ?_⟩
  · rcases List.mem_append.mp hx with hx | hx
    · exact R.wo x (List.mem_append_left _ hx)
    · exact kids_ok cl hm (K := e.k) oe gd gF x hx
  · rcases R.cov m mx with h | ⟨x, hx, h⟩
    · exact .inl h
    · rcases List.mem_append.mp hx with hx | hx
      · exact .inr ⟨x, List.mem_append_left _ hx, h⟩
      · rw [List.mem_singleton.mp hx] at h
        obtain ⟨t, h1, h2⟩ := grow_hit cl hm (K := e.k) oe mx h hp
        obtain ⟨y, hy, h3⟩ := kids_hit hm mx (K := e.k) (g := g) (F := e.f) (D := e.d) h ⟨t, (hg t).mpr h1, h2⟩
        exact .inr ⟨y, List.mem_append_right _ hy, h3⟩
  · have := R.mu
    rw [List.map_append, List.sum_append, List.map_cons, List.map_nil, List.sum_cons, List.sum_nil] at this
    have k := kids_mu (N := N) cl hm (K := e.k) (D := e.d) gd (fun t ht => ⟨pN t (oe.fp t (gF t ht)), gF t ht⟩)
    rw [List.map_append, List.sum_append]
    have : muE N e = 2 ^ cntM N e.f := rfl
    omega
theorem RunM.done (pN : ∀ x, part.testBit x = true → x < N) (R : RunM N q part found []) : Fulls q part found := by
  refine ⟨R.fo, fun s cs ss => ?_⟩
  obtain ⟨m, h1, h2, h3, h4⟩ := ext_max part (bitsOf N part) cs ss (fun y hy => (List.mem_filter.mp hy).2)
  have mx : MaxM q part m := ⟨h2, h3, fun y hy hn => h4 y (List.mem_filter.mpr ⟨List.mem_range.mpr (pN y hy), hy⟩) hn⟩
  rcases R.cov m mx with h | ⟨e, he, _⟩
  · exact ⟨m, h, h1⟩
  · cases he
end
end K0
set_option Elab.async false
set_option linter.all false
set_option maxRecDepth 100000
set_option maxHeartbeats 4000000
namespace K0
open PySem PySem.Spec PyProof.Rows L2
/-! ### the search finds each full knot once, and nothing else -/
/-- what goes with all of the knot is fitting or done -/
def EntCom (q : List Pr) (part : Nat) (e : Ent) : Prop := ∀ y : Nat, part.testBit y = true → e.k.testBit y = false → (∀ x : Nat, e.k.testBit x = true → hasP q x y = true) → e.f.testBit y = true ∨ e.d.testBit y = true
def Apart (e e' : Ent) : Prop := ∀ m : Nat, Hit e m → Hit e' m → False
structure RunX (N : Nat) (q : List Pr) (part : Nat) (found : List Nat) (wait : List Ent) : Prop extends RunM N q part found wait where
  com : ∀ e ∈ wait, EntCom q part e
  fm : ∀ m ∈ found, MaxM q part m
  nd : found.Nodup
  nh : ∀ m ∈ found, ∀ e ∈ wait, ¬ Hit e m
  pw : wait.Pairwise Apart
structure FullX (q : List Pr) (part : Nat) (found : List Nat) : Prop extends Fulls q part found where
  nd : found.Nodup
  mem : ∀ m, m ∈ found ↔ MaxM q part m
section
variable {n : Int} {q : List Pr} {ms : Nat → Nat} {part N : Nat} {found : List Nat} {w : List Ent} {e : Ent}
theorem hit_self (ok : EntOk q part e) : Hit e e.k := ⟨fun x h => h, fun x h => .inl h⟩
theorem RunX.start (q : List Pr) (part N : Nat) : RunX N q part [] [⟨0, part, 0⟩] := by
  refine ⟨RunM.start q part N, fun e he => ?_, fun m hm => (by cases hm), .nil, fun m hm => (by cases hm), List.pairwise_singleton _ _⟩
  rw [List.mem_singleton.mp he]
  exact fun y hy _ _ => .inl hy
theorem leaf_max (ok : EntOk q part e) (cm : EntCom q part e) (z : e.f ||| e.d = 0) : MaxM q part e.k := by
  refine ⟨ok.clq, ok.kp, fun y hy hn => Classical.byContradiction fun no => ?_⟩
  have all : ∀ x : Nat, e.k.testBit x = true → hasP q x y = true := fun x hx => by
    cases h : hasP q x y with
    | true => rfl
    | false => exact absurd ⟨x, hx, h⟩ no
  have h0 : (e.f ||| e.d).testBit y = false := by rw [z, Nat.zero_testBit]
  rw [Nat.testBit_or, Bool.or_eq_false_iff] at h0
  rcases cm y hy hn all with h | h
  · rw [h0.1] at h
    cases h
  · rw [h0.2] at h
    cases h
theorem RunX.leaf (R : RunX N q part found (w ++ [e])) (z : e.f ||| e.d = 0) : RunX N q part (found ++ [e.k]) w := by
  have me : e ∈ w ++ [e] := List.mem_append_right _ (List.mem_singleton.mpr rfl)
  have oe := R.wo e me
  refine ⟨R.toRunM.leaf z, fun x hx => R.com x (List.mem_append_left _ hx), fun m hm => ?_, ?_, fun m hm x hx => ?_, (List.pairwise_append.mp R.pw).1⟩
  · rcases List.mem_append.mp hm with hm | hm
    · exact R.fm m hm
    · rw [List.mem_singleton.mp hm]
      exact leaf_max oe (R.com e me) z
  · refine List.nodup_append.mpr ⟨R.nd, List.nodup_cons.mpr ⟨List.not_mem_nil, List.nodup_nil⟩, fun a ha b hb => ?_⟩
    rw [List.mem_singleton.mp hb]
    exact fun e' => R.nh a ha e me (e' ▸ hit_self oe)
  · rcases List.mem_append.mp hm with hm | hm
    · exact R.nh m hm x (List.mem_append_left _ hx)
    · rw [List.mem_singleton.mp hm]
      exact fun h => (List.pairwise_append.mp R.pw).2.2 x hx e (List.mem_singleton.mpr rfl) e.k h (hit_self oe)
/-- a kid's hit is its parent's -/
theorem kids_up {K m : Nat} : ∀ {g : List Nat} {F D : Nat}, (∀ t ∈ g, F.testBit t = true) → g.Nodup → ∀ x ∈ kids ms K F D g, Hit x m → Hit ⟨K, F, D⟩ m ∧ ∃ t ∈ g, m.testBit t = true
  | [], _, _, _, _, x, hx, _ => by cases hx
  | t :: g, F, D, hg, nd, x, hx, h => by
    rcases List.mem_cons.mp hx with rfl | hx
    · refine ⟨⟨fun y hy => h.lo y (by show (K ||| 2 ^ t).testBit y = true; rw [or_two, show K.testBit y = true from hy]; rfl), fun y hy => ?_⟩, t, List.mem_cons_self, h.lo t (by show (K ||| 2 ^ t).testBit t = true; rw [or_two, decide_eq_true rfl, Bool.or_true])⟩
      rcases h.hi y hy with h1 | h1
      · have h1 : (K ||| 2 ^ t).testBit y = true := h1
        rw [or_two, Bool.or_eq_true, decide_eq_true_iff] at h1
        rcases h1 with h1 | rfl
        · exact .inl h1
        · exact .inr (hg _ List.mem_cons_self)
      · exact .inr (and_sub _ _ y h1)
    · obtain ⟨h1, u, hu, mu⟩ := kids_up (g := g) (F := andN F (2 ^ t)) (D := D ||| 2 ^ t) (fun y hy => by
        rw [andN_bit, hg y (List.mem_cons_of_mem _ hy), two_bit, Bool.true_and, Bool.not_eq_true', decide_eq_false_iff_not]
        rintro rfl
        exact (List.nodup_cons.mp nd).1 hy) (List.nodup_cons.mp nd).2 x hx h
      exact ⟨⟨h1.lo, fun y hy => (h1.hi y hy).imp id fun z => andN_sub _ _ y z⟩, u, List.mem_cons_of_mem _ hu, mu⟩
/-- two kids hit nothing together -/
theorem kids_apart {K : Nat} : ∀ {g : List Nat} {F D : Nat}, (∀ t ∈ g, F.testBit t = true) → (∀ y, K.testBit y = true → F.testBit y = false) → g.Nodup → (kids ms K F D g).Pairwise Apart
  | [], _, _, _, _, _ => .nil
  | t :: g, F, D, hg, dj, nd => by
    have hg' : ∀ y ∈ g, (andN F (2 ^ t)).testBit y = true := fun y hy => by
      rw [andN_bit, hg y (List.mem_cons_of_mem _ hy), two_bit, Bool.true_and, Bool.not_eq_true', decide_eq_false_iff_not]
      rintro rfl
      exact (List.nodup_cons.mp nd).1 hy
    refine List.pairwise_cons.mpr ⟨fun x hx m h1 h2 => ?_, kids_apart hg' (fun y hy => by
      cases e : (andN F (2 ^ t)).testBit y with
      | false => rfl
      | true =>
        have := andN_sub _ _ y e
        rw [dj y hy] at this
        cases this) (List.nodup_cons.mp nd).2⟩
    have mt : m.testBit t = true := h1.lo t (by show (K ||| 2 ^ t).testBit t = true; rw [or_two, decide_eq_true rfl, Bool.or_true])
    obtain ⟨h3, _⟩ := kids_up (ms := ms) (K := K) (g := g) (D := D ||| 2 ^ t) hg' (List.nodup_cons.mp nd).2 x hx h2
    have ft := hg t List.mem_cons_self
    rcases h3.hi t mt with z | z
    · have z : K.testBit t = true := z
      rw [dj t z] at ft
      cases ft
    · have z : (andN F (2 ^ t)).testBit t = true := z
      rw [andN_bit, two_bit, decide_eq_true rfl] at z
      simp at z
theorem kids_com (cl : Cl n q) (hm : ∀ x y, (ms x).testBit y = hasP q x y) {K : Nat} : ∀ {g : List Nat} {F D : Nat}, EntCom q part ⟨K, F, D⟩ → (∀ t ∈ g, F.testBit t = true) → g.Nodup → ∀ x ∈ kids ms K F D g, EntCom q part x
  | [], _, _, _, _, _, x, hx => by cases hx
  | t :: g, F, D, cm, hg, nd, x, hx => by
    rcases List.mem_cons.mp hx with rfl | hx
    · intro y hy hn all
      have hn : (K ||| 2 ^ t).testBit y = false := hn
      rw [or_two, Bool.or_eq_false_iff, decide_eq_false_iff_not] at hn
      have ht : hasP q t y = true := all t (by show (K ||| 2 ^ t).testBit t = true; rw [or_two, decide_eq_true rfl, Bool.or_true])
      have h1 := cm y hy hn.1 fun x hx => all x (by show (K ||| 2 ^ t).testBit x = true; rw [or_two, show K.testBit x = true from hx]; rfl)
      refine h1.imp (fun h => ?_) (fun h => ?_)
      · show (F &&& ms t).testBit y = true
        rw [Nat.testBit_and, show F.testBit y = true from h, hm, ht]
        rfl
      · show (D &&& ms t).testBit y = true
        rw [Nat.testBit_and, show D.testBit y = true from h, hm, ht]
        rfl
    · refine kids_com cl hm (g := g) (F := andN F (2 ^ t)) (D := D ||| 2 ^ t) (fun y hy hn all => ?_) (fun y hy => ?_) (List.nodup_cons.mp nd).2 x hx
      · by_cases e : t = y
        · refine .inr ?_
          show (D ||| 2 ^ t).testBit y = true
          rw [or_two, decide_eq_true e, Bool.or_true]
        · refine (cm y hy hn all).imp (fun h => ?_) (fun h => ?_)
          · show (andN F (2 ^ t)).testBit y = true
            rw [andN_bit, show F.testBit y = true from h, two_bit, decide_eq_false e]
            rfl
          · show (D ||| 2 ^ t).testBit y = true
            rw [or_two, show D.testBit y = true from h]
            rfl
      · rw [andN_bit, hg y (List.mem_cons_of_mem _ hy), two_bit, Bool.true_and, Bool.not_eq_true', decide_eq_false_iff_not]
        rintro rfl
        exact (List.nodup_cons.mp nd).1 hy
theorem RunX.node (cl : Cl n q) (hm : ∀ x y, (ms x).testBit y = hasP q x y) (pN : ∀ x, part.testBit x = true → x < N) (R : RunX N q part found (w ++ [e])) {p : Nat} (hp : e.f.testBit p = true ∨ e.d.testBit p = true) {g : List Nat} (gd : g.Nodup) (hg : ∀ t, t ∈ g ↔ (andN e.f (ms p)).testBit t = true) : RunX N q part found (w ++ kids ms e.k e.f e.d g) := by
  have me : e ∈ w ++ [e] := List.mem_append_right _ (List.mem_singleton.mpr rfl)
  have oe := R.wo e me
  have gF : ∀ t ∈ g, e.f.testBit t = true := fun t ht => andN_sub _ _ t ((hg t).mp ht)
  have dj : ∀ y, e.k.testBit y = true → e.f.testBit y = false := fun y hy => by
    cases h : e.f.testBit y with
    | false => rfl
    | true =>
      have := oe.nb y y hy (.inl h)
      rw [hasP_irr cl] at this
      cases this
  obtain ⟨p1, p2, p3⟩ := List.pairwise_append.mp R.pw
  refine ⟨R.toRunM.node cl hm pN hp gd hg, fun x hx => ?_, R.fm, R.nd, fun m hm' x hx h => ?_, List.pairwise_append.mpr ⟨p1, kids_apart gF dj gd, fun x hx y hy m h1 h2 => ?_⟩⟩
  · rcases List.mem_append.mp hx with hx | hx
    · exact R.com x (List.mem_append_left _ hx)
    · exact kids_com cl hm (K := e.k) (R.com e me) gF gd x hx
  · rcases List.mem_append.mp hx with hx | hx
    · exact R.nh m hm' x (List.mem_append_left _ hx) h
    · exact R.nh m hm' e me (kids_up (K := e.k) gF gd x hx h).1
  · exact p3 x hx e (List.mem_singleton.mpr rfl) m h1 (kids_up (K := e.k) gF gd y hy h2).1
theorem RunX.done (pN : ∀ x, part.testBit x = true → x < N) (R : RunX N q part found []) : FullX q part found := by
  refine ⟨R.toRunM.done pN, R.nd, fun m => ⟨R.fm m, fun h => ?_⟩⟩
  rcases R.cov m h with h | ⟨e, he, _⟩
  · exact h
  · cases he
end
end K0
set_option Elab.async false
set_option linter.all false
set_option maxRecDepth 100000
set_option maxHeartbeats 4000000
namespace K0
open PySem PySem.Spec PyProof.Rows L2
/-- a list or a new tuple of data -/
def SqD (H : Hp) (a : Addr) (ds : List PyData) : Prop := ∃ xs, (H a = some (.lst xs) ∨ H a = some (.tup xs)) ∧ DtAll H xs ds
theorem SqD.mono {H H' : Hp} (s : Same H H') {a : Addr} {ds : List PyData} : SqD H a ds → SqD H' a ds := fun ⟨xs, h, d⟩ => ⟨xs, h.imp (s _ _) (s _ _), d.mono s⟩
def TupI (H : Hp) (t : Addr) (ns : List Int) : Prop := H t = some (.tup (ns.map V.int))
theorem TupI.sq {H : Hp} {t : Addr} {ns : List Int} (h : TupI H t ns) : SqD H t (ns.map PyData.int) := ⟨_, .inr h, .ints H ns⟩
theorem TupI.mono {H H' : Hp} (s : Same H H') {t : Addr} {ns : List Int} (h : TupI H t ns) : TupI H' t ns := s _ _ h
end K0
set_option Elab.async false
set_option linter.all false
set_option maxRecDepth 100000
set_option maxHeartbeats 4000000
namespace K0
open PySem PySem.Spec PyProof.Rows L2
abbrev s_le : Stmt := top 23
theorem nvs_get {g : List Nat} {i : Nat} {v : V} (h : (nvs g)[i]? = some v) : ∃ x, g[i]? = some x ∧ v = .int (x : Int) := by
  unfold nvs at h
  rw [List.getElem?_map] at h
  cases e : g[i]? with
  | none => rw [e] at h; cases h
  | some x => rw [e] at h; cases h; exact ⟨x, rfl, rfl⟩
section
variable {P : Program} {w : World} {K : PySem.W.Frag} {mg : Str → Option Value} {base : Heap} {f : Addr} {fd : FuncData}
/-- least_in(mask) -/
def spLe : Sp := fun vs H Q _ => ∃ (m : Nat), vs = [.int (m : Int)] ∧ m ≠ 0 ∧ m < 256 ∧ ∀ t : Nat, m.testBit t = true → Ret (.int (t : Int)) H Q
theorem sc_le : FnScope ["mask"] ["mask"] (defScope s_le) := ⟨rfl, rfl, rfl, by decide +kernel, rfl, by decide +kernel, by decide +kernel⟩
theorem low_bit : ∀ m : Nat, m < 256 → m = 0 ∨ m.testBit (Builtin.Int.intBits (Builtin.bitAnd (m : Int) (-(m : Int))) - 1) = true ∧ Builtin.Int.intBits (Builtin.bitAnd (m : Int) (-(m : Int))) ≠ 0 := by decide +kernel
theorem ok_le (F : Fun K "least_in" "least_in" s_le f fd) : FnOk P w K mg base (L2.CX P w) 1 f fd ["mask"] spLe := by
  refine F.okX sc_le (fun vs H Q E h => ?_) (fun cdv A outer s H vs Q E hr h => ?_)
  · obtain ⟨n, rfl, _⟩ := h
    rfl
  · obtain ⟨m, rfl, m0, m8, k⟩ := h
    refine ⟨_, pss_one (ps_ret (pe_op op_sub (pe_bits (pe_op op_and (pv 0) (pe_un un_neg (pv 0)))) pe_int)), ?_⟩
    obtain ⟨h1, h2⟩ := (low_bit m m8).resolve_left m0
    refine ⟨_, rfl, _, rfl, _, rfl, _, _, rfl, rfl, _, rfl, _, _, rfl, rfl, ?_⟩
    have := k _ h1 H (.refl _)
    rw [show ((Builtin.Int.intBits (Builtin.bitAnd (m : Int) (-(m : Int))) - 1 : Nat) : Int) = (Builtin.Int.intBits (Builtin.bitAnd (m : Int) (-(m : Int))) : Int) - 1 by omega] at this
    exact this
end
end K0
set_option Elab.async false
set_option linter.all false
set_option maxRecDepth 100000
set_option maxHeartbeats 4000000
namespace K0
open PySem PySem.Spec PyProof.Rows L2
abbrev s_fm : Stmt := top 25
def rAndB : R2 := fun x y H Q => ∃ a b : Nat, x = .int (a : Int) ∧ y = .int (b : Int) ∧ Q (.int ((a &&& b : Nat) : Int)) H
theorem op_andB {X : Cx} : OpR X (binaryOp .BitAnd) rAndB := OpR_imp op_and fun x y H Q ⟨a, b, ex, ey, q⟩ => ⟨_, _, ex, ey, by
  show Q (.int (Builtin.bitAnd (a : Int) (b : Int))) H
  have e1 : decide (0 ≤ (a : Int)) = true := decide_eq_true (Int.natCast_nonneg a)
  have e2 : decide (0 ≤ (b : Int)) = true := decide_eq_true (Int.natCast_nonneg b)
  unfold Builtin.bitAnd
  rw [e1, e2]
  dsimp only
  rw [Int.toNat_natCast, Int.toNat_natCast]
  exact q⟩
def entV (e : Ent) : List V := [.int (e.k : Int), .int (e.f : Int), .int (e.d : Int)]
/-- a list of entries yet to be looked at -/
def GrowE (H : Hp) (D : Addr) (es : List Ent) : Prop := ∃ l : List (Addr × Ent), H D = some (.lst (l.map fun z => V.ref z.1)) ∧ l.map (·.2) = es ∧ ∀ z ∈ l, H z.1 = some (.tup (entV z.2))
theorem GrowE.len {H : Hp} {D : Addr} {es : List Ent} (h : GrowE H D es) : ∃ ys, H D = some (.lst ys) ∧ ys.length = es.length := by
  obtain ⟨l, h1, h2, _⟩ := h
  exact ⟨_, h1, by rw [← h2, List.length_map, List.length_map]⟩
theorem GrowE.pop {H : Hp} {D : Addr} {es : List Ent} {e : Ent} (h : GrowE H D (es ++ [e])) : ∃ ys a, H D = some (.lst ys) ∧ ys[ys.length - 1]? = some (.ref a) ∧ H a = some (.tup (entV e)) ∧ GrowE (upd H D (.lst ys.dropLast)) D es ∧ H a ≠ H D := by
  obtain ⟨l, h1, h2, h3⟩ := h
  rcases List.eq_nil_or_concat l with rfl | ⟨l', z, rfl⟩
  · simp at h2
  · rw [List.concat_eq_append] at h1 h2 h3
    rw [List.map_append] at h1 h2
    have h2' := List.append_inj' h2 rfl
    have e2 : z.2 = e := by simpa using h2'.2
    have hz := h3 z (by simp)
    refine ⟨_, z.1, h1, by simp, by rw [← e2]; exact hz, ⟨l', ?_, h2'.1, fun y hy => ?_⟩, ?_⟩
    · rw [upd_same]
      simp
    · have hy2 := h3 y (by simp [hy])
      rw [upd_ne (fun ee => by rw [ee, h1] at hy2; cases hy2)]
      exact hy2
    · rw [h1, hz]
      intro h
      cases h
theorem GrowE.push {H : Hp} {D u : Addr} {es : List Ent} {e : Ent} (h : GrowE H D es) (nu : H u = none) : ∃ ys, (upd H u (.tup (entV e))) D = some (.lst ys) ∧ ys.length = es.length ∧ GrowE (upd (upd H u (.tup (entV e))) D (.lst (ys ++ [.ref u]))) D (es ++ [e]) := by
  obtain ⟨l, h1, h2, h3⟩ := h
  have du : D ≠ u := fun e => by rw [e, nu] at h1; cases h1
  refine ⟨_, by rw [upd_ne du]; exact h1, by rw [← h2, List.length_map, List.length_map], l ++ [(u, e)], by rw [upd_same, List.map_append]; rfl, by rw [List.map_append, h2]; rfl, fun z hz => ?_⟩
  rcases List.mem_append.mp hz with hz | hz
  · have hy := h3 z hz
    rw [upd_ne (fun ee => by rw [ee, h1] at hy; cases hy), upd_ne (ne_of_none hy nu)]
    exact hy
  · rw [List.mem_singleton.mp hz]
    show (upd _ _ _) u = _
    rw [upd_ne (Ne.symm du), upd_same]
theorem GrowE.mono {H H' : Hp} {D : Addr} {es : List Ent} (s : Same H H') : GrowE H D es → GrowE H' D es := fun ⟨l, h, e, p⟩ => ⟨l, s _ _ h, e, fun z hz => s _ _ (p z hz)⟩
/-- what another list's growing leaves of it -/
theorem GrowE.other {H : Hp} {D F : Addr} {es : List Ent} {xs ys : List V} (h : GrowE H D es) (hF : H F = some (.lst xs)) (ne : D ≠ F) : GrowE (upd H F (.lst ys)) D es := by
  obtain ⟨l, h1, h2, h3⟩ := h
  refine ⟨l, by rw [upd_ne ne]; exact h1, h2, fun z hz => ?_⟩
  have hy := h3 z hz
  rw [upd_ne (fun ee => by rw [ee, hF] at hy; cases hy)]
  exact hy
theorem small8 {m : Nat} (h : ∀ x, m.testBit x = true → x < 8) : m < 256 := Nat.lt_pow_two_of_testBit (n := 8) _ fun i hi => by
  cases e : m.testBit i with
  | false => rfl
  | true => exact absurd (h i e) (by omega)
section
variable {P : Program} {w : World} {K : PySem.W.Frag} {mg : Str → Option Value} {base : Heap} {f : Addr} {fd : FuncData}
/-- full_masks(masks, part) -/
def spFm : Sp := fun vs H Q _ => ∃ (a : Addr) (n : Nat) (q : List Pr) (part : Nat), vs = [.ref a, .int (part : Int)] ∧ n ≤ 8 ∧ Cl n q ∧ H a = some (.tup (nvs (mOf n q))) ∧ (∀ x, part.testBit x = true → x < n) ∧ ∀ H' b found, Same H H' → H b = none → H' b = some (.lst (nvs found)) → FullX q part found → found.length ≤ 256 → Q (.ref b) H'
abbrev fmN : List Str := ["masks", "part", "found", "waiting", "knot", "fitting", "done", "pivot", "growing", "thing", "bit"]
theorem sc_fm : FnScope fmN ["masks", "part"] (defScope s_fm) := ⟨rfl, rfl, rfl, by decide +kernel, rfl, by decide +kernel, by decide +kernel⟩
theorem ok_fm (F : Fun K "full_masks" "full_masks" s_fm f fd) (B : Blt2 mg) (LE : Df P w K mg base "least_in" 1 ["mask"] spLe) (TI : Df P w K mg base "things_in" 1 ["mask"] spTi) : FnOk P w K mg base (L2.CX P w) 3 f fd ["masks", "part"] spFm := by
  refine F.okX sc_fm (fun vs H Q E h => ?_) (fun cdv A outer s H vs Q E hr h => ?_)
  · obtain ⟨a, n, q, part, rfl, _⟩ := h
    rfl
  · obtain ⟨a, n, q, part, rfl, n8, cl, ha, pn, k⟩ := h
    have nd := sc_fm.nd
    have hr1 : Room 1 _ := hr.mono (by decide)
    refine ⟨_, pss_cons (ps_set (i := 2) nd rfl (.inl rfl) (pe_lst pa_nil))
      (pss_cons (ps_set (i := 3) nd rfl (.inl rfl) (pe_lst (pa_cons (pe_tup (pa_cons pe_int (pa_cons (pv 1) (pa_cons pe_int pa_nil)))) pa_nil)))
      (pss_cons (ps_while (passes_of rfl) (pt_truth (pv 3) (by intro _; rfl))
        (pss_cons (ps_asg (pe_lpop (pv 3)) (pg_tup rfl (pgs_cons (pg_name (i := 4) nd rfl (.inl rfl)) (pgs_cons (pg_name (i := 5) nd rfl (.inl rfl)) (pgs_cons (pg_name (i := 6) nd rfl (.inl rfl)) pgs_nil)))))
        (pss_cons (ps_if (pt_cmpR op_eq (pe_op op_orN (pv 5) (pv 6)) pe_int (nomark _)) (pss_cons (ps_expr (pe_lapp (pv 2) (pa_cons (pv 4) pa_nil))) (pss_one ps_continue)) pss_nil)
        (pss_cons (ps_set (i := 7) nd rfl (.inl rfl) (pe_df LE hr1 (by rfl) passUp (pa_cons (pe_op op_orN (pv 5) (pv 6)) pa_nil)))
        (pss_cons (ps_set (i := 8) nd rfl (.inl rfl) (pe_df TI hr1 (by rfl) passUp (pa_cons (pe_op op_andN (pv 5) (pe_un un_inv (pe_ix ix_tup (pv 0) (pv 7) (fun _ _ => rfl)))) pa_nil)))
        (pss_one (ps_for (passes_of rfl) rfl (pi_tup (pv 8)) (pg_name (i := 9) nd rfl (.inl rfl))
          (pss_cons (ps_set (i := 10) nd rfl (.inl rfl) (pe_op op_shl1 pe_int (pv 9)))
          (pss_cons (ps_expr (pe_lapp (pv 3) (pa_cons (pe_tup (pa_cons (pe_op op_orN (pv 4) (pv 10)) (pa_cons (pe_op op_andB (pv 5) (pe_ix ix_tup (pv 0) (pv 9) (fun _ _ => rfl))) (pa_cons (pe_op op_andB (pv 6) (pe_ix ix_tup (pv 0) (pv 9) (fun _ _ => rfl))) pa_nil)))) pa_nil)))
          (pss_cons (ps_set (i := 5) nd rfl (.inl rfl) (pe_op op_andN (pv 5) (pe_un un_inv (pv 10))))
          (pss_one (ps_set (i := 6) nd rfl (.inl rfl) (pe_op op_orN (pv 6) (pv 10))))))))))))))
      (pss_one (ps_ret (pv 2))))), ?_⟩
    refine ⟨by show 0 ≤ sizeLine; decide, fun F0 nF => ?_⟩
    refine ⟨_, rfl, by show 3 ≤ sizeLine; decide, fun u nu => ⟨by show 1 ≤ sizeLine; decide, fun W0 nW => ?_⟩⟩
    have s1 : Same H (upd H F0 (.lst [])) := same_upd nF
    have s2 := s1.trans (same_upd (o := .tup (entV ⟨0, part, 0⟩)) nu)
    have s3 := s2.trans (same_upd (o := .lst [.ref u]) nW)
    have hW : H W0 = none := s2.free nW
    have uF : u ≠ F0 := fun e => by rw [e, upd_same] at nu; cases nu
    have wu : W0 ≠ u := fun e => by rw [e, upd_same] at nW; cases nW
    have wF : W0 ≠ F0 := fun e => by rw [e, upd_ne (Ne.symm uF), upd_same] at nW; cases nW
    have p256 : part < 256 := small8 fun x hx => by have := pn x hx; omega
    have nl : (mOf n q).length = n := mOf_len _ _
    have hm := mOf_bit cl
    let Wv : Nat → L2.St → Hp → Prop := fun m σ H' => ∃ o4 o5 o6 o7 o8 o9 o10 found wait, σ = [some (.ref a), some (.int (part : Int)), some (.ref F0), some (.ref W0), o4, o5, o6, o7, o8, o9, o10] ∧ Same H H' ∧ H' F0 = some (.lst (nvs found)) ∧ GrowE H' W0 wait ∧ RunX n q part found wait ∧ m = (wait.map (muE n)).sum
    refine ⟨Wv, ⟨_, none, none, none, none, none, none, none, [], [⟨0, part, 0⟩], rfl, s3, ?_, ⟨[(u, ⟨0, part, 0⟩)], upd_same, rfl, fun z hz => ?_⟩, RunX.start q part n, rfl⟩, ?_⟩
    · rw [upd_ne (Ne.symm wF), upd_ne (Ne.symm uF), upd_same]
      rfl
    · rw [List.mem_singleton.mp hz]
      show (upd _ _ _) u = _
      rw [upd_ne (Ne.symm wu), upd_same]
      rfl
    rintro m σ H' ⟨o4, o5, o6, o7, o8, o9, o10, found, wait, rfl, sm, hF, gw, R, rfl⟩
    have muF : found.length ≤ 256 := by
      have h1 := R.mu
      have h2 : 2 ^ cntM n part ≤ 2 ^ 8 := Nat.pow_le_pow_right (by decide) (Nat.le_trans cnt_le n8)
      omega
    have muW : wait.length ≤ 256 := by
      have h1 := R.mu
      have h2 : 2 ^ cntM n part ≤ 2 ^ 8 := Nat.pow_le_pow_right (by decide) (Nat.le_trans cnt_le n8)
      have h3 : ∀ l : List Ent, l.length ≤ (l.map (muE n)).sum := fun l => by
        induction l with
        | nil => exact Nat.le_refl _
        | cons x l ih =>
          have : 1 ≤ muE n x := Nat.one_le_two_pow
          rw [List.length_cons, List.map_cons, List.sum_cons]
          omega
      have := h3 wait
      omega
    obtain ⟨ys0, hy0, ly0⟩ := gw.len
    refine ⟨_, rfl, !ys0.isEmpty, .inl ⟨_, SqL.of hy0, rfl⟩, ?_⟩
    rcases List.eq_nil_or_concat wait with rfl | ⟨wt, e, rfl⟩
    · have : ys0 = [] := List.length_eq_zero_iff.mp ly0
      subst this
      rw [if_neg (by simp)]
      exact ⟨_, rfl, k H' F0 found sm nF hF (R.done pn) muF⟩
    rw [List.concat_eq_append] at gw R muW ly0 ⊢
    have ne0 : ys0 ≠ [] := fun e => by rw [e] at ly0; simp at ly0
    rw [if_pos (by simpa using ne0)]
    refine ⟨fun σ' H'' => ∃ m', m' < ((wt ++ [e]).map (muE n)).sum ∧ Wv m' σ' H'', fun _ _ h => h, ?_⟩
    obtain ⟨ys, ea, hy, hlast, hea, gw', ned⟩ := gw.pop
    refine ⟨_, rfl, .inl ⟨rfl, _, SqL.of hy⟩, W0, _, _, rfl, rfl, hy, hlast, ?_⟩
    have smW : ∀ o, Same H (upd H' W0 o) := fun o b u e => by
      rw [upd_ne (ne_of_none e hW)]
      exact sm b u e
    have hF' : (upd H' W0 (.lst ys.dropLast)) F0 = some (.lst (nvs found)) := by rw [upd_ne (Ne.symm wF)]; exact hF
    have hea' : (upd H' W0 (.lst ys.dropLast)) ea = some (.tup (entV e)) := by
      rw [upd_ne (fun h => ned (by rw [h]))]
      exact hea
    refine ⟨ea, _, rfl, SqT.of hea', rfl, _, _, rfl, _, _, rfl, _, _, rfl, rfl, ?_⟩
    have oe := R.wo e (List.mem_append_right _ (List.mem_singleton.mpr rfl))
    have hsum : ((wt ++ [e]).map (muE n)).sum = (wt.map (muE n)).sum + muE n e := by
      rw [List.map_append, List.sum_append, List.map_cons, List.map_nil, List.sum_cons, List.sum_nil, Nat.add_zero]
    have m1 : 1 ≤ muE n e := Nat.one_le_two_pow
    refine ⟨_, rfl, _, rfl, _, _, rfl, rfl, rfl, _, rfl, ?_⟩
    rw [dec_int]
    by_cases c : e.f ||| e.d = 0
    · rw [c]
      refine iteT ⟨_, rfl, .inl ⟨rfl, _, SqL.of hF'⟩, _, rfl, F0, _, _, rfl, rfl, hF', ?_, ?_⟩
      · rw [nvs_len, sizeLine_eq]
        omega
      · refine ⟨_, ?_, _, _, _, _, _, _, _, found ++ [e.k], wt, rfl, fun b o h => ?_, ?_, gw'.other hF' wF, R.leaf c, rfl⟩
        · omega
        · rw [upd_ne (ne_of_none h nF)]
          exact smW _ b o h
        · rw [upd_same]
          unfold nvs
          rw [List.map_append]
          rfl
    · rw [show (((e.f ||| e.d : Nat) : Int) == 0) = false by rw [beq_eq_false_iff_ne]; omega]
      refine iteF ?_
      have fdp : ∀ x, (e.f ||| e.d).testBit x = true → x < n := fun x hx => by
        rw [Nat.testBit_or, Bool.or_eq_true] at hx
        exact pn x (hx.elim (oe.fp x) (oe.dp x))
      refine ⟨_, rfl, _, rfl, _, _, rfl, rfl, (e.f ||| e.d), rfl, c, small8 fun x hx => (by have := fdp x hx; omega), fun p hp H1 t1 => ?_⟩
      have pN := fdp p hp
      have sm1 : Same H H1 := (smW _).trans t1
      have ha1 := sm1 _ _ ha
      have hfp : e.f.testBit p = true ∨ e.d.testBit p = true := by
        rw [Nat.testBit_or, Bool.or_eq_true] at hp
        exact hp
      have f256 : e.f < 2 ^ 8 := small8 fun x hx => by have := pn x (oe.fp x hx); omega
      have b8 : bitsN (andN e.f ((mOf n q).getD p 0)) ≤ 8 := bits_small (Nat.lt_of_le_of_lt (andN_le _ _) f256)
      refine ⟨_, rfl, _, rfl, _, rfl, a, _, _, _, rfl, rfl, SqT.of ha1, nvs_at (by rw [nl]; exact pN), _, rfl, _, _, rfl, rfl, andN e.f ((mOf n q).getD p 0), rfl, by omega, fun H2 G t2 nG hG => ?_⟩
      have sm2 : Same H H2 := sm1.trans t2
      have hF2 := t2 _ _ (t1 _ _ hF')
      have gw2 := (gw'.mono t1).mono t2
      let g := (List.range (bitsN (andN e.f ((mOf n q).getD p 0)))).filter (andN e.f ((mOf n q).getD p 0)).testBit
      have gd : g.Nodup := List.Pairwise.filter _ List.nodup_range
      have hg : ∀ t, t ∈ g ↔ (andN e.f ((mOf n q).getD p 0)).testBit t = true := fun t => by
        rw [List.mem_filter]
        refine ⟨fun h => h.2, fun h => ⟨List.mem_range.mpr ?_, h⟩⟩
        refine Nat.lt_of_not_le fun le => ?_
        rw [bits_out le] at h
        cases h
      have R2 := R.node (n := n) (ms := fun x => (mOf n q).getD x 0) cl hm pn (p := p) hfp gd hg
      have gl : g.length ≤ 8 := Nat.le_trans (List.length_filter_le _ _) (by rw [List.length_range]; exact b8)
      have nFW : H F0 = none ∧ H W0 = none := ⟨nF, hW⟩
      let Pv : Nat → L2.St → Hp → Prop := fun i σ H' => ∃ o9 o10 fi di wi, σ = [some (.ref a), some (.int (part : Int)), some (.ref F0), some (.ref W0), some (.int (e.k : Int)), some (.int (fi : Nat)), some (.int (di : Nat)), some (.int (p : Int)), some (.ref G), o9, o10] ∧ Same H H' ∧ H' F0 = some (.lst (nvs found)) ∧ H' G = some (.tup (nvs g)) ∧ GrowE H' W0 wi ∧ wi ++ kids (fun x => (mOf n q).getD x 0) e.k fi di (g.drop i) = wt ++ kids (fun x => (mOf n q).getD x 0) e.k e.f e.d g ∧ wi.length ≤ 300 + i
      refine ⟨_, rfl, G, rfl, ⟨_, SqT.of hG⟩, for_tup (K := K) (a := G) (xs := nvs g) Pv ⟨o9, o10, e.f, e.d, wt, rfl, sm2, hF2, hG, gw2, rfl, by rw [List.length_append] at muW; omega⟩ (fun i σ H' _ ⟨_, _, _, _, _, _, _, _, hG, _⟩ => SqT.of hG) (fun i v σ H3 hi hp3 => ?_) (fun σ H3 hp3 => ?_)⟩
      · obtain ⟨o9, o10, fi, di, wi, rfl, sm3, hF3, hG3, gw3, ew, lw⟩ := hp3
        obtain ⟨t, ht, rfl⟩ := nvs_get hi
        obtain ⟨il, ht'⟩ := List.getElem?_eq_some_iff.mp ht
        have tg : t ∈ g := List.mem_of_getElem? ht
        have tn : t < n := pn t (oe.fp t (andN_sub _ _ t ((hg t).mp tg)))
        have tl : t < (mOf n q).length := by rw [nl]; exact tn
        have ha3 := sm3 _ _ ha
        obtain ⟨ys3, hy3, ly3⟩ := gw3.len
        have gx : SqT K H3 a (nvs (mOf n q)) := SqT.of ha3
        rw [List.drop_eq_getElem_cons il, ht'] at ew
        refine ⟨_, rfl, t, rfl, rfl, by omega, ?_⟩
        refine ⟨_, rfl, .inl ⟨rfl, ys3, SqL.of hy3⟩, _, rfl, _, rfl, _, _, rfl, rfl, _, rfl, _, rfl, _, rfl, a, _, _, _, rfl, rfl, gx, nvs_at tl, _, _, rfl, rfl, _, rfl, _, rfl, _, rfl, a, _, _, _, rfl, rfl, gx, nvs_at tl, _, _, rfl, rfl, by show 3 ≤ sizeLine; decide, fun u3 nu3 => ?_⟩
        obtain ⟨ys4, hy4, ly4, gw4⟩ := gw3.push (e := ⟨e.k ||| 2 ^ t, fi &&& (mOf n q).getD t 0, di &&& (mOf n q).getD t 0⟩) nu3
        refine ⟨W0, ys4, _, rfl, rfl, hy4, by rw [ly4, sizeLine_eq]; omega, ?_⟩
        refine ⟨_, rfl, _, rfl, _, rfl, _, _, rfl, rfl, _, rfl, _, rfl, _, _, rfl, rfl, ?_⟩
        refine ⟨_, _, andN fi (2 ^ t), di ||| 2 ^ t, wi ++ [Ent.mk (e.k ||| 2 ^ t) (fi &&& (mOf n q).getD t 0) (di &&& (mOf n q).getD t 0)], rfl, ?_, ?_, ?_, gw4, ?_, ?_⟩
        · exact fun b o h => by
            rw [upd_ne (ne_of_none h hW)]
            exact (sm3.trans (same_upd nu3)) b o h
        · rw [upd_ne (Ne.symm wF), upd_ne (fun ee => by rw [ee, nu3] at hF3; cases hF3)]
          exact hF3
        · have gW : G ≠ W0 := fun ee => by rw [ee, hy3] at hG3; cases hG3
          rw [upd_ne gW, upd_ne (fun ee => by rw [ee, nu3] at hG3; cases hG3)]
          exact hG3
        · rw [List.append_assoc]
          exact ew
        · rw [List.length_append, List.length_singleton]
          omega
      · obtain ⟨o9, o10, fi, di, wi, rfl, sm3, hF3, _, gw3, ew, _⟩ := hp3
        rw [nvs_len, List.drop_length] at ew
        replace ew : wi ++ [] = _ := ew
        rw [List.append_nil] at ew
        subst ew
        refine ⟨_, ?_, _, _, _, _, _, _, _, found, _, rfl, sm3, hF3, gw3, R2, rfl⟩
        have := kids_mu (N := n) (ms := fun x => (mOf n q).getD x 0) cl hm (K := e.k) (D := e.d) gd (fun t ht => ⟨pn t (oe.fp t (andN_sub _ _ t ((hg t).mp ht))), andN_sub _ _ t ((hg t).mp ht)⟩)
        rw [hsum, List.map_append, List.sum_append]
        have : muE n e = 2 ^ cntM n e.f := rfl
        omega
end
end K0
set_option Elab.async false
set_option linter.all false
set_option maxRecDepth 100000
set_option maxHeartbeats 4000000
namespace K0
open PySem PySem.Spec PyProof.Rows L2
section
variable {P : Program} {w : World} {K : PySem.W.Frag} {mg : Str → Option Value} {base : Heap} {f : Addr} {fd : FuncData}
theorem fwG_good {n : Int} : ∀ {r sn : List Int}, Good n (sn ++ r) → fwG n (r.map PyData.int) sn = none
  | [], sn, _ => rfl
  | i :: r, sn, g => by
    have nd := List.nodup_append.mp g.nd
    have h1 : okAt n sn (.int i) = true := decide_eq_true ⟨(g.rng i (List.mem_append_right _ List.mem_cons_self)).1, (g.rng i (List.mem_append_right _ List.mem_cons_self)).2, fun h => nd.2.2 i h i List.mem_cons_self rfl⟩
    rw [List.map_cons, fwG, if_pos h1]
    exact fwG_good (by rw [List.append_assoc]; exact g)
end
end K0
set_option Elab.async false
set_option linter.all false
set_option maxRecDepth 100000
set_option maxHeartbeats 4000000
namespace K0
open PySem PySem.Spec PyProof.Rows L2
/-! ### all knots, as lists -/
/-- the knots among the first x things -/
structure KnS (x : Nat) (q : List Pr) (kn : List (List Nat)) : Prop where
  snd : ∀ k ∈ kn, ∃ m, k = bitsOf x m ∧ ClqM q m ∧ ∀ y, m.testBit y = true → y < x
  all : ∀ m, ClqM q m → (∀ y, m.testBit y = true → y < x) → bitsOf x m ∈ kn
  few : kn.length ≤ 2 ^ x
  nd : kn.Nodup
theorem bitsOf_succ (x m : Nat) : bitsOf (x + 1) m = bitsOf x m ++ if m.testBit x = true then [x] else [] := by
  unfold bitsOf
  rw [List.range_succ, List.filter_append]
  congr 1
  cases e : m.testBit x <;> simp [e]
theorem bitsOf_congr {x a b : Nat} (h : ∀ y, y < x → a.testBit y = b.testBit y) : bitsOf x a = bitsOf x b := List.filter_congr fun y hy => h y (List.mem_range.mp hy)
theorem mem_bits {x m y : Nat} : y ∈ bitsOf x m ↔ y < x ∧ m.testBit y = true := by
  unfold bitsOf
  rw [List.mem_filter, List.mem_range]
theorem KnS.start (q : List Pr) : KnS 0 q [[]] := by
  have z : ∀ y, (0 : Nat).testBit y = false := Nat.zero_testBit
  refine ⟨fun k hk => ⟨0, List.mem_singleton.mp hk, fun x y hx => ?_, fun y hy => ?_⟩, fun m _ _ => List.mem_singleton.mpr rfl, Nat.le_refl _, List.nodup_cons.mpr ⟨List.not_mem_nil, List.nodup_nil⟩⟩
  · rw [z] at hx
    cases hx
  · rw [z] at hy
    cases hy
def fits (q : List Pr) (x : Nat) (k : List Nat) : Bool := k.all fun z => hasP q x z
theorem KnS.step {q : List Pr} {n : Int} (cl : Cl n q) {x : Nat} {kn : List (List Nat)} (h : KnS x q kn) : KnS (x + 1) q (kn ++ (kn.filter (fits q x)).map (· ++ [x])) := by
  refine ⟨fun k hk => ?_, fun m c b => ?_, ?_, ?_⟩
  · rcases List.mem_append.mp hk with hk | hk
    · obtain ⟨m, e, c, b⟩ := h.snd k hk
      refine ⟨m, ?_, c, fun y hy => by have := b y hy; omega⟩
      rw [bitsOf_succ, if_neg (fun t => by have := b x t; omega), List.append_nil]
      exact e
    · obtain ⟨k', hk', rfl⟩ := List.mem_map.mp hk
      obtain ⟨h1, h2⟩ := List.mem_filter.mp hk'
      obtain ⟨m, e, c, b⟩ := h.snd k' h1
      have near : ∀ z, m.testBit z = true → hasP q x z = true := fun z hz => List.all_eq_true.mp h2 z (by rw [e]; exact mem_bits.mpr ⟨b z hz, hz⟩)
      refine ⟨m ||| 2 ^ x, ?_, fun y z hy hz ne => ?_, fun y hy => ?_⟩
      · rw [bitsOf_succ, if_pos (by rw [or_two, decide_eq_true rfl, Bool.or_true]), e]
        congr 1
        refine bitsOf_congr fun y hy => ?_
        rw [or_two, decide_eq_false (by omega), Bool.or_false]
      · rw [or_two, Bool.or_eq_true, decide_eq_true_iff] at hy hz
        rcases hy with hy | rfl
        · rcases hz with hz | rfl
          · exact c y z hy hz ne
          · rw [hasP_sym]
            exact near y hy
        · rcases hz with hz | rfl
          · exact near z hz
          · exact absurd rfl ne
      · rw [or_two, Bool.or_eq_true, decide_eq_true_iff] at hy
        rcases hy with hy | rfl
        · have := b y hy
          omega
        · omega
  · by_cases t : m.testBit x = true
    · have b1 : ∀ y, (andN m (2 ^ x)).testBit y = true ↔ m.testBit y = true ∧ y ≠ x := fun y => by
        rw [andN_bit, two_bit, Bool.and_eq_true, Bool.not_eq_true', decide_eq_false_iff_not]
        exact ⟨fun h => ⟨h.1, fun e => h.2 e.symm⟩, fun h => ⟨h.1, fun e => h.2 e.symm⟩⟩
      have e1 : bitsOf x (andN m (2 ^ x)) = bitsOf x m := bitsOf_congr fun y hy => by
        rw [Bool.eq_iff_iff, b1]
        exact ⟨fun h => h.1, fun h => ⟨h, by omega⟩⟩
      have hin := h.all (andN m (2 ^ x)) (fun y z hy hz ne => c y z ((b1 y).mp hy).1 ((b1 z).mp hz).1 ne) fun y hy => by
        obtain ⟨h1, h2⟩ := (b1 y).mp hy
        have := b y h1
        omega
      rw [bitsOf_succ, if_pos t, ← e1]
      refine List.mem_append_right _ (List.mem_map.mpr ⟨_, List.mem_filter.mpr ⟨hin, List.all_eq_true.mpr fun z hz => ?_⟩, rfl⟩)
      obtain ⟨h1, h2⟩ := mem_bits.mp hz
      exact c x z t ((b1 z).mp h2).1 (Ne.symm ((b1 z).mp h2).2)
    · rw [bitsOf_succ, if_neg t, List.append_nil]
      refine List.mem_append_left _ (h.all m c fun y hy => ?_)
      have := b y hy
      rcases Nat.lt_or_eq_of_le (Nat.le_of_lt_succ this) with l | rfl
      · exact l
      · exact absurd hy t
  · rw [List.length_append, List.length_map, Nat.pow_succ]
    have := List.length_filter_le (fits q x) kn
    have := h.few
    omega
  · refine List.nodup_append.mpr ⟨h.nd, List.pairwise_map.mpr ((h.nd.filter _).imp fun {a b} ne e => ne (List.append_cancel_right e)), fun a ha b hb e => ?_⟩
    obtain ⟨k', _, rfl⟩ := List.mem_map.mp hb
    obtain ⟨m, e2, _, _⟩ := h.snd a ha
    have hx : x ∈ bitsOf x m := by
      rw [← e2, e]
      exact List.mem_append_right _ (List.mem_singleton.mpr rfl)
    have := (mem_bits.mp hx).1
    omega
/-- knots as they lie on the heap -/
def KnH (H : Hp) (D : Addr) (kn : List (List Nat)) : Prop := ∃ l : List (Addr × List Nat), H D = some (.lst (l.map fun z => V.ref z.1)) ∧ l.map (·.2) = kn ∧ ∀ z ∈ l, H z.1 = some (.lst (nvs z.2))
theorem KnH.mono {H H' : Hp} {D : Addr} {kn : List (List Nat)} (s : Same H H') : KnH H D kn → KnH H' D kn := fun ⟨l, h, e, p⟩ => ⟨l, s _ _ h, e, fun z hz => s _ _ (p z hz)⟩
end K0
set_option Elab.async false
set_option linter.all false
set_option maxRecDepth 100000
set_option maxHeartbeats 4000000
namespace K0
open PySem PySem.Spec PyProof.Rows L2
abbrev s_kn : Stmt := top 73
/-- a block within a block -/
theorem lookup_relabel {env : Env} : ∀ {names : List (Str × NameKind)} {x : Str}, names.lookup x = some .cell ∨ names.lookup x = some .free →
    (names.map fun (n, k) => if (k == NameKind.free && env.scope.kind == .function && env.kindOf n == some .cell) then (n, NameKind.cell) else (n, k)).lookup x = some .cell ∨
    (names.map fun (n, k) => if (k == NameKind.free && env.scope.kind == .function && env.kindOf n == some .cell) then (n, NameKind.cell) else (n, k)).lookup x = some .free
  | [], _, h => by simp at h
  | (n, k) :: r, x, h => by
    have ih := @lookup_relabel env r x
    rw [List.map_cons]
    cases hx : x == n with
    | true =>
      simp only [List.lookup_cons, hx] at h
      by_cases hc : (k == NameKind.free && env.scope.kind == .function && env.kindOf n == some .cell) = true
      · simp only [hc, if_true, List.lookup_cons, hx]
        exact .inl trivial
      · simp only [hc, if_false, List.lookup_cons, hx, Bool.false_eq_true]
        exact h
    | false =>
      simp only [List.lookup_cons, hx] at h
      by_cases hc : (k == NameKind.free && env.scope.kind == .function && env.kindOf n == some .cell) = true
      · simp only [hc, if_true, List.lookup_cons, hx]
        exact ih h
      · simp only [hc, if_false, List.lookup_cons, hx, Bool.false_eq_true]
        exact ih h
theorem blkOk_in {N : List Str} {sc scope : Scope} {own : List (Str × Nat)} {env : Env} (h : blkC N sc scope own = true) : BlkOk N (relabel sc env) scope own := by
  have b := blkOk_by h
  exact ⟨b.kind, b.uniq, b.ix, fun y hy e => lookup_relabel (b.free y hy e), b.own⟩
section
variable {P : Program} {w : World} {K : PySem.W.Frag} {mg : Str → Option Value} {base : Heap} {f : Addr} {fd : FuncData}
/-- _law_knots -/
def spKn : Sp := fun vs H Q _ => ∃ (b : Addr) (n : Nat) (q : List Pr), vs = [.int (n : Int), .ref b] ∧ n ≤ 8 ∧ Cl n q ∧ Ls H b q ∧ ∀ H' D kn, Same H H' → KnH (New H H') D kn → KnS n q kn → Q (.ref D) H'
abbrev knN : List Str := ["_law_many", "_law_pairs", "_law_knots_here", "_law_x", "_law_near_here", "_law_knot", "_law_z"]
theorem sc_kn : FnScope knN ["_law_many", "_law_pairs"] (defScope s_kn) := ⟨rfl, rfl, rfl, by decide +kernel, rfl, by decide +kernel, by decide +kernel⟩
theorem all_len {p : Nat → Bool} : ∀ k : List Nat, decide ((k.filter p).length = k.length) = k.all p
  | [] => rfl
  | x :: k => by
    have ih := all_len (p := p) k
    have := List.length_filter_le p k
    rw [List.filter_cons, List.all_cons, ← ih]
    cases e : p x with
    | true =>
      rw [if_pos rfl, List.length_cons, List.length_cons, Bool.true_and]
      exact decide_eq_decide.mpr (by omega)
    | false =>
      rw [if_neg Bool.false_ne_true, List.length_cons, Bool.false_and, decide_eq_false_iff_not]
      omega
theorem inV_nvs (x : Nat) (l : List Nat) : inV (.int (x : Int)) (nvs l) = decide (x ∈ l) := by
  have : nvs l = (l.map fun (k : Nat) => (k : Int)).map V.int := by
    unfold nvs
    rw [List.map_map]
    rfl
  rw [this, inV_ints]
  refine decide_eq_decide.mpr ⟨fun h => ?_, fun h => List.mem_map.mpr ⟨x, h, rfl⟩⟩
  obtain ⟨k, hk, e⟩ := List.mem_map.mp h
  rw [show x = k by omega]
  exact hk
theorem fits_near {n x : Nat} {q : List Pr} {m : Nat} (b : ∀ y, m.testBit y = true → y < x) (xn : x < n) : (bitsOf x m).all (fun z => decide (z ∈ nearOf (n : Int) q x)) = fits q x (bitsOf x m) := by
  unfold fits
  rw [Bool.eq_iff_iff, List.all_eq_true, List.all_eq_true]
  have e : ∀ z ∈ bitsOf x m, decide (z ∈ nearOf (n : Int) q x) = hasP q x z := fun z hz => by
    have := (mem_bits.mp hz).1
    unfold nearOf
    rw [Bool.eq_iff_iff, decide_eq_true_iff, List.mem_filter, List.mem_range]
    exact ⟨fun h => h.2, fun h => ⟨by omega, h⟩⟩
  exact ⟨fun h z hz => by rw [← e z hz]; exact h z hz, fun h z hz => by rw [e z hz]; exact h z hz⟩
/-- .. of new things, none of them where H0 has something -/
def KnN (H0 H : Hp) (D : Addr) (kn : List (List Nat)) : Prop := H0 D = none ∧ ∃ l : List (Addr × List Nat), H D = some (.lst (l.map fun z => V.ref z.1)) ∧ l.map (·.2) = kn ∧ ∀ z ∈ l, H z.1 = some (.lst (nvs z.2)) ∧ H0 z.1 = none
theorem KnN.mono {H0 H H' : Hp} {D : Addr} {kn : List (List Nat)} (s : Same H H') : KnN H0 H D kn → KnN H0 H' D kn := fun ⟨n, l, h, e, p⟩ => ⟨n, l, s _ _ h, e, fun z hz => ⟨s _ _ (p z hz).1, (p z hz).2⟩⟩
theorem knw_at {H0 H : Hp} {x : Addr} (h : H0 x = none) : New H0 H x = H x := by
  unfold New
  rw [h]
theorem KnN.kn {H0 H : Hp} {D : Addr} {kn : List (List Nat)} : KnN H0 H D kn → KnH (New H0 H) D kn := fun ⟨n, l, h, e, p⟩ => ⟨l, by rw [knw_at n]; exact h, e, fun z hz => by rw [knw_at (p z hz).2]; exact (p z hz).1⟩
def KnG (H0 H : Hp) (D : Addr) (kn : List (List Nat)) : Prop := ∃ l : List (Addr × List Nat), H D = some (.lst (l.map fun z => V.ref z.1)) ∧ l.map (·.2) = kn ∧ ∀ z ∈ l, H z.1 = some (.lst (nvs z.2)) ∧ z.1 ≠ D ∧ H0 z.1 = none
theorem KnG.mono {H0 H H' : Hp} {D : Addr} {kn : List (List Nat)} (s : Same H H') : KnG H0 H D kn → KnG H0 H' D kn := fun ⟨l, h, e, p⟩ => ⟨l, s _ _ h, e, fun z hz => ⟨s _ _ (p z hz).1, (p z hz).2⟩⟩
theorem KnG.push {H0 H : Hp} {D p : Addr} {kn : List (List Nat)} {k : List Nat} (h : KnG H0 H D kn) (hp : H p = some (.lst (nvs k))) (ne : p ≠ D) (n0 : H0 p = none) : ∃ ys, H D = some (.lst ys) ∧ ys.length = kn.length ∧ KnG H0 (upd H D (.lst (ys ++ [.ref p]))) D (kn ++ [k]) := by
  obtain ⟨l, h1, h2, h3⟩ := h
  refine ⟨_, h1, by rw [← h2, List.length_map, List.length_map], l ++ [(p, k)], by rw [upd_same, List.map_append]; rfl, by rw [List.map_append, h2]; rfl, fun z hz => ?_⟩
  rcases List.mem_append.mp hz with hz | hz
  · exact ⟨by rw [upd_ne (h3 z hz).2.1]; exact (h3 z hz).1, (h3 z hz).2⟩
  · rw [List.mem_singleton.mp hz]
    exact ⟨by rw [upd_ne ne]; exact hp, ne, n0⟩
theorem ok_kn (F : Fun K "_law_knots" "_law_knots" s_kn f fd) (B : Blt2 mg) (NE : Df P w K mg base "_law_near" 2 ["_law_many", "_law_pairs", "_law_x"] spNe) : FnOk P w K mg base (L2.CX P w) 3 f fd ["_law_many", "_law_pairs"] spKn := by
  refine F.okX sc_kn (fun vs H Q E h => ?_) (fun cdv A outer s H vs Q E hr h => ?_)
  · obtain ⟨b, n, q, rfl, _⟩ := h
    rfl
  · obtain ⟨b, n, q, rfl, n8, cl, hl, k⟩ := h
    have nd := sc_kn.nd
    let ttI : TT := tTest (tOp (rIn K false) (tVar 6) (tVar 4))
    let teI : TE := tLc (iList K (tVar 5)) (gName 6) ttI (tVar 6) [6]
    refine ⟨_, pss_cons (ps_set (i := 2) nd rfl (.inl rfl) (pe_lst (pa_cons (pe_lst pa_nil) pa_nil)))
      (pss_cons (ps_for (passes_of rfl) rfl (pi_range1 (by rfl) B.range (pa_cons (pv 0) pa_nil)) (pg_name (i := 3) nd rfl (.inr rfl))
        (pss_cons (ps_set (i := 4) nd rfl (.inr rfl) (pe_df NE hr (by rfl) passUp (pa_cons (pv 0) (pa_cons (pv 1) (pa_cons (pv 3) pa_nil)))))
        (pss_one (ps_set (i := 2) nd rfl (.inl rfl) (pe_op op_cat (pv 2) (pe_lc (own := [("_law_knot", 5)]) (g := gName 5) (tt := tTest (tOp rEq (tCB (rLenI K) (tCons teI tNil)) (tCB (rLenI K) (tCons (tVar 5) tNil)))) (te := tOp rCat (tVar 5) (tLst (tCons (tVar 3) tNil))) rfl nd (pi_list (pv 2))
          (blkOk_by (N := knN) (sc := defScope s_kn) (by decide +kernel)) (fun _ _ _ _ _ => pg_name (i := 5) nd rfl (.inl rfl))
          (fun _ _ _ _ _ => pts_one (pt_cmpR op_eq (pe_callB c_len (by rfl) B.len PySem.boot_len (pa_cons (pe_lc (own := [("_law_z", 6)]) (g := gName 6) (tt := ttI) (te := tVar 6) rfl nd (pi_list (pv 5)) (blkOk_in (N := knN) (by decide +kernel)) (fun _ _ _ _ _ => pg_name (i := 6) nd rfl (.inl rfl)) (fun _ _ _ _ _ => pts_one (pt_cmpR op_in_seq (pv 6) (pv 4) (by rfl))) (fun _ _ _ _ _ => pv 6)) pa_nil)) (pe_callB c_len (by rfl) B.len PySem.boot_len (pa_cons (pv 5) pa_nil)) (by rfl)))
          (fun _ _ _ _ _ => pe_op op_cat (pv 5) (pe_lst (pa_cons (pv 3) pa_nil)))))))))
      (pss_one (ps_ret (pv 2)))), ?_⟩
    refine ⟨by show 0 ≤ sizeLine; decide, fun e0 ne0 => ⟨by show 1 ≤ sizeLine; decide, fun D0 nD0 => ?_⟩⟩
    have s1 : Same H (upd H e0 (.lst [])) := same_upd ne0
    have s2 := s1.trans (same_upd (o := .lst [.ref e0]) nD0)
    have d0 : D0 ≠ e0 := fun e => by rw [e, upd_same] at nD0; cases nD0
    let Pv : Nat → L2.St → Hp → Prop := fun i σ H' => ∃ D o3 o4 kn, σ = [some (.int (n : Int)), some (.ref b), some (.ref D), o3, o4, none, none] ∧ Same H H' ∧ KnN H H' D kn ∧ KnS i q kn
    refine ⟨_, rfl, n, rfl, by omega, by omega, ?_⟩
    rw [Int.toNat_natCast]
    refine for_range (n := n) Pv ⟨D0, none, none, [[]], rfl, s2, ⟨s1.free nD0, [(e0, [])], upd_same, rfl, fun z hz => ?_⟩, KnS.start q⟩ (fun i σ H1 hi h => ?_) (fun σ H1 h => ?_)
    · rw [List.mem_singleton.mp hz]
      show (upd _ _ _) e0 = _ ∧ _
      rw [upd_ne (Ne.symm d0), upd_same]
      exact ⟨rfl, ne0⟩
    · obtain ⟨D, o3, o4, kn, rfl, t1, hD, ks⟩ := h
      rw [Int.zero_add]
      refine ⟨_, rfl, _, rfl, _, rfl, b, n, i, q, rfl, by omega, by omega, cl, hl.mono t1, fun H2 a t2 na ha => ?_⟩
      obtain ⟨_, l, hl1, hl2, hl3⟩ := hD.mono t2
      have kl : kn.length ≤ 256 := by
        have h1 := ks.few
        have h2 : 2 ^ i ≤ 2 ^ 8 := Nat.pow_le_pow_right (by decide) (by omega)
        omega
      have ll : l.length = kn.length := by rw [← hl2, List.length_map]
      refine ⟨_, rfl, _, rfl, D, rfl, ⟨_, SqL.of hl1⟩, fun D2 nD2 => ?_⟩
      refine lc_it (walk_list (K := K) (a := D) (xs := l.map fun z => V.ref z.1)) (fun j H' => Same H2 H' ∧ KnG H H' D2 (((kn.take j).filter (fits q i)).map (· ++ [i]))) ⟨same_upd nD2, [], upd_same, rfl, fun z hz => by cases hz⟩ (fun j H' _ z => SqL.of (z.1 _ _ hl1)) (fun j x H' H3 hj z y => ?_) (fun H' z => ?_)
      · obtain ⟨rfl, hv⟩ := y
        obtain ⟨sm, kg⟩ := z
        rw [List.length_map] at hj
        have hlj : l[j]? = some l[j] := List.getElem?_eq_getElem hj
        rw [List.getElem?_map, hlj] at hv
        cases hv
        have kj : kn[j]? = some l[j].2 := by rw [← hl2, List.getElem?_map, hlj]; rfl
        obtain ⟨m, em, cm, bm⟩ := ks.snd _ (List.mem_of_getElem? kj)
        have hk0 := sm _ _ (hl3 _ (List.getElem_mem hj)).1
        have kil : l[j].2.length ≤ 8 := by
          rw [em]
          unfold bitsOf
          refine Nat.le_trans (List.length_filter_le _ _) ?_
          rw [List.length_range]
          omega
        refine ⟨rfl, _, rfl, l[j].1, rfl, ⟨_, SqL.of hk0⟩, fun D3 nD3 => ?_⟩
        refine lc_it (walk_list (K := K) (a := l[j].1) (xs := nvs l[j].2)) (fun i2 H' => Same H3 H' ∧ H' D3 = some (.lst (nvs ((l[j].2.take i2).filter fun z => decide (z ∈ nearOf (n : Int) q i))))) ⟨same_upd nD3, upd_same⟩ (fun i2 H' _ z => SqL.of (z.1 _ _ hk0)) (fun i2 x H' H4 hi2 z y => ?_) (fun H4 z => ?_)
        · obtain ⟨rfl, hv⟩ := y
          obtain ⟨sm3, hD3⟩ := z
          obtain ⟨z, hz, rfl⟩ := nvs_get hv
          refine ⟨rfl, _, rfl, _, rfl, a, _, rfl, .inl (SqL.of (sm3 _ _ (sm _ _ ha))), rfl, nvs_flat _, _, rfl, ?_⟩
          rw [if_neg Bool.false_ne_true, inV_nvs]
          have et := take_at hz
          cases e : decide (z ∈ nearOf (n : Int) q i) with
          | false =>
            refine iteF ⟨sm3, ?_⟩
            rw [et, List.filter_append, List.filter_cons, e, if_neg Bool.false_ne_true, List.filter_nil, List.append_nil]
            exact hD3
          | true =>
            refine iteT ⟨_, rfl, _, hD3, ?_, fun b2 o h => ?_, ?_⟩
            · rw [nvs_len, sizeLine_eq]
              have h1 := List.length_filter_le (fun z => decide (z ∈ nearOf (n : Int) q i)) (l[j].2.take i2)
              rw [List.length_take] at h1
              omega
            · rw [upd_ne (ne_of_none h nD3)]
              exact sm3 b2 o h
            · rw [upd_same, et, List.filter_append, List.filter_cons, e, if_pos rfl, List.filter_nil]
              unfold nvs
              rw [List.map_append]
              rfl
        · obtain ⟨sm3, hD3⟩ := z
          rw [nvs_len, List.take_length] at hD3
          refine ⟨D3, _, rfl, .inl (SqL.of hD3), _, rfl, l[j].1, _, rfl, .inl (SqL.of (sm3 _ _ hk0)), rfl, _, rfl, ?_⟩
          rw [dec_int]
          have ec : ((((nvs (l[j].2.filter fun z => decide (z ∈ nearOf (n : Int) q i))).length : Nat) : Int) == (((nvs l[j].2).length : Nat) : Int)) = fits q i l[j].2 := by
            rw [nvs_len, nvs_len]
            have h1 : (l[j].2.all fun z => decide (z ∈ nearOf (n : Int) q i)) = fits q i l[j].2 := by
              rw [em]
              exact fits_near bm hi
            rw [← h1, ← all_len, Bool.eq_iff_iff, beq_iff_eq, decide_eq_true_iff]
            omega
          rw [ec]
          have kt := take_at kj
          have kg3 := kg.mono sm3
          cases e : fits q i l[j].2 with
          | false =>
            refine iteF ⟨sm.trans sm3, ?_⟩
            rw [kt, List.filter_append, List.filter_cons, e, if_neg Bool.false_ne_true, List.filter_nil, List.append_nil]
            exact kg3
          | true =>
            refine iteT ⟨_, rfl, _, rfl, by show 1 ≤ sizeLine; decide, fun u nu => ?_⟩
            have t4 : Same H4 (upd H4 u (.lst [.int (i : Int)])) := same_upd nu
            refine ⟨l[j].1, u, nvs l[j].2, _, rfl, rfl, t4 _ _ (sm3 _ _ hk0), upd_same, ?_, fun p np => ?_⟩
            · rw [nvs_len, sizeLine_eq]
              show _ + 1 ≤ _
              omega
            · have t5 := t4.trans (same_upd (o := .lst (nvs l[j].2 ++ [.int (i : Int)])) np)
              have kg5 := kg3.mono t5
              have pD : p ≠ D2 := fun ee => by
                obtain ⟨l2, h2, _⟩ := kg3.mono t4
                rw [ee, h2] at np
                cases np
              obtain ⟨ys, hy, ly, kg6⟩ := kg5.push (p := p) (k := l[j].2 ++ [i]) (by rw [upd_same]; unfold nvs; rw [List.map_append]; rfl) pD ((t1.trans (t2.trans (sm.trans (sm3.trans t4)))).free np)
              refine ⟨ys, hy, ?_, fun b2 o h => ?_, ?_⟩
              · have h1 := List.length_filter_le (fits q i) (kn.take j)
                rw [List.length_take] at h1
                rw [ly, List.length_map, sizeLine_eq]
                omega
              · rw [upd_ne (ne_of_none h nD2)]
                exact t5 _ _ (sm3 _ _ (sm b2 o h))
              · rw [kt, List.filter_append, List.filter_cons, e, if_pos rfl, List.filter_nil, List.map_append]
                exact kg6
      · obtain ⟨sm, l2, h1, h2, h3⟩ := z
        rw [List.length_map, ll, List.take_length] at h2
        refine ⟨D, D2, _, _, rfl, rfl, sm _ _ hl1, h1, ?_, fun p np => ?_⟩
        · rw [List.length_map, List.length_map, sizeLine_eq]
          have h4 := List.length_filter_le (fits q i) kn
          have h5 : l2.length = (kn.filter (fits q i)).length := by rw [← List.length_map (f := (· ++ [i])) (as := kn.filter (fits q i)), ← h2, List.length_map]
          omega
        · have t6 : Same H' (upd H' p (.lst (l.map (fun z => V.ref z.1) ++ l2.map fun z => V.ref z.1))) := same_upd np
          refine ⟨p, _, _, kn ++ (kn.filter (fits q i)).map (· ++ [i]), rfl, t1.trans (t2.trans (sm.trans t6)), ⟨(t1.trans (t2.trans sm)).free np, l ++ l2, by rw [upd_same, List.map_append], by rw [List.map_append, hl2, h2], fun z hz => ?_⟩, ks.step cl⟩
          rcases List.mem_append.mp hz with hz | hz
          · exact ⟨t6 _ _ (sm _ _ (hl3 z hz).1), (hl3 z hz).2⟩
          · exact ⟨t6 _ _ (h3 z hz).1, (h3 z hz).2.2⟩
    · obtain ⟨D, o3, o4, kn, rfl, t1, hD, ks⟩ := h
      exact ⟨_, rfl, k H1 D kn t1 hD.kn ks⟩
end
end K0
set_option Elab.async false
set_option linter.all false
set_option maxRecDepth 100000
set_option maxHeartbeats 4000000
/-! ### sorted: tuples of ints of any length -/
namespace RowA
open PySem PySem.Spec PyProof.Rows L2
section
variable {prog : Program} {w : World} {A : Around} {E : Value → Shared → Prop} {s : Shared}
theorem isT {M : Model} {h : Heap} {a : Addr} {items : Array Value} (x : IsTup h a items) : PySem.W.Looks M h (isInstance (.ref a) (.type "tuple")) true := fun A Q E s' k q => by
  obtain ⟨o, ho, hc, _⟩ := x
  exact wpAny_isInstance (T := "tuple") ⟨o, k _ _ ho, hc⟩ (by rw [isSubtype_type]; rfl) q
theorem call_ltT {a b : Addr} {items items2 : Array Value} {ns ms : List Int} {Q : Value → Shared → Prop} (ha : IsTup s.heap a items) (hb : IsTup s.heap b items2) (ia : IntsAre items.toList ns) (ib : IntsAre items2.toList ms) (h : Q (.bool (HT.lexLt ns ms)) s) : wpAny (model prog w) A (call (.builtin "tuple.__lt__") [.ref a, .ref b]) Q E s := by
  obtain ⟨⟨cls, dd, data, sl⟩, ho, hc, n, hd⟩ := id ha
  obtain ⟨⟨cls2, dd2, data2, sl2⟩, ho2, hc2, n2, hd2⟩ := id hb
  simp only at hc hd hc2 hd2
  subst hc hd hc2 hd2
  refine wpAny_call (codeAny_call_builtin PySem.F.slot_tuple_lt.plain PySem.F.entry_tuple_lt (@PySem.W.check_slot (model prog w) _ _ _ "tuple.__lt__" "tuple" "__lt__" (.ref a) [.ref b] [] _ (by decide +kernel) (by decide +kernel) (isT ha) (PySem.F.args_tuple_lt_2 _ _) ?_))
  refine wpAny_mono (NtL.nt_lt_ints a b (.type "tuple") (.type "tuple") items items2 n n2 dd dd2 sl sl2 ns ms ia ib prog w _ (wants Q E) s ⟨ho, ho2, fun M => isT hb, h⟩) (fun fin s' q => ?_) fun _ _ z => z
  cases fin with
  | done f => exact q
  | again c => exact q
theorem lt_one {v u : Value} {ns ms : List Int} {Q : Bool → Shared → Prop} (hu : A.units < cLine) (hv : TS.TupInts s.heap v ns) (hw : TS.TupInts s.heap u ms) (h : Q (HT.lexLt ns ms) s) : wpAny (model prog w) A (keyLt' oneType' v u) Q E s := by
  obtain ⟨a, xs, rfl, ta, ia⟩ := hv
  obtain ⟨b, ys, rfl, tb, ib⟩ := hw
  rw [keyLt'_oneType, oneLt'_eq]
  simp only [if_true]
  refine wpAny_bind (wpAny_cRoomFor hu ?_)
  refine wpAny_bind (wpAny_callSpecialIfBound?_slot ta.typeIs PySem.F.slot_tuple_lt (call_ltT ta tb ia ib ?_))
  exact wpAny_truthy_bool h
theorem lex_any {b : Bool} {Q : Bool → Shared → Prop} : ∀ {xs ys : List Value} {ns ms : List Int} (i : Nat) (fin : Bool), IntsAre xs ns → IntsAre ys ms → fin = decide (ns.length < ms.length) → Q (HT.lexLt ns ms) s → PySem.W.KatLex prog w A b fin Q (xs.zip ys) i s
  | _, _, _, _, i, fin, .nil, .nil, hf, h => by
    rw [HT.lexLt_nil_nil] at h
    subst hf
    exact PySem.W.kat_nil h
  | _, _, _, _, i, fin, .nil, .cons m u hy, hf, h => by
    rw [HT.lexLt_nil_cons] at h
    have e : fin = true := by rw [hf]; exact decide_eq_true (Nat.succ_pos _)
    subst e
    exact PySem.W.kat_nil h
  | _, _, _, _, i, fin, .cons n t hx, .nil, hf, h => by
    rw [HT.lexLt_cons_nil] at h
    have e : fin = false := by rw [hf]; exact decide_eq_false (Nat.not_lt_zero _)
    subst e
    exact PySem.W.kat_nil h
  | _, _, _, _, i, fin, .cons (ns := ns) n t hx, .cons (ns := ms) m u hy, hf, h => by
    show PySem.W.KatLex prog w A b fin Q ((Value.int n t, Value.int m u) :: _) i s
    have hf' : fin = decide (ns.length < ms.length) := by rw [hf]; simp
    rw [HT.lexLt_cons] at h
    refine PySem.W.kat_cons (wpAny_eqBool_int ?_)
    by_cases e : n = m
    · subst e
      rw [if_pos rfl] at h
      rw [beq_self_eq_true]
      exact PySem.W.kat_yes (lex_any (i + 1) fin hx hy hf' h)
    · rw [if_neg e] at h
      rw [show (n == m) = false from beq_eq_false_iff_ne.mpr e]
      exact PySem.W.kat_no (TS.oneLt_ints _ h)
theorem lt_tups {v u : Value} {ns ms : List Int} {Q : Bool → Shared → Prop} (hv : TS.TupInts s.heap v ns) (hw : TS.TupInts s.heap u ms) (h : Q (HT.lexLt ns ms) s) : wpAny (model prog w) A (keyLt' (tuples' true) v u) Q E s := by
  obtain ⟨a, xs, rfl, ⟨o, ho, hc, n, hd⟩, ia⟩ := hv
  obtain ⟨b, ys, rfl, ⟨o2, ho2, hc2, n2, hd2⟩, ib⟩ := hw
  refine PySem.W.kat_lt ho hd ho2 hd2 (lex_any 0 _ ia ib ?_ h)
  have z1 := ia.length
  have z2 := ib.length
  rw [Array.length_toList] at z1 z2
  rw [z1, z2]
theorem firsts_ne {h : Heap} : ∀ vs : List Value, (∀ v ∈ vs, ∃ ns, ns ≠ [] ∧ TS.TupInts h v ns) → ∃ fs, PySem.W.KatTups h vs fs ∧ fs.length = vs.length ∧ ∀ f, f ∈ fs → ∃ n t, f = Value.int n t
  | [], _ => ⟨[], PySem.W.KatTups.nil, rfl, fun f hf => by simp at hf⟩
  | v :: vs, x => by
    obtain ⟨fs, k, hl, hi⟩ := firsts_ne vs fun u hu => x u (List.mem_cons_of_mem _ hu)
    obtain ⟨ns, ne, ⟨a, xs, rfl, ⟨o, ho, hc, n, hdt⟩, i⟩⟩ := x v (List.mem_cons_self ..)
    match ns, ne, i with
    | m :: r, _, i =>
      obtain ⟨t, e⟩ := i.get 0 m rfl
      have e' : xs[0]? = some (.int m t) := by rw [← Array.getElem?_toList]; exact e
      refine ⟨.int m t :: fs, PySem.W.KatTups.cons ho hc hdt e' k, by rw [List.length_cons, List.length_cons, hl], fun f hf => ?_⟩
      rcases List.mem_cons.mp hf with rfl | hf
      · exact ⟨m, t, rfl⟩
      · exact hi f hf
theorem mapM_firsts {M : Model} : ∀ vs : List Value, (∀ v ∈ vs, ∃ ns, TS.TupInts s.heap v ns) → ∃ fs : List (Option Value), fs.length = vs.length ∧ (∀ v r, vs = v :: r → TS.TupInts s.heap v [] → ∃ t, fs = none :: t) ∧ ∀ Q : List (Option Value) → Shared → Prop, Q fs s → wpAny M A (vs.mapM firstOfTuple') Q E s
  | [], _ => ⟨[], rfl, fun v r e _ => (nomatch e), fun Q q => (by rw [List.mapM_nil]; exact wpAny_pure q)⟩
  | v :: vs, x => by
    obtain ⟨fs, hl, _, k⟩ := mapM_firsts (M := M) vs fun u hu => x u (List.mem_cons_of_mem _ hu)
    obtain ⟨ns, ⟨a, xs, rfl, ⟨o, ho, hc, n, hd⟩, i⟩⟩ := x v (List.mem_cons_self ..)
    refine ⟨xs[0]? :: fs, by rw [List.length_cons, List.length_cons, hl], fun v r e z => ?_, fun Q q => ?_⟩
    · cases e
      obtain ⟨a', xs', e', ⟨o', ho', _, n', hd'⟩, i'⟩ := z
      cases e'
      rw [ho] at ho'
      cases ho'
      rw [hd] at hd'
      cases hd'
      have := IntsAre.nil_inv i'
      have e0 : xs = #[] := Array.toList_inj.mp this
      rw [e0]
      exact ⟨fs, rfl⟩
    · rw [List.mapM_cons]
      refine wpAny_bind ?_
      rw [PySem.W.kas_first_eq]
      refine wpAny_bind (wpAny_typeOf (T := "tuple") ⟨o, ho, hc⟩ ?_)
      rw [if_neg (by decide)]
      refine wpAny_bind (listItems_at ho hd (wpAny_pure ?_))
      exact wpAny_bind (k _ (wpAny_pure q))
theorem kind_mt {vs : List Value} {v : Value} {r : List Value} {Q : SortKind → Shared → Prop} (hp : ∀ v ∈ vs, ∃ ns, TS.TupInts s.heap v ns) (e : vs = v :: r) (z : TS.TupInts s.heap v []) (h : Q oneType' s) : wpAny (model prog w) A (keyKind' vs.toArray) Q E s := by
  obtain ⟨fs, hl, hn, k⟩ := mapM_firsts (M := model prog w) (A := A) (E := E) vs hp
  obtain ⟨t, rfl⟩ := hn v r e z
  have hT : ∀ u ∈ vs, PySem.W.Looks (model prog w) s.heap (typeOf u) (.type "tuple") := fun u hu => by
    obtain ⟨ns, ⟨a, xs, rfl, ⟨o, ho, hc, _⟩, _⟩⟩ := hp u hu
    exact fun A Q E s' kk q => wpAny_typeOf (T := "tuple") ⟨o, kk _ _ ho, hc⟩ q
  rw [keyKind'_eq, List.mapM_toArray, map_eq_pure_bind]
  refine wpAny_bind (wpAny_bind (k _ (wpAny_pure ?_)))
  rw [if_neg (by simp), if_neg (by simp)]
  rw [oneTypeOnly'_eq, List.mapM_toArray, map_eq_pure_bind]
  refine wpAny_bind (wpAny_bind (wpAny_bind (PySem.W.kas_mapM (r := Value.type "tuple") _ (fun v hv Q' hq => (hT v hv).here hq) (wpAny_pure ?_))))
  subst e
  have hall : ((List.map (fun _ => Value.type "tuple") (v :: r)).toArray.all fun x => x == Value.type "tuple") = true := by
    simp only [List.all_toArray, List.all_map, List.all_eq_true]
    intro _ _
    show (Value.type "tuple" == Value.type "tuple") = true
    decide
  have h0 : (List.map (fun _ => Value.type "tuple") (v :: r)).toArray[0]? = some (Value.type "tuple") := by simp
  rw [h0]
  simp only [hall, if_true]
  exact wpAny_pure (wpAny_pure h)
/-- all tuples hold something, or the first holds nothing -/
def Alt (h : Heap) (vs : List Value) : Prop := (∀ v ∈ vs, ∃ ns, ns ≠ [] ∧ TS.TupInts h v ns) ∨ ∃ v r, vs = v :: r ∧ TS.TupInts h v []
theorem any_sortable {a : Addr} {vs : List Value} (hu : A.units < cLine) (hz : 0 < vs.length) (hp : ∀ v ∈ vs, ∃ ns, TS.TupInts s.heap v ns) (alt : Alt s.heap vs) (ha : ∀ o, s.heap.get? a = some o → o.cls ≠ .type "tuple") (h0 : Heap) (same : ∀ v ∈ vs, TS.intsOf h0 v = TS.intsOf s.heap v) :
    SrtO.SortableO prog w A s a vs fun v u => HT.lexLt (TS.intsOf h0 v) (TS.intsOf h0 u) := by
  intro h' keep
  have kp : ∀ b o, s.heap.get? b = some o → o.cls = .type "tuple" → h'.get? b = some o := fun b o e c => keep b o (fun z => by subst z; exact ha o e c) e
  have hp' : ∀ v ∈ vs, TS.TupInts h' v (TS.intsOf h0 v) := fun v hv => by
    obtain ⟨ns, t⟩ := hp v hv
    have : TS.intsOf h0 v = ns := by rw [same v hv, t.ints]
    rw [this]
    exact t.keeps kp
  rcases alt with alt | ⟨v, r, e, z⟩
  · obtain ⟨fs, h1, h2, h3⟩ := firsts_ne (h := h') vs fun v hv => by
      obtain ⟨ns, ne, t⟩ := alt v hv
      exact ⟨ns, ne, t.keeps kp⟩
    refine ⟨tuples' true, fun Q E hq => ?_, fun p q hm hm' => lt_tups (hp' _ hm) (hp' _ hm') ⟨rfl, rfl⟩⟩
    refine PySem.W.kat_kind (T := .type "int") h1 (by omega) (fun f hm => ?_) (by rfl) ?_
    · obtain ⟨x, t, rfl⟩ := h3 f hm
      exact PySem.W.Looks.now
    · have e : (Value.type "int" != Value.type "tuple") = true := by first | decide +kernel | rfl | decide
      rw [e]
      exact hq
  · exact ⟨oneType', fun Q E hq => kind_mt (fun v hv => ⟨_, hp' v hv⟩) e (z.keeps kp) hq, fun p q hm hm' => lt_one hu (hp' _ hm) (hp' _ hm') ⟨rfl, rfl⟩⟩
theorem sorted_any {l : Addr} {vs : List Value} {Q : Value → Shared → Prop} (hu : A.units + 64 < cLine) (hl : s.heap.IsList l vs.toArray) (hz : vs.length ≤ sizeLine) (hp : ∀ v ∈ vs, ∃ ns, TS.TupInts s.heap v ns) (alt : Alt s.heap vs)
    (h : ∀ (h' : Heap) (p : Addr) (out : List Value), out.Perm vs → out.Pairwise (fun v u => HT.lexLt (TS.intsOf s.heap u) (TS.intsOf s.heap v) = false) → (∀ b o, s.heap.get? b = some o → h'.get? b = some o) → s.heap.objs.size ≤ p → (∃ n, h'.get? p = some (seqObj "list" out.toArray n)) → Q (.ref p) { s with heap := h' }) :
    wpAny (model prog w) A (call (.builtin "sorted") [.ref l]) Q E s := by
  refine SrtO.sorted_ord (NtL.swo_lexL fun v => TS.intsOf s.heap v) hl hz (fun h2 h₁ a ha kk => ?_) fun out hs hb => ?_
  · have kp : ∀ b o, s.heap.get? b = some o → o.cls = .type "tuple" → h₁.get? b = some o := fun b o e _ => (kk b o e).2
    refine any_sortable (s := { s with heap := h₁ }) (by have e : A.in1.in1.units = A.units + 2 := (by first | rfl | (simp [Around.in1]; done) | (unfold Around.in1; simp)); omega) (by omega) (fun v hv => ?_) ?_ (fun o e => ?_) s.heap fun v hv => ?_
    · obtain ⟨ns, t⟩ := hp v hv
      exact ⟨ns, t.keeps kp⟩
    · rcases alt with alt | ⟨v, r, e, z⟩
      · exact .inl fun v hv => by
          obtain ⟨ns, ne, t⟩ := alt v hv
          exact ⟨ns, ne, t.keeps kp⟩
      · exact .inr ⟨v, r, e, z.keeps kp⟩
    · have e' : some o = some (seqObj "list" vs.toArray 0) := e.symm.trans ha
      cases e'
      intro c
      exact absurd (Value.type.inj c) (by decide)
    · obtain ⟨ns, t⟩ := hp v hv
      rw [t.ints]
      exact (t.keeps kp).ints.symm
  · exact h _ _ out hb.perm hs (fun b o e => sortedAll_old e) (Nat.le_succ _) (sortedAll_at s.heap vs out.toArray)
end
end RowA
namespace L2
open PySem PySem.Spec PyProof.Rows
/-- sorted(xs), xs a list of tuples of ints, all of one int or more or the first of none -/
def rSortA (K : PySem.W.Frag) : List V → Hp → VK → Prop := fun vs H Q => ∃ (a : Addr) (xs : List V), vs = [V.ref a] ∧ SqL K H a xs ∧ (∀ x ∈ xs, ∃ ns, TupI K H x ns) ∧ ((∀ x ∈ xs, ∃ ns, ns ≠ [] ∧ TupI K H x ns) ∨ ∃ x r, xs = x :: r ∧ TupI K H x []) ∧
  ∀ (ys : List V) (p : Addr), ys.Perm xs → ys.Pairwise (fun x y => ∀ n m, TupI K H x n → TupI K H y m → HT.lexLt m n = false) → H p = none → Q (.ref p) (upd H p (.lst ys))
theorem cr_sortA {X : Cx} (hu : X.A.units + 64 < cLine) : CallR X (.builtin "sorted") (rSortA X.K) := by
  intro pins s σ H vs us Q I r h
  obtain ⟨a, xs, rfl, hs, hx, alt, q⟩ := h
  obtain ⟨its, rv, hl, hz⟩ := I.list hs
  rw [Vals.ref1 r]
  obtain ⟨e1, e2⟩ := bkV_refs rv fun x m => by
    obtain ⟨ns, ⟨t, e, _⟩⟩ := hx x m
    exact ⟨t, e⟩
  have raw : ∀ v ∈ its, ∀ ns, TupI X.K H (bkV v) ns → TS.TupInts s.heap v ns := fun v hv ns z => by
    obtain ⟨t, rfl⟩ := e2 v hv
    obtain ⟨t', e, ht⟩ := z
    cases e
    exact tupI_raw I ht
  have mem : ∀ v ∈ its, bkV v ∈ xs := fun v hv => by
    rw [e1]
    exact List.mem_map.mpr ⟨_, hv, rfl⟩
  refine RowA.sorted_any hu hl.isList (by rw [← rv.length]; exact hz) (fun v hv => ?_) ?_ fun h' p out h1 h2 kp hp hn => ?_
  · obtain ⟨ns, z⟩ := hx _ (mem v hv)
    exact ⟨ns, raw v hv ns z⟩
  · rcases alt with alt | ⟨x, r', ex, z⟩
    · exact .inl fun v hv => by
        obtain ⟨ns, ne, z⟩ := alt _ (mem v hv)
        exact ⟨ns, ne, raw v hv ns z⟩
    · rw [e1] at ex
      cases its with
      | nil => cases ex
      | cons v its' =>
        rw [List.map_cons] at ex
        injection ex with ex1 ex2
        refine .inr ⟨v, its', rfl, raw v List.mem_cons_self [] (by rw [ex1]; exact z)⟩
  · have h3 : ∀ u ∈ out, ∃ a, u = Value.ref a := fun u hu => e2 u (h1.mem_iff.mp hu)
    obtain ⟨n, hn⟩ := hn
    have hp' : (out.map bkV).Perm xs := by
      rw [e1]
      exact h1.map bkV
    have hlen : (out.map bkV).length ≤ sizeLine := by
      rw [hp'.length_eq]
      exact hz
    refine ⟨.ref p, upd H p (.lst (out.map bkV)), I.laid (t' := s.toks) kp hp ⟨hlen, out, n, bkV_vals h3, hn⟩, rfl, q _ p hp' ?_ (I.hok.fresh hp)⟩
    rw [List.pairwise_map]
    refine List.Pairwise.imp (fun {u v} huv n m hn hm => ?_) h2
    obtain ⟨t, et, ht⟩ := hn
    obtain ⟨t', et', ht'⟩ := hm
    have eu := bkV_ref et
    have ev := bkV_ref et'
    have i1 : TS.intsOf s.heap u = n := by
      rw [eu]
      exact (tupI_raw I ht).ints
    have i2 : TS.intsOf s.heap v = m := by
      rw [ev]
      exact (tupI_raw I ht').ints
    have z := huv
    rw [i1, i2] at z
    exact z
end L2
set_option Elab.async false
set_option linter.all false
set_option maxRecDepth 100000
set_option maxHeartbeats 4000000
namespace K0
open PySem PySem.Spec PyProof.Rows L2
def asI (S : List Nat) : List Int := S.map fun (x : Nat) => (x : Int)
/-! ### rows of things in the order of tuples -/
abbrev ltR (S T : List Nat) : Prop := HT.lexLt (asI S) (asI T) = true
theorem asI_cons (x : Nat) (S : List Nat) : asI (x :: S) = (x : Int) :: asI S := rfl
theorem ltR_irr (S : List Nat) : ¬ ltR S S := fun h => by
  have := NtL.lex_asym _ _ h
  unfold ltR at h
  rw [h] at this
  cases this
theorem ltR_asym {S T : List Nat} (h : ltR S T) : ¬ ltR T S := fun g => by
  have := NtL.lex_asym _ _ h
  unfold ltR at g
  rw [g] at this
  cases this
theorem lex_tot : ∀ {a b : List Int}, HT.lexLt a b = false → HT.lexLt b a = false → a = b
  | [], [], _, _ => rfl
  | [], y :: b, h, _ => by rw [HT.lexLt_nil_cons] at h; cases h
  | x :: a, [], _, h => by rw [HT.lexLt_nil_cons] at h; cases h
  | x :: a, y :: b, h, g => by
    rw [HT.lexLt_cons] at h g
    by_cases e : x = y
    · subst e
      rw [if_pos rfl] at h g
      rw [lex_tot h g]
    · rw [if_neg e] at h
      rw [if_neg (fun z => e z.symm)] at g
      have := of_decide_eq_false h
      have := of_decide_eq_false g
      omega
theorem asI_inj : ∀ {a b : List Nat}, asI a = asI b → a = b
  | [], [], _ => rfl
  | [], _ :: _, h => by cases h
  | _ :: _, [], h => by cases h
  | x :: a, y :: b, h => by
    rw [asI_cons, asI_cons] at h
    injection h with h1 h2
    rw [asI_inj h2, show x = y by omega]
/-- sorted rows, each once -/
abbrev UpR (l : List (List Nat)) : Prop := l.Pairwise ltR
theorem upR_uniq : ∀ {l m : List (List Nat)}, UpR l → UpR m → (∀ x, x ∈ l ↔ x ∈ m) → l = m
  | [], [], _, _, _ => rfl
  | [], b :: m, _, _, h => by cases (h b).mpr List.mem_cons_self
  | a :: l, [], _, _, h => by cases (h a).mp List.mem_cons_self
  | a :: l, b :: m, hl, hm, h => by
    obtain ⟨al, ll⟩ := List.pairwise_cons.mp hl
    obtain ⟨bm, mm⟩ := List.pairwise_cons.mp hm
    have e : a = b := by
      rcases List.mem_cons.mp ((h a).mp List.mem_cons_self) with e | e
      · exact e
      rcases List.mem_cons.mp ((h b).mpr List.mem_cons_self) with e2 | e2
      · exact e2.symm
      exact absurd (al b e2) (ltR_asym (bm a e))
    subst e
    have no : ∀ {k : List (List Nat)}, (∀ x ∈ k, ltR a x) → a ∉ k := fun hk hx => ltR_irr _ (hk a hx)
    rw [upR_uniq ll mm fun x => ⟨fun hx => ?_, fun hx => ?_⟩]
    · rcases List.mem_cons.mp ((h x).mp (List.mem_cons_of_mem _ hx)) with e | e
      · exact absurd hx (by rw [e]; exact no al)
      · exact e
    · rcases List.mem_cons.mp ((h x).mpr (List.mem_cons_of_mem _ hx)) with e | e
      · exact absurd hx (by rw [e]; exact no bm)
      · exact e
/-- a sorted list of rows that are each there once -/
theorem upR_of {l : List (List Nat)} (le : l.Pairwise fun a b => HT.lexLt (asI b) (asI a) = false) (nd : l.Nodup) : UpR l := by
  refine (le.and nd).imp fun {a b} h => ?_
  cases e : HT.lexLt (asI a) (asI b) with
  | true => exact e
  | false => exact absurd (asI_inj (lex_tot e h.1)) h.2
/-! ### knots, one after another -/
section
variable (adj : Nat → Nat → Bool)
def kch (K : List Nat) : List Nat → List (List Nat × List Nat)
  | [] => []
  | x :: F => (K ++ [x], F.filter (adj x)) :: kch K F
def kl : Nat → List Nat → List Nat → List (List Nat)
  | 0, K, _ => [K]
  | m + 1, K, F => K :: (kch adj K F).flatMap fun z => kl m z.1 z.2
end
variable {adj : Nat → Nat → Bool}
end K0
set_option Elab.async false
set_option linter.all false
set_option maxRecDepth 100000
set_option maxHeartbeats 4000000
namespace K0
open PySem PySem.Spec PyProof.Rows L2
/-! ### a knot that a lot's things go ahead of: one of them clashes with all of it, if no row is bad -/
section
variable {q : List Pr} {f : Nat → Nat} {S : Nat → Prop}
/-- s goes ahead of x and clashes with it -/
def Up1 (q : List Pr) (f : Nat → Nat) (S : Nat → Prop) (s x : Nat) : Prop := S s ∧ hasP q s x = true ∧ f s < f x
/-- no row of four begins so: outer things ahead of their neighbours -/
def NoObs (q : List Pr) (f : Nat → Nat) : Prop := ∀ a b c d : Nat, hasP q a b = true → hasP q b c = true → hasP q c d = true → hasP q a c = false → hasP q b d = false → hasP q a d = false → a ≠ c → b ≠ d → a ≠ d → f a < f b → ¬ f d < f c
theorem max_of (f : Nat → Nat) : ∀ (C : List Nat), C ≠ [] → ∃ v ∈ C, ∀ x ∈ C, f x ≤ f v
  | [], h => absurd rfl h
  | [x], _ => ⟨x, List.mem_cons_self, fun y hy => by rw [List.mem_singleton.mp hy]; exact Nat.le_refl _⟩
  | x :: y :: C, _ => by
    obtain ⟨v, hv, h⟩ := max_of f (y :: C) (by simp)
    by_cases g : f x ≤ f v
    · exact ⟨v, List.mem_cons_of_mem _ hv, fun z hz => by
        rcases List.mem_cons.mp hz with rfl | hz
        · exact g
        · exact h z hz⟩
    · exact ⟨x, List.mem_cons_self, fun z hz => by
        rcases List.mem_cons.mp hz with rfl | hz
        · exact Nat.le_refl _
        · have := h z hz
          omega⟩
theorem one_for_all (sym : ∀ x y, hasP q x y = hasP q y x) (st : ∀ x y, S x → S y → hasP q x y = false) (no : NoObs q f) : ∀ (m : Nat) (C : List Nat), C.length ≤ m → C ≠ [] → C.Nodup → (∀ x ∈ C, ∀ y ∈ C, x ≠ y → hasP q x y = true) → (∀ x ∈ C, ¬ S x) → (∀ x ∈ C, ∃ s, Up1 q f S s x) →
    ∃ s, (∃ x ∈ C, Up1 q f S s x) ∧ ∀ x ∈ C, hasP q s x = true
  | 0, C, hm, ne, _, _, _, _ => by
    cases C with
    | nil => exact absurd rfl ne
    | cons x C => simp at hm
  | m + 1, C, hm, ne, nd, kn, dj, up => by
    refine Classical.byContradiction fun bad => ?_
    have none : ∀ s x, x ∈ C → Up1 q f S s x → ∃ y ∈ C, hasP q s y = false := fun s x hx u => Classical.byContradiction fun z => bad ⟨s, ⟨x, hx, u⟩, fun y hy => by
      cases e : hasP q s y with
      | true => rfl
      | false => exact absurd ⟨y, hy, e⟩ z⟩
    -- for each thing: one that clashes with all others, not with it
    have star : ∀ v ∈ C, ∃ s x, x ∈ C ∧ x ≠ v ∧ Up1 q f S s x ∧ hasP q s v = false ∧ ∀ y ∈ C, y ≠ v → hasP q s y = true := fun v hv => by
      have len : (C.filter fun x => !decide (x = v)).length ≤ m := by
        have h1 : (C.filter fun x => !decide (x = v)).length < C.length := by
          refine Nat.lt_of_le_of_ne (List.length_filter_le _ _) fun e => ?_
          have := List.filter_eq_self.mp (List.filter_sublist.eq_of_length e) v hv
          simp at this
        omega
      have mem : ∀ x, x ∈ (C.filter fun x => !decide (x = v)) ↔ x ∈ C ∧ x ≠ v := fun x => by simp
      by_cases e0 : (C.filter fun x => !decide (x = v)) = []
      · obtain ⟨s, u⟩ := up v hv
        obtain ⟨y, hy, e⟩ := none s v hv u
        have ey : y = v := Classical.byContradiction fun z => by
          have := (mem y).mpr ⟨hy, z⟩
          rw [e0] at this
          cases this
        rw [ey, u.2.1] at e
        cases e
      · obtain ⟨s, ⟨x, hx, u⟩, all⟩ := one_for_all sym st no m _ len e0 (nd.filter _) (fun x hx y hy => kn x ((mem x).mp hx).1 y ((mem y).mp hy).1) (fun x hx => dj x ((mem x).mp hx).1) (fun x hx => up x ((mem x).mp hx).1)
        obtain ⟨hx1, hx2⟩ := (mem x).mp hx
        obtain ⟨y, hy, e⟩ := none s x hx1 u
        have ey : y = v := Classical.byContradiction fun z => by
          rw [all y ((mem y).mpr ⟨hy, z⟩)] at e
          cases e
        rw [ey] at e
        exact ⟨s, x, hx1, hx2, u, e, fun y hy hn => all y ((mem y).mpr ⟨hy, hn⟩)⟩
    obtain ⟨v, hv, top⟩ := max_of f C ne
    obtain ⟨a, u, hu, huv, ua, av, alla⟩ := star v hv
    obtain ⟨d, w, hw, _, ud, du, alld⟩ := star u hu
    have dv : hasP q d v = true := alld v hv huv.symm
    have lt : f d < f v := Nat.lt_of_lt_of_le ud.2.2 (top w hw)
    refine no a u v d ua.2.1 (kn u hu v hv huv) (by rw [sym]; exact dv) av (by rw [sym]; exact du) (st a d ua.1 ud.1) (fun e => dj v hv (e ▸ ua.1)) (fun e => dj u hu (e ▸ ud.1)) (fun e => ?_) ua.2.2 lt
    have h2 := ua.2.1
    rw [e, du] at h2
    cases h2
end
/-! ### the first lot -/
/-- taken along a row: what no taken one clashes with -/
def lotGo (q : List Pr) (p : Nat → Bool) : List Nat → List Nat → List Nat
  | lot, [] => lot
  | lot, x :: r => if p x && !(lot.any fun y => hasP q x y) then lotGo q p (lot ++ [x]) r else lotGo q p lot r
structure LotOk (q : List Pr) (p : Nat → Bool) (r : List Nat) (lot : List Nat) : Prop where
  sub : ∀ x ∈ lot, x ∈ r ∧ p x = true
  st : ∀ x ∈ lot, ∀ y ∈ lot, hasP q x y = false
  up : ∀ x ∈ r, p x = true → x ∈ lot ∨ ∃ y ∈ lot, hasP q y x = true ∧ r.idxOf y < r.idxOf x
  nd : lot.Nodup
theorem idx_app {r : List Nat} {x y : Nat} (hy : y ∈ r) : (r ++ [x]).idxOf y = r.idxOf y := by
  rw [List.idxOf_append, if_pos hy]
theorem idx_new {r : List Nat} {x : Nat} (hx : x ∉ r) : (r ++ [x]).idxOf x = r.length := by
  rw [List.idxOf_append, if_neg hx]
  simp
theorem lotGo_ok {q : List Pr} {p : Nat → Bool} (irr : ∀ x, hasP q x x = false) (sym : ∀ x y, hasP q x y = hasP q y x) : ∀ (r2 r1 lot : List Nat), LotOk q p r1 lot → (r1 ++ r2).Nodup → LotOk q p (r1 ++ r2) (lotGo q p lot r2)
  | [], r1, lot, h, _ => by
    rw [List.append_nil]
    exact h
  | x :: r2, r1, lot, h, nd => by
    have e : r1 ++ x :: r2 = (r1 ++ [x]) ++ r2 := by rw [List.append_assoc]; rfl
    rw [e] at nd ⊢
    have hx : x ∉ r1 := fun z => by
      have := (List.nodup_append.mp (List.nodup_append.mp nd).1).2.2 x z x (List.mem_singleton.mpr rfl)
      exact this rfl
    unfold lotGo
    have old : ∀ y ∈ r1, p y = true → y ∈ lot ∨ ∃ z ∈ lot, hasP q z y = true ∧ (r1 ++ [x]).idxOf z < (r1 ++ [x]).idxOf y := fun y hy py => by
      rcases h.up y hy py with g | ⟨z, hz, g1, g2⟩
      · exact .inl g
      · exact .inr ⟨z, hz, g1, by rw [idx_app (h.sub z hz).1, idx_app hy]; exact g2⟩
    split
    · rename_i c
      obtain ⟨c1, c2⟩ := Bool.and_eq_true_iff.mp c
      have fr : ∀ y ∈ lot, hasP q x y = false := fun y hy => by
        cases e : hasP q x y with
        | false => rfl
        | true =>
          have : (lot.any fun y => hasP q x y) = true := List.any_eq_true.mpr ⟨y, hy, e⟩
          rw [this] at c2
          cases c2
      refine lotGo_ok irr sym r2 (r1 ++ [x]) (lot ++ [x]) ⟨fun y hy => ?_, fun y hy z hz => ?_, fun y hy py => ?_, ?_⟩ nd
      · rcases List.mem_append.mp hy with hy | hy
        · exact ⟨List.mem_append_left _ (h.sub y hy).1, (h.sub y hy).2⟩
        · rw [List.mem_singleton.mp hy]
          exact ⟨List.mem_append_right _ (List.mem_singleton.mpr rfl), c1⟩
      · rcases List.mem_append.mp hy with hy | hy <;> rcases List.mem_append.mp hz with hz | hz
        · exact h.st y hy z hz
        · rw [List.mem_singleton.mp hz, sym]
          exact fr y hy
        · rw [List.mem_singleton.mp hy]
          exact fr z hz
        · rw [List.mem_singleton.mp hy, List.mem_singleton.mp hz]
          exact irr x
      · rcases List.mem_append.mp hy with hy | hy
        · rcases old y hy py with g | ⟨z, hz, g⟩
          · exact .inl (List.mem_append_left _ g)
          · exact .inr ⟨z, List.mem_append_left _ hz, g⟩
        · rw [List.mem_singleton.mp hy]
          exact .inl (List.mem_append_right _ (List.mem_singleton.mpr rfl))
      · refine List.nodup_append.mpr ⟨h.nd, List.nodup_cons.mpr ⟨List.not_mem_nil, List.nodup_nil⟩, fun y hy z hz e => ?_⟩
        rw [List.mem_singleton.mp hz] at e
        exact hx (e ▸ (h.sub y hy).1)
    · rename_i c
      refine lotGo_ok irr sym r2 (r1 ++ [x]) lot ⟨fun y hy => ⟨List.mem_append_left _ (h.sub y hy).1, (h.sub y hy).2⟩, h.st, fun y hy py => ?_, h.nd⟩ nd
      rcases List.mem_append.mp hy with hy | hy
      · exact old y hy py
      · rw [List.mem_singleton.mp hy] at py ⊢
        have c2 : (lot.any fun y => hasP q x y) = true := by
          cases e : (lot.any fun y => hasP q x y) with
          | true => rfl
          | false => rw [py, e] at c; exact absurd rfl c
        obtain ⟨z, hz, g⟩ := List.any_eq_true.mp c2
        refine .inr ⟨z, hz, by rw [sym]; exact g, ?_⟩
        rw [idx_app (h.sub z hz).1, idx_new hx]
        exact List.idxOf_lt_length_of_mem (h.sub z hz).1
/-- the first lot of the things that p tells -/
def lotOf (q : List Pr) (p : Nat → Bool) (r : List Nat) : List Nat := lotGo q p [] r
theorem lotOf_ok {q : List Pr} {p : Nat → Bool} {r : List Nat} (irr : ∀ x, hasP q x x = false) (sym : ∀ x y, hasP q x y = hasP q y x) (nd : r.Nodup) : LotOk q p r (lotOf q p r) := by
  have := lotGo_ok (q := q) (p := p) irr sym r [] [] ⟨(fun x hx => by cases hx), (fun x hx => by cases hx), (fun x hx => by cases hx), List.nodup_nil⟩ (by simpa using nd)
  exact this
end K0
set_option Elab.async false
set_option linter.all false
set_option maxRecDepth 100000
set_option maxHeartbeats 4000000
namespace K0
open PySem PySem.Spec PyProof.Rows L2
abbrev s_eP : Stmt := inClass (top 7) 0
abbrev s_mt : Stmt := top 19
section
variable {P : Program} {w : World} {K : PySem.W.Frag} {mg : Str → Option Value} {base : Heap} {f C : Addr} {fd : FuncData}
theorem sc_eP : FnScope ["self", "place"] ["self", "place"] (defScope s_eP) := ⟨rfl, rfl, rfl, by decide +kernel, rfl, by decide +kernel, by decide +kernel⟩
theorem ok_eP (F : Fun K "__init__" "BadPart.__init__" s_eP f fd) (T : ErrC K C ["place"]) : FnOk P w K mg base CX0 1 f fd ["self", "place"] (spE1 C "place") := by
  refine F.ok sc_eP (fun vs H Q E h => ?_) (fun cdv A outer s H vs Q E hr h => ?_)
  · obtain ⟨a, v, rfl, _⟩ := h
    rfl
  · obtain ⟨a, v, rfl, ha, q⟩ := h
    refine ⟨_, pss_one (ps_stE (fl := ["place"]) (pv 0) (pv 1)), ?_⟩
    exact ⟨_, rfl, _, rfl, a, C, rfl, T, by decide, .inl ⟨ha, fun dx n ne => q dx n ne⟩⟩
end
section
variable {P : Program} {w : World} {K : PySem.W.Frag} {mg : Str → Option Value} {base : Heap} {f : Addr} {fd : FuncData}
/-- meets -/
def spMe (K : PySem.W.Frag) : Sp := fun vs H Q _ => ∃ (a b : Addr) (g l : List Nat), vs = [.ref a, .ref b] ∧ (∀ H', Same H H' → SqT K H' a (nvs g)) ∧ g.length ≤ 16 ∧ (∀ H', Same H H' → SqT K H' b (nvs l)) ∧ Ret (.bl (g.any fun x => decide (x ∈ l))) H Q
theorem sc_mt : FnScope ["things", "others", "thing"] ["things", "others"] (defScope s_mt) := ⟨rfl, rfl, rfl, by decide +kernel, rfl, by decide +kernel, by decide +kernel⟩
theorem ok_mt (F : Fun K "meets" "meets" s_mt f fd) (B : Blt2 mg) (bany : mg "any" = none) : FnOk P w K mg base (L2.CX P w) 1 f fd ["things", "others"] (spMe K) := by
  refine F.okX sc_mt (fun vs H Q E h => ?_) (fun cdv A outer s H vs Q E hr h => ?_)
  · obtain ⟨a, b, g, l, rfl, _⟩ := h
    rfl
  · obtain ⟨a, b, g, l, rfl, ha, lg, hb, k⟩ := h
    have nd := sc_mt.nd
    refine ⟨_, pss_one (ps_ret (pe_callB (cr_any rfl) (by rfl) bany (by decide +kernel) (pa_cons (pe_lc (own := [("thing", 2)]) (g := gName 2) (tt := tYes) (te := tOp (rIn K false) (tVar 2) (tVar 1)) rfl nd (pi_tup (pv 0)) (blkOk_by (N := ["things", "others", "thing"]) (sc := defScope s_mt) (by decide +kernel)) (fun _ _ _ _ _ => pg_name (i := 2) nd rfl (.inl rfl)) (fun _ _ _ _ _ => pts_nil)
      (fun _ _ _ _ _ => pe_cmpR op_in_seq (pv 2) (pv 1) (by rfl))) pa_nil))), ?_⟩
    refine ⟨_, rfl, a, rfl, ⟨_, ha _ (Same.refl _)⟩, fun G nG => ?_⟩
    refine lc_tup (K := K) (a := a) (xs := nvs g) (fun i H' => Same H H' ∧ H' G = some (.lst (((g.take i).map fun x => decide (x ∈ l)).map V.bl))) ⟨same_upd nG, upd_same⟩ (fun i H' _ z => ha _ z.1) (fun i v H' hi z => ?_) (fun H3 z => ?_)
    · obtain ⟨sm, hG⟩ := z
      obtain ⟨y, hy, rfl⟩ := nvs_get hi
      refine ⟨rfl, _, rfl, _, rfl, b, _, rfl, .inr (hb _ sm), rfl, nvs_flat _, ?_⟩
      rw [if_neg Bool.false_ne_true, inV_nvs]
      refine ⟨_, hG, ?_, same_keep nG sm, ?_⟩
      · rw [List.length_map, List.length_map, List.length_take, sizeLine_eq]
        omega
      · rw [upd_same, take_at hy, List.map_append, List.map_append]
        rfl
    · obtain ⟨sm, hG⟩ := z
      rw [nvs_len, List.take_length] at hG
      refine ⟨G, _, rfl, SqL.of hG, ?_⟩
      rw [List.any_map]
      exact k _ sm
end
end K0
set_option Elab.async false
set_option linter.all false
set_option maxRecDepth 100000
set_option maxHeartbeats 4000000
namespace K0
open PySem PySem.Spec PyProof.Rows L2
/-! ### what common_thing answers -/
/-- things told, in order -/
structure Asc (n : Int) (ds : List PyData) (g : List Nat) : Prop where
  up : g.Pairwise (· < ·)
  lt : ∀ x ∈ g, (x : Int) < n
  mem : ∀ x : Nat, x ∈ g ↔ PyData.int (x : Int) ∈ ds
theorem Asc.nd {n : Int} {ds : List PyData} {g : List Nat} (h : Asc n ds g) : g.Nodup := h.up.imp fun h => Nat.ne_of_lt h
theorem asc_uniq : ∀ {g g' : List Nat}, g.Pairwise (· < ·) → g'.Pairwise (· < ·) → (∀ x, x ∈ g ↔ x ∈ g') → g = g'
  | [], [], _, _, _ => rfl
  | [], x :: g', _, _, h => by
    have := (h x).mpr List.mem_cons_self
    cases this
  | x :: g, [], _, _, h => by
    have := (h x).mp List.mem_cons_self
    cases this
  | x :: g, y :: g', h1, h2, h => by
    obtain ⟨a1, a2⟩ := List.pairwise_cons.mp h1
    obtain ⟨b1, b2⟩ := List.pairwise_cons.mp h2
    have e : x = y := by
      rcases List.mem_cons.mp ((h x).mp List.mem_cons_self) with e | e
      · exact e
      · rcases List.mem_cons.mp ((h y).mpr List.mem_cons_self) with e' | e'
        · exact e'.symm
        · have := b1 x e
          have := a1 y e'
          omega
    subst e
    rw [asc_uniq a2 b2 fun z => ⟨fun hz => ?_, fun hz => ?_⟩]
    · rcases List.mem_cons.mp ((h z).mp (List.mem_cons_of_mem _ hz)) with e | e
      · have := a1 z hz
        omega
      · exact e
    · rcases List.mem_cons.mp ((h z).mpr (List.mem_cons_of_mem _ hz)) with e | e
      · have := b1 z hz
        omega
      · exact e
theorem Asc.uniq {n : Int} {ds : List PyData} {g g' : List Nat} (h : Asc n ds g) (h' : Asc n ds g') : g = g' := asc_uniq h.up h'.up fun x => (h.mem x).trans (h'.mem x).symm
theorem Asc.few {n : Int} {ds : List PyData} {g : List Nat} (h : Asc n ds g) (n9 : n ≤ 9) : g.length ≤ 9 := by
  have := len_sub g (List.range 9) h.nd fun k hk => List.mem_range.mpr (by have := h.lt k hk; omega)
  simpa using this
theorem asc_of {n : Int} {ds : List PyData} {ns : List Int} (f : fwG n ds [] = none) (up : ns.Pairwise (· < ·)) (m : ∀ k, k ∈ ns ↔ PyData.int k ∈ ds) : ∃ g, ns.map V.int = nvs g ∧ Asc n ds g := by
  obtain ⟨r, er, gd⟩ := fwG_none (sn := []) ⟨List.nodup_nil, fun k hk => by cases hk⟩ f
  rw [List.nil_append] at gd
  have rng : ∀ k ∈ ns, 0 ≤ k ∧ k < n := fun k hk => by
    have := (m k).mp hk
    rw [er] at this
    obtain ⟨z, hz, e⟩ := List.mem_map.mp this
    cases e
    exact gd.rng _ hz
  refine ⟨ns.map Int.toNat, ?_, ?_, fun x hx => ?_, fun x => ?_⟩
  · unfold nvs
    rw [List.map_map]
    refine List.map_congr_left fun k hk => ?_
    show V.int k = V.int ((k.toNat : Nat) : Int)
    rw [Int.toNat_of_nonneg (rng k hk).1]
  · rw [List.pairwise_map]
    refine List.Pairwise.imp_of_mem (fun {a b} ha hb h => ?_) up
    have := rng a ha
    have := rng b hb
    omega
  · obtain ⟨k, hk, rfl⟩ := List.mem_map.mp hx
    have := rng k hk
    omega
  · rw [← m]
    constructor
    · intro hx
      obtain ⟨k, hk, rfl⟩ := List.mem_map.mp hx
      rw [Int.toNat_of_nonneg (rng k hk).1]
      exact hk
    · intro hx
      exact List.mem_map.mpr ⟨_, hx, Int.toNat_natCast x⟩
end K0
set_option Elab.async false
set_option linter.all false
set_option maxRecDepth 100000
set_option maxHeartbeats 4000000
namespace K0
open PySem PySem.Spec PyProof.Rows L2
abbrev s_fl : Stmt := top 75
abbrev s_se : Stmt := top 76
/-! ### what a comprehension takes of a list -/
def FilI (H : Hp) (G : Addr) (l : List Nat) (p : Nat → Bool) (i : Nat) (H' : Hp) : Prop := Same H H' ∧ H' G = some (.lst (nvs ((l.take i).filter p)))
theorem FilI.start {H : Hp} {G : Addr} {l : List Nat} {p : Nat → Bool} (n : H G = none) : FilI H G l p 0 (upd H G (.lst [])) := ⟨same_upd n, upd_same⟩
theorem FilI.no {H H' H2 : Hp} {G : Addr} {l : List Nat} {p : Nat → Bool} {i y : Nat} (h : FilI H G l p i H') (hy : l[i]? = some y) (e : p y = false) (s : Same H' H2) : FilI H G l p (i + 1) H2 := by
  refine ⟨h.1.trans s, ?_⟩
  rw [take_at hy, List.filter_append, List.filter_cons, e, if_neg Bool.false_ne_true, List.filter_nil, List.append_nil]
  exact s _ _ h.2
theorem FilI.yes {H H' H2 : Hp} {G : Addr} {l : List Nat} {p : Nat → Bool} {i y : Nat} (h : FilI H G l p i H') (n : H G = none) (few : l.length ≤ 64) (hy : l[i]? = some y) (e : p y = true) (s : Same H' H2) : ∃ acc, H2 G = some (.lst acc) ∧ acc.length < sizeLine ∧ FilI H G l p (i + 1) (upd H2 G (.lst (acc ++ [.int (y : Int)]))) := by
  refine ⟨_, s _ _ h.2, ?_, same_keep n (h.1.trans s), ?_⟩
  · rw [nvs_len, sizeLine_eq]
    have h1 := List.length_filter_le p (l.take i)
    rw [List.length_take] at h1
    omega
  · rw [upd_same, take_at hy, List.filter_append, List.filter_cons, e, if_pos rfl, List.filter_nil]
    unfold nvs
    rw [List.map_append]
    rfl
theorem FilI.fin {H H' : Hp} {G : Addr} {l : List Nat} {p : Nat → Bool} (h : FilI H G l p (nvs l).length H') : Same H H' ∧ H' G = some (.lst (nvs (l.filter p))) := by
  obtain ⟨s, h2⟩ := h
  rw [nvs_len, List.take_length] at h2
  exact ⟨s, h2⟩
theorem near_in {n : Int} {q : List Pr} {x y : Nat} (hy : (y : Int) < n) : decide (y ∈ nearOf n q x) = hasP q x y := by
  unfold nearOf
  rw [Bool.eq_iff_iff, decide_eq_true_iff, List.mem_filter, List.mem_range]
  exact ⟨fun h => h.2, fun h => ⟨by omega, h⟩⟩
theorem fil_none {α : Type} {p : α → Bool} : ∀ {l : List α}, (decide ((l.filter p).length = 0)) = !l.any p
  | [] => rfl
  | x :: l => by
    have ih := @fil_none α p l
    rw [List.filter_cons, List.any_cons]
    cases e : p x with
    | true =>
      rw [if_pos rfl, List.length_cons, decide_eq_false (by omega), Bool.true_or]
      rfl
    | false =>
      rw [if_neg Bool.false_ne_true, Bool.false_or]
      exact ih
section
variable {P : Program} {w : World} {K : PySem.W.Frag} {mg : Str → Option Value} {base : Heap} {f : Addr} {fd : FuncData}
theorem sc_se : FnScope ["_law_draws_here", "_law_many", "_law_x"] ["_law_draws_here", "_law_many"] (defScope s_se) := ⟨rfl, rfl, rfl, by decide +kernel, rfl, by decide +kernel, by decide +kernel⟩
theorem ok_se (F : Fun K "_law_set" "_law_set" s_se f fd) (B : Blt2 mg) (TK : Df P w K mg base "_law_take" 1 ["_law_draws_here", "_law_many"] spTk) : FnOk P w K mg base (L2.CX P w) 2 f fd ["_law_draws_here", "_law_many"] spSe := by
  refine F.okX sc_se (fun vs H Q E h => ?_) (fun cdv A outer s H vs Q E hr h => ?_)
  · obtain ⟨d, n, rfl, _⟩ := h
    rfl
  · obtain ⟨d, n, rfl, n0, n8, dr, k⟩ := h
    have nd := sc_se.nd
    refine ⟨_, pss_one (ps_ret (pe_lc (own := [("_law_x", 2)]) (g := gName 2) (tt := tTest (tOp rEq (tCall spTk [] (fun _ _ _ => False) (tCons (tVar 0) (tCons (tC (.int 2)) tNil))) (tC (.int 1)))) (te := tVar 2) rfl nd (pi_range1 (by rfl) B.range (pa_cons (pv 1) pa_nil))
        (blkOk_by (N := ["_law_draws_here", "_law_many", "_law_x"]) (sc := defScope s_se) (by decide +kernel)) (fun _ _ _ _ _ => pg_name (i := 2) nd rfl (.inl rfl)) (fun _ _ _ _ _ => pts_one (pt_cmpR op_eq (pe_df TK hr (by rfl) passE0 (pa_cons (pv 0) (pa_cons pe_int pa_nil))) pe_int (by rfl))) (fun _ _ _ _ _ => pv 2))), ?_⟩
    refine ⟨_, rfl, n, rfl, by omega, by omega, fun D nD => ?_⟩
    have Dd := dr.ne nD
    refine lc_range (lo := 0) (n := n.toNat) (fun i H' => Same (del H d) H' ∧ DrO H' d ∧ ∃ ns : List Int, H' D = some (.lst (ns.map V.int)) ∧ ns.Pairwise (· < ·) ∧ (∀ k ∈ ns, 0 ≤ k ∧ k < i) ∧ ns.length ≤ i)
      ⟨sd_upd del_sub nD Dd, dr.upd Dd, [], upd_same, .nil, (fun k hk => by cases hk), Nat.zero_le _⟩ (fun i H' hi h => ?_) (fun H' h => ?_)
    · obtain ⟨sm, dr', ns, hD, srt, rng, len⟩ := h
      refine ⟨rfl, ?_⟩
      rw [Int.zero_add]
      refine ⟨_, rfl, d, 2, rfl, by decide, dr', fun r H2 r0 r1 s2 dr2 => ⟨rfl, _, rfl, ?_⟩⟩
      have hD2 := s2 _ _ (by rw [del_ne Dd]; exact hD)
      have sm2 := sd_trans sm s2
      have rng2 : ∀ k ∈ ns, 0 ≤ k ∧ k < ((i + 1 : Nat) : Int) := fun k hk => by have := rng k hk; omega
      by_cases e : V.int r = V.int 1
      · rw [decide_eq_true e]
        refine iteT ⟨_, rfl, _, hD2, by rw [List.length_map, sizeLine_eq]; omega, sd_upd sm2 nD Dd, dr2.upd Dd, ns ++ [(i : Int)], by rw [upd_same, List.map_append]; rfl, ?_, fun k hk => ?_, by rw [List.length_append]; exact Nat.add_le_add_right len 1⟩
        · rw [List.pairwise_append]
          refine ⟨srt, by simp, fun a ha b hb => ?_⟩
          rw [List.mem_singleton.mp hb]
          exact (rng a ha).2
        · rcases List.mem_append.mp hk with hk | hk
          · exact rng2 k hk
          · rw [List.mem_singleton.mp hk]
            omega
      · rw [decide_eq_false e]
        exact iteF ⟨sm2, dr2, ns, hD2, srt, rng2, by omega⟩
    · obtain ⟨sm, dr', ns, hD, srt, rng, len⟩ := h
      exact k H' D ns sm dr' nD hD srt fun k hk => by have := rng k hk; omega
theorem new_same {H H' : Hp} (s : Same H H') : Same (New H H') H' := fun b o e => by
  unfold New at e
  cases h : H b with
  | none =>
    rw [h] at e
    exact e
  | some x =>
    rw [h] at e
    cases e
/-- _law_first_lot -/
def spFl : Sp := fun vs H Q _ => ∃ (b a c : Addr) (n : Nat) (q : List Pr) (r g : List Nat), vs = [.int (n : Int), .ref b, .ref a, .ref c] ∧ n ≤ 8 ∧ Cl n q ∧ Ls H b q ∧ H a = some (.lst (nvs r)) ∧ r.Perm (List.range n) ∧ H c = some (.lst (nvs g)) ∧
  ∀ H' t l, Same H H' → H t = none → H' t = some (.lst (nvs l)) → l.Pairwise (· < ·) → l.Perm (lotOf q (fun x => decide (x ∈ g)) r) → Q (.ref t) H'
abbrev flN : List Str := ["_law_many", "_law_pairs", "_law_row_here", "_law_part_here", "_law_lot", "_law_x", "_law_near_here", "_law_y"]
theorem sc_fl : FnScope flN ["_law_many", "_law_pairs", "_law_row_here", "_law_part_here"] (defScope s_fl) := ⟨rfl, rfl, rfl, by decide +kernel, rfl, by decide +kernel, by decide +kernel⟩
theorem ok_fl (F : Fun K "_law_first_lot" "_law_first_lot" s_fl f fd) (B : Blt2 mg) (NE : Df P w K mg base "_law_near" 2 ["_law_many", "_law_pairs", "_law_x"] spNe) : FnOk P w K mg base (L2.CX P w) 3 f fd ["_law_many", "_law_pairs", "_law_row_here", "_law_part_here"] spFl := by
  refine F.okX sc_fl (fun vs H Q E h => ?_) (fun cdv A outer s H vs Q E hr h => ?_)
  · obtain ⟨b, a, c, n, q, r, g, rfl, _⟩ := h
    rfl
  · obtain ⟨b, a, c, n, q, r, g, rfl, n8, cl, hl, ha, pr, hc, k⟩ := h
    have nd := sc_fl.nd
    refine' ⟨_, pss_cons ?h1 (pss_cons ?h2 (pss_one ?h3)), ?hz⟩
    case h1 => exact ps_set (i := 4) nd rfl (.inl rfl) (pe_lst pa_nil)
    case h2 =>
      refine' ps_for (passes_of rfl) rfl (pi_list (pv 2)) (pg_name (i := 5) nd rfl (.inl rfl)) (pss_one (ps_if (pt_cmpR op_in_seq (pv 5) (pv 3) (by rfl)) (pss_cons ?a1 (pss_one ?a2)) pss_nil))
      case a1 => exact ps_set (i := 6) nd rfl (.inr rfl) (pe_df NE hr (by rfl) passUp (pa_cons (pv 0) (pa_cons (pv 1) (pa_cons (pv 5) pa_nil))))
      case a2 => exact ps_if (pt_cmpR op_eq (pe_callB c_len (by rfl) B.len PySem.boot_len (pa_cons (pe_lc (own := [("_law_y", 7)]) (g := gName 7) (tt := tTest (tOp (rIn K false) (tVar 7) (tVar 6))) (te := tVar 7) rfl nd (pi_list (pv 4)) (blkOk_by (N := flN) (sc := defScope s_fl) (by decide +kernel)) (fun _ _ _ _ _ => pg_name (i := 7) nd rfl (.inl rfl))
        (fun _ _ _ _ _ => pts_one (pt_cmpR op_in_seq (pv 7) (pv 6) (by rfl))) (fun _ _ _ _ _ => pv 7)) pa_nil)) pe_int (nomark _)) (pss_one (ps_expr (pe_lapp (pv 4) (pa_cons (pv 5) pa_nil)))) pss_nil
    case h3 => exact ps_ret (pe_callB cr_sorted (by rfl) B.sorted (by decide +kernel) (pa_cons (pv 4) pa_nil))
    case hz =>
    let p : Nat → Bool := fun x => decide (x ∈ g)
    have rl : r.length = n := by rw [pr.length_eq, List.length_range]
    have ndr : r.Nodup := pr.nodup_iff.mpr List.nodup_range
    refine ⟨by show 0 ≤ sizeLine; decide, fun D nD => ?_⟩
    let Pv : Nat → L2.St → Hp → Prop := fun i σ H' => ∃ o5 o6 lot, σ = [some (.int (n : Int)), some (.ref b), some (.ref a), some (.ref c), some (.ref D), o5, o6, none] ∧ Same H H' ∧ H' D = some (.lst (nvs lot)) ∧ lot.length ≤ i ∧ (∀ x ∈ lot, x ∈ r) ∧ lotOf q p r = lotGo q p lot (r.drop i)
    refine ⟨_, rfl, a, rfl, ⟨_, SqL.of (same_upd nD _ _ ha)⟩, for_list (K := K) (a := a) (xs := nvs r) Pv ⟨none, none, [], rfl, same_upd nD, upd_same, Nat.le_refl _, (fun x hx => by cases hx), rfl⟩ (fun i σ H' _ h => ?_) (fun i v σ H1 hi h => ?_) (fun σ H1 h => ?_)⟩
    · obtain ⟨_, _, _, _, sm, _⟩ := h
      exact SqL.of (sm _ _ ha)
    · obtain ⟨o5, o6, lot, rfl, sm, hD, ll, lr, el⟩ := h
      obtain ⟨x, hx, rfl⟩ := nvs_get hi
      have xr := List.mem_of_getElem? hx
      have xn : x < n := List.mem_range.mp (pr.mem_iff.mp xr)
      have ed : r.drop i = x :: r.drop (i + 1) := by
        obtain ⟨hi', e⟩ := List.getElem?_eq_some_iff.mp hx
        rw [← e]
        exact List.drop_eq_getElem_cons hi'
      have hil : i < r.length := (List.getElem?_eq_some_iff.mp hx).1
      have ex : lotGo q p lot (x :: r.drop (i + 1)) = if (p x && !(lot.any fun y => hasP q x y)) = true then lotGo q p (lot ++ [x]) (r.drop (i + 1)) else lotGo q p lot (r.drop (i + 1)) := by
        rw [lotGo]
      rw [ed, ex] at el
      refine ⟨_, rfl, _, rfl, c, _, rfl, .inl (SqL.of (sm _ _ hc)), rfl, nvs_flat _, _, rfl, ?_⟩
      rw [if_neg Bool.false_ne_true, inV_nvs]
      cases ep : decide (x ∈ g) with
      | false =>
        have e2 : (p x && !(lot.any fun y => hasP q x y)) = false := by show (decide (x ∈ g) && _) = false; rw [ep]; rfl
        rw [e2, if_neg Bool.false_ne_true] at el
        exact iteF ⟨_, _, lot, rfl, sm, hD, by omega, lr, el⟩
      | true =>
      have e2 : (p x && !(lot.any fun y => hasP q x y)) = !(lot.any fun y => hasP q x y) := by show (decide (x ∈ g) && _) = _; rw [ep]; rfl
      rw [e2] at el
      refine iteT ⟨_, rfl, _, rfl, _, rfl, b, n, x, q, rfl, by omega, by omega, cl, hl.mono sm, fun H2 t s2 nt ht => ?_⟩
      have hD2 := s2 _ _ hD
      refine ⟨_, rfl, D, rfl, ⟨_, SqL.of hD2⟩, fun G nG => ?_⟩
      refine lc_list (K := K) (a := D) (xs := nvs lot) (FilI H2 G lot fun y => hasP q x y) (FilI.start nG) (fun i H' _ z => SqL.of (z.1 _ _ hD2)) (fun j v H' hj z => ?_) (fun H3 z => ?_)
      · obtain ⟨y, hy, rfl⟩ := nvs_get hj
        have yl := List.mem_of_getElem? hy
        have yn : y < n := List.mem_range.mp (pr.mem_iff.mp (lr y yl))
        refine ⟨rfl, _, rfl, _, rfl, t, _, rfl, .inl (SqL.of (z.1 _ _ ht)), rfl, nvs_flat _, _, rfl, ?_⟩
        rw [if_neg Bool.false_ne_true, inV_nvs, near_in (by omega)]
        cases e : hasP q x y with
        | false => exact iteF (z.no hy e (.refl _))
        | true => exact iteT ⟨_, rfl, z.yes nG (by omega) hy e (.refl _)⟩
      · obtain ⟨s3, hG⟩ := z.fin
        refine ⟨G, _, rfl, .inl (SqL.of hG), rfl, _, rfl, ?_⟩
        rw [dec_int]
        have e3 : ((((nvs (lot.filter fun y => hasP q x y)).length : Nat) : Int) == 0) = !(lot.any fun y => hasP q x y) := by
          rw [← fil_none, nvs_len, Bool.eq_iff_iff, beq_iff_eq, decide_eq_true_iff]
          omega
        rw [e3]
        have hD3 := s3 _ _ hD2
        have s13 := s2.trans s3
        cases ea : lot.any fun y => hasP q x y with
        | true =>
          rw [ea, if_neg (by decide)] at el
          exact iteF ⟨_, _, lot, rfl, sm.trans s13, hD3, by omega, lr, el⟩
        | false =>
          rw [ea, if_pos (by rfl)] at el
          refine iteT ⟨_, rfl, .inl ⟨rfl, _, SqL.of hD3⟩, _, rfl, D, _, _, rfl, rfl, hD3, ?_, ?_⟩
          · rw [nvs_len, sizeLine_eq]
            omega
          · refine ⟨_, _, lot ++ [x], rfl, same_keep nD (sm.trans s13), ?_, by rw [List.length_append]; simp only [List.length_cons, List.length_nil]; omega, fun y hy => ?_, el⟩
            · rw [upd_same]
              unfold nvs
              rw [List.map_append]
              rfl
            · rcases List.mem_append.mp hy with hy | hy
              · exact lr y hy
              · rw [List.mem_singleton.mp hy]
                exact xr
    · obtain ⟨o5, o6, lot, rfl, sm, hD, ll, lr, el⟩ := h
      rw [nvs_len, List.drop_length] at el
      have el : lotOf q p r = lot := el
      rw [nvs_len] at ll
      have en : nvs lot = (lot.map fun (k : Nat) => (k : Int)).map V.int := by
        unfold nvs
        rw [List.map_map]
        rfl
      refine ⟨_, rfl, D, _, rfl, SqL.of (by rw [hD, en]), by rw [List.length_map]; omega, fun ns t pm srt nt => ?_⟩
      have OK := lotOf_ok (q := q) (p := p) (r := r) (fun x => hasP_irr cl x) (fun x y => hasP_sym q x y) ndr
      rw [el] at OK
      have nn : ∀ k ∈ ns, 0 ≤ k := fun k hk => by
        obtain ⟨z, _, e⟩ := List.mem_map.mp (pm.mem_iff.mp hk)
        omega
      have e5 : ns.map V.int = nvs (ns.map Int.toNat) := by
        unfold nvs
        rw [List.map_map]
        refine List.map_congr_left fun k hk => ?_
        show V.int k = V.int ((k.toNat : Nat) : Int)
        rw [Int.toNat_of_nonneg (nn k hk)]
      have ndn : ns.Nodup := by
        rw [pm.nodup_iff]
        exact List.pairwise_map.mpr (OK.nd.imp fun h e => h (by omega))
      refine k _ t (ns.map Int.toNat) (sm.trans (same_upd nt)) (sm.free nt) (by rw [upd_same, e5]) ?_ ?_
      · rw [List.pairwise_map]
        refine List.Pairwise.imp_of_mem (fun {a b} ha hb h => ?_) (srt_lt srt ndn)
        have := nn a ha
        omega
      · rw [el]
        have := pm.map Int.toNat
        rw [List.map_map] at this
        have e6 : (Int.toNat ∘ fun (k : Nat) => (k : Int)) = id := by funext k; exact Int.toNat_natCast k
        rw [e6, List.map_id] at this
        exact this
end
end K0
set_option Elab.async false
set_option linter.all false
set_option maxRecDepth 100000
set_option maxHeartbeats 4000000
namespace K0
open PySem PySem.Spec PyProof.Rows L2
/-! ### right knots and lots -/
theorem nsD_ints (r : List Nat) : nsD r = (r.map fun (k : Nat) => (k : Int)).map PyData.int := by
  unfold nsD
  rw [List.map_map]
  rfl
theorem nvs_ints (r : List Nat) : nvs r = (r.map fun (k : Nat) => (k : Int)).map V.int := by
  unfold nvs
  rw [List.map_map]
  rfl
theorem fwG_nat {n : Nat} {gs : List Nat} (nd : gs.Nodup) (lt : ∀ x ∈ gs, x < n) : fwG (n : Int) (nsD gs) [] = none := by
  rw [nsD_ints]
  refine fwG_good (sn := []) ⟨?_, fun k hk => ?_⟩
  · rw [List.nil_append]
    exact List.pairwise_map.mpr (nd.imp fun h e => h (by omega))
  · rw [List.nil_append] at hk
    obtain ⟨z, hz, rfl⟩ := List.mem_map.mp hk
    have := lt z hz
    omega
theorem asc_nat {n : Nat} {gs g : List Nat} (p : gs.Perm g) (up : g.Pairwise (· < ·)) (lt : ∀ x ∈ g, x < n) : Asc (n : Int) (nsD gs) g := by
  refine ⟨up, fun x hx => by have := lt x hx; omega, fun x => ?_⟩
  unfold nsD
  rw [List.mem_map]
  constructor
  · intro hx
    exact ⟨x, p.mem_iff.mpr hx, rfl⟩
  · rintro ⟨y, hy, e⟩
    have e2 : (y : Int) = (x : Int) := PyData.int.inj e
    have : y = x := by omega
    exact p.mem_iff.mp (this ▸ hy)
end K0
set_option Elab.async false
set_option linter.all false
set_option maxRecDepth 100000
set_option maxHeartbeats 4000000
namespace K0
open PySem PySem.Spec PyProof.Rows L2
theorem nsL_shaped (r : List Nat) : SeqAt.shaped (.list (nsD r)) = true := by
  rw [nsD_ints]
  exact intsL_shaped _
theorem nsL_eqv (r : List Nat) : PyData.eqv (.list (nsD r)) (.list (nsD r)) = true := by
  rw [nsD_ints, intsL_eqv, decide_eq_true rfl]
end K0
set_option Elab.async false
set_option linter.all false
set_option maxRecDepth 100000
set_option maxHeartbeats 4000000
namespace K0
open PySem PySem.Spec PyProof.Rows L2
structure GdK (n : Nat) (q : List Pr) (k : List Nat) : Prop where
  up : k.Pairwise (· < ·)
  lt : ∀ x ∈ k, x < n
  kn : ∀ x ∈ k, ∀ y ∈ k, x ≠ y → hasP q x y = true
theorem KnS.good {n : Nat} {q : List Pr} {kn : List (List Nat)} (h : KnS n q kn) {k : List Nat} (hk : k ∈ kn) : GdK n q k := by
  obtain ⟨m, rfl, c, b⟩ := h.snd k hk
  refine ⟨?_, fun x hx => (mem_bits.mp hx).1, fun x hx y hy ne => c x y (mem_bits.mp hx).2 (mem_bits.mp hy).2 ne⟩
  unfold bitsOf
  exact List.Pairwise.filter _ List.pairwise_lt_range
theorem KnS.zero {n : Nat} {q : List Pr} {kn : List (List Nat)} (h : KnS n q kn) : kn ≠ [] := fun e => by
  have := h.all 0 (fun x y hx => by rw [Nat.zero_testBit] at hx; cases hx) (fun y hy => by rw [Nat.zero_testBit] at hy; cases hy)
  rw [e] at this
  cases this
theorem KnS.some {n : Nat} {q : List Pr} {kn : List (List Nat)} (h : KnS n q kn) (n1 : 1 ≤ n) : (kn.filter fun k => !k.isEmpty) ≠ [] := fun e => by
  have b1 : ∀ y, (1 : Nat).testBit y = true → y = 0 := fun y hy => by
    cases y with
    | zero => rfl
    | succ y => simp [Nat.testBit_succ] at hy
  have m := h.all 1 (fun x y hx hy ne => by rw [b1 x hx, b1 y hy] at ne; exact absurd rfl ne) (fun y hy => by rw [b1 y hy]; omega)
  have z : 0 ∈ bitsOf n 1 := mem_bits.mpr ⟨by omega, by decide⟩
  have : bitsOf n 1 ∈ kn.filter fun k => !k.isEmpty := List.mem_filter.mpr ⟨m, by
    cases e2 : bitsOf n 1 with
    | nil => rw [e2] at z; cases z
    | cons x r => rfl⟩
  rw [e] at this
  cases this
theorem KnH.ne {H : Hp} {D : Addr} {l : List (Addr × List Nat)} (h : H D = some (.lst (l.map fun z => V.ref z.1))) (p : ∀ z ∈ l, H z.1 = some (.lst (nvs z.2))) : ∀ z ∈ l, z.1 ≠ D := fun z hz e => by
  have h2 := p z hz
  rw [e, h] at h2
  have h3 := HO.lst.inj (Option.some.inj h2)
  have h4 : V.ref z.1 ∈ nvs z.2 := by
    rw [← h3]
    exact List.mem_map.mpr ⟨z, hz, rfl⟩
  obtain ⟨k, _, e2⟩ := List.mem_map.mp h4
  cases e2
theorem KnH.push {H : Hp} {D p : Addr} {kn : List (List Nat)} {k : List Nat} (h : KnH H D kn) (hp : H p = some (.lst (nvs k))) (ne : p ≠ D) : ∃ ys, H D = some (.lst ys) ∧ ys.length = kn.length ∧ KnH (upd H D (.lst (ys ++ [.ref p]))) D (kn ++ [k]) := by
  obtain ⟨l, h1, h2, h3⟩ := h
  have nn := KnH.ne h1 h3
  refine ⟨_, h1, by rw [List.length_map, ← h2, List.length_map], l ++ [(p, k)], by rw [upd_same, List.map_append]; rfl, by rw [List.map_append, h2]; rfl, fun z hz => ?_⟩
  rcases List.mem_append.mp hz with hz | hz
  · rw [upd_ne (nn z hz)]
    exact h3 z hz
  · rw [List.mem_singleton.mp hz]
    show (upd _ _ _) p = _
    rw [upd_ne ne]
    exact hp
theorem KnH.at {H : Hp} {D : Addr} {kn : List (List Nat)} (h : KnH H D kn) {i : Nat} (hi : i < kn.length) : ∃ (ys : List V) (t : Addr), H D = some (.lst ys) ∧ ys.length = kn.length ∧ ys[i]? = some (.ref t) ∧ H t = some (.lst (nvs kn[i])) := by
  obtain ⟨l, h1, h2, h3⟩ := h
  have ll : l.length = kn.length := by rw [← h2, List.length_map]
  have hl : i < l.length := by omega
  refine ⟨_, l[i].1, h1, by rw [List.length_map, ll], by rw [List.getElem?_map, List.getElem?_eq_getElem hl]; rfl, ?_⟩
  rw [h3 _ (List.getElem_mem hl)]
  have e : kn[i] = l[i].2 := by
    have : kn[i]? = some l[i].2 := by rw [← h2, List.getElem?_map, List.getElem?_eq_getElem hl]; rfl
    rw [List.getElem?_eq_getElem hi] at this
    exact Option.some.inj this
  rw [e]
theorem upd_del {H : Hp} {d L : Addr} {o : HO} (ne : L ≠ d) : del (upd H L o) d = upd (del H d) L o := by
  funext b
  by_cases h : b = d
  · rw [h, del_same, upd_ne (Ne.symm ne), del_same]
  · rw [del_ne h]
    by_cases h2 : b = L
    · rw [h2, upd_same, upd_same]
    · rw [upd_ne h2, upd_ne h2, del_ne h]
end K0
set_option Elab.async false
set_option linter.all false
set_option maxRecDepth 100000
set_option maxHeartbeats 4000000
namespace K0
open PySem PySem.Spec PyProof.Rows L2
/-! ### what is told of what is refused -/
/-! ### wrong ones -/
theorem fw_n (n : Nat) : fwG (n : Int) [.int (n : Int)] [] = some 0 := by
  have : okAt (n : Int) [] (.int (n : Int)) = false := decide_eq_false (by omega)
  rw [fwG, this, if_neg Bool.false_ne_true]
  rfl
theorem ok_zero {n : Nat} (h : 1 ≤ n) : okAt (n : Int) [] (.int 0) = true := decide_eq_true ⟨by omega, by omega, by simp⟩
theorem fw_true {n : Nat} (h : 1 ≤ n) : fwG (n : Int) [.int 0, .bool true] [] = some 1 := by
  rw [fwG, ok_zero h, if_pos rfl]
  rfl
end K0
set_option Elab.async false
set_option linter.all false
set_option maxRecDepth 100000
set_option maxHeartbeats 4000000
namespace K0
open PySem PySem.Spec PyProof.Rows L2
abbrev s_lw : Stmt := top 80
theorem hit_f (f t c d : Bool) : hitB "F" (addL d "D" (addL c "C" (addL t "T" (addL f "F" "")))) = f := by cases f <;> cases t <;> cases c <;> cases d <;> decide +kernel
theorem hitF {r : List Nat} {a b c d : Int} : hitR "F" r [a, b, c, d] = (ltI r a b && ltI r d c) := hit_f _ _ _ _
theorem oneF : oneL "F" := ⟨70, by decide +kernel, by decide +kernel⟩
theorem nat_ofG {n : Nat} {r : List Int} (h : r.Perm (ran n)) : ∃ r' : List Nat, r.map V.int = nvs r' ∧ r'.Perm (List.range n) := by
  refine ⟨r.map Int.toNat, ?_, ?_⟩
  · unfold nvs
    rw [List.map_map]
    refine List.map_congr_left fun x hx => ?_
    obtain ⟨k, _, rfl⟩ := List.mem_map.mp (h.mem_iff.mp hx)
    rfl
  · have := h.map Int.toNat
    have e : (ran n).map Int.toNat = List.range n := by
      unfold ran
      rw [List.map_map]
      exact List.map_id _
    rw [e] at this
    exact this
theorem web_del {C : Addr} {H : Hp} {p d : Addr} {n : Int} {q : List Pr} (W : WebAt C H p n q) (dr : DrO H d) : WebAt C (del H d) p n q := by
  obtain ⟨⟨dx, c, m, l, h1, h2, h3, h4, h5⟩, cl, n0, n8⟩ := W
  obtain ⟨ns, hd, _⟩ := dr
  have go : ∀ {b : Addr} {o : HO}, H b = some o → (∀ xs, o ≠ .lst xs) → (del H d) b = some o := fun {b o} h no => by
    rw [del_ne]
    · exact h
    · intro e
      rw [e, hd] at h
      exact no _ (Option.some.inj h).symm
  exact ⟨⟨dx, c, m, l, go h1 (fun _ z => nomatch z), go h2 (fun _ z => nomatch z), h3, fun z hz => go (h4 z hz) (fun _ z => nomatch z), go h5 (fun _ z => nomatch z)⟩, cl, n0, n8⟩
theorem ord_del {K : PySem.W.Frag} {C D : Addr} {H : Hp} {o p d : Addr} {n : Int} {q : List Pr} {r : List Nat} (O : OrdAt K C D H o p n q r) (dr : DrO H d) : OrdAt K C D (del H d) o p n q r := by
  obtain ⟨⟨dx, t, m, h1, h2, h3⟩, W, n9, pr⟩ := O
  obtain ⟨ns, hd, _⟩ := id dr
  have go : ∀ {b : Addr} {o : HO}, H b = some o → (∀ xs, o ≠ .lst xs) → (del H d) b = some o := fun {b o} h no => by
    rw [del_ne]
    · exact h
    · intro e
      rw [e, hd] at h
      exact no _ (Option.some.inj h).symm
  refine ⟨⟨dx, t, m, go h1 (fun _ z => nomatch z), ?_, go h3 (fun _ z => nomatch z)⟩, web_del W dr, n9, pr⟩
  rcases h2 with h2 | h2
  · exact .inl (go h2 (fun _ z => nomatch z))
  · exact .inr h2
theorem rows_del {H : Hp} {d : Addr} (dr : DrO H d) : ∀ {xs : List V} {rs : List Rw}, DtAll H xs (rs.map rwD) → DtAll (del H d) xs (rs.map rwD)
  | _, [], .nil => .nil
  | _, r :: rs, .cons h t => .cons (by
      obtain ⟨ns, hd, _⟩ := id dr
      cases h with
      | @tup a ys _ e dd =>
        have : (del H d) a = some (.tup ys) := by
          rw [del_ne]
          · exact e
          · intro z
            rw [z, hd] at e
            cases e
        have ey : ys = r.map V.int := by
          clear e this
          induction r generalizing ys with
          | nil => cases dd; rfl
          | cons k r ih =>
            cases dd with
            | cons h1 h2 =>
              cases h1
              rw [ih h2]
              rfl
        rw [ey] at this
        exact .tup this (.ints _ r)) (rows_del dr t)
/-- no bad row, then none of that kind -/
theorem no_obs {n : Nat} {q : List Pr} {r : List Nat} {rs : List Rw} (cl' : Cl (n : Int) q) (is : IsRows (n : Int) q rs) (e : rs.filter (hitR "F" r) = []) : NoObs q fun x => r.idxOf x := by
  intro a b c d ab bc cd ac bd ad nac nbd nad lt1 lt2
  have nf : ∀ {x y : Nat}, hasP q x y = false → ¬ cl q x y := fun h z => by
    rw [hasP_cl.mpr z] at h
    cases h
  have R : RQ q a b c d := ⟨hasP_cl.mp ab, hasP_cl.mp bc, hasP_cl.mp cd, nf ac, nf bd, nf ad, by omega, by omega, by omega⟩
  rcases Nat.lt_or_gt_of_ne nad with h | h
  · have m : [(a : Int), (b : Int), (c : Int), (d : Int)] ∈ rs := (is.mem _).mpr ⟨_, _, _, _, rfl, by omega, R⟩
    have : [(a : Int), (b : Int), (c : Int), (d : Int)] ∈ rs.filter (hitR "F" r) := List.mem_filter.mpr ⟨m, by
      rw [hitF]
      unfold ltI
      simp only [Int.toNat_natCast]
      rw [decide_eq_true lt1, decide_eq_true lt2]
      rfl⟩
    rw [e] at this
    cases this
  · have R' : RQ q d c b a := ⟨cl_symm.mp R.cd, cl_symm.mp R.bc, cl_symm.mp R.ab, fun z => R.bd (cl_symm.mp z), fun z => R.ac (cl_symm.mp z), fun z => R.ad (cl_symm.mp z), by omega, by omega, by omega⟩
    have m : [(d : Int), (c : Int), (b : Int), (a : Int)] ∈ rs := (is.mem _).mpr ⟨_, _, _, _, rfl, by omega, R'⟩
    have : [(d : Int), (c : Int), (b : Int), (a : Int)] ∈ rs.filter (hitR "F" r) := List.mem_filter.mpr ⟨m, by
      rw [hitF]
      unfold ltI
      simp only [Int.toNat_natCast]
      rw [decide_eq_true lt1, decide_eq_true lt2]
      rfl⟩
    rw [e] at this
    cases this
end K0
set_option Elab.async false
set_option linter.all false
set_option maxRecDepth 100000
set_option maxHeartbeats 4000000
namespace K0
open PySem PySem.Spec PyProof.Rows L2
abbrev s_cpt : Stmt := top 18
abbrev s_mof : Stmt := top 21
abbrev s_tf : Stmt := top 27
abbrev s_flo : Stmt := top 28
/-! ### parts, told and held -/
def TG (H : Hp) (t : Addr) (g : List Nat) : Prop := H t = some (.tup (nvs g)) ∨ ∃ o, H t = some (.frz o (.tup (nvs g)))
theorem TG.mono {H H' : Hp} (s : Same H H') {t : Addr} {g : List Nat} : TG H t g → TG H' t g
  | .inl h => .inl (s _ _ h)
  | .inr ⟨o, h⟩ => .inr ⟨o, s _ _ h⟩
theorem TG.sq {K : PySem.W.Frag} {H : Hp} {t : Addr} {g : List Nat} : TG H t g → SqT K H t (nvs g)
  | .inl h => SqT.of h
  | .inr ⟨o, h⟩ => SqT.frz h
/-- a list or a tuple of data -/
structure SeqG (K : PySem.W.Frag) (H : Hp) (a : Addr) (ds : List PyData) : Prop where
  sq : Sq K H a ds
  at' : ∃ xs, (H a = some (.lst xs) ∨ H a = some (.tup xs) ∨ ∃ o, H a = some (.frz o (.tup xs))) ∧ DtAll H xs ds
theorem SeqG.mono {K : PySem.W.Frag} {H H' : Hp} (s : Same H H') {a : Addr} {ds : List PyData} (h : SeqG K H a ds) : SeqG K H' a ds := by
  obtain ⟨h1, xs, h2, h3⟩ := h
  exact ⟨h1.mono s, xs, h2.imp (s _ _) fun h => h.imp (s _ _) fun ⟨o, h⟩ => ⟨o, s _ _ h⟩, h3.mono s⟩
theorem SeqG.lst {K : PySem.W.Frag} {H : Hp} {a : Addr} {xs : List V} {ds : List PyData} (h : H a = some (.lst xs)) (d : DtAll H xs ds) : SeqG K H a ds := ⟨.lst h d, xs, .inl h, d⟩
theorem SeqG.tup {K : PySem.W.Frag} {H : Hp} {a : Addr} {xs : List V} {ds : List PyData} (h : H a = some (.tup xs)) (d : DtAll H xs ds) : SeqG K H a ds := ⟨.tup h d, xs, .inr (.inl h), d⟩
theorem TG.seq {K : PySem.W.Frag} {H : Hp} {t : Addr} {g : List Nat} : TG H t g → SeqG K H t (nsD g)
  | .inl h => .tup h (dta_nvs g)
  | .inr ⟨o, h⟩ => ⟨.frz h (dta_nvs g), _, .inr (.inr ⟨o, h⟩), dta_nvs g⟩
theorem SeqG.alt {K : PySem.W.Frag} {H : Hp} {a : Addr} {ds : List PyData} (h : SeqG K H a ds) : ∃ xs, (H a = some (.lst xs) ∨ SqT K H a xs ∧ ∀ H', Same H H' → SqT K H' a xs) ∧ DtAll H xs ds := by
  obtain ⟨_, xs, h2 | h2 | ⟨o, h2⟩, h3⟩ := h
  · exact ⟨xs, .inl h2, h3⟩
  · exact ⟨xs, .inr ⟨SqT.of h2, fun H' s => SqT.of (s _ _ h2)⟩, h3⟩
  · exact ⟨xs, .inr ⟨SqT.frz h2, fun H' s => SqT.frz (s _ _ h2)⟩, h3⟩
/-- a part that is right: g its things -/
def PartG (K : PySem.W.Frag) (H : Hp) (n : Nat) (vp : V) (g : List Nat) : Prop := (vp = .non ∧ g = List.range n) ∨ ∃ a ds, vp = .ref a ∧ SeqG K H a ds ∧ fwG (n : Int) ds [] = none ∧ Asc (n : Int) ds g
def PartB (K : PySem.W.Frag) (H : Hp) (n : Nat) (vp : V) (i : Nat) : Prop := ∃ a ds, vp = .ref a ∧ SeqG K H a ds ∧ fwG (n : Int) ds [] = some i
theorem PartG.mono {K : PySem.W.Frag} {H H' : Hp} (s : Same H H') {n : Nat} {vp : V} {g : List Nat} : PartG K H n vp g → PartG K H' n vp g
  | .inl h => .inl h
  | .inr ⟨a, ds, e, h1, h2, h3⟩ => .inr ⟨a, ds, e, h1.mono s, h2, h3⟩
theorem PartG.up {K : PySem.W.Frag} {H : Hp} {n : Nat} {vp : V} {g : List Nat} : PartG K H n vp g → g.Pairwise (· < ·) ∧ ∀ x ∈ g, x < n
  | .inl ⟨_, e⟩ => by
    rw [e]
    exact ⟨List.pairwise_lt_range, fun x hx => List.mem_range.mp hx⟩
  | .inr ⟨a, ds, _, _, _, h⟩ => ⟨h.up, fun x hx => by have := h.lt x hx; omega⟩
theorem TG.part {K : PySem.W.Frag} {H : Hp} {n : Nat} {t : Addr} {g : List Nat} (h : TG H t g) (up : g.Pairwise (· < ·)) (lt : ∀ x ∈ g, x < n) : PartG K H n (.ref t) g :=
  .inr ⟨t, nsD g, rfl, h.seq, fwG_nat (up.imp fun h => Nat.ne_of_lt h) lt, asc_nat (List.Perm.refl g) up lt⟩
def mkM (S : List Nat) : Nat := S.foldl (fun m x => m ||| 2 ^ x) 0
theorem mkF_bit : ∀ (S : List Nat) (m z : Nat), (S.foldl (fun m x => m ||| 2 ^ x) m).testBit z = (m.testBit z || decide (z ∈ S))
  | [], m, z => by
    show m.testBit z = _
    rw [decide_eq_false List.not_mem_nil, Bool.or_false]
  | x :: S, m, z => by
    show (S.foldl (fun m x => m ||| 2 ^ x) (m ||| 2 ^ x)).testBit z = _
    rw [mkF_bit S, or_two, Bool.or_assoc]
    congr 1
    rw [Bool.eq_iff_iff, Bool.or_eq_true, decide_eq_true_iff, decide_eq_true_iff, decide_eq_true_iff, List.mem_cons]
    exact ⟨fun h => h.imp Eq.symm id, fun h => h.imp Eq.symm id⟩
theorem mkM_bit (S : List Nat) (z : Nat) : (mkM S).testBit z = decide (z ∈ S) := by
  unfold mkM
  rw [mkF_bit, Nat.zero_testBit, Bool.false_or]
theorem mkM_snoc (S : List Nat) (x : Nat) : mkM (S ++ [x]) = mkM S ||| 2 ^ x := by
  unfold mkM
  rw [List.foldl_append]
  rfl
theorem mkM_small {S : List Nat} {k : Nat} (h : ∀ x ∈ S, x < k) : mkM S < 2 ^ k := Nat.lt_pow_two_of_testBit _ fun i hi => by
  rw [mkM_bit, decide_eq_false]
  intro z
  have := h i z
  omega
/-- the things of a mask, in order -/
def tlM (m : Nat) : List Nat := (List.range (bitsN m)).filter m.testBit
theorem mem_tlM {m x : Nat} : x ∈ tlM m ↔ m.testBit x = true := by
  unfold tlM
  rw [List.mem_filter, List.mem_range]
  refine ⟨fun h => h.2, fun h => ⟨Nat.lt_of_not_le fun le => ?_, h⟩⟩
  rw [bits_out le] at h
  cases h
theorem tlM_up (m : Nat) : (tlM m).Pairwise (· < ·) := List.Pairwise.filter _ List.pairwise_lt_range
theorem tlM_mk {S : List Nat} (up : S.Pairwise (· < ·)) : tlM (mkM S) = S := asc_uniq (tlM_up _) up fun x => by rw [mem_tlM, mkM_bit, decide_eq_true_iff]
theorem mk_tlM (m : Nat) : mkM (tlM m) = m := Nat.eq_of_testBit_eq fun i => by
  rw [mkM_bit, Bool.eq_iff_iff, decide_eq_true_iff, mem_tlM]
section
variable {P : Program} {w : World} {K : PySem.W.Frag} {mg : Str → Option Value} {base : Heap} {f : Addr} {fd : FuncData}
/-- check_part -/
def spCpt (K : PySem.W.Frag) (C : Addr) : Sp := fun vs H Q E => ∃ (n : Nat) (vp : V), vs = [.int (n : Int), vp] ∧ n ≤ 9 ∧ ((∃ g, PartG K H n vp g ∧ ∀ H' t, Same H H' → H t = none → TG H' t g → Q (.ref t) H') ∨ ∃ i : Nat, PartB K H n vp i ∧ Rz C [("place", .int (i : Int))] H E)
theorem sc_cpt : FnScope ["many", "part"] ["many", "part"] (defScope s_cpt) := ⟨rfl, rfl, rfl, by decide +kernel, rfl, by decide +kernel, by decide +kernel⟩
theorem ok_cpt {C : Addr} (F : Fun K "check_part" "check_part" s_cpt f fd) (B : Blt2 mg) (CS : Df P w K mg base "check_things" 4 ["many", "things"] (spCs K C)) : FnOk P w K mg base (L2.CX P w) 5 f fd ["many", "part"] (spCpt K C) := by
  refine F.okX sc_cpt (fun vs H Q E h => ?_) (fun cdv A outer s H vs Q E hr h => ?_)
  · obtain ⟨n, vp, rfl, _⟩ := h
    rfl
  · obtain ⟨n, vp, rfl, n9, h⟩ := h
    have nd := sc_cpt.nd
    refine ⟨_, pss_cons (ps_if (pt_cmpR op_isN (pv 1) pe_non (nomark _)) (pss_one (ps_ret (pe_tupRg rfl (by rfl) B.tuple (prg_1 (by rfl) B.range (pv 0))))) pss_nil)
      (pss_one (ps_ret (pe_df CS hr (by rfl) passUp (pa_cons (pv 0) (pa_cons (pv 1) pa_nil))))), ?_⟩
    rcases h with ⟨g, (⟨rfl, rfl⟩ | ⟨a, ds, rfl, hs, e, as⟩), k⟩ | ⟨i, ⟨a, ds, rfl, hs, e⟩, k⟩
    · refine ⟨_, rfl, rfl, _, rfl, iteT ?_⟩
      refine ⟨_, rfl, _, rfl, RgOk.of_le (by decide) (by omega) (by decide) (by omega), fun q nq => ?_⟩
      refine k _ q (same_upd nq) nq (.inl ?_)
      rw [upd_same, nsD_range, Int.toNat_natCast]
    · refine ⟨_, rfl, rfl, _, rfl, iteF ?_⟩
      refine ⟨_, rfl, _, rfl, (n : Int), a, ds, rfl, by omega, by omega, hs.sq, fun _ => ⟨hs.alt, fun H' t ns s1 nt ht up mem => ?_⟩, fun i e' => by rw [e] at e'; cases e'⟩
      obtain ⟨g', eg, ag⟩ := asc_of e up mem
      rw [as.uniq ag] at k
      obtain ⟨o, ho, _⟩ := ht
      exact k H' t s1 nt (.inr ⟨o, by rw [ho, eg]⟩)
    · refine ⟨_, rfl, rfl, _, rfl, iteF ?_⟩
      exact ⟨_, rfl, _, rfl, (n : Int), a, ds, rfl, by omega, by omega, hs.sq, fun e' => (by rw [e] at e'; cases e'), fun i' e' => by
        rw [e] at e'
        cases e'
        exact k⟩
/-- mask_of(things) -/
def spMof (K : PySem.W.Frag) : Sp := fun vs H Q _ => ∃ (a : Addr) (S : List Nat), vs = [.ref a] ∧ (∀ H', Same H H' → SqT K H' a (nvs S)) ∧ (∀ x ∈ S, x ≤ 1000) ∧ Ret (.int ((mkM S : Nat) : Int)) H Q
theorem sc_mof : FnScope ["things", "mask", "thing"] ["things"] (defScope s_mof) := ⟨rfl, rfl, rfl, by decide +kernel, rfl, by decide +kernel, by decide +kernel⟩
theorem ok_mof (F : Fun K "mask_of" "mask_of" s_mof f fd) : FnOk P w K mg base (L2.CX P w) 1 f fd ["things"] (spMof K) := by
  refine F.okX sc_mof (fun vs H Q E h => ?_) (fun cdv A outer s H vs Q E hr h => ?_)
  · obtain ⟨a, S, rfl, _⟩ := h
    rfl
  · obtain ⟨a, S, rfl, hs, few, k⟩ := h
    have nd := sc_mof.nd
    refine ⟨_, pss_cons (ps_set (i := 1) nd rfl (.inl rfl) pe_int) (pss_cons (ps_for (passes_of rfl) rfl (pi_tup (pv 0)) (pg_name (i := 2) nd rfl (.inl rfl))
      (pss_one (ps_set (i := 1) nd rfl (.inl rfl) (pe_op op_orN (pv 1) (pe_op op_shl1 pe_int (pv 2)))))) (pss_one (ps_ret (pv 1)))), ?_⟩
    let Pv : Nat → L2.St → Hp → Prop := fun i σ H' => ∃ o2, σ = [some (.ref a), some (.int ((mkM (S.take i) : Nat) : Int)), o2] ∧ Same H H'
    refine ⟨_, rfl, a, rfl, ⟨_, hs H (.refl _)⟩, for_tup (K := K) (a := a) (xs := nvs S) Pv ⟨none, rfl, .refl _⟩ (fun i σ H' _ h => ?_) (fun i v σ H1 hi h => ?_) (fun σ H1 h => ?_)⟩
    · obtain ⟨_, _, sm⟩ := h
      exact hs _ sm
    · obtain ⟨o2, rfl, sm⟩ := h
      obtain ⟨x, hx, rfl⟩ := nvs_get hi
      refine ⟨_, rfl, _, rfl, x, rfl, rfl, few x (List.mem_of_getElem? hx), _, _, rfl, rfl, some (.int (x : Int)), ?_, sm⟩
      rw [take_at hx, mkM_snoc]
      rfl
    · obtain ⟨o2, rfl, sm⟩ := h
      rw [nvs_len, List.take_length]
      exact ⟨_, rfl, k H1 sm⟩
/-- taken_first -/
def spTf (K : PySem.W.Frag) (C D : Addr) : Sp := fun vs H Q _ => ∃ (o p a : Addr) (n : Nat) (q : List Pr) (r g : List Nat), vs = [.ref o, .ref a] ∧ OrdAt K C D H o p (n : Int) q r ∧ (∀ H', Same H H' → SqT K H' a (nvs g)) ∧
  ∀ H' t l, Same H H' → H t = none → H' t = some (.tup (nvs l)) → l.Pairwise (· < ·) → l.Perm (lotOf q (fun x => decide (x ∈ g)) r) → Q (.ref t) H'
theorem sc_tf : FnScope ["order", "things", "lot", "thing"] ["order", "things"] (defScope s_tf) := ⟨rfl, rfl, rfl, by decide +kernel, rfl, by decide +kernel, by decide +kernel⟩
theorem ok_tf {C D : Addr} (F : Fun K "taken_first" "taken_first" s_tf f fd) (TW : WebC K C) (T : OrdC K D) (TI : Df P w K mg base "things_in" 1 ["mask"] spTi) : FnOk P w K mg base (L2.CX P w) 2 f fd ["order", "things"] (spTf K C D) := by
  refine F.okX sc_tf (fun vs H Q E h => ?_) (fun cdv A outer s H vs Q E hr h => ?_)
  · obtain ⟨o, p, a, n, q, r, g, rfl, _⟩ := h
    rfl
  · obtain ⟨o, p, a, n, q, r, g, rfl, O, hs, k⟩ := h
    have nd := sc_tf.nd
    have r1 : Room 1 _ := hr.mono (by decide)
    refine' ⟨_, pss_cons ?h1 (pss_cons ?h2 (pss_one ?h3)), ?hz⟩
    case h1 => exact ps_set (i := 2) nd rfl (.inl rfl) pe_int
    case h2 =>
      refine' ps_for (passes_of rfl) rfl (pi_tup (pe_fld (pv 0) rfl)) (pg_name (i := 3) nd rfl (.inl rfl)) (pss_one (ps_if (PW.pt (pw_and ?c1 (pw_and1 ?c2))) (pss_one ?c3) pss_nil))
      case c1 => exact pt_cmpR op_in_seq (pv 3) (pv 1) (by rfl)
      case c2 => exact pt_cmpR op_eq (pe_op op_andB (pe_ix ix_tup (pe_fld (pe_fld (pv 0) rfl) rfl) (pv 3) (fun _ _ => rfl)) (pv 2)) pe_int (nomark _)
      case c3 => exact ps_set (i := 2) nd rfl (.inl rfl) (pe_op op_orN (pv 2) (pe_op op_shl1 pe_int (pv 3)))
    case h3 => exact ps_ret (pe_df TI r1 (by rfl) passUp (pa_cons (pv 2) pa_nil))
    case hz =>
    obtain ⟨dx, t, m, h1, h2, h3⟩ := O.ex
    obtain ⟨⟨ddx, wc, wm, wl, w1, w2, w3, w4, w5⟩, cl, n0, n16⟩ := id O.W
    have n9 := O.n9
    have pr := O.p
    rw [Int.toNat_natCast] at pr
    have rl : r.length = n := by rw [pr.length_eq, List.length_range]
    have ndr : r.Nodup := pr.nodup_iff.mpr List.nodup_range
    let pp : Nat → Bool := fun x => decide (x ∈ g)
    let Pv : Nat → L2.St → Hp → Prop := fun i σ H' => ∃ o3 lot, σ = [some (.ref o), some (.ref a), some (.int ((mkM lot : Nat) : Int)), o3] ∧ Same H H' ∧ (∀ x ∈ lot, x ∈ r) ∧ lotOf q pp r = lotGo q pp lot (r.drop i)
    refine ⟨_, rfl, o, D, dx, _, _, rfl, h1, T.cl, T.nr, of_row _ _ _, t, rfl, ⟨_, h2.sqT⟩, for_tup (K := K) (a := t) (xs := nvs r) Pv ⟨none, [], rfl, .refl _, (fun x hx => by cases hx), rfl⟩ (fun i σ H' _ h => ?_) (fun i v σ H1 hi h => ?_) (fun σ H1 h => ?_)⟩
    · obtain ⟨_, _, _, sm, _⟩ := h
      exact (h2.mono sm).sqT
    · obtain ⟨o3, lot, rfl, sm, lr, el⟩ := h
      obtain ⟨x, hx, rfl⟩ := nvs_get hi
      have xr := List.mem_of_getElem? hx
      have xn : x < n := List.mem_range.mp (pr.mem_iff.mp xr)
      have ed : r.drop i = x :: r.drop (i + 1) := by
        obtain ⟨hi', e⟩ := List.getElem?_eq_some_iff.mp hx
        rw [← e]
        exact List.drop_eq_getElem_cons hi'
      have ex : lotGo q pp lot (x :: r.drop (i + 1)) = if (pp x && !(lot.any fun y => hasP q x y)) = true then lotGo q pp (lot ++ [x]) (r.drop (i + 1)) else lotGo q pp lot (r.drop (i + 1)) := by
        rw [lotGo]
      rw [ed, ex] at el
      refine ⟨_, rfl, _, rfl, a, _, rfl, .inr (hs _ sm), rfl, nvs_flat _, _, rfl, ?_⟩
      rw [if_neg Bool.false_ne_true, inV_nvs]
      cases ep : decide (x ∈ g) with
      | false =>
        have e2 : (pp x && !(lot.any fun y => hasP q x y)) = false := by show (decide (x ∈ g) && _) = false; rw [ep]; rfl
        rw [e2, if_neg Bool.false_ne_true] at el
        exact iteF (iteF ⟨_, lot, rfl, sm, lr, el⟩)
      | true =>
      have e2 : (pp x && !(lot.any fun y => hasP q x y)) = !(lot.any fun y => hasP q x y) := by show (decide (x ∈ g) && _) = _; rw [ep]; rfl
      rw [e2] at el
      refine iteT ⟨_, rfl, o, D, dx, _, _, rfl, sm _ _ h1, T.cl, T.nw, of_web _ _ _, p, C, ddx, _, _, rfl, sm _ _ w1, TW.cl, TW.nk, wf_masks _ _ _, _, rfl, wm, _, (x : Int), _, rfl, rfl, SqT.of (sm _ _ w5), nvs_at (by rw [mOf_len, Int.toNat_natCast]; exact xn), _, rfl, _, _, rfl, rfl, rfl, _, rfl, ?_⟩
      rw [dec_int]
      have e3 : ((((((mOf (n : Int).toNat q).getD x 0) &&& mkM lot : Nat) : Int)) == 0) = !(lot.any fun y => hasP q x y) := by
        rw [Bool.eq_iff_iff, beq_iff_eq, Bool.not_eq_true', List.any_eq_false]
        constructor
        · intro h y hy hh
          have hb : (((mOf (n : Int).toNat q).getD x 0) &&& mkM lot).testBit y = true := by
            rw [Nat.testBit_and, mkM_bit, decide_eq_true hy, Bool.and_true, Int.toNat_natCast, mOf_bit cl]
            exact hh
          have : ((mOf (n : Int).toNat q).getD x 0) &&& mkM lot = 0 := by omega
          rw [this, Nat.zero_testBit] at hb
          cases hb
        · intro h
          have : ((mOf (n : Int).toNat q).getD x 0) &&& mkM lot = 0 := Nat.eq_of_testBit_eq fun y => by
            rw [Nat.testBit_and, mkM_bit, Nat.zero_testBit, Int.toNat_natCast, mOf_bit cl]
            cases hh : hasP q x y with
            | false => rfl
            | true =>
              rw [Bool.true_and, decide_eq_false]
              exact fun hy => h y hy hh
          rw [this]
          rfl
      rw [e3]
      cases ea : lot.any fun y => hasP q x y with
      | true =>
        rw [ea, if_neg (by decide)] at el
        exact iteF ⟨_, lot, rfl, sm, lr, el⟩
      | false =>
        rw [ea, if_pos (by rfl)] at el
        refine iteT ⟨_, rfl, _, rfl, x, rfl, rfl, by omega, _, _, rfl, rfl, some (.int (x : Int)), lot ++ [x], ?_, sm, fun y hy => ?_, el⟩
        · rw [mkM_snoc]
          rfl
        · rcases List.mem_append.mp hy with hy | hy
          · exact lr y hy
          · rw [List.mem_singleton.mp hy]
            exact xr
    · obtain ⟨o3, lot, rfl, sm, lr, el⟩ := h
      rw [nvs_len, List.drop_length] at el
      have el : lotOf q pp r = lot := el
      have OK := lotOf_ok (q := q) (p := pp) (r := r) (fun x => hasP_irr cl x) (fun x y => hasP_sym q x y) ndr
      rw [el] at OK
      have b8 : bitsN (mkM lot) ≤ 9 := bits_small (mkM_small fun x hx => by have := List.mem_range.mp (pr.mem_iff.mp (lr x hx)); omega)
      refine ⟨_, rfl, mkM lot, rfl, by omega, fun H2 t2 s2 nt2 ht2 => ?_⟩
      refine k _ t2 (tlM (mkM lot)) (sm.trans s2) (sm.free nt2) ht2 (tlM_up _) ?_
      rw [el]
      refine (List.perm_ext_iff_of_nodup ((tlM_up _).imp fun h => Nat.ne_of_lt h) OK.nd).mpr fun x => ?_
      rw [mem_tlM, mkM_bit, decide_eq_true_iff]
end
end K0
set_option Elab.async false
set_option linter.all false
set_option maxRecDepth 100000
set_option maxHeartbeats 4000000
namespace K0
open PySem PySem.Spec PyProof.Rows L2
abbrev s_lno : Stmt := s_o 10
abbrev s_fk : Stmt := top 30
abbrev s_mkn : Stmt := top 37
/-! ### full knots of a part, in order -/
structure FullIn (q : List Pr) (g k : List Nat) : Prop where
  up : k.Pairwise (· < ·)
  sub : ∀ x ∈ k, x ∈ g
  kn : ∀ x ∈ k, ∀ y ∈ k, x ≠ y → hasP q x y = true
  mx : ∀ y ∈ g, y ∉ k → ∃ x ∈ k, hasP q x y = false
structure FkR (q : List Pr) (g : List Nat) (rows : List (List Nat)) : Prop where
  up : UpR rows
  mem : ∀ k, k ∈ rows ↔ FullIn q g k
theorem full_max {q : List Pr} {g : List Nat} {m : Nat} : MaxM q (mkM g) m ↔ FullIn q g (tlM m) := by
  constructor
  · intro h
    refine ⟨tlM_up m, fun x hx => ?_, fun x hx y hy ne => h.clq x y (mem_tlM.mp hx) (mem_tlM.mp hy) ne, fun y hy hn => ?_⟩
    · have := h.sub x (mem_tlM.mp hx)
      rw [mkM_bit, decide_eq_true_iff] at this
      exact this
    · obtain ⟨x, h1, h2⟩ := h.max y (by rw [mkM_bit, decide_eq_true hy]) (by
        cases e : m.testBit y with
        | false => rfl
        | true => exact absurd (mem_tlM.mpr e) hn)
      exact ⟨x, mem_tlM.mpr h1, h2⟩
  · intro h
    refine ⟨fun x y hx hy ne => h.kn x (mem_tlM.mpr hx) y (mem_tlM.mpr hy) ne, fun x hx => by rw [mkM_bit, decide_eq_true_iff]; exact h.sub x (mem_tlM.mpr hx), fun y hy hn => ?_⟩
    obtain ⟨x, h1, h2⟩ := h.mx y (by rw [mkM_bit, decide_eq_true_iff] at hy; exact hy) (fun z => by
      rw [mem_tlM.mp z] at hn
      cases hn)
    exact ⟨x, mem_tlM.mp h1, h2⟩
theorem perm_map_inv {α β : Type} {f : α → β} : ∀ {ys : List β} {l : List α}, ys.Perm (l.map f) → ∃ l2 : List α, ys = l2.map f ∧ l2.Perm l
  | [], l, h => by
    have e : l = [] := List.map_eq_nil_iff.mp (List.nil_perm.mp h)
    exact ⟨[], rfl, by rw [e]⟩
  | y :: ys, l, h => by
    obtain ⟨z, hz, e⟩ := List.mem_map.mp (h.mem_iff.mp List.mem_cons_self)
    obtain ⟨a, b, rfl⟩ := List.append_of_mem hz
    have h2 : (y :: ys).Perm (y :: (a ++ b).map f) := by
      refine h.trans ?_
      rw [List.map_append, List.map_cons, e, List.map_append]
      exact List.perm_middle
    obtain ⟨l2, e2, p2⟩ := perm_map_inv (List.Perm.cons_inv h2)
    exact ⟨z :: l2, by rw [e2, List.map_cons, e], (p2.cons z).trans List.perm_middle.symm⟩
/-- a list, a tuple of tuples of things -/
def KtL (H : Hp) (D : Addr) (kn : List (List Nat)) : Prop := ∃ l : List (Addr × List Nat), H D = some (.lst (l.map fun z => V.ref z.1)) ∧ l.map (·.2) = kn ∧ ∀ z ∈ l, H z.1 = some (.tup (nvs z.2))
def KtT (H : Hp) (D : Addr) (kn : List (List Nat)) : Prop := ∃ l : List (Addr × List Nat), H D = some (.tup (l.map fun z => V.ref z.1)) ∧ l.map (·.2) = kn ∧ ∀ z ∈ l, H z.1 = some (.tup (nvs z.2))
theorem KtL.mono {H H' : Hp} (s : Same H H') {D : Addr} {kn : List (List Nat)} : KtL H D kn → KtL H' D kn := fun ⟨l, h, e, p⟩ => ⟨l, s _ _ h, e, fun z hz => s _ _ (p z hz)⟩
theorem KtT.mono {H H' : Hp} (s : Same H H') {D : Addr} {kn : List (List Nat)} : KtT H D kn → KtT H' D kn := fun ⟨l, h, e, p⟩ => ⟨l, s _ _ h, e, fun z hz => s _ _ (p z hz)⟩
theorem KtL.push {H : Hp} {D p : Addr} {kn : List (List Nat)} {k : List Nat} (h : KtL H D kn) (hp : H p = some (.tup (nvs k))) : ∃ ys, H D = some (.lst ys) ∧ ys.length = kn.length ∧ KtL (upd H D (.lst (ys ++ [.ref p]))) D (kn ++ [k]) := by
  obtain ⟨l, h1, h2, h3⟩ := h
  have nn : ∀ {z : Addr} {k : List Nat}, H z = some (.tup (nvs k)) → z ≠ D := fun hz e => by
    rw [e, h1] at hz
    cases hz
  refine ⟨_, h1, by rw [List.length_map, ← h2, List.length_map], l ++ [(p, k)], by rw [upd_same, List.map_append]; rfl, by rw [List.map_append, h2]; rfl, fun z hz => ?_⟩
  rcases List.mem_append.mp hz with hz | hz
  · rw [upd_ne (nn (h3 z hz))]
    exact h3 z hz
  · rw [List.mem_singleton.mp hz]
    show (upd _ _ _) p = _
    rw [upd_ne (nn hp)]
    exact hp
theorem asI_nvs (k : List Nat) : (asI k).map V.int = nvs k := by
  unfold nvs asI
  rw [List.map_map]
  rfl
theorem tupI_of {K : PySem.W.Frag} {H : Hp} {a : Addr} {k : List Nat} (h : H a = some (.tup (nvs k))) : L2.TupI K H (.ref a) (asI k) := ⟨a, rfl, by rw [asI_nvs]; exact SqT.of h⟩
section
variable {P : Program} {w : World} {K : PySem.W.Frag} {mg : Str → Option Value} {base : Heap} {f : Addr} {fd : FuncData}
/-- len of an order -/
def spLno (K : PySem.W.Frag) (C D : Addr) : Sp := fun vs H Q _ => ∃ (o p : Addr) (n : Nat) (q : List Pr) (r : List Nat), vs = [.ref o] ∧ OrdAt K C D H o p (n : Int) q r ∧ Ret (.int (n : Int)) H Q
theorem sc_lno : FnScope ["self"] ["self"] (defScope s_lno) := ⟨rfl, rfl, rfl, by decide +kernel, rfl, by decide +kernel, by decide +kernel⟩
theorem ok_lno {C D : Addr} (F : Fun K "__len__" "Order.__len__" s_lno f fd) (B : Blt2 mg) (T : OrdC K D) : FnOk P w K mg base (L2.CX P w) 1 f fd ["self"] (spLno K C D) := by
  refine F.okX sc_lno (fun vs H Q E h => ?_) (fun cdv A outer s H vs Q E hr h => ?_)
  · obtain ⟨o, p, n, q, r, rfl, _⟩ := h
    rfl
  · obtain ⟨o, p, n, q, r, rfl, O, k⟩ := h
    obtain ⟨dx, t, m, h1, h2, h3⟩ := O.ex
    have lr := O.len
    refine ⟨_, pss_one (ps_ret (pe_callB call_len_seq (by rfl) B.len PySem.boot_len (pa_cons (pe_fld (pv 0) rfl) pa_nil))), ?_⟩
    refine ⟨_, rfl, o, D, dx, _, _, rfl, h1, T.cl, T.nr, of_row _ _ _, t, _, rfl, .inr h2.sqT, ?_⟩
    rw [nvs_len, lr]
    exact k.now
/-- first_lot -/
def spFlo (K : PySem.W.Frag) (C D CP : Addr) : Sp := fun vs H Q E => ∃ (o p : Addr) (vp : V) (n : Nat) (q : List Pr) (r : List Nat), vs = [.ref o, vp] ∧ OrdAt K C D H o p (n : Int) q r ∧
  ((∃ g, PartG K H n vp g ∧ ∀ H' t l, Same H H' → H t = none → H' t = some (.tup (nvs l)) → l.Pairwise (· < ·) → l.Perm (lotOf q (fun x => decide (x ∈ g)) r) → Q (.ref t) H') ∨ ∃ i : Nat, PartB K H n vp i ∧ Rz CP [("place", .int (i : Int))] H E)
theorem sc_flo : FnScope ["order", "part"] ["order", "part"] (defScope s_flo) := ⟨rfl, rfl, rfl, by decide +kernel, rfl, by decide +kernel, by decide +kernel⟩
theorem ok_flo {dvs : List V} {C D CP : Addr} (F : FunD K "first_lot" "first_lot" (defArgs s_flo) (defBody s_flo) (defScope s_flo) dvs [] f fd) (B : Blt2 mg) (LN : Mt P w K mg base D "__len__" 1 ["self"] (spLno K C D)) (CPt : Df P w K mg base "check_part" 5 ["many", "part"] (spCpt K CP)) (TF : Df P w K mg base "taken_first" 2 ["order", "things"] (spTf K C D)) : FnOk P w K mg base (L2.CX P w) 6 f fd ["order", "part"] (spFlo K C D CP) := by
  refine F.ok sc_flo (fun vs H Q E h => ?_) (fun cdv A outer s H vs Q E hr h => ?_)
  · obtain ⟨o, p, vp, n, q, r, rfl, _⟩ := h
    rfl
  · obtain ⟨o, p, vp, n, q, r, rfl, O, h⟩ := h
    have r2 : Room 2 _ := hr.mono (by decide)
    have n9 := O.n9
    obtain ⟨dx, t, m, h1, h2, h3⟩ := O.ex
    refine ⟨_, pss_one (ps_ret (pe_df TF r2 (by rfl) passUp (pa_cons (pv 0) (pa_cons (pe_df CPt hr (by rfl) passUp (pa_cons (pe_callB (cr_lenO LN r2 passUp) (by rfl) B.len PySem.boot_len (pa_cons (pv 0) pa_nil)) (pa_cons (pv 1) pa_nil))) pa_nil)))), ?_⟩
    refine ⟨_, rfl, _, rfl, o, dx, _, rfl, h1, o, p, n, q, r, rfl, O, fun H1 s1 => ⟨n, rfl, by omega, _, rfl, ?_⟩⟩
    dsimp only [tNil]
    rcases h with ⟨g, hg, k⟩ | ⟨i, hb, k⟩
    · refine ⟨n, vp, rfl, by omega, .inl ⟨g, hg.mono s1, fun H2 t2 s2 nt2 ht2 => ?_⟩⟩
      dsimp only [tNil]
      refine ⟨o, p, t2, n, q, r, g, rfl, O.mono (s1.trans s2), (fun H' s' => (ht2.mono s').sq), fun H3 t3 l s3 nt3 ht3 up pm => k _ t3 l ((s1.trans s2).trans s3) ((s1.trans s2).free nt3) ht3 up pm⟩
    · obtain ⟨a, ds, e, hs, hf⟩ := hb
      exact ⟨n, vp, rfl, by omega, .inr ⟨i, ⟨a, ds, e, hs.mono s1, hf⟩, fun H' d s' h => k H' d (s1.trans s') h⟩⟩
/-- full_knots -/
def spFk (K : PySem.W.Frag) (C : Addr) : Sp := fun vs H Q _ => ∃ (p : Addr) (vp : V) (n : Nat) (q : List Pr) (g : List Nat), vs = [.ref p, vp] ∧ WebAt C H p (n : Int) q ∧ n ≤ 8 ∧ PartG K H n vp g ∧ ∀ H' t rows, Same H H' → KtT H' t rows → FkR q g rows → Q (.ref t) H'
theorem sc_fk : FnScope ["web", "part", "things", "mask"] ["web", "part"] (defScope s_fk) := ⟨rfl, rfl, rfl, by decide +kernel, rfl, by decide +kernel, by decide +kernel⟩
theorem ok_fk {dvs : List V} {C CP : Addr} (F : FunD K "full_knots" "full_knots" (defArgs s_fk) (defBody s_fk) (defScope s_fk) dvs [] f fd) (B : Blt2 mg) (TW : WebC K C) (CPt : Df P w K mg base "check_part" 5 ["many", "part"] (spCpt K CP)) (MO : Df P w K mg base "mask_of" 1 ["things"] (spMof K)) (FM : Df P w K mg base "full_masks" 3 ["masks", "part"] spFm) (TI : Df P w K mg base "things_in" 1 ["mask"] spTi) : FnOk P w K mg base (L2.CX P w) 6 f fd ["web", "part"] (spFk K C) := by
  refine F.ok sc_fk (fun vs H Q E h => ?_) (fun cdv A outer s H vs Q E hr h => ?_)
  · obtain ⟨p, vp, n, q, g, rfl, _⟩ := h
    rfl
  · obtain ⟨p, vp, n, q, g, rfl, W, n8, hg, k⟩ := h
    have nd := sc_fk.nd
    have r1 : Room 1 _ := hr.mono (by decide)
    have r3 : Room 3 _ := hr.mono (by decide)
    have hu : (A.deeper (envOfC "full_knots" (defScope s_fk) s.heap.objs.size f cdv)).units + 64 < cLine := by have := hr.un; omega
    obtain ⟨⟨ddx, wc, wm, wl, w1, w2, w3, w4, w5⟩, cl, n0, n16⟩ := id W
    refine' ⟨_, pss_cons ?h1 (pss_one ?h2), ?hz⟩
    case h1 => exact ps_set (i := 2) nd rfl (.inl rfl) (pe_df CPt hr (by rfl) passUp (pa_cons (pe_fld (pv 0) rfl) (pa_cons (pv 1) pa_nil)))
    case h2 =>
      refine' ps_ret (pe_callTy call_tuple_of (by rfl) B.tuple (by decide +kernel) (pa_cons (pe_callB (cr_sortA hu) (by rfl) B.sorted (by decide +kernel) (pa_cons ?lc pa_nil)) pa_nil))
      case lc => exact pe_lc (own := [("mask", 3)]) (g := gName 3) (tt := tYes) (te := tCall spTi [] (fun _ _ _ => False) (tCons (tVar 3) tNil)) rfl nd (pi_list (pe_df FM r3 (by rfl) passUp (pa_cons (pe_fld (pv 0) rfl) (pa_cons (pe_df MO r1 (by rfl) passUp (pa_cons (pv 2) pa_nil)) pa_nil)))) (blkOk_by (N := ["web", "part", "things", "mask"]) (sc := defScope s_fk) (by decide +kernel)) (fun _ _ _ _ _ => pg_name (i := 3) nd rfl (.inl rfl)) (fun _ _ _ _ _ => pts_nil) (fun _ _ _ _ _ => pe_df TI r1 (by rfl) passE0 (pa_cons (pv 3) pa_nil))
    case hz =>
    obtain ⟨gup, glt⟩ := hg.up
    refine ⟨_, rfl, p, C, ddx, _, _, rfl, w1, TW.cl, TW.nm, wf_many _ _ _, _, rfl, n, vp, rfl, by omega, .inl ⟨g, hg, fun H1 t1 s1 nt1 ht1 => ?_⟩⟩
    refine ⟨_, rfl, p, C, ddx, _, _, rfl, s1 _ _ w1, TW.cl, TW.nk, wf_masks _ _ _, _, rfl, t1, g, rfl, (fun H' s' => (ht1.mono s').sq), (fun x hx => by have := glt x hx; omega), fun H2 s2 => ?_⟩
    have s02 := s1.trans s2
    dsimp only [tNil]
    refine ⟨wm, n, q, mkM g, rfl, n8, cl, (by have := s02 _ _ w5; rw [Int.toNat_natCast] at this; exact this), (fun x hx => by rw [mkM_bit, decide_eq_true_iff] at hx; exact glt x hx), fun H3 b found s3 nb hb fx fl => ?_⟩
    refine ⟨b, rfl, ⟨_, SqL.of hb⟩, fun L nL => ?_⟩
    refine lc_list (K := K) (a := b) (xs := nvs found) (fun i H' => Same H3 H' ∧ KtL H' L ((found.take i).map tlM)) ⟨same_upd nL, [], upd_same, rfl, fun z hz => by cases hz⟩ (fun i H' _ z => SqL.of (z.1 _ _ hb)) (fun i v H' hi z => ?_) (fun H4 z => ?_)
    · obtain ⟨sm, hL⟩ := z
      obtain ⟨m, hm, rfl⟩ := nvs_get hi
      have mf := List.mem_of_getElem? hm
      have mx := (fx.mem m).mp mf
      have b8 : bitsN m ≤ 8 := bits_small (Nat.lt_pow_two_of_testBit _ fun i hi => by
        cases e : m.testBit i with
        | false => rfl
        | true =>
          have := mx.sub i e
          rw [mkM_bit, decide_eq_true_iff] at this
          have := glt i this
          omega)
      refine ⟨rfl, _, rfl, m, rfl, by omega, fun H5 t5 s5 nt5 ht5 => ?_⟩
      obtain ⟨ys, h6, h7, h8⟩ := (hL.mono s5).push (k := tlM m) ht5
      refine ⟨ys, h6, ?_, same_keep nL (sm.trans s5), ?_⟩
      · rw [h7, List.length_map, List.length_take, sizeLine_eq]
        omega
      · rw [take_at hm, List.map_append]
        exact h8
    obtain ⟨s4, hL⟩ := z
    rw [nvs_len, List.take_length] at hL
    obtain ⟨l, hl1, hl2, hl3⟩ := hL
    refine ⟨L, _, rfl, SqL.of hl1, fun x hx => ?_, ?_, fun ys t pm srt nt => ?_⟩
    · obtain ⟨z, hz, rfl⟩ := List.mem_map.mp hx
      exact ⟨_, tupI_of (hl3 z hz)⟩
    · by_cases ge : g = []
      · -- one knot of nothing
        have m0 : MaxM q (mkM g) 0 := full_max.mpr ⟨tlM_up 0, (fun x hx => by rw [mem_tlM, Nat.zero_testBit] at hx; cases hx), (fun x hx => by rw [mem_tlM, Nat.zero_testBit] at hx; cases hx), fun y hy => by rw [ge] at hy; cases hy⟩
        have f0 := (fx.mem 0).mpr m0
        have all0 : ∀ m ∈ found, m = 0 := fun m hm => Nat.eq_of_testBit_eq fun i => by
          rw [Nat.zero_testBit]
          cases e : m.testBit i with
          | false => rfl
          | true =>
            have := ((fx.mem m).mp hm).sub i e
            rw [mkM_bit, decide_eq_true_iff, ge] at this
            cases this
        cases l with
        | nil =>
          have hl2 : [] = found.map tlM := hl2
          have : found = [] := List.map_eq_nil_iff.mp hl2.symm
          rw [this] at f0
          cases f0
        | cons z l' =>
          refine .inr ⟨.ref z.1, l'.map fun z => V.ref z.1, rfl, ?_⟩
          have hz := tupI_of (K := K) (hl3 z List.mem_cons_self)
          have ez : z.2 ∈ found.map tlM := by
            rw [← hl2]
            exact List.mem_cons_self
          obtain ⟨m, hm, em⟩ := List.mem_map.mp ez
          rw [← em, all0 m hm] at hz
          exact hz
      · refine .inl fun x hx => ?_
        obtain ⟨z, hz, rfl⟩ := List.mem_map.mp hx
        refine ⟨asI z.2, fun e => ?_, tupI_of (hl3 z hz)⟩
        have ez : z.2 ∈ found.map tlM := by
          rw [← hl2]
          exact List.mem_map.mpr ⟨z, hz, rfl⟩
        obtain ⟨m, hm, em⟩ := List.mem_map.mp ez
        have fu := full_max.mp ((fx.mem m).mp hm)
        have z0 : z.2 = [] := List.map_eq_nil_iff.mp e
        rw [em, z0] at fu
        cases g with
        | nil => exact ge rfl
        | cons y g' =>
          obtain ⟨x, hx, _⟩ := fu.mx y List.mem_cons_self List.not_mem_nil
          cases hx
    · -- sorted
      obtain ⟨l2, rfl, pm2⟩ := perm_map_inv pm
      have hl4 : ∀ z ∈ l2, H4 z.1 = some (.tup (nvs z.2)) := fun z hz => hl3 z (pm2.mem_iff.mp hz)
      have le : (l2.map (·.2)).Pairwise fun a b => HT.lexLt (asI b) (asI a) = false := by
        rw [List.pairwise_map]
        refine List.Pairwise.imp_of_mem (fun {a b} ha hb h => ?_) (List.pairwise_map.mp srt)
        exact h _ _ (tupI_of (hl4 a ha)) (tupI_of (hl4 b hb))
      have pr2 : (l2.map (·.2)).Perm (found.map tlM) := by
        rw [← hl2]
        exact pm2.map _
      have ndr : (l2.map (·.2)).Nodup := by
        rw [pr2.nodup_iff]
        refine List.pairwise_map.mpr (fx.nd.imp fun {a b} h e => h ?_)
        have := congrArg mkM e
        rwa [mk_tlM, mk_tlM] at this
      have s5 := same_upd (o := .lst (l2.map fun z => V.ref z.1)) nt
      refine ⟨t, _, rfl, .inl ⟨SqL.of upd_same, fun u nu => ?_⟩⟩
      have s6 := s5.trans (same_upd (o := .tup (l2.map fun z => V.ref z.1)) nu)
      refine k _ u (l2.map (·.2)) ((s02.trans (s3.trans s4)).trans s6) ⟨l2, upd_same, rfl, fun z hz => s6 _ _ (hl4 z hz)⟩ ⟨upR_of le ndr, fun k => ?_⟩
      rw [pr2.mem_iff]
      constructor
      · intro h
        obtain ⟨m, hm, rfl⟩ := List.mem_map.mp h
        exact full_max.mp ((fx.mem m).mp hm)
      · intro h
        refine List.mem_map.mpr ⟨mkM k, (fx.mem _).mpr (full_max.mpr ?_), tlM_mk h.up⟩
        rw [tlM_mk h.up]
        exact h
end
end K0
set_option Elab.async false
set_option linter.all false
set_option maxRecDepth 100000
set_option maxHeartbeats 4000000
namespace K0
open PySem PySem.Spec PyProof.Rows L2
abbrev s_mpt : Stmt := top 38
/-- the full knots that a part's first lot misses -/
structure MkR (q : List Pr) (r g : List Nat) (rows : List (List Nat)) : Prop where
  up : UpR rows
  mem : ∀ k, k ∈ rows ↔ FullIn q g k ∧ k ≠ [] ∧ ∀ x ∈ k, x ∉ lotOf q (fun x => decide (x ∈ g)) r
theorem MkR.uniq {q : List Pr} {r g : List Nat} {a b : List (List Nat)} (h : MkR q r g a) (h' : MkR q r g b) : a = b := upR_uniq h.up h'.up fun x => (h.mem x).trans (h'.mem x).symm
theorem up_few {n : Nat} {g : List Nat} (up : g.Pairwise (· < ·)) (lt : ∀ x ∈ g, x < n) : g.length ≤ n := by
  have := len_sub g (List.range n) (up.imp fun h => Nat.ne_of_lt h) fun k hk => List.mem_range.mpr (lt k hk)
  simpa using this
theorem FullIn.few {q : List Pr} {g k : List Nat} (h : FullIn q g k) (gn : ∀ x ∈ g, x < 8) : k.length ≤ 8 := up_few h.up fun x hx => gn x (h.sub x hx)
section
variable {P : Program} {w : World} {K : PySem.W.Frag} {mg : Str → Option Value} {base : Heap} {f : Addr} {fd : FuncData}
/-- missed_knots -/
def spMkn (K : PySem.W.Frag) (C D CP : Addr) : Sp := fun vs H Q E => ∃ (o p : Addr) (vp : V) (n : Nat) (q : List Pr) (r : List Nat), vs = [.ref o, vp] ∧ OrdAt K C D H o p (n : Int) q r ∧ n ≤ 8 ∧
  ((∃ g, PartG K H n vp g ∧ ∀ H' t rows, Same H H' → KtT H' t rows → MkR q r g rows → Q (.ref t) H') ∨ ∃ i : Nat, PartB K H n vp i ∧ Rz CP [("place", .int (i : Int))] H E)
theorem sc_mkn : FnScope ["order", "part", "things", "lot", "knot"] ["order", "part"] (defScope s_mkn) := ⟨rfl, rfl, rfl, by decide +kernel, rfl, by decide +kernel, by decide +kernel⟩
theorem ok_mkn {dvs : List V} {C D CP : Addr} (F : FunD K "missed_knots" "missed_knots" (defArgs s_mkn) (defBody s_mkn) (defScope s_mkn) dvs [] f fd) (B : Blt2 mg) (T : OrdC K D) (LN : Mt P w K mg base D "__len__" 1 ["self"] (spLno K C D)) (CPt : Df P w K mg base "check_part" 5 ["many", "part"] (spCpt K CP)) (FL : Df P w K mg base "first_lot" 6 ["order", "part"] (spFlo K C D CP)) (FK : Df P w K mg base "full_knots" 6 ["web", "part"] (spFk K C)) (ME : Df P w K mg base "meets" 1 ["things", "others"] (spMe K)) : FnOk P w K mg base (L2.CX P w) 7 f fd ["order", "part"] (spMkn K C D CP) := by
  refine F.ok sc_mkn (fun vs H Q E h => ?_) (fun cdv A outer s H vs Q E hr h => ?_)
  · obtain ⟨o, p, vp, n, q, r, rfl, _⟩ := h
    rfl
  · obtain ⟨o, p, vp, n, q, r, rfl, O, n8, h⟩ := h
    have nd := sc_mkn.nd
    have r1 : Room 1 _ := hr.mono (by decide)
    have r2 : Room 2 _ := hr.mono (by decide)
    have r5 : Room 5 _ := hr.mono (by decide)
    have r6 : Room 6 _ := hr.mono (by decide)
    obtain ⟨dx, t, m, h1, h2, h3⟩ := O.ex
    have cl := O.W.cl
    let ttt : TT := tAnd (fun σ H Q => tVar 4 σ H fun x H' => ∃ k, TruV K x H' k ∧ Q k H') (tNot (tB (tCall (spMe K) [] (fun _ _ _ => False) (tCons (tVar 4) (tCons (tVar 3) tNil)))))
    refine' ⟨_, pss_cons ?h1 (pss_cons ?h2 (pss_one ?h3)), ?hz⟩
    case h1 => exact ps_set (i := 2) nd rfl (.inl rfl) (pe_df CPt r5 (by rfl) passUp (pa_cons (pe_callB (cr_lenO LN r2 passUp) (by rfl) B.len PySem.boot_len (pa_cons (pv 0) pa_nil)) (pa_cons (pv 1) pa_nil)))
    case h2 => exact ps_set (i := 3) nd rfl (.inr rfl) (pe_df FL r6 (by rfl) passUp (pa_cons (pv 0) (pa_cons (pv 2) pa_nil)))
    case h3 =>
      refine' ps_ret (pe_callTy call_tuple_of (by rfl) B.tuple (by decide +kernel) (pa_cons (pe_lc (own := [("knot", 4)]) (g := gName 4) (tt := ttt) (te := tVar 4) rfl nd (pi_tup (pe_df FK r6 (by rfl) passUp (pa_cons (pe_fld (pv 0) rfl) (pa_cons (pv 2) pa_nil)))) (blkOk_by (N := ["order", "part", "things", "lot", "knot"]) (sc := defScope s_mkn) (by decide +kernel)) (fun _ _ _ _ _ => pg_name (i := 4) nd rfl (.inl rfl)) ?tst (fun _ _ _ _ _ => pv 4)) pa_nil))
      case tst => exact fun _ _ _ _ _ => pts_one (PW.pt (pw_and (pt_truth (pv 4) (by intro _; rfl)) (pw_and1 (pt_not (pt_val (pe_df ME r1 (by rfl) passE0 (pa_cons (pv 4) (pa_cons (pv 3) pa_nil))))))))
    case hz =>
    refine ⟨_, rfl, o, dx, _, rfl, h1, o, p, n, q, r, rfl, O, fun H1 s1 => ⟨n, rfl, by omega, _, rfl, ?_⟩⟩
    dsimp only [tNil]
    rcases h with ⟨g, hg, k⟩ | ⟨i, ⟨a, ds, e, hs, hf⟩, k⟩
    case inr => exact ⟨n, vp, rfl, by omega, .inr ⟨i, ⟨a, ds, e, hs.mono s1, hf⟩, fun H' d s' h => k H' d (s1.trans s') h⟩⟩
    obtain ⟨gup, glt⟩ := hg.up
    refine ⟨n, vp, rfl, by omega, .inl ⟨g, hg.mono s1, fun H2 t2 s2 nt2 ht2 => ?_⟩⟩
    have s02 := s1.trans s2
    refine ⟨_, rfl, _, rfl, o, p, .ref t2, n, q, r, rfl, O.mono s02, .inl ⟨g, ht2.part gup glt, fun H3 t3 l s3 nt3 ht3 lup lpm => ?_⟩⟩
    have s03 := s02.trans s3
    refine ⟨_, rfl, o, D, dx, _, _, rfl, s03 _ _ h1, T.cl, T.nw, of_web _ _ _, _, rfl, p, .ref t2, n, q, g, rfl, O.W.mono s03, n8, (ht2.mono s3).part gup glt, fun H4 t4 fr s4 ht4 fk => ?_⟩
    obtain ⟨ll, e1, e2, e3⟩ := ht4
    have fl : ll.length = fr.length := by rw [← e2, List.length_map]
    have f256 : fr.length ≤ 256 := by
      have nd : fr.Nodup := fk.up.imp fun {a b} h e => by
        rw [e] at h
        exact ltR_irr _ h
      have := len_sub (fr.map mkM) (List.range 256) (List.pairwise_map.mpr ((List.Pairwise.and_mem.mp nd).imp fun {a b} ⟨ha, hb, h⟩ e => h (by
        rw [← tlM_mk ((fk.mem a).mp ha).up, e, tlM_mk ((fk.mem b).mp hb).up]))) fun x hx => by
        obtain ⟨k, hk, rfl⟩ := List.mem_map.mp hx
        exact List.mem_range.mpr (mkM_small (k := 8) fun y hy => by have := glt y (((fk.mem k).mp hk).sub y hy); omega)
      simpa using this
    let ms : List Nat → Bool := fun k => !k.isEmpty && !(k.any fun x => decide (x ∈ l))
    refine ⟨t4, rfl, ⟨_, SqT.of e1⟩, fun L nL => ?_⟩
    refine lc_tup (K := K) (a := t4) (xs := ll.map fun z => V.ref z.1) (fun i H' => Same H4 H' ∧ KtL H' L ((fr.take i).filter ms)) ⟨same_upd nL, [], upd_same, rfl, fun z hz => by cases hz⟩ (fun i H' _ z => SqT.of (z.1 _ _ e1)) (fun i v H' hi z => ?_) (fun H5 z => ?_)
    · obtain ⟨sm, hL⟩ := z
      rw [List.getElem?_map] at hi
      cases hz : ll[i]? with
      | none => rw [hz] at hi; cases hi
      | some z =>
      rw [hz] at hi
      cases hi
      have hk : fr[i]? = some z.2 := by rw [← e2, List.getElem?_map, hz]; rfl
      have h5 := sm _ _ (e3 z (List.mem_of_getElem? hz))
      have fu := (fk.mem z.2).mp (List.mem_of_getElem? hk)
      have k8 := fu.few (fun x hx => by have := glt x hx; omega)
      have et := take_at hk
      have no : ∀ {H6}, Same H' H6 → ms z.2 = false → Same H4 H6 ∧ KtL H6 L ((fr.take (i + 1)).filter ms) := fun {H6} s' e => by
        refine ⟨sm.trans s', ?_⟩
        rw [et, List.filter_append, List.filter_cons, e, if_neg Bool.false_ne_true, List.filter_nil, List.append_nil]
        exact hL.mono s'
      refine ⟨rfl, _, rfl, _, .inr (.inl ⟨_, SqT.of h5, rfl⟩), ?_⟩
      have en : (!(nvs z.2).isEmpty) = !z.2.isEmpty := by
        cases z.2 <;> rfl
      rw [en]
      cases em : z.2.isEmpty with
      | true => exact iteF (iteF (no (.refl _) (by show (!z.2.isEmpty && _) = false; rw [em]; rfl)))
      | false =>
        refine iteT ⟨_, rfl, _, rfl, z.1, t3, z.2, l, rfl, (fun H'' s' => SqT.of (s' _ _ h5)), by omega, (fun H'' s' => SqT.of (s' _ _ (sm _ _ (s4 _ _ ht3)))), fun H6 s6 => ⟨_, rfl, ?_⟩⟩
        cases ea : z.2.any fun x => decide (x ∈ l) with
        | true => exact iteF (no s6 (by show (!z.2.isEmpty && !(z.2.any fun x => decide (x ∈ l))) = false; rw [ea, em]; rfl))
        | false =>
          have e : ms z.2 = true := by
            show (!z.2.isEmpty && !(z.2.any fun x => decide (x ∈ l))) = true
            rw [ea, em]
            rfl
          obtain ⟨ys, h6, h7, h8⟩ := (hL.mono s6).push (s6 _ _ h5)
          refine iteT ⟨_, rfl, ys, h6, ?_, same_keep nL (sm.trans s6), ?_⟩
          · rw [h7, sizeLine_eq]
            have h9 := List.length_filter_le ms (fr.take i)
            rw [List.length_take] at h9
            omega
          · rw [et, List.filter_append, List.filter_cons, e, if_pos rfl, List.filter_nil]
            exact h8
    obtain ⟨s5, hL⟩ := z
    rw [List.length_map, fl, List.take_length] at hL
    obtain ⟨l5, g1, g2, g3⟩ := hL
    refine ⟨L, _, rfl, .inl ⟨SqL.of g1, fun u nu => ?_⟩⟩
    have s6 := same_upd (o := .tup (l5.map fun z => V.ref z.1)) nu
    refine k _ u (fr.filter ms) ((s03.trans (s4.trans s5)).trans s6) ⟨l5, upd_same, g2, fun z hz => s6 _ _ (g3 z hz)⟩ ⟨fk.up.filter _, fun kk => ?_⟩
    rw [List.mem_filter, fk.mem]
    refine and_congr_right fun _ => ?_
    show (!kk.isEmpty && !(kk.any fun x => decide (x ∈ l))) = true ↔ _
    rw [Bool.and_eq_true, Bool.not_eq_true', Bool.not_eq_true', List.isEmpty_eq_false_iff, List.any_eq_false]
    refine and_congr_right fun _ => forall_congr' fun x => forall_congr' fun _ => ?_
    rw [decide_eq_true_iff, lpm.mem_iff]
/-- missed_part -/
def spMpt (K : PySem.W.Frag) (C D : Addr) : Sp := fun vs H Q _ => ∃ (o p : Addr) (n : Int) (q : List Pr) (r : List Nat), vs = [.ref o] ∧ OrdAt K C D H o p n q r ∧
  (∀ (H' : Hp) (rs : List Rw), Same H H' → IsRows n q rs → badL r rs = [] → Q .non H') ∧ (∀ (H' : Hp) (u t1 t2 : Addr) (rs l : List Rw) (a b c d : Int) (n4 n2 : List Int), Same H H' → IsRows n q rs → badL r rs = [a, b, c, d] :: l →
    H' u = some (.tup [.ref t1, .ref t2]) → H' t1 = some (.tup (n4.map V.int)) → H' t2 = some (.tup (n2.map V.int)) → n4.Perm [a, b, c, d] → n4.Pairwise (· ≤ ·) → n2.Perm [b, c] → n2.Pairwise (· ≤ ·) → Q (.ref u) H')
theorem sc_mpt : FnScope ["order", "row", "a", "b", "c", "d"] ["order"] (defScope s_mpt) := ⟨rfl, rfl, rfl, by decide +kernel, rfl, by decide +kernel, by decide +kernel⟩
theorem ok_mpt {C D : Addr} (F : Fun K "missed_part" "missed_part" s_mpt f fd) (B : Blt2 mg) (FB : Df P w K mg base "first_bad" 6 ["order"] (spFb K C D)) : FnOk P w K mg base (L2.CX P w) 7 f fd ["order"] (spMpt K C D) := by
  refine F.okX sc_mpt (fun vs H Q E h => ?_) (fun cdv A outer s H vs Q E hr h => ?_)
  · obtain ⟨o, p, n, q, r, rfl, _⟩ := h
    rfl
  · obtain ⟨o, p, n, q, r, rfl, O, k1, k2⟩ := h
    have nd := sc_mpt.nd
    refine' ⟨_, pss_cons ?h1 (pss_cons ?h2 (pss_cons ?h3 (pss_one ?h4))), ?hz⟩
    case h1 => exact ps_set (i := 1) nd rfl (.inl rfl) (pe_df FB hr (by rfl) passUp (pa_cons (pv 0) pa_nil))
    case h2 => exact ps_if (pt_cmpR op_isN (pv 1) pe_non (nomark _)) (pss_one (ps_ret pe_non)) pss_nil
    case h3 => exact ps_asg (pv 1) (pg_tup rfl (pgs_cons (pg_name (i := 2) nd rfl (.inl rfl)) (pgs_cons (pg_name (i := 3) nd rfl (.inl rfl)) (pgs_cons (pg_name (i := 4) nd rfl (.inl rfl)) (pgs_cons (pg_name (i := 5) nd rfl (.inl rfl)) pgs_nil)))))
    case h4 => exact ps_ret (pe_tup (pa_cons (pe_callTy call_tuple_of (by rfl) B.tuple (by decide +kernel) (pa_cons (pe_callB cr_sorted_itup (by rfl) B.sorted (by decide +kernel) (pa_cons (pe_tup (pa_cons (pv 2) (pa_cons (pv 3) (pa_cons (pv 4) (pa_cons (pv 5) pa_nil))))) pa_nil)) pa_nil)) (pa_cons (pe_callTy call_tuple_of (by rfl) B.tuple (by decide +kernel) (pa_cons (pe_callB cr_sorted_itup (by rfl) B.sorted (by decide +kernel) (pa_cons (pe_tup (pa_cons (pv 3) (pa_cons (pv 4) pa_nil))) pa_nil)) pa_nil)) pa_nil)))
    case hz =>
    refine ⟨_, rfl, o, p, n, q, r, rfl, O, fun H1 rs s1 is e => ?_, fun H1 t rs l z s1 is e ht => ?_⟩
    · exact ⟨_, rfl, rfl, _, rfl, iteT (k1 H1 rs s1 is e)⟩
    · have zm : z ∈ rs := by
        have : z ∈ badL r rs := by rw [e]; exact List.mem_cons_self
        exact (List.mem_filter.mp this).1
      obtain ⟨a, b, c, d, rfl, _, _⟩ := (is.mem z).mp zm
      refine ⟨_, rfl, rfl, _, rfl, iteF ⟨_, rfl, t, _, rfl, SqT.of ht, rfl, _, _, rfl, _, _, rfl, _, _, rfl, _, _, rfl, rfl, ?_⟩⟩
      refine ⟨_, rfl, _, rfl, _, rfl, _, rfl, by show 4 ≤ sizeLine; decide, fun u1 nu1 => ?_⟩
      have s2 := same_upd (o := .tup [.int a, .int b, .int c, .int d]) nu1
      refine ⟨u1, [a, b, c, d], rfl, SqT.of upd_same, by show 4 < 64; decide, fun n4 p4 pm4 srt4 np4 => ?_⟩
      have s3 := s2.trans (same_upd (o := .lst (n4.map V.int)) np4)
      refine ⟨p4, _, rfl, .inl ⟨SqL.of upd_same, fun t1 nt1 => ?_⟩⟩
      have s4 := s3.trans (same_upd (o := .tup (n4.map V.int)) nt1)
      have ht1 : (upd (upd (upd H1 u1 (.tup [.int a, .int b, .int c, .int d])) p4 (.lst (n4.map V.int))) t1 (.tup (n4.map V.int))) t1 = some (.tup (n4.map V.int)) := upd_same
      generalize upd (upd (upd H1 u1 (.tup [.int a, .int b, .int c, .int d])) p4 (.lst (n4.map V.int))) t1 (.tup (n4.map V.int)) = H2 at s4 ht1 ⊢
      refine ⟨_, rfl, _, rfl, by show 2 ≤ sizeLine; decide, fun u2 nu2 => ?_⟩
      have s5 := same_upd (o := .tup [.int b, .int c]) nu2
      refine ⟨u2, [b, c], rfl, SqT.of upd_same, by show 2 < 64; decide, fun n2 p2 pm2 srt2 np2 => ?_⟩
      have s6 := s5.trans (same_upd (o := .lst (n2.map V.int)) np2)
      refine ⟨p2, _, rfl, .inl ⟨SqL.of upd_same, fun t2 nt2 => ?_⟩⟩
      have s7 := s6.trans (same_upd (o := .tup (n2.map V.int)) nt2)
      have ht2 : (upd (upd (upd H2 u2 (.tup [.int b, .int c])) p2 (.lst (n2.map V.int))) t2 (.tup (n2.map V.int))) t2 = some (.tup (n2.map V.int)) := upd_same
      generalize upd (upd (upd H2 u2 (.tup [.int b, .int c])) p2 (.lst (n2.map V.int))) t2 (.tup (n2.map V.int)) = H3 at s7 ht2 ⊢
      refine ⟨by show 2 ≤ sizeLine; decide, fun u nu => ?_⟩
      have s8 := same_upd (o := .tup [.ref t1, .ref t2]) nu
      exact k2 _ u t1 t2 rs l a b c d n4 n2 (s1.trans (s4.trans (s7.trans s8))) is e upd_same ((s7.trans s8) _ _ ht1) (s8 _ _ ht2) pm4 srt4 pm2 srt2
end
end K0
set_option Elab.async false
set_option linter.all false
set_option maxRecDepth 100000
set_option maxHeartbeats 4000000
namespace K0
open PySem PySem.Spec PyProof.Rows L2
abbrev s_sub : Stmt := top 72
abbrev s_ful : Stmt := top 74
/-- what lies in no larger one -/
def isFull (kn : List (List Nat)) (k : List Nat) : Bool := !(kn.any fun o => decide (o.length = k.length + 1) && k.all fun x => decide (x ∈ o))
theorem fil_len2 {α : Type} {p r : α → Bool} (l : List α) : (((l.filter p).filter r).length = 0) ↔ (l.any fun x => p x && r x) = false := by
  rw [List.length_eq_zero_iff, List.filter_filter, List.filter_eq_nil_iff, List.any_eq_false]
  refine forall_congr' fun x => forall_congr' fun _ => ?_
  cases p x <;> cases r x <;> simp
/-- a list of what stands in Hs -/
def KnF (Hs H : Hp) (D : Addr) (kn : List (List Nat)) : Prop := ∃ l : List (Addr × List Nat), H D = some (.lst (l.map fun z => V.ref z.1)) ∧ l.map (·.2) = kn ∧ ∀ z ∈ l, Hs z.1 = some (.lst (nvs z.2))
theorem KnF.mono {Hs H H' : Hp} (s : Same H H') {D : Addr} {kn : List (List Nat)} : KnF Hs H D kn → KnF Hs H' D kn := fun ⟨l, h, e, p⟩ => ⟨l, s _ _ h, e, p⟩
theorem KnF.push {Hs H : Hp} {D p : Addr} {kn : List (List Nat)} {k : List Nat} (h : KnF Hs H D kn) (hp : Hs p = some (.lst (nvs k))) : ∃ ys, H D = some (.lst ys) ∧ ys.length = kn.length ∧ KnF Hs (upd H D (.lst (ys ++ [.ref p]))) D (kn ++ [k]) := by
  obtain ⟨l, h1, h2, h3⟩ := h
  refine ⟨_, h1, by rw [List.length_map, ← h2, List.length_map], l ++ [(p, k)], by rw [upd_same, List.map_append]; rfl, by rw [List.map_append, h2]; rfl, fun z hz => ?_⟩
  rcases List.mem_append.mp hz with hz | hz
  · exact h3 z hz
  · rw [List.mem_singleton.mp hz]
    exact hp
section
variable {P : Program} {w : World} {K : PySem.W.Frag} {mg : Str → Option Value} {base : Heap} {f : Addr} {fd : FuncData}
/-- _law_subsets -/
def spSub : Sp := fun vs H Q _ => ∃ (n : Nat), vs = [.int (n : Int)] ∧ n ≤ 8 ∧ ∀ H' D kn, Same H H' → H D = none → KnH H' D kn → (∀ k ∈ kn, k.Pairwise (· < ·) ∧ ∀ x ∈ k, x < n) → kn.length ≤ 256 → Q (.ref D) H'
abbrev subN : List Str := ["_law_many", "_law_rows", "_law_x", "_law_row_here"]
theorem sc_sub : FnScope subN ["_law_many"] (defScope s_sub) := ⟨rfl, rfl, rfl, by decide +kernel, rfl, by decide +kernel, by decide +kernel⟩
theorem ok_sub (F : Fun K "_law_subsets" "_law_subsets" s_sub f fd) (B : Blt2 mg) : FnOk P w K mg base (L2.CX P w) 1 f fd ["_law_many"] spSub := by
  refine F.okX sc_sub (fun vs H Q E h => ?_) (fun cdv A outer s H vs Q E hr h => ?_)
  · obtain ⟨n, rfl, _⟩ := h
    rfl
  · obtain ⟨n, rfl, n8, k⟩ := h
    have nd := sc_sub.nd
    refine' ⟨_, pss_cons ?h1 (pss_cons (ps_for (passes_of rfl) rfl (pi_range1 (by rfl) B.range (pa_cons (pv 0) pa_nil)) (pg_name (i := 2) nd rfl (.inr rfl)) (pss_one ?h2)) (pss_one (ps_ret (pv 1)))), ?hz⟩
    case h1 => exact ps_set (i := 1) nd rfl (.inl rfl) (pe_lst (pa_cons (pe_lst pa_nil) pa_nil))
    case h2 => exact ps_set (i := 1) nd rfl (.inl rfl) (pe_op op_cat (pv 1) (pe_lc (own := [("_law_row_here", 3)]) (g := gName 3) (tt := tYes) (te := tOp rCat (tVar 3) (tLst (tCons (tVar 2) tNil))) rfl nd (pi_list (pv 1)) (blkOk_by (N := subN) (sc := defScope s_sub) (by decide +kernel)) (fun _ _ _ _ _ => pg_name (i := 3) nd rfl (.inl rfl)) (fun _ _ _ _ _ => pts_nil) (fun _ _ _ _ _ => pe_op op_cat (pv 3) (pe_lst (pa_cons (pv 2) pa_nil)))))
    case hz =>
    refine ⟨by show 0 ≤ sizeLine; decide, fun e0 ne0 => ⟨by show 1 ≤ sizeLine; decide, fun D0 nD0 => ?_⟩⟩
    have s1 : Same H (upd H e0 (.lst [])) := same_upd ne0
    have s2 := s1.trans (same_upd (o := .lst [.ref e0]) nD0)
    have d0 : D0 ≠ e0 := fun e => by rw [e, upd_same] at nD0; cases nD0
    let Pv : Nat → L2.St → Hp → Prop := fun i σ H' => ∃ D o2 kn, σ = [some (.int (n : Int)), some (.ref D), o2, none] ∧ Same H H' ∧ H D = none ∧ KnH H' D kn ∧ (∀ k ∈ kn, k.Pairwise (· < ·) ∧ ∀ x ∈ k, x < i) ∧ kn.length ≤ 2 ^ i
    refine ⟨_, rfl, n, rfl, by omega, by omega, ?_⟩
    rw [Int.toNat_natCast]
    refine for_range (n := n) Pv ⟨D0, none, [[]], rfl, s2, s1.free nD0, ⟨[(e0, [])], upd_same, rfl, fun z hz => ?_⟩, fun k hk => ?_, Nat.le_refl _⟩ (fun i σ H1 hi h => ?_) (fun σ H1 h => ?_)
    · rw [List.mem_singleton.mp hz]
      show (upd _ _ _) e0 = _
      rw [upd_ne (Ne.symm d0), upd_same]
      rfl
    · rw [List.mem_singleton.mp hk]
      exact ⟨.nil, fun x hx => by cases hx⟩
    · obtain ⟨D, o2, kn, rfl, t1, hDn, hD, snd, few⟩ := h
      rw [Int.zero_add]
      obtain ⟨l, hl1, hl2, hl3⟩ := id hD
      have kl : kn.length ≤ 256 := by
        have h2 : 2 ^ i ≤ 2 ^ 8 := Nat.pow_le_pow_right (by decide) (by omega)
        omega
      have ll : l.length = kn.length := by rw [← hl2, List.length_map]
      refine ⟨_, rfl, _, rfl, D, rfl, ⟨_, SqL.of hl1⟩, fun D2 nD2 => ?_⟩
      refine lc_list (K := K) (a := D) (xs := l.map fun z => V.ref z.1) (fun j H' => Same H1 H' ∧ KnH H' D2 ((kn.take j).map (· ++ [i]))) ⟨same_upd nD2, [], upd_same, rfl, fun z hz => by cases hz⟩ (fun j H' _ z => SqL.of (z.1 _ _ hl1)) (fun j v H' hj z => ?_) (fun H' z => ?_)
      · obtain ⟨sm, kg⟩ := z
        rw [List.getElem?_map] at hj
        cases hz : l[j]? with
        | none => rw [hz] at hj; cases hj
        | some z =>
        rw [hz] at hj
        cases hj
        have kj : kn[j]? = some z.2 := by rw [← hl2, List.getElem?_map, hz]; rfl
        have hk0 := sm _ _ (hl3 _ (List.mem_of_getElem? hz))
        have kil : z.2.length ≤ 8 := by
          obtain ⟨u1, u2⟩ := snd _ (List.mem_of_getElem? kj)
          have := up_few u1 u2
          omega
        refine ⟨rfl, _, rfl, _, rfl, by show 1 ≤ sizeLine; decide, fun u nu => ?_⟩
        have t4 : Same H' (upd H' u (.lst [.int (i : Int)])) := same_upd nu
        refine ⟨z.1, u, nvs z.2, _, rfl, rfl, t4 _ _ hk0, upd_same, ?_, fun p np => ?_⟩
        · rw [nvs_len, sizeLine_eq]
          show _ + 1 ≤ _
          omega
        · have t5 := t4.trans (same_upd (o := .lst (nvs z.2 ++ [.int (i : Int)])) np)
          have kg5 := kg.mono t5
          have pD : p ≠ D2 := fun ee => by
            obtain ⟨l2, h2, _⟩ := kg.mono t4
            rw [ee, h2] at np
            cases np
          obtain ⟨ys, hy, ly, kg6⟩ := kg5.push (p := p) (k := z.2 ++ [i]) (by rw [upd_same]; unfold nvs; rw [List.map_append]; rfl) pD
          refine ⟨ys, hy, ?_, same_keep nD2 (sm.trans t5), ?_⟩
          · rw [ly, List.length_map, List.length_take, sizeLine_eq]
            omega
          · rw [take_at kj, List.map_append]
            exact kg6
      · obtain ⟨sm, l2, h1, h2, h3⟩ := z
        rw [List.length_map, ll, List.take_length] at h2
        have l2l : l2.length = kn.length := by
          have := congrArg List.length h2
          rw [List.length_map, List.length_map] at this
          exact this
        refine ⟨D, D2, _, _, rfl, rfl, sm _ _ hl1, h1, ?_, fun p np => ?_⟩
        · rw [List.length_map, List.length_map, sizeLine_eq]
          omega
        · have t6 := same_upd (o := .lst (l.map (fun z => V.ref z.1) ++ l2.map fun z => V.ref z.1)) np
          refine ⟨p, _, kn ++ kn.map (· ++ [i]), rfl, t1.trans (sm.trans t6), (t1.trans sm).free np, ⟨l ++ l2, by rw [upd_same, List.map_append], by rw [List.map_append, hl2, h2], fun z hz => ?_⟩, fun k hk => ?_, ?_⟩
          · rcases List.mem_append.mp hz with hz | hz
            · exact t6 _ _ (sm _ _ (hl3 z hz))
            · exact t6 _ _ (h3 z hz)
          · rcases List.mem_append.mp hk with hk | hk
            · obtain ⟨u1, u2⟩ := snd k hk
              exact ⟨u1, fun x hx => Nat.lt_succ_of_lt (u2 x hx)⟩
            · obtain ⟨k', hk', rfl⟩ := List.mem_map.mp hk
              obtain ⟨u1, u2⟩ := snd k' hk'
              refine ⟨List.pairwise_append.mpr ⟨u1, List.pairwise_singleton _ _, fun a ha b hb => by rw [List.mem_singleton.mp hb]; exact u2 a ha⟩, fun x hx => ?_⟩
              rcases List.mem_append.mp hx with hx | hx
              · exact Nat.lt_succ_of_lt (u2 x hx)
              · rw [List.mem_singleton.mp hx]
                omega
          · rw [List.length_append, List.length_map, Nat.pow_succ]
            omega
    · obtain ⟨D, o2, kn, rfl, t1, hDn, hD, snd, few⟩ := h
      have h2 : 2 ^ n ≤ 2 ^ 8 := Nat.pow_le_pow_right (by decide) (by omega)
      exact ⟨_, rfl, k H1 D kn t1 hDn hD snd (by omega)⟩
/-- _law_full -/
def spFul : Sp := fun vs H Q _ => ∃ (S : Addr) (kn : List (List Nat)) (Hs : Hp), vs = [.ref S] ∧ Same Hs H ∧ KnH Hs S kn ∧ kn.length ≤ 256 ∧ (∀ k ∈ kn, k.length ≤ 8) ∧ ∀ H' F, Same H H' → H F = none → KnF Hs H' F (kn.filter (isFull kn)) → Q (.ref F) H'
abbrev fulN : List Str := ["_law_sets", "_law_full_here", "_law_one", "_law_bigger", "_law_other", "_law_x"]
theorem sc_ful : FnScope fulN ["_law_sets"] (defScope s_ful) := ⟨rfl, rfl, rfl, by decide +kernel, rfl, by decide +kernel, by decide +kernel⟩
theorem ok_ful (F : Fun K "_law_full" "_law_full" s_ful f fd) (B : Blt2 mg) : FnOk P w K mg base (L2.CX P w) 1 f fd ["_law_sets"] spFul := by
  refine F.okX sc_ful (fun vs H Q E h => ?_) (fun cdv A outer s H vs Q E hr h => ?_)
  · obtain ⟨S, kn, Hs, rfl, _⟩ := h
    rfl
  · obtain ⟨S, kn, Hs, rfl, sH, hS, kl, k8, k⟩ := h
    have nd := sc_ful.nd
    let ttI : TT := tTest (tOp (rIn K false) (tVar 5) (tVar 4))
    let teI : TE := tLc (iList K (tVar 2)) (gName 5) ttI (tVar 5) [5]
    refine' ⟨_, pss_cons ?h1 (pss_cons (ps_for (passes_of rfl) rfl (pi_list (pv 0)) (pg_name (i := 2) nd rfl (.inr rfl)) (pss_cons ?h2 (pss_one (ps_if ?h3 (pss_one (ps_expr (pe_lapp (pv 1) (pa_cons (pv 2) pa_nil)))) pss_nil)))) (pss_one (ps_ret (pv 1)))), ?hz⟩
    case h1 => exact ps_set (i := 1) nd rfl (.inl rfl) (pe_lst pa_nil)
    case h2 =>
      refine' ps_setLc (i := 3) (own := [("_law_other", 4)]) (g := gName 4) (tt := tTest (tOp rEq (tCB (rLenI K) (tCons (tVar 4) tNil)) (tOp (rI0 fun i j => .int (i + j)) (tCB (rLenI K) (tCons (tVar 2) tNil)) (tC (.int 1))))) (te := tVar 4) rfl nd rfl ?w1 ?w2 ?w3 ?w4 ?w5 ?w6 ?w7
      case w1 => rfl
      case w2 => rfl
      case w3 => exact pi_list (pv 0)
      case w4 => exact blkOk_by (N := fulN) (sc := defScope s_ful) (by decide +kernel)
      case w5 => exact fun _ _ _ _ _ => pg_name (i := 4) nd rfl (.inl rfl)
      case w6 => exact fun _ _ _ _ _ => pts_one (pt_cmpR op_eq (pe_callB c_len (by rfl) B.len PySem.boot_len (pa_cons (pv 4) pa_nil)) (pe_op op_add (pe_callB c_len (by rfl) B.len PySem.boot_len (pa_cons (pv 2) pa_nil)) pe_int) (nomark _))
      case w7 => exact fun _ _ _ _ _ => pv 4
    case h3 =>
      refine' pt_cmpR op_eq (pe_callB c_len (by rfl) B.len PySem.boot_len (pa_cons (pe_lc (own := [("_law_other", 4)]) (g := gName 4) (tt := tTest (tOp rEq (tCB (rLenI K) (tCons teI tNil)) (tCB (rLenI K) (tCons (tVar 2) tNil)))) (te := tVar 4) rfl nd (pi_list (pv 3)) (blkOk_by (N := fulN) (sc := defScope s_ful) (by decide +kernel)) (fun _ _ _ _ _ => pg_name (i := 4) nd rfl (.inr rfl)) ?tst (fun _ _ _ _ _ => pv 4)) pa_nil)) pe_int (nomark _)
      case tst => exact fun _ _ _ _ _ => pts_one (pt_cmpR op_eq (pe_callB c_len (by rfl) B.len PySem.boot_len (pa_cons (pe_lc (own := [("_law_x", 5)]) (g := gName 5) (tt := ttI) (te := tVar 5) rfl nd (pi_list (pv 2)) (blkOk_in (N := fulN) (by decide +kernel)) (fun _ _ _ _ _ => pg_name (i := 5) nd rfl (.inl rfl)) (fun _ _ _ _ _ => pts_one (pt_cmpR op_in_seq (pv 5) (pv 4) (by rfl))) (fun _ _ _ _ _ => pv 5)) pa_nil)) (pe_callB c_len (by rfl) B.len PySem.boot_len (pa_cons (pv 2) pa_nil)) (by rfl))
    case hz =>
    obtain ⟨l, hl1s, hl2, hl3s⟩ := id hS
    have hl1 := sH _ _ hl1s
    have hl3 : ∀ z ∈ l, H z.1 = some (.lst (nvs z.2)) := fun z hz => sH _ _ (hl3s z hz)
    have ll : l.length = kn.length := by rw [← hl2, List.length_map]
    refine ⟨by show 0 ≤ sizeLine; decide, fun F0 nF => ?_⟩
    have fS : ∀ {z : Addr} {o : HO}, H z = some o → z ≠ F0 := fun h e => by rw [e, nF] at h; cases h
    let Pv : Nat → L2.St → Hp → Prop := fun i σ H' => ∃ o2 o3, σ = [some (.ref S), some (.ref F0), o2, o3, none, none] ∧ Same H H' ∧ KnF Hs H' F0 ((kn.take i).filter (isFull kn))
    refine ⟨_, rfl, S, rfl, ⟨_, SqL.of (same_upd nF _ _ hl1)⟩, for_list (K := K) (a := S) (xs := l.map fun z => V.ref z.1) Pv ⟨none, none, rfl, same_upd nF, [], upd_same, rfl, fun z hz => by cases hz⟩ (fun i σ H' _ h => ?_) (fun i v σ H1 hi h => ?_) (fun σ H1 h => ?_)⟩
    · obtain ⟨_, _, _, sm, _⟩ := h
      exact SqL.of (sm _ _ hl1)
    · obtain ⟨o2, o3, rfl, sm, hF⟩ := h
      rw [List.getElem?_map] at hi
      cases hz : l[i]? with
      | none => rw [hz] at hi; cases hi
      | some z =>
      rw [hz] at hi
      cases hi
      have hk : kn[i]? = some z.2 := by rw [← hl2, List.getElem?_map, hz]; rfl
      have hz0 := hl3 z (List.mem_of_getElem? hz)
      have hz1 := sm _ _ hz0
      let big : List Nat → Bool := fun o => decide (o.length = z.2.length + 1)
      have hl1' := sm _ _ hl1
      refine ⟨_, rfl, S, rfl, ⟨_, SqL.of hl1'⟩, fun G nG => ?_⟩
      refine lc_list (K := K) (a := S) (xs := l.map fun z => V.ref z.1) (fun j H' => Same H1 H' ∧ KnF Hs H' G ((kn.take j).filter big)) ⟨same_upd nG, [], upd_same, rfl, fun z hz => by cases hz⟩ (fun j H' _ z => SqL.of (z.1 _ _ hl1')) (fun j v H' hj y => ?_) (fun H2 y => ?_)
      · obtain ⟨sm', hG⟩ := y
        rw [List.getElem?_map] at hj
        cases hy : l[j]? with
        | none => rw [hy] at hj; cases hj
        | some y =>
        rw [hy] at hj
        cases hj
        have hkj : kn[j]? = some y.2 := by rw [← hl2, List.getElem?_map, hy]; rfl
        have hy1 := sm' _ _ (sm _ _ (hl3 y (List.mem_of_getElem? hy)))
        have et := take_at hkj
        refine ⟨rfl, _, rfl, y.1, _, rfl, .inl (SqL.of hy1), _, rfl, z.1, _, rfl, .inl (SqL.of (sm' _ _ hz1)), _, _, rfl, rfl, rfl, _, rfl, ?_⟩
        rw [dec_int]
        have eb : ((((nvs y.2).length : Nat) : Int) == (((nvs z.2).length : Nat) : Int) + 1) = big y.2 := by
          rw [nvs_len, nvs_len, Bool.eq_iff_iff, beq_iff_eq, decide_eq_true_iff]
          omega
        rw [eb]
        cases e : big y.2 with
        | false =>
          refine iteF ⟨sm', ?_⟩
          rw [et, List.filter_append, List.filter_cons, e, if_neg Bool.false_ne_true, List.filter_nil, List.append_nil]
          exact hG
        | true =>
          have yG : y.1 ≠ G := fun ee => by
            have := sm _ _ (hl3 y (List.mem_of_getElem? hy))
            rw [ee, nG] at this
            cases this
          obtain ⟨ys, h6, h7, h8⟩ := hG.push (hl3s y (List.mem_of_getElem? hy))
          refine iteT ⟨_, rfl, ys, h6, ?_, same_keep nG sm', ?_⟩
          · rw [h7, sizeLine_eq]
            have h9 := List.length_filter_le big (kn.take j)
            rw [List.length_take] at h9
            omega
          · rw [et, List.filter_append, List.filter_cons, e, if_pos rfl, List.filter_nil]
            exact h8
      obtain ⟨s2, hG⟩ := y
      rw [List.length_map, ll, List.take_length] at hG
      obtain ⟨lb, b1, b2, b3⟩ := id hG
      have lbl : lb.length = (kn.filter big).length := by rw [← b2, List.length_map]
      have lb256 : lb.length ≤ 256 := by
        have := List.length_filter_le big kn
        omega
      have hz2 := s2 _ _ hz1
      have z8 := k8 _ (List.mem_of_getElem? hk)
      let sup : List Nat → Bool := fun o => z.2.all fun x => decide (x ∈ o)
      refine ⟨_, rfl, G, rfl, ⟨_, SqL.of b1⟩, fun M nM => ?_⟩
      refine lc_list (K := K) (a := G) (xs := lb.map fun z => V.ref z.1) (fun j H' => Same H2 H' ∧ KnF Hs H' M (((kn.filter big).take j).filter sup)) ⟨same_upd nM, [], upd_same, rfl, fun z hz => by cases hz⟩ (fun j H' _ z => SqL.of (z.1 _ _ b1)) (fun j v H' hj y => ?_) (fun H3 y => ?_)
      · obtain ⟨sm', hM⟩ := y
        rw [List.getElem?_map] at hj
        cases hy : lb[j]? with
        | none => rw [hy] at hj; cases hj
        | some y =>
        rw [hy] at hj
        cases hj
        have hkj : (kn.filter big)[j]? = some y.2 := by rw [← b2, List.getElem?_map, hy]; rfl
        have hy2s := b3 y (List.mem_of_getElem? hy)
        have hy2 := s2 _ _ (sm _ _ (sH _ _ hy2s))
        have hy1 := sm' _ _ hy2
        have hz3 := sm' _ _ hz2
        have et := take_at hkj
        refine ⟨rfl, _, rfl, z.1, rfl, ⟨_, SqL.of hz3⟩, fun X nX => ?_⟩
        refine lc_list (K := K) (a := z.1) (xs := nvs z.2) (FilI H' X z.2 fun x => decide (x ∈ y.2)) (FilI.start nX) (fun i H' _ z => SqL.of (z.1 _ _ hz3)) (fun i2 v H4 hi2 fz => ?_) (fun H4 fz => ?_)
        · obtain ⟨x, hx, rfl⟩ := nvs_get hi2
          refine ⟨rfl, _, rfl, _, rfl, y.1, _, rfl, .inl (SqL.of (fz.1 _ _ hy1)), rfl, nvs_flat _, _, rfl, ?_⟩
          rw [if_neg Bool.false_ne_true, inV_nvs]
          cases e : decide (x ∈ y.2) with
          | false => exact iteF (fz.no hx e (.refl _))
          | true => exact iteT ⟨_, rfl, fz.yes nX (by omega) hx e (.refl _)⟩
        · obtain ⟨s4, hX⟩ := fz.fin
          refine ⟨X, _, rfl, .inl (SqL.of hX), _, rfl, z.1, _, rfl, .inl (SqL.of (s4 _ _ hz3)), rfl, _, rfl, ?_⟩
          rw [dec_int]
          have eb : ((((nvs (z.2.filter fun x => decide (x ∈ y.2))).length : Nat) : Int) == (((nvs z.2).length : Nat) : Int)) = sup y.2 := by
            show _ = z.2.all _
            rw [← all_len, nvs_len, nvs_len, Bool.eq_iff_iff, beq_iff_eq, decide_eq_true_iff]
            omega
          rw [eb]
          cases e : sup y.2 with
          | false =>
            refine iteF ⟨sm'.trans s4, ?_⟩
            rw [et, List.filter_append, List.filter_cons, e, if_neg Bool.false_ne_true, List.filter_nil, List.append_nil]
            exact hM.mono s4
          | true =>
            have yM : y.1 ≠ M := fun ee => by
              rw [ee, nM] at hy2
              cases hy2
            obtain ⟨ys, h6, h7, h8⟩ := (hM.mono s4).push hy2s
            refine iteT ⟨_, rfl, ys, h6, ?_, same_keep nM (sm'.trans s4), ?_⟩
            · rw [h7, sizeLine_eq]
              have h9 := List.length_filter_le sup ((kn.filter big).take j)
              rw [List.length_take] at h9
              omega
            · rw [et, List.filter_append, List.filter_cons, e, if_pos rfl, List.filter_nil]
              exact h8
      obtain ⟨s3, lm, m1, m2, m3⟩ := y
      rw [List.length_map, lbl, List.take_length] at m2
      have lml : lm.length = ((kn.filter big).filter sup).length := by rw [← m2, List.length_map]
      refine ⟨M, _, rfl, .inl (SqL.of m1), rfl, _, rfl, ?_⟩
      rw [dec_int]
      have ef : ((((lm.map fun z => V.ref z.1).length : Nat) : Int) == 0) = isFull kn z.2 := by
        rw [List.length_map, lml]
        have h := fil_len2 (p := big) (r := sup) kn
        show _ = !(kn.any fun o => big o && sup o)
        cases e : kn.any fun o => big o && sup o with
        | false =>
          rw [h.mpr e]
          rfl
        | true =>
          have : ((kn.filter big).filter sup).length ≠ 0 := fun z => by
            rw [h.mp z] at e
            cases e
          rw [beq_eq_false_iff_ne.mpr (by omega)]
          rfl
      rw [ef]
      have s13 := s2.trans s3
      have hF3 := hF.mono s13
      have et := take_at hk
      cases e : isFull kn z.2 with
      | false =>
        refine iteF ⟨_, _, rfl, sm.trans s13, ?_⟩
        rw [et, List.filter_append, List.filter_cons, e, if_neg Bool.false_ne_true, List.filter_nil, List.append_nil]
        exact hF3
      | true =>
        obtain ⟨ys, h6, h7, h8⟩ := hF3.push (hl3s z (List.mem_of_getElem? hz))
        refine iteT ⟨_, rfl, .inl ⟨rfl, _, SqL.of h6⟩, _, rfl, F0, _, _, rfl, rfl, h6, ?_, ?_⟩
        · rw [h7, sizeLine_eq]
          have h9 := List.length_filter_le (isFull kn) (kn.take i)
          rw [List.length_take] at h9
          omega
        · refine ⟨_, _, rfl, same_keep nF (sm.trans s13), ?_⟩
          rw [et, List.filter_append, List.filter_cons, e, if_pos rfl, List.filter_nil]
          exact h8
    · obtain ⟨o2, o3, rfl, sm, hF⟩ := h
      rw [List.length_map, ll, List.take_length] at hF
      exact ⟨_, rfl, k H1 F0 sm nF hF⟩
end
end K0
set_option Elab.async false
set_option linter.all false
set_option maxRecDepth 100000
set_option maxHeartbeats 4000000
namespace K0
open PySem PySem.Spec PyProof.Rows L2
abbrev s_fof : Stmt := top 77
/-! ### the full knots of a part by places -/
def mpG (g k : List Nat) : List Nat := k.map fun x => g.getD x 0
structure RelQ (q q' : List Pr) (g : List Nat) : Prop where
  has : ∀ i j : Nat, i < g.length → j < g.length → i ≠ j → hasP q' i j = hasP q (g.getD i 0) (g.getD j 0)
theorem getD_lt {g : List Nat} (up : g.Pairwise (· < ·)) {i j : Nat} (hj : j < g.length) (h : i < j) : g.getD i 0 < g.getD j 0 := by
  have hi : i < g.length := by omega
  rw [List.getD_eq_getElem?_getD, List.getD_eq_getElem?_getD, List.getElem?_eq_getElem hi, List.getElem?_eq_getElem hj]
  exact List.pairwise_iff_getElem.mp up i j hi hj h
theorem getD_memG {g : List Nat} {i : Nat} (h : i < g.length) : g.getD i 0 ∈ g := by
  rw [List.getD_eq_getElem?_getD, List.getElem?_eq_getElem h]
  exact List.getElem_mem h
theorem getD_inj {g : List Nat} (up : g.Pairwise (· < ·)) {i j : Nat} (hi : i < g.length) (hj : j < g.length) (e : g.getD i 0 = g.getD j 0) : i = j := by
  rcases Nat.lt_trichotomy i j with h | h | h
  · have := getD_lt up hj h
    omega
  · exact h
  · have := getD_lt up hi h
    omega
theorem mem_getD {g : List Nat} {y : Nat} (h : y ∈ g) : ∃ i, i < g.length ∧ g.getD i 0 = y := by
  obtain ⟨i, hi, e⟩ := List.mem_iff_getElem.mp h
  refine ⟨i, hi, ?_⟩
  rw [List.getD_eq_getElem?_getD, List.getElem?_eq_getElem hi]
  exact e
theorem rel_of {n : Nat} {q q' : List Pr} {g : List Nat} {ts : List Int} (cl : Cl (n : Int) q) (up : g.Pairwise (· < ·)) (ets : ts = g.map fun (k : Nat) => (k : Int)) (lx : Lx ts.length (fun z => ((ts.getD z.1.toNat 0, ts.getD z.2.toNat 0) : Pr) ∈ q) ts.length (ts.length + 1) q') : RelQ q q' g := by
  have lm := lx.fin
  have lt : ts.length = g.length := by rw [ets, List.length_map]
  have at' : ∀ i, i < g.length → ts.getD i 0 = ((g.getD i 0 : Nat) : Int) := fun i hi => by
    rw [ets, List.getD_eq_getElem?_getD, List.getD_eq_getElem?_getD, List.getElem?_map, List.getElem?_eq_getElem hi]
    rfl
  have one : ∀ i j : Nat, j < g.length → i < j → hasP q' i j = hasP q (g.getD i 0) (g.getD j 0) := fun i j hj h => by
    have hg := getD_lt up hj h
    have a1 : ((i : Int), (j : Int)) ∈ q' ↔ (((g.getD i 0 : Nat) : Int), ((g.getD j 0 : Nat) : Int)) ∈ q := by
      rw [lm]
      show _ ∧ ((ts.getD (i : Int).toNat 0, ts.getD (j : Int).toNat 0) : Pr) ∈ q ↔ _
      rw [Int.toNat_natCast, Int.toNat_natCast, at' i (by omega), at' j hj]
      exact ⟨fun z => z.2, fun z => ⟨⟨by show (0 : Int) ≤ i; omega, by show (i : Int) < j; omega, by show (j : Int) < ts.length; omega⟩, z⟩⟩
    have a2 : ((j : Int), (i : Int)) ∉ q' := fun z => by
      have h5 : (j : Int) < i := ((lm _).mp z).1.2.1
      omega
    have a3 : (((g.getD j 0 : Nat) : Int), ((g.getD i 0 : Nat) : Int)) ∉ q := fun z => by
      have h5 : ((g.getD j 0 : Nat) : Int) < ((g.getD i 0 : Nat) : Int) := (cl.rng _ z).2.1
      omega
    unfold hasP
    rw [decide_eq_false a2, decide_eq_false a3, Bool.or_false, Bool.or_false]
    exact decide_eq_decide.mpr a1
  refine ⟨fun i j hi hj ne => ?_⟩
  rcases Nat.lt_or_gt_of_ne ne with h | h
  · exact one i j hj h
  · rw [hasP_sym q', hasP_sym q]
    exact one j i hi h
theorem mpG_up {g k : List Nat} (up : g.Pairwise (· < ·)) (ku : k.Pairwise (· < ·)) (kl : ∀ x ∈ k, x < g.length) : (mpG g k).Pairwise (· < ·) := by
  unfold mpG
  rw [List.pairwise_map]
  exact List.Pairwise.imp_of_mem (fun {a b} ha hb h => getD_lt up (kl b hb) h) ku
theorem full_by {q q' : List Pr} {g : List Nat} {kn : List (List Nat)} (irr : ∀ x, hasP q x x = false) (up : g.Pairwise (· < ·)) (rel : RelQ q q' g) (ks : KnS g.length q' kn) (K : List Nat) : (∃ k ∈ kn.filter (isFull kn), mpG g k = K) ↔ FullIn q g K := by
  constructor
  · rintro ⟨k, hk, rfl⟩
    obtain ⟨hk1, hk2⟩ := List.mem_filter.mp hk
    have gd := ks.good hk1
    have mem : ∀ {y}, y ∈ mpG g k ↔ ∃ i ∈ k, g.getD i 0 = y := fun {y} => List.mem_map
    refine ⟨mpG_up up gd.up gd.lt, fun x hx => ?_, fun x hx y hy ne => ?_, fun y hy hn => Classical.byContradiction fun no => ?_⟩
    · obtain ⟨i, hi, rfl⟩ := mem.mp hx
      exact getD_memG (gd.lt i hi)
    · obtain ⟨i, hi, rfl⟩ := mem.mp hx
      obtain ⟨j, hj, rfl⟩ := mem.mp hy
      have ij : i ≠ j := fun e => ne (by rw [e])
      rw [← rel.has i j (gd.lt i hi) (gd.lt j hj) ij]
      exact gd.kn i hi j hj ij
    · obtain ⟨i, hi, rfl⟩ := mem_getD hy
      have ik : i ∉ k := fun z => hn (mem.mpr ⟨i, z, rfl⟩)
      have all : ∀ j ∈ k, hasP q' j i = true := fun j hj => by
        have ji : j ≠ i := fun e => ik (e ▸ hj)
        rw [rel.has j i (gd.lt j hj) hi ji]
        cases e : hasP q (g.getD j 0) (g.getD i 0) with
        | true => rfl
        | false => exact absurd ⟨_, mem.mpr ⟨j, hj, rfl⟩, e⟩ no
      have mb : ∀ x, (mkM (i :: k)).testBit x = true ↔ x = i ∨ x ∈ k := fun x => by
        rw [mkM_bit, decide_eq_true_iff, List.mem_cons]
      have ho := ks.all (mkM (i :: k)) (fun x y hx hy ne => by
        rcases (mb x).mp hx with e1 | hx1
        · rcases (mb y).mp hy with e2 | hy1
          · exact absurd (e1.trans e2.symm) ne
          · rw [hasP_sym, e1]
            exact all y hy1
        · rcases (mb y).mp hy with e2 | hy1
          · rw [e2]
            exact all x hx1
          · exact gd.kn x hx1 y hy1 ne) (fun y hy => by
        rcases (mb y).mp hy with rfl | hy
        · exact hi
        · exact gd.lt y hy)
      have pm : (bitsOf g.length (mkM (i :: k))).Perm (i :: k) := (List.perm_ext_iff_of_nodup (show (bitsOf g.length (mkM (i :: k))).Nodup from List.Pairwise.filter _ List.nodup_range) (List.nodup_cons.mpr ⟨ik, gd.up.imp fun h => Nat.ne_of_lt h⟩)).mpr fun x => by
        rw [mem_bits, mb, List.mem_cons]
        refine ⟨fun h => h.2, fun h => ⟨?_, h⟩⟩
        rcases h with rfl | h
        · exact hi
        · exact gd.lt x h
      have : isFull kn k = false := by
        unfold isFull
        rw [Bool.not_eq_false', List.any_eq_true]
        refine ⟨_, ho, ?_⟩
        rw [Bool.and_eq_true, decide_eq_true_iff, pm.length_eq]
        exact ⟨rfl, List.all_eq_true.mpr fun x hx => decide_eq_true (pm.mem_iff.mpr (List.mem_cons_of_mem _ hx))⟩
      rw [this] at hk2
      cases hk2
  · intro h
    let ix : List Nat := (List.range g.length).filter fun i => decide (g.getD i 0 ∈ K)
    have mi : ∀ {i}, i ∈ ix ↔ i < g.length ∧ g.getD i 0 ∈ K := fun {i} => by
      show i ∈ List.filter _ _ ↔ _
      rw [List.mem_filter, List.mem_range, decide_eq_true_iff]
    have ixu : ix.Pairwise (· < ·) := List.Pairwise.filter _ List.pairwise_lt_range
    have mb : ∀ x, (mkM ix).testBit x = true ↔ x ∈ ix := fun x => by rw [mkM_bit, decide_eq_true_iff]
    have eb : bitsOf g.length (mkM ix) = ix := asc_uniq (List.Pairwise.filter _ List.pairwise_lt_range) ixu fun x => by
      rw [mem_bits, mb]
      exact ⟨fun h => h.2, fun h => ⟨(mi.mp h).1, h⟩⟩
    have hin := ks.all (mkM ix) (fun x y hx hy ne => by
      obtain ⟨x1, x2⟩ := mi.mp ((mb x).mp hx)
      obtain ⟨y1, y2⟩ := mi.mp ((mb y).mp hy)
      rw [rel.has x y x1 y1 ne]
      exact h.kn _ x2 _ y2 fun e => ne (getD_inj up x1 y1 e)) (fun y hy => (mi.mp ((mb y).mp hy)).1)
    rw [eb] at hin
    refine ⟨ix, List.mem_filter.mpr ⟨hin, ?_⟩, asc_uniq (mpG_up up ixu fun x hx => (mi.mp hx).1) h.up fun y => ?_⟩
    · unfold isFull
      rw [Bool.not_eq_true', List.any_eq_false]
      intro o ho z
      rw [Bool.and_eq_true, decide_eq_true_iff, List.all_eq_true] at z
      obtain ⟨z1, z2⟩ := z
      have og := ks.good ho
      have ndo : o.Nodup := og.up.imp fun h => Nat.ne_of_lt h
      obtain ⟨i, hio, hik⟩ : ∃ i ∈ o, i ∉ ix := Classical.byContradiction fun no => by
        have := len_sub o ix ndo fun x hx => Classical.byContradiction fun c => no ⟨x, hx, c⟩
        omega
      have il := og.lt i hio
      obtain ⟨x, hx, e⟩ := h.mx (g.getD i 0) (getD_memG il) fun c => hik (mi.mpr ⟨il, c⟩)
      obtain ⟨j, hj, rfl⟩ := mem_getD (h.sub x hx)
      have jo := of_decide_eq_true (z2 j (mi.mpr ⟨hj, hx⟩))
      have ji : j ≠ i := fun c => hik (c ▸ mi.mpr ⟨hj, hx⟩)
      have := og.kn j jo i hio ji
      rw [rel.has j i hj il ji, e] at this
      cases this
    · show y ∈ List.map _ _ ↔ _
      rw [List.mem_map]
      constructor
      · rintro ⟨i, hi, rfl⟩
        exact (mi.mp hi).2
      · intro hy
        obtain ⟨i, hi, rfl⟩ := mem_getD (h.sub y hy)
        exact ⟨i, mi.mpr ⟨hi, hy⟩, rfl⟩
theorem mpG_nd {g : List Nat} {q' : List Pr} {kn : List (List Nat)} (up : g.Pairwise (· < ·)) (ks : KnS g.length q' kn) : ((kn.filter (isFull kn)).map (mpG g)).Nodup := by
  refine List.pairwise_map.mpr ((List.Pairwise.and_mem.mp (ks.nd.filter (isFull kn))).imp fun {a b} ⟨ha, hb, ne⟩ e => ne ?_)
  have ga := ks.good (List.mem_filter.mp ha).1
  have gb := ks.good (List.mem_filter.mp hb).1
  have one : ∀ {a b : List Nat}, GdK g.length q' a → GdK g.length q' b → mpG g a = mpG g b → ∀ x ∈ a, x ∈ b := fun {a b} ga gb e x hx => by
    have h1 : g.getD x 0 ∈ mpG g b := by
      rw [← e]
      exact List.mem_map.mpr ⟨x, hx, rfl⟩
    obtain ⟨y, hy, ey⟩ := List.mem_map.mp h1
    rw [← getD_inj up (gb.lt y hy) (ga.lt x hx) ey]
    exact hy
  exact asc_uniq ga.up gb.up fun x => ⟨one ga gb e x, one gb ga e.symm x⟩
theorem full_alt {q : List Pr} {g : List Nat} {rows : List (List Nat)} (mem : ∀ k, k ∈ rows ↔ FullIn q g k) : (∀ k ∈ rows, k ≠ []) ∨ ∃ r, rows = [] :: r := by
  cases g with
  | nil =>
    have f0 : [] ∈ rows := (mem []).mpr ⟨.nil, (fun x hx => by cases hx), (fun x hx => by cases hx), fun y hy => by cases hy⟩
    cases rows with
    | nil => cases f0
    | cons z r =>
      refine .inr ⟨r, ?_⟩
      have := (mem z).mp List.mem_cons_self
      cases z with
      | nil => rfl
      | cons x z => cases this.sub x List.mem_cons_self
  | cons y g =>
    refine .inl fun k hk e => ?_
    have := (mem k).mp hk
    rw [e] at this
    obtain ⟨x, hx, _⟩ := this.mx y List.mem_cons_self List.not_mem_nil
    cases hx
theorem srtA_use {K : PySem.W.Frag} {H : Hp} {L : Addr} {rows0 : List (List Nat)} {Q : VK} (h : KtL H L rows0) (nd : rows0.Nodup) (alt : (∀ k ∈ rows0, k ≠ []) ∨ ∃ r, rows0 = [] :: r) (k : ∀ H' p rows, Same H H' → H p = none → KtL H' p rows → UpR rows → rows.Perm rows0 → Q (.ref p) H') : rSortA K [.ref L] H Q := by
  obtain ⟨l, hl1, hl2, hl3⟩ := h
  refine ⟨L, _, rfl, SqL.of hl1, fun x hx => ?_, ?_, fun ys t pm srt nt => ?_⟩
  · obtain ⟨z, hz, rfl⟩ := List.mem_map.mp hx
    exact ⟨_, tupI_of (hl3 z hz)⟩
  · rcases alt with alt | ⟨r, e⟩
    · refine .inl fun x hx => ?_
      obtain ⟨z, hz, rfl⟩ := List.mem_map.mp hx
      refine ⟨asI z.2, fun e => ?_, tupI_of (hl3 z hz)⟩
      exact alt z.2 (by rw [← hl2]; exact List.mem_map.mpr ⟨z, hz, rfl⟩) (List.map_eq_nil_iff.mp e)
    · rw [e] at hl2
      cases l with
      | nil => cases hl2
      | cons z l' =>
        injection hl2 with h1 h2
        have h1 : z.2 = [] := h1
        refine .inr ⟨.ref z.1, l'.map fun z => V.ref z.1, rfl, ?_⟩
        have hz := tupI_of (K := K) (hl3 z List.mem_cons_self)
        rw [h1] at hz
        exact hz
  · obtain ⟨l2, rfl, pm2⟩ := perm_map_inv pm
    have hl4 : ∀ z ∈ l2, H z.1 = some (.tup (nvs z.2)) := fun z hz => hl3 z (pm2.mem_iff.mp hz)
    have le : (l2.map (·.2)).Pairwise fun a b => HT.lexLt (asI b) (asI a) = false := by
      rw [List.pairwise_map]
      refine List.Pairwise.imp_of_mem (fun {a b} ha hb h => ?_) (List.pairwise_map.mp srt)
      exact h _ _ (tupI_of (hl4 a ha)) (tupI_of (hl4 b hb))
    have pr2 : (l2.map (·.2)).Perm rows0 := by
      rw [← hl2]
      exact pm2.map _
    have s5 := same_upd (o := .lst (l2.map fun z => V.ref z.1)) nt
    exact k _ t (l2.map (·.2)) s5 nt ⟨l2, upd_same, rfl, fun z hz => s5 _ _ (hl4 z hz)⟩ (upR_of le (pr2.nodup_iff.mpr nd)) pr2
section
variable {P : Program} {w : World} {K : PySem.W.Frag} {mg : Str → Option Value} {base : Heap} {f : Addr} {fd : FuncData}
/-- _law_full_of -/
def spFof : Sp := fun vs H Q _ => ∃ (a t b : Addr) (v2 : V) (n : Nat) (q : List Pr) (g : List Nat), vs = [.ref a, .ref t] ∧ H a = some (.lst [.int (n : Int), .ref b, v2]) ∧ Ls H b q ∧ Cl (n : Int) q ∧ H t = some (.lst (nvs g)) ∧ g.Pairwise (· < ·) ∧ g.length ≤ 8 ∧
  ∀ H' L rows, Same H H' → H L = none → KtL H' L rows → FkR q g rows → Q (.ref L) H'
abbrev fofN : List Str := ["_law_case_here", "_law_part_here", "_law_full_here", "_law_knot", "_law_x"]
theorem sc_fof : FnScope fofN ["_law_case_here", "_law_part_here"] (defScope s_fof) := ⟨rfl, rfl, rfl, by decide +kernel, rfl, by decide +kernel, by decide +kernel⟩
theorem ok_fof (F : Fun K "_law_full_of" "_law_full_of" s_fof f fd) (B : Blt2 mg) (FU : Df P w K mg base "_law_full" 1 ["_law_sets"] spFul) (KN : Df P w K mg base "_law_knots" 3 ["_law_many", "_law_pairs"] spKn) (PA : Df P w K mg base "_law_part" 1 ["_law_pairs", "_law_things"] spPa) : FnOk P w K mg base (L2.CX P w) 4 f fd ["_law_case_here", "_law_part_here"] spFof := by
  refine F.okX sc_fof (fun vs H Q E h => ?_) (fun cdv A outer s H vs Q E hr h => ?_)
  · obtain ⟨a, t, b, v2, n, q, g, rfl, _⟩ := h
    rfl
  · obtain ⟨a, t, b, v2, n, q, g, rfl, ha, hb, cl, ht, up, g8, k⟩ := h
    have nd := sc_fof.nd
    have r1 : Room 1 _ := hr.mono (by decide)
    have r3 : Room 3 _ := hr.mono (by decide)
    have hu : (A.deeper (envOfC "_law_full_of" (defScope s_fof) s.heap.objs.size f cdv)).units + 64 < cLine := by have := hr.un; omega
    refine' ⟨_, pss_cons ?h1 (pss_cons (ps_for (passes_of rfl) rfl (pi_list ?it) (pg_name (i := 3) nd rfl (.inl rfl)) (pss_one ?h2)) (pss_one ?h3)), ?hz⟩
    case h1 => exact ps_set (i := 2) nd rfl (.inl rfl) (pe_lst pa_nil)
    case it => exact pe_df FU r1 (by rfl) passUp (pa_cons (pe_df KN r3 (by rfl) passUp (pa_cons (pe_callB c_len (by rfl) B.len PySem.boot_len (pa_cons (pv 1) pa_nil)) (pa_cons (pe_df PA r1 (by rfl) passUp (pa_cons (pe_ix ix_list (pv 0) pe_int (fun _ _ => rfl)) (pa_cons (pv 1) pa_nil))) pa_nil))) pa_nil)
    case h2 =>
      refine' ps_expr (pe_lapp (pv 2) (pa_cons (pe_callTy call_tuple_of (by rfl) B.tuple (by decide +kernel) (pa_cons ?lc pa_nil)) pa_nil))
      case lc => exact pe_lc (own := [("_law_x", 4)]) (g := gName 4) (tt := tYes) (te := tOp (rIxL K) (tVar 1) (tVar 4)) rfl nd (pi_list (pv 3)) (blkOk_by (N := fofN) (sc := defScope s_fof) (by decide +kernel)) (fun _ _ _ _ _ => pg_name (i := 4) nd rfl (.inl rfl)) (fun _ _ _ _ _ => pts_nil) (fun _ _ _ _ _ => pe_ix ix_list (pv 1) (pv 4) (fun _ _ => rfl))
    case h3 => exact ps_ret (pe_callB (cr_sortA hu) (by rfl) B.sorted (by decide +kernel) (pa_cons (pv 2) pa_nil))
    case hz =>
    refine ⟨by show 0 ≤ sizeLine; decide, fun F0 nF => ?_⟩
    have s1 := same_upd (o := .lst []) nF
    obtain ⟨ts, ets⟩ : ∃ ts : List Int, ts = g.map fun (k : Nat) => (k : Int) := ⟨_, rfl⟩
    have ht' : H t = some (.lst (ts.map V.int)) := by rw [ht, nvs_ints, ets]
    have lts : ts.length = g.length := by rw [ets, List.length_map]
    refine ⟨_, rfl, t, _, rfl, .inl (SqL.of (s1 _ _ ht)), _, rfl, a, _, 1, _, rfl, rfl, SqL.of (s1 _ _ ha), rfl, _, rfl, ?_⟩
    dsimp (proj := false) only [tNil]
    refine ⟨b, t, q, ts, rfl, hb.mono s1, s1 _ _ ht', by omega, fun H2 a2 rs s2 na2 gr lx => ?_⟩
    have rel := rel_of cl up ets lx
    have lcl := lx.cl
    rw [lts] at lcl
    dsimp (proj := false) only [tNil]
    refine ⟨a2, g.length, rs, (by rw [nvs_len]; rfl), g8, lcl, gr.ls, fun H3 D kn s3 hD ks => ?_⟩
    have kl : kn.length ≤ 256 := by
      have h1 := ks.few
      have h2 : 2 ^ g.length ≤ 2 ^ 8 := Nat.pow_le_pow_right (by decide) g8
      omega
    have k8 : ∀ k ∈ kn, k.length ≤ 8 := fun k hk => by
      have gd := ks.good hk
      have := up_few gd.up gd.lt
      omega
    dsimp (proj := false) only [tNil]
    refine ⟨D, kn, New H2 H3, rfl, new_same s3, hD, kl, k8, fun H4 E4 s4 nE hE => ?_⟩
    have s14 := s1.trans (s2.trans (s3.trans s4))
    have F2 : H2 F0 = some (.lst []) := s2 _ _ upd_same
    have hF4 : H4 F0 = some (.lst []) := s4 _ _ (s3 _ _ F2)
    have EF : E4 ≠ F0 := fun e => by
      rw [e, s3 _ _ F2] at nE
      cases nE
    generalize ef : kn.filter (isFull kn) = ful at hE
    obtain ⟨l, e1, e2, e3⟩ := id hE
    have ll : l.length = ful.length := by rw [← e2, List.length_map]
    have f256 : ful.length ≤ 256 := by
      rw [← ef]
      have := List.length_filter_le (isFull kn) kn
      omega
    have fgd : ∀ k ∈ ful, GdK g.length rs k := fun k hk => by
      rw [← ef] at hk
      exact ks.good (List.mem_filter.mp hk).1
    have e4 : ∀ z ∈ l, H4 z.1 = some (.lst (nvs z.2)) ∧ z.1 ≠ F0 := fun z hz => by
      have h := e3 z hz
      refine ⟨s4 _ _ (new_same s3 _ _ h), fun e => ?_⟩
      unfold New at h
      rw [e, F2] at h
      cases h
    have tF : t ≠ F0 := fun e => by
      rw [e, nF] at ht
      cases ht
    have keepF : ∀ {z : Addr} {o : HO}, H4 z = some o → z ≠ F0 → (del H4 F0) z = some o := fun h ne => by rw [del_ne ne]; exact h
    have ht4 := keepF (s14 _ _ ht) tF
    have e14 := keepF e1 EF
    let Pv : Nat → L2.St → Hp → Prop := fun i σ H' => ∃ o3, σ = [some (.ref a), some (.ref t), some (.ref F0), o3, none] ∧ Same (del H4 F0) H' ∧ KtL H' F0 ((ful.take i).map (mpG g))
    refine ⟨E4, rfl, ⟨_, SqL.of e1⟩, for_list (K := K) (a := E4) (xs := l.map fun z => V.ref z.1) Pv ⟨none, rfl, del_sub, [], hF4, rfl, fun z hz => by cases hz⟩ (fun i σ H' _ h => ?_) (fun i v σ H5 hi h => ?_) (fun σ H5 h => ?_)⟩
    · obtain ⟨_, _, sm, _⟩ := h
      exact SqL.of (sm _ _ e14)
    · obtain ⟨o3, rfl, sm, hF⟩ := h
      rw [List.getElem?_map] at hi
      cases hz : l[i]? with
      | none => rw [hz] at hi; cases hi
      | some z =>
      rw [hz] at hi
      cases hi
      have hk : ful[i]? = some z.2 := by rw [← e2, List.getElem?_map, hz]; rfl
      obtain ⟨hz4, zF⟩ := e4 z (List.mem_of_getElem? hz)
      have hz5 := sm _ _ (keepF hz4 zF)
      have gd := fgd _ (List.mem_of_getElem? hk)
      have z8 := up_few gd.up gd.lt
      obtain ⟨lf, hf1, hf2, hf3⟩ := id hF
      refine ⟨_, rfl, .inl ⟨rfl, _, SqL.of hf1⟩, _, rfl, z.1, rfl, ⟨_, SqL.of hz5⟩, fun X nX => ?_⟩
      refine lc_list (K := K) (a := z.1) (xs := nvs z.2) (fun j H' => Same H5 H' ∧ H' X = some (.lst (nvs ((z.2.take j).map fun x => g.getD x 0)))) ⟨same_upd nX, upd_same⟩ (fun i H' _ z => SqL.of (z.1 _ _ hz5)) (fun j v H6 hj y => ?_) (fun H6 y => ?_)
      · obtain ⟨sm6, hX⟩ := y
        obtain ⟨x, hx, rfl⟩ := nvs_get hj
        have xl := gd.lt x (List.mem_of_getElem? hx)
        refine ⟨rfl, _, rfl, _, rfl, t, _, (x : Int), _, rfl, rfl, SqL.of (sm6 _ _ (sm _ _ ht4)), nvs_at xl, _, hX, ?_, same_keep nX sm6, ?_⟩
        · rw [nvs_len, List.length_map, List.length_take, sizeLine_eq]
          omega
        · rw [upd_same, take_at hx, List.map_append]
          unfold nvs
          rw [List.map_append]
          rfl
      · obtain ⟨sm6, hX⟩ := y
        rw [nvs_len, List.take_length] at hX
        refine ⟨X, _, rfl, .inl ⟨SqL.of hX, fun u nu => ?_⟩⟩
        have s7 := sm6.trans (same_upd (o := .tup (nvs (mpG g z.2))) nu)
        obtain ⟨ys, h6, h7, h8⟩ := (hF.mono s7).push (k := mpG g z.2) (p := u) upd_same
        refine ⟨F0, ys, _, rfl, rfl, h6, ?_, ?_⟩
        · rw [h7, List.length_map, List.length_take, sizeLine_eq]
          omega
        · refine ⟨_, rfl, fun b o h => ?_, ?_⟩
          · have bF : b ≠ F0 := fun e => by
              rw [e, del_same] at h
              cases h
            rw [upd_ne bF]
            exact s7 _ _ (sm _ _ h)
          · rw [take_at hk, List.map_append]
            exact h8
    · obtain ⟨o3, rfl, sm, hF⟩ := h
      rw [List.length_map, ll, List.take_length] at hF
      have mem : ∀ kk, kk ∈ ful.map (mpG g) ↔ FullIn q g kk := fun kk => by
        rw [List.mem_map, ← ef]
        exact full_by (fun x => hasP_irr cl x) up rel ks kk
      refine ⟨_, rfl, srtA_use hF (by rw [← ef]; exact mpG_nd up ks) (full_alt mem) fun H6 p6 rows s6 np6 hr6 ur pr6 => ?_⟩
      have hn : H p6 = none := by
        cases h : H p6 with
        | none => rfl
        | some o =>
          have bF : p6 ≠ F0 := fun e => by
            rw [e, nF] at h
            cases h
          have := sm _ _ (keepF (s14 _ _ h) bF)
          rw [np6] at this
          cases this
      refine k H6 p6 rows (fun b o h => ?_) hn hr6 ⟨ur, fun kk => (pr6.mem_iff).trans (mem kk)⟩
      have bF : b ≠ F0 := fun e => by
        rw [e, nF] at h
        cases h
      exact s6 _ _ (sm _ _ (keepF (s14 _ _ h) bF))
end
end K0
set_option Elab.async false
set_option linter.all false
set_option maxRecDepth 100000
set_option maxHeartbeats 4000000
namespace K0
open PySem PySem.Spec PyProof.Rows L2
abbrev s_lpf : Stmt := top 78
abbrev s_lwp : Stmt := top 79
/-! ### rows of things as data -/
def ktA (rows : List (List Nat)) : List PyData := rows.map fun k => PyData.tuple (nsD k)
theorem ktA_lay : ∀ rows, PyData.canLayAll0 (ktA rows) = true
  | [] => by simp [ktA, PyData.canLayAll0]
  | k :: rows => by
    have ih := ktA_lay rows
    unfold ktA at ih ⊢
    rw [List.map_cons]
    simp only [PyData.canLayAll0, PyData.canLay0]
    rw [ih, nsD_ints, intsT_lay]
    rfl
theorem ktA_depth : ∀ rows, PyData.depthAll (ktA rows) ≤ 1
  | [] => by simp [ktA, PyData.depthAll]
  | k :: rows => by
    have ih := ktA_depth rows
    unfold ktA at ih ⊢
    rw [List.map_cons]
    simp only [PyData.depthAll, PyData.depth]
    have := intsT_depth (k.map fun (k : Nat) => (k : Int))
    rw [← nsD_ints] at this
    exact Nat.max_le.mpr ⟨by omega, ih⟩
theorem ktL_shaped (rows : List (List Nat)) : SeqAt.shaped (.list (ktA rows)) = true := by
  unfold SeqAt.shaped
  rw [Bool.and_eq_true, decide_eq_true_iff]
  refine ⟨by simp only [PyData.canLay0]; exact ktA_lay rows, ?_⟩
  simp only [PyData.depth]
  have := ktA_depth rows
  omega
theorem ktT_shaped (rows : List (List Nat)) : SeqAt.shaped (.tuple (ktA rows)) = true := by
  unfold SeqAt.shaped
  rw [Bool.and_eq_true, decide_eq_true_iff]
  refine ⟨by simp only [PyData.canLay0]; exact ktA_lay rows, ?_⟩
  simp only [PyData.depth]
  have := ktA_depth rows
  omega
theorem ktL_eqv (rows : List (List Nat)) : PyData.eqv (.list (ktA rows)) (.list (ktA rows)) = true := PySem.SeqAt.eqv_refl _ (by simp only [PyData.canLay0]; exact ktA_lay rows)
theorem ktT_eqv (rows : List (List Nat)) : PyData.eqv (.tuple (ktA rows)) (.tuple (ktA rows)) = true := PySem.SeqAt.eqv_refl _ (by simp only [PyData.canLay0]; exact ktA_lay rows)
theorem kt_all {H : Hp} : ∀ {l : List (Addr × List Nat)}, (∀ z ∈ l, H z.1 = some (.tup (nvs z.2))) → DtAll H (l.map fun z => V.ref z.1) (ktA (l.map (·.2)))
  | [], _ => .nil
  | z :: l, h => .cons (.tup (h z List.mem_cons_self) (dta_nvs _)) (kt_all fun y hy => h y (List.mem_cons_of_mem _ hy))
theorem KtL.dt {H : Hp} {D : Addr} {rows : List (List Nat)} : KtL H D rows → Dt H (.ref D) (.list (ktA rows)) := fun ⟨l, h, e, p⟩ => .lst h (by rw [← e]; exact kt_all p)
theorem KtT.dt {H : Hp} {D : Addr} {rows : List (List Nat)} : KtT H D rows → Dt H (.ref D) (.tuple (ktA rows)) := fun ⟨l, h, e, p⟩ => .tup h (by rw [← e]; exact kt_all p)
/-- a case that stands in the heap -/
structure CaF (H : Hp) (a : Addr) (n : Nat) (q : List Pr) (r : List Nat) : Prop where
  ex : ∃ b c, H a = some (.lst [.int (n : Int), .ref b, .ref c]) ∧ Ls H b q ∧ H c = some (.lst (nvs r))
  c : Cl n q
  p : r.Perm (List.range n)
  n8 : n ≤ 8
theorem CaF.mono {H H' : Hp} {a : Addr} {n : Nat} {q : List Pr} {r : List Nat} (s : Same H H') (h : CaF H a n q r) : CaF H' a n q r := by
  obtain ⟨⟨b, c, h1, h2, h3⟩, h4, h5, h6⟩ := h
  exact ⟨⟨b, c, s _ _ h1, h2.mono s, s _ _ h3⟩, h4, h5, h6⟩
theorem missed_none {n : Nat} {q : List Pr} {r g : List Nat} {rows : List (List Nat)} (cl : Cl (n : Int) q) (pr : r.Perm (List.range n)) (gn : ∀ x ∈ g, x < n) (no : NoObs q fun x => r.idxOf x) (mk : MkR q r g rows) : rows = [] := by
  refine Classical.byContradiction fun ne => ?_
  obtain ⟨k, hk⟩ := List.exists_mem_of_ne_nil rows ne
  obtain ⟨fu, kne, out⟩ := (mk.mem k).mp hk
  have ndr : r.Nodup := pr.nodup_iff.mpr List.nodup_range
  have OK := lotOf_ok (q := q) (p := fun x => decide (x ∈ g)) (r := r) (fun x => hasP_irr cl x) (fun x y => hasP_sym q x y) ndr
  obtain ⟨s, ⟨x, hx, us⟩, all⟩ := one_for_all (q := q) (f := fun x => r.idxOf x) (S := fun x => x ∈ lotOf q (fun x => decide (x ∈ g)) r) (fun x y => hasP_sym q x y) (fun x y hx hy => OK.st x hx y hy) no _ k (Nat.le_refl _) kne (fu.up.imp fun h => Nat.ne_of_lt h) fu.kn out (fun x hx => by
    have xg := fu.sub x hx
    have xr : x ∈ r := pr.mem_iff.mpr (List.mem_range.mpr (gn x xg))
    rcases OK.up x xr (decide_eq_true xg) with h | ⟨y, hy, e, lt⟩
    · exact absurd h (out x hx)
    · exact ⟨y, hy, e, lt⟩)
  have sg : s ∈ g := of_decide_eq_true (OK.sub s us.1).2
  obtain ⟨y, hy, e⟩ := fu.mx s sg fun h => out s h us.1
  have := all y hy
  rw [hasP_sym, e] at this
  cases this
section
variable {P : Program} {w : World} {K : PySem.W.Frag} {mg : Str → Option Value} {base : Heap} {f : Addr} {fd : FuncData}
theorem ne_dd {H : Hp} {Q : VK} {u v : V} {d : PyData} (hu : Dt H u d) (hv : Dt H v d) (sh : SeqAt.shaped d = true) (ev : PyData.eqv d d = true) (q : Q (.bl false) H) : rNeD K u v H Q := ⟨d, d, hu.dp, hv.dp, sh, sh, by rw [ev]; exact q⟩
/-- _law_part_fits -/
def spPf (K : PySem.W.Frag) (C D : Addr) : Sp := fun vs H Q _ => ∃ (o p a t : Addr) (right : Bool) (n : Nat) (q : List Pr) (r g : List Nat), vs = [.ref o, .ref a, .ref t, .bl right] ∧ OrdAt K C D H o p (n : Int) q r ∧ CaF H a n q r ∧ H t = some (.lst (nvs g)) ∧ g.Pairwise (· < ·) ∧ (∀ x ∈ g, x < n) ∧ (right = true → NoObs q fun x => r.idxOf x) ∧ Ret (.bl true) H Q
abbrev lpfN : List Str := ["_law_order", "_law_case_here", "_law_part_here", "_law_right", "_law_turned", "_law_kept", "_law_lot", "_law_due", "_law_told", "_law_missed", "_law_knot", "_law_x"]
theorem sc_lpf : FnScope lpfN ["_law_order", "_law_case_here", "_law_part_here", "_law_right"] (defScope s_lpf) := ⟨rfl, rfl, rfl, by decide +kernel, rfl, by decide +kernel, by decide +kernel⟩
theorem ok_lpf {C D CP : Addr} (F : Fun K "_law_part_fits" "_law_part_fits" s_lpf f fd) (B : Blt2 mg) (FLO : Df P w K mg base "first_lot" 6 ["order", "part"] (spFlo K C D CP)) (FL : Df P w K mg base "_law_first_lot" 3 ["_law_many", "_law_pairs", "_law_row_here", "_law_part_here"] spFl) (MK : Df P w K mg base "missed_knots" 7 ["order", "part"] (spMkn K C D CP)) (FO : Df P w K mg base "_law_full_of" 4 ["_law_case_here", "_law_part_here"] spFof) :
    FnOk P w K mg base (L2.CX P w) 8 f fd ["_law_order", "_law_case_here", "_law_part_here", "_law_right"] (spPf K C D) := by
  refine F.okX sc_lpf (fun vs H Q E h => ?_) (fun cdv A outer s H vs Q E hr h => ?_)
  · obtain ⟨o, p, a, t, right, n, q, r, g, rfl, _⟩ := h
    rfl
  · obtain ⟨o, p, a, t, right, n, q, r, g, rfl, O, CA, ht, up, gn, no, k⟩ := h
    have nd := sc_lpf.nd
    have r3 : Room 3 _ := hr.mono (by decide)
    have r4 : Room 4 _ := hr.mono (by decide)
    have r6 : Room 6 _ := hr.mono (by decide)
    have hu : (A.deeper (envOfC "_law_part_fits" (defScope s_lpf) s.heap.objs.size f cdv)).units + 64 < cLine := by have := hr.un; omega
    refine' ⟨_, pss_cons ?h1 (pss_cons ?h2 (pss_cons ?h3 (pss_cons ?h4 (pss_cons ?h5 (pss_cons ?h6 (pss_cons ?h7 (pss_cons ?h8 (pss_cons ?h9 (pss_cons ?h10 (pss_cons ?h11 (pss_one ?h12))))))))))), ?hz⟩
    case h1 => exact ps_set (i := 4) nd rfl (.inl rfl) (pe_callTy call_list_of (by rfl) B.list (by decide +kernel) (pa_cons (pv 2) pa_nil))
    case h2 => exact ps_expr (pe_lrev (pv 4))
    case h3 => exact ps_set (i := 5) nd rfl (.inl rfl) (pe_callTy call_list_of (by rfl) B.list (by decide +kernel) (pa_cons (pv 4) pa_nil))
    case h4 => exact ps_set (i := 6) nd rfl (.inl rfl) (pe_df FLO r6 (by rfl) passUp (pa_cons (pv 0) (pa_cons (pv 4) pa_nil)))
    case h5 => exact ps_set (i := 7) nd rfl (.inr rfl) (pe_df FL r3 (by rfl) passUp (pa_cons (pe_ix ix_list (pv 1) pe_int (fun _ _ => rfl)) (pa_cons (pe_ix ix_list (pv 1) pe_int (fun _ _ => rfl)) (pa_cons (pe_ix ix_list (pv 1) pe_int (fun _ _ => rfl)) (pa_cons (pv 2) pa_nil)))))
    case h6 =>
      refine' ps_if (PW.pt (pw_or ?c1 (pw_or1 ?c2))) (pss_one (ps_ret pe_bl)) pss_nil
      case c1 => exact pt_not (pt_val (pe_callB call_isi (by rfl) B.isi (by decide +kernel) (pa_cons (pv 6) (pa_cons (pe_bltn (v := .ty "tuple") (by rfl) B.tuple (by decide +kernel) rfl) pa_nil))))
      case c2 => exact pt_cmpR (op_neD hu) (pe_callTy call_list_of (by rfl) B.list (by decide +kernel) (pa_cons (pv 6) pa_nil)) (pv 7) (by rfl)
    case h7 => exact ps_set (i := 8) nd rfl (.inl rfl) (pe_df MK hr (by rfl) passUp (pa_cons (pv 0) (pa_cons (pe_callTy call_tuple_of (by rfl) B.tuple (by decide +kernel) (pa_cons (pv 4) pa_nil)) pa_nil)))
    case h8 =>
      refine' ps_if (PW.pt (pw_or ?c1 (pw_or ?c2 (pw_or1 ?c3)))) (pss_one (ps_ret pe_bl)) pss_nil
      case c1 => exact pt_not (pt_val (pe_callB call_isi (by rfl) B.isi (by decide +kernel) (pa_cons (pv 8) (pa_cons (pe_bltn (v := .ty "tuple") (by rfl) B.tuple (by decide +kernel) rfl) pa_nil))))
      case c2 => exact pt_cmpR (op_neD hu) (pv 4) (pv 5) (by rfl)
      case c3 => exact pt_cmpR (op_neD hu) (pe_df MK hr (by rfl) passUp (pa_cons (pv 0) (pa_cons (pv 4) pa_nil))) (pv 8) (by rfl)
    case h9 => exact ps_set (i := 9) nd rfl (.inl rfl) (pe_lst pa_nil)
    case h10 =>
      refine' ps_for (passes_of rfl) rfl (pi_list (pe_df FO r4 (by rfl) passUp (pa_cons (pv 1) (pa_cons (pv 2) pa_nil)))) (pg_name (i := 10) nd rfl (.inl rfl)) (pss_one (ps_if (PW.pt (pw_and ?c1 (pw_and1 ?c2))) (pss_one (ps_expr (pe_lapp (pv 9) (pa_cons (pv 10) pa_nil)))) pss_nil))
      case c1 => exact pt_cmpR op_gt (pe_callB c_len (by rfl) B.len PySem.boot_len (pa_cons (pv 10) pa_nil)) pe_int (nomark _)
      case c2 => exact pt_cmpR op_eq (pe_callB c_len (by rfl) B.len PySem.boot_len (pa_cons (pe_lc (own := [("_law_x", 11)]) (g := gName 11) (tt := tTest (tOp (rIn K false) (tVar 11) (tVar 7))) (te := tVar 11) rfl nd (pi_tup (pv 10)) (blkOk_by (N := lpfN) (sc := defScope s_lpf) (by decide +kernel)) (fun _ _ _ _ _ => pg_name (i := 11) nd rfl (.inl rfl)) (fun _ _ _ _ _ => pts_one (pt_cmpR op_in_seq (pv 11) (pv 7) (by rfl))) (fun _ _ _ _ _ => pv 11)) pa_nil)) pe_int (nomark _)
    case h11 => exact ps_if (pt_cmpR (op_neD hu) (pe_callTy call_list_of (by rfl) B.list (by decide +kernel) (pa_cons (pv 8) pa_nil)) (pv 9) (by rfl)) (pss_one (ps_ret pe_bl)) pss_nil
    case h12 => exact ps_ret (pe_or (pe_cmpR op_eq (pe_callB c_len (by rfl) B.len PySem.boot_len (pa_cons (pv 8) pa_nil)) pe_int (nomark _)) (pe_one (pe_not (pv 3))))
    case hz =>
    obtain ⟨⟨b, c, ha, hb, hc⟩, cl, pr, n8⟩ := id CA
    have ndr : r.Nodup := pr.nodup_iff.mpr List.nodup_range
    have OK := lotOf_ok (q := q) (p := fun x => decide (x ∈ g)) (r := r) (fun x => hasP_irr cl x) (fun x y => hasP_sym q x y) ndr
    refine ⟨_, rfl, t, _, rfl, .inl (SqL.of ht), fun k1 nk1 => ⟨_, rfl, .inl ⟨rfl, _, SqL.of upd_same⟩, k1, _, rfl, rfl, upd_same, ?_⟩⟩
    have s1 : Same H (upd (upd H k1 (.lst (nvs g))) k1 (.lst (nvs g).reverse)) := same_keep nk1 (same_upd nk1)
    have hk1 : (upd (upd H k1 (.lst (nvs g))) k1 (.lst (nvs g).reverse)) k1 = some (.lst (nvs g.reverse)) := by
      rw [upd_same]
      unfold nvs
      rw [List.map_reverse]
    generalize upd (upd H k1 (.lst (nvs g))) k1 (.lst (nvs g).reverse) = H1 at s1 hk1 ⊢
    refine ⟨_, rfl, k1, _, rfl, .inl (SqL.of hk1), fun k2 nk2 => ?_⟩
    have s2 := same_upd (o := .lst (nvs g.reverse)) nk2
    have hk2 : (upd H1 k2 (.lst (nvs g.reverse))) k2 = some (.lst (nvs g.reverse)) := upd_same
    generalize upd H1 k2 (.lst (nvs g.reverse)) = H2 at s2 hk2 ⊢
    have hk12 := s2 _ _ hk1
    have gnd : g.Nodup := up.imp fun h => Nat.ne_of_lt h
    have fw : fwG (n : Int) (nsD g.reverse) [] = none := fwG_nat ((List.reverse_perm g).nodup_iff.mpr gnd) fun x hx => gn x ((List.reverse_perm g).mem_iff.mp hx)
    have asc : Asc (n : Int) (nsD g.reverse) g := asc_nat (List.reverse_perm g) up gn
    refine ⟨_, rfl, _, rfl, o, p, .ref k1, n, q, r, rfl, O.mono (s1.trans s2), .inl ⟨g, .inr ⟨k1, _, rfl, .lst hk12 (dta_nvs _), fw, asc⟩, fun H3 lt l s3 nlt hlt lup lpm => ?_⟩⟩
    have s03 := s1.trans (s2.trans s3)
    refine ⟨_, rfl, a, _, 0, _, rfl, rfl, SqL.of (s03 _ _ ha), rfl, _, rfl, a, _, 1, _, rfl, rfl, SqL.of (s03 _ _ ha), rfl, _, rfl, a, _, 2, _, rfl, rfl, SqL.of (s03 _ _ ha), rfl, _, rfl, ?_⟩
    refine ⟨b, c, t, n, q, r, g, rfl, n8, cl, hb.mono s03, s03 _ _ hc, pr, s03 _ _ ht, fun H4 du l' s4 ndu hdu dup dpm => ?_⟩
    have el : l' = l := asc_uniq dup lup fun x => dpm.mem_iff.trans lpm.mem_iff.symm
    subst el
    have s04 := s03.trans s4
    have hlt4 := s4 _ _ hlt
    refine ⟨_, rfl, _, _, _, _, _, rfl, .ty _, .base (.tup hlt4), kit_ty (r := true) (by decide +kernel), _, rfl, iteF ⟨_, rfl, lt, _, rfl, .inr (SqT.of hlt4), fun x1 nx1 => ?_⟩⟩
    have s5 := same_upd (o := .lst (nvs l')) nx1
    refine ⟨_, rfl, ne_dd (d := .list (nsD l')) (.lst upd_same (dta_nvs _)) (.lst (s5 _ _ hdu) (dta_nvs _)) (nsL_shaped _) (nsL_eqv _) ⟨_, rfl, iteF ?_⟩⟩
    have s05 := s04.trans s5
    have hdu5 := s5 _ _ hdu
    generalize upd H4 x1 (.lst (nvs l')) = H5 at s5 s05 hdu5 ⊢
    have s25 := s3.trans (s4.trans s5)
    refine ⟨_, rfl, _, rfl, k1, _, rfl, .inl ⟨SqL.of (s25 _ _ hk12), fun tt ntt => ?_⟩⟩
    have s6 := same_upd (o := .tup (nvs g.reverse)) ntt
    have htt : (upd H5 tt (.tup (nvs g.reverse))) tt = some (.tup (nvs g.reverse)) := upd_same
    generalize upd H5 tt (.tup (nvs g.reverse)) = H6 at s6 htt ⊢
    have s06 := s05.trans s6
    dsimp (proj := false) only [tNil]
    refine ⟨o, p, .ref tt, n, q, r, rfl, O.mono s06, n8, .inl ⟨g, .inr ⟨tt, _, rfl, .tup htt (dta_nvs _), fw, asc⟩, fun H7 tk rows s7 hkt mk => ?_⟩⟩
    have s07 := s06.trans s7
    have s27 := s25.trans (s6.trans s7)
    obtain ⟨kl, kt1, kt2, kt3⟩ := id hkt
    refine ⟨_, rfl, _, _, _, _, _, rfl, .ty _, .base (.tup kt1), kit_ty (r := true) (by decide +kernel), _, rfl, iteF ⟨_, rfl, _, rfl, ?_⟩⟩
    refine ne_dd (d := .list (nsD g.reverse)) (.lst (s27 _ _ hk12) (dta_nvs _)) (.lst (s27 _ _ hk2) (dta_nvs _)) (nsL_shaped _) (nsL_eqv _) ⟨_, rfl, iteF ?_⟩
    refine ⟨_, rfl, _, rfl, o, p, .ref k1, n, q, r, rfl, O.mono s07, n8, .inl ⟨g, .inr ⟨k1, _, rfl, .lst (s27 _ _ hk12) (dta_nvs _), fw, asc⟩, fun H8 tk2 rows2 s8 hkt2 mk2 => ?_⟩⟩
    have er := mk2.uniq mk
    subst er
    refine ⟨_, rfl, ne_dd hkt2.dt (hkt.mono s8).dt (ktT_shaped _) (ktT_eqv _) ⟨_, rfl, iteF ?_⟩⟩
    have s08 := s07.trans s8
    refine ⟨by show 0 ≤ sizeLine; decide, fun M nM => ?_⟩
    have s9 := same_upd (o := .lst []) nM
    have hM0 : (upd H8 M (.lst [])) M = some (.lst []) := upd_same
    refine ⟨_, rfl, _, rfl, a, t, b, .ref c, n, q, g, rfl, s9 _ _ (s08 _ _ ha), hb.mono (s08.trans s9), cl, s9 _ _ (s08 _ _ ht), up, Nat.le_trans (up_few up gn) n8, fun H10 L fr s10 nL hL fk => ?_⟩
    obtain ⟨lf, f1, f2, f3⟩ := id hL
    have lfl : lf.length = fr.length := by rw [← f2, List.length_map]
    have s8x := s9.trans s10
    have hM10 := s10 _ _ hM0
    have kn8 : ∀ kk ∈ fr, kk.length ≤ 8 := fun kk hk => by
      have fu := (fk.mem kk).mp hk
      have := up_few (n := n) fu.up fun x hx => gn x (fu.sub x hx)
      omega
    have f256 : fr.length ≤ 256 := by
      have nd : fr.Nodup := fk.up.imp fun {a b} h e => by
        rw [e] at h
        exact ltR_irr _ h
      have := len_sub (fr.map mkM) (List.range 256) (List.pairwise_map.mpr ((List.Pairwise.and_mem.mp nd).imp fun {a b} ⟨ha, hb, h⟩ e => h (by
        rw [← tlM_mk ((fk.mem a).mp ha).up, e, tlM_mk ((fk.mem b).mp hb).up]))) fun x hx => by
        obtain ⟨k, hk, rfl⟩ := List.mem_map.mp hx
        exact List.mem_range.mpr (mkM_small (k := 8) fun y hy => by have := gn y (((fk.mem k).mp hk).sub y hy); omega)
      simpa using this
    let ms : List Nat → Bool := fun k => !k.isEmpty && !(k.any fun x => decide (x ∈ l'))
    have keepM : ∀ {z : Addr} {o : HO}, H8 z = some o → (del H10 M) z = some o := fun {z o} h => by
      rw [del_ne (fun e => by rw [e, nM] at h; cases h)]
      exact s8x _ _ h
    have LM : L ≠ M := fun e => by
      rw [e, hM0] at nL
      cases nL
    have f1' : (del H10 M) L = some (.lst (lf.map fun z => V.ref z.1)) := by rw [del_ne LM]; exact f1
    have f3' : ∀ z ∈ lf, (del H10 M) z.1 = some (.tup (nvs z.2)) := fun z hz => by
      have h := f3 z hz
      rw [del_ne (fun e => by rw [e, hM10] at h; cases h)]
      exact h
    have mkr : fr.filter ms = rows2 := MkR.uniq (r := r) (g := g) (q := q) ⟨fk.up.filter _, fun kk => by
      rw [List.mem_filter, fk.mem]
      refine and_congr_right fun _ => ?_
      show (!kk.isEmpty && !(kk.any fun x => decide (x ∈ l'))) = true ↔ _
      rw [Bool.and_eq_true, Bool.not_eq_true', Bool.not_eq_true', List.isEmpty_eq_false_iff, List.any_eq_false]
      refine and_congr_right fun _ => forall_congr' fun x => forall_congr' fun _ => ?_
      rw [decide_eq_true_iff, lpm.mem_iff]⟩ mk2
    let Pv : Nat → L2.St → Hp → Prop := fun i σ H' => ∃ o10, σ = [some (.ref o), some (.ref a), some (.ref t), some (.bl right), some (.ref k1), some (.ref k2), some (.ref lt), some (.ref du), some (.ref tk), some (.ref M), o10, none] ∧ Same (del H10 M) H' ∧ KtL H' M ((fr.take i).filter ms)
    refine ⟨L, rfl, ⟨_, SqL.of f1⟩, for_list (K := K) (a := L) (xs := lf.map fun z => V.ref z.1) Pv ⟨none, rfl, del_sub, [], hM10, rfl, fun z hz => by cases hz⟩ (fun i σ H' _ h => ?_) (fun i v σ H11 hi h => ?_) (fun σ H11 h => ?_)⟩
    · obtain ⟨_, _, sm, _⟩ := h
      exact SqL.of (sm _ _ f1')
    · obtain ⟨o10, rfl, sm, hM⟩ := h
      rw [List.getElem?_map] at hi
      cases hz : lf[i]? with
      | none => rw [hz] at hi; cases hi
      | some z =>
      rw [hz] at hi
      cases hi
      have hk : fr[i]? = some z.2 := by rw [← f2, List.getElem?_map, hz]; rfl
      have hz1 := sm _ _ (f3' z (List.mem_of_getElem? hz))
      have z8 := kn8 _ (List.mem_of_getElem? hk)
      have et := take_at hk
      have dM : ∀ {H' H6 : Hp} {o : HO}, Same (del H10 M) H' → Same H' H6 → Same (del H10 M) (upd H6 M o) := fun {H' H6 o} sa sb b o' h => by
        have bM : b ≠ M := fun e => by
          rw [e, del_same] at h
          cases h
        rw [upd_ne bM]
        exact sb _ _ (sa _ _ h)
      have nof : ∀ {H6}, Same H11 H6 → ms z.2 = false → Same (del H10 M) H6 ∧ KtL H6 M ((fr.take (i + 1)).filter ms) := fun {H6} s' e => by
        refine ⟨sm.trans s', ?_⟩
        rw [et, List.filter_append, List.filter_cons, e, if_neg Bool.false_ne_true, List.filter_nil, List.append_nil]
        exact hM.mono s'
      refine ⟨_, rfl, z.1, _, rfl, .inr (SqT.of hz1), _, _, rfl, rfl, _, rfl, ?_⟩
      have eg : decide ((((nvs z.2).length : Nat) : Int) > 0) = !z.2.isEmpty := by
        rw [nvs_len]
        cases z.2 with
        | nil => rfl
        | cons x r => exact decide_eq_true (by simp only [List.length_cons]; omega)
      rw [eg]
      cases em : z.2.isEmpty with
      | true => exact iteF (iteF ⟨_, rfl, nof (.refl _) (by show (!z.2.isEmpty && _) = false; rw [em]; rfl)⟩)
      | false =>
        have hdu11 := sm _ _ (keepM ((s6.trans (s7.trans s8)) _ _ hdu5))
        refine iteT ⟨_, rfl, z.1, rfl, ⟨_, SqT.of hz1⟩, fun G nG => ?_⟩
        refine lc_tup (K := K) (a := z.1) (xs := nvs z.2) (FilI H11 G z.2 fun x => decide (x ∈ l')) (FilI.start nG) (fun i H' _ z => SqT.of (z.1 _ _ hz1)) (fun j v H' hj fz => ?_) (fun H12 fz => ?_)
        · obtain ⟨x, hx, rfl⟩ := nvs_get hj
          refine ⟨rfl, _, rfl, _, rfl, du, _, rfl, .inl (SqL.of (fz.1 _ _ hdu11)), rfl, nvs_flat _, _, rfl, ?_⟩
          rw [if_neg Bool.false_ne_true, inV_nvs]
          cases e : decide (x ∈ l') with
          | false => exact iteF (fz.no hx e (.refl _))
          | true => exact iteT ⟨_, rfl, fz.yes nG (by omega) hx e (.refl _)⟩
        · obtain ⟨s12, hG⟩ := fz.fin
          refine ⟨G, _, rfl, .inl (SqL.of hG), rfl, _, rfl, ?_⟩
          rw [dec_int]
          have eb : ((((nvs (z.2.filter fun x => decide (x ∈ l'))).length : Nat) : Int) == 0) = !(z.2.any fun x => decide (x ∈ l')) := by
            rw [← fil_none, nvs_len, Bool.eq_iff_iff, beq_iff_eq, decide_eq_true_iff]
            omega
          rw [eb]
          cases ea : z.2.any fun x => decide (x ∈ l') with
          | true => exact iteF ⟨_, rfl, nof s12 (by show (!z.2.isEmpty && !(z.2.any fun x => decide (x ∈ l'))) = false; rw [ea, em]; rfl)⟩
          | false =>
            have e : ms z.2 = true := by
              show (!z.2.isEmpty && !(z.2.any fun x => decide (x ∈ l'))) = true
              rw [ea, em]
              rfl
            obtain ⟨ys, h6, h7, h8⟩ := (hM.mono s12).push (s12 _ _ hz1)
            refine iteT ⟨_, rfl, .inl ⟨rfl, _, SqL.of h6⟩, _, rfl, M, _, _, rfl, rfl, h6, ?_, ?_⟩
            · rw [h7, sizeLine_eq]
              have h9 := List.length_filter_le ms (fr.take i)
              rw [List.length_take] at h9
              omega
            · refine ⟨_, rfl, dM sm s12, ?_⟩
              rw [et, List.filter_append, List.filter_cons, e, if_pos rfl, List.filter_nil]
              exact h8
    · obtain ⟨o10, rfl, sm, hM⟩ := h
      rw [List.length_map, lfl, List.take_length, mkr] at hM
      have hkt11 : KtT H11 tk rows2 := ⟨kl, sm _ _ (keepM (s8 _ _ kt1)), kt2, fun z hz => sm _ _ (keepM (s8 _ _ (kt3 z hz)))⟩
      refine ⟨_, rfl, tk, _, rfl, .inr (SqT.of (sm _ _ (keepM (s8 _ _ kt1)))), fun x2 nx2 => ?_⟩
      have s12 := same_upd (o := .lst (kl.map fun z => V.ref z.1)) nx2
      have hx2 : KtL (upd H11 x2 (.lst (kl.map fun z => V.ref z.1))) x2 rows2 := ⟨kl, upd_same, kt2, fun z hz => s12 _ _ (sm _ _ (keepM (s8 _ _ (kt3 z hz))))⟩
      refine ⟨_, rfl, ne_dd hx2.dt (hM.mono s12).dt (ktL_shaped _) (ktL_eqv _) ⟨_, rfl, iteF ?_⟩⟩
      have sF : Same H (upd H11 x2 (.lst (kl.map fun z => V.ref z.1))) := fun b o h => s12 _ _ (sm _ _ (keepM (s08 _ _ h)))
      refine ⟨_, rfl, tk, _, rfl, .inr (SqT.of (s12 _ _ (sm _ _ (keepM (s8 _ _ kt1))))), rfl, _, rfl, ?_⟩
      rw [dec_int]
      cases right with
      | false =>
        cases (((((kl.map fun z => V.ref z.1).length : Nat) : Int)) == 0) with
        | true => exact iteT (k _ sF)
        | false => exact iteF ⟨_, rfl, _, rfl, k _ sF⟩
      | true =>
        have e0 := missed_none cl pr gn (no rfl) mk2
        have kl0 : kl = [] := by
          have := kt2.trans e0
          exact List.map_eq_nil_iff.mp this
        rw [kl0]
        exact iteT (k _ (by rw [kl0] at sF; exact sF))
end
end K0
set_option Elab.async false
set_option linter.all false
set_option maxRecDepth 100000
set_option maxHeartbeats 4000000
namespace K0
open PySem PySem.Spec PyProof.Rows L2
theorem fw_00 {n : Nat} (h : 1 ≤ n) : fwG (n : Int) [.int 0, .int 0] [] = some 1 := by
  rw [fwG, ok_zero h, if_pos rfl]
  have : okAt (n : Int) ([] ++ [toI (.int 0)]) (.int 0) = false := decide_eq_false (fun z => z.2.2 (by simp [toI]))
  rw [fwG, this, if_neg Bool.false_ne_true]
  rfl
theorem fw_0m {n : Nat} (h : 1 ≤ n) : fwG (n : Int) [.int 0, .int (0 - 1), .int (n : Int)] [] = some 1 := by
  rw [fwG, ok_zero h, if_pos rfl]
  have : okAt (n : Int) ([] ++ [toI (.int 0)]) (.int (0 - 1)) = false := by
    show decide ((0 : Int) ≤ 0 - 1 ∧ (0 - 1 : Int) < n ∧ (0 - 1 : Int) ∉ (([] : List Int) ++ [toI (.int 0)])) = false
    exact decide_eq_false (fun z => absurd z.1 (by decide))
  rw [fwG, this, if_neg Bool.false_ne_true]
  rfl
theorem fw_0n {n : Nat} (h : 1 ≤ n) : fwG (n : Int) [.int 0, .none] [] = some 1 := by
  rw [fwG, ok_zero h, if_pos rfl]
  rfl
theorem PartB.mono {K : PySem.W.Frag} {H H' : Hp} (s : Same H H') {n : Nat} {vp : V} {i : Nat} : PartB K H n vp i → PartB K H' n vp i := fun ⟨a, ds, e, h1, h2⟩ => ⟨a, ds, e, h1.mono s, h2⟩
section
variable {X : Cx} {e : Expr} {es : List Expr} {t : TA} {p pos : Pos}
theorem pe_dfS {x : Str} {k : Nat} {ps : List Str} {sp : Sp} {E : L2.St → XK} (T : Df X.prog X.w X.K X.mg X.base x k ps sp) (hr : Room k X.A) (hg : Gl X x) (hx : ∀ σ, PassesAt (L2.CX X.prog X.w) X σ (E σ)) (ha : PA X (e :: es) t)
    (hdb : (x == ("__debug__" : Str)) = false := by decide) (he : starEach (e :: es) X.env = (false, eval e X.env) :: starEach es X.env := by rfl) (hpl : (backTo pos (starEach es X.env)).any (·.1) = false := by rfl) :
    PE X (.Call (.Name x p) (e :: es) [] pos) (tCallS sp E t) := by
  obtain ⟨f, fd, g, kp, F, b⟩ := T.ex
  refine ⟨fun pins s σ H Q I h => ?_⟩
  refine wpAny_Call_Name_kw (ld_glob I hg g ?_ hdb)
  refine PySem.W.callWith_K (h₀ := X.base) I.ok.mod.kin kp (thn (ha.run pos pins s σ H _ I h) fun us s1 ⟨vs, H1, I1, r, q⟩ => ⟨I1.kIn, ?_⟩) he hpl
  exact run_anyS ⟨hr, rfl⟩ F b (hx σ) I1 r q
end
section
variable {P : Program} {w : World} {K : PySem.W.Frag} {mg : Str → Option Value} {base : Heap} {f : Addr} {fd : FuncData}
abbrev exW : List Int := [0, 1, 1, 1, 1]
/-- _law_wrong_parts -/
def spWp (K : PySem.W.Frag) (C D : Addr) : Sp := fun vs H Q _ => ∃ (o p : Addr) (n : Nat) (q : List Pr) (r : List Nat), vs = [.ref o, .int (n : Int)] ∧ OrdAt K C D H o p (n : Int) q r ∧ 1 ≤ n ∧ n ≤ 8 ∧ Ret (.bl true) H Q
abbrev lwpN : List Str := ["_law_order", "_law_many", "_law_places", "_law_part_here", "_law_place", "error"]
theorem sc_lwp : FnScope lwpN ["_law_order", "_law_many"] (defScope s_lwp) := ⟨rfl, rfl, rfl, by decide +kernel, rfl, by decide +kernel, by decide +kernel⟩
theorem ok_lwp {C D CP CO : Addr} (F : Fun K "_law_wrong_parts" "_law_wrong_parts" s_lwp f fd) (gP : mg "BadPart" = some (.ref CP)) (gO : mg "OrdersError" = some (.ref CO)) (mP : PySem.W.exmOne K (.ref CP) (.ref CP) = some true) (xP : XfC K CP) (fP : NoAttr K CP "place") (MK : Df P w K mg base "missed_knots" 7 ["order", "part"] (spMkn K C D CP)) : FnOk P w K mg base (L2.CX P w) 8 f fd ["_law_order", "_law_many"] (spWp K C D) := by
  refine F.okX sc_lwp (fun vs H Q E h => ?_) (fun cdv A outer s H vs Q E hr h => ?_)
  · obtain ⟨o, p, n, q, r, rfl, _⟩ := h
    rfl
  · obtain ⟨o, p, n, q, r, rfl, O, n1, n8, k⟩ := h
    have nd := sc_lwp.nd
    have hu : (A.deeper (envOfC "_law_wrong_parts" (defScope s_lwp) s.heap.objs.size f cdv)).units + 64 < cLine := by have := hr.un; omega
    refine' ⟨_, pss_cons ?h1 (pss_cons (ps_for (passes_of rfl) rfl (pi_tup ?it) (pg_name (i := 3) nd rfl (.inl rfl)) (pss_cons ?b1 (pss_cons ?b2 (pss_one ?b3)))) (pss_one ?h3)), ?hz⟩
    case h1 => exact ps_set (i := 2) nd rfl (.inl rfl) (pe_lst pa_nil)
    case it => exact pe_tup (pa_cons (pe_lst (pa_cons (pv 1) pa_nil)) (pa_cons (pe_lst (pa_cons pe_int (pa_cons pe_int pa_nil))) (pa_cons (pe_lst (pa_cons pe_int (pa_cons pe_bl pa_nil))) (pa_cons (pe_lst (pa_cons pe_int (pa_cons (pe_op op_sub pe_int pe_int) (pa_cons (pv 1) pa_nil)))) (pa_cons (pe_tup (pa_cons pe_int (pa_cons pe_non pa_nil))) pa_nil)))))
    case b1 => exact ps_set (i := 4) nd rfl (.inl rfl) pe_str
    case b2 => exact ps_try_any (tb := fun W => tDrop (tCallS (spMkn K C D CP) (WE W) (tCons (tVar 0) (tCons (tVar 3) tNil)))) rfl rfl (takes_of rfl rfl rfl rfl) (fun W pn xe tk _ => pss_one (ps_expr (pe_dfS MK hr (by rfl) (fun σ => passAt tk σ) (pa_cons (pv 0) (pa_cons (pv 3) pa_nil))))) (.as nd (i := 5) rfl rfl ⟨rfl, by decide, .inl gP⟩ (fun a oe cls d pn hz hf => pss_one (ps_set (i := 4) nd rfl (.inl rfl) (pe_xf xP fP hz hf (pv 5)))) (.cons ⟨rfl, by decide, .inl gO⟩ (fun a oe cls d pn hz hf => pss_one (ps_set (i := 4) nd rfl (.inl rfl) pe_str)) .nil))
    case b3 => exact ps_expr (pe_lapp (pv 2) (pa_cons (pv 4) pa_nil))
    case h3 => exact ps_ret (pe_cmpR (op_eqD hu) (pv 2) (pe_lst (pa_cons pe_int (pa_cons pe_int (pa_cons pe_int (pa_cons pe_int (pa_cons pe_int pa_nil)))))) (by rfl))
    case hz =>
    refine ⟨by show 0 ≤ sizeLine; decide, fun F0 nF => ?_⟩
    have s0 := same_upd (o := .lst []) nF
    have hF0 : (upd H F0 (.lst [])) F0 = some (.lst []) := upd_same
    generalize upd H F0 (.lst []) = H0 at s0 hF0 ⊢
    have apart : ∀ {Ha : Hp} {z : Addr}, Same H0 Ha → Ha z = none → z ≠ F0 := fun sa nz e => by
      rw [e, sa _ _ hF0] at nz
      cases nz
    refine ⟨_, rfl, by show 1 ≤ sizeLine; decide, fun p1 m1 => ?_⟩
    have a1 := apart (.refl _) m1
    have s1 := same_upd (o := .lst [.int (n : Int)]) m1
    have d1 : (upd H0 p1 (.lst [.int (n : Int)])) p1 = some (.lst [.int (n : Int)]) := upd_same
    generalize upd H0 p1 (.lst [.int (n : Int)]) = H1 at s1 d1 ⊢
    refine ⟨by show 2 ≤ sizeLine; decide, fun p2 m2 => ?_⟩
    have a2 := apart s1 m2
    have s2 := same_upd (o := .lst [.int 0, .int 0]) m2
    have d2 : (upd H1 p2 (.lst [.int 0, .int 0])) p2 = some (.lst [.int 0, .int 0]) := upd_same
    generalize upd H1 p2 (.lst [.int 0, .int 0]) = H2 at s2 d2 ⊢
    refine ⟨by show 2 ≤ sizeLine; decide, fun p3 m3 => ?_⟩
    have a3 := apart (s1.trans s2) m3
    have s3 := same_upd (o := .lst [.int 0, .bl true]) m3
    have d3 : (upd H2 p3 (.lst [.int 0, .bl true])) p3 = some (.lst [.int 0, .bl true]) := upd_same
    generalize upd H2 p3 (.lst [.int 0, .bl true]) = H3 at s3 d3 ⊢
    refine ⟨_, _, rfl, rfl, _, rfl, by show 3 ≤ sizeLine; decide, fun p4 m4 => ?_⟩
    have a4 := apart (s1.trans (s2.trans s3)) m4
    have s4 := same_upd (o := .lst [.int 0, .int (0 - 1), .int (n : Int)]) m4
    have d4 : (upd H3 p4 (.lst [.int 0, .int (0 - 1), .int (n : Int)])) p4 = some (.lst [.int 0, .int (0 - 1), .int (n : Int)]) := upd_same
    generalize upd H3 p4 (.lst [.int 0, .int (0 - 1), .int (n : Int)]) = H4 at s4 d4 ⊢
    refine ⟨by show 2 ≤ sizeLine; decide, fun p5 m5 => ?_⟩
    have a5 := apart (s1.trans (s2.trans (s3.trans s4))) m5
    have s5 := same_upd (o := .tup [.int 0, .non]) m5
    have d5 : (upd H4 p5 (.tup [.int 0, .non])) p5 = some (.tup [.int 0, .non]) := upd_same
    generalize upd H4 p5 (.tup [.int 0, .non]) = H5 at s5 d5 ⊢
    refine ⟨by show 5 ≤ sizeLine; decide, fun T m6 => ?_⟩
    have a6 := apart (s1.trans (s2.trans (s3.trans (s4.trans s5)))) m6
    have s6 := same_upd (o := .tup [.ref p1, .ref p2, .ref p3, .ref p4, .ref p5]) m6
    have d6 : (upd H5 T (.tup [.ref p1, .ref p2, .ref p3, .ref p4, .ref p5])) T = some (.tup [.ref p1, .ref p2, .ref p3, .ref p4, .ref p5]) := upd_same
    generalize upd H5 T (.tup [.ref p1, .ref p2, .ref p3, .ref p4, .ref p5]) = H6 at s6 d6 ⊢
    have s56 := s5.trans s6
    have s46 := s4.trans s56
    have s36 := s3.trans s46
    have s26 := s2.trans s36
    have s06 := s1.trans s26
    have kp : ∀ {z : Addr} {o : HO}, z ≠ F0 → H6 z = some o → (del H6 F0) z = some o := fun ne h => by rw [del_ne ne]; exact h
    have keepH : Same H (del H6 F0) := fun b o h => kp (fun e => by rw [e, nF] at h; cases h) (s06 _ _ (s0 _ _ h))
    have each : ∀ (j : Nat) (v : V), ([.ref p1, .ref p2, .ref p3, .ref p4, .ref p5] : List V)[j]? = some v → ∃ i : Nat, exW[j]? = some (i : Int) ∧ PartB K (del H6 F0) n v i := fun j v h => by
      match j, h with
      | 0, h => cases h; exact ⟨0, rfl, p1, _, rfl, .lst (kp a1 (s26 _ _ d1)) (.cons (.int _) .nil), fw_n n⟩
      | 1, h => cases h; exact ⟨1, rfl, p2, _, rfl, .lst (kp a2 (s36 _ _ d2)) (.cons (.int _) (.cons (.int _) .nil)), fw_00 n1⟩
      | 2, h => cases h; exact ⟨1, rfl, p3, _, rfl, .lst (kp a3 (s46 _ _ d3)) (.cons (.int _) (.cons (.bl _) .nil)), fw_true n1⟩
      | 3, h => cases h; exact ⟨1, rfl, p4, _, rfl, .lst (kp a4 (s56 _ _ d4)) (.cons (.int _) (.cons (.int _) (.cons (.int _) .nil))), fw_0m n1⟩
      | 4, h => cases h; exact ⟨1, rfl, p5, _, rfl, .tup (kp a5 (s6 _ _ d5)) (.cons (.int _) (.cons .non .nil)), fw_0n n1⟩
      | j + 5, h => cases h
    have d6' := kp a6 d6
    let Pv : Nat → L2.St → Hp → Prop := fun i σ H' => ∃ o3 o4, σ = [some (.ref o), some (.int (n : Int)), some (.ref F0), o3, o4, none] ∧ Same (del H6 F0) H' ∧ H' F0 = some (.lst ((exW.take i).map V.int))
    refine ⟨T, rfl, ⟨_, SqT.of d6⟩, for_tup (K := K) (a := T) (xs := [.ref p1, .ref p2, .ref p3, .ref p4, .ref p5]) Pv ⟨none, none, rfl, del_sub, s06 _ _ hF0⟩ (fun i σ H' _ h => ?_) (fun i v σ H' hi h => ?_) (fun σ H' h => ?_)⟩
    · obtain ⟨_, _, _, sm, _⟩ := h
      exact SqT.of (sm _ _ d6')
    · obtain ⟨o3, o4, rfl, sm, hF⟩ := h
      obtain ⟨ix, he, hb⟩ := each i v hi
      refine ⟨_, rfl, _, rfl, o, p, v, n, q, r, rfl, (O.mono keepH).mono sm, n8, .inr ⟨ix, hb.mono sm, fun Ha d sa hd => ?_⟩⟩
      refine ⟨true, mP, fun _ x nx => ?_, fun z => nomatch z⟩
      have hFa := sa _ _ hF
      refine ⟨_, rfl, rfl, rfl, d, _, _, rfl, hd, rfl, ?_⟩
      refine ⟨_, rfl, .inl ⟨rfl, _, SqL.of hFa⟩, _, rfl, F0, _, _, rfl, rfl, hFa, ?_, ?_⟩
      · rw [List.length_map, List.length_take, sizeLine_eq]
        show min i 5 < _
        omega
      · refine ⟨_, _, rfl, fun b o' h => ?_, ?_⟩
        · have bF : b ≠ F0 := fun e => by
            rw [e, del_same] at h
            cases h
          rw [upd_ne bF]
          exact sa _ _ (sm _ _ h)
        · rw [upd_same, take_at he, List.map_append]
          rfl
    · obtain ⟨o3, o4, rfl, sm, hF⟩ := h
      have hF : H' F0 = some (.lst (exW.map V.int)) := hF
      refine ⟨_, rfl, by show 5 ≤ sizeLine; decide, fun z nz => ?_⟩
      have sz := same_upd (o := .lst [.int 0, .int 1, .int 1, .int 1, .int 1]) nz
      refine ⟨.list (exW.map PyData.int), .list (exW.map PyData.int), (Dt.lst (sz _ _ hF) (.ints _ exW)).dp, (Dt.lst (upd_same (H := H') (a := z)) (.ints _ exW)).dp, intsL_shaped _, intsL_shaped _, ?_⟩
      rw [intsL_eqv, decide_eq_true rfl]
      exact k _ fun b o' h => sz _ _ (sm _ _ (keepH _ _ h))
end
end K0
set_option Elab.async false
set_option linter.all false
set_option maxRecDepth 100000
set_option maxHeartbeats 8000000
namespace K0
open PySem PySem.Spec PyProof.Rows L2
theorem nsT_shaped (r : List Nat) : SeqAt.shaped (.tuple (nsD r)) = true := by
  rw [nsD_ints]
  exact intsT_shaped _
theorem nsT_eqv (r : List Nat) : PyData.eqv (.tuple (nsD r)) (.tuple (nsD r)) = true := by
  rw [nsD_ints, intsT_eqv, decide_eq_true rfl]
theorem bad_same {n : Int} {q : List Pr} {r : List Nat} {rs : List Rw} (is : IsRows n q rs) : rs.filter (hitR "F" r) = badL r rs := by
  unfold badL
  refine List.filter_congr fun z hz => ?_
  obtain ⟨a, b, c, d, rfl, _, _⟩ := (is.mem z).mp hz
  rw [hitF]
  rfl
/-- the part of a bad row: its first lot, and what it misses -/
theorem bad_lot {n : Nat} {q : List Pr} {r g : List Nat} {a b c d : Nat} (cl' : Cl (n : Int) q) (pr : r.Perm (List.range n)) (R : RQ q a b c d) (h1 : r.idxOf a < r.idxOf b) (h2 : r.idxOf d < r.idxOf c) (mg : ∀ x, x ∈ g ↔ x = a ∨ x = b ∨ x = c ∨ x = d) (x : Nat) : x ∈ lotOf q (fun x => decide (x ∈ g)) r ↔ x = a ∨ x = d := by
  obtain ⟨⟨_, an⟩, ⟨_, bn⟩, ⟨_, cn⟩, _, dn⟩ := R.rng cl'
  have ndr : r.Nodup := pr.nodup_iff.mpr List.nodup_range
  have OK := lotOf_ok (q := q) (p := fun x => decide (x ∈ g)) (r := r) (fun x => hasP_irr cl' x) (fun x y => hasP_sym q x y) ndr
  have mr : ∀ {x : Nat}, x < n → x ∈ r := fun h => pr.mem_iff.mpr (List.mem_range.mpr h)
  have e1 := hasP_cl.mpr R.ab
  have e2 := hasP_cl.mpr R.bc
  have e3 := hasP_cl.mpr R.cd
  have nf : ∀ {x y : Nat}, ¬ cl q x y → hasP q x y = false := fun h => by
    cases e : hasP q _ _ with
    | false => rfl
    | true => exact absurd (hasP_cl.mp e) h
  have f1 := nf R.ac
  have f2 := nf R.bd
  have f3 := nf R.ad
  have ha : a ∈ lotOf q (fun x => decide (x ∈ g)) r := by
    rcases OK.up a (mr (by omega)) (decide_eq_true ((mg a).mpr (.inl rfl))) with h | ⟨y, hy, e, lt⟩
    · exact h
    · have yg := of_decide_eq_true (OK.sub y hy).2
      rcases (mg y).mp yg with rfl | rfl | rfl | rfl
      · rw [hasP_irr cl'] at e
        cases e
      · omega
      · rw [hasP_sym, f1] at e
        cases e
      · rw [hasP_sym, f3] at e
        cases e
  have hd : d ∈ lotOf q (fun x => decide (x ∈ g)) r := by
    rcases OK.up d (mr (by omega)) (decide_eq_true ((mg d).mpr (.inr (.inr (.inr rfl))))) with h | ⟨y, hy, e, lt⟩
    · exact h
    · have yg := of_decide_eq_true (OK.sub y hy).2
      rcases (mg y).mp yg with rfl | rfl | rfl | rfl
      · rw [f3] at e
        cases e
      · rw [f2] at e
        cases e
      · omega
      · rw [hasP_irr cl'] at e
        cases e
  constructor
  · intro hx
    have xg := of_decide_eq_true (OK.sub x hx).2
    rcases (mg x).mp xg with rfl | rfl | rfl | rfl
    · exact .inl rfl
    · have := OK.st _ ha _ hx
      rw [e1] at this
      cases this
    · have := OK.st _ hx _ hd
      rw [e3] at this
      cases this
    · exact .inr rfl
  · rintro (rfl | rfl)
    · exact ha
    · exact hd
theorem bad_miss {n : Nat} {q : List Pr} {r g k2 : List Nat} {a b c d : Nat} {rows : List (List Nat)} (cl' : Cl (n : Int) q) (pr : r.Perm (List.range n)) (R : RQ q a b c d) (h1 : r.idxOf a < r.idxOf b) (h2 : r.idxOf d < r.idxOf c) (mg : ∀ x, x ∈ g ↔ x = a ∨ x = b ∨ x = c ∨ x = d) (ku : k2.Pairwise (· < ·)) (mk : ∀ x, x ∈ k2 ↔ x = b ∨ x = c) (mr : MkR q r g rows) : rows = [k2] := by
  have lt := bad_lot cl' pr R h1 h2 mg
  have e1 := hasP_cl.mpr R.ab
  have e2 := hasP_cl.mpr R.bc
  have e3 := hasP_cl.mpr R.cd
  have nf : ∀ {x y : Nat}, ¬ cl q x y → hasP q x y = false := fun h => by
    cases e : hasP q _ _ with
    | false => rfl
    | true => exact absurd (hasP_cl.mp e) h
  have f1 := nf R.ac
  have f2 := nf R.bd
  have n1 := cl_ne cl' R.ab
  have n2 := cl_ne cl' R.bc
  have n3 := cl_ne cl' R.cd
  have n4 := R.nac
  have n5 := R.nbd
  have n6 := R.nad
  refine upR_uniq mr.up (List.pairwise_singleton _ _) fun k => ?_
  rw [mr.mem, List.mem_singleton]
  constructor
  · rintro ⟨fu, ne, out⟩
    have sub : ∀ x ∈ k, x = b ∨ x = c := fun x hx => by
      have o := out x hx
      rw [lt] at o
      rcases (mg x).mp (fu.sub x hx) with h | h | h | h
      · exact absurd (.inl h) o
      · exact .inl h
      · exact .inr h
      · exact absurd (.inr h) o
    have hb : b ∈ k := Classical.byContradiction fun no => by
      obtain ⟨x, hx, e⟩ := fu.mx b ((mg b).mpr (.inr (.inl rfl))) no
      rcases sub x hx with rfl | rfl
      · exact no hx
      · rw [hasP_sym, e2] at e
        cases e
    have hc : c ∈ k := Classical.byContradiction fun no => by
      obtain ⟨x, hx, e⟩ := fu.mx c ((mg c).mpr (.inr (.inr (.inl rfl)))) no
      rcases sub x hx with rfl | rfl
      · rw [e2] at e
        cases e
      · exact no hx
    refine asc_uniq fu.up ku fun x => ⟨fun h => (mk x).mpr (sub x h), fun h => ?_⟩
    rcases (mk x).mp h with rfl | rfl
    · exact hb
    · exact hc
  · rintro rfl
    have hb := (mk b).mpr (.inl rfl)
    have hc := (mk c).mpr (.inr rfl)
    refine ⟨⟨ku, fun x hx => ?_, fun x hx y hy ne => ?_, fun y hy no => ?_⟩, (fun e => by rw [e] at hb; cases hb), fun x hx z => ?_⟩
    · rcases (mk x).mp hx with rfl | rfl
      · exact (mg _).mpr (.inr (.inl rfl))
      · exact (mg _).mpr (.inr (.inr (.inl rfl)))
    · rcases (mk x).mp hx with hx | hx <;> rcases (mk y).mp hy with hy | hy
      · exact absurd (hx.trans hy.symm) ne
      · rw [hx, hy]
        exact e2
      · rw [hx, hy, hasP_sym]
        exact e2
      · exact absurd (hx.trans hy.symm) ne
    · rcases (mg y).mp hy with rfl | rfl | rfl | rfl
      · exact ⟨c, hc, by rw [hasP_sym]; exact f1⟩
      · exact absurd hb no
      · exact absurd hc no
      · exact ⟨b, hb, f2⟩
    · rw [lt] at z
      rcases (mk x).mp hx with rfl | rfl <;> rcases z with z | z <;> omega
theorem nat_up {ns : List Int} {zs : List Nat} (pm : ns.Perm (zs.map fun (k : Nat) => (k : Int))) (srt : ns.Pairwise (· ≤ ·)) (nd : zs.Nodup) : ∃ k : List Nat, ns.map V.int = nvs k ∧ k.Pairwise (· < ·) ∧ ∀ x, x ∈ k ↔ x ∈ zs := by
  have nn : ∀ k ∈ ns, 0 ≤ k := fun k hk => by
    obtain ⟨z, _, e⟩ := List.mem_map.mp (pm.mem_iff.mp hk)
    omega
  have ndn : ns.Nodup := by
    rw [pm.nodup_iff]
    exact List.pairwise_map.mpr (nd.imp fun h e => h (by omega))
  refine ⟨ns.map Int.toNat, ?_, ?_, fun x => ?_⟩
  · unfold nvs
    rw [List.map_map]
    refine List.map_congr_left fun k hk => ?_
    show V.int k = V.int ((k.toNat : Nat) : Int)
    rw [Int.toNat_of_nonneg (nn k hk)]
  · rw [List.pairwise_map]
    refine List.Pairwise.imp_of_mem (fun {a b} ha hb h => ?_) (srt_lt srt ndn)
    have := nn a ha
    omega
  · have := pm.map Int.toNat
    rw [List.map_map] at this
    have e6 : (Int.toNat ∘ fun (k : Nat) => (k : Int)) = id := by funext k; exact Int.toNat_natCast k
    rw [e6, List.map_id] at this
    exact this.mem_iff
/-- parts drawn -/
def OutK (H : Hp) (d : Addr) (n : Nat) (Q : VK) : Prop := ∀ H' L kns, Same (del H d) H' → H L = none → KnH H' L kns → (∀ k ∈ kns, k.Pairwise (· < ·) ∧ ∀ x ∈ k, x < n) → kns.length ≤ 256 → Q (.ref L) H'
theorem ifOutK {c : Bool} {A B : Prop} {H : Hp} {d : Addr} {n : Nat} {KK : VK} (rest : OutK H d n KK) (hA : OutK H d n KK → A) (hB : OutK H d n KK → B) : if c = true then A else B := by
  cases c
  · exact hB rest
  · exact hA rest
end K0
set_option Elab.async false
set_option linter.all false
set_option maxRecDepth 100000
set_option maxHeartbeats 8000000
namespace K0
open PySem PySem.Spec PyProof.Rows L2
abbrev s_law : Stmt := top 80
section
variable {P : Program} {w : World} {K : PySem.W.Frag} {mg : Str → Option Value} {base : Heap} {f : Addr} {fd : FuncData}
def spLw (K : PySem.W.Frag) : Sp := fun vs H Q _ => ∃ (a : Addr) (ns : List Int), vs = [.ref a] ∧ SqL K H a (ns.map V.int) ∧ ∀ H', Q (.bl true) H'
abbrev lwN : List Str := ["_law_script", "_law_draws_here", "_law_case_here", "_law_many", "_law_order", "_law_bad_here", "_law_parts", "_law_part_here", "_law_whole", "_law_told", "_law_knot", "_law_turn", "_law_x"]
theorem sc_lw : FnScope lwN ["_law_script"] (defScope s_law) := ⟨rfl, rfl, rfl, by decide +kernel, rfl, by decide +kernel, by decide +kernel⟩
theorem ok_lw {C CN CW D CP : Addr} (F : Fun K "law" "law" s_law f fd) (B : Blt3 mg) (WK : WebK P w K mg base C CN CW) (OK : OrdK P w K mg base C D) (DR : Df P w K mg base "_law_draws" 1 ["_law_script"] (spDr K)) (TK : Df P w K mg base "_law_take" 1 ["_law_draws_here", "_law_many"] spTk) (CA : Df P w K mg base "_law_case" 5 ["_law_draws_here", "_law_most"] spMd) (LQ : Df P w K mg base "_law_quads" 3 ["_law_many", "_law_pairs"] spLq)
    (LB : Df P w K mg base "_law_bad" 2 ["_law_row_here", "_law_quads_here", "_law_letter"] spLb2) (SE : Df P w K mg base "_law_set" 2 ["_law_draws_here", "_law_many"] spSe) (SUB : Df P w K mg base "_law_subsets" 1 ["_law_many"] spSub) (PF : Df P w K mg base "_law_part_fits" 8 ["_law_order", "_law_case_here", "_law_part_here", "_law_right"] (spPf K C D))
    (MK : Df P w K mg base "missed_knots" 7 ["order", "part"] (spMkn K C D CP)) (MKd : DfD P w K mg base "missed_knots" 7 ["order", "part"] [.non] (spMkn K C D CP)) (FLO : Df P w K mg base "first_lot" 6 ["order", "part"] (spFlo K C D CP)) (MP : Df P w K mg base "missed_part" 7 ["order"] (spMpt K C D)) (WP : Df P w K mg base "_law_wrong_parts" 8 ["_law_order", "_law_many"] (spWp K C D)) :
    FnOk P w K mg base (L2.CX P w) 10 f fd ["_law_script"] (spLw K) := by
  refine F.okX sc_lw (fun vs H Q E h => ?_) (fun cdv A outer s H vs Q E hr h => ?_)
  · obtain ⟨l, ms, rfl, _⟩ := h
    rfl
  · obtain ⟨l, ms, rfl, hs, k⟩ := h
    have nd := sc_lw.nd
    have r1 : Room 1 _ := hr.mono (by decide)
    have r2 : Room 2 _ := hr.mono (by decide)
    have r3 : Room 3 _ := hr.mono (by decide)
    have r5 : Room 5 _ := hr.mono (by decide)
    have r6 : Room 6 _ := hr.mono (by decide)
    have r7 : Room 7 _ := hr.mono (by decide)
    have r8 : Room 8 _ := hr.mono (by decide)
    have hu : (A.deeper (envOfC "law" (defScope s_law) s.heap.objs.size f cdv)).units + 64 < cLine := by have := hr.un; omega
    refine' ⟨_, pss_cons ?h1 (pss_cons ?h2 (pss_cons ?h3 (pss_cons ?h4 (pss_cons ?h5 (pss_cons ?h6 (pss_cons ?h7 (pss_cons ?h8 (pss_cons ?h9 (pss_cons ?h10 (pss_cons ?h11 (pss_cons ?h12 (pss_cons ?h13 (pss_cons ?h14 (pss_cons ?h15 (pss_cons ?h16 (pss_cons ?h17 (pss_cons ?h18 (pss_cons ?h19 (pss_one ?h20))))))))))))))))))), ?hz⟩
    case h1 => exact ps_set (i := 1) nd rfl (.inr rfl) (pe_df DR r1 (by rfl) passUp (pa_cons (pv 0) pa_nil))
    case h2 => exact ps_set (i := 2) nd rfl (.inl rfl) (pe_df CA r5 (by rfl) passUp (pa_cons (pv 1) (pa_cons (pe_op op_add pe_int (pe_df TK r1 (by rfl) passUp (pa_cons (pv 1) (pa_cons pe_int pa_nil)))) pa_nil)))
    case h3 => exact ps_set (i := 3) nd rfl (.inr rfl) (pe_ix ix_list (pv 2) pe_int (fun _ _ => rfl))
    case h4 => exact ps_set (i := 4) nd rfl (.inl rfl) (pe_ord OK r7 (by rfl) passUp (pa_cons (pe_web WK r5 (by rfl) passUp (pa_cons (pv 3) (pa_cons (pe_ix ix_list (pv 2) pe_int (fun _ _ => rfl)) pa_nil))) (pa_cons (pe_ix ix_list (pv 2) pe_int (fun _ _ => rfl)) pa_nil)))
    case h5 => exact ps_set (i := 5) nd rfl (.inl rfl) (pe_df LB r2 (by rfl) passUp (pa_cons (pe_ix ix_list (pv 2) pe_int (fun _ _ => rfl)) (pa_cons (pe_df LQ r3 (by rfl) passUp (pa_cons (pv 3) (pa_cons (pe_ix ix_list (pv 2) pe_int (fun _ _ => rfl)) pa_nil))) (pa_cons pe_str pa_nil))))
    case h6 =>
      refine' ps_setLc (i := 6) (own := [("_law_turn", 11)]) (g := gName 11) (tt := tYes) (te := tCall spSe [] (fun _ _ _ => False) (tCons (tVar 1) (tCons (tVar 3) tNil))) rfl nd rfl ?w1 ?w2 ?w3 ?w4 ?w5 ?w6 ?w7
      case w1 => rfl
      case w2 => rfl
      case w3 => exact pi_range1 (by rfl) B.range (pa_cons pe_int pa_nil)
      case w4 => exact blkOk_by (N := lwN) (sc := defScope s_law) (by decide +kernel)
      case w5 => exact fun _ _ _ _ _ => pg_name (i := 11) nd rfl (.inl rfl)
      case w6 => exact fun _ _ _ _ _ => pts_nil
      case w7 => exact fun _ _ _ _ _ => pe_df SE r2 (by rfl) passE0 (pa_cons (pv 1) (pa_cons (pv 3) pa_nil))
    case h7 => exact ps_if (pt_cmpR op_eq (pe_df TK r1 (by rfl) passUp (pa_cons (pv 1) (pa_cons pe_int pa_nil))) pe_int (nomark _)) (pss_one (ps_set (i := 6) nd rfl (.inl rfl) (pe_df SUB r1 (by rfl) passUp (pa_cons (pe_callB (call_min2 rfl) (by rfl) B.min (by decide +kernel) (pa_cons (pv 3) (pa_cons pe_int pa_nil))) pa_nil)))) pss_nil
    case h8 =>
      refine' ps_expr (pe_lapp (pv 6) (pa_cons ?lc pa_nil))
      case lc => exact pe_lc (own := [("_law_x", 12)]) (g := gName 12) (tt := tYes) (te := tVar 12) rfl nd (pi_range1 (by rfl) B.range (pa_cons (pv 3) pa_nil)) (blkOk_by (N := lwN) (sc := defScope s_law) (by decide +kernel)) (fun _ _ _ _ _ => pg_name (i := 12) nd rfl (.inl rfl)) (fun _ _ _ _ _ => pts_nil) (fun _ _ _ _ _ => pv 12)
    case h9 =>
      refine' ps_for (passes_of rfl) rfl (pi_list (pv 6)) (pg_name (i := 7) nd rfl (.inl rfl)) (pss_one (ps_if ?c1 (pss_one (ps_ret pe_bl)) pss_nil))
      case c1 => exact pt_not (pt_val (pe_df PF r8 (by rfl) passUp (pa_cons (pv 4) (pa_cons (pv 2) (pa_cons (pv 7) (pa_cons (pe_cmpR op_eq (pe_callB c_len (by rfl) B.len PySem.boot_len (pa_cons (pv 5) pa_nil)) pe_int (nomark _)) pa_nil))))))
    case h10 =>
      refine' ps_setLc (i := 8) (own := [("_law_x", 12)]) (g := gName 12) (tt := tYes) (te := tVar 12) rfl nd rfl ?w1 ?w2 ?w3 ?w4 ?w5 ?w6 ?w7
      case w1 => rfl
      case w2 => rfl
      case w3 => exact pi_range1 (by rfl) B.range (pa_cons (pv 3) pa_nil)
      case w4 => exact blkOk_by (N := lwN) (sc := defScope s_law) (by decide +kernel)
      case w5 => exact fun _ _ _ _ _ => pg_name (i := 12) nd rfl (.inl rfl)
      case w6 => exact fun _ _ _ _ _ => pts_nil
      case w7 => exact fun _ _ _ _ _ => pv 12
    case h11 =>
      refine' ps_if (PW.pt (pw_or ?c1 (pw_or1 ?c2))) (pss_one (ps_ret pe_bl)) pss_nil
      case c1 => exact pt_cmpR (op_neD hu) (pe_dfd MKd r7 (by rfl) passUp (pa_cons (pv 4) pa_nil)) (pe_df MK r7 (by rfl) passUp (pa_cons (pv 4) (pa_cons (pv 8) pa_nil))) (by rfl)
      case c2 => exact pt_cmpR (op_neD hu) (pe_df MK r7 (by rfl) passUp (pa_cons (pv 4) (pa_cons (pe_lst pa_nil) pa_nil))) (pe_tup pa_nil) (by rfl)
    case h12 => exact ps_if (pt_cmpR (op_neD hu) (pe_df FLO r6 (by rfl) passUp (pa_cons (pv 4) (pa_cons pe_non pa_nil))) (pe_df FLO r6 (by rfl) passUp (pa_cons (pv 4) (pa_cons (pv 8) pa_nil))) (by rfl)) (pss_one (ps_ret pe_bl)) pss_nil
    case h13 => exact ps_set (i := 9) nd rfl (.inl rfl) (pe_df MP r7 (by rfl) passUp (pa_cons (pv 4) pa_nil))
    case h14 =>
      refine' ps_if ?c1 (pss_one (ps_ret (pe_and ?c2 (pe_one ?c3)))) pss_nil
      case c1 => exact pt_cmpR op_eq (pe_callB c_len (by rfl) B.len PySem.boot_len (pa_cons (pv 5) pa_nil)) pe_int (nomark _)
      case c2 => exact pe_cmpR op_isN (pv 9) pe_non (nomark _)
      case c3 => exact pe_df WP r8 (by rfl) passUp (pa_cons (pv 4) (pa_cons (pv 3) pa_nil))
    case h15 =>
      refine' ps_if (PW.pt (pw_or ?c1 (pw_or1 ?c2))) (pss_one (ps_ret pe_bl)) pss_nil
      case c1 => exact pt_not (pt_val (pe_callB call_isi (by rfl) B.isi (by decide +kernel) (pa_cons (pv 9) (pa_cons (pe_bltn (v := .ty "tuple") (by rfl) B.tuple (by decide +kernel) rfl) pa_nil))))
      case c2 => exact pt_cmpR op_ne (pe_callB c_len (by rfl) B.len PySem.boot_len (pa_cons (pv 9) pa_nil)) pe_int (nomark _)
    case h16 => exact ps_set (i := 7) nd rfl (.inl rfl) (pe_callTy call_list_of (by rfl) B.list (by decide +kernel) (pa_cons (pe_ix ix_tup (pv 9) pe_int (fun _ _ => rfl)) pa_nil))
    case h17 => exact ps_set (i := 10) nd rfl (.inl rfl) (pe_callTy call_tuple_of (by rfl) B.tuple (by decide +kernel) (pa_cons (pe_callB cr_sorted (by rfl) B.sorted (by decide +kernel) (pa_cons (pe_lst (pa_cons (pe_ix ix_tup (pe_ix ix_list (pv 5) pe_int (fun _ _ => rfl)) pe_int (fun _ _ => rfl)) (pa_cons (pe_ix ix_tup (pe_ix ix_list (pv 5) pe_int (fun _ _ => rfl)) pe_int (fun _ _ => rfl)) pa_nil))) pa_nil)) pa_nil))
    case h18 =>
      refine' ps_if ?c1 (pss_one (ps_ret pe_bl)) pss_nil
      case c1 => exact pt_cmpR (op_neD hu) (pv 9) (pe_tup (pa_cons (pe_callTy call_tuple_of (by rfl) B.tuple (by decide +kernel) (pa_cons (pe_callB cr_sorted_itup (by rfl) B.sorted (by decide +kernel) (pa_cons (pe_ix ix_list (pv 5) pe_int (fun _ _ => rfl)) pa_nil)) pa_nil)) (pa_cons (pv 10) pa_nil))) (by rfl)
    case h19 =>
      refine' ps_if ?c1 (pss_one (ps_ret pe_bl)) pss_nil
      case c1 => exact pt_cmpR (op_neD hu) (pe_df FLO r6 (by rfl) passUp (pa_cons (pv 4) (pa_cons (pv 7) pa_nil))) (pe_callTy call_tuple_of (by rfl) B.tuple (by decide +kernel) (pa_cons (pe_callB cr_sorted (by rfl) B.sorted (by decide +kernel) (pa_cons (pe_lst (pa_cons (pe_ix ix_tup (pe_ix ix_list (pv 5) pe_int (fun _ _ => rfl)) pe_int (fun _ _ => rfl)) (pa_cons (pe_ix ix_tup (pe_ix ix_list (pv 5) pe_int (fun _ _ => rfl)) pe_int (fun _ _ => rfl)) pa_nil))) pa_nil)) pa_nil)) (by rfl)
    case h20 =>
      refine' ps_ret (pe_and ?c1 (pe_one ?c2))
      case c1 => exact pe_cmpR (op_eqD hu) (pe_df MK r7 (by rfl) passUp (pa_cons (pv 4) (pa_cons (pv 7) pa_nil))) (pe_tup (pa_cons (pv 10) pa_nil)) (by rfl)
      case c2 => exact pe_df WP r8 (by rfl) passUp (pa_cons (pv 4) (pa_cons (pv 3) pa_nil))
    case hz =>
    refine ⟨_, rfl, l, ms, rfl, hs, fun H1 d s1 nd1 dr1 => ?_⟩
    refine ⟨_, rfl, _, rfl, d, 2, rfl, by decide, dr1, fun m H2 m0 m2 s2 dr2 => ⟨_, _, rfl, rfl, ?_⟩⟩
    dsimp (proj := false) only [tNil]
    refine ⟨d, 6 + m, rfl, by omega, by omega, dr2, fun H3 v3 n3 q r3 s3 dr3 cs ck n2 nm => ?_⟩
    obtain ⟨a, b, c, rfl, ha, hb, hc⟩ := id cs
    obtain ⟨n, rfl⟩ := Int.eq_ofNat_of_zero_le (show 0 ≤ n3 by omega)
    have pr0 := ck.p
    rw [Int.toNat_natCast] at pr0
    obtain ⟨r, er, pr⟩ := nat_ofG pr0
    have hc' : (del H3 d) c = some (.lst (nvs r)) := by
      rw [← er]
      exact hc
    have CA3 : CaF (del H3 d) a n q r := ⟨⟨b, c, ha, hb, hc'⟩, ck.c, pr, by omega⟩
    have ha0 := del_sub _ _ ha
    have lift : ∀ {Ha Hb : Hp}, Same Ha Hb → Same (del Ha d) (del Hb d) := fun s => same_del (del_sub.trans s)
    have q49 := len28 ck.c (by omega)
    have n7 : n ≤ 7 := by omega
    refine ⟨_, rfl, a, _, 0, _, rfl, rfl, SqL.of ha0, rfl, ?_⟩
    -- the order
    refine ⟨_, rfl, _, rfl, a, _, 1, _, rfl, rfl, SqL.of ha0, rfl, ?_⟩
    dsimp (proj := false) only [tNil]
    show spMk K C CN CW [.int (n : Int), .ref b] _ _ _
    refine mk_ls (hb.mono del_sub) ck.c.rng (by omega) (by omega) (by omega) fun H5 pw q' s5 npw cq eq' Wn => ?_
    have e0 : q = q' := (cl_eq ck.c cq eq').symm
    subst e0
    have W5 : WebAt C H5 pw n q := Wn.mono same_new
    refine ⟨_, rfl, a, _, 2, _, rfl, rfl, SqL.of (s5 _ _ ha0), rfl, ?_⟩
    dsimp (proj := false) only [tNil]
    show spMo K C D [.ref pw, .ref c] _ _ _
    refine ⟨pw, c, n, q, r, rfl, W5, by omega, .lst (s5 _ _ (del_sub _ _ hc')) (dta_nvs r), (by rw [Int.toNat_natCast]; exact pr), fun H7 o s7 no O7 => ?_⟩
    have s37 := s5.trans s7
    -- its rows, the bad ones
    refine ⟨_, rfl, a, _, 2, _, rfl, rfl, SqL.of (s37 _ _ ha0), rfl, _, rfl, _, rfl, a, _, 1, _, rfl, rfl, SqL.of (s37 _ _ ha0), rfl, ?_⟩
    dsimp (proj := false) only [tNil]
    refine ⟨b, n, q, rfl, by omega, by omega, ck.c, (hb.mono del_sub).mono s37, fun H8 t8 zs rs s8 nt8 ht8 dz is lrs => ?_⟩
    have s38 := s37.trans s8
    dsimp (proj := false) only [tNil]
    refine ⟨c, t8, "F", n, q, r, zs, rs, rfl, oneF, s38 _ _ (del_sub _ _ hc'), ht8, dz, is, ck.c, by omega, by omega, (by rw [Int.toNat_natCast]; exact pr), fun H9 t9 xs s9 nt9 ht9 dxs => ?_⟩
    have s39 := s38.trans s9
    have dr9 := dr3.mono s39
    have O9 := ord_del (O7.mono (s8.trans s9)) dr9
    have CA9 := CA3.mono (lift s39)
    have td : t9 ≠ d := (dr3.mono s38).ne nt9
    have ht9d : (del H9 d) t9 = some (.lst xs) := by
      rw [del_ne td]
      exact ht9
    have dx9 := rows_del dr9 dxs
    have eb := bad_same (r := r) is
    rw [eb] at dx9
    have lx : xs.length = (badL r rs).length := by
      have := dx9.len
      rw [List.length_map] at this
      exact this
    clear dxs dz ht8 nt8 lrs
    -- the parts
    refine ⟨3, rfl, by decide, by decide, fun L nL => ?_⟩
    have Ld : L ≠ d := dr9.ne nL
    refine lc_range (lo := 0) (n := 3) (fun i H' => Same (del H9 d) H' ∧ DrO H' d ∧ ∃ kns, KnH (del H' d) L kns ∧ (∀ k ∈ kns, k.Pairwise (· < ·) ∧ ∀ x ∈ k, x < n) ∧ kns.length = i) ⟨sd_upd del_sub nL Ld, dr9.upd Ld, [], ⟨[], by rw [del_ne Ld]; exact upd_same, rfl, fun z hz => by cases hz⟩, (fun k hk => by cases hk), rfl⟩ (fun i H' hi ⟨sm, dr', kns, hL, snd, len⟩ => ?_) (fun H10 ⟨s10, dr10, kns, hL, snd, len⟩ => ?_)
    · refine ⟨rfl, _, rfl, _, rfl, d, (n : Int), rfl, by omega, by omega, dr', fun H2' t2 ns s2' dr2' nt2 ht2 up2 rng2 => ?_⟩
      have t2d : t2 ≠ d := dr'.ne nt2
      have t2L : t2 ≠ L := fun e => by
        obtain ⟨ll, h1, _⟩ := hL
        have := del_sub _ _ h1
        rw [← e, nt2] at this
        cases this
      have tg : ns.map V.int = nvs (ns.map Int.toNat) := by
        unfold nvs
        rw [List.map_map]
        refine List.map_congr_left fun k hk => ?_
        show V.int k = V.int ((k.toNat : Nat) : Int)
        rw [Int.toNat_of_nonneg (rng2 k hk).1]
      obtain ⟨ys, h6, h7, h8⟩ := (hL.mono (same_del s2')).push (k := ns.map Int.toNat) (p := t2) (by rw [del_ne t2d, ht2, tg]) t2L
      refine ⟨ys, del_sub _ _ h6, ?_, sd_upd (sd_trans sm s2') nL Ld, dr2'.upd Ld, kns ++ [ns.map Int.toNat], by rw [upd_del Ld]; exact h8, fun k hk => ?_, by rw [List.length_append, len]; rfl⟩
      · rw [h7, len, sizeLine_eq]
        omega
      · rcases List.mem_append.mp hk with hk | hk
        · exact snd k hk
        · rw [List.mem_singleton.mp hk]
          refine ⟨?_, fun x hx => ?_⟩
          · rw [List.pairwise_map]
            refine List.Pairwise.imp_of_mem (fun {a b} ha hb h => ?_) up2
            have := rng2 a ha
            have := rng2 b hb
            omega
          · obtain ⟨k, hk, rfl⟩ := List.mem_map.mp hx
            have := rng2 k hk
            omega
    refine ⟨_, rfl, d, 8, rfl, by decide, dr10, fun t H11 t0 t8' s11 dr11 => ⟨rfl, _, rfl, ?_⟩⟩
    have s911 := sd_trans s10 s11
    show (if (_ : Bool) = true then _ else _)
    refine ifOutK (H := H9) (d := d) (n := n) (KK := fun v H => tNext _ [some (.ref l), some (.ref d), some (.ref a), some (.int (n : Int)), some (.ref o), some (.ref t9), some v, none, none, none, none, none, none] H) ?rest (fun rest => ?t1) (fun rest => rest H11 L kns s911 nL ((hL.mono (same_del s11)).mono del_sub) snd (by omega))
    case t1 =>
      obtain ⟨m6, em, m68, m6n⟩ : ∃ m6 : Nat, (if (6 : Int) < (n : Int) then (6 : Int) else (n : Int)) = (m6 : Int) ∧ m6 ≤ 8 ∧ m6 ≤ n := by
        split
        · exact ⟨6, rfl, by decide, by omega⟩
        · exact ⟨n, rfl, by omega, Nat.le_refl _⟩
      refine ⟨_, rfl, (n : Int), 6, rfl, ?_⟩
      dsimp (proj := false) only [tNil]
      rw [em]
      exact ⟨m6, rfl, m68, fun H' D kn sD nD hD snd' few => rest H' D kn (s911.trans sD) (sd_none s911 nD (dr11.ne nD)) hD (fun k hk => ⟨(snd' k hk).1, fun x hx => Nat.lt_of_lt_of_le ((snd' k hk).2 x hx) m6n⟩) few⟩
    clear hL snd len s911 s11 dr11 s10 dr10
    intro H12 L kns sB nL9 hK snd k256
    obtain ⟨lk0, g10, _⟩ := id hK
    refine ⟨_, rfl, .inl ⟨rfl, _, SqL.of g10⟩, _, rfl, (n : Int), rfl, by omega, by omega, fun X nX => ?_⟩
    rw [Int.toNat_natCast]
    refine lc_range (lo := 0) (n := n) (fun i H' => Same H12 H' ∧ H' X = some (.lst (nvs (List.range i)))) ⟨same_upd nX, upd_same⟩ (fun x H' hx ⟨s', hX⟩ => ?_) (fun H13 ⟨s13, hX⟩ => ?_)
    · refine ⟨rfl, ?_⟩
      rw [Int.zero_add]
      refine ⟨_, rfl, _, hX, ?_, same_keep nX s', ?_⟩
      · rw [nvs_len, List.length_range, sizeLine_eq]
        omega
      · rw [upd_same, List.range_succ]
        unfold nvs
        rw [List.map_append]
        rfl
    have XL : X ≠ L := fun e => by
      rw [e, g10] at nX
      cases nX
    obtain ⟨ys, y1, y2, y3⟩ := (hK.mono s13).push hX XL
    refine ⟨L, _, _, rfl, rfl, y1, by rw [y2, sizeLine_eq]; omega, ?_⟩
    have sB14 : Same (del H9 d) (upd H13 L (.lst (ys ++ [.ref X]))) := fun bb oo h => by
      have bL : bb ≠ L := fun e => by
        have := del_sub _ _ h
        rw [e, nL9] at this
        cases this
      rw [upd_ne bL]
      exact s13 _ _ (sB _ _ h)
    generalize upd H13 L (.lst (ys ++ [.ref X])) = H14 at sB14 y3 ⊢
    have snd14 : ∀ k ∈ kns ++ [List.range n], k.Pairwise (· < ·) ∧ ∀ x ∈ k, x < n := fun k hk => by
      rcases List.mem_append.mp hk with hk | hk
      · exact snd k hk
      · rw [List.mem_singleton.mp hk]
        exact ⟨List.pairwise_lt_range, fun x hx => List.mem_range.mp hx⟩
    have CA := CA9.mono sB14
    have O := O9.mono sB14
    have ht := sB14 _ _ ht9d
    have dx := dx9.mono sB14
    clear CA9 O9 ht9d dx9 CA3 s39 s38 s37 sB hK s13 hX y1 y2
    generalize kns ++ [List.range n] = ks at y3 snd14
    obtain ⟨lk, g1, g2, g3⟩ := id y3
    have no : decide (V.int (xs.length : Int) = V.int 0) = true → NoObs q fun x => r.idxOf x := fun e => by
      refine no_obs ck.c is ?_
      rw [eb]
      refine List.length_eq_zero_iff.mp ?_
      have := V.int.inj (of_decide_eq_true e)
      omega
    -- over the parts
    let Pv : Nat → L2.St → Hp → Prop := fun i σ H' => ∃ o7, σ = [some (.ref l), some (.ref d), some (.ref a), some (.int (n : Int)), some (.ref o), some (.ref t9), some (.ref L), o7, none, none, none, none, none] ∧ Same H14 H'
    refine ⟨_, rfl, L, rfl, ⟨_, SqL.of g1⟩, for_list (K := K) (a := L) (xs := lk.map fun z => V.ref z.1) Pv ⟨none, rfl, .refl _⟩ (fun i σ H' _ h => ?_) (fun i v σ H' hi h => ?_) (fun σ H15 h => ?_)⟩
    · obtain ⟨_, _, sm⟩ := h
      exact SqL.of (sm _ _ g1)
    · obtain ⟨o7, rfl, sm⟩ := h
      obtain ⟨z, hz, rfl⟩ := List.mem_map.mp (List.mem_of_getElem? hi)
      have zk : z.2 ∈ ks := by
        rw [← g2]
        exact List.mem_map.mpr ⟨z, hz, rfl⟩
      obtain ⟨u1, u2⟩ := snd14 _ zk
      refine ⟨_, rfl, _, rfl, _, rfl, _, rfl, t9, _, rfl, .inl (SqL.of (sm _ _ ht)), rfl, ?_⟩
      dsimp (proj := false) only [tNil]
      exact ⟨o, pw, a, z.1, _, n, q, r, z.2, rfl, O.mono sm, CA.mono sm, sm _ _ (g3 z hz), u1, u2, no, fun H'' s' => ⟨_, rfl, iteF ⟨_, rfl, sm.trans s'⟩⟩⟩
    obtain ⟨o7, rfl, s15⟩ := h
    -- the whole
    refine ⟨_, rfl, (n : Int), rfl, by omega, by omega, fun W nW => ?_⟩
    rw [Int.toNat_natCast]
    refine lc_range (lo := 0) (n := n) (fun i H' => Same H15 H' ∧ H' W = some (.lst (nvs (List.range i)))) ⟨same_upd nW, upd_same⟩ (fun x H' hx ⟨s', hX⟩ => ?_) (fun H16 ⟨s16, hW⟩ => ?_)
    · refine ⟨rfl, ?_⟩
      rw [Int.zero_add]
      refine ⟨_, rfl, _, hX, ?_, same_keep nW s', ?_⟩
      · rw [nvs_len, List.length_range, sizeLine_eq]
        omega
      · rw [upd_same, List.range_succ]
        unfold nvs
        rw [List.map_append]
        rfl
    have sA := s15.trans s16
    have O1 := O.mono sA
    have ht1 := sA _ _ ht
    have dx1 := dx.mono sA
    clear y3 g1 g3 s15 s16 sA CA O ht dx nW nX
    have PW : ∀ {H' : Hp}, Same H16 H' → PartG K H' n (.ref W) (List.range n) := fun s' => .inr ⟨W, nsD (List.range n), rfl, .lst (s' _ _ hW) (dta_nvs _), fwG_nat List.nodup_range fun x hx => List.mem_range.mp hx, asc_nat (List.Perm.refl _) List.pairwise_lt_range fun x hx => List.mem_range.mp hx⟩
    refine ⟨_, rfl, o, pw, .non, n, q, r, rfl, O1, by omega, .inl ⟨List.range n, .inl ⟨rfl, rfl⟩, fun H17 tA rowsA s17 hA mkA => ?_⟩⟩
    refine ⟨_, rfl, _, rfl, o, pw, .ref W, n, q, r, rfl, O1.mono s17, by omega, .inl ⟨List.range n, PW s17, fun H18 tB rowsB s18 hB mkB => ?_⟩⟩
    have erA := mkA.uniq mkB
    subst erA
    refine ne_dd (hA.mono s18).dt hB.dt (ktT_shaped _) (ktT_eqv _) ⟨_, rfl, iteF ?_⟩
    have s18' := s17.trans s18
    refine ⟨_, rfl, by show 0 ≤ sizeLine; decide, fun E0 nE0 => ?_⟩
    have s19 := same_upd (o := .lst []) nE0
    dsimp (proj := false) only [tNil]
    refine ⟨o, pw, .ref E0, n, q, r, rfl, O1.mono (s18'.trans s19), by omega, .inl ⟨[], .inr ⟨E0, [], rfl, .lst upd_same .nil, rfl, ⟨.nil, (fun x hx => by cases hx), fun x => ⟨(fun h => by cases h), fun h => by cases h⟩⟩⟩, fun H20 tCC rowsC s20 hC mkC => ?_⟩⟩
    have eC : rowsC = [] := Classical.byContradiction fun ne => by
      obtain ⟨k, hk⟩ := List.exists_mem_of_ne_nil rowsC ne
      obtain ⟨fu, kne, _⟩ := (mkC.mem k).mp hk
      cases k with
      | nil => exact kne rfl
      | cons x k => cases fu.sub x List.mem_cons_self
    subst eC
    refine ⟨by show 0 ≤ sizeLine; decide, fun U0 nU0 => ?_⟩
    have s21 := same_upd (o := .tup []) nU0
    refine ne_dd (d := .tuple (ktA [])) (hC.mono s21).dt (.tup upd_same .nil) (ktT_shaped _) (ktT_eqv _) ⟨_, rfl, iteF ?_⟩
    have sB := s18'.trans (s19.trans (s20.trans s21))
    generalize upd H20 U0 (.tup []) = H21 at sB ⊢
    clear s17 s18 s18' s19 s20 s21 hA hB hC mkA mkB mkC
    -- the first lots
    refine ⟨_, rfl, ?_⟩
    dsimp (proj := false) only [tCons, tC, tNil]
    refine ⟨o, pw, .non, n, q, r, rfl, O1.mono sB, .inl ⟨List.range n, .inl ⟨rfl, rfl⟩, fun H22 tD lD s22 nD hD upD pmD => ?_⟩⟩
    refine ⟨_, rfl, _, rfl, o, pw, .ref W, n, q, r, rfl, O1.mono (sB.trans s22), .inl ⟨List.range n, PW (sB.trans s22), fun H23 tE lE s23 nE hE upE pmE => ?_⟩⟩
    have eDE : lE = lD := asc_uniq upE upD fun x => pmE.mem_iff.trans pmD.mem_iff.symm
    subst eDE
    refine ne_dd (d := .tuple (nsD lE)) (.tup (s23 _ _ hD) (dta_nvs _)) (.tup hE (dta_nvs _)) (nsT_shaped _) (nsT_eqv _) ⟨_, rfl, iteF ?_⟩
    have sC := sB.trans (s22.trans s23)
    have O2 := O1.mono sC
    have ht2 := sC _ _ ht1
    have dx2 := dx1.mono sC
    clear sB s22 s23 hD hE upD upE pmD pmE PW O1 ht1 dx1 sC hW
    -- the missed part
    refine ⟨_, rfl, o, pw, (n : Int), q, r, rfl, O2, fun H24 rs' s24 is' e' => ?_, fun H24 u t1 t2 rs' l' za zb zc zd n4 n2 s24 is' e' hu ht41 ht42 pm4 srt4 pm2 srt2 => ?_⟩
    · rw [is'.uniq is] at e'
      rw [e'] at lx
      refine ⟨_, rfl, t9, _, rfl, .inl (SqL.of (s24 _ _ ht2)), rfl, _, rfl, ?_⟩
      rw [lx]
      refine iteT ⟨_, rfl, rfl, _, rfl, iteT ?_⟩
      exact ⟨_, rfl, _, rfl, o, pw, n, q, r, rfl, O2.mono s24, by omega, by omega, fun H' _ => k H'⟩
    rw [is'.uniq is] at e'
    have O3 := O2.mono s24
    have ht3 := s24 _ _ ht2
    have dx3 := dx2.mono s24
    rw [e'] at dx3 lx
    have xl : xs.length = l'.length + 1 := by rw [lx, List.length_cons]
    obtain ⟨v0, hv0⟩ : ∃ v, xs[0]? = some v := ⟨xs[0]'(by omega), List.getElem?_eq_getElem (by omega)⟩
    obtain ⟨zr, ra, hzr, rfl, hra⟩ := dta_row dx3 hv0
    have ez : zr = [za, zb, zc, zd] := by
      have : some zr = some [za, zb, zc, zd] := hzr.symm
      exact Option.some.inj this
    subst ez
    have zm : [za, zb, zc, zd] ∈ badL r rs := by
      rw [e']
      exact List.mem_cons_self
    obtain ⟨zm1, zm2⟩ := List.mem_filter.mp zm
    obtain ⟨x0, x1, x2, x3, ex, _, R⟩ := (is.mem _).mp zm1
    simp only [List.cons.injEq, and_true] at ex
    obtain ⟨rfl, rfl, rfl, rfl⟩ := ex
    obtain ⟨q0, q1, q2, q3⟩ := R.rng ck.c
    obtain ⟨a0, rfl⟩ := Int.eq_ofNat_of_zero_le q0.1
    obtain ⟨b0, rfl⟩ := Int.eq_ofNat_of_zero_le q1.1
    obtain ⟨c0, rfl⟩ := Int.eq_ofNat_of_zero_le q2.1
    obtain ⟨d0, rfl⟩ := Int.eq_ofNat_of_zero_le q3.1
    have zm2' : (decide (r.idxOf (a0 : Int).toNat < r.idxOf (b0 : Int).toNat) && decide (r.idxOf (d0 : Int).toNat < r.idxOf (c0 : Int).toNat)) = true := zm2
    rw [Bool.and_eq_true, decide_eq_true_iff, decide_eq_true_iff, Int.toNat_natCast, Int.toNat_natCast, Int.toNat_natCast, Int.toNat_natCast] at zm2'
    obtain ⟨i1, i2⟩ := zm2'
    have w1 := cl_ne ck.c R.ab
    have w2 := cl_ne ck.c R.bc
    have w3 := cl_ne ck.c R.cd
    have w4 := R.nac
    have w5 := R.nbd
    have w6 := R.nad
    obtain ⟨k4, ek4, u4, m4⟩ := nat_up (zs := [a0, b0, c0, d0]) pm4 srt4 (by simp only [List.nodup_cons, List.mem_cons, List.not_mem_nil, or_false, not_false_eq_true, List.nodup_nil, and_true]; omega)
    obtain ⟨k2, ek2, u2, m2'⟩ := nat_up (zs := [b0, c0]) pm2 srt2 (by simp only [List.nodup_cons, List.mem_cons, List.not_mem_nil, or_false, not_false_eq_true, List.nodup_nil, and_true]; omega)
    rw [ek4] at ht41
    rw [ek2] at ht42
    have m4' : ∀ x, x ∈ k4 ↔ x = a0 ∨ x = b0 ∨ x = c0 ∨ x = d0 := fun x => by rw [m4]; simp
    have m2'' : ∀ x, x ∈ k2 ↔ x = b0 ∨ x = c0 := fun x => by rw [m2']; simp
    have k4n : ∀ x ∈ k4, x < n := fun x hx => by rcases (m4' x).mp hx with rfl | rfl | rfl | rfl <;> omega
    have b0ne : (((xs.length : Nat) : Int) == 0) = false := beq_eq_false_iff_ne.mpr (by omega)
    refine ⟨_, rfl, t9, _, rfl, .inl (SqL.of ht3), rfl, _, rfl, ?_⟩
    rw [dec_int, b0ne]
    refine iteF ⟨_, rfl, _, _, _, _, _, rfl, .ty _, .base (.tup hu), kit_ty (r := true) (by decide +kernel), _, rfl, iteF ⟨_, rfl, u, _, rfl, .inr (SqT.of hu), rfl, _, rfl, ?_⟩⟩
    have e2 : (!decide (V.int (([V.ref t1, V.ref t2].length : Nat) : Int) = V.int 2)) = false := by
      show (!decide (V.int 2 = V.int 2)) = false
      rw [decide_eq_true rfl]
      rfl
    rw [e2]
    refine iteF ⟨_, rfl, u, _, 0, _, rfl, rfl, SqT.of hu, rfl, t1, _, rfl, .inr (SqT.of ht41), fun P1 nP1 => ?_⟩
    have v1 := same_upd (o := .lst (nvs k4)) nP1
    have hP1 : (upd H24 P1 (.lst (nvs k4))) P1 = some (.lst (nvs k4)) := upd_same
    generalize upd H24 P1 (.lst (nvs k4)) = G1 at v1 hP1 ⊢
    have tb := v1 _ _ ht3
    have tr := v1 _ _ hra
    have ix0 : atI xs 0 = some (V.ref ra) := atI_nat (j := 0) hv0
    -- the knot
    refine ⟨_, rfl, t9, _, 0, _, rfl, rfl, SqL.of tb, ix0, ra, _, 1, _, rfl, rfl, SqT.of tr, rfl, _, rfl, t9, _, 0, _, rfl, rfl, SqL.of tb, ix0, ra, _, 2, _, rfl, rfl, SqT.of tr, rfl, by show 2 ≤ sizeLine; decide, fun Q1 nQ1 => ?_⟩
    have v2 := v1.trans (same_upd (o := .lst [.int (b0 : Int), .int (c0 : Int)]) nQ1)
    refine ⟨Q1, [(b0 : Int), (c0 : Int)], rfl, SqL.of upd_same, by show 2 < 64; decide, fun n5 p5 pm5 srt5 np5 => ?_⟩
    obtain ⟨k5, ek5, u5, m5⟩ := nat_up (zs := [b0, c0]) pm5 srt5 (by simp only [List.nodup_cons, List.mem_cons, List.not_mem_nil, or_false, not_false_eq_true, List.nodup_nil, and_true]; omega)
    have e52 : k5 = k2 := asc_uniq u5 u2 fun x => (m5 x).trans (m2' x).symm
    rw [ek5, e52]
    have v3 := v2.trans (same_upd (o := .lst (nvs k2)) np5)
    refine ⟨p5, _, rfl, .inl ⟨SqL.of upd_same, fun t5 nt5 => ?_⟩⟩
    have v4 := v3.trans (same_upd (o := .tup (nvs k2)) nt5)
    have ht5 : (upd (upd (upd G1 Q1 (.lst [.int (b0 : Int), .int (c0 : Int)])) p5 (.lst (nvs k2))) t5 (.tup (nvs k2))) t5 = some (.tup (nvs k2)) := upd_same
    have hP2 := (same_upd (o := .tup (nvs k2)) nt5) _ _ ((same_upd (o := .lst (nvs k2)) np5) _ _ ((same_upd (o := .lst [.int (b0 : Int), .int (c0 : Int)]) nQ1) _ _ hP1))
    generalize upd (upd (upd G1 Q1 (.lst [.int (b0 : Int), .int (c0 : Int)])) p5 (.lst (nvs k2))) t5 (.tup (nvs k2)) = G2 at v4 ht5 hP2 ⊢
    clear v2 v3 v1 hP1 tb tr
    -- what is told
    refine ⟨_, rfl, _, rfl, t9, _, 0, _, rfl, rfl, SqL.of (v4 _ _ ht3), ix0, ra, [(a0 : Int), (b0 : Int), (c0 : Int), (d0 : Int)], rfl, SqT.of (v4 _ _ hra), by show 4 < 64; decide, fun n6 p6 pm6 srt6 np6 => ?_⟩
    obtain ⟨k6, ek6, u6, m6⟩ := nat_up (zs := [a0, b0, c0, d0]) pm6 srt6 (by simp only [List.nodup_cons, List.mem_cons, List.not_mem_nil, or_false, not_false_eq_true, List.nodup_nil, and_true]; omega)
    have e64 : k6 = k4 := asc_uniq u6 u4 fun x => (m6 x).trans (m4 x).symm
    rw [ek6, e64]
    have v5 := same_upd (o := .lst (nvs k4)) np6
    refine ⟨p6, _, rfl, .inl ⟨SqL.of upd_same, fun t6 nt6 => ⟨_, rfl, by show 2 ≤ sizeLine; decide, fun U nU => ?_⟩⟩⟩
    have v6 := same_upd (o := .tup (nvs k4)) nt6
    have v7 := same_upd (o := .tup [.ref t6, .ref t5]) nU
    have v57 := v5.trans (v6.trans v7)
    have v47 := v4.trans v57
    refine ne_dd (d := .tuple (ktA [k4, k2])) (.tup (v47 _ _ hu) (.cons (.tup (v47 _ _ ht41) (dta_nvs _)) (.cons (.tup (v47 _ _ ht42) (dta_nvs _)) .nil))) (.tup upd_same (.cons (.tup (v7 _ _ upd_same) (dta_nvs _)) (.cons (.tup (v57 _ _ ht5) (dta_nvs _)) .nil))) (ktT_shaped _) (ktT_eqv _) ⟨_, rfl, iteF ?_⟩
    have hP3 := v57 _ _ hP2
    have ht53 := v57 _ _ ht5
    generalize upd (upd (upd G2 p6 (.lst (nvs k4))) t6 (.tup (nvs k4))) U (.tup [.ref t6, .ref t5]) = G3 at v47 hP3 ht53 ⊢
    clear v5 v6 v7 v57 v4 hP2 ht5
    have PP : ∀ {H' : Hp}, Same G3 H' → PartG K H' n (.ref P1) k4 := fun s' => .inr ⟨P1, nsD k4, rfl, .lst (s' _ _ hP3) (dta_nvs _), fwG_nat (u4.imp fun h => Nat.ne_of_lt h) k4n, asc_nat (List.Perm.refl _) u4 k4n⟩
    have O4 := O3.mono v47
    have hra4 := v47 _ _ hra
    have ht4 := v47 _ _ ht3
    refine ⟨_, rfl, _, rfl, o, pw, .ref P1, n, q, r, rfl, O4, .inl ⟨k4, PP (.refl _), fun H26 t7 l7 s26 n7' ht7 up7 pm7 => ?_⟩⟩
    refine ⟨_, rfl, t9, _, 0, _, rfl, rfl, SqL.of (s26 _ _ ht4), ix0, ra, _, 0, _, rfl, rfl, SqT.of (s26 _ _ hra4), rfl, _, rfl, t9, _, 0, _, rfl, rfl, SqL.of (s26 _ _ ht4), ix0, ra, _, 3, _, rfl, rfl, SqT.of (s26 _ _ hra4), rfl, by show 2 ≤ sizeLine; decide, fun Q2 nQ2 => ?_⟩
    have x1 := same_upd (o := .lst [.int (a0 : Int), .int (d0 : Int)]) nQ2
    refine ⟨Q2, [(a0 : Int), (d0 : Int)], rfl, SqL.of upd_same, by show 2 < 64; decide, fun n8 p8 pm8 srt8 np8 => ?_⟩
    obtain ⟨k8, ek8, u8, m8⟩ := nat_up (zs := [a0, d0]) pm8 srt8 (by simp only [List.nodup_cons, List.mem_cons, List.not_mem_nil, or_false, not_false_eq_true, List.nodup_nil, and_true]; omega)
    have e87 : k8 = l7 := asc_uniq u8 up7 fun x => by
      rw [m8, pm7.mem_iff, bad_lot ck.c pr R i1 i2 m4']
      simp
    rw [ek8, e87]
    have x2 := x1.trans (same_upd (o := .lst (nvs l7)) np8)
    refine ⟨p8, _, rfl, .inl ⟨SqL.of upd_same, fun t10 nt10 => ?_⟩⟩
    have x3 := x2.trans (same_upd (o := .tup (nvs l7)) nt10)
    refine ne_dd (d := .tuple (nsD l7)) (.tup (x3 _ _ ht7) (dta_nvs _)) (.tup upd_same (dta_nvs _)) (nsT_shaped _) (nsT_eqv _) ⟨_, rfl, iteF ?_⟩
    have x4 := s26.trans x3
    generalize upd (upd (upd H26 Q2 (.lst [.int (a0 : Int), .int (d0 : Int)])) p8 (.lst (nvs l7))) t10 (.tup (nvs l7)) = G4 at x4 ⊢
    refine ⟨_, rfl, _, rfl, o, pw, .ref P1, n, q, r, rfl, O4.mono x4, by omega, .inl ⟨k4, PP x4, fun H28 t11 rows s28 hR mkR => ?_⟩⟩
    have er := bad_miss ck.c pr R i1 i2 m4' u2 m2'' mkR
    subst er
    refine ⟨_, rfl, by show 1 ≤ sizeLine; decide, fun U2 nU2 => ?_⟩
    have x5 := same_upd (o := .tup [.ref t5]) nU2
    have x6 := x4.trans (s28.trans x5)
    refine ⟨.tuple (ktA [k2]), .tuple (ktA [k2]), (hR.mono x5).dt.dp, (Dt.tup upd_same (.cons (.tup (x6 _ _ ht53) (dta_nvs _)) .nil)).dp, ktT_shaped _, ktT_shaped _, ?_⟩
    rw [ktT_eqv]
    refine ⟨_, rfl, iteT ?_⟩
    exact ⟨_, rfl, _, rfl, o, pw, n, q, r, rfl, O4.mono x6, by omega, by omega, fun H' _ => k H'⟩
end
end K0
set_option Elab.async false
set_option linter.all false
set_option maxRecDepth 100000
set_option maxHeartbeats 8000000
namespace K0
open PySem PySem.Spec PyProof.Rows L2
abbrev s_rf : Stmt := top 32
section
variable {P : Program} {w : World} {K : PySem.W.Frag} {mg : Str → Option Value} {base : Heap} {f : Addr} {fd : FuncData}
theorem sc_rf : FnScope ["web", "masks", "found", "b", "c", "a", "fourth", "d"] ["web"] (defScope s_rf) := ⟨rfl, rfl, rfl, by decide +kernel, rfl, by decide +kernel, by decide +kernel⟩
theorem ok_rf {C : Addr} (F : Fun K "rows_of_four" "rows_of_four" s_rf f fd) (B : Blt3 mg) (T : WebC K C) (TI : Df P w K mg base "things_in" 1 ["mask"] spTi) : FnOk P w K mg base (L2.CX P w) 2 f fd ["web"] (spRf C) := by
  refine F.okX sc_rf (fun vs H Q E h => ?_) (fun cdv A outer s H vs Q E hr h => ?_)
  · obtain ⟨p, n, q, rfl, _⟩ := h
    rfl
  · obtain ⟨p, n, q, rfl, W, k⟩ := h
    have nd := sc_rf.nd
    obtain ⟨⟨ddx, c, m, l, h1, h2, h3, h4, h5⟩, cl, n0, n8⟩ := id W
    have r1 : Room 1 _ := hr.mono (by decide)
    have n16 : n.toNat ≤ 16 := by omega
    let M : Nat → Nat := fun x => (mOf n.toNat q).getD x 0
    have clN : Cl (n.toNat : Int) q := by rw [Int.toNat_of_nonneg n0]; exact cl
    have out : ∀ {x j : Nat}, n.toNat ≤ j → hasP q x j = false := fun {x j} hj => hasP_out cl (by omega)
    refine ⟨_, pss_cons (ps_set (i := 1) nd rfl (.inl rfl) (pe_fld (pv 0) rfl))
      (pss_cons (ps_set (i := 2) nd rfl (.inl rfl) (pe_lst pa_nil))
      (pss_cons (ps_for (passes_of rfl) rfl (pi_range1 (by rfl) B.range (pa_cons (pe_fld (pv 0) rfl) pa_nil)) (pg_name (i := 3) nd rfl (.inr rfl))
        (pss_one (ps_for (passes_of rfl) rfl (pi_tup (pe_df TI r1 (by rfl) passUp (pa_cons (pe_ix ix_tup (pv 1) (pv 3) (fun _ _ => rfl)) pa_nil))) (pg_name (i := 4) nd rfl (.inr rfl))
        (pss_one (ps_for (passes_of rfl) rfl (pi_tup (pe_df TI r1 (by rfl) passUp (pa_cons (pe_op op_andN (pe_op op_andN (pe_ix ix_tup (pv 1) (pv 3) (fun _ _ => rfl)) (pe_un un_inv (pe_ix ix_tup (pv 1) (pv 4) (fun _ _ => rfl)))) (pe_un un_inv (pe_op op_shl1 pe_int (pv 4)))) pa_nil))) (pg_name (i := 5) nd rfl (.inr rfl))
        (pss_cons (ps_set (i := 6) nd rfl (.inl rfl) (pe_op op_andN (pe_op op_andN (pe_op op_andN (pe_ix ix_tup (pv 1) (pv 4) (fun _ _ => rfl)) (pe_un un_inv (pe_ix ix_tup (pv 1) (pv 3) (fun _ _ => rfl)))) (pe_un un_inv (pe_ix ix_tup (pv 1) (pv 5) (fun _ _ => rfl)))) (pe_un un_inv (pe_op op_shl1 pe_int (pv 3)))))
        (pss_one (ps_expr (pe_lext (pv 2) (pa_cons (pe_lc (own := [("d", 7)]) (g := gName 7) (tt := tTest (tOp (rI0 fun i j => .bl (decide (i < j))) (tVar 5) (tVar 7))) (te := tTup (tCons (tVar 5) (tCons (tVar 3) (tCons (tVar 4) (tCons (tVar 7) tNil))))) rfl nd
          (pi_tup (pe_df TI r1 (by rfl) passUp (pa_cons (pv 6) pa_nil))) (blkOk_by (N := ["web", "masks", "found", "b", "c", "a", "fourth", "d"]) (sc := defScope s_rf) (by decide +kernel))
          (fun _ _ _ _ _ => pg_name (i := 7) nd rfl (.inl rfl)) (fun _ _ _ _ _ => pts_one (pt_cmpR op_lt (pv 5) (pv 7) (nomark _)))
          (fun _ _ _ _ _ => pe_tup (pa_cons (pv 5) (pa_cons (pv 3) (pa_cons (pv 4) (pa_cons (pv 7) pa_nil)))))) pa_nil))))))))))
      (pss_one (ps_ret (pe_callTy call_tuple_of (by rfl) B.tuple (by decide +kernel) (pa_cons (pe_callB (cr_srtW (d := 4) (by decide)) (by rfl) B.sorted (by decide +kernel) (pa_cons (pv 2) pa_nil)) pa_nil)))))), ?_⟩
    refine ⟨_, rfl, p, C, ddx, _, _, rfl, h1, T.cl, T.nk, wf_masks _ _ _, ?_⟩
    refine ⟨by show 0 ≤ sizeLine; exact Nat.zero_le _, fun D nD => ?_⟩
    have s0 : Same H (upd H D (.lst [])) := same_upd nD
    let St : Nat → Nat → Nat → Option V → L2.St := fun b c a f => [some (.ref p), some (.ref m), some (.ref D), some (.int (b : Int)), some (.int (c : Int)), some (.int (a : Int)), f, none]
    let Pv : Nat → L2.St → Hp → Prop := fun i σ H' => ∃ o3 o4 o5 o6, σ = [some (.ref p), some (.ref m), some (.ref D), o3, o4, o5, o6, none] ∧ Same H H' ∧ GrowR H' D ((List.range i).flatMap (pf1 n.toNat q))
    refine ⟨_, rfl, p, C, ddx, _, _, rfl, s0 _ _ h1, T.cl, T.nm, wf_many _ _ _, n, rfl, by omega, by omega, for_range (n := n.toNat) Pv ⟨none, none, none, none, rfl, s0, GrowR.nil nD⟩ (fun b σ H1 hb h => ?_) (fun σ H1 h => ?_)⟩
    · obtain ⟨o3, o4, o5, o6, rfl, s1, g1⟩ := h
      rw [Int.zero_add]
      have lb : ((List.range b).flatMap (pf1 n.toNat q)).length ≤ 65536 := by
        have h1 := len_fm (List.range b) (f := pf1 n.toNat q) fun x _ => pf1_len n.toNat q x
        rw [List.length_range] at h1
        exact Nat.le_trans h1 (Nat.le_trans (Nat.mul_le_mul (by omega : b ≤ 16) (Nat.mul_le_mul n16 (Nat.mul_le_mul n16 n16))) (by decide))
      refine ⟨_, rfl, _, rfl, m, _, (b : Int), _, rfl, rfl, SqT.of (s1 _ _ h5), nvs_at (mask_at W b (by omega)), M b, rfl, by have := mask_small W b; show bitsN (M b) ≤ 1000; show bitsN ((mOf n.toNat q).getD b 0) ≤ 1000; omega, fun H2 t s2 nt ht => ?_⟩
      have eb : (List.range (bitsN (M b))).filter (M b).testBit = near n.toNat q b := by
        rw [bitsOf_eq (n := n.toNat) (fun j hj => by show ((mOf n.toNat q).getD b 0).testBit j = false; rw [mask_bits W]; exact out hj)]
        unfold bitsOf near
        congr 1
        funext y
        exact mask_bits W b y
      rw [eb] at ht
      let P2 : Nat → L2.St → Hp → Prop := fun j σ H' => ∃ o4 o5 o6, σ = [some (.ref p), some (.ref m), some (.ref D), some (.int (b : Int)), o4, o5, o6, none] ∧ Same H H' ∧ H' t = some (.tup (nvs (near n.toNat q b))) ∧ GrowR H' D ((List.range b).flatMap (pf1 n.toNat q) ++ ((near n.toNat q b).take j).flatMap (pf2 n.toNat q b))
      refine ⟨t, rfl, ⟨_, SqT.of ht⟩, for_tup (K := K) (a := t) (xs := nvs (near n.toNat q b)) P2 ⟨o4, o5, o6, rfl, s1.trans s2, ht, by simpa using g1.mono s2⟩ (fun j σ H' _ h => ?_) (fun j v σ H3 hj h => ?_) (fun σ H3 h => ?_)⟩
      · obtain ⟨_, _, _, _, _, ht, _⟩ := h
        exact SqT.of ht
      · obtain ⟨o4, o5, o6, rfl, s3, ht3, g3⟩ := h
        obtain ⟨c, hc, rfl⟩ := nvs_val hj
        have hcn : c < n.toNat := List.mem_range.mp (List.mem_filter.mp (List.mem_of_getElem? hc)).1
        have hbc : hasP q b c = true := (List.mem_filter.mp (List.mem_of_getElem? hc)).2
        have lc : (((near n.toNat q b).take j).flatMap (pf2 n.toNat q b)).length ≤ 4096 := by
          have h1 := fm_len (near n.toNat q b) j (f := pf2 n.toNat q b) fun x _ => pf2_len n.toNat q b x
          exact Nat.le_trans h1 (Nat.le_trans (Nat.mul_le_mul (Nat.le_trans (fil_len _) n16) (Nat.mul_le_mul n16 n16)) (by decide))
        have s5m : ∀ {H' : Hp}, Same H3 H' → SqT K H' m (nvs (mOf n.toNat q)) := fun s => SqT.of (s _ _ (s3 _ _ h5))
        refine ⟨_, rfl, _, rfl, mk_at W (s5m (Same.refl _)) hb ?_⟩
        refine ⟨_, rfl, _, rfl, mk_at W (s5m (Same.refl _)) hcn ⟨_, rfl, M b, M c, rfl, rfl, ?_⟩⟩
        refine ⟨_, rfl, c, rfl, rfl, by omega, _, rfl, andN (M b) (M c), 2 ^ c, rfl, rfl, ?_⟩
        have eb2 := bits2 W b c
        refine ⟨andN (andN (M b) (M c)) (2 ^ c), rfl, ?_, fun H4 u s4 nu hu => ?_⟩
        · have : bitsN (andN (andN (M b) (M c)) (2 ^ c)) ≤ 16 := bits_lt (k := n.toNat) (fun j hj => by rw [show (andN (andN (M b) (M c)) (2 ^ c)).testBit j = _ from eb2 j, out hj]; rfl) n16
          omega
        have ebu : (List.range (bitsN (andN (andN (M b) (M c)) (2 ^ c)))).filter (andN (andN (M b) (M c)) (2 ^ c)).testBit = fstN n.toNat q b c := by
          rw [bitsOf_eq (n := n.toNat) (fun j hj => by rw [show (andN (andN (M b) (M c)) (2 ^ c)).testBit j = _ from eb2 j, out hj]; rfl)]
          unfold bitsOf fstN
          congr 1
          funext y
          exact eb2 y
        rw [ebu] at hu
        let AB : List Rw := (List.range b).flatMap (pf1 n.toNat q) ++ ((near n.toNat q b).take j).flatMap (pf2 n.toNat q b)
        let P3 : Nat → L2.St → Hp → Prop := fun k σ H' => ∃ o5 o6, σ = [some (.ref p), some (.ref m), some (.ref D), some (.int (b : Int)), some (.int (c : Int)), o5, o6, none] ∧ Same H H' ∧ H' t = some (.tup (nvs (near n.toNat q b))) ∧ H' u = some (.tup (nvs (fstN n.toNat q b c))) ∧ GrowR H' D (AB ++ ((fstN n.toNat q b c).take k).flatMap (pf3 n.toNat q b c))
        refine ⟨u, rfl, ⟨_, SqT.of hu⟩, for_tup (K := K) (a := u) (xs := nvs (fstN n.toNat q b c)) P3 ⟨o5, o6, rfl, s3.trans s4, s4 _ _ ht3, hu, by simpa [AB] using g3.mono s4⟩ (fun k σ H' _ h => ?_) (fun k v σ H5 hk h => ?_) (fun σ H5 h => ?_)⟩
        · obtain ⟨_, _, _, _, _, hu, _⟩ := h
          exact SqT.of hu
        · obtain ⟨o5, o6, rfl, s5, ht5, hu5, g5⟩ := h
          obtain ⟨a, ha, rfl⟩ := nvs_val hk
          have han : a < n.toNat := List.mem_range.mp (List.mem_filter.mp (List.mem_of_getElem? ha)).1
          have la : (((fstN n.toNat q b c).take k).flatMap (pf3 n.toNat q b c)).length ≤ 256 := by
            have h1 := fm_len (fstN n.toNat q b c) k (f := pf3 n.toNat q b c) fun x _ => pf3_len n.toNat q b c x
            exact Nat.le_trans h1 (Nat.le_trans (Nat.mul_le_mul (Nat.le_trans (fil_len _) n16) n16) (by decide))
          have s6m : ∀ {H' : Hp}, Same H5 H' → SqT K H' m (nvs (mOf n.toNat q)) := fun s => SqT.of (s _ _ (s5 _ _ h5))
          refine ⟨_, rfl, _, rfl, mk_at W (s6m (Same.refl _)) hcn ?_⟩
          refine ⟨_, rfl, _, rfl, mk_at W (s6m (Same.refl _)) hb ⟨_, rfl, M c, M b, rfl, rfl, ?_⟩⟩
          refine ⟨_, rfl, _, rfl, mk_at W (s6m (Same.refl _)) han ⟨_, rfl, andN (M c) (M b), M a, rfl, rfl, ?_⟩⟩
          refine ⟨_, rfl, b, rfl, rfl, by omega, _, rfl, andN (andN (M c) (M b)) (M a), 2 ^ b, rfl, rfl, ?_⟩
          let MF : Nat := andN (andN (andN (M c) (M b)) (M a)) (2 ^ b)
          have eb3 : ∀ x, MF.testBit x = _ := bits3 W b c a
          obtain ⟨xs, hx, lx, _⟩ := g5.at
          refine ⟨_, rfl, .inl ⟨rfl, xs, SqL.of hx⟩, ?_⟩
          refine ⟨_, rfl, MF, rfl, ?_, fun H6 w6 s6 nw hw => ?_⟩
          · have : bitsN MF ≤ 16 := bits_lt (k := n.toNat) (fun j hj => by rw [eb3 j, out hj]; rfl) n16
            omega
          have ebw : (List.range (bitsN MF)).filter MF.testBit = fthN n.toNat q a b c := by
            rw [bitsOf_eq (n := n.toNat) (fun j hj => by rw [eb3 j, out hj]; rfl)]
            unfold bitsOf fthN
            congr 1
            funext y
            exact eb3 y
          rw [ebw] at hw
          refine ⟨w6, rfl, ⟨_, SqT.of hw⟩, fun G nG => ?_⟩
          let R3 : Nat → List Rw := fun i => (((fthN n.toNat q a b c).take i).filter fun d => decide (a < d)).map (row4 a b c)
          have hD6 : H6 D = some (.lst xs) := s6 _ _ hx
          have GD : G ≠ D := fun z => by rw [z, hD6] at nG; cases nG
          refine lc_tup (K := K) (a := w6) (xs := nvs (fthN n.toNat q a b c)) (fun i H' => Same H6 H' ∧ GrowR H' G (R3 i)) ⟨same_upd nG, GrowR.nil nG⟩ (fun i H' _ z => SqT.of (z.1 _ _ hw)) (fun i v H' hi z => ?_) (fun H' z => ?_)
          · obtain ⟨s7, g7⟩ := z
            obtain ⟨d, hd, rfl⟩ := nvs_val hi
            have eR : R3 (i + 1) = R3 i ++ (if a < d then [row4 a b c d] else []) := by
              show ((List.filter _ _).map _) = _
              rw [take_at hd, List.filter_append, List.map_append]
              congr 1
              by_cases lt : a < d
              · simp [lt]
              · simp [lt]
            refine ⟨rfl, _, rfl, _, rfl, _, _, rfl, rfl, _, rfl, ?_⟩
            by_cases lt : a < d
            · rw [decide_eq_true (by omega : (a : Int) < (d : Int))]
              refine iteT ⟨_, rfl, _, rfl, _, rfl, _, rfl, (by show 4 ≤ sizeLine; decide), fun y ny => ?_⟩
              obtain ⟨as, hA, lA, _⟩ := g7.at
              have s8 : Same H' (upd H' y (.tup ((row4 a b c d).map V.int))) := same_upd ny
              refine ⟨as, s8 _ _ hA, ?_, same_keep nG (s7.trans s8), ?_⟩
              · have : (R3 i).length ≤ n.toNat := by
                  show ((List.filter _ _).map _).length ≤ _
                  rw [List.length_map]
                  refine Nat.le_trans (List.length_filter_le _ _) ?_
                  rw [List.length_take]
                  exact Nat.le_trans (Nat.min_le_right _ _) (fil_len _)
                rw [lA, sizeLine_eq]
                omega
              · have g8 := g7.push (r := row4 a b c d) ny hA
                rw [eR, if_pos lt]
                exact g8
            · rw [decide_eq_false (by omega : ¬ (a : Int) < (d : Int))]
              refine iteF ⟨s7, ?_⟩
              rw [eR, if_neg lt, List.append_nil]
              exact g7
          · obtain ⟨s7, g7⟩ := z
            rw [nvs_len] at g7
            have eR : R3 (fthN n.toNat q a b c).length = pf3 n.toNat q b c a := by
              show ((List.filter _ _).map _) = _
              rw [List.take_length]
              rfl
            rw [eR] at g7
            obtain ⟨as, hA, lA, _⟩ := g7.at
            have s67 := s6.trans s7
            refine ⟨D, G, xs, as, rfl, rfl, s7 _ _ hD6, hA, ?_, ?_⟩
            · have := pf3_len n.toNat q b c a
              rw [lx, lA, sizeLine_eq, List.length_append]
              have eAB : AB.length = ((List.range b).flatMap (pf1 n.toNat q)).length + (((near n.toNat q b).take j).flatMap (pf2 n.toNat q b)).length := List.length_append
              omega
            · have hD0 : H D = none := nD
              refine ⟨_, _, rfl, same_keep hD0 (s5.trans s67), ?_, ?_, ?_⟩
              · rw [upd_ne (fun z => by rw [z] at ht5; rw [hx] at ht5; cases ht5)]
                exact s67 _ _ ht5
              · rw [upd_ne (fun z => by rw [z] at hu5; rw [hx] at hu5; cases hu5)]
                exact s67 _ _ hu5
              · rw [fm_snoc ha, ← List.append_assoc]
                exact (g5.mono s67).cat g7 (s7 _ _ hD6) hA
        · obtain ⟨o5, o6, rfl, s5, ht5, hu5, g5⟩ := h
          rw [nvs_len, List.take_length] at g5
          refine ⟨_, _, _, rfl, s5, ht5, ?_⟩
          rw [fm_snoc hc, ← List.append_assoc]
          exact g5
      · obtain ⟨o4, o5, o6, rfl, s3, ht3, g3⟩ := h
        rw [nvs_len, List.take_length] at g3
        refine ⟨_, _, _, _, rfl, s3, ?_⟩
        rw [List.range_succ, List.flatMap_append]
        simpa [pf1] using g3
    · obtain ⟨o3, o4, o5, o6, rfl, s1, g1⟩ := h
      obtain ⟨ys, hy, ly, dy⟩ := g1.at
      have eP : (List.range n.toNat).flatMap (pf1 n.toNat q) = pf n.toNat q := rfl
      rw [eP] at dy
      refine ⟨_, rfl, D, pf n.toNat q, ys, rfl, hy, dy, fun r hr' => ?_, fun H2 t zs ss s2 nt ht dz pm le => ?_⟩
      · obtain ⟨a, b, c, d, rfl, _, R⟩ := (pf_mem clN r).mp hr'
        exact ⟨rfl, bd_row (by omega) (R.rng clN)⟩
      · refine ⟨t, zs, rfl, .inl ⟨SqL.of ht, fun l nl => ?_⟩⟩
        have s12 := s1.trans s2
        refine k _ l zs ss (s12.trans (same_upd nl)) (s12.free nl) upd_same (dz.mono (same_upd nl)) ?_
        have := pf_rows clN (by omega) pm le
        exact ⟨this.up, this.mem⟩
end
end K0
set_option Elab.async false
set_option linter.all false
set_option maxRecDepth 100000
set_option maxHeartbeats 4000000
namespace K0
open PySem PySem.Spec PyProof.Rows L2
/-! ### what the top has written -/
/-- a def of the top -/
structure DG (K : PySem.W.Frag) (x : Str) (st : Stmt) : Prop where
  ex : ∃ (f : Addr) (fd : FuncData), PySem.W.nsIn K mainGlobals x = some (some (.ref f)) ∧ Fun K x x st f fd
/-- a method of the class at C -/
structure MG (K : PySem.W.Frag) (C : Addr) (m q : Str) (st : Stmt) : Prop where
  ex : ∃ (f : Addr) (fd : FuncData), PySem.W.findIn K (.ref C) m = some (some (.ref f)) ∧ PySem.W.isFn K (.ref f) = true ∧ PySem.W.fnIn K f = true ∧ Fun K m q st f fd
/-- an error class with its own __init__ -/
structure EG (K : PySem.W.Frag) (x : Str) (C : Addr) (fl : List Str) (q : Str) (st : Stmt) : Prop where
  T : ErrC K C fl
  g : PySem.W.nsIn K mainGlobals x = some (some (.ref C))
  ex : ∃ (f : Addr) (fd : FuncData), PySem.W.findIn K (.ref C) "__init__" = some (some (.ref f)) ∧ PySem.W.typeIn K (.ref f) = some (.type "function") ∧ Fun K "__init__" q st f fd
/-- a def with one default, the def's own name x where it is the top's -/
structure XG (K : PySem.W.Frag) (x q : Str) (st : Stmt) (f : Addr) (v : V) : Prop where
  ex : ∃ fd : FuncData, FunD K x q (defArgs st) (defBody st) (defScope st) [v] [] f fd
theorem FnOk.up {P : Program} {w : World} {K : PySem.W.Frag} {mg : Str → Option Value} {base : Heap} {CX : CXT} {k : Nat} {f : Addr} {fd : FuncData} {ps : List Str} {sp : Sp} (F : FnOk P w K mg base CX0 k f fd ps sp) : FnOk P w K mg base CX k f fd ps sp :=
  ⟨F.len, fun A outer s H args us vs Q E hr he hb hv hs Γ p hc hΓ => wpCode_mono (fun r s' h => by
    cases r with
    | ok v => cases v <;> exact h
    | error e => exact h.elim) (F.run A outer s H args us vs Q E hr he hb hv hs Γ p hc hΓ)⟩
section
variable {P : Program} {w : World} {K : PySem.W.Frag} {mg : Str → Option Value} {base h : Heap} {x q m : Str} {st : Stmt} {k : Nat} {ps : List Str} {sp : Sp} {C : Addr}
theorem DG.df (g : DG K x st) (X : K.In h) (G : h.Ns mainGlobals mg) (ok : ∀ f fd, Fun K x x st f fd → FnOk P w K mg base (L2.CX P w) k f fd ps sp)
    (hb : ∀ (kV doc pm : Value) (an : Option Addr) (cdv ct : Value) (us : List Value), us.length = ps.length → bindArgs (PySem.W.fnOf x x (defArgs st) (defBody st) (defScope st) .none kV doc pm an cdv ct) ⟨us, []⟩ = pure (ps.zip us)) : Df P w K mg base x k ps sp := by
  obtain ⟨f, fd, e, F⟩ := g.ex
  exact ⟨f, fd, PySem.W.mg_of X G e, F.kp, ok f fd F, F.binds hb⟩
theorem MG.mt (g : MG K C m q st) (c : Cls K C) (ok : ∀ f fd, Fun K m q st f fd → FnOk P w K mg base (L2.CX P w) k f fd ps sp)
    (hb : ∀ (kV doc pm : Value) (an : Option Addr) (cdv ct : Value) (us : List Value), us.length = ps.length → bindArgs (PySem.W.fnOf m q (defArgs st) (defBody st) (defScope st) .none kV doc pm an cdv ct) ⟨us, []⟩ = pure (ps.zip us)) : Mt P w K mg base C m k ps sp := by
  obtain ⟨f, fd, e, i, n, F⟩ := g.ex
  exact ⟨f, fd, c, ⟨e, i, F.kp⟩, i, n, e, ok f fd F, F.binds hb⟩
theorem EG.er {fl : List Str} (g : EG K x C fl q st) (X : K.In h) (G : h.Ns mainGlobals mg) (ok : ∀ f fd, Fun K "__init__" q st f fd → FnOk P w K mg base CX0 1 f fd ps sp)
    (hb : ∀ (kV doc pm : Value) (an : Option Addr) (cdv ct : Value) (us : List Value), us.length = ps.length → bindArgs (PySem.W.fnOf "__init__" q (defArgs st) (defBody st) (defScope st) .none kV doc pm an cdv ct) ⟨us, []⟩ = pure (ps.zip us)) : Er P w K mg base x C fl ps sp := by
  obtain ⟨f, fd, e, i, F⟩ := g.ex
  exact ⟨g.T, PySem.W.mg_of X G g.g, f, fd, e, i, ok f fd F, F.binds hb⟩
end
/-- a def at f -/
structure PG (K : PySem.W.Frag) (x q : Str) (st : Stmt) (f : Addr) : Prop where
  ex : ∃ fd : FuncData, Fun K x q st f fd
/-- the empty tuple that the top has made -/
structure EmT (K : PySem.W.Frag) (e : Addr) : Prop where
  ex : ∃ (o : Obj) (its : Array Value) (n : Nat), K.lookup e = some o ∧ o.cls = .type "tuple" ∧ o.data = .seq its n ∧ its = #[]
theorem EmT.sq {K : PySem.W.Frag} {e : Addr} (h : EmT K e) (H : Hp) : SqT K H e [] := by
  obtain ⟨o, its, n, h1, h2, h3, rfl⟩ := h.ex
  exact .inr ⟨o, #[], n, h1, h2, h3, Nat.zero_le _, .nil⟩
theorem ErrC.xf {K : PySem.W.Frag} {C : Addr} {fl : List Str} (T : ErrC K C fl) : XfC K C := ⟨T.ga, T.gg, T.exC, T.hd⟩
theorem ErrC.exm {K : PySem.W.Frag} {C : Addr} {fl : List Str} (T : ErrC K C fl) {cls : Value} {b : Bool} (h : PySem.W.subIn K cls (.ref C) = some b) : PySem.W.exmOne K cls (.ref C) = some b := PySem.W.exm_ref T.exC T.hd T.tyC h
theorem all_mk {P : Program} {w : World} {K : PySem.W.Frag} {h : Heap} {mg : Str → Option Value} {fa fhfirstlot fhfullknots fhmissedknots CN CW CP CT CO C D fi e0 fo f0 : Addr} (X : K.In h) (G : h.Ns mainGlobals mg) (hfa : mg "law" = some (.ref fa))
    (eBadNumber : EG K "BadNumber" CN ["name"] "BadNumber.__init__" s_e1)
    (eBadWeb : EG K "BadWeb" CW ["x", "y"] "BadWeb.__init__" s_eW)
    (eBadPart : EG K "BadPart" CP ["place"] "BadPart.__init__" s_eP)
    (eBadThing : EG K "BadThing" CT ["thing"] "BadThing.__init__" s_eT)
    (aOrdersError : PySem.W.nsIn K mainGlobals "OrdersError" = some (some (.ref CO)))
    (aC : PySem.W.nsIn K mainGlobals "Web" = some (some (.ref C)))
    (pgC : PySem.W.plainGet K C Str.empty = true)
    (hdC : PySem.W.hasDictIn K C = true)
    (poC : PySem.W.plainOver K C = true)
    (saC : PySem.W.findIn K (.ref C) "__setattr__" = some (some (.builtin "object.__setattr__")))
    (mkC : PySem.W.makesIn K C = true)
    (kCC : PySem.W.keepIn K (.ref C) = true)
    (c1C : PySem.W.readsIn K C (.type "type") = true)
    (c2C : PySem.W.specialIn K (.ref C) "__getattribute__" = some (some (.builtin "type.__getattribute__")))
    (aD : PySem.W.nsIn K mainGlobals "Order" = some (some (.ref D)))
    (pgD : PySem.W.plainGet K D Str.empty = true)
    (hdD : PySem.W.hasDictIn K D = true)
    (poD : PySem.W.plainOver K D = true)
    (saD : PySem.W.findIn K (.ref D) "__setattr__" = some (some (.builtin "object.__setattr__")))
    (mkD : PySem.W.makesIn K D = true)
    (kCD : PySem.W.keepIn K (.ref D) = true)
    (c1D : PySem.W.readsIn K D (.type "type") = true)
    (c2D : PySem.W.specialIn K (.ref D) "__getattribute__" = some (some (.builtin "type.__getattribute__")))
    (nm : PySem.W.findIn K (.ref C) "many" = some none)
    (nc : PySem.W.findIn K (.ref C) "clashes" = some none)
    (nk : PySem.W.findIn K (.ref C) "masks" = some none)
    (i1 : PySem.W.findIn K (.ref C) "__init__" = some (some (.ref fi)))
    (i2 : PySem.W.isFn K (.ref fi) = true)
    (i3 : XG K "__init__" "Web.__init__" s_wi fi (.ref e0))
    (i4 : EmT K e0)
    (nw : PySem.W.findIn K (.ref D) "web" = some none)
    (nr : PySem.W.findIn K (.ref D) "row" = some none)
    (np : PySem.W.findIn K (.ref D) "places" = some none)
    (j1 : PySem.W.findIn K (.ref D) "__init__" = some (some (.ref fo)))
    (j2 : PySem.W.isFn K (.ref fo) = true)
    (j3 : PG K "__init__" "Order.__init__" s_oi fo)
    (n1 : PySem.W.nsIn K mainGlobals "check_number" = some (some (.ref f0)))
    (n3 : XG K "check_number" "check_number" s_check_number f0 (.int 0))
    (xBadPartBadPart : PySem.W.subIn K (.ref CP) (.ref CP) = some true)
    (mOrder_len : MG K D "__len__" "Order.__len__" (s_lno))
    (k1_first_lot : PySem.W.nsIn K mainGlobals "first_lot" = some (some (.ref fhfirstlot)))
    (k3_first_lot : XG K "first_lot" "first_lot" s_flo fhfirstlot (.non))
    (k1_full_knots : PySem.W.nsIn K mainGlobals "full_knots" = some (some (.ref fhfullknots)))
    (k3_full_knots : XG K "full_knots" "full_knots" s_fk fhfullknots (.non))
    (k1_missed_knots : PySem.W.nsIn K mainGlobals "missed_knots" = some (some (.ref fhmissedknots)))
    (k3_missed_knots : XG K "missed_knots" "missed_knots" s_mkn fhmissedknots (.non))
    (mOrder_ahead : MG K D "ahead" "Order.ahead" ((s_o 2)))
    (z0 : PySem.W.nsIn K mainGlobals "isinstance" = some none)
    (z1 : PySem.W.nsIn K mainGlobals "int" = some none)
    (z2 : PySem.W.nsIn K mainGlobals "bool" = some none)
    (z3 : PySem.W.nsIn K mainGlobals "list" = some none)
    (z4 : PySem.W.nsIn K mainGlobals "tuple" = some none)
    (z5 : PySem.W.nsIn K mainGlobals "len" = some none)
    (z6 : PySem.W.nsIn K mainGlobals "set" = some none)
    (z7 : PySem.W.nsIn K mainGlobals "min" = some none)
    (z8 : PySem.W.nsIn K mainGlobals "max" = some none)
    (z9 : PySem.W.nsIn K mainGlobals "sorted" = some none)
    (z10 : PySem.W.nsIn K mainGlobals "range" = some none)
    (z11 : PySem.W.nsIn K mainGlobals "enumerate" = some none)
    (z12 : PySem.W.nsIn K mainGlobals "repr" = some none)
    (z13 : PySem.W.nsIn K mainGlobals "iter" = some none)
    (z14 : PySem.W.nsIn K mainGlobals "sum" = some none)
    (z15 : PySem.W.nsIn K mainGlobals "zip" = some none)
    (z16 : PySem.W.nsIn K mainGlobals "any" = some none)
    (d_is_int : DG K "is_int" s_is_int)
    (d_is_pair : DG K "is_pair" s_is_pair)
    (d_is_thing : DG K "is_thing" s_is_thing)
    (d_checked_clashes : DG K "checked_clashes" s_cc)
    (d_near_masks : DG K "near_masks" s_nm)
    (d_first_unfit : DG K "first_unfit" s_fw)
    (d_checked_row_of : DG K "checked_row_of" s_cro)
    (d_checked_row : DG K "checked_row" s_crw)
    (d_places_in : DG K "places_in" s_pin)
    (d_law_draws : DG K "_law_draws" s_dr)
    (d_law_take : DG K "_law_take" s_tk)
    (d_law_line : DG K "_law_line" s_ln')
    (d_law_ring : DG K "_law_ring" s_rg)
    (d_law_ring_row : DG K "_law_ring_row" s_rr')
    (d_law_contrary : DG K "_law_contrary" s_co)
    (d_law_stretches : DG K "_law_stretches" s_st')
    (d_law_row : DG K "_law_row" s_ro)
    (d_law_falling : DG K "_law_falling" s_fa)
    (d_law_free : DG K "_law_free" s_fr)
    (d_law_small : DG K "_law_small" s_sm)
    (d_law_sides : DG K "_law_sides" s_sd)
    (d_law_near : DG K "_law_near" s_ne)
    (d_law_twins : DG K "_law_twins" s_tw)
    (d_law_made : DG K "_law_made" s_md)
    (d_law_moved : DG K "_law_moved" s_mv)
    (d_law_case : DG K "_law_case" s_ca)
    (d_law_clash : DG K "_law_clash" s_ck)
    (d_law_quads : DG K "_law_quads" s_lq)
    (d_law_letters : DG K "_law_letters" s_let)
    (d_law_bad : DG K "_law_bad" s_lbd)
    (d_law_set : DG K "_law_set" s_se)
    (d_law_subsets : DG K "_law_subsets" s_sub)
    (d_check_things : DG K "check_things" s_cs)
    (d_check_part : DG K "check_part" s_cpt)
    (d_things_in : DG K "things_in" s_ti)
    (d_taken_first : DG K "taken_first" s_tf)
    (d_law_first_lot : DG K "_law_first_lot" s_fl)
    (d_mask_of : DG K "mask_of" s_mof)
    (d_least_in : DG K "least_in" s_le)
    (d_full_masks : DG K "full_masks" s_fm)
    (d_meets : DG K "meets" s_mt)
    (d_law_full : DG K "_law_full" s_ful)
    (d_law_knots : DG K "_law_knots" s_kn)
    (d_law_part : DG K "_law_part" s_pa)
    (d_law_full_of : DG K "_law_full_of" s_fof)
    (d_law_part_fits : DG K "_law_part_fits" s_lpf)
    (d_rows_of_four : DG K "rows_of_four" s_rf)
    (d_check_thing : DG K "check_thing" s_check_thing)
    (d_bad_rows : DG K "bad_rows" s_bdr)
    (d_first_bad : DG K "first_bad" s_fb)
    (d_missed_part : DG K "missed_part" s_mpt)
    (d_law_wrong_parts : DG K "_law_wrong_parts" s_lwp)
    (dLW : DG K "law" s_lw) :
    ∃ fd : FuncData, (∀ (s : Shared) (v : Value), BindsTo s fd ⟨[v], []⟩ [("_law_script", v)]) ∧ ∀ base : Heap, K.In base → base.Ns mainGlobals mg → FnOk P w K mg base (L2.CX P w) 10 fa fd ["_law_script"] (spLw K) := by
  have B3 : Blt3 mg := ⟨⟨⟨PySem.W.mg_none_of X G z0, PySem.W.mg_none_of X G z1, PySem.W.mg_none_of X G z2, PySem.W.mg_none_of X G z3, PySem.W.mg_none_of X G z4, PySem.W.mg_none_of X G z5⟩, PySem.W.mg_none_of X G z6, PySem.W.mg_none_of X G z7, PySem.W.mg_none_of X G z8, PySem.W.mg_none_of X G z9, PySem.W.mg_none_of X G z10, PySem.W.mg_none_of X G z11, PySem.W.mg_none_of X G z12, PySem.W.mg_none_of X G z13⟩, PySem.W.mg_none_of X G z14, PySem.W.mg_none_of X G z15⟩
  have B : Blt2 mg := B3.toBlt2
  have cC : Cls K C := ⟨pgC, hdC, poC, saC⟩
  have TW : WebC K C := ⟨cC, nm, nc, nk⟩
  have gWeb : mg "Web" = some (.ref C) := PySem.W.mg_of X G aC
  have cD : Cls K D := ⟨pgD, hdD, poD, saD⟩
  have TO : OrdC K D := ⟨cD, nw, nr, np⟩
  have gOrder : mg "Order" = some (.ref D) := PySem.W.mg_of X G aD
  obtain ⟨fl, fdl, el, Fl⟩ := dLW.ex
  have el' := hfa.symm.trans (PySem.W.mg_of X G el)
  cases el'
  refine ⟨fdl, fun s v => ?_, fun base _ _ => ?_⟩
  · obtain ⟨oc, od, kV, doc, pm, an, cdv, ct, osl, rfl, _, _⟩ := Fl.ex
    exact .of_eq rfl
  have h_int : Df P w K mg base "is_int" 1 ["value"] (spInt) := d_is_int.df X G (fun f fd F => FnOk.up (ok_int F B.toBlt)) (fun _ _ _ _ _ _ us hl => match us, hl with | [_], _ => rfl)
  have eBadNumberR : Er P w K mg base "BadNumber" CN ["name"] ["self", "name"] (spE1 CN "name") := eBadNumber.er X G (fun f fd F => ok_e1 F eBadNumber.T) (fun _ _ _ _ _ _ us hl => match us, hl with | [_, _], _ => rfl)
  have CNum : DfD P w K mg base "check_number" 3 ["value", "name", "least"] [.int 0] (spCn CN) := by
    obtain ⟨fd, F⟩ := n3.ex
    obtain ⟨ds, v, b⟩ := F.binds1 (ps := ["value", "name", "least"]) 2 0 (by simp) rfl fun _ _ _ _ _ _ _ us its l1 l2 => match us, its, l1, l2 with | [_, _], [_], _, _ => ⟨_, rfl, rfl⟩
    exact ⟨f0, fd, ds, PySem.W.mg_of X G n1, F.kp, ok_cn F h_int eBadNumberR, v, b⟩
  have CN3 : Df P w K mg base "check_number" 3 ["value", "name", "least"] (spCn CN) := by
    obtain ⟨fd, F⟩ := n3.ex
    obtain ⟨ds2, v2, b2⟩ := F.binds1 (ps := ["value", "name", "least"]) 3 1 (by simp) rfl fun _ _ _ _ _ _ _ us its l1 l2 => match us, its, l1, l2 with | [_, _, _], [_], _, _ => ⟨_, rfl, rfl⟩
    have w2 : Vals [] ds2 := v2
    cases w2
    exact ⟨f0, fd, PySem.W.mg_of X G n1, F.kp, ok_cn F h_int eBadNumberR, b2⟩
  have h_pair : Df P w K mg base "is_pair" 1 ["value"] (spPair) := d_is_pair.df X G (fun f fd F => FnOk.up (ok_pair F B.toBlt)) (fun _ _ _ _ _ _ us hl => match us, hl with | [_], _ => rfl)
  have h_th : Df P w K mg base "is_thing" 2 ["many", "value"] (spTh) := d_is_thing.df X G (fun f fd F => ok_th F h_int) (fun _ _ _ _ _ _ us hl => match us, hl with | [_, _], _ => rfl)
  have eBadWebR : Er P w K mg base "BadWeb" CW ["x", "y"] ["self", "x", "y"] (spE2 CW "x" "y") := eBadWeb.er X G (fun f fd F => ok_eW F eBadWeb.T) (fun _ _ _ _ _ _ us hl => match us, hl with | [_, _, _], _ => rfl)
  have h_cc : Df P w K mg base "checked_clashes" 3 ["many", "clashes"] (spCC K CW) := d_checked_clashes.df X G (fun f fd F => ok_cc F B h_pair h_th eBadWebR) (fun _ _ _ _ _ _ us hl => match us, hl with | [_, _], _ => rfl)
  have h_nm : Df P w K mg base "near_masks" 1 ["many", "clashes"] (spNm) := d_near_masks.df X G (fun f fd F => ok_nm F B) (fun _ _ _ _ _ _ us hl => match us, hl with | [_, _], _ => rfl)
  have WK : WebK P w K mg base C CN CW := by
    obtain ⟨fd, F⟩ := i3.ex
    obtain ⟨ds, v, b⟩ := F.binds1 (ps := ["self", "many", "clashes"]) 2 0 (by simp) rfl fun _ _ _ _ _ _ _ us its l1 l2 => match us, its, l1, l2 with | [_, _], [_], _, _ => ⟨_, rfl, rfl⟩
    obtain ⟨ds2, v2, b2⟩ := F.binds1 (ps := ["self", "many", "clashes"]) 3 1 (by simp) rfl fun _ _ _ _ _ _ _ us its l1 l2 => match us, its, l1, l2 with | [_, _, _], [_], _, _ => ⟨_, rfl, rfl⟩
    have w1 : Vals [V.ref e0] ds := v
    have w2 : Vals [] ds2 := v2
    cases w2
    cases w1 with
    | cons r1 r2 =>
      cases r2
      cases r1
      exact ⟨gWeb, fi, fd, ⟨mkC, i1, i2, kCC⟩, ok_wi F TW CNum h_cc h_nm, b2, e0, i4.sq, b⟩
  have h_fw : Df P w K mg base "first_unfit" 3 ["things", "row"] (spFw K) := d_first_unfit.df X G (fun f fd F => ok_fw F B h_int) (fun _ _ _ _ _ _ us hl => match us, hl with | [_, _], _ => rfl)
  have h_cro : Df P w K mg base "checked_row_of" 4 ["things", "row"] (spCrO K) := d_checked_row_of.df X G (fun f fd F => ok_cro F B h_fw) (fun _ _ _ _ _ _ us hl => match us, hl with | [_, _], _ => rfl)
  have h_crw : Df P w K mg base "checked_row" 5 ["many", "row"] (spCrw K) := d_checked_row.df X G (fun f fd F => ok_crw F B h_cro) (fun _ _ _ _ _ _ us hl => match us, hl with | [_, _], _ => rfl)
  have h_pin : Df P w K mg base "places_in" 1 ["row"] (spPin K) := d_places_in.df X G (fun f fd F => ok_pin F B) (fun _ _ _ _ _ _ us hl => match us, hl with | [_], _ => rfl)
  have OK : OrdK P w K mg base C D := by
    obtain ⟨fd, F⟩ := j3.ex
    exact ⟨gOrder, fo, fd, ⟨mkD, j1, j2, kCD⟩, ok_oi F TW TO h_crw h_pin, F.binds (ps := ["self", "web", "row"]) (fun _ _ _ _ _ _ us hl => match us, hl with | [_, _, _], _ => rfl)⟩
  have h_dr : Df P w K mg base "_law_draws" 1 ["_law_script"] (spDr K) := d_law_draws.df X G (fun f fd F => ok_dr F B) (fun _ _ _ _ _ _ us hl => match us, hl with | [_], _ => rfl)
  have h_tk : Df P w K mg base "_law_take" 1 ["_law_draws_here", "_law_many"] (spTk) := d_law_take.df X G (fun f fd F => ok_tk F B) (fun _ _ _ _ _ _ us hl => match us, hl with | [_, _], _ => rfl)
  have h_ln_p : Df P w K mg base "_law_line" 1 ["_law_many"] (spLine) := d_law_line.df X G (fun f fd F => ok_ln' F B) (fun _ _ _ _ _ _ us hl => match us, hl with | [_], _ => rfl)
  have h_rgN : Df P w K mg base "_law_ring" 1 ["_law_many"] (spRg) := d_law_ring.df X G (fun f fd F => ok_rgN F B) (fun _ _ _ _ _ _ us hl => match us, hl with | [_], _ => rfl)
  have h_rrw : Df P w K mg base "_law_ring_row" 1 ["_law_many"] (spRrw) := d_law_ring_row.df X G (fun f fd F => ok_rrw F B) (fun _ _ _ _ _ _ us hl => match us, hl with | [_], _ => rfl)
  have h_co : Df P w K mg base "_law_contrary" 1 ["_law_many", "_law_pairs"] (spCo) := d_law_contrary.df X G (fun f fd F => ok_co F B) (fun _ _ _ _ _ _ us hl => match us, hl with | [_, _], _ => rfl)
  have h_str : Df P w K mg base "_law_stretches" 2 ["_law_draws_here", "_law_many"] (spStr) := d_law_stretches.df X G (fun f fd F => ok_str F B h_tk) (fun _ _ _ _ _ _ us hl => match us, hl with | [_, _], _ => rfl)
  have h_ro : Df P w K mg base "_law_row" 2 ["_law_draws_here", "_law_many"] (spRo) := d_law_row.df X G (fun f fd F => ok_ro F B h_tk) (fun _ _ _ _ _ _ us hl => match us, hl with | [_, _], _ => rfl)
  have h_fa : Df P w K mg base "_law_falling" 3 ["_law_draws_here", "_law_many"] (spFa) := d_law_falling.df X G (fun f fd F => ok_fa F B h_ro) (fun _ _ _ _ _ _ us hl => match us, hl with | [_, _], _ => rfl)
  have h_fr : Df P w K mg base "_law_free" 2 ["_law_draws_here", "_law_many", "_law_left"] (spFr) := d_law_free.df X G (fun f fd F => ok_fr F B h_tk) (fun _ _ _ _ _ _ us hl => match us, hl with | [_, _, _], _ => rfl)
  have h_sm : Df P w K mg base "_law_small" 2 ["_law_draws_here"] (spSm) := d_law_small.df X G (fun f fd F => ok_sm F B h_tk h_ln_p) (fun _ _ _ _ _ _ us hl => match us, hl with | [_], _ => rfl)
  have h_sd : Df P w K mg base "_law_sides" 1 ["_law_one", "_law_other", "_law_joined"] (spSd) := d_law_sides.df X G (fun f fd F => ok_sd F B) (fun _ _ _ _ _ _ us hl => match us, hl with | [_, _, _], _ => rfl)
  have h_nu : Df P w K mg base "_law_near" 2 ["_law_many", "_law_pairs", "_law_x"] (spNu) := d_law_near.df X G (fun f fd F => ok_nu F B) (fun _ _ _ _ _ _ us hl => match us, hl with | [_, _, _], _ => rfl)
  have h_tw : Df P w K mg base "_law_twins" 3 ["_law_draws_here", "_law_case_here", "_law_most"] (spTwn) := d_law_twins.df X G (fun f fd F => ok_tw F B h_tk h_nu) (fun _ _ _ _ _ _ us hl => match us, hl with | [_, _, _], _ => rfl)
  have M : Mks P w K mg base := ⟨h_tk, h_ln_p, h_rgN, h_rrw, h_co, h_str, h_fa, h_fr, h_sm, h_sd, h_tw⟩
  have h_md : Df P w K mg base "_law_made" 4 ["_law_draws_here", "_law_most"] (spMd) := d_law_made.df X G (fun f fd F => ok_md F B M) (fun _ _ _ _ _ _ us hl => match us, hl with | [_, _], _ => rfl)
  have h_mv : Df P w K mg base "_law_moved" 1 ["_law_row_here", "_law_which", "_law_place"] (spMv) := d_law_moved.df X G (fun f fd F => ok_mv F B) (fun _ _ _ _ _ _ us hl => match us, hl with | [_, _, _], _ => rfl)
  have h_ca : Df P w K mg base "_law_case" 5 ["_law_draws_here", "_law_most"] (spMd) := d_law_case.df X G (fun f fd F => ok_ca F B h_tk h_md h_mv h_ro) (fun _ _ _ _ _ _ us hl => match us, hl with | [_, _], _ => rfl)
  have h_ne : Df P w K mg base "_law_near" 2 ["_law_many", "_law_pairs", "_law_x"] (spNe) := d_law_near.df X G (fun f fd F => ok_ne F B) (fun _ _ _ _ _ _ us hl => match us, hl with | [_, _, _], _ => rfl)
  have h_ck : Df P w K mg base "_law_clash" 2 ["_law_pairs", "_law_x", "_law_y"] (spCk) := d_law_clash.df X G (fun f fd F => ok_ck F B) (fun _ _ _ _ _ _ us hl => match us, hl with | [_, _, _], _ => rfl)
  have h_lq : Df P w K mg base "_law_quads" 3 ["_law_many", "_law_pairs"] (spLq) := d_law_quads.df X G (fun f fd F => ok_lq F B3 h_ne h_ck) (fun _ _ _ _ _ _ us hl => match us, hl with | [_, _], _ => rfl)
  have h_le2 : Df P w K mg base "_law_letters" 1 ["_law_row_here", "_law_quad"] (spLe2) := d_law_letters.df X G (fun f fd F => ok_le2 F ) (fun _ _ _ _ _ _ us hl => match us, hl with | [_, _], _ => rfl)
  have h_lb2 : Df P w K mg base "_law_bad" 2 ["_law_row_here", "_law_quads_here", "_law_letter"] (spLb2) := d_law_bad.df X G (fun f fd F => ok_lb2 F h_le2) (fun _ _ _ _ _ _ us hl => match us, hl with | [_, _, _], _ => rfl)
  have h_se : Df P w K mg base "_law_set" 2 ["_law_draws_here", "_law_many"] (spSe) := d_law_set.df X G (fun f fd F => ok_se F B h_tk) (fun _ _ _ _ _ _ us hl => match us, hl with | [_, _], _ => rfl)
  have h_sub : Df P w K mg base "_law_subsets" 1 ["_law_many"] (spSub) := d_law_subsets.df X G (fun f fd F => ok_sub F B) (fun _ _ _ _ _ _ us hl => match us, hl with | [_], _ => rfl)
  have h_lno : Mt P w K mg base D "__len__" 1 ["self"] (spLno K C D) := mOrder_len.mt cD (fun f fd F => ok_lno F B TO) (fun _ _ _ _ _ _ us hl => match us, hl with | [_], _ => rfl)
  have eBadPartR : Er P w K mg base "BadPart" CP ["place"] ["self", "place"] (spE1 CP "place") := eBadPart.er X G (fun f fd F => ok_eP F eBadPart.T) (fun _ _ _ _ _ _ us hl => match us, hl with | [_, _], _ => rfl)
  have h_cs : Df P w K mg base "check_things" 4 ["many", "things"] (spCs K CP) := d_check_things.df X G (fun f fd F => ok_cs F B h_fw eBadPartR) (fun _ _ _ _ _ _ us hl => match us, hl with | [_, _], _ => rfl)
  have h_cpt : Df P w K mg base "check_part" 5 ["many", "part"] (spCpt K CP) := d_check_part.df X G (fun f fd F => ok_cpt F B h_cs) (fun _ _ _ _ _ _ us hl => match us, hl with | [_, _], _ => rfl)
  have h_ti : Df P w K mg base "things_in" 1 ["mask"] (spTi) := d_things_in.df X G (fun f fd F => ok_ti F B) (fun _ _ _ _ _ _ us hl => match us, hl with | [_], _ => rfl)
  have h_tf : Df P w K mg base "taken_first" 2 ["order", "things"] (spTf K C D) := d_taken_first.df X G (fun f fd F => ok_tf F TW TO h_ti) (fun _ _ _ _ _ _ us hl => match us, hl with | [_, _], _ => rfl)
  have D2_first_lot : DfD P w K mg base "first_lot" 6 ["order", "part"] [.non] (spFlo K C D CP) := by
    obtain ⟨fd, F⟩ := k3_first_lot.ex
    obtain ⟨ds, v, b⟩ := F.binds1 (ps := ["order", "part"]) 1 0 (by simp) rfl fun _ _ _ _ _ _ _ us its l1 l2 => match us, its, l1, l2 with | [_], [_], _, _ => ⟨_, rfl, rfl⟩
    exact ⟨fhfirstlot, fd, ds, PySem.W.mg_of X G k1_first_lot, F.kp, ok_flo F B h_lno h_cpt h_tf, v, b⟩
  have D3_first_lot : Df P w K mg base "first_lot" 6 ["order", "part"] (spFlo K C D CP) := by
    obtain ⟨fd, F⟩ := k3_first_lot.ex
    obtain ⟨ds2, v2, b2⟩ := F.binds1 (ps := ["order", "part"]) 2 1 (by simp) rfl fun _ _ _ _ _ _ _ us its l1 l2 => match us, its, l1, l2 with | [_, _], [_], _, _ => ⟨_, rfl, rfl⟩
    have w2 : Vals [] ds2 := v2
    cases w2
    exact ⟨fhfirstlot, fd, PySem.W.mg_of X G k1_first_lot, F.kp, ok_flo F B h_lno h_cpt h_tf, b2⟩
  have h_fl : Df P w K mg base "_law_first_lot" 3 ["_law_many", "_law_pairs", "_law_row_here", "_law_part_here"] (spFl) := d_law_first_lot.df X G (fun f fd F => ok_fl F B h_ne) (fun _ _ _ _ _ _ us hl => match us, hl with | [_, _, _, _], _ => rfl)
  have h_mof : Df P w K mg base "mask_of" 1 ["things"] (spMof K) := d_mask_of.df X G (fun f fd F => ok_mof F ) (fun _ _ _ _ _ _ us hl => match us, hl with | [_], _ => rfl)
  have h_le : Df P w K mg base "least_in" 1 ["mask"] (spLe) := d_least_in.df X G (fun f fd F => ok_le F ) (fun _ _ _ _ _ _ us hl => match us, hl with | [_], _ => rfl)
  have h_fm : Df P w K mg base "full_masks" 3 ["masks", "part"] (spFm) := d_full_masks.df X G (fun f fd F => ok_fm F B h_le h_ti) (fun _ _ _ _ _ _ us hl => match us, hl with | [_, _], _ => rfl)
  have D2_full_knots : DfD P w K mg base "full_knots" 6 ["web", "part"] [.non] (spFk K C) := by
    obtain ⟨fd, F⟩ := k3_full_knots.ex
    obtain ⟨ds, v, b⟩ := F.binds1 (ps := ["web", "part"]) 1 0 (by simp) rfl fun _ _ _ _ _ _ _ us its l1 l2 => match us, its, l1, l2 with | [_], [_], _, _ => ⟨_, rfl, rfl⟩
    exact ⟨fhfullknots, fd, ds, PySem.W.mg_of X G k1_full_knots, F.kp, ok_fk F B TW h_cpt h_mof h_fm h_ti, v, b⟩
  have D3_full_knots : Df P w K mg base "full_knots" 6 ["web", "part"] (spFk K C) := by
    obtain ⟨fd, F⟩ := k3_full_knots.ex
    obtain ⟨ds2, v2, b2⟩ := F.binds1 (ps := ["web", "part"]) 2 1 (by simp) rfl fun _ _ _ _ _ _ _ us its l1 l2 => match us, its, l1, l2 with | [_, _], [_], _, _ => ⟨_, rfl, rfl⟩
    have w2 : Vals [] ds2 := v2
    cases w2
    exact ⟨fhfullknots, fd, PySem.W.mg_of X G k1_full_knots, F.kp, ok_fk F B TW h_cpt h_mof h_fm h_ti, b2⟩
  have h_mt : Df P w K mg base "meets" 1 ["things", "others"] (spMe K) := d_meets.df X G (fun f fd F => ok_mt F B (PySem.W.mg_none_of X G z16)) (fun _ _ _ _ _ _ us hl => match us, hl with | [_, _], _ => rfl)
  have D2_missed_knots : DfD P w K mg base "missed_knots" 7 ["order", "part"] [.non] (spMkn K C D CP) := by
    obtain ⟨fd, F⟩ := k3_missed_knots.ex
    obtain ⟨ds, v, b⟩ := F.binds1 (ps := ["order", "part"]) 1 0 (by simp) rfl fun _ _ _ _ _ _ _ us its l1 l2 => match us, its, l1, l2 with | [_], [_], _, _ => ⟨_, rfl, rfl⟩
    exact ⟨fhmissedknots, fd, ds, PySem.W.mg_of X G k1_missed_knots, F.kp, ok_mkn F B TO h_lno h_cpt D3_first_lot D3_full_knots h_mt, v, b⟩
  have D3_missed_knots : Df P w K mg base "missed_knots" 7 ["order", "part"] (spMkn K C D CP) := by
    obtain ⟨fd, F⟩ := k3_missed_knots.ex
    obtain ⟨ds2, v2, b2⟩ := F.binds1 (ps := ["order", "part"]) 2 1 (by simp) rfl fun _ _ _ _ _ _ _ us its l1 l2 => match us, its, l1, l2 with | [_, _], [_], _, _ => ⟨_, rfl, rfl⟩
    have w2 : Vals [] ds2 := v2
    cases w2
    exact ⟨fhmissedknots, fd, PySem.W.mg_of X G k1_missed_knots, F.kp, ok_mkn F B TO h_lno h_cpt D3_first_lot D3_full_knots h_mt, b2⟩
  have h_ful : Df P w K mg base "_law_full" 1 ["_law_sets"] (spFul) := d_law_full.df X G (fun f fd F => ok_ful F B) (fun _ _ _ _ _ _ us hl => match us, hl with | [_], _ => rfl)
  have h_kn : Df P w K mg base "_law_knots" 3 ["_law_many", "_law_pairs"] (spKn) := d_law_knots.df X G (fun f fd F => ok_kn F B h_ne) (fun _ _ _ _ _ _ us hl => match us, hl with | [_, _], _ => rfl)
  have h_pa : Df P w K mg base "_law_part" 1 ["_law_pairs", "_law_things"] (spPa) := d_law_part.df X G (fun f fd F => ok_pa F B) (fun _ _ _ _ _ _ us hl => match us, hl with | [_, _], _ => rfl)
  have h_fof : Df P w K mg base "_law_full_of" 4 ["_law_case_here", "_law_part_here"] (spFof) := d_law_full_of.df X G (fun f fd F => ok_fof F B h_ful h_kn h_pa) (fun _ _ _ _ _ _ us hl => match us, hl with | [_, _], _ => rfl)
  have h_lpf : Df P w K mg base "_law_part_fits" 8 ["_law_order", "_law_case_here", "_law_part_here", "_law_right"] (spPf K C D) := d_law_part_fits.df X G (fun f fd F => ok_lpf F B D3_first_lot h_fl D3_missed_knots h_fof) (fun _ _ _ _ _ _ us hl => match us, hl with | [_, _, _, _], _ => rfl)
  have h_rf : Df P w K mg base "rows_of_four" 2 ["web"] (spRf C) := d_rows_of_four.df X G (fun f fd F => ok_rf F B3 TW h_ti) (fun _ _ _ _ _ _ us hl => match us, hl with | [_], _ => rfl)
  have eBadThingR : Er P w K mg base "BadThing" CT ["thing"] ["self", "thing"] (spE1 CT "thing") := eBadThing.er X G (fun f fd F => ok_eT F eBadThing.T) (fun _ _ _ _ _ _ us hl => match us, hl with | [_, _], _ => rfl)
  have h_ct : Df P w K mg base "check_thing" 3 ["many", "thing"] (spCt CT) := d_check_thing.df X G (fun f fd F => ok_ct F h_th eBadThingR) (fun _ _ _ _ _ _ us hl => match us, hl with | [_, _], _ => rfl)
  have h_ah : Mt P w K mg base D "ahead" 4 ["self", "x", "y"] (spAh K C D) := mOrder_ahead.mt cD (fun f fd F => ok_ah F TW TO h_ct) (fun _ _ _ _ _ _ us hl => match us, hl with | [_, _, _], _ => rfl)
  have h_bdr : Df P w K mg base "bad_rows" 5 ["order"] (spBdr K C D) := d_bad_rows.df X G (fun f fd F => ok_bdr F B TO h_rf h_ah) (fun _ _ _ _ _ _ us hl => match us, hl with | [_], _ => rfl)
  have h_fb : Df P w K mg base "first_bad" 6 ["order"] (spFb K C D) := d_first_bad.df X G (fun f fd F => ok_fb F h_bdr) (fun _ _ _ _ _ _ us hl => match us, hl with | [_], _ => rfl)
  have h_mpt : Df P w K mg base "missed_part" 7 ["order"] (spMpt K C D) := d_missed_part.df X G (fun f fd F => ok_mpt F B h_fb) (fun _ _ _ _ _ _ us hl => match us, hl with | [_], _ => rfl)
  have h_lwp : Df P w K mg base "_law_wrong_parts" 8 ["_law_order", "_law_many"] (spWp K C D) := d_law_wrong_parts.df X G (fun f fd F => ok_lwp F (PySem.W.mg_of X G eBadPart.g) (PySem.W.mg_of X G aOrdersError) (eBadPart.T.exm xBadPartBadPart) eBadPart.T.xf (eBadPart.T.no _ (by simp)) D3_missed_knots) (fun _ _ _ _ _ _ us hl => match us, hl with | [_, _], _ => rfl)
  exact ok_lw  Fl B3 WK OK h_dr h_tk h_ca h_lq h_lb2 h_se h_sub h_lpf D3_missed_knots D2_missed_knots D3_first_lot h_mpt h_lwp
end K0
set_option Elab.async false
set_option linter.all false
set_option maxRecDepth 100000
set_option maxHeartbeats 4000000
namespace K0
open PySem PySem.Spec PyProof.Rows L2
/-! ### what the top leaves, looked at in one run -/
/-- a def that stands where a path leads -/
structure DP where
  path : PySem.W.Frag → Addr
  nm : Str
  qn : Str
  st : Stmt
  df : List He.Dv
def DP.seen (d : DP) (K : PySem.W.Frag) : He.FnW :=
  match K.lookup (d.path K) with
  | some ⟨_, _, .func g, _⟩ => some (g.name, g.qualname, g.params, g.body, g.scope, g.globals, g.closure, g.builtins)
  | _ => none
def DP.due (d : DP) : He.FnW := some (d.nm, d.qn, defArgs d.st, .stmts (defBody d.st), defScope d.st, mainGlobals, [], builtinsNs)
def DP.fit (d : DP) (K : PySem.W.Frag) : Bool :=
  PySem.W.keepIn K (.ref (d.path K)) && match K.lookup (d.path K) with
  | some ⟨_, _, .func g, _⟩ => PySem.W.codeIn K g.code d.qn && He.dflB K g.defaults (d.df.map (He.Dv.v K))
  | _ => false
theorem DP.stands {d : DP} {K : PySem.W.Frag} (e : d.seen K = d.due) (c : d.fit K = true) :
    ∃ oc od osl dV kV doc pm an cdv ct, K.lookup (d.path K) = some ⟨oc, od, .func (PySem.W.fnOf d.nm d.qn (defArgs d.st) (defBody d.st) (defScope d.st) dV kV doc pm an cdv ct), osl⟩ ∧
      PySem.W.codeIn K cdv d.qn = true ∧ He.dflB K dV (d.df.map (He.Dv.v K)) = true ∧ PySem.W.keepIn K (.ref (d.path K)) = true := by
  have c1 := Bool.and_eq_true_iff.mp (show (PySem.W.keepIn K (.ref (d.path K)) && match K.lookup (d.path K) with
    | some ⟨_, _, .func g, _⟩ => PySem.W.codeIn K g.code d.qn && He.dflB K g.defaults (d.df.map (He.Dv.v K))
    | _ => false) = true from c)
  have c2 := c1.2
  have e2 : (match K.lookup (d.path K) with
    | some ⟨_, _, .func g, _⟩ => (some (g.name, g.qualname, g.params, g.body, g.scope, g.globals, g.closure, g.builtins) : He.FnW)
    | _ => none) = d.due := e
  generalize hl : K.lookup (d.path K) = o at c2 e2
  match o, c2, e2 with
  | some ⟨oc, od, .func g, osl⟩, c2, e2 =>
    have e3 := Option.some.inj e2
    obtain ⟨g1, g2, g3, g4, g5, g6, g7, g8, g9, g10, g11, g12, g13, g14, g15⟩ := g
    simp only [Prod.mk.injEq] at e3
    obtain ⟨q1, q2, q3, q4, q5, q6, q7, q8⟩ := e3
    subst q1 q2 q3 q4 q5 q6 q7 q8
    have c3 := Bool.and_eq_true_iff.mp c2
    exact ⟨oc, od, osl, g8, g9, g10, g11, g12, g13, g14, rfl, c3.1, c3.2, c1.1⟩
theorem DP.plain {d : DP} {K : PySem.W.Frag} (e : d.seen K = d.due) (c : d.fit K = true) (h : d.df = []) : ∃ fd, Fun K d.nm d.qn d.st (d.path K) fd := by
  obtain ⟨oc, od, osl, dV, kV, doc, pm, an, cdv, ct, l, a, b, k⟩ := DP.stands e c
  rw [h] at b
  cases dV with
  | none => exact ⟨_, ⟨oc, od, kV, doc, pm, an, cdv, ct, osl, rfl, l, a⟩, k⟩
  | _ => cases b
theorem DP.one {d : DP} {K : PySem.W.Frag} {x : He.Dv} (e : d.seen K = d.due) (c : d.fit K = true) (h : d.df = [x]) : XG K d.nm d.qn d.st (d.path K) (x.v K) := by
  obtain ⟨oc, od, osl, dV, kV, doc, pm, an, cdv, ct, l, a, b, k⟩ := DP.stands e c
  rw [h] at b
  exact ⟨_, ⟨oc, od, dV, kV, doc, pm, an, cdv, ct, osl, rfl, l, a, He.dflB_ok b, .inl rfl⟩, k⟩
/-! ### the look -/
abbrev AlK : Type := Bool × List He.FnW
def seeK (bs : List (PySem.W.Frag → Bool)) (ds : List DP) (K : PySem.W.Frag) : AlK := ((bs.all fun b => b K) && ds.all fun d => d.fit K, ds.map fun d => d.seen K)
def dueK (ds : List DP) : AlK := (true, ds.map DP.due)
/-- the places that the top has laid, the module's names ahead of them -/
def plK (n : Nat) : List Addr := mainGlobals :: List.range' 0 n
def hookK (bs : List (PySem.W.Frag → Bool)) (ds : List DP) : PySem.W.Hook where
  α := AlK
  obs := fun s => seeK bs ds (He.frG s.heap.get? (plK s.heap.objs.size))
  val := fun _ => dueK ds
  says := fun _ h => ∃ K : PySem.W.Frag, K.In h ∧ seeK bs ds K = dueK ds
  of := fun _ _ e => ⟨_, He.frG_in, e⟩
  keeps := fun _ _ _ ⟨K, x, c⟩ k => ⟨K, PySem.W.Frag.In.keeps x k, c⟩
def obK (bs : List (PySem.W.Frag → Bool)) (ds : List DP) (s : PySem.W.SharedT) : AlK := seeK bs ds (He.frG (HandSHeadRun.getT s) (plK s.n))
theorem obK_eq (bs : List (PySem.W.Frag → Bool)) (ds : List DP) (s : PySem.W.SharedT) : obK bs ds s = (hookK bs ds).obs s.abs := by
  have e : HandSHeadRun.getT s = s.abs.heap.get? := funext fun a => HandSHeadRun.getT_eq s a
  have e2 : s.abs.heap.objs.size = s.n := PySem.W.absHeap_size s.tree s.n s.life
  show seeK bs ds _ = seeK bs ds _
  rw [e, e2]
section
variable {bs : List (PySem.W.Frag → Bool)} {ds : List DP} {K : PySem.W.Frag}
theorem seen_fact (c : seeK bs ds K = dueK ds) (i : Nat) {b : PySem.W.Frag → Bool} (h : bs[i]? = some b) : b K = true := by
  have z := (Bool.and_eq_true_iff.mp (show ((bs.all fun b => b K) && ds.all fun d => d.fit K) = true from congrArg Prod.fst c)).1
  exact List.all_eq_true.mp z b (List.mem_of_getElem? h)
theorem seen_def (c : seeK bs ds K = dueK ds) (i : Nat) {d : DP} (h : ds[i]? = some d) : d.seen K = d.due ∧ d.fit K = true := by
  have z := (Bool.and_eq_true_iff.mp (show ((bs.all fun b => b K) && ds.all fun d => d.fit K) = true from congrArg Prod.fst c)).2
  have e : (ds.map fun d => d.seen K) = ds.map DP.due := congrArg Prod.snd c
  have e2 := congrArg (fun l => l[i]?) e
  rw [List.getElem?_map, List.getElem?_map, h] at e2
  exact ⟨Option.some.inj e2, List.all_eq_true.mp z d (List.mem_of_getElem? h)⟩
theorem seen_fun (c : seeK bs ds K = dueK ds) (i : Nat) {p : PySem.W.Frag → Addr} {x q : Str} {st : Stmt} (h : ds[i]? = some ⟨p, x, q, st, []⟩) : ∃ fd, Fun K x q st (p K) fd := by
  obtain ⟨a, b⟩ := seen_def c i h
  exact DP.plain a b rfl
theorem seen_one (c : seeK bs ds K = dueK ds) (i : Nat) {p : PySem.W.Frag → Addr} {x q : Str} {st : Stmt} {v : He.Dv} (h : ds[i]? = some ⟨p, x, q, st, [v]⟩) : XG K x q st (p K) (v.v K) := by
  obtain ⟨a, b⟩ := seen_def c i h
  exact DP.one a b rfl
end
/-! ### kinds of facts -/
def mroB (C : Addr) (l : List Value) : Bool :=
  match l with
  | .ref c :: bm => decide (c = C) && (tailOf bm == exT)
  | _ => false
theorem mroB_ok {C : Addr} {l : List Value} (h : mroB C l = true) : ∃ bm, l = .ref C :: bm ∧ (tailOf bm == exT) = true := by
  unfold mroB at h
  split at h
  · obtain ⟨h1, h2⟩ := Bool.and_eq_true_iff.mp h
    rw [of_decide_eq_true h1]
    exact ⟨_, rfl, h2⟩
  · cases h
def bltB (i : String) (v : Option Value) : Bool :=
  match v with
  | some (.builtin j) => decide (j = i)
  | _ => false
theorem bltB_ok {i : String} {v : Option Value} (h : bltB i v = true) : v = some (.builtin i) := by
  unfold bltB at h
  split at h
  · rw [of_decide_eq_true h]
  · cases h
def sltB (l : List (Option Value)) : Bool :=
  match l with
  | [_, _, _, _, v, _] => bltB "Exception.__new__" v
  | _ => false
theorem sltB_ok {l : List (Option Value)} (h : sltB l = true) : ∃ k0 k1 k2 k3 k5, l = [k0, k1, k2, k3, some (.builtin "Exception.__new__"), k5] := by
  unfold sltB at h
  split at h
  · rw [bltB_ok h]
    exact ⟨_, _, _, _, _, rfl⟩
  · cases h
def exB (C : Addr) (K : PySem.W.Frag) : Bool :=
  match K.lookup C with
  | some ⟨.type t, _, .cls cd, sl⟩ => decide (t = "type") && (mroB C cd.mro && (cd.hasDict && (!cd.hasDel && sltB sl.toList)))
  | _ => false
theorem exB_ok {C : Addr} {K : PySem.W.Frag} (h : exB C K = true) : ∃ nm q N bs bm sn sub ab col dd k0 k1 k2 k3 k5, K.lookup C = some (excClassObj nm q C N bs bm true sn sub ab col dd k0 k1 k2 k3 k5 "Exception.__new__") ∧ (tailOf bm == exT) = true := by
  unfold exB at h
  split at h
  · rename_i t dd cd sl hl
    obtain ⟨h1, h⟩ := Bool.and_eq_true_iff.mp h
    obtain ⟨h2, h⟩ := Bool.and_eq_true_iff.mp h
    obtain ⟨h3, h⟩ := Bool.and_eq_true_iff.mp h
    obtain ⟨h4, h5⟩ := Bool.and_eq_true_iff.mp h
    obtain ⟨c1, c2, c3, c4, c5, c6, c7, c8, c9, c10, c11⟩ := cd
    obtain ⟨bm, e3, a2⟩ := mroB_ok h2
    obtain ⟨k0, k1, k2, k3, k5, e5⟩ := sltB_ok h5
    have e1 : t = "type" := of_decide_eq_true h1
    have e6 : c6 = true := h3
    have e11 : c11 = false := by
      cases c11 with
      | false => rfl
      | true => cases h4
    have e3' : c3 = .ref C :: bm := e3
    obtain ⟨sl⟩ := sl
    have e5' : sl = [k0, k1, k2, k3, some (.builtin "Exception.__new__"), k5] := e5
    subst e1 e6 e11 e3' e5'
    exact ⟨c1, c5, c4, c2, bm, c7, c8, c9, c10, dd, k0, k1, k2, k3, k5, hl, a2⟩
  · cases h
def egB (x : Str) (fl : List Str) (K : PySem.W.Frag) : Bool :=
  He.eqO (PySem.W.nsIn K mainGlobals x) (some (some (.ref (He.ga K x)))) && (exB (He.ga K x) K && (He.eqO (PySem.W.findIn K (.ref (He.ga K x)) "__setattr__") (some (some (.builtin "object.__setattr__")))
  && (He.eqO (PySem.W.findIn K (.ref (He.ga K x)) "__getattribute__") (some (some (.builtin "BaseException.__getattribute__"))) && (He.eqO (PySem.W.findIn K (.ref (He.ga K x)) "__getattr__") (some none)
  && (decide (PySem.W.subIn K (.ref (He.ga K x)) (.type "BaseException") = some true) && (decide (PySem.W.typeIn K (.ref (He.ga K x)) = some (.type "type")) && (PySem.W.keepIn K (.ref (He.ga K x))
  && (PySem.W.hasDictIn K (He.ga K x) && ((fl.all fun f => He.eqO (PySem.W.findIn K (.ref (He.ga K x)) f) (some none)) && (He.eqO (PySem.W.findIn K (.ref (He.ga K x)) "__init__") (some (some (.ref (He.ma K (He.ga K x) "__init__"))))
  && decide (PySem.W.typeIn K (.ref (He.ma K (He.ga K x) "__init__")) = some (.type "function"))))))))))))
theorem eg_of {x q : Str} {fl : List Str} {st : Stmt} {K : PySem.W.Frag} (h : egB x fl K = true) (F : ∃ fd, Fun K "__init__" q st (He.ma K (He.ga K x) "__init__") fd) : EG K x (He.ga K x) fl q st := by
  obtain ⟨fd, F⟩ := F
  obtain ⟨h1, h⟩ := Bool.and_eq_true_iff.mp h
  obtain ⟨h2, h⟩ := Bool.and_eq_true_iff.mp h
  obtain ⟨h3, h⟩ := Bool.and_eq_true_iff.mp h
  obtain ⟨h4, h⟩ := Bool.and_eq_true_iff.mp h
  obtain ⟨h5, h⟩ := Bool.and_eq_true_iff.mp h
  obtain ⟨h6, h⟩ := Bool.and_eq_true_iff.mp h
  obtain ⟨h7, h⟩ := Bool.and_eq_true_iff.mp h
  obtain ⟨h8, h⟩ := Bool.and_eq_true_iff.mp h
  obtain ⟨h9, h⟩ := Bool.and_eq_true_iff.mp h
  obtain ⟨h10, h⟩ := Bool.and_eq_true_iff.mp h
  obtain ⟨h11, h12⟩ := Bool.and_eq_true_iff.mp h
  exact ⟨⟨exB_ok h2, He.eqO_ok h3, He.eqO_ok h4, He.eqO_ok h5, of_decide_eq_true h6, of_decide_eq_true h7, h8, h9, fun f hf => He.eqO_ok (List.all_eq_true.mp h10 f hf)⟩, He.eqO_ok h1, _, fd, He.eqO_ok h11, of_decide_eq_true h12, F⟩
def dgB (x : Str) (K : PySem.W.Frag) : Bool := He.eqO (PySem.W.nsIn K mainGlobals x) (some (some (.ref (He.ga K x))))
theorem dg_of {x : Str} {st : Stmt} {K : PySem.W.Frag} (h : dgB x K = true) (F : ∃ fd, Fun K x x st (He.ga K x) fd) : DG K x st := by
  obtain ⟨fd, F⟩ := F
  exact ⟨_, fd, He.eqO_ok h, F⟩
def mgB (c m : Str) (K : PySem.W.Frag) : Bool := He.eqO (PySem.W.findIn K (.ref (He.ga K c)) m) (some (some (.ref (He.ma K (He.ga K c) m)))) && (PySem.W.isFn K (.ref (He.ma K (He.ga K c) m)) && PySem.W.fnIn K (He.ma K (He.ga K c) m))
theorem mg_of' {c m q : Str} {st : Stmt} {K : PySem.W.Frag} (h : mgB c m K = true) (F : ∃ fd, Fun K m q st (He.ma K (He.ga K c) m) fd) : MG K (He.ga K c) m q st := by
  obtain ⟨fd, F⟩ := F
  obtain ⟨h1, h⟩ := Bool.and_eq_true_iff.mp h
  obtain ⟨h2, h3⟩ := Bool.and_eq_true_iff.mp h
  exact ⟨_, fd, He.eqO_ok h1, h2, h3, F⟩
def emB (p : PySem.W.Frag → Addr) (K : PySem.W.Frag) : Bool :=
  match K.lookup (p K) with
  | some ⟨.type t, _, .seq its _, _⟩ => decide (t = "tuple") && its.isEmpty
  | _ => false
theorem em_of {p : PySem.W.Frag → Addr} {K : PySem.W.Frag} (h : emB p K = true) : EmT K (p K) := by
  unfold emB at h
  split at h
  · rename_i t dd its n sl hl
    obtain ⟨h1, h2⟩ := Bool.and_eq_true_iff.mp h
    have e : t = "tuple" := of_decide_eq_true h1
    subst e
    exact ⟨_, its, n, hl, rfl, rfl, Array.isEmpty_iff.mp h2⟩
  · cases h
/-! ### the end over a part that the look gives -/
theorem walk_see {l : PySem.W.OpenLaw} {q : Program} {loose : List Str} {XP : (Str → Option Value) → Heap → Prop} {YP : World → Heap → Prop} {d : DefRec} {k : Nat} {x : Str} (hn : l.most = some 63) (hdf : d.params.defaults = []) (room : Room k callerA)
    (F : ∀ (w : World) (mg : Str → Option Value) (fa : Addr) (h : Heap), YP w h → h.Ns mainGlobals mg → mg d.name = some (.ref fa) → ∃ (K : PySem.W.Frag) (fd : FuncData) (sp : Sp), K.In h ∧ (∀ (s : Shared) (u : Value), BindsTo s fd ⟨[u], []⟩ [(x, u)]) ∧
      (∀ (H : Hp) (a : Addr) (ns : List Int), SqL K H a (ns.map V.int) → sp [.ref a] H (fun v _ => v = .bl true) fun _ _ _ => False) ∧ ∀ base : Heap, K.In base → base.Ns mainGlobals mg → FnOk l.prog w K mg base (L2.CX l.prog w) k fa fd [x] sp) :
    PySem.W.WalkO q loose XP YP l.row.toRowW d [] fun f vs => PySem.call f vs :=
  Att.attach_call hn hdf fun w s0 s1 mg mb fa o pm cd doc a vs ns G Y _ _ _ hm ob hi hl hg => by
    obtain ⟨K, fd, sp, KX, hb, hsp, ok⟩ := F w mg fa _ Y G.T.g hm
    exact law_call KX G.T.g G.T.b G.T.builtins G.T.nolimit hg ob hi (Nat.le_trans hl (by decide)) room ok hb (fun H _ hS => hsp H a ns hS) fun _ _ _ z => by
      obtain ⟨_, _, _, _, _, _, _, _, _, _, _, _, z⟩ := z
      exact z
end K0
set_option Elab.async false
set_option linter.all false
set_option maxRecDepth 100000
set_option maxHeartbeats 4000000
namespace K0
open PySem PySem.Spec PyProof.Rows L2
def hxb0 : List (PySem.W.Frag → Bool) := [egB "BadNumber" ["name"], egB "BadWeb" ["x", "y"], egB "BadPart" ["place"], egB "BadThing" ["thing"], fun K => He.eqO (PySem.W.nsIn K mainGlobals "OrdersError") (some (some (.ref (He.ga K "OrdersError")))), fun K => He.eqO (PySem.W.nsIn K mainGlobals "Web") (some (some (.ref (He.ga K "Web")))), fun K => PySem.W.plainGet K (He.ga K "Web") Str.empty, fun K => PySem.W.hasDictIn K (He.ga K "Web"), fun K => PySem.W.plainOver K (He.ga K "Web"), fun K => He.eqO (PySem.W.findIn K (.ref (He.ga K "Web")) "__setattr__") (some (some (.builtin "object.__setattr__"))), fun K => PySem.W.makesIn K (He.ga K "Web"), fun K => PySem.W.keepIn K (.ref (He.ga K "Web"))]
def hxb1 : List (PySem.W.Frag → Bool) := [fun K => PySem.W.readsIn K (He.ga K "Web") (.type "type"), fun K => He.eqO (PySem.W.specialIn K (.ref (He.ga K "Web")) "__getattribute__") (some (some (.builtin "type.__getattribute__"))), fun K => He.eqO (PySem.W.nsIn K mainGlobals "Order") (some (some (.ref (He.ga K "Order")))), fun K => PySem.W.plainGet K (He.ga K "Order") Str.empty, fun K => PySem.W.hasDictIn K (He.ga K "Order"), fun K => PySem.W.plainOver K (He.ga K "Order"), fun K => He.eqO (PySem.W.findIn K (.ref (He.ga K "Order")) "__setattr__") (some (some (.builtin "object.__setattr__"))), fun K => PySem.W.makesIn K (He.ga K "Order"), fun K => PySem.W.keepIn K (.ref (He.ga K "Order")), fun K => PySem.W.readsIn K (He.ga K "Order") (.type "type"), fun K => He.eqO (PySem.W.specialIn K (.ref (He.ga K "Order")) "__getattribute__") (some (some (.builtin "type.__getattribute__"))), fun K => He.eqO (PySem.W.findIn K (.ref (He.ga K "Web")) "many") (some none)]
def hxb2 : List (PySem.W.Frag → Bool) := [fun K => He.eqO (PySem.W.findIn K (.ref (He.ga K "Web")) "clashes") (some none), fun K => He.eqO (PySem.W.findIn K (.ref (He.ga K "Web")) "masks") (some none), fun K => He.eqO (PySem.W.findIn K (.ref (He.ga K "Web")) "__init__") (some (some (.ref (He.ma K (He.ga K "Web") "__init__")))), fun K => PySem.W.isFn K (.ref (He.ma K (He.ga K "Web") "__init__")), emB (He.dflAt ("Web", some "__init__") 0), fun K => He.eqO (PySem.W.findIn K (.ref (He.ga K "Order")) "web") (some none), fun K => He.eqO (PySem.W.findIn K (.ref (He.ga K "Order")) "row") (some none), fun K => He.eqO (PySem.W.findIn K (.ref (He.ga K "Order")) "places") (some none), fun K => He.eqO (PySem.W.findIn K (.ref (He.ga K "Order")) "__init__") (some (some (.ref (He.ma K (He.ga K "Order") "__init__")))), fun K => PySem.W.isFn K (.ref (He.ma K (He.ga K "Order") "__init__")), fun K => He.eqO (PySem.W.nsIn K mainGlobals "check_number") (some (some (.ref (He.ga K "check_number")))), fun K => decide (PySem.W.subIn K (.ref (He.ga K "BadPart")) (.ref (He.ga K "BadPart")) = some true)]
def hxb3 : List (PySem.W.Frag → Bool) := [mgB "Order" "__len__", fun K => He.eqO (PySem.W.nsIn K mainGlobals "first_lot") (some (some (.ref (He.ga K "first_lot")))), fun K => He.eqO (PySem.W.nsIn K mainGlobals "full_knots") (some (some (.ref (He.ga K "full_knots")))), fun K => He.eqO (PySem.W.nsIn K mainGlobals "missed_knots") (some (some (.ref (He.ga K "missed_knots")))), mgB "Order" "ahead", fun K => He.eqO (PySem.W.nsIn K mainGlobals "isinstance") (some none), fun K => He.eqO (PySem.W.nsIn K mainGlobals "int") (some none), fun K => He.eqO (PySem.W.nsIn K mainGlobals "bool") (some none), fun K => He.eqO (PySem.W.nsIn K mainGlobals "list") (some none), fun K => He.eqO (PySem.W.nsIn K mainGlobals "tuple") (some none), fun K => He.eqO (PySem.W.nsIn K mainGlobals "len") (some none), fun K => He.eqO (PySem.W.nsIn K mainGlobals "set") (some none)]
def hxb4 : List (PySem.W.Frag → Bool) := [fun K => He.eqO (PySem.W.nsIn K mainGlobals "min") (some none), fun K => He.eqO (PySem.W.nsIn K mainGlobals "max") (some none), fun K => He.eqO (PySem.W.nsIn K mainGlobals "sorted") (some none), fun K => He.eqO (PySem.W.nsIn K mainGlobals "range") (some none), fun K => He.eqO (PySem.W.nsIn K mainGlobals "enumerate") (some none), fun K => He.eqO (PySem.W.nsIn K mainGlobals "repr") (some none), fun K => He.eqO (PySem.W.nsIn K mainGlobals "iter") (some none), fun K => He.eqO (PySem.W.nsIn K mainGlobals "sum") (some none), fun K => He.eqO (PySem.W.nsIn K mainGlobals "zip") (some none), fun K => He.eqO (PySem.W.nsIn K mainGlobals "any") (some none), dgB "is_int", dgB "is_pair"]
def hxb5 : List (PySem.W.Frag → Bool) := [dgB "is_thing", dgB "checked_clashes", dgB "near_masks", dgB "first_unfit", dgB "checked_row_of", dgB "checked_row", dgB "places_in", dgB "_law_draws", dgB "_law_take", dgB "_law_line", dgB "_law_ring", dgB "_law_ring_row"]
def hxb6 : List (PySem.W.Frag → Bool) := [dgB "_law_contrary", dgB "_law_stretches", dgB "_law_row", dgB "_law_falling", dgB "_law_free", dgB "_law_small", dgB "_law_sides", dgB "_law_near", dgB "_law_twins", dgB "_law_made", dgB "_law_moved", dgB "_law_case"]
def hxb7 : List (PySem.W.Frag → Bool) := [dgB "_law_clash", dgB "_law_quads", dgB "_law_letters", dgB "_law_bad", dgB "_law_set", dgB "_law_subsets", dgB "check_things", dgB "check_part", dgB "things_in", dgB "taken_first", dgB "_law_first_lot", dgB "mask_of"]
def hxb8 : List (PySem.W.Frag → Bool) := [dgB "least_in", dgB "full_masks", dgB "meets", dgB "_law_full", dgB "_law_knots", dgB "_law_part", dgB "_law_full_of", dgB "_law_part_fits", dgB "rows_of_four", dgB "check_thing", dgB "bad_rows", dgB "first_bad"]
def hxb9 : List (PySem.W.Frag → Bool) := [dgB "missed_part", dgB "_law_wrong_parts", dgB "law"]
def hxd0 : List DP := [⟨fun K => He.ma K (He.ga K "BadNumber") "__init__", "__init__", "BadNumber.__init__", s_e1, []⟩, ⟨fun K => He.ma K (He.ga K "BadWeb") "__init__", "__init__", "BadWeb.__init__", s_eW, []⟩, ⟨fun K => He.ma K (He.ga K "BadPart") "__init__", "__init__", "BadPart.__init__", s_eP, []⟩, ⟨fun K => He.ma K (He.ga K "BadThing") "__init__", "__init__", "BadThing.__init__", s_eT, []⟩, ⟨fun K => He.ma K (He.ga K "Web") "__init__", "__init__", "Web.__init__", s_wi, [.adr (He.dflAt ("Web", some "__init__") 0)]⟩, ⟨fun K => He.ma K (He.ga K "Order") "__init__", "__init__", "Order.__init__", s_oi, []⟩, ⟨fun K => He.ga K "check_number", "check_number", "check_number", s_check_number, [.int 0]⟩, ⟨fun K => He.ma K (He.ga K "Order") "__len__", "__len__", "Order.__len__", (s_lno), []⟩, ⟨fun K => He.ga K "first_lot", "first_lot", "first_lot", s_flo, [.non]⟩, ⟨fun K => He.ga K "full_knots", "full_knots", "full_knots", s_fk, [.non]⟩, ⟨fun K => He.ga K "missed_knots", "missed_knots", "missed_knots", s_mkn, [.non]⟩, ⟨fun K => He.ma K (He.ga K "Order") "ahead", "ahead", "Order.ahead", ((s_o 2)), []⟩]
def hxd1 : List DP := [⟨fun K => He.ga K "is_int", "is_int", "is_int", s_is_int, []⟩, ⟨fun K => He.ga K "is_pair", "is_pair", "is_pair", s_is_pair, []⟩, ⟨fun K => He.ga K "is_thing", "is_thing", "is_thing", s_is_thing, []⟩, ⟨fun K => He.ga K "checked_clashes", "checked_clashes", "checked_clashes", s_cc, []⟩, ⟨fun K => He.ga K "near_masks", "near_masks", "near_masks", s_nm, []⟩, ⟨fun K => He.ga K "first_unfit", "first_unfit", "first_unfit", s_fw, []⟩, ⟨fun K => He.ga K "checked_row_of", "checked_row_of", "checked_row_of", s_cro, []⟩, ⟨fun K => He.ga K "checked_row", "checked_row", "checked_row", s_crw, []⟩, ⟨fun K => He.ga K "places_in", "places_in", "places_in", s_pin, []⟩, ⟨fun K => He.ga K "_law_draws", "_law_draws", "_law_draws", s_dr, []⟩, ⟨fun K => He.ga K "_law_take", "_law_take", "_law_take", s_tk, []⟩, ⟨fun K => He.ga K "_law_line", "_law_line", "_law_line", s_ln', []⟩]
def hxd2 : List DP := [⟨fun K => He.ga K "_law_ring", "_law_ring", "_law_ring", s_rg, []⟩, ⟨fun K => He.ga K "_law_ring_row", "_law_ring_row", "_law_ring_row", s_rr', []⟩, ⟨fun K => He.ga K "_law_contrary", "_law_contrary", "_law_contrary", s_co, []⟩, ⟨fun K => He.ga K "_law_stretches", "_law_stretches", "_law_stretches", s_st', []⟩, ⟨fun K => He.ga K "_law_row", "_law_row", "_law_row", s_ro, []⟩, ⟨fun K => He.ga K "_law_falling", "_law_falling", "_law_falling", s_fa, []⟩, ⟨fun K => He.ga K "_law_free", "_law_free", "_law_free", s_fr, []⟩, ⟨fun K => He.ga K "_law_small", "_law_small", "_law_small", s_sm, []⟩, ⟨fun K => He.ga K "_law_sides", "_law_sides", "_law_sides", s_sd, []⟩, ⟨fun K => He.ga K "_law_near", "_law_near", "_law_near", s_ne, []⟩, ⟨fun K => He.ga K "_law_twins", "_law_twins", "_law_twins", s_tw, []⟩, ⟨fun K => He.ga K "_law_made", "_law_made", "_law_made", s_md, []⟩]
def hxd3 : List DP := [⟨fun K => He.ga K "_law_moved", "_law_moved", "_law_moved", s_mv, []⟩, ⟨fun K => He.ga K "_law_case", "_law_case", "_law_case", s_ca, []⟩, ⟨fun K => He.ga K "_law_clash", "_law_clash", "_law_clash", s_ck, []⟩, ⟨fun K => He.ga K "_law_quads", "_law_quads", "_law_quads", s_lq, []⟩, ⟨fun K => He.ga K "_law_letters", "_law_letters", "_law_letters", s_let, []⟩, ⟨fun K => He.ga K "_law_bad", "_law_bad", "_law_bad", s_lbd, []⟩, ⟨fun K => He.ga K "_law_set", "_law_set", "_law_set", s_se, []⟩, ⟨fun K => He.ga K "_law_subsets", "_law_subsets", "_law_subsets", s_sub, []⟩, ⟨fun K => He.ga K "check_things", "check_things", "check_things", s_cs, []⟩, ⟨fun K => He.ga K "check_part", "check_part", "check_part", s_cpt, []⟩, ⟨fun K => He.ga K "things_in", "things_in", "things_in", s_ti, []⟩, ⟨fun K => He.ga K "taken_first", "taken_first", "taken_first", s_tf, []⟩]
def hxd4 : List DP := [⟨fun K => He.ga K "_law_first_lot", "_law_first_lot", "_law_first_lot", s_fl, []⟩, ⟨fun K => He.ga K "mask_of", "mask_of", "mask_of", s_mof, []⟩, ⟨fun K => He.ga K "least_in", "least_in", "least_in", s_le, []⟩, ⟨fun K => He.ga K "full_masks", "full_masks", "full_masks", s_fm, []⟩, ⟨fun K => He.ga K "meets", "meets", "meets", s_mt, []⟩, ⟨fun K => He.ga K "_law_full", "_law_full", "_law_full", s_ful, []⟩, ⟨fun K => He.ga K "_law_knots", "_law_knots", "_law_knots", s_kn, []⟩, ⟨fun K => He.ga K "_law_part", "_law_part", "_law_part", s_pa, []⟩, ⟨fun K => He.ga K "_law_full_of", "_law_full_of", "_law_full_of", s_fof, []⟩, ⟨fun K => He.ga K "_law_part_fits", "_law_part_fits", "_law_part_fits", s_lpf, []⟩, ⟨fun K => He.ga K "rows_of_four", "rows_of_four", "rows_of_four", s_rf, []⟩, ⟨fun K => He.ga K "check_thing", "check_thing", "check_thing", s_check_thing, []⟩]
def hxd5 : List DP := [⟨fun K => He.ga K "bad_rows", "bad_rows", "bad_rows", s_bdr, []⟩, ⟨fun K => He.ga K "first_bad", "first_bad", "first_bad", s_fb, []⟩, ⟨fun K => He.ga K "missed_part", "missed_part", "missed_part", s_mpt, []⟩, ⟨fun K => He.ga K "_law_wrong_parts", "_law_wrong_parts", "_law_wrong_parts", s_lwp, []⟩, ⟨fun K => He.ga K "law", "law", "law", s_lw, []⟩]
def hxn0 : List PySem.Str := ["_wall", "__name__", "OrdersError", "Exception", "BadForm", "BadNumber", "BadWeb", "BadThing", "BadPart", "BadOrder", "is_int", "is_pair"]
def hxn1 : List PySem.Str := ["is_thing", "check_number", "check_place", "check_thing", "first_unfit", "check_things", "check_part", "meets", "mask_of", "things_in", "least_in", "near_masks"]
def hxn2 : List PySem.Str := ["full_masks", "taken_first", "first_lot", "full_knots", "rows_of_four", "bad_rows", "first_bad", "missed_knots", "missed_part", "checked_clashes", "all_pairs", "shifted"]
def hxn3 : List PySem.Str := ["Web", "checked_row_of", "checked_row", "places_in", "Order", "_law_draws", "_law_take", "_law_clash", "_law_contrary", "_law_near", "_law_part", "_law_moved"]
def hxn4 : List PySem.Str := ["_law_line", "_law_ring", "_law_ring_row", "_law_sides", "_law_small", "_law_twins", "_law_stretches", "_law_row", "_law_free", "_law_falling", "_law_made", "_law_case"]
def hxn5 : List PySem.Str := ["_law_quads", "_law_letters", "_law_bad", "_law_subsets", "_law_knots", "_law_full", "_law_first_lot", "_law_set", "_law_full_of", "_law_part_fits", "_law_wrong_parts"]
def hxB : List (PySem.W.Frag → Bool) := hxb0 ++ (hxb1 ++ (hxb2 ++ (hxb3 ++ (hxb4 ++ (hxb5 ++ (hxb6 ++ (hxb7 ++ (hxb8 ++ (hxb9)))))))))
def hxD : List DP := hxd0 ++ (hxd1 ++ (hxd2 ++ (hxd3 ++ (hxd4 ++ (hxd5)))))
def hxN : List PySem.Str := hxn0 ++ (hxn1 ++ (hxn2 ++ (hxn3 ++ (hxn4 ++ (hxn5)))))
theorem all_hx {P : Program} {w : World} {K : PySem.W.Frag} {h : Heap} {mg : Str → Option Value} {fa : Addr} (X : K.In h) (G : h.Ns mainGlobals mg) (hfa : mg "law" = some (.ref fa)) (c : seeK hxB hxD K = dueK hxD) :
    ∃ fd : FuncData, (∀ (s : Shared) (v : Value), BindsTo s fd ⟨[v], []⟩ [("_law_script", v)]) ∧ ∀ base : Heap, K.In base → base.Ns mainGlobals mg → FnOk P w K mg base (L2.CX P w) 10 fa fd ["_law_script"] (spLw K) :=
  all_mk (C := (He.ga K "Web")) (CN := (He.ga K "BadNumber")) (CO := (He.ga K "OrdersError")) (CP := (He.ga K "BadPart")) (CT := (He.ga K "BadThing")) (CW := (He.ga K "BadWeb")) (D := (He.ga K "Order")) (e0 := (He.dflAt ("Web", some "__init__") 0 K)) (f0 := (He.ga K "check_number")) (fhfirstlot := (He.ga K "first_lot")) (fhfullknots := (He.ga K "full_knots")) (fhmissedknots := (He.ga K "missed_knots")) (fi := (He.ma K (He.ga K "Web") "__init__")) (fo := (He.ma K (He.ga K "Order") "__init__")) X G hfa
    (eg_of (seen_fact c 0 rfl) (seen_fun c 0 rfl))
    (eg_of (seen_fact c 1 rfl) (seen_fun c 1 rfl))
    (eg_of (seen_fact c 2 rfl) (seen_fun c 2 rfl))
    (eg_of (seen_fact c 3 rfl) (seen_fun c 3 rfl))
    (He.eqO_ok (seen_fact c 4 rfl))
    (He.eqO_ok (seen_fact c 5 rfl))
    (seen_fact c 6 rfl)
    (seen_fact c 7 rfl)
    (seen_fact c 8 rfl)
    (He.eqO_ok (seen_fact c 9 rfl))
    (seen_fact c 10 rfl)
    (seen_fact c 11 rfl)
    (seen_fact c 12 rfl)
    (He.eqO_ok (seen_fact c 13 rfl))
    (He.eqO_ok (seen_fact c 14 rfl))
    (seen_fact c 15 rfl)
    (seen_fact c 16 rfl)
    (seen_fact c 17 rfl)
    (He.eqO_ok (seen_fact c 18 rfl))
    (seen_fact c 19 rfl)
    (seen_fact c 20 rfl)
    (seen_fact c 21 rfl)
    (He.eqO_ok (seen_fact c 22 rfl))
    (He.eqO_ok (seen_fact c 23 rfl))
    (He.eqO_ok (seen_fact c 24 rfl))
    (He.eqO_ok (seen_fact c 25 rfl))
    (He.eqO_ok (seen_fact c 26 rfl))
    (seen_fact c 27 rfl)
    (seen_one c 4 rfl)
    (em_of (seen_fact c 28 rfl))
    (He.eqO_ok (seen_fact c 29 rfl))
    (He.eqO_ok (seen_fact c 30 rfl))
    (He.eqO_ok (seen_fact c 31 rfl))
    (He.eqO_ok (seen_fact c 32 rfl))
    (seen_fact c 33 rfl)
    ⟨seen_fun c 5 rfl⟩
    (He.eqO_ok (seen_fact c 34 rfl))
    (seen_one c 6 rfl)
    (of_decide_eq_true (seen_fact c 35 rfl))
    (mg_of' (seen_fact c 36 rfl) (seen_fun c 7 rfl))
    (He.eqO_ok (seen_fact c 37 rfl))
    (seen_one c 8 rfl)
    (He.eqO_ok (seen_fact c 38 rfl))
    (seen_one c 9 rfl)
    (He.eqO_ok (seen_fact c 39 rfl))
    (seen_one c 10 rfl)
    (mg_of' (seen_fact c 40 rfl) (seen_fun c 11 rfl))
    (He.eqO_ok (seen_fact c 41 rfl))
    (He.eqO_ok (seen_fact c 42 rfl))
    (He.eqO_ok (seen_fact c 43 rfl))
    (He.eqO_ok (seen_fact c 44 rfl))
    (He.eqO_ok (seen_fact c 45 rfl))
    (He.eqO_ok (seen_fact c 46 rfl))
    (He.eqO_ok (seen_fact c 47 rfl))
    (He.eqO_ok (seen_fact c 48 rfl))
    (He.eqO_ok (seen_fact c 49 rfl))
    (He.eqO_ok (seen_fact c 50 rfl))
    (He.eqO_ok (seen_fact c 51 rfl))
    (He.eqO_ok (seen_fact c 52 rfl))
    (He.eqO_ok (seen_fact c 53 rfl))
    (He.eqO_ok (seen_fact c 54 rfl))
    (He.eqO_ok (seen_fact c 55 rfl))
    (He.eqO_ok (seen_fact c 56 rfl))
    (He.eqO_ok (seen_fact c 57 rfl))
    (dg_of (seen_fact c 58 rfl) (seen_fun c 12 rfl))
    (dg_of (seen_fact c 59 rfl) (seen_fun c 13 rfl))
    (dg_of (seen_fact c 60 rfl) (seen_fun c 14 rfl))
    (dg_of (seen_fact c 61 rfl) (seen_fun c 15 rfl))
    (dg_of (seen_fact c 62 rfl) (seen_fun c 16 rfl))
    (dg_of (seen_fact c 63 rfl) (seen_fun c 17 rfl))
    (dg_of (seen_fact c 64 rfl) (seen_fun c 18 rfl))
    (dg_of (seen_fact c 65 rfl) (seen_fun c 19 rfl))
    (dg_of (seen_fact c 66 rfl) (seen_fun c 20 rfl))
    (dg_of (seen_fact c 67 rfl) (seen_fun c 21 rfl))
    (dg_of (seen_fact c 68 rfl) (seen_fun c 22 rfl))
    (dg_of (seen_fact c 69 rfl) (seen_fun c 23 rfl))
    (dg_of (seen_fact c 70 rfl) (seen_fun c 24 rfl))
    (dg_of (seen_fact c 71 rfl) (seen_fun c 25 rfl))
    (dg_of (seen_fact c 72 rfl) (seen_fun c 26 rfl))
    (dg_of (seen_fact c 73 rfl) (seen_fun c 27 rfl))
    (dg_of (seen_fact c 74 rfl) (seen_fun c 28 rfl))
    (dg_of (seen_fact c 75 rfl) (seen_fun c 29 rfl))
    (dg_of (seen_fact c 76 rfl) (seen_fun c 30 rfl))
    (dg_of (seen_fact c 77 rfl) (seen_fun c 31 rfl))
    (dg_of (seen_fact c 78 rfl) (seen_fun c 32 rfl))
    (dg_of (seen_fact c 79 rfl) (seen_fun c 33 rfl))
    (dg_of (seen_fact c 80 rfl) (seen_fun c 34 rfl))
    (dg_of (seen_fact c 81 rfl) (seen_fun c 35 rfl))
    (dg_of (seen_fact c 82 rfl) (seen_fun c 36 rfl))
    (dg_of (seen_fact c 83 rfl) (seen_fun c 37 rfl))
    (dg_of (seen_fact c 84 rfl) (seen_fun c 38 rfl))
    (dg_of (seen_fact c 85 rfl) (seen_fun c 39 rfl))
    (dg_of (seen_fact c 86 rfl) (seen_fun c 40 rfl))
    (dg_of (seen_fact c 87 rfl) (seen_fun c 41 rfl))
    (dg_of (seen_fact c 88 rfl) (seen_fun c 42 rfl))
    (dg_of (seen_fact c 89 rfl) (seen_fun c 43 rfl))
    (dg_of (seen_fact c 90 rfl) (seen_fun c 44 rfl))
    (dg_of (seen_fact c 91 rfl) (seen_fun c 45 rfl))
    (dg_of (seen_fact c 92 rfl) (seen_fun c 46 rfl))
    (dg_of (seen_fact c 93 rfl) (seen_fun c 47 rfl))
    (dg_of (seen_fact c 94 rfl) (seen_fun c 48 rfl))
    (dg_of (seen_fact c 95 rfl) (seen_fun c 49 rfl))
    (dg_of (seen_fact c 96 rfl) (seen_fun c 50 rfl))
    (dg_of (seen_fact c 97 rfl) (seen_fun c 51 rfl))
    (dg_of (seen_fact c 98 rfl) (seen_fun c 52 rfl))
    (dg_of (seen_fact c 99 rfl) (seen_fun c 53 rfl))
    (dg_of (seen_fact c 100 rfl) (seen_fun c 54 rfl))
    (dg_of (seen_fact c 101 rfl) (seen_fun c 55 rfl))
    (dg_of (seen_fact c 102 rfl) (seen_fun c 56 rfl))
    (dg_of (seen_fact c 103 rfl) (seen_fun c 57 rfl))
    (dg_of (seen_fact c 104 rfl) (seen_fun c 58 rfl))
    (dg_of (seen_fact c 105 rfl) (seen_fun c 59 rfl))
    (dg_of (seen_fact c 106 rfl) (seen_fun c 60 rfl))
    (dg_of (seen_fact c 107 rfl) (seen_fun c 61 rfl))
    (dg_of (seen_fact c 108 rfl) (seen_fun c 62 rfl))
    (dg_of (seen_fact c 109 rfl) (seen_fun c 63 rfl))
    (dg_of (seen_fact c 110 rfl) (seen_fun c 64 rfl))
end K0
set_option Elab.async false
set_option linter.all false
set_option maxRecDepth 100000
set_option maxHeartbeats 0
namespace K0
open PySem PySem.W PySem.Calls PyProof.Rows
abbrev hxRow : OpenRow := OpenLaw.row PySem.Challenge.rw_perfectorders_k20_first_lots_meet_full_k
abbrev hxV : Program := view hxRow.prog [80]
theorem hx_run (w : World) : HandSHeadRun.RunEq hxRow hxV (hookK hxB hxD) (obK hxB hxD) 20000 hxN w := by
  intro os
  kernel_rfl
end K0
set_option Elab.async false
set_option maxRecDepth 100000
open PySem PySem.W PySem.Calls PyProof.Rows
set_option maxRecDepth 100000 in
set_option maxHeartbeats 0 in
theorem PySem.Challenge.cw_perfectorders_k20_first_lots_meet_full_k_holds : PySem.Challenge.rw_perfectorders_k20_first_lots_meet_full_k.Holds := by
  w_on; o_law
  refine HandSHeadRun.head_any (r := K0.hxRow) (q := K0.hxV) (H := K0.hookK K0.hxB K0.hxD) (ob := K0.obK K0.hxB K0.hxD) (M := 20000) (loose := K0.hxN) (d := HandSHeadRun.topDef K0.hxRow.prog 80) (kwd := []) (K0.obK_eq K0.hxB K0.hxD)
    (by kernel_rfl) (fun s => by kernel_rfl) K0.hx_run (by kernel_rfl) (by kernel_rfl) (by kernel_rfl) (by rfl) (by first | assumption | decide +kernel) (by decide +kernel) ⟨rfl, rfl, rfl, rfl, rfl, by decide +kernel⟩ ?hw ?hc
  case hw => w_witness2
  case hc =>
    refine K0.walk_see (l := PySem.Challenge.rw_perfectorders_k20_first_lots_meet_full_k) (k := 10) (x := "_law_script") rfl (by kernel_rfl) ⟨rfl, by decide, by decide⟩ ?F
    intro w mg fa h Y G hm
    obtain ⟨K, KX, c⟩ := Y
    have en : (HandSHeadRun.topDef K0.hxRow.prog 80).name = ("law" : PySem.Str) := by kernel_rfl
    rw [en] at hm
    obtain ⟨fd, hb, ok⟩ := K0.all_hx (P := (PySem.Challenge.rw_perfectorders_k20_first_lots_meet_full_k).prog) (w := w) KX G hm c
    exact ⟨K, fd, K0.spLw K, KX, hb, fun H a ns hS => ⟨a, ns, rfl, hS, fun _ => rfl⟩, ok⟩
