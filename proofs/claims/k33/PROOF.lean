import PyProof.Rows.All
import Wide.All
import OpenK.AllK
import Wide.FinOn
import KE.KStateDown
import HandS.Head0
import HandS.Head1
import HandS.Head2
import HandS.ForMost
import HandS.Strs
import HandS.SetFor
import HandS.More
import PyProof.ReprRoads
import HandS.TupAny
import HandS.Walk
import HandS.Evl
import KE.KDictPairs
import HandS.IsInst
import HandS.Flt
import KE.KRevSl
import HandS.Style
import KE.GoesEnum
import PyProof.Rows.IntBool
import PyProof.StrLawsRepr
import PyProof.Rows.ReprOcc
import KE.KDictKeyed
import KE.DataEq
import KE.SortData
import KE.DataCmp
import HandS.SortInts
import HandS.Zip
import HandS.NoneIn
import KE.KDictZip
import KE.KItemsList
import HandS.ListItems
import HandS.FStr
import HandS.Text
import HandS.Codes
import HandS.ExcCtx
import HandS.ExcInit
import HandS.ExcField
import HandS.ExcOwn
import HandS.WordsExc
import KE.KExcIs
import HandS.ExcIs
import OpenK.KOwn
import KE.DataFind
import KE.RegKIsAll
import KE.RegKTryMore
import OpenK.KOps
import OpenK.KMeth
import KE.KCallOwn
import HandS.Defaults
import KE.KExcInit
import KE.KTryMore
import OpenK.KCls
import HandS.HotCalls
import HandS.Set
import PyProof.InstNe
import HandS.StrMore
import HandS.Deep
import KE.OsScanText
import KE.IntTextText
import HandS.GenBody
import PyProof.GenComp
import HandS.Base
import PyProof.ForAny
import HandS.DictTup
import KE.KTops
import HandS.Replace
import HandS.ReplaceLit
import HandS.RaiseMore
import PyProof.Rows.StrIntSpec
import PyProof.FString3
import PyProof.EqKinds
import KE.GoesMore
import HandS.ExcInitHot
import KE.KExcLine
import PySem.Challenge.RW_canpath_k33_whole_loads
set_option Elab.async false
set_option linter.all false
set_option maxRecDepth 100000
set_option maxHeartbeats 8000000
/-! the head by one run over the heap as a tree, for the frag that k_head makes -/
namespace Wp
open PySem PySem.W PySem.Calls PyProof.Rows
/-- what the run of the top shows -/
abbrev RunK (r : OpenRow) (q : Program) (K : Params → Frag) (as : List Addr) (e : ∀ P, as = (K P).map (·.1)) (M : Nat) (loose : List PySem.Str) (w : World) : Prop := HandSHeadRun.RunEq r q (kHook K as e) (fun s => as.map (HandSHeadRun.getT s)) M loose w
theorem head_k {r : OpenRow} {q : Program} {H : Hook} {K : Params → Frag} {as : List Addr} {e : ∀ P, as = (K P).map (·.1)} (M : Nat) (loose : List PySem.Str) {d : DefRec} {kwd : List (PySem.Str × PySem.Expr)} (hH : H = kHook K as e)
    (op : opening r.prog = plainProg r.prog.main.scope.names) (f : ∀ s, fenceModules? r.prog s = some s) (run : ∀ w, RunK r q K as e M loose w)
    (hdef : defOf q r.name = some (d, kwd)) (hp : r.prog.theDef r.name = some (d.params, d.body, d.scope)) (hk : kwWritten? d.params.kwonlyargs d.params.kw_defaults = some kwd)
    (hwr : (!r.writes || r.records.isEmpty) = true) (k1 : r.wellSaid = true) (ok : (chainsOk q && opensWell r.prog && (frees r.toRowW && r.within.isEmpty)) = true) (hb : r.prog.bare) (hw : r.toRowW.promised)
    (call : WalkO q loose (XL q []) H.says r.toRowW d kwd fun f vs => PySem.call f vs) : r.Holds := by
  subst hH
  exact HandSHeadRun.head_any (H := kHook K as e) (ob := fun s => as.map (HandSHeadRun.getT s)) (fun s => List.map_congr_left fun a _ => HandSHeadRun.getT_eq s a) op f run hdef hp hk hwr k1 ok hb hw call
end Wp

namespace Cn
open PySem PySem.Spec PyProof.Rows L2

/-! ### the length of what repr shows -/
mutual
/-- small data: numbers below 10^40, short plain texts, no dicts -/
def sm : PyData → Bool
  | .none => true
  | .bool _ => true
  | .int i => decide (i.natAbs < 10 ^ 40)
  | .str x => decide ((reprText x).length ≤ 100)
  | .list xs => smAll xs
  | .tuple xs => smAll xs
  | .dict _ => false
def smAll : List PyData → Bool
  | [] => true
  | x :: xs => sm x && smAll xs
end
mutual
def wt : PyData → Nat
  | .none => 100
  | .bool _ => 100
  | .int _ => 100
  | .str _ => 100
  | .list xs => wtAll xs + 3
  | .tuple xs => wtAll xs + 3
  | .dict _ => 0
def wtAll : List PyData → Nat
  | [] => 0
  | x :: xs => (wt x + 2) + wtAll xs
end
mutual
def dp : PyData → Nat
  | .list xs => dpAll xs + 1
  | .tuple xs => dpAll xs + 1
  | _ => 0
def dpAll : List PyData → Nat
  | [] => 0
  | x :: xs => max (dp x) (dpAll xs)
end
theorem listText_le (ts : List Str) : (listText ts).length ≤ piled ts + 3 := by
  cases ts with
  | nil => decide
  | cons t r =>
    have h := textFrom_length_pos r 1 (("[" : Str) ++ (if (0 : Nat) > 0 then ", " else "" : String) ++ t) (Nat.succ_pos 0)
    have e1 : (listText (t :: r)).length = (textFrom 1 (("[" : Str) ++ (if (0 : Nat) > 0 then ", " else "" : String) ++ t) r).length + 1 := by
      show (textFrom 1 _ r ++ "]").length = _
      rw [strLen_append]; rfl
    have e2 : ((("[" : Str) ++ (if (0 : Nat) > 0 then ", " else "" : String) ++ t)).length = 1 + t.length := by
      rw [strLen_append, strLen_append]; rfl
    rw [e1, h, e2, piled_cons]; omega
theorem tupleText_le (ts : List Str) : (tupleText ts).length ≤ piled ts + 3 := by
  unfold tupleText
  rw [strLen_append, strLen_append]
  have cl : (((if ts.length == 1 then ",)" else ")" : String) : Str)).length ≤ 2 := by split <;> decide
  rw [show (("(" : String) : Str).length = 1 from rfl]
  by_cases h : ts = []
  · subst h
    show 1 + 0 + _ ≤ _
    omega
  · have := join_length_add ts h
    omega

/-! ### repr of data -/
section
variable {X : Cx}
def rRepr (K : PySem.W.Frag) : List V → Hp → VK → Prop := fun xs H Q => ∃ v d, xs = [v] ∧ Dp K H v d ∧ sm d = true ∧ wt d ≤ 1000000 ∧ dp d ≤ 50 ∧ Q (.str d.shown) H
end
end Cn

namespace Cn
open PySem PySem.Spec PyProof.Rows L2

/-! ### defs that are called where no repr is under way -/
structure FnG (P : Program) (w : World) (K : PySem.W.Frag) (mg : Str → Option Value) (base : Heap) (k : Nat) (f : Addr) (fd : FuncData) (ps : List Str) (sp : Sp) : Prop where
  len : ∀ vs H Q E, sp vs H Q E → vs.length = ps.length
  run : ∀ (A : Around) (out : List Env) (s : Shared) (H : Hp) (args : Args) (us : List Value) (vs : List V) (Q : VK) (E : XK), A.guards = some [] → Room k A → Env0 P w K mg base A out s H →
    BindsTo s fd args (ps.zip us) → Vals vs us → sp vs H Q E → codeAny (model P w) A (.call (.ref f) args) (CR CX0 out P w H s Q E) s
section
variable {P : Program} {w : World} {K : PySem.W.Frag} {mg : Str → Option Value} {base : Heap}
theorem FnG.of {k : Nat} {f : Addr} {fd : FuncData} {ps : List Str} {sp : Sp} (F : FnOk P w K mg base CX0 k f fd ps sp) : FnG P w K mg base k f fd ps sp :=
  ⟨F.len, fun A out s H args us vs Q E _ => F.run A out s H args us vs Q E⟩
theorem okG {x qual : Str} {st : Stmt} {f : Addr} {fd : FuncData} {N ps : List Str} {k : Nat} {sp : Sp} (F : Fun K x qual st f fd) (S : FnScope N ps (defScope st)) (len : ∀ vs H Q E, sp vs H Q E → vs.length = ps.length)
    (body : ∀ (cdv : Value) (A : Around) (out : List Env) (s : Shared) (H : Hp) (vs : List V) (Q : VK) (E : XK), A.guards = some [] → Room k (A.deeper (envOfC qual (defScope st) s.heap.objs.size f cdv)) → sp vs H Q E →
      ∃ t, PSs (cxOf CX0 P w K mg base N qual (defScope st) f cdv A out s H E).nox (defBody st) t ∧ t { nx := fun _ H' => Q .non H', rt := Q } (start N vs) H) : FnG P w K mg base (k + 1) f fd ps sp := by
  obtain ⟨oc, od, kV, doc, pm, an, cdv, ct, osl, rfl, lk, code⟩ := F.ex
  refine ⟨len, fun A out s H args us vs Q E gd room e0 bd rel pr => ?_⟩
  have inK : K.In s.heap := e0.mod.kin.keeps fun b o e => (e0.bs b o e).1
  have par : ∀ y ∈ ps.zip us, (defScope st).names.lookup y.1 = some .local ∨ ((defScope st).names.lookup y.1 = some .cell ∧ ((cellsFrom (s.heap.objs.size + 1) (defScope st).names []).lookup y.1).isSome = true) := by
    intro y hy
    refine (S.par y.1 (List.of_mem_zip (show (y.1, y.2) ∈ ps.zip us from hy)).1).imp id fun c => ⟨c, PySem.W.cellsFrom_some _ _ _ (.inl c)⟩
  refine codeAny_call_function room.depth (inK _ _ lk) rfl S.co S.gen rfl (PySem.W.codeRec_of inK code) (bd _ _ _ _ (wpAny_newFunctionEnv_cells S.kind par ?_))
  rintro _ rfl s1 new
  refine ⟨(e0.mod.nolimit.keeps fun b o e => (e0.bs b o e).1).keeps new.toInCall.keep, codeAny_func ?_⟩
  obtain ⟨t, ht, q⟩ := body cdv A out s H vs Q E gd (room.deeper _) pr
  refine wpAny_mono (ht.nox.run [] s1 (start N vs) H _ (inv_start S room.hd e0 (len _ _ _ _ pr) rel new) q) ?_ fun _ _ z => z
  rintro (_ | _ | _ | u) s' z
  case next =>
    obtain ⟨_, H', J, z⟩ := z
    exact ⟨V.non, H', J.os, J.bare, J.base, J.hok, rfl, z⟩
  case ret =>
    obtain ⟨v, _, H', J, rv, z⟩ := z
    exact ⟨v, H', J.os, J.bare, J.base, J.hok, rv, z⟩
  all_goals
    obtain ⟨_, _, _, z⟩ := z
    exact z.elim
end
section
variable {X : Cx} {k : Nat} {f : Addr} {fd : FuncData} {ps : List Str} {sp : Sp} {x : Str} {p pos : Pos} {e : Expr} {es : List Expr} {t : TA}
theorem pe_callG (F : FnG X.prog X.w X.K X.mg X.base k f fd ps sp) (gd : X.A.guards = some []) (room : Room k X.A) (gl : Gl X x) (hm : X.mg x = some (.ref f)) (kp : PySem.W.keepIn X.K (.ref f) = true) (bd : Binds X.K fd ps [])
    (ha : PA X (e :: es) t) (hdb : (x == ("__debug__" : Str)) = false := by decide) (he : starEach (e :: es) X.env = (false, eval e X.env) :: starEach es X.env := by rfl) (hpl : (backTo pos (starEach es X.env)).any (·.1) = false := by rfl) :
    PE X (.Call (.Name x p) (e :: es) [] pos) (tCall sp [] E0 t) := by
  refine ⟨fun pins s σ H Q I h => wpAny_Call_Name_kw (ld_glob I gl hm ?_ hdb)⟩
  refine PySem.W.callWith_K (h₀ := X.base) I.ok.mod.kin kp (thn (ha.run pos pins s σ H _ I h) ?_) he hpl
  rintro us s1 ⟨vs, H1, I1, rel, q⟩
  refine ⟨I1.kIn, ?_⟩
  have q0 : sp (vs ++ []) H1 Q E0 := q
  have rel0 : Vals (vs ++ []) (us ++ []) := rel.append .nil
  have l0 : (us ++ []).length = ps.length := rel0.length.symm.trans (F.len _ _ _ _ q0)
  refine wpAny_call (codeAny_mono (F.run X.A X.stack s1 H1 ⟨us, []⟩ (us ++ []) (vs ++ []) Q E0 gd room I1.env0 (bd s1 us I1.kIn l0) rel0 q0) ?_)
  rintro (_ | _ | _ | _ | u) s' z
  case ok.ret => exact I1.after z
  all_goals exact z.elim
end
end Cn

namespace Cn
open PySem PySem.Spec PyProof.Rows L2
end Cn

namespace Cn
open PySem PySem.Spec PyProof.Rows L2
/-! ### set(list of ints) -/
abbrev set0 (w : World) : Obj := { cls := .type "set", dict := none, data := .set #[] 0 (.fresh 0 0 (!w.params.followText "set-order")) }
section
variable {P : Program} {w : World} {A : Around} {E : Value → Shared → Prop} {s : Shared}
set_option maxHeartbeats 8000000 in
theorem set_of_list {l : Addr} {items : Array Value} (ns : List Int) {Q : Value → Shared → Prop} (calm : A.handled = none) (isl : s.heap.IsList l items) (nums : IntsAre items.toList ns) (few : ns.length + 1 < scanBound)
    (fin : ∀ (h' : Heap) (tk c : Nat), SetR w h' s.heap.objs.size (fun j => decide (j ∈ ns)) c → c ≤ ns.length → (∀ b o, s.heap.get? b = some o → h'.get? b = some o) → Q (.ref s.heap.objs.size) { s with heap := h', toks := tk }) :
    wpAny (model P w) A (call (.type "set") [.ref l]) Q E s := by
  have size : items.size = ns.length := by rw [← Array.length_toList]; exact nums.length
  obtain ⟨c, tl, mro⟩ := F.called_set.mro
  have m1 := F.called_set.made
  have m2 := F.called_set.sub
  have m3 := F.called_set.notType
  have m4 := F.called_set.canCreate
  have m5 := F.typeCall_set_1 (.ref l)
  refine wpAny_call (codeAny_of_tree (show wpAny _ _ (callAny (.type "set") _) _ _ _ from wpAny_pure ⟨Code.quiet_builtin _ (by decide +kernel), codeAny_builtin F.entry_type_call ?_⟩))
  rw [Around.under_plain (weight_type_call_type "set" [.ref l] []) rfl]
  repeat (any_goals (first | assumption | wp_step))
  refine codeAny_mono (code_set_led1 (.ref l) (E := E) (Q₁ := fun obj t => obj = .ref s.heap.objs.size ∧ t = { s with heap := s.heap.push (set0 w) }) ⟨rfl, rfl⟩) ?_
  rintro (e | fl) s1 z
  · exact z
  cases fl with
  | ret obj =>
    obtain ⟨rfl, rfl⟩ := z
    have here : (s.heap.push (set0 w)).get? s.heap.objs.size = some (set0 w) := Heap.get?_push_size _ rfl
    have typ : Shared.TypeIs { s with heap := s.heap.push (set0 w) } (.ref s.heap.objs.size) "set" := ⟨_, here, rfl⟩
    have i1 := F.called_set.init.lookup
    have i2 := F.called_set.init.bind (.ref s.heap.objs.size)
    repeat (any_goals (first | assumption | wp_step))
    refine codeAny_mono (codeAny_call_builtin (R := wants (fun r t => r = .none ∧ ∃ h' tk c, t = { s with heap := h', toks := tk } ∧ SetR w h' s.heap.objs.size (fun j => decide (j ∈ ns)) c ∧ c ≤ ns.length ∧
      ∀ b o, s.heap.get? b = some o → h'.get? b = some o) E) F.called_set.init.plain F.entry_set_init (check_set_init_1 typ ?_)) ?_
    · obtain ⟨⟨cl, dc, dt, sl⟩, ol, hcl, n, hdt⟩ := isl
      simp only at hcl hdt
      subst hcl; subst hdt
      have ol1 : (s.heap.push (set0 w)).get? l = some { cls := .type "list", dict := dc, data := .seq items n, slots := sl } := Heap.get?_push_of_some _ ol
      have b1 := F.sub_list_set
      have b2 := F.sub_list_frozenset
      have b3 : (Value.type "list" == Value.type "dict") = false := by decide
      have isl1 : (s.heap.push (set0 w)).IsList l items := ⟨_, ol1, rfl, n, rfl⟩
      unfold Builtin.«set.__init__» noKeywords Builtin.Frozenset.updateFrom
      generalize kept : pyIter = PI
      wp_walk
      subst kept
      refine wpAny_pyIter_list isl1 (wpAny_bind (wpAny_runValue ?_))
      have low : l < s.heap.objs.size := Heap.lt_size ol
      have calm3 : A.in1.in1.in1.handled = none := by simp [calm]
      have sz1 : (s.heap.push (set0 w)).objs.size = s.heap.objs.size + 1 := Heap.size_push ..
      have ne1 : l ≠ (s.heap.push (set0 w)).objs.size := by rw [sz1]; exact Nat.ne_of_lt (Nat.lt_succ_of_lt low)
      have out : s.heap.objs.size ∉ [(s.heap.push (set0 w)).objs.size, l] := by
        rw [sz1]
        simp only [List.mem_cons, List.not_mem_nil, or_false, not_or]
        exact ⟨Nat.ne_of_lt (Nat.lt_succ_self _), Nat.ne_of_gt low⟩
      have val : ∀ (i : Nat) (v : Value), items[i]? = some v → ∃ k t, ns[i]? = some k ∧ v = .int k t := by
        intro i v hv
        have hi : i < ns.length := by rw [← size]; exact (Array.getElem?_eq_some_iff.mp hv).1
        obtain ⟨t, e⟩ := nums.int_at i v (by rw [Array.getElem?_toList]; exact hv)
        refine ⟨ns[i], t, List.getElem?_eq_getElem hi, ?_⟩
        rw [e, List.getD_eq_getElem?_getD, List.getElem?_eq_getElem hi] <;> rfl
      refine set_update_ints ((Walks.list calm3 _ l ne1 items).toS) s.heap.objs.size out ns size few val (items.size - 0) 0 _ (by omega) (Nat.zero_le _) ⟨⟨_, Heap.get?_push_size _ rfl, rfl, rfl⟩, (isl1.push _)⟩ ⟨0, Nat.le_refl 0, setR_new_at (Heap.get?_push_of_some _ here)⟩ ?_
      rintro ⟨h', g', d', tk', os'⟩ c' mv le R
      obtain rfl : g' = s.gens := mv.gens
      obtain rfl : d' = s.drawn := mv.drawn
      obtain rfl : os' = s.os := mv.os
      show wpAny _ _ _ _ _ _
      refine wpAny_pure (show wpAny _ _ (ret Value.none) _ _ _ from wpAny_pure ⟨rfl, h', tk', c', rfl, R, by omega, fun b o e => ?_⟩)
      have lb : b < s.heap.objs.size := Heap.lt_size e
      refine mv.heap b o ?_ (Heap.get?_push_of_some _ (Heap.get?_push_of_some _ e))
      rw [sz1]
      simp only [List.mem_cons, List.not_mem_nil, or_false, not_or]
      exact ⟨Nat.ne_of_lt lb, Nat.ne_of_lt (Nat.lt_succ_of_lt lb)⟩
    · rintro (e | fl) t z
      · exact z
      cases fl with
      | ret r =>
        obtain ⟨rfl, h', tk, c', rfl, R, le, k⟩ := z
        repeat (any_goals (first | assumption | wp_step))
        exact fin _ _ _ R le k
      | _ => exact z.elim
  | _ => exact z.elim
end
section
variable {X : Cx}
def rSetL (K : PySem.W.Frag) (w : World) : List V → Hp → VK → Prop := fun xs H Q => ∃ (l : Addr) (ns : List Int), xs = [.ref l] ∧ SqL K H l (ns.map V.int) ∧ ns.length ≤ 1000 ∧
  ∀ p n, H p = none → n ≤ ns.length → Q (.ref p) (upd H p (SetO w p (fun j => decide (j ∈ ns)) n))
theorem cr_setL (hc : X.calm = true) : CallR X (.type "set") (rSetL X.K X.w) := by
  intro pins s σ H xs us Q I r h
  obtain ⟨l, ns, rfl, sq, few, q⟩ := h
  rw [Vals.ref1 r]
  obtain ⟨its, rv, pl, _⟩ := I.list sq
  refine set_of_list ns (I.ok.hd hc) pl.isList (by simpa using ints_of_vals rv) (by unfold scanBound; omega) fun h' tk c R le k => ?_
  exact ⟨.ref _, upd H s.heap.objs.size (SetO X.w s.heap.objs.size (fun j => decide (j ∈ ns)) c), I.laid (t' := tk) k (Nat.le_refl _) (setO_new R), rfl, q _ c (I.hok.fresh (Nat.le_refl _)) le⟩
/-- sorted(set(e)) as one -/
def rSortSet (K : PySem.W.Frag) : List V → Hp → VK → Prop := fun xs H Q => ∃ (l : Addr) (ns : List Int), xs = [.ref l] ∧ SqL K H l (ns.map V.int) ∧ ns.length < 64 ∧
  ∀ (ms : List Int) (p : Addr) (H' : Hp), ms.Pairwise (· < ·) → (∀ k : Int, k ∈ ms ↔ k ∈ ns) → H p = none → (∀ b o, H b = some o → H' b = some o) → H' p = some (.lst (ms.map V.int)) → Q (.ref p) H'
end
end Cn

namespace Cn
open PySem PySem.Spec PyProof.Rows L2 Evl
/-! ### data made of tuples, of lists that are locked, and two dicts -/
def OdD (kvs : List (Key × V)) (ds : List (PyData × PyData)) : Prop := (kvs = [] ∧ ds = []) ∨ (kvs = [(.inr "a", .int 1)] ∧ ds = [(.str "a", .int 1)])
mutual
inductive Tp (H : Hp) : V → PyData → Prop
  | non : Tp H .non .none
  | bl (b : Bool) : Tp H (.bl b) (.bool b)
  | int (i : Int) : Tp H (.int i) (.int i)
  | str (x : Str) : Tp H (.str x) (.str x)
  | tup {a : Addr} {xs : List V} {ds : List PyData} : Rd H a (.tup xs) → TpAll H xs ds → Tp H (.ref a) (.tuple ds)
  | lst {a : Addr} {o : Obj} {xs : List V} {ds : List PyData} : H a = some (.frz o (.lst xs)) → a ≠ sysModules → TpAll H xs ds → Tp H (.ref a) (.list ds)
  | dic {a : Addr} {o : Obj} {kvs : List (Key × V)} {ds : List (PyData × PyData)} : H a = some (.frz o (.dK kvs)) → OdD kvs ds → Tp H (.ref a) (.dict ds)
inductive TpAll (H : Hp) : List V → List PyData → Prop
  | nil : TpAll H [] []
  | cons {v : V} {vs : List V} {d : PyData} {ds : List PyData} : Tp H v d → TpAll H vs ds → TpAll H (v :: vs) (d :: ds)
end
/-- the tuples stay, and what is locked -/
def Tk (H H' : Hp) : Prop := (∀ a xs, Rd H a (.tup xs) → Rd H' a (.tup xs)) ∧ ∀ a o u, H a = some (.frz o u) → H' a = some (.frz o u)
theorem sr {K : PySem.W.Frag} {H : Hp} {a : Addr} {xs : List V} (h : Rd H a (.tup xs)) : SqT K H a xs := .inl h
theorem rd_upd {H : Hp} {a p : Addr} {u o : HO} (h : Rd H a u) (n : a ≠ p) : Rd (upd H p o) a u := by
  rcases h with h | ⟨z, h⟩
  · exact .inl (by rw [upd_ne n]; exact h)
  · exact .inr ⟨z, by rw [upd_ne n]; exact h⟩
theorem rd_ne {H : Hp} {a p : Addr} {xs ys : List V} (h : Rd H a (.tup xs)) (hp : H p = some (.lst ys)) : a ≠ p := by
  rcases h with h | ⟨z, h⟩
  · exact ne_of h hp (by intro z; cases z)
  · exact ne_of h hp (by intro z; cases z)
theorem Tk.refl (H : Hp) : Tk H H := ⟨fun _ _ h => h, fun _ _ _ h => h⟩
theorem Tk.trans {H H1 H2 : Hp} (a : Tk H H1) (b : Tk H1 H2) : Tk H H2 := ⟨fun p xs h => b.1 p xs (a.1 p xs h), fun p o u h => b.2 p o u (a.2 p o u h)⟩
theorem Tk.ex {H H' : Hp} (e : Ex H H') : Tk H H' := ⟨fun a _ h => ex_rd e h, fun a _ _ h => e a _ h⟩
theorem Tk.lst {H : Hp} {p : Addr} {xs ys : List V} (h : H p = some (.lst xs)) : Tk H (upd H p (.lst ys)) :=
  ⟨fun a zs e => rd_upd e (rd_ne e h), fun a o u e => by rw [upd_ne (ne_of e h (by intro z; cases z))]; exact e⟩
mutual
theorem Tp.mono {H H' : Hp} (k : Tk H H') : ∀ {d : PyData} {v : V}, Tp H v d → Tp H' v d
  | _, _, .non => .non
  | _, _, .bl b => .bl b
  | _, _, .int i => .int i
  | _, _, .str x => .str x
  | _, _, .tup h a => .tup (k.1 _ _ h) (TpAll.mono k a)
  | _, _, .lst h n a => .lst (k.2 _ _ _ h) n (TpAll.mono k a)
  | _, _, .dic h r => .dic (k.2 _ _ _ h) r
theorem TpAll.mono {H H' : Hp} (k : Tk H H') : ∀ {ds : List PyData} {vs : List V}, TpAll H vs ds → TpAll H' vs ds
  | _, _, .nil => .nil
  | _, _, .cons a b => .cons (Tp.mono k a) (TpAll.mono k b)
end
mutual
theorem Tp.dp {K : PySem.W.Frag} {H : Hp} : ∀ {d : PyData} {v : V}, Tp H v d → d.hasDict = false → Dp K H v d
  | _, _, .non, _ => .non
  | _, _, .bl b, _ => .bl b
  | _, _, .int i, _ => .int i
  | _, _, .str x, _ => .str x
  | _, _, .tup h a, n => .tup (sr h) (TpAll.dp a (by simpa only [PyData.hasDict] using n))
  | _, _, .lst h _ a, n => .lst (.inl (.inr ⟨_, h⟩)) (TpAll.dp a (by simpa only [PyData.hasDict] using n))
  | _, _, .dic _ _, n => by simp [PyData.hasDict] at n
theorem TpAll.dp {K : PySem.W.Frag} {H : Hp} : ∀ {ds : List PyData} {vs : List V}, TpAll H vs ds → PyData.hasDictAll ds = false → DpAll K H vs ds
  | _, _, .nil, _ => .nil
  | _, _, .cons a b, n => by
    simp only [PyData.hasDictAll, Bool.or_eq_false_iff] at n
    exact .cons (Tp.dp a n.1) (TpAll.dp b n.2)
end
section
variable {H H' : Hp}
theorem Tp.int_inv {v : V} {i : Int} (h : Tp H v (.int i)) : v = .int i := by cases h; rfl
theorem Tp.tup_inv {v : V} {ds : List PyData} (h : Tp H v (.tuple ds)) : ∃ a xs, v = .ref a ∧ Rd H a (.tup xs) ∧ TpAll H xs ds := by
  cases h with
  | tup a b => exact ⟨_, _, rfl, a, b⟩
theorem TpAll.length : ∀ {xs : List V} {ds : List PyData}, TpAll H xs ds → xs.length = ds.length
  | _, _, .nil => rfl
  | _, _, .cons _ b => by simp [b.length]
theorem TpAll.get : ∀ {xs : List V} {ds : List PyData} {i : Nat} {d : PyData}, TpAll H xs ds → ds[i]? = some d → ∃ v, xs[i]? = some v ∧ Tp H v d
  | _, _, _, _, .nil, e => by simp at e
  | _, _, 0, _, .cons a _, e => by simp at e; subst e; exact ⟨_, rfl, a⟩
  | _, _, i + 1, _, .cons _ b, e => by
    obtain ⟨v, h1, h2⟩ := b.get (i := i) (by simpa using e)
    exact ⟨v, by simpa using h1, h2⟩
theorem TpAll.append : ∀ {xs ys : List V} {ds es : List PyData}, TpAll H xs ds → TpAll H ys es → TpAll H (xs ++ ys) (ds ++ es)
  | _, _, _, _, .nil, b => b
  | _, _, _, _, .cons a r, b => .cons a (r.append b)
theorem TpAll.take : ∀ {xs : List V} {ds : List PyData} (n : Nat), TpAll H xs ds → TpAll H (xs.take n) (ds.take n)
  | _, _, 0, _ => .nil
  | _, _, _ + 1, .nil => .nil
  | _, _, n + 1, .cons a b => .cons a (b.take n)
theorem TpAll.nums : ∀ {ns : List Int} {xs : List V}, TpAll H xs (ns.map PyData.int) → xs = ns.map V.int
  | [], _, h => by cases h; rfl
  | n :: ns, _, h => by
    cases h with
    | cons a b => rw [List.map_cons, a.int_inv, b.nums]
end
/-! ### gardens -/
abbrev Bed := Int × Int
def bedD (b : Bed) : PyData := .tuple [.int b.1, .int b.2]
def bedsD (bs : List Bed) : PyData := .tuple (bs.map bedD)
def gardenD (t c : Int) (bs : List Bed) : PyData := .tuple [.int t, .int c, bedsD bs]
theorem garden_of {H : Hp} {g b : Addr} {t c : Int} {xs : List V} {bs : List Bed} (hg : Rd H g (.tup [.int t, .int c, .ref b])) (hb : Rd H b (.tup xs)) (r : TpAll H xs (bs.map bedD)) : Tp H (.ref g) (gardenD t c bs) :=
  .tup hg (.cons (.int t) (.cons (.int c) (.cons (.tup hb r) .nil)))
/-! ### evaluation to data -/
def EvD (te : TE) (σ : L2.St) (H : Hp) (d : PyData) : Prop := ∀ H1, Ex H H1 → ∀ Q : VK, (∀ v H2, Ex H1 H2 → Tp H2 v d → Q v H2) → te σ H1 Q
def EvLd (te : TE) (σ : L2.St) (H : Hp) (ds : List PyData) : Prop := ∀ H1, Ex H H1 → ∀ Q : VK, (∀ p xs H2, H1 p = none → Ex H1 H2 → H2 p = some (.lst xs) → TpAll H2 xs ds → Q (.ref p) H2) → te σ H1 Q
def EvAd (ta : TA) (σ : L2.St) (H : Hp) (ds : List PyData) : Prop := ∀ H1, Ex H H1 → ∀ Q : List V → Hp → Prop, (∀ vs H2, Ex H1 H2 → TpAll H2 vs ds → Q vs H2) → ta σ H1 Q
section
variable {K : PySem.W.Frag} {σ : L2.St} {H H' : Hp} {ta tb te tx : TE} {t u : TT} {x y z v : V} {d : PyData} {ds : List PyData}
theorem EvD.mono (e : Ex H H') (h : EvD te σ H d) : EvD te σ H' d := fun H1 a Q q => h H1 (e.trans a) Q q
theorem et_yes : EvT tYes σ H true := fun H1 _ _ q => q H1 (Ex.refl H1)
/-- which turns give, and what -/
def givD (n : Nat) (f : Nat → Bool) (dd : Nat → PyData) : List PyData := ((List.range n).filter f).map dd
abbrev gPair (K : PySem.W.Frag) (i j : Nat) : TG := gTup K 2 (gCons (gName i) (gCons (gName j) gNil))
end
end Cn

namespace Cn
open PySem PySem.Spec PyProof.Rows L2 Evl
/-! ### marks -/
abbrev Asc (l : List Int) : Prop := l.Pairwise (· < ·)
theorem asc_unique : ∀ {a b : List Int}, Asc a → Asc b → (∀ k, k ∈ a ↔ k ∈ b) → a = b
  | [], [], _, _, _ => rfl
  | [], y :: b, _, _, h => absurd ((h y).2 (List.mem_cons_self ..)) (by simp)
  | x :: a, [], _, _, h => absurd ((h x).1 (List.mem_cons_self ..)) (by simp)
  | x :: a, y :: b, ha, hb, h => by
    have ha' := List.pairwise_cons.mp ha
    have hb' := List.pairwise_cons.mp hb
    have hx : x = y := by
      have h1 := (h x).1 (List.mem_cons_self ..)
      have h2 := (h y).2 (List.mem_cons_self ..)
      rcases List.mem_cons.mp h1 with e | e
      · exact e
      · rcases List.mem_cons.mp h2 with e2 | e2
        · exact e2.symm
        · have := hb'.1 x e
          have := ha'.1 y e2
          omega
    subst hx
    congr 1
    refine asc_unique ha'.2 hb'.2 fun k => ⟨fun m => ?_, fun m => ?_⟩
    · have lt := ha'.1 k m
      rcases List.mem_cons.mp ((h k).1 (List.mem_cons_of_mem _ m)) with e | e
      · omega
      · exact e
    · have lt := hb'.1 k m
      rcases List.mem_cons.mp ((h k).2 (List.mem_cons_of_mem _ m)) with e | e
      · omega
      · exact e
def ins (x : Int) : List Int → List Int
  | [] => [x]
  | y :: r => if x < y then x :: y :: r else if x = y then y :: r else y :: ins x r
theorem mem_ins {x k : Int} : ∀ {l : List Int}, k ∈ ins x l ↔ k = x ∨ k ∈ l
  | [] => by simp [ins]
  | y :: r => by
    unfold ins
    split
    · simp
    · split
      · rename_i e; subst e; simp
      · simp only [List.mem_cons, mem_ins (l := r)]
        constructor
        · rintro (h | h | h) <;> simp [h]
        · rintro (h | h | h) <;> simp [h]
theorem asc_ins {x : Int} : ∀ {l : List Int}, Asc l → Asc (ins x l)
  | [], _ => by simp [ins, Asc]
  | y :: r, h => by
    have h' := List.pairwise_cons.mp h
    unfold ins
    split
    · rename_i lt
      refine List.pairwise_cons.mpr ⟨fun k m => ?_, h⟩
      rcases List.mem_cons.mp m with e | e
      · omega
      · have := h'.1 k e; omega
    · split
      · exact h
      · rename_i n1 n2
        refine List.pairwise_cons.mpr ⟨fun k m => ?_, asc_ins h'.2⟩
        rcases mem_ins.mp m with e | e
        · omega
        · exact h'.1 k e
def sortU (l : List Int) : List Int := l.foldr ins []
theorem mem_sortU {k : Int} : ∀ {l : List Int}, k ∈ sortU l ↔ k ∈ l
  | [] => by simp [sortU]
  | x :: r => by
    show k ∈ ins x (sortU r) ↔ _
    rw [mem_ins, mem_sortU, List.mem_cons]
theorem asc_sortU : ∀ l : List Int, Asc (sortU l)
  | [] => .nil
  | x :: r => asc_ins (asc_sortU r)
theorem len_ins {x : Int} : ∀ {l : List Int}, (ins x l).length ≤ l.length + 1
  | [] => by simp [ins]
  | y :: r => by
    unfold ins
    split
    · simp
    · split
      · simp
      · have := len_ins (x := x) (l := r)
        simp only [List.length_cons]; omega
theorem len_sortU : ∀ l : List Int, (sortU l).length ≤ l.length
  | [] => by simp [sortU]
  | x :: r => by
    have h := len_ins (x := x) (l := sortU r)
    have h2 := len_sortU r
    show (ins x (sortU r)).length ≤ r.length + 1
    omega
def marks (t : Int) (bs : List Bed) : List Int := sortU (t :: bs.map (·.1))
theorem sortU_eq {l ms : List Int} (a : Asc ms) (h : ∀ k, k ∈ ms ↔ k ∈ l) : ms = sortU l := asc_unique a (asc_sortU l) fun k => (h k).trans mem_sortU.symm

/-! ### stretches -/
def pairs : List Int → List (Int × Int)
  | x :: y :: r => (x, y) :: pairs (y :: r)
  | _ => []
def litres (t : Int) (bs : List Bed) (lo hi : Int) : Int :=
  if t ≤ lo then ((bs.filter fun b => decide (hi ≤ b.1)).map (·.2)).sum else ((bs.filter fun b => decide (b.1 ≤ lo)).map (·.2)).sum
def strD (t : Int) (bs : List Bed) (p : Int × Int) : PyData := .tuple [.int p.1, .int p.2, .int (litres t bs p.1 p.2)]
def stretchesD (t : Int) (bs : List Bed) : PyData := .tuple ((pairs (marks t bs)).map (strD t bs))
/-- the law's own count -/
def total (t lo hi : Int) (bs : List Bed) : Int := ((bs.filter fun b => (decide (t ≤ lo) && decide (lo < b.1)) || (decide (b.1 < hi) && decide (hi ≤ t))).map (·.2)).sum
end Cn

namespace Cn
open PySem PySem.Spec PyProof.Rows L2 Evl
section
variable {K : PySem.W.Frag} {w : World} {σ : L2.St} {H H' : Hp} {ta tb te tx : TE} {t u : TT} {x y z v : V} {d : PyData} {ds : List PyData}
theorem et_ge {i j : Int} (ha : Ev ta σ H (.int i)) (hb : Ev tb σ H (.int j)) : EvT (tTest (tOp (rI0 fun i j => .bl (decide (j ≤ i))) ta tb)) σ H (decide (j ≤ i)) := et_test (ev_op ha hb rv_I0)
theorem given_map {α : Type} (l : List α) (f : α → V) (v : Nat → V) (h : ∀ i a, l[i]? = some a → v i = f a) : given l.length (fun _ => true) v = l.map f := by
  refine List.ext_getElem? fun i => ?_
  unfold given
  rw [List.filter_eq_self.mpr (fun _ _ => rfl), List.getElem?_map, List.getElem?_map]
  by_cases hi : i < l.length
  · rw [List.getElem?_range hi, List.getElem?_eq_getElem hi]
    simp only [Option.map_some]
    rw [h i _ (List.getElem?_eq_getElem hi)]
  · rw [List.getElem?_eq_none (by simpa using hi), List.getElem?_eq_none (by simpa using hi)]
    rfl
theorem cutTo (xs : List V) (k : Nat) (h : xs.length ≤ k) : cutV xs none (some k) = xs := by
  unfold cutV
  rw [show HT.sIx xs.length xs.length (some (k : Int)) = min k xs.length from HT.sIx_nat xs.length xs.length k, HT.sIx_none, Nat.min_eq_right h]
  simp
end
end Cn

namespace Cn
open PySem PySem.Spec PyProof.Rows L2 Evl
/-! ### the deck -/
/-- all but the deck's two lists stay -/
def Kp (D C : Addr) (H H' : Hp) : Prop := ∀ a o, a ≠ D → a ≠ C → H a = some o → H' a = some o
section
variable {D C : Addr} {H H1 H2 : Hp}
theorem Kp.refl : Kp D C H H := fun _ _ _ _ h => h
theorem Kp.trans (a : Kp D C H H1) (b : Kp D C H1 H2) : Kp D C H H2 := fun p o n1 n2 h => b p o n1 n2 (a p o n1 n2 h)
theorem Kp.ex (e : Ex H H1) : Kp D C H H1 := fun p o _ _ h => e p o h
theorem Kp.setD {o : HO} : Kp D C H (upd H D o) := fun p _ n1 _ h => by rw [upd_ne n1]; exact h
theorem Kp.setC {o : HO} : Kp D C H (upd H C o) := fun p _ _ n2 h => by rw [upd_ne n2]; exact h
theorem Kp.mut {p : Addr} {o : HO} (k : Kp D C H H1) (h : H p = none) : Kp D C H (upd H1 p o) := fun a u n1 n2 e => by
  rw [upd_ne (ne_of_none e h)]
  exact k a u n1 n2 e
theorem Kp.back (k : Kp D C H H1) {p : Addr} (n1 : p ≠ D) (n2 : p ≠ C) (h : H1 p = none) : H p = none := by
  cases e : H p with
  | none => rfl
  | some o => rw [k p o n1 n2 e] at h; cases h
/-- the deck at D, its cells at C, at most m draws so far -/
structure DeckN (D C : Addr) (n : Int) (cs : List Int) (H : Hp) : Prop where
  hD : H D = some (.lst [.ref C, .int n])
  hC : H C = some (.lst (cs.map V.int))
theorem DeckN.ne {n : Int} {cs : List Int} (d : DeckN D C n cs H) : D ≠ C := ne_of d.hD d.hC (by
  intro z
  cases cs with
  | nil => cases z
  | cons x r => cases z)
theorem DeckN.ex {n : Int} {cs : List Int} (e : Ex H H1) (d : DeckN D C n cs H) : DeckN D C n cs H1 := ⟨e _ _ d.hD, e _ _ d.hC⟩
def Deck (D C : Addr) (m : Int) (H : Hp) : Prop := ∃ n cs, DeckN D C n cs H ∧ 0 ≤ n ∧ n ≤ m ∧ cs.length ≤ 63 ∧ ∀ x ∈ cs, 0 ≤ x
theorem Deck.ex {m : Int} (e : Ex H H1) (d : Deck D C m H) : Deck D C m H1 := by
  obtain ⟨n, cs, d, r⟩ := d
  exact ⟨n, cs, d.ex e, r⟩
theorem Deck.mut {m : Int} {p : Addr} {o : HO} (d : Deck D C m H) (n1 : p ≠ D) (n2 : p ≠ C) : Deck D C m (upd H p o) := by
  obtain ⟨n, cs, d, r⟩ := d
  exact ⟨n, cs, ⟨by rw [upd_ne n1.symm]; exact d.hD, by rw [upd_ne n2.symm]; exact d.hC⟩, r⟩
theorem Deck.mono {m m' : Int} (h : m ≤ m') (d : Deck D C m H) : Deck D C m' H := by
  obtain ⟨n, cs, d, a, b, r⟩ := d
  exact ⟨n, cs, d, a, by omega, r⟩
/-- tuples stay -/
theorem Kp.tk {m : Int} (d : Deck D C m H) (k : Kp D C H H1) : Tk H H1 := by
  obtain ⟨n, cs, d, _⟩ := d
  refine ⟨fun a xs h => ?_, fun a o u h => k a _ (ne_of h d.hD (by intro z; cases z)) (ne_of h d.hC (by intro z; cases z)) h⟩
  have n1 := rd_ne h d.hD
  have n2 := rd_ne h d.hC
  rcases h with h | ⟨z, h⟩
  · exact .inl (k a _ n1 n2 h)
  · exact .inr ⟨z, k a _ n1 n2 h⟩
/-- what is not the deck -/
theorem Kp.free {p : Addr} {m : Int} (d : Deck D C m H) (hp : H p = none) : p ≠ D ∧ p ≠ C := by
  obtain ⟨n, cs, d, _⟩ := d
  exact ⟨fun z => (by rw [z, d.hD] at hp; cases hp), fun z => (by rw [z, d.hC] at hp; cases hp)⟩
end
/-- _law_draw -/
def spDraw : Sp := fun vs H Q _ => ∃ D C m k, vs = [.ref D, .int k] ∧ Deck D C m H ∧ m ≤ 1000000000 ∧ 1 ≤ k ∧ k ≤ 1000000001 ∧ ∀ r H', 0 ≤ r → r < k → Kp D C H H' → Deck D C (m + 1) H' → Q (.int r) H'
/-- _law_deck -/
def spDeck (K : PySem.W.Frag) : Sp := fun vs H Q _ => ∃ (a : Addr) (ns : List Int), vs = [.ref a] ∧ SqL K H a (ns.map V.int) ∧ ns.length ≤ 63 ∧ ∀ D C H', H D = none → H C = none → Ex H H' → Deck D C 0 H' → Q (.ref D) H'
/-! ### evaluation that draws -/
def DrI (D C : Addr) (te : TE) (σ : L2.St) (m m' : Int) (R : Int → Prop) : Prop := ∀ H1, Deck D C m H1 → ∀ Q : VK, (∀ i H2, Kp D C H1 H2 → Deck D C m' H2 → R i → Q (.int i) H2) → te σ H1 Q
def DrA (D C : Addr) (ta : TA) (σ : L2.St) (m m' : Int) (n : Nat) (R : Int → Prop) : Prop := ∀ H1, Deck D C m H1 → ∀ Q : List V → Hp → Prop, (∀ (is : List Int) H2, Kp D C H1 H2 → Deck D C m' H2 → is.length = n → (∀ i ∈ is, R i) → Q (is.map V.int) H2) → ta σ H1 Q
section
variable {D C : Addr} {K : PySem.W.Frag} {σ : L2.St} {m m1 m2 : Int} {R R1 R2 : Int → Prop} {ta tb te : TE} {n : Nat}
end
/-! ### gardens that are drawn -/
structure GOk (most top : Int) (t c : Int) (bs : List Bed) : Prop where
  t0 : -1000000 ≤ t
  t1 : t ≤ 1000000
  c0 : 1 ≤ c
  c1 : c ≤ 1000000
  asc : Asc (bs.map (·.1))
  p0 : ∀ b ∈ bs, -1000000 ≤ b.1
  p1 : ∀ b ∈ bs, b.1 ≤ 1000000
  l0 : ∀ b ∈ bs, 1 ≤ b.2
  l1 : ∀ b ∈ bs, b.2 ≤ 12 ∨ b.2 ≤ top
  few : (bs.length : Int) ≤ most
/-- the garden at v; its beds are a tuple of no further attributes -/
def GAt (H : Hp) (v : V) (t c : Int) (bs : List Bed) : Prop := ∃ g b xs o, v = .ref g ∧ Rd H g (.tup [.int t, .int c, .ref b]) ∧ H b = some (.frz o (.tup xs)) ∧ o.dict = none ∧ TpAll H xs (bs.map bedD)
theorem GAt.tp {H : Hp} {v : V} {t c : Int} {bs : List Bed} (h : GAt H v t c bs) : Tp H v (gardenD t c bs) := by
  obtain ⟨g, b, xs, o, rfl, hg, hb, _, hx⟩ := h
  exact garden_of hg (.inr ⟨o, hb⟩) hx
theorem GAt.ex {H H' : Hp} {v : V} {t c : Int} {bs : List Bed} (e : Ex H H') (h : GAt H v t c bs) : GAt H' v t c bs := by
  obtain ⟨g, b, xs, o, rfl, hg, hb, hd, hx⟩ := h
  exact ⟨g, b, xs, o, rfl, ex_rd e hg, e _ _ hb, hd, hx.mono (Tk.ex e)⟩
theorem GAt.kp {D C : Addr} {m : Int} {H H' : Hp} {v : V} {t c : Int} {bs : List Bed} (d : Deck D C m H) (k : Kp D C H H') (h : GAt H v t c bs) : GAt H' v t c bs := by
  obtain ⟨g, b, xs, o, rfl, hg, hb, hd, hx⟩ := h
  have tk := Kp.tk d k
  refine ⟨g, b, xs, o, rfl, tk.1 _ _ hg, k b _ ?_ ?_ hb, hd, hx.mono tk⟩
  · obtain ⟨n, cs, d, _⟩ := d
    exact ne_of hb d.hD (by intro z; cases z)
  · obtain ⟨n, cs, d, _⟩ := d
    exact ne_of hb d.hC (by intro z; cases z)
def spGarden : Sp := fun vs H Q _ => ∃ D C m most top, vs = [.ref D, .int most, .int top] ∧ Deck D C m H ∧ m ≤ 900000000 ∧ 1 ≤ most ∧ most ≤ 12 ∧ 1 ≤ top ∧ top ≤ 1000000000 ∧
  ∀ v t c bs H', GOk most top t c bs → GAt H' v t c bs → Kp D C H H' → Deck D C (m + 100) H' → Q v H'
theorem pow6 : (10 : Int) ^ (6 : Int).toNat = 1000000 := by decide
theorem pow9 : (10 : Int) ^ (9 : Int).toNat = 1000000000 := by decide
theorem pow18 : (10 : Int) ^ (18 : Int).toNat = 1000000000000000000 := by decide
end Cn

namespace Cn
open PySem PySem.Spec PyProof.Rows L2 Evl
/-! ### sizes of data -/
theorem smI {i : Int} (h0 : -(10 ^ 39) ≤ i) (h1 : i ≤ 10 ^ 39) : sm (.int i) = true := by
  simp only [sm, decide_eq_true_eq]
  have : (10 : Int) ^ 39 < 10 ^ 40 := by decide
  omega
theorem smAll_of : ∀ {ds : List PyData}, (∀ d ∈ ds, sm d = true) → smAll ds = true
  | [], _ => rfl
  | d :: ds, h => by
    simp only [smAll, Bool.and_eq_true]
    exact ⟨h d (List.mem_cons_self ..), smAll_of fun e he => h e (List.mem_cons_of_mem _ he)⟩
theorem wtAll_le {k : Nat} : ∀ {ds : List PyData}, (∀ d ∈ ds, wt d ≤ k) → wtAll ds ≤ (k + 2) * ds.length
  | [], _ => by simp [wtAll]
  | d :: ds, h => by
    have h1 := h d (List.mem_cons_self ..)
    have h2 := wtAll_le (ds := ds) fun e he => h e (List.mem_cons_of_mem _ he)
    simp only [wtAll, List.length_cons, Nat.mul_add, Nat.mul_one]
    omega
theorem dpAll_le {k : Nat} : ∀ {ds : List PyData}, (∀ d ∈ ds, dp d ≤ k) → dpAll ds ≤ k
  | [], _ => by simp [dpAll]
  | d :: ds, h => by
    have h1 := h d (List.mem_cons_self ..)
    have h2 := dpAll_le (ds := ds) fun e he => h e (List.mem_cons_of_mem _ he)
    simp only [dpAll]
    omega
/-- data that repr shows: small, at most k signs, at most n deep -/
def Sh (d : PyData) (k n : Nat) : Prop := sm d = true ∧ wt d ≤ k ∧ dp d ≤ n
theorem Sh.mono {d : PyData} {k k' n n' : Nat} (h : Sh d k n) (a : k ≤ k') (b : n ≤ n') : Sh d k' n' := ⟨h.1, Nat.le_trans h.2.1 a, Nat.le_trans h.2.2 b⟩
theorem sh_int {i : Int} (h0 : -(10 ^ 39) ≤ i) (h1 : i ≤ 10 ^ 39) : Sh (.int i) 100 0 := ⟨smI h0 h1, Nat.le_refl _, Nat.le_refl _⟩
theorem sh_tup {ds : List PyData} {k n m : Nat} (h : ∀ d ∈ ds, Sh d k n) (hm : (k + 2) * ds.length + 3 ≤ m) : Sh (.tuple ds) m (n + 1) := by
  have h2 := wtAll_le fun d hd => (h d hd).2.1
  have h3 := dpAll_le fun d hd => (h d hd).2.2
  refine ⟨by simp only [sm]; exact smAll_of fun d hd => (h d hd).1, by simp only [wt]; omega, by simp only [dp]; omega⟩
theorem sh_bed {b : Bed} (h0 : -(10 ^ 39) ≤ b.1) (h1 : b.1 ≤ 10 ^ 39) (h2 : -(10 ^ 39) ≤ b.2) (h3 : b.2 ≤ 10 ^ 39) : Sh (bedD b) 207 1 := by
  refine sh_tup (k := 100) (n := 0) (fun d hd => ?_) (by simp)
  simp only [List.mem_cons, List.not_mem_nil, or_false] at hd
  rcases hd with rfl | rfl
  · exact sh_int h0 h1
  · exact sh_int h2 h3
section
variable {K : PySem.W.Frag} {w : World} {σ : L2.St} {H H' : Hp} {ta tb te tx : TE} {t u : TT} {x y z v : V} {d e : PyData} {ds es : List PyData}
/-! ### more evaluation -/
theorem TpAll.init {xs : List V} (h : TpAll H xs ds) : TpAll H xs.dropLast ds.dropLast := by
  rw [List.dropLast_eq_take, List.dropLast_eq_take, h.length]
  exact h.take _
/-- _law_same -/
def spSame (K : PySem.W.Frag) : Sp := fun vs H Q _ => ∃ a b d, vs = [a, b] ∧ Dp K H a d ∧ Dp K H b d ∧ sm d = true ∧ wt d ≤ 1000000 ∧ dp d ≤ 50 ∧ Q (.bl true) H
end
end Cn

namespace Cn
open PySem PySem.Spec PyProof.Rows L2 Evl
section
variable {X : Cx}
/-- tuple(list): a tuple of no further attributes -/
def rTupF (K : PySem.W.Frag) : List V → Hp → VK → Prop := fun xs H Q => ∃ p ys, xs = [.ref p] ∧ SqL K H p ys ∧ ∀ l o, H l = none → o.dict = none → Q (.ref l) (upd H l (.frz o (.tup ys)))
/-- dict(tuple of pairs) -/
def rDictT (K : PySem.W.Frag) : List V → Hp → VK → Prop := fun xs H Q => ∃ (a : Addr) (o : Obj) (ps : List Addr) (kvs : List (Key × V)), xs = [.ref a] ∧ H a = some (.frz o (.tup (ps.map V.ref))) ∧ o.dict = none ∧ Paired (fun p kv => SqT K H p [kV kv.1, kv.2]) ps kvs ∧
  ∀ p, H p = none → Q (.ref p) (upd H p (.dK (mergeK [] kvs)))
end
section
variable {K : PySem.W.Frag} {σ : L2.St} {H : Hp} {te : TE} {ds : List PyData}
end
end Cn

namespace Cn
open PySem PySem.Spec PyProof.Rows L2 Evl
/-! ### rules that name the written part -/
section
variable {X : Cx} {K : PySem.W.Frag}
theorem ix_listK (h : X.K = K) : IxR X (rIxL K) := h ▸ ix_list
theorem sl_listK (h : X.K = K) : SlR X (rSlL K) := h ▸ sl_list
def rLen (K : PySem.W.Frag) : List V → Hp → VK → Prop := fun xs H Q => ∃ p ys, xs = [.ref p] ∧ (SqL K H p ys ∨ SqT K H p ys) ∧ Q (.int ys.length) H
theorem call_lenK (h : X.K = K) : CallR X (.builtin "len") (rLen K) := h ▸ call_len_seq
theorem cr_setK (h : X.K = K) (c : X.calm = true) : CallR X (.type "set") (rSetL K X.w) := h ▸ cr_setL c
theorem pi_listK {tg l : Expr} {tl : TE} (h : X.K = K) (hl : PE X l tl) : PI X tg l (iList K tl) := h ▸ pi_list hl
end
/-! ### dicts of ints -/
def dictOf (ws : List Bed) : List (Key × V) := ws.map fun b => (Sum.inl b.1, V.int b.2)
section
variable {K : PySem.W.Frag} {σ : L2.St} {H : Hp} {ta tb te td ty tl : TE} {t u : TT} {v : V}
def rSortDI : List V → Hp → VK → Prop := fun xs H Q => ∃ (a : Addr) (kvs : List (Key × V)) (ks : List Int), xs = [.ref a] ∧ Rd H a (.dK kvs) ∧ kvs.map (·.1) = ks.map Sum.inl ∧ ks.length < 64 ∧ ∀ (ys : List Int) (p : Addr), ys.Perm ks → ys.Pairwise (· ≤ ·) → H p = none → Q (.ref p) (upd H p (.lst (ys.map V.int)))
end
/-! ### drawing where some things are known of the heap -/
def DrJ (D C : Addr) (J : Hp → Prop) (te : TE) (σ : L2.St) (m m' : Int) (R : Int → Prop) : Prop := ∀ H1, Deck D C m H1 → J H1 → ∀ Q : VK, (∀ i H2, Kp D C H1 H2 → Deck D C m' H2 → J H2 → R i → Q (.int i) H2) → te σ H1 Q
def St (D C : Addr) (J : Hp → Prop) : Prop := ∀ H H', J H → Kp D C H H' → J H'
def DrK (D C : Addr) (J : Hp → Prop) (ta : TA) (σ : L2.St) (m m' : Int) (n : Nat) (R : Int → Prop) : Prop := ∀ H1, Deck D C m H1 → J H1 → ∀ Q : List V → Hp → Prop, (∀ (is : List Int) H2, Kp D C H1 H2 → Deck D C m' H2 → J H2 → is.length = n → (∀ i ∈ is, R i) → Q (is.map V.int) H2) → ta σ H1 Q
section
variable {D C : Addr} {K : PySem.W.Frag} {J : Hp → Prop} {σ : L2.St} {m m1 m2 : Int} {R R1 R2 : Int → Prop} {ta tb te : TE} {n : Nat}
end
section
variable {σ : L2.St} {H : Hp} {t u : TT} {Q : Bool → Hp → Prop}
end
/-! ### trips that are drawn -/
structure TripOk (c : Int) (ws rs : List Bed) : Prop where
  asc : Asc (rs.map (·.1))
  row : ∀ r ∈ rs, ∃ w, (r.1, w) ∈ ws ∧ 1 ≤ r.2 ∧ r.2 ≤ w
  sum : (rs.map (·.2)).sum ≤ c
  non : rs = [] → ∀ b ∈ ws, b.2 ≤ 0
  len : rs.length ≤ 40
def spTrip : Sp := fun vs H Q _ => ∃ D C m g t c bs W ws, vs = [.ref D, g, .ref W] ∧ Deck D C m H ∧ m ≤ 800000000 ∧ Tp H g (gardenD t c bs) ∧ 1 ≤ c ∧ c ≤ 1000000 ∧ H W = some (.dK (dictOf ws)) ∧ (ws.map (·.1)).Nodup ∧ ws.length ≤ 40 ∧
  ∀ v rs H', TripOk c ws rs → Tp H' v (bedsD rs) → Kp D C H H' → Deck D C (m + 200) H' → Q v H'
theorem Kp.dict {D C W : Addr} {m : Int} {H : Hp} {kvs : List (Key × V)} (d : Deck D C m H) (h : H W = some (.dK kvs)) : W ≠ D ∧ W ≠ C := by
  obtain ⟨n, cs, d, _⟩ := d
  exact ⟨ne_of h d.hD (by intro z; cases z), ne_of h d.hC (by intro z; cases z)⟩
end Cn

namespace Cn
open PySem PySem.Spec PyProof.Rows L2 Evl
section
variable {K : PySem.W.Frag} {σ : L2.St} {H : Hp} {ta tb te td ty tl : TE} {t u : TT} {v : V} {d : PyData} {ds es : List PyData}
end
/-! ### comprehensions that draw -/
theorem Tk.dict {H : Hp} {W : Addr} {kvs : List (Key × V)} {o : HO} (h : H W = some (.dK kvs)) : Tk H (upd H W o) := ⟨fun a zs e => rd_upd e (by
  rcases e with e | ⟨z, e⟩
  · exact ne_of e h (by intro z; cases z)
  · exact ne_of e h (by intro z; cases z)), fun a z u e => by rw [upd_ne (ne_of e h (by intro z; cases z))]; exact e⟩
theorem GAt.dict {H : Hp} {v : V} {t c : Int} {bs : List Bed} {W : Addr} {kvs : List (Key × V)} {o : HO} (h : GAt H v t c bs) (hW : H W = some (.dK kvs)) : GAt (upd H W o) v t c bs := by
  obtain ⟨g, b, xs, ob, rfl, hg, hb, hd, hx⟩ := h
  have tk : Tk H (upd H W o) := Tk.dict hW
  exact ⟨g, b, xs, ob, rfl, tk.1 _ _ hg, by rw [upd_ne (ne_of hb hW (by intro z; cases z))]; exact hb, hd, hx.mono tk⟩
structure TrOk (rs : List Bed) : Prop where
  asc : Asc (rs.map (·.1))
  len : rs.length ≤ 40
  p0 : ∀ r ∈ rs, -1000000 ≤ r.1
  p1 : ∀ r ∈ rs, r.1 ≤ 1000000
  l0 : ∀ r ∈ rs, 1 ≤ r.2
  l1 : ∀ r ∈ rs, r.2 ≤ 10000000000
theorem TrOk.sh {rs : List Bed} (h : TrOk rs) : Sh (bedsD rs) 9000 2 := by
  have big : (10 : Int) ^ 39 = 1000000000000000000000000000000000000000 := by decide
  refine sh_tup (k := 207) (n := 1) (fun d hd => ?_) (by rw [List.length_map]; have := h.len; omega)
  obtain ⟨b, m, rfl⟩ := List.mem_map.mp hd
  have := h.p0 b m
  have := h.p1 b m
  have := h.l0 b m
  have := h.l1 b m
  exact sh_bed (by omega) (by omega) (by omega) (by omega)
/-! ### the way of a trip -/
def wstep (t : Int) (a : Int × Int) (r : Bed) : Int × Int := if r.1 < t then (max a.1 (t - r.1), a.2) else (a.1, max a.2 (r.1 - t))
def wayOf (t : Int) (rs : List Bed) : Int := 2 * (rs.foldl (wstep t) (0, 0)).1 + 2 * (rs.foldl (wstep t) (0, 0)).2
end Cn

namespace Cn
open PySem PySem.Spec PyProof.Rows L2 Evl
/-! ### sizes of values of any kind -/
def odKv : List (PyData × PyData) → Bool
  | [] => true
  | [(.str x, .int i)] => decide (x = "a") && (decide (i = 1) || decide (i = 0))
  | _ => false
mutual
def okV (B : Nat) : PyData → Bool
  | .none => true
  | .bool _ => true
  | .int i => decide (i.natAbs ≤ B)
  | .str x => decide ((reprText x).length ≤ 1000)
  | .list xs => okVAll B xs
  | .tuple xs => okVAll B xs
  | .dict kvs => odKv kvs
def okVAll (B : Nat) : List PyData → Bool
  | [] => true
  | x :: xs => okV B x && okVAll B xs
end
mutual
def wv : PyData → Nat
  | .none => 10
  | .bool _ => 10
  | .int _ => 100
  | .str _ => 1000
  | .list xs => wvAll xs + 3
  | .tuple xs => wvAll xs + 3
  | .dict _ => 20
def wvAll : List PyData → Nat
  | [] => 0
  | x :: xs => (wv x + 2) + wvAll xs
end
mutual
def dv : PyData → Nat
  | .list xs => dvAll xs + 1
  | .tuple xs => dvAll xs + 1
  | .dict _ => 1
  | _ => 0
def dvAll : List PyData → Nat
  | [] => 0
  | x :: xs => max (dv x) (dvAll xs)
end
theorem odKv_inv : ∀ {kvs : List (PyData × PyData)}, odKv kvs = true → kvs = [] ∨ kvs = [(.str "a", .int 1)] ∨ kvs = [(.str "a", .int 0)]
  | [], _ => .inl rfl
  | [(.str x, .int i)], h => by
    simp only [odKv, Bool.and_eq_true, Bool.or_eq_true, decide_eq_true_eq] at h
    rw [h.1]
    rcases h.2 with h | h
    · rw [h]; exact .inr (.inl rfl)
    · rw [h]; exact .inr (.inr rfl)
  | [(.none, _)], h => by simp [odKv] at h
  | [(.bool _, _)], h => by simp [odKv] at h
  | [(.int _, _)], h => by simp [odKv] at h
  | [(.list _, _)], h => by simp [odKv] at h
  | [(.tuple _, _)], h => by simp [odKv] at h
  | [(.dict _, _)], h => by simp [odKv] at h
  | [(.str _, .none)], h => by simp [odKv] at h
  | [(.str _, .bool _)], h => by simp [odKv] at h
  | [(.str _, .str _)], h => by simp [odKv] at h
  | [(.str _, .list _)], h => by simp [odKv] at h
  | [(.str _, .tuple _)], h => by simp [odKv] at h
  | [(.str _, .dict _)], h => by simp [odKv] at h
  | _ :: _ :: _, h => by simp [odKv] at h
mutual
theorem okV_show {B : Nat} (hB : B < 10 ^ 40) : ∀ d : PyData, okV B d = true → d.showable = true ∧ d.shown.length ≤ wv d ∧ d.depth ≤ dv d
  | .none, _ => ⟨rfl, by simp only [PyData.shown, wv]; decide, by simp only [PyData.depth]; omega⟩
  | .bool b, _ => ⟨rfl, by simp only [PyData.shown, wv]; cases b <;> decide, by simp only [PyData.depth]; omega⟩
  | .int i, h => by
    have h1 : i.natAbs < 10 ^ 40 := by
      simp only [okV, decide_eq_true_eq] at h
      omega
    have h2 : i.natAbs < 2 ^ 1920 := Nat.lt_of_lt_of_le h1 (by decide +kernel)
    refine ⟨?_, ?_, by simp only [PyData.depth]; omega⟩
    · simp only [PyData.showable, decide_eq_true_eq]
      by_cases h0 : i.natAbs = 0
      · rw [h0]; decide
      · exact (Nat.log2_lt h0).2 h2
    · have := int_text_length_le10 (a := i) (k := 40) (by decide) h1
      simp only [PyData.shown, wv]
      rw [PySem.ofString_length]
      omega
  | .str x, h => by
    have h1 : (reprText x).length ≤ 1000 := by simpa only [okV, decide_eq_true_eq] using h
    exact ⟨rfl, by simp only [PyData.shown, wv]; exact h1, by simp only [PyData.depth]; omega⟩
  | .list xs, h => by
    obtain ⟨a, b, c⟩ := okV_showAll hB xs (by simpa only [okV] using h)
    have := listText_le (PyData.shownAll xs)
    refine ⟨by simpa only [PyData.showable] using a, by simp only [PyData.shown, wv]; omega, by simp only [PyData.depth, dv]; omega⟩
  | .tuple xs, h => by
    obtain ⟨a, b, c⟩ := okV_showAll hB xs (by simpa only [okV] using h)
    have := tupleText_le (PyData.shownAll xs)
    refine ⟨by simpa only [PyData.showable] using a, by simp only [PyData.shown, wv]; omega, by simp only [PyData.depth, dv]; omega⟩
  | .dict kvs, h => by
    rcases odKv_inv (by simpa only [okV] using h) with rfl | rfl | rfl
    · exact ⟨rfl, by simp only [PyData.shown, PyData.shownKv, wv]; decide, by simp only [PyData.depth, PyData.depthKv, dv]; omega⟩
    · exact ⟨rfl, by simp only [PyData.shown, PyData.shownKv, wv]; decide +kernel, by simp only [PyData.depth, PyData.depthKv, dv]; decide⟩
    · exact ⟨rfl, by simp only [PyData.shown, PyData.shownKv, wv]; decide +kernel, by simp only [PyData.depth, PyData.depthKv, dv]; decide⟩
theorem okV_showAll {B : Nat} (hB : B < 10 ^ 40) : ∀ ds : List PyData, okVAll B ds = true → PyData.showableAll ds = true ∧ piled (PyData.shownAll ds) ≤ wvAll ds ∧ PyData.depthAll ds ≤ dvAll ds
  | [], _ => ⟨rfl, by simp only [PyData.shownAll, wvAll]; exact Nat.le_refl _, by simp only [PyData.depthAll]; omega⟩
  | x :: xs, h => by
    simp only [okVAll, Bool.and_eq_true] at h
    obtain ⟨a, b, c⟩ := okV_show hB x h.1
    obtain ⟨a', b', c'⟩ := okV_showAll hB xs h.2
    refine ⟨by simp only [PyData.showableAll, a, a', Bool.and_self], ?_, by simp only [PyData.depthAll, dvAll]; omega⟩
    simp only [PyData.shownAll, wvAll]
    rw [piled_cons]; omega
end
theorem okVAll_iff {B : Nat} : ∀ {ds : List PyData}, okVAll B ds = true ↔ ∀ d ∈ ds, okV B d = true
  | [] => by simp [okVAll]
  | x :: xs => by simp [okVAll, okVAll_iff (ds := xs)]
theorem dvAll_iff {k : Nat} : ∀ {ds : List PyData}, dvAll ds ≤ k ↔ ∀ d ∈ ds, dv d ≤ k
  | [] => by simp [dvAll]
  | x :: xs => by
    have := dvAll_iff (k := k) (ds := xs)
    simp only [dvAll, List.mem_cons, forall_eq_or_imp, ← this]
    omega
/-- a value of at most k signs, at most n deep, whole numbers up to B -/
structure Sz (B k n : Nat) (d : PyData) : Prop where
  ok : okV B d = true
  w : wv d ≤ k
  p : dv d ≤ n
theorem Sz.mono {B B' k k' n n' : Nat} {d : PyData} (h : Sz B k n d) (b : B ≤ B') (a : k ≤ k') (c : n ≤ n') : Sz B' k' n' d := by
  have key : (∀ d : PyData, okV B d = true → okV B' d = true) := by
    intro d
    refine PyData.rec (motive_1 := fun d => okV B d = true → okV B' d = true) (motive_2 := fun ds => okVAll B ds = true → okVAll B' ds = true) (motive_3 := fun _ => True) (motive_4 := fun _ => True) ?_ ?_ ?_ ?_ ?_ ?_ ?_ ?_ ?_ ?_ ?_ ?_ d
    all_goals first
      | (intros; trivial)
      | (intro i h; simp only [okV, decide_eq_true_eq] at h ⊢; omega)
      | (intro x y h1 h2 h; simp only [okVAll, Bool.and_eq_true] at h ⊢; exact ⟨h1 h.1, h2 h.2⟩)
      | (intro x h1 h; simp only [okV] at h ⊢; exact h1 h)
      | (intros; simpa only [okV] using ‹_›)
  exact ⟨key d h.ok, Nat.le_trans h.w a, Nat.le_trans h.p c⟩
theorem sz_tup {B k n : Nat} {ds : List PyData} (h : ∀ d ∈ ds, okV B d = true) (hw : wvAll ds + 3 ≤ k) (hp : ∀ d ∈ ds, dv d + 1 ≤ n) (hn : 1 ≤ n) : Sz B k n (.tuple ds) := by
  refine ⟨by simp only [okV]; exact okVAll_iff.mpr h, by simp only [wv]; exact hw, ?_⟩
  have : dvAll ds ≤ n - 1 := dvAll_iff.mpr fun d hd => by have := hp d hd; omega
  simp only [dv]; omega
theorem sz_lst {B k n : Nat} {ds : List PyData} (h : ∀ d ∈ ds, okV B d = true) (hw : wvAll ds + 3 ≤ k) (hp : ∀ d ∈ ds, dv d + 1 ≤ n) (hn : 1 ≤ n) : Sz B k n (.list ds) := by
  refine ⟨by simp only [okV]; exact okVAll_iff.mpr h, by simp only [wv]; exact hw, ?_⟩
  have : dvAll ds ≤ n - 1 := dvAll_iff.mpr fun d hd => by have := hp d hd; omega
  simp only [dv]; omega
theorem Sz.items {B k n : Nat} {ds : List PyData} (h : Sz B k n (.tuple ds)) : (∀ d ∈ ds, okV B d = true) ∧ wvAll ds + 3 ≤ k ∧ (∀ d ∈ ds, dv d + 1 ≤ n) ∧ 1 ≤ n := by
  obtain ⟨a, b, c⟩ := h
  simp only [okV] at a
  simp only [wv] at b
  simp only [dv] at c
  have : dvAll ds ≤ n - 1 := by omega
  exact ⟨okVAll_iff.mp a, b, fun d hd => by have := dvAll_iff.mp this d hd; omega, by omega⟩
/-! ### reading -/
section
variable {X : Cx} {pins : List (Addr × Obj)} {σ : L2.St} {H : Hp} {s : Shared}
mutual
theorem Tp.reads (I : Inv X pins σ H s) : ∀ (d : PyData) (v : V) (u : Value), Tp H v d → RelV v u → ∃ as, Reads s.heap u d as ∧ sysModules ∉ as
  | .none, _, _, h, r => by
    cases h
    cases r
    exact ⟨_, Reads.none, by simp⟩
  | .bool b, _, _, h, r => by
    cases h
    cases r
    exact ⟨_, Reads.bool b, by simp⟩
  | .int i, _, _, h, r => by
    cases h
    obtain ⟨t, rfl⟩ := r
    exact ⟨_, Reads.int i t, by simp⟩
  | .str x, _, _, h, r => by
    cases h
    obtain ⟨t, rfl⟩ := r
    exact ⟨_, Reads.str x t, by simp⟩
  | .list ds, _, _, h, r => by
    cases h with
    | lst hs hn ha =>
      cases r
      obtain ⟨its, rv, ⟨o, n, ho, hc, _, hd⟩, _⟩ := I.list (xs := _) (show SqL X.K H _ _ from .inl (.inr ⟨_, hs⟩))
      obtain ⟨as, hr, na⟩ := Tp.readsAll I ds _ its ha rv
      exact ⟨_, Reads.list ho hc hd hr, by simp [na]; exact fun z => hn z.symm⟩
  | .tuple ds, _, _, h, r => by
    cases h with
    | tup hs ha =>
      cases r
      obtain ⟨its, rv, ⟨o, ho, hc, n, hd⟩, _⟩ := I.tuple (sr (K := X.K) hs)
      obtain ⟨as, hr, na⟩ := Tp.readsAll I ds _ its ha rv
      exact ⟨_, Reads.tuple ho hc hd hr, na⟩
  | .dict ds, _, _, h, r => by
    cases h with
    | dic hs od =>
      cases r
      obtain ⟨_, hsm, vs, kv, o, es, ep, ho, hx, hd, _, hp, _⟩ := dk_rd I.hok (.inr ⟨_, hs⟩)
      have nsm := (beq_eq_false_iff_ne.mp hsm).symm
      rcases od with ⟨rfl, rfl⟩ | ⟨rfl, rfl⟩
      · cases kv
        have e0 : es.toList = [] := by cases h : es.toList with | nil => rfl | cons e r => rw [h] at hp; cases hp
        refine ⟨_, Reads.dict (kvs := []) (as := []) (bs := []) ho hx.1 hd (by rw [e0]; exact .nil) (by rw [e0]; exact .nil), by simp [nsm]⟩
      · cases kv with
        | @cons _ q _ _ h1 h2 =>
          cases h2
          obtain ⟨qk, qv⟩ := q
          obtain ⟨e1, t, e2⟩ := h1
          dsimp only at e1 e2
          subst e1 e2
          cases h : es.toList with
          | nil => rw [h] at hp; cases hp
          | cons e r =>
            rw [h] at hp
            cases hp with
            | cons k1 k2 k3 =>
              cases k3
              rcases keyIs_shape (k := .inr "a") (v := e.key) k1 with ⟨i, t', z, _⟩ | ⟨x, t', z, ek⟩
              · cases z
              · cases z
                refine ⟨_, Reads.dict (kvs := [(.str "a", .int 1)]) ho hx.1 hd (as := [] ++ []) (bs := [] ++ []) (by rw [h]; simp only [List.map_cons, List.map_nil, ek]; exact .cons (.str _ _) .nil) (by rw [h]; simp only [List.map_cons, List.map_nil, k2]; exact .cons (.int _ _) .nil), by simp [nsm]⟩
theorem Tp.readsAll (I : Inv X pins σ H s) : ∀ (ds : List PyData) (vs : List V) (us : List Value), TpAll H vs ds → Vals vs us → ∃ as, ReadsAll s.heap us ds as ∧ sysModules ∉ as
  | [], _, _, h, r => by
    cases h
    cases r
    exact ⟨_, ReadsAll.nil, by simp⟩
  | d :: ds, _, _, h, r => by
    cases h with
    | cons h1 h2 =>
      cases r with
      | cons r1 r2 =>
        obtain ⟨as, q1, n1⟩ := Tp.reads I d _ _ h1 r1
        obtain ⟨bs, q2, n2⟩ := Tp.readsAll I ds _ _ h2 r2
        exact ⟨_, ReadsAll.cons q1 q2, by simp [n1, n2]⟩
end
end
/-! ### repr -/
/-- what repr is asked of: a value, or a list of values that was just made -/
def Tq (H : Hp) (v : V) (d : PyData) : Prop := Tp H v d ∨ ∃ a xs ds, v = .ref a ∧ d = .list ds ∧ H a = some (.lst xs) ∧ a ≠ sysModules ∧ TpAll H xs ds
section
variable {X : Cx}
theorem Tq.reads {pins : List (Addr × Obj)} {σ : L2.St} {H : Hp} {s : Shared} (I : Inv X pins σ H s) {d : PyData} {v : V} {u : Value} (h : Tq H v d) (r : RelV v u) : ∃ as, Reads s.heap u d as ∧ sysModules ∉ as := by
  rcases h with h | ⟨a, xs, ds, rfl, rfl, ha, hn, hx⟩
  · exact Tp.reads I d v u h r
  · cases r
    obtain ⟨its, rv, ⟨o, n, ho, hc, _, hd⟩, _⟩ := I.list (show SqL X.K H a xs from sq_of ha)
    obtain ⟨as, hr, na⟩ := Tp.readsAll I ds _ its hx rv
    exact ⟨_, Reads.list ho hc hd hr, by simp [na]; exact fun z => hn z.symm⟩
def rReprV : List V → Hp → VK → Prop := fun xs H Q => ∃ v d, xs = [v] ∧ Tq H v d ∧ Sz (10 ^ 39 + 10) 1000000 50 d ∧ Q (.str d.shown) H
/-! ### lists, dicts that are locked at once -/
def tLstZ (t : TA) : TE := fun σ H Q => t σ H fun xs H1 => xs.length ≤ sizeLine ∧ ∀ p o, H1 p = none → p ≠ sysModules → Q (.ref p) (upd H1 p (.frz o (.lst xs)))
def tLstN (t : TA) : TE := fun σ H Q => t σ H fun xs H1 => xs.length ≤ sizeLine ∧ ∀ p, H1 p = none → p ≠ sysModules → Q (.ref p) (upd H1 p (.lst xs))
/-- an expression that gives a new dict: it is locked -/
def tDz (t : TE) : TE := fun σ H Q => t σ H fun v H1 => ∃ a kvs, v = .ref a ∧ H1 a = some (.dK kvs) ∧ ∀ o, Q (.ref a) (upd H1 a (.frz o (.dK kvs)))
/-- list(tuple), locked -/
def rListZ (K : PySem.W.Frag) : List V → Hp → VK → Prop := fun xs H Q => ∃ p ys, xs = [.ref p] ∧ SqT K H p ys ∧ ∀ l o, H l = none → l ≠ sysModules → Q (.ref l) (upd H l (.frz o (.lst ys)))
end
end Cn

namespace HT
open PySem PySem.Spec PyProof.Rows
section
variable {prog : Program} {w : World} {A : Around} {E : Value → Shared → Prop} {s : Shared}
theorem places_back (n : Nat) : Builtin.Slice.slicePlaces ((n : Int) - 1) (-1) (-1) = n := by
  unfold Builtin.Slice.slicePlaces
  have h1 : ¬ ((-1 : Int) > 0) := by omega
  simp only [h1, if_false]
  split
  · simp
  · omega
theorem adjust_back (n : Nat) : Builtin.Slice.sliceAdjust none none (-1) (n : Int) = ((n : Int) - 1, -1) := by
  unfold Builtin.Slice.sliceAdjust
  simp
theorem sliceApplied_back {sl : Addr} {vl vu vs : Value} {n : Nat} {Q : Int × Int × Nat → Shared → Prop} (hs : s.heap.IsSliceOf sl vl vu vs) (pl : IsPart vl none) (pu : IsPart vu none) (ps : IsPart vs (some (-1)))
    (h : Q ((n : Int) - 1, -1, n) s) : wpAny (model prog w) A (Builtin.Slice.sliceApplied (.ref sl) (pure (n : Int))) Q E s := by
  obtain ⟨os, hos, hcs, hds⟩ := id hs
  unfold Builtin.Slice.sliceApplied Builtin.Slice.sliceFields
  refine wpAny_bind (wpAny_bind (wpAny_field hos hds (x := vl) rfl (wpAny_bind (wpAny_field hos hds (x := vu) rfl (wpAny_bind (wpAny_field hos hds (x := vs) rfl (wpAny_pure ?_)))))))
  refine wpAny_bind (slicePart_ ps ?_)
  show wpAny _ _ (if ((-1 : Int) == 0) = true then _ else _) _ _ s
  rw [if_neg (by decide)]
  refine wpAny_bind (slicePart_ pl (wpAny_bind (slicePart_ pu (wpAny_bind (wpAny_pure ?_)))))
  show wpAny _ _ (match Builtin.Slice.sliceAdjust none none (-1) (n : Int) with | (lo, hi) => pure (lo, (-1 : Int), Builtin.Slice.slicePlaces lo hi (-1))) _ _ s
  rw [adjust_back n]
  show wpAny _ _ (pure ((n : Int) - 1, (-1 : Int), Builtin.Slice.slicePlaces ((n : Int) - 1) (-1) (-1))) _ _ s
  rw [places_back]
  exact wpAny_pure h
theorem fm_congr {α β : Type} {f g : α → Option β} : ∀ l : List α, (∀ x ∈ l, f x = g x) → l.filterMap f = l.filterMap g
  | [], _ => rfl
  | x :: l, h => by
    rw [List.filterMap_cons, List.filterMap_cons, h x (List.mem_cons_self ..), fm_congr l fun y hy => h y (List.mem_cons_of_mem _ hy)]
theorem pick_back (xs : Array Value) : ((List.range xs.size).filterMap fun (m : Nat) => xs[(((xs.size : Int) - 1) + (m : Int) * (-1)).toNat]?).toArray = xs.toList.reverse.toArray := by
  have h := PySem.W.krv_range xs.size
  have e : ((List.range xs.size).filterMap fun (m : Nat) => xs[(((xs.size : Int) - 1) + (m : Int) * (-1)).toNat]?) = (((List.range xs.size).map fun k => xs.size - 1 - k).filterMap (xs[·]?)) := by
    rw [List.filterMap_map]
    refine fm_congr _ fun m hm => ?_
    have : (((xs.size : Int) - 1) + (m : Int) * (-1)).toNat = xs.size - 1 - m := by omega
    rw [this]
    all_goals rfl
  rw [e, h, List.filterMap_reverse, PySem.W.krv_all]
theorem getItem_tuple_back {t sl : Addr} {items : Array Value} {vl vu vs : Value} {Q : Value → Shared → Prop} (ht : IsTup s.heap t items) (hs : s.heap.IsSliceOf sl vl vu vs) (pl : IsPart vl none) (pu : IsPart vu none) (ps : IsPart vs (some (-1)))
    (h : Q (.ref s.heap.objs.size) { s with heap := s.heap.push { cls := .type "tuple", data := .seq items.toList.reverse.toArray } })
    (hsz : items.size ≤ sizeLine) : wpAny (model prog w) A (getItem (.ref t) (.ref sl)) Q E s := by
  have htake : sizeOk (.seq items.toList.reverse.toArray) := by
    show items.toList.reverse.toArray.size ≤ sizeLine
    rw [List.size_toArray, List.length_reverse, Array.length_toList]
    exact hsz
  obtain ⟨os, hos, hcs, hds⟩ := id hs
  have hTs : s.TypeIs (.ref sl) "slice" := ⟨os, hos, hcs⟩
  unfold getItem
  try with_reducible refine wpAny_holding ?_
  first | refine wpAny_bind (wpAny_pure ?_) | skip
  refine wpAny_bind (wpAny_sequenceKey ht.typeIs (by decide) ?_)
  refine wpAny_bind (wpAny_callSpecial?_slot (name := Str.ofString "__getitem__") ht.typeIs PyProof.Rows.slot_tuple_getitem
    (wpAny_call_entry PyProof.Rows.slot_tuple_getitem ht.typeIs entry_tuple_getitem ?_ (args_tuple_getitem _ _)))
  show wpAny _ _ (Builtin.Tuple.tupleItemsOf (.ref t) >>= _) _ _ s
  refine wpAny_bind (tupleItemsOf_ ht ?_)
  refine wpAny_bind (wpAny_typeOf hTs ?_)
  rw [if_pos (by decide)]
  refine wpAny_bind (sliceApplied_back hs pl pu ps ?_)
  show wpAny _ _ (if ((((items.size : Int) - 1)) == 0 && (-1 : Int) == 1 && items.size == items.size) = true then _ else _) _ _ s
  rw [if_neg (by simp), pick_back]
  first
    | exact wpAny_bind (m := Builtin.Tuple.tupleExact _) (wpAny_newObj_type (wpAny_pure ⟨_, rfl, wpAny_pure h⟩) htake)
    | exact wpAny_bind (m := Builtin.Tuple.tupleExact _) (wpAny_newObj_type (wpAny_bind (wpAny_pure (wpAny_pure ⟨_, rfl, wpAny_pure h⟩))) htake)
    | exact wpAny_bind (wpAny_bind (m := Builtin.Tuple.tupleExact _) (wpAny_newObj_type (wpAny_pure (wpAny_pure ⟨_, rfl, wpAny_pure h⟩)) htake))
    | exact wpAny_bind (wpAny_bind (m := Builtin.Tuple.tupleExact _) (wpAny_newObj_type (wpAny_pure ⟨_, rfl, wpAny_pure h⟩) htake))
end
end HT
namespace Cn
open PySem PySem.Spec PyProof.Rows L2 Evl
section
variable {X : Cx}
/-- t[::-1] -/
def tRevT (K : PySem.W.Frag) (te : TE) : TE := fun σ H Q => te σ H fun x H1 => ∃ a xs, x = .ref a ∧ SqT K H1 a xs ∧ ∀ p, H1 p = none → Q (.ref p) (upd H1 p (.tup xs.reverse))
theorem vals_rev : ∀ {xs : List V} {us : List Value}, Vals xs us → Vals xs.reverse us.reverse
  | _, _, .nil => .nil
  | _, _, .cons r t => by
    rw [List.reverse_cons, List.reverse_cons]
    exact Vals.append (vals_rev t) (.cons r .nil)
/-- str(int), str(bool) -/
def rStrV : List V → Hp → VK → Prop := fun xs H Q => (∃ i, xs = [.int i] ∧ i.natAbs.log2 < 1920 ∧ Q (.str (toString i)) H) ∨ ∃ b, xs = [.bl b] ∧ Q (.str (if b then "True" else "False")) H
end
end Cn

namespace Cn
open PySem PySem.Spec PyProof.Rows L2 Evl
/-! ### enumerate(tuple) -/
def IteT (K : PySem.W.Frag) (a : Addr) : It :=
  ⟨fun i H => ∃ (xs : List V) (x : V), SqT K H a xs ∧ xs[i]? = some x, fun i H v H' => ∃ T x, v = .ref T ∧ H T = none ∧ H' = upd H T (.tup [.int (i : Nat), x]) ∧ ∀ xs, SqT K H a xs → xs[i]? = some x, fun i H => ∃ xs : List V, SqT K H a xs ∧ xs.length ≤ i⟩
def iEnumT (K : PySem.W.Frag) (ta : TA) : TI := fun σ H R => ta σ H fun vs H1 => ∃ a xs, vs = [.ref a] ∧ SqT K H1 a xs ∧ R (IteT K a) H1
end Cn

namespace Cn
open PySem PySem.Spec PyProof.Rows L2 Evl
/-! ### rules that name K, and arithmetic of bools -/
section
variable {X : Cx} {K : PySem.W.Frag}
/-- a tuple and the empty one -/
def rNe0 (K : PySem.W.Frag) (neg : Bool) : R2 := fun x y H Q => ∃ a b xs, x = .ref a ∧ y = .ref b ∧ SqT K H a xs ∧ SqT K H b [] ∧ Q (.bl (neg != xs.isEmpty)) H
/-- an int or a bool, as a number -/
def nbV : V → Option Int
  | .int i => some i
  | .bl b => some (if b = true then 1 else 0)
  | _ => none
def rNb (f : Int → Int → Int) : R2 := fun x y H Q => ∃ i j, nbV x = some i ∧ nbV y = some j ∧ ((∃ k, x = .int k) ∨ ∃ k, y = .int k) ∧ Q (.int (f i j)) H
end
/-! ### kinds -/
def tyN : PyData → String
  | .none => "NoneType"
  | .bool _ => "bool"
  | .int _ => "int"
  | .str _ => "str"
  | .list _ => "list"
  | .tuple _ => "tuple"
  | .dict _ => "dict"
def isI : PyData → Bool
  | .int _ => true
  | .bool _ => true
  | _ => false
def isB : PyData → Bool
  | .bool _ => true
  | _ => false
def isT : PyData → Bool
  | .tuple _ => true
  | _ => false
theorem kit_int (d : PyData) : kitB (tyN d) "int" = some (isI d) := by cases d <;> simp only [tyN, isI] <;> decide +kernel
theorem kit_bool (d : PyData) : kitB (tyN d) "bool" = some (isB d) := by cases d <;> simp only [tyN, isB] <;> decide +kernel
theorem kit_tuple (d : PyData) : kitB (tyN d) "tuple" = some (isT d) := by cases d <;> simp only [tyN, isT] <;> decide +kernel
theorem Tp.tyx {K : PySem.W.Frag} {H : Hp} {v : V} {d : PyData} (h : Tp H v d) : TyX K H v (.type (tyN d)) := by
  cases h with
  | non => exact .base .non
  | bl b => exact .base (.bl b)
  | int i => exact .base (.int i)
  | str x => exact .base (.str x)
  | tup h _ =>
    rcases h with h | ⟨o, h⟩
    · exact .base (.tup h)
    · exact .fTuple h
  | lst h _ _ => exact .base (.frz h)
  | dic h _ => exact .fDict h
def nbD : PyData → Int
  | .int i => i
  | .bool b => if b = true then 1 else 0
  | _ => 0
theorem Tp.nb {H : Hp} {v : V} {d : PyData} (h : Tp H v d) (i : isI d = true) : nbV v = some (nbD d) := by
  cases h <;> simp [isI] at i <;> rfl
section
variable {K : PySem.W.Frag} {σ : L2.St} {H H' : Hp} {ta tb te tc : TE} {v : V} {d e : PyData} {ds es : List PyData}
theorem TpAll.drop : ∀ {xs : List V} {ds : List PyData} (n : Nat), TpAll H xs ds → TpAll H (xs.drop n) (ds.drop n)
  | _, _, 0, h => h
  | _, _, _ + 1, .nil => .nil
  | _, _, n + 1, .cons _ b => b.drop n
theorem TpAll.reverse : ∀ {xs : List V} {ds : List PyData}, TpAll H xs ds → TpAll H xs.reverse ds.reverse
  | _, _, .nil => .nil
  | _, _, .cons a b => by
    rw [List.reverse_cons, List.reverse_cons]
    exact (TpAll.reverse b).append (.cons a .nil)
def cutD (ds : List PyData) (lo hi : Option Int) : List PyData := (ds.drop (HT.sIx ds.length 0 lo)).take (HT.sIx ds.length ds.length hi - HT.sIx ds.length 0 lo)
/-- str(int), str(bool) -/
def sxD : PyData → Str
  | .int i => toString i
  | .bool b => if b then "True" else "False"
  | _ => ""
end
end Cn

namespace Cn
open PySem PySem.Spec PyProof.Rows L2 Evl
/-! ### gardens and their errors, as functions of any value -/
def isN (d : PyData) : Bool := isI d && !isB d
def inI (lo hi : Int) : PyData → Bool
  | .int i => decide (lo ≤ i) && decide (i ≤ hi)
  | _ => false
def fromI (lo : Int) : PyData → Bool
  | .int i => decide (lo ≤ i)
  | _ => false
def tupN (n : Int) : PyData → Bool
  | .tuple ds => decide ((ds.length : Int) = n)
  | _ => false
def bedOk : PyData → Bool
  | .tuple [p, l] => inI (-1000000) 1000000 p && inI 1 1000000000 l
  | _ => false
def placeOf : PyData → Int
  | .tuple (.int p :: _) => p
  | _ => 0
def bedErr (i : Nat) : PyData := .tuple [.int i, .str "bed"]
def berr : Nat → Int → List PyData → PyData
  | _, _, [] => .none
  | i, b, d :: ds => if bedOk d = true ∧ b < placeOf d then berr (i + 1) (placeOf d) ds else bedErr i
def firstOf : PyData → PyData
  | .tuple (p :: _) => p
  | _ => .none
def gErr (x : Str) : PyData := .tuple [.none, .str x]
def gerr : PyData → PyData
  | .tuple [t, c, b] => if inI (-1000000) 1000000 t = true then if inI 1 1000000 c = true then match b with
      | .tuple ds => if ds.length ≤ 12 then berr 0 (-1000001) ds else gErr "beds"
      | _ => gErr "beds"
    else gErr "can" else gErr "tap"
  | _ => gErr "garden"
def isNone : PyData → Bool
  | .none => true
  | _ => false
section
variable {t c b : PyData}
end
/-- the place ahead of the k-th bed -/
def befP (ds : List PyData) : Nat → Int
  | 0 => -1000001
  | k + 1 => match ds[k]? with | some d => placeOf d | none => 0
/-- the first k beds are right -/
def Fine (ds : List PyData) (k : Nat) : Prop := berr 0 (-1000001) ds = berr k (befP ds k) (ds.drop k) ∧ ∀ j, j < k → ∃ d, ds[j]? = some d ∧ bedOk d = true
theorem Fine.next {ds : List PyData} {k : Nat} {d : PyData} (h : Fine ds k) (hd : ds[k]? = some d) (ok : bedOk d = true) (lt : befP ds k < placeOf d) : Fine ds (k + 1) := by
  have hk : k < ds.length := (List.getElem?_eq_some_iff.mp hd).1
  have e : ds.drop k = d :: ds.drop (k + 1) := by
    rw [List.drop_eq_getElem_cons hk, (List.getElem?_eq_some_iff.mp hd).2]
  refine ⟨?_, fun j hj => ?_⟩
  · rw [h.1, e, berr, if_pos ⟨ok, lt⟩]
    simp only [befP, hd]
  · by_cases hjk : j = k
    · subst hjk
      exact ⟨d, hd, ok⟩
    · exact h.2 j (by omega)
theorem Fine.last {ds : List PyData} {k : Nat} (h : Fine ds k) (hk : ds.length ≤ k) : berr 0 (-1000001) ds = .none := by
  rw [h.1, List.drop_eq_nil_iff.mpr hk, berr]
end Cn

namespace Cn
open PySem PySem.Spec PyProof.Rows L2 Evl
section
variable {σ : L2.St} {H : Hp}
theorem pow39 : (10 : Int) ^ (39 : Int).toNat = 1000000000000000000000000000000000000000 := by decide
end
/-! ### values of other kinds that are drawn -/
def oddA : List PyData := [.none, .bool true, .bool false, .int (-1), .int 0, .int 1, .int 1000000, .int 1000001, .int 1000000000000000000000000000000000000000, .str "", .str "1", .tuple [], .list [], .dict [], .tuple [.int 0], .list [.int 1], .tuple [.bool true]]
def oddB : List PyData := [.tuple [.int 0, .int 1], .tuple [.tuple [.int 0, .int 1]], .tuple [.int 0, .int 1, .tuple []], .tuple [.tuple [.tuple [.int 0, .int 1]], .int 1], .tuple [.tuple []], .dict [(.str "a", .int 1)], .int (-1000000)]
def oddL : List PyData := oddA ++ oddB
def spOdd : Sp := fun vs H Q _ => ∃ D C m, vs = [.ref D] ∧ Deck D C m H ∧ m ≤ 900000000 ∧ ∀ v d H', d ∈ oddL → Tp H' v d → Kp D C H H' → Deck D C (m + 1) H' → Q v H'
def spPart (n : Nat) : Sp := fun vs H Q _ => ∃ D C m v d, ∃ k B kk nn : Nat, vs = [.ref D, v, .int k] ∧ k ≤ n ∧ Deck D C m H ∧ m + 2 * k ≤ 800000000 ∧ Tp H v d ∧ 10 ^ 39 ≤ B ∧ B ≤ 10 ^ 39 + 5 ∧ Sz B kk nn d ∧ kk ≤ 100000 ∧
  ∀ v' d' H', Sz (B + 1) (2 * kk + 2000) (nn + 4) d' → Tp H' v' d' → Kp D C H H' → Deck D C (m + 2 * k + 3) H' → Q v' H'
/-! ### what a changed part may be -/
section
variable {B k n : Nat} {d : PyData} {ds : List PyData}
/-- the seven things that become of an int (or a bool) -/
def intVar (d : PyData) : List PyData := [.int (nbD d + 1), .int (nbD d - 1), .int (0 - nbD d), .bool (PyData.eqv d (.int 1)), .str (sxD d), .tuple [d], .int 0]
/-- the seven things that become of a tuple -/
def tupVar (ds : List PyData) : List PyData := [.tuple (cutD ds (some 1) none), .tuple (cutD ds none (some (-1))), .tuple (ds ++ cutD ds (some (-1)) none), .tuple ds.reverse, .list ds, .tuple (ds ++ [.int 0]), .tuple []]
end
end Cn

namespace Cb
open PySem PySem.Spec PyProof.Rows L2 Evl Cn
theorem op_fdivB {X : Cx} : OpR X (binaryOp .FloorDiv) (rI (fun _ j => 0 < j ∧ j < 4611686018427387904) fun i j => .int (i / j)) := opI fun i j _ _ _ _ _ hc q => by
  have h1 : (0 : Int) < j := hc.1
  have h2 : j < 4611686018427387904 := hc.2
  have h62 : (2 : Nat) ^ 62 = 4611686018427387904 := by decide
  have h3 : j.natAbs.log2 < 62 := (Nat.log2_lt (by omega)).mpr (by omega)
  exact floordiv_int (by omega) (by rw [Int.fdiv_eq_ediv_of_nonneg i (by omega)]; exact q) (.inl (PyProof.noPylong_of_log2 (by omega)))
/-! ### any state that numbers are drawn from: M its own objects -/
def Kp (M : Addr → Prop) (H H' : Hp) : Prop := ∀ a o, ¬ M a → H a = some o → H' a = some o
section
variable {M : Addr → Prop} {H H1 H2 : Hp}
theorem Kp.refl : Kp M H H := fun _ _ _ h => h
theorem Kp.trans (a : Kp M H H1) (b : Kp M H1 H2) : Kp M H H2 := fun p o n h => b p o n (a p o n h)
theorem Kp.ex (e : Ex H H1) : Kp M H H1 := fun p o _ h => e p o h
theorem Kp.set {p : Addr} {o : HO} (h : M p) : Kp M H (upd H p o) := fun a u n e => by
  rw [upd_ne (fun z => n (by rw [z]; exact h))]
  exact e
theorem Kp.mut {p : Addr} {o : HO} (k : Kp M H H1) (h : H p = none) : Kp M H (upd H1 p o) := fun a u n e => by
  rw [upd_ne (ne_of_none e h)]
  exact k a u n e
theorem Kp.back (k : Kp M H H1) {p : Addr} (n : ¬ M p) (h : H1 p = none) : H p = none := by
  cases e : H p with
  | none => rfl
  | some o => rw [k p o n e] at h; cases h
end
structure Drw (M : Addr → Prop) (Dk : Int → Hp → Prop) : Prop where
  ex : ∀ {m H H1}, Ex H H1 → Dk m H → Dk m H1
  mono : ∀ {m m' H}, m ≤ m' → Dk m H → Dk m' H
  put : ∀ {m H p o}, ¬ M p → Dk m H → Dk m (upd H p o)
  lst : ∀ {m H a}, M a → Dk m H → ∃ xs, H a = some (.lst xs)
section
variable {M : Addr → Prop} {Dk : Int → Hp → Prop} {m : Int} {H H1 : Hp}
theorem Drw.free (w : Drw M Dk) (d : Dk m H) {p : Addr} (hp : H p = none) : ¬ M p := fun z => by
  obtain ⟨xs, h⟩ := w.lst z d
  rw [h] at hp
  cases hp
theorem Drw.tk (w : Drw M Dk) (d : Dk m H) (k : Kp M H H1) : Tk H H1 := by
  refine ⟨fun a xs h => ?_, fun a o u h => k a _ (fun z => by
    obtain ⟨ys, h'⟩ := w.lst z d
    exact ne_of h h' (by intro z; cases z) rfl) h⟩
  have n : ¬ M a := fun z => by
    obtain ⟨ys, h'⟩ := w.lst z d
    exact rd_ne h h' rfl
  rcases h with h | ⟨z, h⟩
  · exact .inl (k a _ n h)
  · exact .inr ⟨z, k a _ n h⟩
end
/-! ### evaluation that draws -/
def DrJ (M : Addr → Prop) (Dk : Int → Hp → Prop) (J : Hp → Prop) (te : TE) (σ : L2.St) (m m' : Int) (R : Int → Prop) : Prop := ∀ H1, Dk m H1 → J H1 → ∀ Q : VK, (∀ i H2, Kp M H1 H2 → Dk m' H2 → J H2 → R i → Q (.int i) H2) → te σ H1 Q
def DrK (M : Addr → Prop) (Dk : Int → Hp → Prop) (J : Hp → Prop) (ta : TA) (σ : L2.St) (m m' : Int) (n : Nat) (R : Int → Prop) : Prop := ∀ H1, Dk m H1 → J H1 → ∀ Q : List V → Hp → Prop, (∀ (is : List Int) H2, Kp M H1 H2 → Dk m' H2 → J H2 → is.length = n → (∀ i ∈ is, R i) → Q (is.map V.int) H2) → ta σ H1 Q
def Sta (M : Addr → Prop) (J : Hp → Prop) : Prop := ∀ H H', J H → Kp M H H' → J H'
section
variable {M : Addr → Prop} {Dk : Int → Hp → Prop} {K : PySem.W.Frag} {J : Hp → Prop} {σ : L2.St} {m m1 m2 : Int} {R R1 R2 : Int → Prop} {ta tb te : TE} {n : Nat}
end
/-! ### the state of _law_draws: cells, count, rests -/
structure StN (S C R : Addr) (n : Int) (cs rs : List Int) (H : Hp) : Prop where
  hS : H S = some (.lst [.ref C, .int n, .ref R])
  hC : H C = some (.lst (cs.map V.int))
  hR : H R = some (.lst (rs.map V.int))
def MS (S C R : Addr) (a : Addr) : Prop := a = S ∨ a = C ∨ a = R
def SD (S C R : Addr) (m : Int) (H : Hp) : Prop := ∃ n cs rs, StN S C R n cs rs H ∧ S ≠ C ∧ S ≠ R ∧ C ≠ R ∧ 0 ≤ n ∧ n ≤ m ∧ cs.length = rs.length ∧ 1 ≤ cs.length ∧ cs.length ≤ 63 ∧ True ∧ ∀ x ∈ rs, 0 ≤ x
theorem StN.ex {S C R : Addr} {n : Int} {cs rs : List Int} {H H1 : Hp} (e : Ex H H1) (d : StN S C R n cs rs H) : StN S C R n cs rs H1 := ⟨e _ _ d.hS, e _ _ d.hC, e _ _ d.hR⟩
theorem drw {S C R : Addr} : Drw (MS S C R) (SD S C R) where
  ex := fun e ⟨n, cs, rs, d, r⟩ => ⟨n, cs, rs, d.ex e, r⟩
  mono := fun h ⟨n, cs, rs, d, a, b, c, n0, nm, r⟩ => ⟨n, cs, rs, d, a, b, c, n0, by omega, r⟩
  put := fun {m H p o} np ⟨n, cs, rs, d, r⟩ => ⟨n, cs, rs, ⟨by rw [upd_ne (fun z => np (.inl z.symm))]; exact d.hS, by rw [upd_ne (fun z => np (.inr (.inl z.symm)))]; exact d.hC, by rw [upd_ne (fun z => np (.inr (.inr z.symm)))]; exact d.hR⟩, r⟩
  lst := fun {m H a} ma ⟨n, cs, rs, d, r⟩ => by
    rcases ma with rfl | rfl | rfl
    · exact ⟨_, d.hS⟩
    · exact ⟨_, d.hC⟩
    · exact ⟨_, d.hR⟩
/-- _law_next -/
def spNext : Sp := fun vs H Q _ => ∃ S C R m k, vs = [.ref S, .int k] ∧ SD S C R m H ∧ m ≤ 10000000 ∧ 1 ≤ k ∧ k ≤ 1000000000000000001 ∧ ∀ r H', 0 ≤ r → r < k → Kp (MS S C R) H H' → SD S C R (m + 1) H' → Q (.int r) H'
/-- _law_draws -/
def spDraws (K : PySem.W.Frag) : Sp := fun vs H Q _ => ∃ (a : Addr) (ns : List Int), vs = [.ref a] ∧ SqL K H a (ns.map V.int) ∧ ns.length ≤ 63 ∧ ∀ S C R H', Ex H H' → SD S C R 0 H' → Q (.ref S) H'
/-- _law_one -/
def spOne : Sp := fun vs H Q _ => ∃ S C R m L xs, vs = [.ref S, .ref L] ∧ SD S C R m H ∧ m ≤ 9500000 ∧ H L = some (.lst xs) ∧ ¬ MS S C R L ∧ 1 ≤ xs.length ∧ xs.length ≤ 1000 ∧ ∀ v H', v ∈ xs → Kp (MS S C R) H H' → SD S C R (m + 1) H' → Q v H'
/-- _law_garden of this kind -/
structure G2 (most : Int) (t c : Int) (bs : List Bed) : Prop where
  t0 : -1000000 ≤ t
  t1 : t ≤ 1000000
  c0 : 1 ≤ c
  c1 : c ≤ 1000000
  asc : Asc (bs.map (·.1))
  p0 : ∀ b ∈ bs, -1000000 ≤ b.1
  p1 : ∀ b ∈ bs, b.1 ≤ 1000000
  l0 : ∀ b ∈ bs, 1 ≤ b.2
  l1 : ∀ b ∈ bs, b.2 ≤ 1000000000
  few : (bs.length : Int) ≤ most
def spGarden2 : Sp := fun vs H Q _ => ∃ S C R m most way, vs = [.ref S, .int most, .int way] ∧ SD S C R m H ∧ m ≤ 9000000 ∧ 1 ≤ most ∧ most ≤ 12 ∧ 0 ≤ way ∧
  ∀ v t c bs H', G2 most t c bs → (way % 3 ≠ 2 → ∀ b ∈ bs, b.2 ≤ 27) → GAt H' v t c bs → Kp (MS S C R) H H' → SD S C R (m + 100) H' → Q v H'
end Cb

namespace Wp
open PySem PySem.Spec PyProof.Rows L2 Evl
/-! ### data: what never changes -/
def keyD : Key → PyData
  | .inl i => .int i
  | .inr x => .str x
/-- a reference to an object, as data that has no text and is not plain -/
def refN : Int := 2 ^ 100000
def refD (a : Addr) : PyData := .dict [(.none, .int (refN + (a : Int)))]
mutual
/-- no reference within -/
def nob : PyData → Bool
  | .list xs => nobAll xs
  | .tuple xs => nobAll xs
  | .dict kvs => nobKv kvs
  | .none => true
  | .bool _ => true
  | .int _ => true
  | .str _ => true
def nobAll : List PyData → Bool
  | [] => true
  | x :: xs => nob x && nobAll xs
def nobKv : List (PyData × PyData) → Bool
  | [] => true
  | (k, v) :: r => (match k, v with
    | .none, .int i => decide (i < refN)
    | _, _ => nob v) && nobKv r
end
theorem nob_ref (a : Addr) : nob (refD a) = false := by
  unfold refD nob nobKv
  simp only [Bool.and_eq_false_iff, decide_eq_false_iff_not]
  exact .inl (by omega)
/-- a reference -/
def isRf : PyData → Bool
  | .dict [(.none, .int i)] => decide (refN ≤ i)
  | _ => false
theorem isRf_ref (a : Addr) : isRf (refD a) = true := by
  unfold refD isRf
  exact decide_eq_true (by omega)
theorem isRf_n : (isRf .none = false) = True := by simp [isRf]
theorem isRf_b {c : Bool} : (isRf (.bool c) = false) = True := by simp [isRf]
theorem isRf_i {i : Int} : (isRf (.int i) = false) = True := by simp [isRf]
theorem isRf_s {x : Str} : (isRf (.str x) = false) = True := by simp [isRf]
theorem isRf_l {ds : List PyData} : (isRf (.list ds) = false) = True := by simp [isRf]
theorem isRf_t {ds : List PyData} : (isRf (.tuple ds) = false) = True := by simp [isRf]
theorem ref_inj {a a' : Addr} (h : refD a = refD a') : a = a' := by
  unfold refD at h
  simp only [PyData.dict.injEq, List.cons.injEq, Prod.mk.injEq, PyData.int.injEq, and_true, true_and] at h
  exact Int.ofNat.inj (Int.add_left_cancel h)
theorem nob_at {k v : PyData} {r : List (PyData × PyData)} (h : nobKv ((k, v) :: r) = true) : nob v = true ∧ nobKv r = true := by
  unfold nobKv at h
  rw [Bool.and_eq_true] at h
  refine ⟨?_, h.2⟩
  have h1 := h.1
  cases k <;> cases v <;> first | exact h1 | rfl
theorem nob_zip : ∀ {ks ds : List PyData}, nobKv (ks.zip ds) = true → ds.length ≤ ks.length → ∀ d ∈ ds, nob d = true
  | [], [], _, _, d, hd => nomatch hd
  | [], _ :: _, _, h, _, _ => by simp at h
  | _ :: _, [], _, _, d, hd => nomatch hd
  | k :: ks, e :: ds, h, l, d, hd => by
    rw [List.zip_cons_cons] at h
    obtain ⟨h1, h2⟩ := nob_at h
    rcases List.mem_cons.mp hd with rfl | hd
    · exact h1
    · exact nob_zip h2 (by simpa using l) d hd
mutual
theorem nob_plain : ∀ d : PyData, d.plain = true → nob d = true
  | .none, _ => by simp only [nob]
  | .bool _, _ => by simp only [nob]
  | .int _, _ => by simp only [nob]
  | .str _, _ => by simp only [nob]
  | .list xs, h => by simp only [nob]; exact nobAll_plain xs (by simpa only [PyData.plain] using h)
  | .tuple xs, h => by simp only [nob]; exact nobAll_plain xs (by simpa only [PyData.plain] using h)
  | .dict _, h => by simp [PyData.plain] at h
theorem nobAll_plain : ∀ ds : List PyData, PyData.plainAll ds = true → nobAll ds = true
  | [], _ => by simp only [nobAll]
  | d :: ds, h => by
    simp only [PyData.plainAll, Bool.and_eq_true] at h
    simp only [nobAll, Bool.and_eq_true]
    exact ⟨nob_plain d h.1, nobAll_plain ds h.2⟩
end
mutual
inductive Dt (H : Hp) : V → PyData → Prop
  | non : Dt H .non .none
  | bl (b : Bool) : Dt H (.bl b) (.bool b)
  | int (i : Int) : Dt H (.int i) (.int i)
  | str (x : Str) : Dt H (.str x) (.str x)
  | rf (a : Addr) : Dt H (.ref a) (refD a)
  | tup {a : Addr} {o : Obj} {xs : List V} {ds : List PyData} : H a = some (.frz o (.tup xs)) → o.dict = none → DtAll H xs ds → Dt H (.ref a) (.tuple ds)
  | lst {a : Addr} {o : Obj} {xs : List V} {ds : List PyData} : H a = some (.frz o (.lst xs)) → DtAll H xs ds → Dt H (.ref a) (.list ds)
  | dic {a : Addr} {o : Obj} {kvs : List (Key × V)} {vs : List V} {ds : List PyData} : H a = some (.frz o (.dK kvs)) → vs = kvs.map (·.2) → DtAll H vs ds → Dt H (.ref a) (.dict ((kvs.map fun p => keyD p.1).zip ds))
inductive DtAll (H : Hp) : List V → List PyData → Prop
  | nil : DtAll H [] []
  | cons {v : V} {vs : List V} {d : PyData} {ds : List PyData} : Dt H v d → DtAll H vs ds → DtAll H (v :: vs) (d :: ds)
end
/-- what is locked stays -/
def Fk (H H' : Hp) : Prop := ∀ a o u, H a = some (.frz o u) → H' a = some (.frz o u)
theorem Fk.ex {H H' : Hp} (e : Ex H H') : Fk H H' := fun a _ _ h => e a _ h
theorem Fk.trans {H H1 H2 : Hp} (a : Fk H H1) (b : Fk H1 H2) : Fk H H2 := fun p o u h => b p o u (a p o u h)
mutual
theorem Dt.mono {H H' : Hp} (k : Fk H H') : ∀ {d : PyData} {v : V}, Dt H v d → Dt H' v d
  | _, _, .non => .non
  | _, _, .bl b => .bl b
  | _, _, .int i => .int i
  | _, _, .str x => .str x
  | _, _, .rf a => .rf a
  | _, _, .tup h n a => .tup (k _ _ _ h) n (DtAll.mono k a)
  | _, _, .lst h a => .lst (k _ _ _ h) (DtAll.mono k a)
  | _, _, .dic h e a => .dic (k _ _ _ h) e (DtAll.mono k a)
theorem DtAll.mono {H H' : Hp} (k : Fk H H') : ∀ {ds : List PyData} {vs : List V}, DtAll H vs ds → DtAll H' vs ds
  | _, _, .nil => .nil
  | _, _, .cons a b => .cons (Dt.mono k a) (DtAll.mono k b)
end
section
variable {H H' : Hp}
theorem Dt.tup_inv {v : V} {ds : List PyData} (h : Dt H v (.tuple ds)) : ∃ a o xs, v = .ref a ∧ H a = some (.frz o (.tup xs)) ∧ o.dict = none ∧ DtAll H xs ds := by
  cases h with
  | tup a n b => exact ⟨_, _, _, rfl, a, n, b⟩
theorem Dt.lst_inv {v : V} {ds : List PyData} (h : Dt H v (.list ds)) : ∃ a o xs, v = .ref a ∧ H a = some (.frz o (.lst xs)) ∧ DtAll H xs ds := by
  cases h with
  | lst a b => exact ⟨_, _, _, rfl, a, b⟩
theorem Dt.rf_inv {v : V} {a : Addr} (h : Dt H v (refD a)) : v = .ref a := by
  generalize hd : refD a = d at h
  cases h with
  | rf a' => rw [ref_inj hd]
  | @dic a' o kvs vs ds h1 h2 h3 =>
    unfold refD at hd
    injection hd with hd
    cases kvs with
    | nil => simp at hd
    | cons kv kvs =>
      cases ds with
      | nil => simp at hd
      | cons e ds =>
        simp only [List.map_cons, List.zip_cons_cons, List.cons.injEq, Prod.mk.injEq] at hd
        obtain ⟨⟨h1, _⟩, _⟩ := hd
        rcases kv with ⟨k, _⟩
        cases k <;> cases h1
  | _ => unfold refD at hd; cases hd
theorem DtAll.length : ∀ {xs : List V} {ds : List PyData}, DtAll H xs ds → xs.length = ds.length
  | _, _, .nil => rfl
  | _, _, .cons _ b => by simp [b.length]
theorem DtAll.get : ∀ {xs : List V} {ds : List PyData} {i : Nat} {v : V}, DtAll H xs ds → xs[i]? = some v → ∃ d, ds[i]? = some d ∧ Dt H v d
  | _, _, _, _, .nil, e => by simp at e
  | _, _, 0, _, .cons a _, e => by simp at e; subst e; exact ⟨_, rfl, a⟩
  | _, _, i + 1, _, .cons _ b, e => by
    obtain ⟨v, h1, h2⟩ := b.get (i := i) (by simpa using e)
    exact ⟨v, by simpa using h1, h2⟩
theorem DtAll.getD : ∀ {xs : List V} {ds : List PyData} {i : Nat} {d : PyData}, DtAll H xs ds → ds[i]? = some d → ∃ v, xs[i]? = some v ∧ Dt H v d
  | _, _, _, _, .nil, e => by simp at e
  | _, _, 0, _, .cons a _, e => by simp at e; subst e; exact ⟨_, rfl, a⟩
  | _, _, i + 1, _, .cons _ b, e => by
    obtain ⟨v, h1, h2⟩ := b.getD (i := i) (by simpa using e)
    exact ⟨v, by simpa using h1, h2⟩
theorem DtAll.append : ∀ {xs ys : List V} {ds es : List PyData}, DtAll H xs ds → DtAll H ys es → DtAll H (xs ++ ys) (ds ++ es)
  | _, _, _, _, .nil, b => b
  | _, _, _, _, .cons a r, b => .cons a (r.append b)
theorem DtAll.take : ∀ {xs : List V} {ds : List PyData} (n : Nat), DtAll H xs ds → DtAll H (xs.take n) (ds.take n)
  | _, _, 0, _ => .nil
  | _, _, _ + 1, .nil => .nil
  | _, _, n + 1, .cons a b => .cons a (b.take n)
theorem DtAll.drop : ∀ {xs : List V} {ds : List PyData} (n : Nat), DtAll H xs ds → DtAll H (xs.drop n) (ds.drop n)
  | _, _, 0, h => h
  | _, _, _ + 1, .nil => .nil
  | _, _, n + 1, .cons _ b => b.drop n
theorem DtAll.reverse : ∀ {xs : List V} {ds : List PyData}, DtAll H xs ds → DtAll H xs.reverse ds.reverse
  | _, _, .nil => .nil
  | _, _, .cons a b => by
    rw [List.reverse_cons, List.reverse_cons]
    exact (DtAll.reverse b).append (.cons a .nil)
theorem DtAll.ints : ∀ ns : List Int, DtAll H (ns.map V.int) (ns.map PyData.int)
  | [] => .nil
  | n :: ns => .cons (.int n) (DtAll.ints ns)
theorem DtAll.ints_inv : ∀ {ns : List Int} {xs : List V}, DtAll H xs (ns.map PyData.int) → xs = ns.map V.int
  | [], _, h => by cases h; rfl
  | n :: ns, _, h => by
    cases h with
    | cons a b => cases a; rw [List.map_cons, b.ints_inv]
theorem DtAll.mem : ∀ {xs : List V} {ds : List PyData} {v : V}, DtAll H xs ds → v ∈ xs → ∃ d ∈ ds, Dt H v d
  | _, _, _, .nil, e => nomatch e
  | _, _, _, .cons a b, e => by
    rcases List.mem_cons.mp e with rfl | e
    · exact ⟨_, List.mem_cons_self .., a⟩
    · obtain ⟨d, h1, h2⟩ := b.mem e
      exact ⟨d, List.mem_cons_of_mem _ h1, h2⟩
end
/-- where all stand: how many numbers were drawn, the objects that may change: class and fields -/
structure Bt where
  n : Nat
  os : Addr → Option (Addr × List (Str × PyData))
def Bt.zero : Bt := ⟨0, fun _ => none⟩
def Bt.tick (b : Bt) : Bt := ⟨b.n + 1, b.os⟩
/-- some numbers were drawn, at most c; the objects stand as before -/
structure Dr (b b2 : Bt) (c : Nat) : Prop where
  n : b2.n ≤ b.n + c
  os : b2.os = b.os
theorem Dr.refl {b : Bt} {c : Nat} : Dr b b c := ⟨by omega, rfl⟩
theorem Dr.tick {b : Bt} : Dr b b.tick 1 := ⟨Nat.le_refl _, rfl⟩
theorem Dr.trans {b b1 b2 : Bt} {c d e : Nat} (h : Dr b b1 c) (h' : Dr b1 b2 d) (l : c + d ≤ e := by omega) : Dr b b2 e := ⟨by have := h.n; have := h'.n; omega, h'.os.trans h.os⟩
theorem Dr.mono {b b1 : Bt} {c e : Nat} (h : Dr b b1 c) (l : c ≤ e := by omega) : Dr b b1 e := ⟨by have := h.n; omega, h.os⟩
def Bt.put (b : Bt) (a C : Addr) (fs : List (Str × PyData)) : Bt := ⟨b.n, fun x => if x = a then some (C, fs) else b.os x⟩
def isIns : HO → Bool
  | .ins _ _ _ => true
  | _ => false
/-- what a write must not meet: what is locked, an object of the state -/
def isFix : HO → Bool
  | .ins _ _ _ => true
  | .frz _ _ => true
  | _ => false
def Loose (H : Hp) (p : Addr) : Prop := ∀ u, H p = some u → isFix u = false
theorem loose_at {H : Hp} {p : Addr} {u : HO} (h : H p = some u) (f : isFix u = false) : Loose H p := fun v e => by rw [h] at e; cases e; exact f
theorem Loose.fk {H : Hp} {p : Addr} {o : HO} (l : Loose H p) : Fk H (upd H p o) := fun a o' u h => by
  rw [upd_ne (fun z => by subst z; have := l _ h; cases this)]
  exact h
def FdR (H : Hp) (x : Str × V) (p : Str × PyData) : Prop := x.1 = p.1 ∧ Dt H x.2 p.2
/-- the objects of a state -/
def Obs (b : Bt) (H : Hp) : Prop := ∀ a C fs, b.os a = some (C, fs) → ∃ dx vs, H a = some (.ins C dx vs) ∧ Paired (FdR H) vs fs
theorem Obs.ex {b : Bt} {H H' : Hp} (e : Ex H H') (h : Obs b H) : Obs b H' := fun a C fs x => by
  obtain ⟨dx, vs, h1, h2⟩ := h a C fs x
  exact ⟨dx, vs, e _ _ h1, Paired.mapP h2 fun x p r => ⟨r.1, r.2.mono (Fk.ex e)⟩⟩
theorem Obs.put {b : Bt} {H : Hp} {p : Addr} {o : HO} (l : Loose H p) (h : Obs b H) : Obs b (upd H p o) := fun a C fs x => by
  obtain ⟨dx, vs, h1, h2⟩ := h a C fs x
  refine ⟨dx, vs, ?_, Paired.mapP h2 fun x p r => ⟨r.1, r.2.mono l.fk⟩⟩
  rw [upd_ne (fun z => by subst z; have := l _ h1; cases this)]
  exact h1
theorem Obs.all {b : Bt} {H H' : Hp} {M : Addr → Prop} (k : ∀ a o, ¬ M a → H a = some o → H' a = some o) (l : ∀ a, M a → ∃ xs, H a = some (.lst xs)) (h : Obs b H) : Obs b H' := fun a C fs x => by
  obtain ⟨dx, vs, h1, h2⟩ := h a C fs x
  have out : ∀ p u, H p = some u → (∀ xs, u ≠ .lst xs) → H' p = some u := fun p u e n => k p u (fun z => by
    obtain ⟨xs, e'⟩ := l p z
    rw [e] at e'
    cases e'
    exact n xs rfl) e
  exact ⟨dx, vs, out _ _ h1 (fun _ z => by cases z), Paired.mapP h2 fun x p r => ⟨r.1, r.2.mono fun a o u e => out _ _ e fun _ z => by cases z⟩⟩
theorem Obs.new {b : Bt} {H : Hp} {a C : Addr} {fs : List (Str × PyData)} (h : Obs b H) (n : ∃ dx vs, H a = some (.ins C dx vs) ∧ Paired (FdR H) vs fs) : Obs (b.put a C fs) H := fun x D gs e => by
  by_cases z : x = a
  · subst z
    simp only [Bt.put, if_true] at e
    cases e
    exact n
  · simp only [Bt.put, if_neg z] at e
    exact h x D gs e
theorem Obs.chg {b : Bt} {H : Hp} {a C dx : Addr} {vs : List (Str × V)} {fs : List (Str × PyData)} (h : Obs b H) (n : ∃ C' dx' vs', H a = some (.ins C' dx' vs')) (f : Paired (FdR H) vs fs) : Obs (b.put a C fs) (upd H a (.ins C dx vs)) := fun x D gs e => by
  obtain ⟨C', dx', vs', hn⟩ := n
  have fk : Fk H (upd H a (.ins C dx vs)) := fun p o u e1 => by
    rw [upd_ne (fun z => by subst z; rw [hn] at e1; cases e1)]
    exact e1
  by_cases z : x = a
  · subst z
    simp only [Bt.put, if_true] at e
    cases e
    exact ⟨dx, vs, upd_same, Paired.mapP f fun x p r => ⟨r.1, r.2.mono fk⟩⟩
  · simp only [Bt.put, if_neg z] at e
    obtain ⟨dx1, vs1, h1, h2⟩ := h x D gs e
    exact ⟨dx1, vs1, by rw [upd_ne z]; exact h1, Paired.mapP h2 fun x p r => ⟨r.1, r.2.mono fk⟩⟩
/-! ### the state that numbers are drawn from -/
/-- all but M stays, the objects but for their fields -/
def Kp (M : Addr → Prop) (H H' : Hp) : Prop := (∀ a o, ¬ M a → isIns o = false → H a = some o → H' a = some o) ∧ ∀ a C dx vs, H a = some (.ins C dx vs) → ∃ vs', H' a = some (.ins C dx vs')
section
variable {M : Addr → Prop} {H H1 H2 : Hp}
theorem Kp.all (k : ∀ a o, ¬ M a → H a = some o → H1 a = some o) (l : ∀ a, M a → ∃ xs, H a = some (.lst xs)) : Kp M H H1 := ⟨fun a o n _ e => k a o n e, fun a C dx vs e => ⟨vs, k a _ (fun z => by
  obtain ⟨xs, e'⟩ := l a z
  rw [e] at e'
  cases e') e⟩⟩
theorem Kp.refl : Kp M H H := ⟨fun _ _ _ _ h => h, fun _ _ _ vs h => ⟨vs, h⟩⟩
theorem Kp.trans (a : Kp M H H1) (b : Kp M H1 H2) : Kp M H H2 := ⟨fun p o n i h => b.1 p o n i (a.1 p o n i h), fun p C dx vs h => by
  obtain ⟨vs1, h1⟩ := a.2 p C dx vs h
  exact b.2 p C dx vs1 h1⟩
theorem Kp.ex (e : Ex H H1) : Kp M H H1 := ⟨fun p o _ _ h => e p o h, fun p C dx vs h => ⟨vs, e p _ h⟩⟩
theorem Kp.mut {p : Addr} {o : HO} (k : Kp M H H1) (h : H p = none) : Kp M H (upd H1 p o) := ⟨fun a u n i e => by
  rw [upd_ne (ne_of_none e h)]
  exact k.1 a u n i e, fun a C dx vs e => by
  rw [upd_ne (ne_of_none e h)]
  exact k.2 a C dx vs e⟩
theorem Kp.back (k : Kp M H H1) {p : Addr} (n : ¬ M p) (h : H1 p = none) : H p = none := by
  cases e : H p with
  | none => rfl
  | some o =>
    cases hi : isIns o with
    | false => rw [k.1 p o n hi e] at h; cases h
    | true =>
      cases o with
      | ins C dx vs =>
        obtain ⟨vs', h'⟩ := k.2 p C dx vs e
        rw [h'] at h
        cases h
      | _ => cases hi
end
/-- the states that the laws draw from: 1, a deck; 2, cells, count and rests -/
def IsK : Nat → Addr → (Addr → Prop) → (Bt → Hp → Prop) → Prop
  | 1, r, M, Dk => ∃ C, (∀ a, M a ↔ (a = r ∨ a = C)) ∧ ∀ m H, Dk m H ↔ (Cn.Deck r C m.n H ∧ Obs m H)
  | 2, r, M, Dk => ∃ C R, (∀ a, M a ↔ Cb.MS r C R a) ∧ ∀ m H, Dk m H ↔ (Cb.SD r C R m.n H ∧ Obs m H)
  | _, _, _, _ => True
structure Wld where
  M : Addr → Prop
  root : Addr
  Dk : Bt → Hp → Prop
  kd : Nat
  isK : IsK kd root M Dk
  ex : ∀ {m : Bt} {H H1 : Hp}, Ex H H1 → Dk m H → Dk m H1
  put : ∀ {m : Bt} {H : Hp} {p : Addr} {o : HO}, ¬ M p → Loose H p → Dk m H → Dk m (upd H p o)
  lst : ∀ {m : Bt} {H : Hp} {a : Addr}, M a → Dk m H → ∃ xs, H a = some (.lst xs)
  obs : ∀ {m : Bt} {H : Hp}, Dk m H → Obs m H
  /-- an object made, an object changed -/
  new : ∀ {m : Bt} {H : Hp} {a C : Addr} {fs : List (Str × PyData)}, Dk m H → (∃ dx vs, H a = some (.ins C dx vs) ∧ Paired (FdR H) vs fs) → Dk (m.put a C fs) H
  chg : ∀ {m : Bt} {H : Hp} {a C dx : Addr} {vs : List (Str × V)} {fs : List (Str × PyData)}, Dk m H → (∃ C' dx' vs', H a = some (.ins C' dx' vs')) → Paired (FdR H) vs fs → Dk (m.put a C fs) (upd H a (.ins C dx vs))
section
variable {W : Wld} {m : Bt} {H H1 : Hp}
theorem Wld.free (d : W.Dk m H) {p : Addr} (hp : H p = none) : ¬ W.M p := fun z => by
  obtain ⟨xs, h⟩ := W.lst z d
  rw [h] at hp
  cases hp
theorem Wld.frz (d : W.Dk m H) {p : Addr} {o : Obj} {u : HO} (hp : H p = some (.frz o u)) : ¬ W.M p := fun z => by
  obtain ⟨xs, h⟩ := W.lst z d
  rw [h] at hp
  cases hp
theorem Wld.fk (d : W.Dk m H) (k : Kp W.M H H1) : Fk H H1 := fun a o u h => k.1 a _ (W.frz d h) rfl h
end
/-- what a name holds: data; an own list; an own dict (int and text keys); the same of a caller; the state -/
inductive Sl where
  | no
  | d (d : PyData)
  | l (ds : List PyData)
  | m (kvs : List (Key × PyData))
  | n (kvs : List (NestedKey × PyData))
  | rl (ds : List PyData)
  | rm (kvs : List (Key × PyData))
  | rn (kvs : List (NestedKey × PyData))
  | s (k : Nat)
  | x (a dd : Addr) (f : Str) (d : PyData) (c : Nat)
  | r (a : Addr)
abbrev Env := List Sl
inductive DtK (H : Hp) : List (Key × V) → List (Key × PyData) → Prop
  | nil : DtK H [] []
  | cons {k : Key} {v : V} {d : PyData} {xs : List (Key × V)} {ds : List (Key × PyData)} : Dt H v d → DtK H xs ds → DtK H ((k, v) :: xs) ((k, d) :: ds)
theorem DtK.mono {H H' : Hp} (k : Fk H H') : ∀ {ds : List (Key × PyData)} {vs : List (Key × V)}, DtK H vs ds → DtK H' vs ds
  | _, _, .nil => .nil
  | _, _, .cons a b => .cons (Dt.mono k a) (DtK.mono k b)
/-- an own list at a, an own dict at a -/
def LsAt (W : Wld) (H : Hp) (a : Addr) (ds : List PyData) : Prop := ¬ W.M a ∧ ∃ xs, H a = some (.lst xs) ∧ DtAll H xs ds
def DcAt (W : Wld) (H : Hp) (a : Addr) (ds : List (Key × PyData)) : Prop := ¬ W.M a ∧ ∃ kvs, H a = some (.dK kvs) ∧ DtK H kvs ds
/-- a dict whose keys are tuples -/
def kOk (k : NestedKey) : Prop := (∀ w w' : World, k.hash w = k.hash w') ∧ k.depth ≤ 8
def NkR (H : Hp) (x : NestedKey × Addr × Value) (p : NestedKey × PyData) : Prop := x.1 = p.1 ∧ kOk p.1 ∧ Dt H (.ref x.2.1) p.1.data ∧ ∃ u, RelV u x.2.2 ∧ Dt H u p.2
theorem NkR.mono {H H' : Hp} (k : Fk H H') {x : NestedKey × Addr × Value} {p : NestedKey × PyData} (h : NkR H x p) : NkR H' x p := by
  obtain ⟨h1, h2, h3, u, h4, h5⟩ := h
  exact ⟨h1, h2, h3.mono k, u, h4, h5.mono k⟩
def NcO (a : Addr) (o : Obj) : HO := .ext fun h => h.get? a = some o
def NcAt (W : Wld) (H : Hp) (a : Addr) (ds : List (NestedKey × PyData)) : Prop := ¬ W.M a ∧ ∃ (o : Obj), H a = some (NcO a o) ∧ (a == sysModules) = false ∧ ∃ (xs : List (NestedKey × Addr × Value)) (es : Array DictEntry) (ep : Nat), o.ExactDict ∧ o.data = .dict es ep ∧ (∀ w : World, es.toList = xs.map fun x => ⟨x.1.hash w, .ref x.2.1, x.2.2⟩) ∧ (xs.map (·.1)).Nodup ∧ Paired (NkR H) xs ds
/-- the dict of a caught error; an object whose fields are data -/
def ExAt (W : Wld) (H : Hp) (dd : Addr) (f : Str) (d : PyData) : Prop := ¬ W.M dd ∧ ∃ u, H dd = some (.xd [(f, u)]) ∧ Dt H u d
def SlR (W : Wld) (H0 H : Hp) (v : Option V) : Sl → Prop
  | .no => True
  | .d d => ∃ x, v = some x ∧ Dt H x d
  | .l ds => ∃ a, v = some (.ref a) ∧ H0 a = none ∧ LsAt W H a ds
  | .m ds => ∃ a, v = some (.ref a) ∧ H0 a = none ∧ DcAt W H a ds
  | .n ds => ∃ a, v = some (.ref a) ∧ H0 a = none ∧ NcAt W H a ds
  | .rl ds => ∃ a, v = some (.ref a) ∧ H0 a ≠ none ∧ LsAt W H a ds
  | .rm ds => ∃ a, v = some (.ref a) ∧ H0 a ≠ none ∧ DcAt W H a ds
  | .rn ds => ∃ a, v = some (.ref a) ∧ H0 a ≠ none ∧ NcAt W H a ds
  | .s k => v = some (.ref W.root) ∧ W.kd = k
  | .x a dd f d _ => v = some (.ref a) ∧ ExAt W H dd f d
  | .r a => v = some (.ref a)
def isOwn : Sl → Bool
  | .l _ => true
  | .m _ => true
  | .n _ => true
  | _ => false
/-- the heap at the def's entry; a heap whose locked things stand still -/
structure Bs where
  h0 : Hp
  hf : Hp
structure Sit (W : Wld) (H0 : Bs) (σ : L2.St) (H : Hp) (E : Env) (b : Bt) : Prop where
  len : σ.length = E.length
  at_ : ∀ (i : Nat) (s : Sl), E[i]? = some s → ∃ v, σ[i]? = some v ∧ SlR W H0.h0 H v s
  apart : ∀ (i j : Nat) (s t : Sl) (a : Addr), i ≠ j → E[i]? = some s → isOwn s = true → E[j]? = some t → isOwn t = true → σ[i]? = some (some (.ref a)) → σ[j]? ≠ some (some (.ref a))
  kp : Kp W.M H0.h0 H
  dk : W.Dk b H
  fk : Fk H0.hf H
section
variable {W : Wld} {H0 H H1 : Hp} {B : Bs} {σ : L2.St} {E : Env} {b b1 : Bt}
theorem LsAt.step {a : Addr} {ds : List PyData} (d : W.Dk b H) (k : Kp W.M H H1) (h : LsAt W H a ds) : LsAt W H1 a ds := by
  obtain ⟨n, xs, h, t⟩ := h
  exact ⟨n, xs, k.1 a _ n rfl h, t.mono (W.fk d k)⟩
theorem DcAt.step {a : Addr} {ds : List (Key × PyData)} (d : W.Dk b H) (k : Kp W.M H H1) (h : DcAt W H a ds) : DcAt W H1 a ds := by
  obtain ⟨n, xs, h, t⟩ := h
  exact ⟨n, xs, k.1 a _ n rfl h, t.mono (W.fk d k)⟩
theorem NcAt.step {a : Addr} {ds : List (NestedKey × PyData)} (d : W.Dk b H) (k : Kp W.M H H1) (h : NcAt W H a ds) : NcAt W H1 a ds := by
  obtain ⟨n, o, h, sm, xs, es, ep, h1, h2, h3, h4, t⟩ := h
  exact ⟨n, o, k.1 a _ n rfl h, sm, xs, es, ep, h1, h2, h3, h4, Paired.mapP t fun x p r => r.mono (W.fk d k)⟩
theorem ExAt.step {dd : Addr} {f : Str} {x : PyData} (d : W.Dk b H) (k : Kp W.M H H1) (h : ExAt W H dd f x) : ExAt W H1 dd f x := by
  obtain ⟨n, u, h, t⟩ := h
  exact ⟨n, u, k.1 _ _ n rfl h, t.mono (W.fk d k)⟩
theorem SlR.step {v : Option V} {s : Sl} (d : W.Dk b H) (k : Kp W.M H H1) (h : SlR W H0 H v s) : SlR W H0 H1 v s := by
  cases s with
  | no => trivial
  | d x => obtain ⟨u, e, t⟩ := h; exact ⟨u, e, t.mono (W.fk d k)⟩
  | l x => obtain ⟨u, e, n, t⟩ := h; exact ⟨u, e, n, t.step d k⟩
  | m x => obtain ⟨u, e, n, t⟩ := h; exact ⟨u, e, n, t.step d k⟩
  | n x => obtain ⟨u, e, n, t⟩ := h; exact ⟨u, e, n, t.step d k⟩
  | rl x => obtain ⟨u, e, n, t⟩ := h; exact ⟨u, e, n, t.step d k⟩
  | rm x => obtain ⟨u, e, n, t⟩ := h; exact ⟨u, e, n, t.step d k⟩
  | rn x => obtain ⟨u, e, n, t⟩ := h; exact ⟨u, e, n, t.step d k⟩
  | s _ => exact h
  | x a dd f y c => exact ⟨h.1, h.2.step d k⟩
  | r a => exact h
theorem Sit.step (S : Sit W B σ H E b) (k : Kp W.M H H1) (d : W.Dk b1 H1) : Sit W B σ H1 E b1 :=
  ⟨S.len, fun i s e => by obtain ⟨v, h1, h2⟩ := S.at_ i s e; exact ⟨v, h1, h2.step S.dk k⟩, S.apart, S.kp.trans k, d, S.fk.trans (W.fk S.dk k)⟩
theorem Sit.ex (S : Sit W B σ H E b) (e : Ex H H1) : Sit W B σ H1 E b := S.step (Kp.ex e) (W.ex e S.dk)
/-- a name is set to data -/
theorem Sit.setD {i : Nat} {v : V} {d : PyData} (S : Sit W B σ H E b) (t : Dt H v d) : Sit W B (σ.set i (some v)) H (E.set i (.d d)) b := by
  refine ⟨by simp [S.len], fun j s e => ?_, fun p q s t a ne h1 o1 h2 o2 e => ?_, S.kp, S.dk, S.fk⟩
  · by_cases hj : i = j
    · subst hj
      have hl : i < E.length := by have := (List.getElem?_eq_some_iff.mp e).1; simpa using this
      rw [List.getElem?_set_self hl] at e
      cases e
      exact ⟨some v, List.getElem?_set_self (by rw [S.len]; exact hl), v, rfl, t⟩
    · rw [List.getElem?_set_ne hj] at e
      obtain ⟨u, h1, h2⟩ := S.at_ j s e
      exact ⟨u, by rw [List.getElem?_set_ne hj]; exact h1, h2⟩
  · have np : i ≠ p := fun z => by
      subst z
      have hl : i < E.length := by have := (List.getElem?_eq_some_iff.mp h1).1; simpa using this
      rw [List.getElem?_set_self hl] at h1
      cases h1; cases o1
    have nq : i ≠ q := fun z => by
      subst z
      have hl : i < E.length := by have := (List.getElem?_eq_some_iff.mp h2).1; simpa using this
      rw [List.getElem?_set_self hl] at h2
      cases h2; cases o2
    rw [List.getElem?_set_ne np] at h1 e
    rw [List.getElem?_set_ne nq] at h2 ⊢
    exact S.apart p q s t a ne h1 o1 h2 o2 e
end
/-! ### models -/
abbrev WE := Env → Bt → (PyData → Bt → Prop) → Prop
abbrev WL := Env → Bt → (List PyData → Bt → Prop) → Prop
abbrev WT := Env → Bt → (Bool → Bt → Prop) → Prop
abbrev WG := Env → Bt → (List Sl → Bt → Prop) → Prop
structure WEnds where
  nx : Env → Bt → Prop
  rt : PyData → Bt → Prop
  bk : Env → Bt → Prop := fun _ _ => False
  ct : Env → Bt → Prop := fun _ _ => False
  xx : Nat → Sl → Env → Bt → Prop := fun _ _ _ _ => False
abbrev WS := Env → Bt → WEnds → Prop
/-- data, or a list that is not locked -/
def Dq (W : Wld) (H : Hp) (v : V) (d : PyData) : Prop := Dt H v d ∨ ∃ a ds, v = .ref a ∧ d = .list ds ∧ LsAt W H a ds
theorem Dq.step {W : Wld} {H H1 : Hp} {b : Bt} {v : V} {d : PyData} (dk : W.Dk b H) (k : Kp W.M H H1) (h : Dq W H v d) : Dq W H1 v d := by
  rcases h with h | ⟨a, ds, h1, h2, h3⟩
  · exact .inl (h.mono (W.fk dk k))
  · exact .inr ⟨a, ds, h1, h2, h3.step dk k⟩
def tE (m : WE) : TE := fun σ H Q => ∃ W H0 E b R, Sit W H0 σ H E b ∧ m E b R ∧ ∀ d b' v H', R d b' → Kp W.M H H' → W.Dk b' H' → Dt H' v d → Q v H'
def tQ (m : WE) : TE := fun σ H Q => ∃ W H0 E b R, Sit W H0 σ H E b ∧ m E b R ∧ ∀ d b' v H', R d b' → Kp W.M H H' → W.Dk b' H' → Dq W H' v d → Q v H'
def tL (m : WL) : TE := fun σ H Q => ∃ W H0 E b R, Sit W H0 σ H E b ∧ m E b R ∧ ∀ ds b' a xs H', R ds b' → Kp W.M H H' → W.Dk b' H' → H a = none → H' a = some (.lst xs) → DtAll H' xs ds → Q (.ref a) H'
def tA (m : WL) : TA := fun σ H Q => ∃ W H0 E b R, Sit W H0 σ H E b ∧ m E b R ∧ ∀ ds b' vs H', R ds b' → Kp W.M H H' → W.Dk b' H' → DtAll H' vs ds → Q vs H'
def tT (m : WT) : TT := fun σ H Q => ∃ W H0 E b R, Sit W H0 σ H E b ∧ m E b R ∧ ∀ c b' H', R c b' → Kp W.M H H' → W.Dk b' H' → Q c H'
/-- an argument: the same of a caller -/
def ArR (W : Wld) (H : Hp) (v : V) : Sl → Prop
  | .d d => Dt H v d
  | .rl ds => ∃ a, v = .ref a ∧ LsAt W H a ds
  | .rm ds => ∃ a, v = .ref a ∧ DcAt W H a ds
  | .rn ds => ∃ a, v = .ref a ∧ NcAt W H a ds
  | .s k => v = .ref W.root ∧ W.kd = k
  | .r a => v = .ref a
  | _ => False
abbrev ArsR (W : Wld) (H : Hp) : List V → List Sl → Prop := Paired (ArR W H)
def tG (m : WG) : TA := fun σ H Q => ∃ W H0 E b R, Sit W H0 σ H E b ∧ m E b R ∧ ∀ as b' vs H', R as b' → Kp W.M H H' → W.Dk b' H' → ArsR W H' vs as → Q vs H'
/-- what is wanted where an error is raised (or an object returned): what is wanted of a return, the class by number, its field, the slots, the heap -/
abbrev XW := VK → Nat → V → L2.St → Hp → Prop
def noX : XW := fun _ _ _ _ _ => False
structure Acc (xw : XW) (W : Wld) (H0 : Bs) (F : WEnds) (D : Ends) : Prop where
  nx : ∀ σ H E b, Sit W H0 σ H E b → F.nx E b → D.nx σ H
  bk : ∀ σ H E b, Sit W H0 σ H E b → F.bk E b → D.bk σ H
  ct : ∀ σ H E b, Sit W H0 σ H E b → F.ct E b → D.ct σ H
  rt : ∀ d b v H, F.rt d b → Kp W.M H0.h0 H → W.Dk b H → Dt H v d → D.rt v H
  xx : ∀ c d v σ H E b, F.xx c d E b → Sit W H0 σ H E b → ArR W H v d → xw D.rt c v σ H
def tS (xw : XW) (m : WS) : TS := fun D σ H => ∃ W H0 E b F, Sit W H0 σ H E b ∧ m E b F ∧ Acc xw W H0 F D
/-- a def by its model -/
abbrev WF := List Sl → Bt → (PyData → Bt → Prop) → Prop
def spOf (mf : WF) : Sp := fun vs H Q _ => ∃ W as b R, ArsR W H vs as ∧ W.Dk b H ∧ mf as b R ∧ ∀ d b' v H', R d b' → Kp W.M H H' → W.Dk b' H' → Dt H' v d → Q v H'
end Wp

namespace Wp
open PySem PySem.Spec PyProof.Rows L2 Evl
/-! ### reading -/
structure XO (X : Cx) : Prop where
  gd : X.A.guards = some []
  un : X.A.units + 64 < cLine
  calm : X.calm = true
  sm : ∃ o, X.base.get? sysModules = some o
theorem XO.free {X : Cx} (h : XO X) {pins : List (Addr × Obj)} {σ : L2.St} {H : Hp} {s : Shared} (I : Inv X pins σ H s) : H sysModules = none := by
  obtain ⟨o, e⟩ := h.sm
  exact (I.bs _ _ e).2
section
variable {X : Cx} {pins : List (Addr × Obj)} {σ : L2.St} {H : Hp} {s : Shared}
mutual
theorem Dt.reads (I : Inv X pins σ H s) : ∀ (d : PyData) (v : V) (u : Value), nob d = true → Dt H v d → RelV v u → ∃ as, Reads s.heap u d as ∧ (H sysModules = none → sysModules ∉ as)
  | .none, _, _, _, h, r => by
    cases h
    cases r
    exact ⟨_, Reads.none, by simp⟩
  | .bool b, _, _, _, h, r => by
    cases h
    cases r
    exact ⟨_, Reads.bool b, by simp⟩
  | .int i, _, _, _, h, r => by
    cases h
    obtain ⟨t, rfl⟩ := r
    exact ⟨_, Reads.int i t, by simp⟩
  | .str x, _, _, _, h, r => by
    cases h
    obtain ⟨t, rfl⟩ := r
    exact ⟨_, Reads.str x t, by simp⟩
  | .list ds, _, _, hb, h, r => by
    cases h with
    | lst hs ha =>
      cases r
      obtain ⟨its, rv, ⟨o, n, ho, hc, _, hd⟩, _⟩ := I.list (xs := _) (show SqL X.K H _ _ from .inl (.inr ⟨_, hs⟩))
      obtain ⟨as, hr, na⟩ := DtAll.reads I ds _ its (by simpa only [nob] using hb) ha rv
      exact ⟨_, Reads.list ho hc hd hr, fun n => by simp [na n]; intro z; rw [← z, n] at hs; cases hs⟩
  | .tuple ds, _, _, hb, h, r => by
    cases h with
    | tup hs _ ha =>
      cases r
      obtain ⟨its, rv, ⟨o, ho, hc, n, hd⟩, _⟩ := I.tuple (show SqT X.K H _ _ from .inl (.inr ⟨_, hs⟩))
      obtain ⟨as, hr, na⟩ := DtAll.reads I ds _ its (by simpa only [nob] using hb) ha rv
      exact ⟨_, Reads.tuple ho hc hd hr, na⟩
  | .dict ds, v, u, hb, h, r => by
    generalize hd0 : PyData.dict ds = dd at h
    cases h with
    | non => cases hd0
    | bl _ => cases hd0
    | int _ => cases hd0
    | str _ => cases hd0
    | tup _ _ _ => cases hd0
    | lst _ _ => cases hd0
    | rf a =>
      injection hd0 with e0
      rw [e0] at hb
      exact absurd (nob_ref a) (by unfold refD; rw [hb]; decide)
    | @dic a o kvs vs ds' hs ev ha =>
      cases r
      injection hd0 with e0
      obtain ⟨_, hsm, us, kv, o, es, ep, ho, hx, hd, _, hp, _⟩ := dk_rd I.hok (.inr ⟨_, hs⟩)
      have len : vs.length = ds'.length := ha.length
      have sz : ∀ d' ∈ ds', sizeOf d' < sizeOf ds := by
        intro d' hd'
        rw [e0]
        have key : ∀ (ks : List PyData) (es : List PyData), ks.length = es.length → d' ∈ es → sizeOf d' < sizeOf (ks.zip es) := by
          intro ks
          induction ks with
          | nil => intro es h1 h2; cases es with | nil => exact nomatch h2 | cons _ _ => simp at h1
          | cons k ks ih =>
            intro es h1 h2
            cases es with
            | nil => exact nomatch h2
            | cons e es =>
              rcases List.mem_cons.mp h2 with rfl | h2
              · simp only [List.zip_cons_cons, List.cons.sizeOf_spec, Prod.mk.sizeOf_spec]; omega
              · have := ih es (by simpa using h1) h2
                simp only [List.zip_cons_cons, List.cons.sizeOf_spec, Prod.mk.sizeOf_spec]; omega
        exact key _ _ (by rw [List.length_map, ← len, ev, List.length_map]) hd'
      have keys : ∀ {es : List DictEntry} {us : List (Key × Value)} {kvs : List (Key × V)}, Pairs (mixKind X.prog X.w) es us → KV kvs us → ReadsAll s.heap (es.map (·.key)) (kvs.map fun p => keyD p.1) [] := by
        intro es us kvs hp
        induction hp generalizing kvs with
        | nil => intro kv; cases kv; exact .nil
        | cons k1 k2 k3 ih =>
          intro kv
          cases kv with
          | cons q1 q2 =>
            have h2 := ih q2
            have k1' : keyIs _ _ = true := k1
            rw [← q1.1] at k1'
            rcases keyIs_shape k1' with ⟨i, t, ek, ev⟩ | ⟨x, t, ek, ev⟩
            · simp only [List.map_cons, ek, ev, keyD]; exact .cons (as := []) (bs := []) (.int i t) h2
            · simp only [List.map_cons, ek, ev, keyD]; exact .cons (as := []) (bs := []) (.str x t) h2
      have vals : ∀ {es : List DictEntry} {us : List (Key × Value)} {kvs : List (Key × V)}, Pairs (mixKind X.prog X.w) es us → KV kvs us → Vals (kvs.map (·.2)) (es.map (·.val)) := by
        intro es us kvs hp
        induction hp generalizing kvs with
        | nil => intro kv; cases kv; exact .nil
        | cons k1 k2 k3 ih =>
          intro kv
          cases kv with
          | cons q1 q2 =>
            refine .cons ?_ (ih q2)
            dsimp only
            rw [k2]
            exact q1.2
      have nbs : ∀ d' ∈ ds', nob d' = true := nob_zip (ks := kvs.map fun p => keyD p.1) (by rw [e0] at hb; simpa only [nob] using hb) (by rw [List.length_map, ← len, ev, List.length_map]; exact Nat.le_refl _)
      have r1 := keys hp kv
      have all : ∀ (l : List PyData) (xs : List V) (ys : List Value), (∀ d' ∈ l, d' ∈ ds') → DtAll H xs l → Vals xs ys → ∃ bs, ReadsAll s.heap ys l bs ∧ (H sysModules = none → sysModules ∉ bs) := by
        intro l
        induction l with
        | nil => intro xs ys _ h1 h2; cases h1; cases h2; exact ⟨_, .nil, by simp⟩
        | cons d' l ih =>
          intro xs ys hm h1 h2
          cases h1 with
          | cons a1 a2 =>
            cases h2 with
            | cons b1 b2 =>
              have := sz d' (hm d' (List.mem_cons_self ..))
              obtain ⟨as1, q1, n1⟩ := Dt.reads I d' _ _ (nbs d' (hm d' (List.mem_cons_self ..))) a1 b1
              obtain ⟨bs1, q2, n2⟩ := ih _ _ (fun e he => hm e (List.mem_cons_of_mem _ he)) a2 b2
              exact ⟨_, .cons q1 q2, fun n => by simp [n1 n, n2 n]⟩
      obtain ⟨bs, r2, nb⟩ := all ds' vs _ (fun _ h => h) ha (by rw [ev]; exact vals hp kv)
      have l1 : (kvs.map fun p => keyD p.1).length = ds'.length := by rw [List.length_map, ← len, ev, List.length_map]
      refine ⟨_, Reads.dict (kvs := (kvs.map fun p => keyD p.1).zip ds') ho hx.1 hd (as := []) (bs := bs) ?_ ?_, fun n => ?_⟩
      · rw [List.map_fst_zip (by omega)]; exact r1
      · rw [List.map_snd_zip (by omega)]; exact r2
      · simp [nb n]
        exact (beq_eq_false_iff_ne.mp hsm).symm
termination_by d => sizeOf d
theorem DtAll.reads (I : Inv X pins σ H s) : ∀ (ds : List PyData) (vs : List V) (us : List Value), nobAll ds = true → DtAll H vs ds → Vals vs us → ∃ as, ReadsAll s.heap us ds as ∧ (H sysModules = none → sysModules ∉ as)
  | [], _, _, _, h, r => by
    cases h
    cases r
    exact ⟨_, ReadsAll.nil, by simp⟩
  | d :: ds, _, _, hb, h, r => by
    simp only [nobAll, Bool.and_eq_true] at hb
    cases h with
    | cons h1 h2 =>
      cases r with
      | cons r1 r2 =>
        obtain ⟨as, q1, n1⟩ := Dt.reads I d _ _ hb.1 h1 r1
        obtain ⟨bs, q2, n2⟩ := DtAll.reads I ds _ _ hb.2 h2 r2
        exact ⟨_, ReadsAll.cons q1 q2, fun n => by simp [n1 n, n2 n]⟩
termination_by ds => sizeOf ds
end
theorem Dq.reads {W : Wld} (I : Inv X pins σ H s) {d : PyData} {v : V} {u : Value} (hb : nob d = true) (h : Dq W H v d) (r : RelV v u) : ∃ as, Reads s.heap u d as ∧ (H sysModules = none → sysModules ∉ as) := by
  rcases h with h | ⟨a, ds, rfl, rfl, _, xs, ha, hx⟩
  · exact Dt.reads I d v u hb h r
  · cases r
    obtain ⟨its, rv, ⟨o, n, ho, hc, _, hd⟩, _⟩ := I.list (show SqL X.K H a xs from .inl (.inl ha))
    obtain ⟨as, hr, na⟩ := DtAll.reads I ds _ its (by simpa only [nob] using hb) hx rv
    exact ⟨_, Reads.list ho hc hd hr, fun n => by simp [na n]; intro z; rw [← z, n] at ha; cases ha⟩
end
theorem Dq.seqL {W : Wld} {K : PySem.W.Frag} {H : Hp} {v : V} {ds : List PyData} (h : Dq W H v (.list ds)) : ∃ a xs, v = .ref a ∧ SqL K H a xs ∧ DtAll H xs ds := by
  rcases h with h | ⟨a, ds', rfl, e, _, xs, ha, hx⟩
  · obtain ⟨a, o, xs, rfl, h1, h2⟩ := h.lst_inv
    exact ⟨a, xs, rfl, .inl (.inr ⟨o, h1⟩), h2⟩
  · cases e
    exact ⟨a, xs, rfl, .inl (.inl ha), hx⟩
theorem Dq.seqT {W : Wld} {K : PySem.W.Frag} {H : Hp} {v : V} {ds : List PyData} (h : Dq W H v (.tuple ds)) : ∃ a o xs, v = .ref a ∧ H a = some (.frz o (.tup xs)) ∧ o.dict = none ∧ SqT K H a xs ∧ DtAll H xs ds := by
  rcases h with h | ⟨a, ds', rfl, e, _⟩
  · obtain ⟨a, o, xs, rfl, h1, h2, h3⟩ := h.tup_inv
    exact ⟨a, o, xs, rfl, h1, h2, .inl (.inr ⟨o, h1⟩), h3⟩
  · cases e
theorem Dq.int {W : Wld} {H : Hp} {v : V} {i : Int} (h : Dq W H v (.int i)) : v = .int i := by
  rcases h with h | ⟨a, ds', rfl, e, _⟩
  · cases h; rfl
  · cases e
theorem Dq.bool {W : Wld} {H : Hp} {v : V} {i : Bool} (h : Dq W H v (.bool i)) : v = .bl i := by
  rcases h with h | ⟨a, ds', rfl, e, _⟩
  · cases h; rfl
  · cases e
theorem Dq.str {W : Wld} {H : Hp} {v : V} {i : Str} (h : Dq W H v (.str i)) : v = .str i := by
  rcases h with h | ⟨a, ds', rfl, e, _⟩
  · cases h; rfl
  · cases e
end Wp

namespace Wp
open PySem PySem.Spec PyProof.Rows L2 Evl
abbrev W1 := PyData → (PyData → Prop) → Prop
abbrev W2 := PyData → PyData → (PyData → Prop) → Prop
def rD (w : W2) : R2 := fun x y H Q => ∃ (W : Wld) (d e : PyData) (R : PyData → Prop), Dq W H x d ∧ Dq W H y e ∧ w d e R ∧ ∀ z v H', R z → Ex H H' → Dt H' v z → Q v H'
/-! ### expressions: weakening -/
section
variable {X : Cx} {e a b : Expr} {t t' : TE} {m ma mb : WE} {pos : Pos}
theorem _root_.L2.PE.weak (h : PE X e t) (k : ∀ σ H Q, t' σ H Q → t σ H Q) : PE X e t' := ⟨fun pins s σ H Q I q => h.run pins s σ H Q I (k σ H Q q)⟩
theorem _root_.L2.PT.weak {t t' : TT} (h : PT X e t) (k : ∀ σ H Q, t' σ H Q → t σ H Q) : PT X e t' := ⟨fun pins s σ H Q I q => h.run pins s σ H Q I (k σ H Q q)⟩
theorem _root_.L2.PA.weak {es : List Expr} {t t' : TA} (h : PA X es t) (k : ∀ σ H Q, t' σ H Q → t σ H Q) : PA X es t' := ⟨fun p pins s σ H Q I q => h.run p pins s σ H Q I (k σ H Q q)⟩
/-- data may be read as data or a list -/
theorem _root_.L2.PE.q (h : PE X e (tE m)) : PE X e (tQ m) := h.weak fun σ H Q ⟨W, H0, E, b, R, S, hm, k⟩ => ⟨W, H0, E, b, R, S, hm, fun d b' v H' r kp dk t => k d b' v H' r kp dk (.inl t)⟩
/-! names, constants -/
def mV (i : Nat) : WE := fun E b R => match E[i]? with
  | some (.d d) => R d b
  | _ => False
def mC (d : PyData) : WE := fun _ b R => R d b
theorem mV_some {i : Nat} {E : Env} {b : Bt} {R : PyData → Bt → Prop} (h : mV i E b R) : ∃ d, E[i]? = some (.d d) ∧ R d b := by
  unfold mV at h
  split at h
  · exact ⟨_, by assumption, h⟩
  · exact h.elim
theorem pm_var {i : Nat} {x : Str} (h : PE X (.Name x pos) (tVar i)) : PE X (.Name x pos) (tE (mV i)) := h.weak fun σ H Q ⟨W, H0, E, b, R, S, hm, k⟩ => by
  obtain ⟨d, he, hr⟩ := mV_some hm
  obtain ⟨v, h1, x, rfl, t⟩ := S.at_ i _ he
  exact ⟨x, h1, k d b x H hr Kp.refl S.dk t⟩
theorem pm_c {v : V} {d : PyData} (h : PE X e (tC v)) (t : ∀ H, Dt H v d) : PE X e (tE (mC d)) := h.weak fun σ H Q ⟨W, H0, E, b, R, S, hm, k⟩ => k d b v H hm Kp.refl S.dk (t H)
theorem pm_int {i : Int} {j : Nat} : PE X (.Constant (.int i) j pos) (tE (mC (.int i))) := pm_c pe_int fun _ => .int i
theorem pm_bl {i : Bool} {j : Nat} : PE X (.Constant (.bool i) j pos) (tE (mC (.bool i))) := pm_c pe_bl fun _ => .bl i
theorem pm_str {i : Str} {j : Nat} : PE X (.Constant (.str i) j pos) (tE (mC (.str i))) := pm_c pe_str fun _ => .str i
/-- a global constant -/
theorem pm_gi {x : Str} {i : Int} {t : Tok} (hg : Gl X x) (hm : X.mg x = some (.int i t)) (hd : (x == ("__debug__" : Str)) = false := by decide) : PE X (.Name x pos) (tE (mC (.int i))) := pm_c (pe_glob (v := .int i) hg hm ⟨t, rfl⟩ hd) fun _ => .int i
/-- a list of one's own, or of a caller's, read -/
def mO (i : Nat) : WE := fun E b R => match E[i]? with
  | some (.l ds) => R (.list ds) b
  | some (.rl ds) => R (.list ds) b
  | _ => False
/-! operations -/
def mOp (w : W2) (ma mb : WE) : WE := fun E b R => ma E b fun x b1 => mb E b1 fun y b2 => w x y fun z => R z b2
def mUn (w : W1) (ma : WE) : WE := fun E b R => ma E b fun x b1 => w x fun z => R z b1
theorem tOp_of {w : W2} {σ : L2.St} {H : Hp} {Q : VK} (h : tE (mOp w ma mb) σ H Q) : tOp (rD w) (tQ ma) (tQ mb) σ H Q := by
  obtain ⟨W, H0, E, b, R, S, hm, k⟩ := h
  refine ⟨W, H0, E, b, _, S, hm, fun x b1 v H1 h1 k1 d1 t1 => ⟨W, H0, E, b1, _, S.step k1 d1, h1, fun y b2 u H2 h2 k2 d2 t2 => ?_⟩⟩
  exact ⟨W, x, y, _, t1.step d1 k2, t2, h2, fun z v' H3 hz e3 t3 => k z b2 v' H3 hz ((k1.trans k2).trans (Kp.ex e3)) (W.ex e3 d2) t3⟩
theorem pm_op {op : Operator} {w : W2} (ho : OpR X (binaryOp op) (rD w)) (ha : PE X a (tQ ma)) (hb : PE X b (tQ mb)) : PE X (.BinOp a op b pos) (tE (mOp w ma mb)) := (pe_op ho ha hb).weak fun _ _ _ => tOp_of
theorem pm_cmp {op : CmpOp} {w : W2} (ho : OpR X (compareOp op) (rD w)) (ha : PE X a (tQ ma)) (hb : PE X b (tQ mb)) (hm : behindInMarks op b = false) : PE X (.Compare a [op] [b] pos) (tE (mOp w ma mb)) := (pe_cmpR ho ha hb hm).weak fun _ _ _ => tOp_of
theorem pm_ix {w : W2} (ho : IxR X (rD w)) (ha : PE X a (tQ ma)) (hb : PE X b (tQ mb)) (hs : PlainIx b) : PE X (.Subscript a b pos) (tE (mOp w ma mb)) := (pe_ix ho ha hb hs).weak fun _ _ _ => tOp_of
/-- a test: an expression whose value is a bool -/
def mT (m : WE) : WT := fun E b R => m E b fun d b1 => match d with
  | .bool c => R c b1
  | _ => False
theorem tB_of {σ : L2.St} {H : Hp} {Q : Bool → Hp → Prop} (h : tT (mT m) σ H Q) : tE m σ H fun x H1 => ∃ c, x = .bl c ∧ Q c H1 := by
  obtain ⟨W, H0, E, b, R, S, hm, k⟩ := h
  refine ⟨W, H0, E, b, _, S, hm, fun x b1 v H1 h1 k1 d1 t1 => ?_⟩
  cases x <;> first | exact h1.elim | skip
  cases t1
  exact ⟨_, rfl, k _ b1 H1 h1 k1 d1⟩
theorem pm_tcmp {op : CmpOp} {w : W2} (ho : OpR X (compareOp op) (rD w)) (ha : PE X a (tQ ma)) (hb : PE X b (tQ mb)) (hm : behindInMarks op b = false) : PT X (.Compare a [op] [b] pos) (tT (mT (mOp w ma mb))) :=
  (pt_cmpR ho ha hb hm).weak fun σ H Q h => tOp_of (tB_of h)
theorem pm_tval (h : PE X e (tE m)) (he : ∀ whole, isTrue e X.env whole = (do let v ← whole; standAt e.pos; holding [v] (truthy v)) := by intro _; rfl) : PT X e (tT (mT m)) := (pt_val h he).weak fun σ H Q h => tB_of h
def mNotT (m : WT) : WT := fun E b R => m E b fun c b1 => R (!c) b1
def mAndT (m n : WT) : WT := fun E b R => m E b fun c b1 => if c = true then n E b1 R else R false b1
def mOrT (m n : WT) : WT := fun E b R => m E b fun c b1 => if c = true then R true b1 else n E b1 R
theorem pm_tnot {m : WT} (h : PT X e (tT m)) : PT X (.UnaryOp .Not e pos) (tT (mNotT m)) := (pt_not h).weak fun σ H Q ⟨W, H0, E, b, R, S, hm, k⟩ => ⟨W, H0, E, b, _, S, hm, fun c b' H' r kp dk => k _ b' H' r kp dk⟩
section
variable {rest : List Expr} {m n : WT}
theorem _root_.L2.PW.weak {t t' : TT} (h : PW X e t) (k : ∀ σ H Q, t' σ H Q → t σ H Q) : PW X e t' := ⟨fun w pins s σ H Q I q => h.run w pins s σ H Q I (k σ H Q q)⟩
theorem pm_wand1 (ha : PT X a (tT m)) : PW X (.BoolOp .And [a] pos) (tT m) := pw_and1 ha
theorem pm_wor1 (ha : PT X a (tT m)) : PW X (.BoolOp .Or [a] pos) (tT m) := pw_or1 ha
theorem pm_wand (ha : PT X a (tT m)) (hb : PW X (.BoolOp .And (b :: rest) pos) (tT n)) : PW X (.BoolOp .And (a :: b :: rest) pos) (tT (mAndT m n)) := (pw_and ha hb).weak fun σ H Q ⟨W, H0, E, b, R, S, hm, k⟩ => by
  refine ⟨W, H0, E, b, _, S, hm, fun c b1 H1 h1 k1 d1 => ?_⟩
  cases c with
  | true => exact ⟨W, H0, E, b1, _, S.step k1 d1, h1, fun c b2 H2 h2 k2 d2 => k c b2 H2 h2 (k1.trans k2) d2⟩
  | false => exact k false b1 H1 h1 k1 d1
theorem pm_wor (ha : PT X a (tT m)) (hb : PW X (.BoolOp .Or (b :: rest) pos) (tT n)) : PW X (.BoolOp .Or (a :: b :: rest) pos) (tT (mOrT m n)) := (pw_or ha hb).weak fun σ H Q ⟨W, H0, E, b, R, S, hm, k⟩ => by
  refine ⟨W, H0, E, b, _, S, hm, fun c b1 H1 h1 k1 d1 => ?_⟩
  cases c with
  | false => exact ⟨W, H0, E, b1, _, S.step k1 d1, h1, fun c b2 H2 h2 k2 d2 => k c b2 H2 h2 (k1.trans k2) d2⟩
  | true => exact k true b1 H1 h1 k1 d1
end
/-- and, or, not as values -/
def mAnd (m n : WE) : WE := fun E b R => m E b fun d b1 => match d with
  | .bool true => n E b1 R
  | .bool false => R (.bool false) b1
  | _ => False
def mOr (m n : WE) : WE := fun E b R => m E b fun d b1 => match d with
  | .bool true => R (.bool true) b1
  | .bool false => n E b1 R
  | _ => False
def mNot (m : WE) : WE := fun E b R => m E b fun d b1 => match d with
  | .bool c => R (.bool (!c)) b1
  | _ => False
section
variable {rest : List Expr} {n : WE}
theorem pm_and (ha : PE X a (tE m)) (hb : PE X (.BoolOp .And (b :: rest) pos) (tE n)) : PE X (.BoolOp .And (a :: b :: rest) pos) (tE (mAnd m n)) := (pe_and ha hb).weak fun σ H Q ⟨W, H0, E, b, R, S, hm, k⟩ => by
  refine ⟨W, H0, E, b, _, S, hm, fun c b1 v H1 h1 k1 d1 t1 => ?_⟩
  cases c <;> first | exact h1.elim | skip
  rename_i c
  cases t1
  refine ⟨c, rfl, ?_⟩
  cases c with
  | true => exact ⟨W, H0, E, b1, _, S.step k1 d1, h1, fun d b2 v H2 h2 k2 d2 t2 => k d b2 v H2 h2 (k1.trans k2) d2 t2⟩
  | false => exact k _ b1 _ H1 h1 k1 d1 (.bl false)
theorem pm_or (ha : PE X a (tE m)) (hb : PE X (.BoolOp .Or (b :: rest) pos) (tE n)) : PE X (.BoolOp .Or (a :: b :: rest) pos) (tE (mOr m n)) := (pe_or ha hb).weak fun σ H Q ⟨W, H0, E, b, R, S, hm, k⟩ => by
  refine ⟨W, H0, E, b, _, S, hm, fun c b1 v H1 h1 k1 d1 t1 => ?_⟩
  cases c <;> first | exact h1.elim | skip
  rename_i c
  cases t1
  refine ⟨c, rfl, ?_⟩
  cases c with
  | false => exact ⟨W, H0, E, b1, _, S.step k1 d1, h1, fun d b2 v H2 h2 k2 d2 t2 => k d b2 v H2 h2 (k1.trans k2) d2 t2⟩
  | true => exact k _ b1 _ H1 h1 k1 d1 (.bl true)
theorem pm_one {op} (h : PE X a (tE m)) : PE X (.BoolOp op [a] pos) (tE m) := pe_one h
theorem pm_not (ha : PE X a (tE m)) : PE X (.UnaryOp .Not a pos) (tE (mNot m)) := (pe_not ha).weak fun σ H Q ⟨W, H0, E, b, R, S, hm, k⟩ => by
  refine ⟨W, H0, E, b, _, S, hm, fun c b1 v H1 h1 k1 d1 t1 => ?_⟩
  cases c <;> first | exact h1.elim | skip
  rename_i c
  cases t1
  exact ⟨c, rfl, k _ b1 _ H1 h1 k1 d1 (.bl _)⟩
end
def mIf (c : WT) (m n : WE) : WE := fun E b R => c E b fun c b1 => if c = true then m E b1 R else n E b1 R
theorem pm_ifE {c : Expr} {mc : WT} (hc : PT X c (tT mc)) (ha : PE X a (tE ma)) (hb : PE X b (tE mb)) : PE X (.IfExp c a b pos) (tE (mIf mc ma mb)) := (pe_ifExp hc ha hb).weak fun σ H Q ⟨W, H0, E, b, R, S, hm, k⟩ => by
  refine ⟨W, H0, E, b, _, S, hm, fun c b1 H1 h1 k1 d1 => ?_⟩
  cases c with
  | true => exact ⟨W, H0, E, b1, _, S.step k1 d1, h1, fun d b2 v H2 h2 k2 d2 t2 => k d b2 v H2 h2 (k1.trans k2) d2 t2⟩
  | false => exact ⟨W, H0, E, b1, _, S.step k1 d1, h1, fun d b2 v H2 h2 k2 d2 t2 => k d b2 v H2 h2 (k1.trans k2) d2 t2⟩
/-- -x -/
def negW : W1 := fun d R => match d with
  | .int i => R (.int (-i))
  | _ => False
theorem pm_neg (ha : PE X a (tE ma)) : PE X (.UnaryOp .USub a pos) (tE (mUn negW ma)) := (pe_un un_neg ha).weak fun σ H Q ⟨W, H0, E, b, R, S, hm, k⟩ => by
  refine ⟨W, H0, E, b, _, S, hm, fun c b1 v H1 h1 k1 d1 t1 => ?_⟩
  cases c <;> first | exact h1.elim | skip
  cases t1
  exact ⟨_, rfl, k _ b1 _ H1 h1 k1 d1 (.int _)⟩
/-- a comparison of three -/
def mChain (w w' : W2) (ma mb mc : WE) : WE := fun E b R => ma E b fun x b1 => mb E b1 fun y b2 => w x y fun z => match z with
  | .bool true => mc E b2 fun u b3 => w' y u fun z => R z b3
  | .bool false => R (.bool false) b2
  | _ => False
theorem tChain_of {w w' : W2} {mc : WE} {σ : L2.St} {H : Hp} {Q : VK} (h : tE (mChain w w' ma mb mc) σ H Q) : tChain (rD w) (rD w') (tQ ma) (tQ mb) (tQ mc) σ H Q := by
  obtain ⟨W, H0, E, b, R, S, hm, k⟩ := h
  refine ⟨W, H0, E, b, _, S, hm, fun x b1 v H1 h1 k1 d1 t1 => ⟨W, H0, E, b1, _, S.step k1 d1, h1, fun y b2 u H2 h2 k2 d2 t2 => ?_⟩⟩
  refine ⟨W, x, y, _, t1.step d1 k2, t2, h2, fun z v' H3 hz e3 t3 => ?_⟩
  cases z <;> first | exact hz.elim | skip
  rename_i c
  cases t3
  refine ⟨c, rfl, ?_⟩
  have k13 := (k1.trans k2).trans (Kp.ex (M := W.M) e3)
  have d3 := W.ex e3 d2
  cases c with
  | false => exact k _ b2 _ H3 hz k13 d3 (.bl false)
  | true =>
    refine ⟨W, H0, E, b2, _, S.step k13 d3, hz, fun q b4 v4 H4 h4 k4 d4 t4 => ?_⟩
    exact ⟨W, y, q, _, (t2.step d2 (Kp.ex e3)).step d3 k4, t4, h4, fun z5 v5 H5 h5 e5 t5 => k z5 b4 v5 H5 h5 ((k13.trans k4).trans (Kp.ex e5)) (W.ex e5 d4) t5⟩
theorem pm_chain {c : Expr} {op op' : CmpOp} {w w' : W2} {mc : WE} (ho : OpR X (compareOp op) (rD w)) (ho' : OpR X (compareOp op') (rD w')) (ha : PE X a (tQ ma)) (hb : PE X b (tQ mb)) (hc : PE X c (tQ mc)) (hm : lastMarks [op, op'] [b, c] = false := by with_unfolding_all rfl) : PE X (.Compare a [op, op'] [b, c] pos) (tE (mChain w w' ma mb mc)) := (pe_chain ho ho' ha hb hc hm).weak fun _ _ _ => tChain_of
end
end Wp

namespace Wp
open PySem PySem.Spec PyProof.Rows L2 Evl
/-! ### what the operations do to data -/
def b2z (b : Bool) : Int := if b = true then 1 else 0
def addW : W2 := fun d e R => match d, e with
  | .int i, .int j => R (.int (i + j))
  | .int i, .bool j => R (.int (i + b2z j))
  | .bool i, .int j => R (.int (b2z i + j))
  | .str x, .str y => x.length + y.length ≤ 100000 ∧ R (.str (x ++ y))
  | .tuple xs, .tuple ys => xs.length + ys.length ≤ 100000 ∧ R (.tuple (xs ++ ys))
  | .list xs, .list ys => xs.length + ys.length ≤ 100000 ∧ R (.list (xs ++ ys))
  | _, _ => False
def subW : W2 := fun d e R => match d, e with
  | .int i, .int j => R (.int (i - j))
  | .int i, .bool j => R (.int (i - b2z j))
  | .bool i, .int j => R (.int (b2z i - j))
  | _, _ => False
def mulW : W2 := fun d e R => match d, e with
  | .int i, .int j => CMul i j ∧ R (.int (i * j))
  | _, _ => False
def fdivW : W2 := fun d e R => match d, e with
  | .int i, .int j => (0 < j ∧ j < 4611686018427387904) ∧ R (.int (i / j))
  | _, _ => False
def modW : W2 := fun d e R => match d, e with
  | .int i, .int j => 0 < j ∧ R (.int (i % j))
  | _, _ => False
def powW : W2 := fun d e R => match d, e with
  | .int i, .int j => (0 ≤ j ∧ j ≤ 1000000 ∧ i.natAbs < 2 ^ 64) ∧ R (.int (i ^ j.toNat))
  | _, _ => False
/-- data that == is asked of -/
def okEq (d e : PyData) : Prop := d.plain = true ∧ e.plain = true ∧ min d.depth e.depth ≤ 50
def eqW : W2 := fun d e R => match d, e with
  | .int i, .int j => R (.bool (decide (i = j)))
  | .str i, .str j => R (.bool (decide (i = j)))
  | .tuple ds, .tuple [] => R (.bool ds.isEmpty)
  | .list ds, .list [] => R (.bool ds.isEmpty)
  | d, e => okEq d e ∧ R (.bool (PyData.eqv d e))
def neW : W2 := fun d e R => match d, e with
  | .int i, .int j => R (.bool (!decide (i = j)))
  | .str i, .str j => R (.bool (!decide (i = j)))
  | .tuple ds, .tuple [] => R (.bool (!ds.isEmpty))
  | .list ds, .list [] => R (.bool (!ds.isEmpty))
  | d, e => okEq d e ∧ R (.bool (!PyData.eqv d e))
def okLt (d e : PyData) : Prop := PySem.W.alike d e = true ∧ d ≠ .none ∧ min d.depth e.depth ≤ 50 ∧ nob d = true ∧ nob e = true
def ltW : W2 := fun d e R => match d, e with
  | .int i, .int j => R (.bool (decide (i < j)))
  | d, e => okLt d e ∧ R (.bool (PySem.W.dataLt d e))
def leW : W2 := fun d e R => match d, e with
  | .int i, .int j => R (.bool (decide (i ≤ j)))
  | d, e => okLt d e ∧ R (.bool (!PySem.W.dataLt e d))
def gtW : W2 := fun d e R => match d, e with
  | .int i, .int j => R (.bool (decide (j < i)))
  | d, e => okLt d e ∧ R (.bool (PySem.W.dataLt e d))
def geW : W2 := fun d e R => match d, e with
  | .int i, .int j => R (.bool (decide (j ≤ i)))
  | d, e => okLt d e ∧ R (.bool (!PySem.W.dataLt d e))
def isNn : PyData → Bool
  | .none => true
  | _ => false
def isW : W2 := fun d e R => match e with
  | .none => R (.bool (isNn d))
  | _ => False
def isntW : W2 := fun d e R => match e with
  | .none => R (.bool (!isNn d))
  | _ => False
def inW : W2 := fun d e R => match e with
  | .list xs => (PyData.plainAll xs = true ∧ d.plain = true ∧ min (PyData.depthAll xs) d.depth ≤ 50) ∧ R (.bool (xs.any fun y => PyData.eqv y d))
  | .tuple xs => (PyData.plainAll xs = true ∧ d.plain = true ∧ min (PyData.depthAll xs) d.depth ≤ 50) ∧ R (.bool (xs.any fun y => PyData.eqv y d))
  | _ => False
def ninW : W2 := fun d e R => match e with
  | .list xs => (PyData.plainAll xs = true ∧ d.plain = true ∧ min (PyData.depthAll xs) d.depth ≤ 50) ∧ R (.bool (!xs.any fun y => PyData.eqv y d))
  | .tuple xs => (PyData.plainAll xs = true ∧ d.plain = true ∧ min (PyData.depthAll xs) d.depth ≤ 50) ∧ R (.bool (!xs.any fun y => PyData.eqv y d))
  | _ => False
/-- x[i] -/
def ixW : W2 := fun d e R => match d, e with
  | .list xs, .int i => ∃ z, atI xs i = some z ∧ R z
  | .tuple xs, .int i => ∃ z, atI xs i = some z ∧ R z
  | _, _ => False
section
variable {X : Cx}
theorem DtAll.atI {H : Hp} {xs : List V} {ds : List PyData} {i : Int} {z : PyData} (h : DtAll H xs ds) (e : L2.atI ds i = some z) : ∃ v, L2.atI xs i = some v ∧ Dt H v z := by
  unfold L2.atI at e ⊢
  rw [h.length]
  cases hj : ixN ds.length i with
  | none => rw [hj] at e; cases e
  | some j =>
    rw [hj] at e
    exact h.getD e
theorem ixr_W {K : PySem.W.Frag} (hK : X.K = K) : IxR X (rD ixW) := by
  intro value slice pins s σ H x y v u Q I rx ry h hs
  obtain ⟨W, d, e, R, h1, h2, hw, k⟩ := h
  cases d <;> cases e <;> first | exact hw.elim | skip
  · obtain ⟨z, hz, hr⟩ := hw
    obtain ⟨a, xs, rfl, sq, al⟩ := h1.seqL (K := X.K)
    obtain ⟨w, hw, t⟩ := al.atI hz
    exact ix_list value slice pins s σ H _ _ v u Q I rx ry ⟨a, xs, _, w, rfl, h2.int, sq, hw, k z w H hr (Ex.refl H) t⟩ hs
  · obtain ⟨z, hz, hr⟩ := hw
    obtain ⟨a, o, xs, rfl, _, _, sq, al⟩ := h1.seqT (K := X.K)
    obtain ⟨w, hw, t⟩ := al.atI hz
    exact ix_tup value slice pins s σ H _ _ v u Q I rx ry ⟨a, xs, _, w, rfl, h2.int, sq, hw, k z w H hr (Ex.refl H) t⟩ hs
theorem op_subW : OpR X (binaryOp .Sub) (rD subW) := by
  intro pins s σ H x y v u Q I rx ry h
  obtain ⟨W, d, e, R, h1, h2, hw, k⟩ := h
  cases d <;> cases e <;> first | exact hw.elim | skip
  · obtain rfl := h1.bool; obtain rfl := h2.int; cases rx; obtain ⟨t, rfl⟩ := ry
    exact PySem.IntBool.sub_bool_int ⟨.int _, H, I.tok _, ⟨_, rfl⟩, k _ _ H hw (Ex.refl H) (.int _)⟩
  · obtain rfl := h1.int; obtain rfl := h2.bool; cases ry; obtain ⟨t, rfl⟩ := rx
    exact PySem.IntBool.sub_int_bool ⟨.int _, H, I.tok _, ⟨_, rfl⟩, k _ _ H hw (Ex.refl H) (.int _)⟩
  · obtain rfl := h1.int; obtain rfl := h2.int
    exact op_sub pins s σ H _ _ v u Q I rx ry ⟨_, _, rfl, rfl, k _ _ H hw (Ex.refl H) (.int _)⟩
theorem op_mulW : OpR X (binaryOp .Mult) (rD mulW) := by
  intro pins s σ H x y v u Q I rx ry h
  obtain ⟨W, d, e, R, h1, h2, hw, k⟩ := h
  cases d <;> cases e <;> first | exact hw.elim | skip
  obtain rfl := h1.int; obtain rfl := h2.int
  exact op_mul pins s σ H _ _ v u Q I rx ry ⟨_, _, rfl, rfl, hw.1, k _ _ H hw.2 (Ex.refl H) (.int _)⟩
theorem op_modW : OpR X (binaryOp .Mod) (rD modW) := by
  intro pins s σ H x y v u Q I rx ry h
  obtain ⟨W, d, e, R, h1, h2, hw, k⟩ := h
  cases d <;> cases e <;> first | exact hw.elim | skip
  obtain rfl := h1.int; obtain rfl := h2.int
  exact op_mod pins s σ H _ _ v u Q I rx ry ⟨_, _, rfl, rfl, hw.1, k _ _ H hw.2 (Ex.refl H) (.int _)⟩
theorem op_powW : OpR X (binaryOp .Pow) (rD powW) := by
  intro pins s σ H x y v u Q I rx ry h
  obtain ⟨W, d, e, R, h1, h2, hw, k⟩ := h
  cases d <;> cases e <;> first | exact hw.elim | skip
  obtain rfl := h1.int; obtain rfl := h2.int
  exact op_pow pins s σ H _ _ v u Q I rx ry ⟨_, _, rfl, rfl, hw.1, k _ _ H hw.2 (Ex.refl H) (.int _)⟩
/-! tuples -/
theorem op_catZ {pins : List (Addr × Obj)} {s : Shared} {σ : L2.St} {H : Hp} {Q : VK} {a b : Addr} {o o2 : Obj} {xs ys : List V} {ds es : List PyData} (I : Inv X pins σ H s) (ha : H a = some (.frz o (.tup xs))) (na : o.dict = none) (hx : DtAll H xs ds) (hb : H b = some (.frz o2 (.tup ys))) (nb : o2.dict = none) (hy : DtAll H ys es)
    (few : xs.length + ys.length ≤ 100000) (q : ∀ v H', Ex H H' → Dt H' v (.tuple (ds ++ es)) → Q v H') : wpAny (model X.prog X.w) X.A (binaryOp .Add (.ref a) (.ref b)) (EP X pins σ Q) X.xe s := by
  obtain ⟨its, r1, p1, _⟩ := I.tuple (show SqT X.K H a xs from .inl (.inr ⟨o, ha⟩))
  obtain ⟨its2, r2, p2, _⟩ := I.tuple (show SqT X.K H b ys from .inl (.inr ⟨o2, hb⟩))
  by_cases h0 : its = []
  · subst h0
    cases r1
    cases hx
    exact cat_tup0 p1 p2 ⟨.ref b, H, I, rfl, q _ H (Ex.refl H) (.tup hb nb hy)⟩
  · have l1 := r1.length
    have l2 := r2.length
    refine HT.cat_tup p1 p2 h0 (fun z => ?_) (fun z => ?_) (by rw [← l1, ← l2]; exact sz_of few)
    · subst z
      cases r2
      cases hy
      exact ⟨.ref a, H, I, rfl, q _ H (Ex.refl H) (by rw [List.append_nil]; exact .tup ha na hx)⟩
    · have nf : H s.heap.objs.size = none := I.hok.fresh (Nat.le_refl _)
      have here : (s.heap.push { cls := .type "tuple", data := .seq (its ++ its2).toArray }).get? s.heap.objs.size = some { cls := .type "tuple", data := .seq (its ++ its2).toArray } := Heap.get?_push_size _ rfl
      refine ⟨.ref s.heap.objs.size, _, I.laid (t' := s.toks) (o := .frz { cls := .type "tuple", data := .seq (its ++ its2).toArray } (.tup (xs ++ ys))) (fun b ob q => Heap.get?_push_of_some _ q) (Nat.le_refl _) ⟨here, ?_⟩, rfl, q _ _ (Ex.new nf) (.tup upd_same rfl ((hx.append hy).mono (Fk.ex (Ex.new nf))))⟩
      exact ⟨by rw [List.length_append]; exact sz_of few, _, r1.append r2, ⟨_, here, rfl, _, rfl⟩⟩
theorem Dq.lobj {W : Wld} {pins : List (Addr × Obj)} {s : Shared} {σ : L2.St} {H : Hp} {x : V} {v : Value} {ds : List PyData} (I : Inv X pins σ H s) (h : Dq W H x (.list ds)) (r : RelV x v) :
    ∃ a xs its n, v = .ref a ∧ DtAll H xs ds ∧ Vals xs its ∧ s.heap.get? a = some { cls := .type "list", data := .seq its.toArray n } := by
  rcases h with h | ⟨a, ds', rfl, e, _, xs, ha, hx⟩
  · obtain ⟨a, o, xs, rfl, h1, h2⟩ := h.lst_inv
    cases r
    obtain ⟨_, z, its, n, rv, ho⟩ := (show ObjOk X.prog X.w H s.heap a (.frz o (.lst xs)) from I.hok a _ h1)
    exact ⟨a, xs, its, n, rfl, h2, rv, ho⟩
  · cases e
    cases r
    obtain ⟨z, its, n, rv, ho⟩ := (show ObjOk X.prog X.w H s.heap a (.lst xs) from I.hok a _ ha)
    exact ⟨a, xs, its, n, rfl, hx, rv, ho⟩
/-- a new list, locked from the start -/
theorem Inv.lz {pins : List (Addr × Obj)} {s : Shared} {σ : L2.St} {H : Hp} {ys : List V} {its : List Value} (I : Inv X pins σ H s) (hv : Vals ys its) (hz : ys.length ≤ sizeLine) : Inv X pins σ (upd H s.heap.objs.size (.frz { cls := .type "list", data := .seq its.toArray } (.lst ys))) { s with heap := s.heap.push { cls := .type "list", data := .seq its.toArray } } := by
  have here : (s.heap.push { cls := .type "list", data := .seq its.toArray }).get? s.heap.objs.size = some { cls := .type "list", data := .seq its.toArray } := Heap.get?_push_size _ rfl
  exact I.laid (t' := s.toks) (fun _ _ q => Heap.get?_push_of_some _ q) (Nat.le_refl _) ⟨here, hz, its, 0, hv, here⟩
theorem op_addW : OpR X (binaryOp .Add) (rD addW) := by
  intro pins s σ H x y v u Q I rx ry h
  obtain ⟨W, d, e, R, h1, h2, hw, k⟩ := h
  cases d <;> cases e <;> first | exact hw.elim | skip
  · obtain rfl := h1.bool; obtain rfl := h2.int; cases rx; obtain ⟨t, rfl⟩ := ry
    exact PySem.IntBool.add_bool_int ⟨.int _, H, I.tok _, ⟨_, rfl⟩, k _ _ H hw (Ex.refl H) (.int _)⟩
  · obtain rfl := h1.int; obtain rfl := h2.bool; cases ry; obtain ⟨t, rfl⟩ := rx
    exact add_int_bool ⟨.int _, H, I.tok _, ⟨_, rfl⟩, k _ _ H hw (Ex.refl H) (.int _)⟩
  · obtain rfl := h1.int; obtain rfl := h2.int
    exact op_add pins s σ H _ _ v u Q I rx ry ⟨_, _, rfl, rfl, k _ _ H hw (Ex.refl H) (.int _)⟩
  · obtain rfl := h1.str; obtain rfl := h2.str
    exact op_add_str pins s σ H _ _ v u Q I rx ry ⟨_, _, rfl, rfl, sz_of hw.1, k _ _ H hw.2 (Ex.refl H) (.str _)⟩
  · obtain ⟨a, xs, its, n, rfl, t1, r1, e1⟩ := h1.lobj I rx
    obtain ⟨b, ys, its2, n2, rfl, t2, r2, e2⟩ := h2.lobj I ry
    have l1 := r1.length
    have l2 := r2.length
    have l3 := t1.length
    have l4 := t2.length
    have sz := sz_of hw.1
    refine PySem.P.add_list e1 e2 ?_ (by rw [List.size_toArray, List.size_toArray]; omega)
    have ea : its.toArray ++ its2.toArray = (its ++ its2).toArray := by simp
    rw [ea]
    have nf : H s.heap.objs.size = none := I.hok.fresh (Nat.le_refl _)
    exact ⟨.ref _, _, Inv.lz I (r1.append r2) (by rw [List.length_append]; omega), rfl, k _ _ _ hw.2 (Ex.new nf) (.lst upd_same ((t1.append t2).mono (Fk.ex (Ex.new nf))))⟩
  · obtain ⟨a, o, xs, rfl, ha, na, _, hx⟩ := h1.seqT (K := X.K)
    obtain ⟨b, o2, ys, rfl, hb, nb, _, hy⟩ := h2.seqT (K := X.K)
    cases rx
    cases ry
    exact op_catZ I ha na hx hb nb hy (by rw [hx.length, hy.length]; exact hw.1) fun v H' e t => k _ v H' hw.2 e t
/-! comparisons -/
theorem op_eq_gen (ho : XO X) {pins : List (Addr × Obj)} {s : Shared} {σ : L2.St} {H : Hp} {Q : VK} {W : Wld} {x y : V} {v u : Value} {d e : PyData} (I : Inv X pins σ H s) (h1 : Dq W H x d) (h2 : Dq W H y e) (rx : RelV x v) (ry : RelV y u) (ok : okEq d e) (q : Q (.bl (PyData.eqv d e)) H) :
    wpAny (model X.prog X.w) X.A (compareOp .Eq v u) (EP X pins σ Q) X.xe s := by
  obtain ⟨as, r1, _⟩ := h1.reads I (nob_plain _ ok.1) rx
  obtain ⟨bs, r2, _⟩ := h2.reads I (nob_plain _ ok.2.1) ry
  have := ho.un
  exact SeqAt.eq_plain r1 r2 ok.1 ok.2.1 (by have := ok.2.2; omega) ⟨.bl _, H, I, rfl, q⟩
theorem op_ne_gen (ho : XO X) {pins : List (Addr × Obj)} {s : Shared} {σ : L2.St} {H : Hp} {Q : VK} {W : Wld} {x y : V} {v u : Value} {d e : PyData} (I : Inv X pins σ H s) (h1 : Dq W H x d) (h2 : Dq W H y e) (rx : RelV x v) (ry : RelV y u) (ok : okEq d e) (q : Q (.bl (!PyData.eqv d e)) H) :
    wpAny (model X.prog X.w) X.A (compareOp .NotEq v u) (EP X pins σ Q) X.xe s := by
  obtain ⟨as, r1, _⟩ := h1.reads I (nob_plain _ ok.1) rx
  obtain ⟨bs, r2, _⟩ := h2.reads I (nob_plain _ ok.2.1) ry
  have := ho.un
  exact SeqAt.ne_plain r1 r2 ok.1 ok.2.1 (by have := ok.2.2; omega) ⟨.bl _, H, I, rfl, q⟩
theorem emptyL {W : Wld} {pins : List (Addr × Obj)} {s : Shared} {σ : L2.St} {H : Hp} {x : V} {v : Value} {ds : List PyData} (I : Inv X pins σ H s) (h : Dq W H x (.list ds)) (r : RelV x v) : ∃ a its, v = .ref a ∧ s.heap.IsList a its ∧ its.size = ds.length := by
  obtain ⟨a, xs, rfl, sq, al⟩ := h.seqL (K := X.K)
  cases r
  obtain ⟨its, rv, pl, _⟩ := I.list sq
  exact ⟨a, its.toArray, rfl, pl.isList, by rw [List.size_toArray, ← rv.length, al.length]⟩
theorem emptyT {W : Wld} {pins : List (Addr × Obj)} {s : Shared} {σ : L2.St} {H : Hp} {x : V} {v : Value} {ds : List PyData} (I : Inv X pins σ H s) (h : Dq W H x (.tuple ds)) (r : RelV x v) : ∃ a its, v = .ref a ∧ IsTup s.heap a its ∧ its.size = ds.length := by
  obtain ⟨a, o, xs, rfl, _, _, sq, al⟩ := h.seqT (K := X.K)
  cases r
  obtain ⟨its, rv, pl, _⟩ := I.tuple sq
  exact ⟨a, its.toArray, rfl, pl, by rw [List.size_toArray, ← rv.length, al.length]⟩
theorem op_eqW (ho : XO X) : OpR X (compareOp .Eq) (rD eqW) := by
  intro pins s σ H x y v u Q I rx ry h
  obtain ⟨W, d, e, R, h1, h2, hw, k⟩ := h
  have un := ho.un
  have fin : ∀ c, R (.bool c) → Q (.bl c) H := fun c r => k _ _ H r (Ex.refl H) (.bl c)
  unfold eqW at hw
  split at hw
  · obtain rfl := h1.int; obtain rfl := h2.int
    obtain ⟨t, rfl⟩ := rx; obtain ⟨t', rfl⟩ := ry
    exact eq_int (by rw [Bool.beq_eq_decide_eq]; exact ⟨.bl _, H, I, rfl, fin _ hw⟩)
  · obtain rfl := h1.str; obtain rfl := h2.str
    exact op_eq pins s σ H _ _ v u Q I rx ry ⟨rfl, by have := fin _ hw; simpa using this⟩
  · obtain ⟨a, its, rfl, ta, la⟩ := emptyT I h1 rx
    obtain ⟨b, its2, rfl, tb, lb⟩ := emptyT I h2 ry
    rename_i ds
    refine SeqAt.RcAt.tuples (e := fun _ => true) ta tb (by omega) (fun j h1 h2 => by simp [lb] at h2) X.prog X.w X.xe _ ⟨.bl ds.isEmpty, H, I, ?_, fin _ hw⟩
    show _ = _
    congr 1
    cases ds <;> simp_all
  · obtain ⟨a, its, rfl, ta, la⟩ := emptyL I h1 rx
    obtain ⟨b, its2, rfl, tb, lb⟩ := emptyL I h2 ry
    rename_i ds
    cases ds with
    | nil => exact SeqAt.RcAt.lists (e := fun _ => true) ta tb (by rw [la, lb]) (by omega) (fun j h1 h2 => by simp [lb] at h2) X.prog X.w X.xe _ ⟨.bl true, H, I, by show _ = _; congr 1; simp, fin _ hw⟩
    | cons d ds => exact SeqAt.RcAt.lists_lengths ta tb (by rw [la, lb]; simp) (by omega) X.prog X.w X.xe _ ⟨.bl false, H, I, rfl, fin _ hw⟩
  · exact op_eq_gen ho I h1 h2 rx ry hw.1 (fin _ hw.2)
theorem op_neW (ho : XO X) : OpR X (compareOp .NotEq) (rD neW) := by
  intro pins s σ H x y v u Q I rx ry h
  obtain ⟨W, d, e, R, h1, h2, hw, k⟩ := h
  have un := ho.un
  have fin : ∀ c, R (.bool c) → Q (.bl c) H := fun c r => k _ _ H r (Ex.refl H) (.bl c)
  unfold neW at hw
  split at hw
  · obtain rfl := h1.int; obtain rfl := h2.int
    obtain ⟨t, rfl⟩ := rx; obtain ⟨t', rfl⟩ := ry
    exact ne_int (by rw [bne, Bool.beq_eq_decide_eq]; exact ⟨.bl _, H, I, rfl, fin _ hw⟩)
  · obtain rfl := h1.str; obtain rfl := h2.str
    exact op_ne pins s σ H _ _ v u Q I rx ry ⟨rfl, by have := fin _ hw; simpa using this⟩
  · obtain ⟨a, its, rfl, ta, la⟩ := emptyT I h1 rx
    obtain ⟨b, its2, rfl, tb, lb⟩ := emptyT I h2 ry
    rename_i ds
    refine SeqAt.RcNeAt.tuples (e := fun _ => true) ta tb (by omega) (fun j h1 h2 => by simp [lb] at h2) X.prog X.w X.xe _ ⟨.bl (!ds.isEmpty), H, I, ?_, fin _ hw⟩
    show _ = _
    congr 1
    cases ds <;> simp_all
  · obtain ⟨a, its, rfl, ta, la⟩ := emptyL I h1 rx
    obtain ⟨b, its2, rfl, tb, lb⟩ := emptyL I h2 ry
    rename_i ds
    cases ds with
    | nil => exact SeqAt.RcNeAt.lists (e := fun _ => true) ta tb (by rw [la, lb]) (by omega) (fun j h1 h2 => by simp [lb] at h2) X.prog X.w X.xe _ ⟨.bl false, H, I, by show _ = _; congr 1; simp, fin _ hw⟩
    | cons d ds => exact SeqAt.RcNeAt.lists_lengths ta tb (by rw [la, lb]; simp) (by omega) X.prog X.w X.xe _ ⟨.bl true, H, I, rfl, fin _ hw⟩
  · exact op_ne_gen ho I h1 h2 rx ry hw.1 (fin _ hw.2)
theorem ord_gen (ho : XO X) {op : CmpOp} {w : W2} {f : PyData → PyData → Bool} {g : Int → Int → Bool} (rule : ∀ {A : Around} {s : Shared} {a b : Value} {da db : PyData} {as bs : List Addr} {Q : Value → Shared → Prop}, Reads s.heap a da as → Reads s.heap b db bs → PySem.W.alike da db = true → da ≠ .none → A.units + min da.depth db.depth < cLine → Q (.bool (f da db)) s → wpAny (model X.prog X.w) A (compareOp op a b) Q X.xe s)
    (hints : OpR X (compareOp op) (rI0 fun i j => .bl (g i j))) (hw : ∀ d e R, w d e R → (∃ i j, d = .int i ∧ e = .int j ∧ R (.bool (g i j))) ∨ (okLt d e ∧ R (.bool (f d e)))) : OpR X (compareOp op) (rD w) := by
  intro pins s σ H x y v u Q I rx ry h
  obtain ⟨W, d, e, R, h1, h2, hw', k⟩ := h
  have un := ho.un
  rcases hw d e R hw' with ⟨i, j, rfl, rfl, r⟩ | ⟨ok, r⟩
  · obtain rfl := h1.int; obtain rfl := h2.int
    exact hints pins s σ H _ _ v u Q I rx ry ⟨_, _, rfl, rfl, k _ _ H r (Ex.refl H) (.bl _)⟩
  · obtain ⟨as, r1, _⟩ := h1.reads I ok.2.2.2.1 rx
    obtain ⟨bs, r2, _⟩ := h2.reads I ok.2.2.2.2 ry
    exact rule r1 r2 ok.1 ok.2.1 (by have := ok.2.2.1; omega) ⟨.bl _, H, I, rfl, k _ _ H r (Ex.refl H) (.bl _)⟩
theorem op_ltW (ho : XO X) : OpR X (compareOp .Lt) (rD ltW) := ord_gen ho (f := fun d e => PySem.W.dataLt d e) (fun a b c d e f => PySem.W.lt_data a b c d e f) op_lt fun d e R h => by
  unfold ltW at h
  split at h
  · exact .inl ⟨_, _, rfl, rfl, h⟩
  · exact .inr h
theorem op_leW (ho : XO X) : OpR X (compareOp .LtE) (rD leW) := ord_gen ho (f := fun d e => !PySem.W.dataLt e d) (fun a b c d e f => PySem.W.le_data a b c d e f) op_le fun d e R h => by
  unfold leW at h
  split at h
  · exact .inl ⟨_, _, rfl, rfl, h⟩
  · exact .inr h
theorem op_gtW (ho : XO X) : OpR X (compareOp .Gt) (rD gtW) := ord_gen ho (f := fun d e => PySem.W.dataLt e d) (fun a b c d e f => PySem.W.gt_data a b c d e f) op_gt fun d e R h => by
  unfold gtW at h
  split at h
  · exact .inl ⟨_, _, rfl, rfl, h⟩
  · exact .inr h
theorem Dq.isNn {W : Wld} {H : Hp} {v : V} {d : PyData} (h : Dq W H v d) : decide (v = .non) = isNn d := by
  rcases h with h | ⟨a, ds', rfl, rfl, _⟩
  · cases h <;> simp [Wp.isNn, refD]
  · simp [Wp.isNn]
theorem op_inW (ho : XO X) : OpR X (compareOp .In) (rD inW) := by
  intro pins s σ H x y v u Q I rx ry h
  obtain ⟨W, d, e, R, h1, h2, hw, k⟩ := h
  have un := ho.un
  cases e <;> first | exact hw.elim | skip
  · obtain ⟨⟨a, b, c⟩, r⟩ := hw
    obtain ⟨as, r1, _⟩ := h1.reads I (nob_plain _ b) rx
    obtain ⟨bs, r2, _⟩ := h2.reads I (by simp only [nob]; exact nobAll_plain _ a) ry
    exact SeqAt.in_list_data r2 r1 a b (by omega) ⟨.bl _, H, I, rfl, k _ _ H r (Ex.refl H) (.bl _)⟩
  · obtain ⟨⟨a, b, c⟩, r⟩ := hw
    obtain ⟨as, r1, _⟩ := h1.reads I (nob_plain _ b) rx
    obtain ⟨bs, r2, _⟩ := h2.reads I (by simp only [nob]; exact nobAll_plain _ a) ry
    exact SeqAt.in_tuple_data r2 r1 a b (by omega) ⟨.bl _, H, I, rfl, k _ _ H r (Ex.refl H) (.bl _)⟩
theorem op_ninW (ho : XO X) : OpR X (compareOp .NotIn) (rD ninW) := by
  intro pins s σ H x y v u Q I rx ry h
  obtain ⟨W, d, e, R, h1, h2, hw, k⟩ := h
  have un := ho.un
  cases e <;> first | exact hw.elim | skip
  · obtain ⟨⟨a, b, c⟩, r⟩ := hw
    obtain ⟨as, r1, _⟩ := h1.reads I (nob_plain _ b) rx
    obtain ⟨bs, r2, _⟩ := h2.reads I (by simp only [nob]; exact nobAll_plain _ a) ry
    exact SeqAt.notIn_list_data r2 r1 a b (by omega) ⟨.bl _, H, I, rfl, k _ _ H r (Ex.refl H) (.bl _)⟩
  · obtain ⟨⟨a, b, c⟩, r⟩ := hw
    obtain ⟨as, r1, _⟩ := h1.reads I (nob_plain _ b) rx
    obtain ⟨bs, r2, _⟩ := h2.reads I (by simp only [nob]; exact nobAll_plain _ a) ry
    exact SeqAt.notIn_tuple_data r2 r1 a b (by omega) ⟨.bl _, H, I, rfl, k _ _ H r (Ex.refl H) (.bl _)⟩
end
end Wp

namespace Wp
open PySem PySem.Spec PyProof.Rows L2 Evl
/-! ### displays -/
def mNil : WL := fun _ b R => R [] b
def mCons (m : WE) (ms : WL) : WL := fun E b R => m E b fun d b1 => ms E b1 fun ds b2 => R (d :: ds) b2
def mTup (ms : WL) : WE := fun E b R => ms E b fun ds b1 => ds.length ≤ 100000 ∧ R (.tuple ds) b1
def mLst (ms : WL) : WL := fun E b R => ms E b fun ds b1 => ds.length ≤ 100000 ∧ R ds b1
def mLk (m : WL) : WE := fun E b R => m E b fun ds b1 => R (.list ds) b1
section
variable {X : Cx} {e a b : Expr} {es : List Expr} {m ma mb : WE} {ms : WL} {pos : Pos}
theorem pm_anil : PA X [] (tA mNil) := pa_nil.weak fun σ H Q ⟨W, H0, E, b, R, S, hm, k⟩ => k [] b [] H hm Kp.refl S.dk .nil
theorem pm_acons (ha : PE X e (tE m)) (hr : PA X es (tA ms)) (hs : starEach (e :: es) X.env = (false, eval e X.env) :: starEach es X.env := by rfl) : PA X (e :: es) (tA (mCons m ms)) := (pa_cons ha hr hs).weak fun σ H Q ⟨W, H0, E, b, R, S, hm, k⟩ =>
  ⟨W, H0, E, b, _, S, hm, fun d b1 v H1 h1 k1 d1 t1 => ⟨W, H0, E, b1, _, S.step k1 d1, h1, fun ds b2 vs H2 h2 k2 d2 t2 => k _ b2 _ H2 h2 (k1.trans k2) d2 (.cons (t1.mono (W.fk d1 k2)) t2)⟩⟩
def tTupZ (t : TA) : TE := fun σ H Q => t σ H fun xs H1 => xs.length ≤ sizeLine ∧ ∀ p o, H1 p = none → o.dict = none → Q (.ref p) (upd H1 p (.frz o (.tup xs)))
theorem pe_tupZ {k : Nat} {t : TA} (h : PA X es t) : PE X (.Tuple es k pos) (tTupZ t) := by
  refine ⟨fun pins s σ H Q I hq => ?_⟩
  refine wpAny_Tuple_spliced (thn (h.run pos pins s σ H _ I hq) fun us s1 ⟨xs, H1, I1, r, z, q⟩ => ⟨by rw [← r.length]; exact z, ?_⟩)
  have nf : H1 s1.heap.objs.size = none := I1.hok.fresh (Nat.le_refl _)
  have here : (s1.heap.push { cls := .type "tuple", data := .seq us.toArray }).get? s1.heap.objs.size = some { cls := .type "tuple", data := .seq us.toArray } := Heap.get?_push_size _ rfl
  exact ⟨.ref s1.heap.objs.size, upd H1 s1.heap.objs.size (.frz { cls := .type "tuple", data := .seq us.toArray } (.tup xs)), I1.laid (t' := s1.toks) (fun b u e => Heap.get?_push_of_some _ e) (Nat.le_refl _) ⟨here, z, us, r, ⟨_, here, rfl, _, rfl⟩⟩, rfl, q _ _ nf rfl⟩
theorem pm_tup {k : Nat} (h : PA X es (tA ms)) : PE X (.Tuple es k pos) (tE (mTup ms)) := (pe_tupZ h).weak fun σ H Q ⟨W, H0, E, b, R, S, hm, k⟩ =>
  ⟨W, H0, E, b, _, S, hm, fun ds b1 vs H1 h1 k1 d1 t1 => ⟨sz_of (by rw [t1.length]; exact h1.1), fun p o np no => k _ b1 _ _ h1.2 (k1.trans (Kp.ex (Ex.new np))) (W.ex (Ex.new np) d1) (.tup upd_same no (t1.mono (Fk.ex (Ex.new np))))⟩⟩
theorem pm_lst (h : PA X es (tA ms)) : PE X (.List es pos) (tL (mLst ms)) := (pe_lst h).weak fun σ H Q ⟨W, H0, E, b, R, S, hm, k⟩ =>
  ⟨W, H0, E, b, _, S, hm, fun ds b1 vs H1 h1 k1 d1 t1 => ⟨sz_of (by rw [t1.length]; exact h1.1), fun p np => k _ b1 p vs _ h1.2 (k1.trans (Kp.ex (Ex.new np))) (W.ex (Ex.new np) d1) (k1.back (W.free d1 np) np) upd_same (t1.mono (Fk.ex (Ex.new np)))⟩⟩
/-- a new list is locked -/
def tLz (t : TE) : TE := fun σ H Q => t σ H fun v H1 => ∃ a xs, v = .ref a ∧ H1 a = some (.lst xs) ∧ ∀ o, Q (.ref a) (upd H1 a (.frz o (.lst xs)))
theorem pe_lz {t : TE} (h : PE X e t) : PE X e (tLz t) := by
  refine ⟨fun pins s σ H Q I hq => thn (h.run pins s σ H _ I hq) fun u s1 ⟨v, H1, I1, r, a, xs, ev, ha, q⟩ => ?_⟩
  subst ev
  obtain ⟨z, its, n, rv, ho⟩ := (show ObjOk X.prog X.w H1 s1.heap a (.lst xs) from I1.hok a _ ha)
  refine ⟨.ref a, upd H1 a (.frz { cls := .type "list", data := .seq its.toArray n } (.lst xs)), ?_, r, q _⟩
  exact I1.write (t' := s1.toks) (h' := s1.heap) (by rw [ha]; exact True.intro) (.inl rfl) (fun b u _ e => e) ⟨_, ho⟩ ⟨ho, z, its, n, rv, ho⟩
theorem fk_lock {H : Hp} {a : Addr} {o : Obj} {xs : List V} (h : H a = some (.lst xs)) : Fk H (upd H a (.frz o (.lst xs))) := fun p o' u e => by
  rw [upd_ne (ne_of e h (by intro z; cases z))]
  exact e
theorem _root_.L2.PE.lk (h : PE X e (tL ms)) : PE X e (tE (mLk ms)) := (pe_lz h).weak fun σ H Q ⟨W, H0, E, b, R, S, hm, k⟩ =>
  ⟨W, H0, E, b, _, S, hm, fun ds b1 a xs H1 h1 k1 d1 na ha t1 => ⟨a, xs, rfl, ha, fun o => k _ b1 _ _ h1 (k1.mut na) (W.put (W.free S.dk na) (loose_at ha rfl) d1) (.lst upd_same (t1.mono (fk_lock ha)))⟩⟩
theorem _root_.L2.PE.lq (h : PE X e (tL ms)) : PE X e (tQ (mLk ms)) := h.weak fun σ H Q ⟨W, H0, E, b, R, S, hm, k⟩ =>
  ⟨W, H0, E, b, _, S, hm, fun ds b1 a xs H1 h1 k1 d1 na ha t1 => k _ b1 _ _ h1 k1 d1 (.inr ⟨a, ds, rfl, rfl, W.free S.dk na, xs, ha, t1⟩)⟩
/-! ### list + list -/
def mCat (ma mb : WE) : WL := fun E b R => ma E b fun x b1 => mb E b1 fun y b2 => match x, y with
  | .list xs, .list ys => xs.length + ys.length ≤ 100000 ∧ R (xs ++ ys) b2
  | _, _ => False
def rCatD : R2 := fun x y H Q => ∃ (W : Wld) (ds es : List PyData), Dq W H x (.list ds) ∧ Dq W H y (.list es) ∧ ds.length + es.length ≤ 100000 ∧ ∀ a xs, H a = none → DtAll H xs (ds ++ es) → Q (.ref a) (upd H a (.lst xs))
/-! ### builtins over data -/
abbrev WB := List PyData → (PyData → Prop) → Prop
abbrev WBL := List PyData → (List PyData → Prop) → Prop
abbrev DqAll (W : Wld) (H : Hp) : List V → List PyData → Prop := Paired (Dq W H)
theorem DqAll.step {W : Wld} {H H1 : Hp} {n : Bt} (dk : W.Dk n H) (k : Kp W.M H H1) : ∀ {vs : List V} {ds : List PyData}, DqAll W H vs ds → DqAll W H1 vs ds
  | _, _, .nil => .nil
  | _, _, .cons a r => .cons (a.step dk k) (DqAll.step dk k r)
def tAq (m : WL) : TA := fun σ H Q => ∃ W H0 E b R, Sit W H0 σ H E b ∧ m E b R ∧ ∀ ds b' vs H', R ds b' → Kp W.M H H' → W.Dk b' H' → DqAll W H' vs ds → Q vs H'
theorem pm_qnil : PA X [] (tAq mNil) := pa_nil.weak fun σ H Q ⟨W, H0, E, b, R, S, hm, k⟩ => k [] b [] H hm Kp.refl S.dk .nil
theorem pm_qcons (ha : PE X e (tQ m)) (hr : PA X es (tAq ms)) (hs : starEach (e :: es) X.env = (false, eval e X.env) :: starEach es X.env := by rfl) : PA X (e :: es) (tAq (mCons m ms)) := (pa_cons ha hr hs).weak fun σ H Q ⟨W, H0, E, b, R, S, hm, k⟩ =>
  ⟨W, H0, E, b, _, S, hm, fun d b1 v H1 h1 k1 d1 t1 => ⟨W, H0, E, b1, _, S.step k1 d1, h1, fun ds b2 vs H2 h2 k2 d2 t2 => k _ b2 _ H2 h2 (k1.trans k2) d2 (.cons (t1.step d1 k2) t2)⟩⟩
def rC (w : WB) : List V → Hp → VK → Prop := fun vs H Q => ∃ (W : Wld) (ds : List PyData) (R : PyData → Prop), DqAll W H vs ds ∧ w ds R ∧ ∀ z v H', R z → Ex H H' → Dt H' v z → Q v H'
def rCL (w : WBL) : List V → Hp → VK → Prop := fun vs H Q => ∃ (W : Wld) (ds : List PyData) (R : List PyData → Prop), DqAll W H vs ds ∧ w ds R ∧ ∀ zs a xs H', R zs → Ex H H' → H a = none → H' a = some (.lst xs) → DtAll H' xs zs → Q (.ref a) H'
def mCB (w : WB) (ms : WL) : WE := fun E b R => ms E b fun ds b1 => w ds fun z => R z b1
def mCL (w : WBL) (ms : WL) : WL := fun E b R => ms E b fun ds b1 => w ds fun z => R z b1
theorem tCB_of {w : WB} {σ : L2.St} {H : Hp} {Q : VK} (h : tE (mCB w ms) σ H Q) : tCB (rC w) (tAq ms) σ H Q := by
  obtain ⟨W, H0, E, b, R, S, hm, k⟩ := h
  exact ⟨W, H0, E, b, _, S, hm, fun ds b1 vs H1 h1 k1 d1 t1 => ⟨W, ds, _, t1, h1, fun z v H2 hz e2 t2 => k z b1 v H2 hz (k1.trans (Kp.ex e2)) (W.ex e2 d1) t2⟩⟩
theorem tCL_of {w : WBL} {σ : L2.St} {H : Hp} {Q : VK} (h : tL (mCL w ms) σ H Q) : tCB (rCL w) (tAq ms) σ H Q := by
  obtain ⟨W, H0, E, b, R, S, hm, k⟩ := h
  exact ⟨W, H0, E, b, _, S, hm, fun ds b1 vs H1 h1 k1 d1 t1 => ⟨W, ds, _, t1, h1, fun zs a xs H2 hz e2 na ha t2 => k zs b1 a xs H2 hz (k1.trans (Kp.ex e2)) (W.ex e2 d1) (k1.back (W.free d1 na) na) ha t2⟩⟩
variable {x : Str} {p : Pos} {id T : String}
theorem pm_callB {w : WB} (hc : CallR X (.builtin id) (rC w)) (hg : Gl X x) (hm : X.mg x = none) (hv : bootBuiltins x = some (.builtin id)) (ha : PA X (e :: es) (tAq ms)) (hn : x ≠ "__name__" := by decide) (hdb : (x == ("__debug__" : Str)) = false := by decide)
    (he : starEach (e :: es) X.env = (false, eval e X.env) :: starEach es X.env := by rfl) (hpl : (backTo pos (starEach es X.env)).any (·.1) = false := by rfl) : PE X (.Call (.Name x p) (e :: es) [] pos) (tE (mCB w ms)) := (pe_callB hc hg hm hv ha hn hdb he hpl).weak fun _ _ _ => tCB_of
theorem pm_callTy {w : WB} (hc : CallR X (.type T) (rC w)) (hg : Gl X x) (hm : X.mg x = none) (hv : bootBuiltins x = some (.type T)) (ha : PA X (e :: es) (tAq ms)) (hn : x ≠ "__name__" := by decide) (hdb : (x == ("__debug__" : Str)) = false := by decide)
    (he : starEach (e :: es) X.env = (false, eval e X.env) :: starEach es X.env := by rfl) (hpl : (backTo pos (starEach es X.env)).any (·.1) = false := by rfl) : PE X (.Call (.Name x p) (e :: es) [] pos) (tE (mCB w ms)) := (pe_callTy hc hg hm hv ha hn hdb he hpl).weak fun _ _ _ => tCB_of
theorem pm_callBL {w : WBL} (hc : CallR X (.builtin id) (rCL w)) (hg : Gl X x) (hm : X.mg x = none) (hv : bootBuiltins x = some (.builtin id)) (ha : PA X (e :: es) (tAq ms)) (hn : x ≠ "__name__" := by decide) (hdb : (x == ("__debug__" : Str)) = false := by decide)
    (he : starEach (e :: es) X.env = (false, eval e X.env) :: starEach es X.env := by rfl) (hpl : (backTo pos (starEach es X.env)).any (·.1) = false := by rfl) : PE X (.Call (.Name x p) (e :: es) [] pos) (tL (mCL w ms)) := (pe_callB hc hg hm hv ha hn hdb he hpl).weak fun _ _ _ => tCL_of
/-! len, abs, sum, min, max, all, any, tuple, list, int -/
def lenW : WB := fun ds R => match ds with
  | [.list xs] => R (.int xs.length)
  | [.tuple xs] => R (.int xs.length)
  | _ => False
def absW : WB := fun ds R => match ds with
  | [.int i] => R (.int (if i < 0 then -i else i))
  | _ => False
def sumW : WB := fun ds R => match ds with
  | [.list xs] => ∃ ns : List Int, xs = ns.map PyData.int ∧ R (.int ns.sum)
  | _ => False
def minW : WB := fun ds R => match ds with
  | [.int i, .int j] => R (.int (if j < i then j else i))
  | [.list xs] => ∃ ns : List Int, xs = ns.map PyData.int ∧ 0 < ns.length ∧ ∀ m, m ∈ ns → (∀ y ∈ ns, m ≤ y) → R (.int m)
  | _ => False
def maxW : WB := fun ds R => match ds with
  | [.int i, .int j] => R (.int (if j > i then j else i))
  | [.list xs] => ∃ ns : List Int, xs = ns.map PyData.int ∧ 0 < ns.length ∧ ∀ m, m ∈ ns → (∀ y ∈ ns, y ≤ m) → R (.int m)
  | _ => False
def allW : WB := fun ds R => match ds with
  | [.list xs] => ∃ bs : List Bool, xs = bs.map PyData.bool ∧ R (.bool (bs.all _root_.id))
  | _ => False
def anyW : WB := fun ds R => match ds with
  | [.list xs] => ∃ bs : List Bool, xs = bs.map PyData.bool ∧ R (.bool (bs.any _root_.id))
  | _ => False
def tupW : WB := fun ds R => match ds with
  | [.list xs] => R (.tuple xs)
  | [.tuple xs] => R (.tuple xs)
  | _ => False
def lstW : WBL := fun ds R => match ds with
  | [.list xs] => R xs
  | [.tuple xs] => R xs
  | _ => False
def intW : WB := fun ds R => match ds with
  | [.int i] => R (.int i)
  | [.bool c] => R (.int (if c then 1 else 0))
  | _ => False
theorem dq1 {W : Wld} {H : Hp} {vs : List V} {d : PyData} (h : DqAll W H vs [d]) : ∃ v, vs = [v] ∧ Dq W H v d := by
  cases h with
  | cons a r => cases r; exact ⟨_, rfl, a⟩
theorem dq2 {W : Wld} {H : Hp} {vs : List V} {d e : PyData} (h : DqAll W H vs [d, e]) : ∃ v u, vs = [v, u] ∧ Dq W H v d ∧ Dq W H u e := by
  cases h with
  | cons a r => cases r with | cons b r => cases r; exact ⟨_, _, rfl, a, b⟩
theorem DtAll.bools_inv {H : Hp} : ∀ {ns : List Bool} {xs : List V}, DtAll H xs (ns.map PyData.bool) → xs = ns.map V.bl
  | [], _, h => by cases h; rfl
  | n :: ns, _, h => by
    cases h with
    | cons a b => cases a; rw [List.map_cons, b.bools_inv]
theorem Dq.ints {W : Wld} {K : PySem.W.Frag} {H : Hp} {v : V} {ns : List Int} (h : Dq W H v (.list (ns.map PyData.int))) : ∃ a, v = .ref a ∧ SqL K H a (ns.map V.int) := by
  obtain ⟨a, xs, rfl, sq, al⟩ := h.seqL (K := K)
  rw [al.ints_inv] at sq
  exact ⟨a, rfl, sq⟩
theorem Dq.bools {W : Wld} {K : PySem.W.Frag} {H : Hp} {v : V} {ns : List Bool} (h : Dq W H v (.list (ns.map PyData.bool))) : ∃ a, v = .ref a ∧ SqL K H a (ns.map V.bl) := by
  obtain ⟨a, xs, rfl, sq, al⟩ := h.seqL (K := K)
  rw [al.bools_inv] at sq
  exact ⟨a, rfl, sq⟩
theorem cr_lenW : CallR X (.builtin "len") (rC lenW) := by
  intro pins s σ H vs us Q I r h
  obtain ⟨W, ds, R, h1, hw, k⟩ := h
  unfold lenW at hw
  split at hw
  · obtain ⟨v, rfl, t⟩ := dq1 h1
    obtain ⟨a, xs, rfl, sq, al⟩ := t.seqL (K := X.K)
    exact call_len_seq pins s σ H _ us Q I r ⟨a, xs, rfl, .inl sq, k _ _ H (by rw [al.length]; exact hw) (Ex.refl H) (.int _)⟩
  · obtain ⟨v, rfl, t⟩ := dq1 h1
    obtain ⟨a, o, xs, rfl, _, _, sq, al⟩ := t.seqT (K := X.K)
    exact call_len_seq pins s σ H _ us Q I r ⟨a, xs, rfl, .inr sq, k _ _ H (by rw [al.length]; exact hw) (Ex.refl H) (.int _)⟩
  · exact hw.elim
theorem cr_sumW (ho : XO X) : CallR X (.builtin "sum") (rC sumW) := by
  intro pins s σ H vs us Q I r h
  obtain ⟨W, ds, R, h1, hw, k⟩ := h
  unfold sumW at hw
  split at hw
  · obtain ⟨ns, rfl, hr⟩ := hw
    obtain ⟨v, rfl, t⟩ := dq1 h1
    obtain ⟨a, rfl, sq⟩ := t.ints (K := X.K)
    exact cr_sum ho.calm pins s σ H _ us Q I r ⟨a, ns, rfl, sq, k _ _ H hr (Ex.refl H) (.int _)⟩
  · exact hw.elim
theorem cr_allW (ho : XO X) : CallR X (.builtin "all") (rC allW) := by
  intro pins s σ H vs us Q I r h
  obtain ⟨W, ds, R, h1, hw, k⟩ := h
  unfold allW at hw
  split at hw
  · obtain ⟨ns, rfl, hr⟩ := hw
    obtain ⟨v, rfl, t⟩ := dq1 h1
    obtain ⟨a, rfl, sq⟩ := t.bools (K := X.K)
    exact cr_all ho.calm pins s σ H _ us Q I r ⟨a, ns, rfl, sq, k _ _ H hr (Ex.refl H) (.bl _)⟩
  · exact hw.elim
theorem cr_anyW (ho : XO X) : CallR X (.builtin "any") (rC anyW) := by
  intro pins s σ H vs us Q I r h
  obtain ⟨W, ds, R, h1, hw, k⟩ := h
  unfold anyW at hw
  split at hw
  · obtain ⟨ns, rfl, hr⟩ := hw
    obtain ⟨v, rfl, t⟩ := dq1 h1
    obtain ⟨a, rfl, sq⟩ := t.bools (K := X.K)
    exact cr_any ho.calm pins s σ H _ us Q I r ⟨a, ns, rfl, sq, k _ _ H hr (Ex.refl H) (.bl _)⟩
  · exact hw.elim
theorem cr_intW : CallR X (.type "int") (rC intW) := by
  intro pins s σ H vs us Q I r h
  obtain ⟨W, ds, R, h1, hw, k⟩ := h
  unfold intW at hw
  split at hw
  · obtain ⟨v, rfl, t⟩ := dq1 h1
    obtain rfl := t.int
    exact call_int1 pins s σ H _ us Q I r (.inl ⟨_, rfl, k _ _ H hw (Ex.refl H) (.int _)⟩)
  · obtain ⟨v, rfl, t⟩ := dq1 h1
    obtain rfl := t.bool
    exact call_int1 pins s σ H _ us Q I r (.inr ⟨_, rfl, k _ _ H hw (Ex.refl H) (.int _)⟩)
  · exact hw.elim
theorem cr_tupW : CallR X (.type "tuple") (rC tupW) := by
  intro pins s σ H vs us Q I r h
  obtain ⟨W, ds, R, h1, hw, k⟩ := h
  unfold tupW at hw
  split at hw
  · obtain ⟨v, rfl, t⟩ := dq1 h1
    obtain ⟨a, ys, rfl, sq, al⟩ := t.seqL (K := X.K)
    obtain ⟨_, rfl, rp⟩ := vals1 r
    cases rp
    obtain ⟨its, rv, pl, size⟩ := I.list sq
    have len := rv.length
    refine call_tuple_list pl.isList (fun h' kp => ?_) (by simp only [List.size_toArray]; omega)
    have I1 := I.kept (h' := h') (t' := s.toks) kp
    have nf : H h'.objs.size = none := I1.hok.fresh (Nat.le_refl _)
    have here : (h'.push { cls := .type "tuple", data := .seq its.toArray }).get? h'.objs.size = some { cls := .type "tuple", data := .seq its.toArray } := Heap.get?_push_size _ rfl
    exact ⟨.ref h'.objs.size, _, I1.laid (o := .frz { cls := .type "tuple", data := .seq its.toArray } (.tup ys)) (t' := s.toks) (fun b o e => Heap.get?_push_of_some _ e) (Nat.le_refl _) ⟨here, size, its, rv, ⟨_, here, rfl, _, rfl⟩⟩, rfl,
      k _ _ _ hw (Ex.new nf) (.tup upd_same rfl (al.mono (Fk.ex (Ex.new nf))))⟩
  · obtain ⟨v, rfl, t⟩ := dq1 h1
    obtain ⟨a, o, xs, rfl, ha, na, sq, al⟩ := t.seqT (K := X.K)
    exact call_tupleT pins s σ H _ us Q I r ⟨a, xs, rfl, sq, k _ _ H hw (Ex.refl H) (.tup ha na al)⟩
  · exact hw.elim
end
end Wp

namespace Wp
open PySem PySem.Spec PyProof.Rows L2 Evl
/-! ### values that a name takes -/
abbrev WV := Env → Bt → (Sl → Bt → Prop) → Prop
def Own (H : Hp) (v : V) (s : Sl) : Prop := isOwn s = true → ∃ a, v = .ref a ∧ H a = none
def tV (m : WV) : TE := fun σ H Q => ∃ W H0 E b R, Sit W H0 σ H E b ∧ m E b R ∧ ∀ s b' v H', R s b' → Kp W.M H H' → W.Dk b' H' → SlR W H0.h0 H' (some v) s → Own H v s → Q v H'
def vD (m : WE) : WV := fun E b R => m E b fun d b1 => R (.d d) b1
def vL (m : WL) : WV := fun E b R => m E b fun ds b1 => R (.l ds) b1
section
variable {W : Wld} {H H1 : Hp} {H0 : Bs} {σ : L2.St} {E : Env} {b b1 : Bt}
/-- an own thing of the env stands in the heap -/
theorem Sit.there (S : Sit W H0 σ H E b) {j : Nat} {t : Sl} (e : E[j]? = some t) (o : isOwn t = true) : ∃ a, σ[j]? = some (some (.ref a)) ∧ H a ≠ none := by
  obtain ⟨u, h1, h2⟩ := S.at_ j t e
  cases t <;> simp [isOwn] at o
  · obtain ⟨a, rfl, _, _, xs, h', _⟩ := h2; exact ⟨a, h1, by rw [h']; simp⟩
  · obtain ⟨a, rfl, _, _, xs, h', _⟩ := h2; exact ⟨a, h1, by rw [h']; simp⟩
  · obtain ⟨a, rfl, _, _, ob, h', _⟩ := h2; exact ⟨a, h1, by rw [h']; simp⟩
theorem Sit.setV {i : Nat} {v : V} {s : Sl} (S : Sit W H0 σ H E b) (h : SlR W H0.h0 H (some v) s) (ap : isOwn s = true → ∀ (j : Nat) (t : Sl), j ≠ i → E[j]? = some t → isOwn t = true → σ[j]? ≠ some (some v)) : Sit W H0 (σ.set i (some v)) H (E.set i s) b := by
  refine ⟨by simp [S.len], fun j t e => ?_, fun p q s1 t a' ne h1 o1 h2 o2 e => ?_, S.kp, S.dk, S.fk⟩
  · by_cases hj : i = j
    · subst hj
      have hl : i < E.length := by have := (List.getElem?_eq_some_iff.mp e).1; simpa using this
      rw [List.getElem?_set_self hl] at e
      cases e
      exact ⟨_, List.getElem?_set_self (by rw [S.len]; exact hl), h⟩
    · rw [List.getElem?_set_ne hj] at e
      obtain ⟨u, h1, h2⟩ := S.at_ j t e
      exact ⟨u, by rw [List.getElem?_set_ne hj]; exact h1, h2⟩
  · by_cases hp : i = p
    · subst hp
      have hl : i < E.length := by have := (List.getElem?_eq_some_iff.mp h1).1; simpa using this
      rw [List.getElem?_set_self (by rw [S.len]; exact hl)] at e
      rw [List.getElem?_set_self hl] at h1
      cases e
      cases h1
      rw [List.getElem?_set_ne ne] at h2 ⊢
      exact ap o1 q t (Ne.symm ne) h2 o2
    · rw [List.getElem?_set_ne hp] at h1 e
      by_cases hq : i = q
      · subst hq
        intro z
        have hl : i < E.length := by have := (List.getElem?_eq_some_iff.mp h2).1; simpa using this
        rw [List.getElem?_set_self (by rw [S.len]; exact hl)] at z
        rw [List.getElem?_set_self hl] at h2
        cases z
        cases h2
        exact ap o2 p s1 ne h1 o1 e
      · rw [List.getElem?_set_ne hq] at h2 ⊢
        exact S.apart p q s1 t a' ne h1 o1 h2 o2 e
end
section
variable {X : Cx} {e a b : Expr} {es : List Expr} {m ma mb : WE} {ms : WL} {pos : Pos}
theorem _root_.L2.PE.vd (h : PE X e (tE m)) : PE X e (tV (vD m)) := h.weak fun σ H Q ⟨W, H0, E, b, R, S, hm, k⟩ =>
  ⟨W, H0, E, b, _, S, hm, fun d b1 v H1 h1 k1 d1 t1 => k _ b1 v H1 h1 k1 d1 ⟨v, rfl, t1⟩ (fun o => by cases o)⟩
theorem _root_.L2.PE.vl (h : PE X e (tL ms)) : PE X e (tV (vL ms)) := h.weak fun σ H Q ⟨W, H0, E, b, R, S, hm, k⟩ =>
  ⟨W, H0, E, b, _, S, hm, fun ds b1 a xs H1 h1 k1 d1 na ha t1 => k _ b1 _ H1 h1 k1 d1 ⟨a, rfl, S.kp.back (W.free S.dk na) na, W.free S.dk na, xs, ha, t1⟩ (fun _ => ⟨a, rfl, na⟩)⟩
/-- {} -/
def vM0 : WV := fun _ b R => R (.m []) b
/-! ### statements -/
theorem _root_.L2.PS.weak {st : Stmt} {t t' : TS} (h : PS X st t) (k : ∀ D σ H, t' D σ H → t D σ H) : PS X st t' := ⟨fun pins s σ H D I q => h.run pins s σ H D I (k D σ H q)⟩
theorem _root_.L2.PSs.weak {st : List Stmt} {t t' : TS} (h : PSs X st t) (k : ∀ D σ H, t' D σ H → t D σ H) : PSs X st t' := ⟨fun pins s σ H D I q => h.run pins s σ H D I (k D σ H q)⟩
def mSkip : WS := fun E b F => F.nx E b
def mSeq (m n : WS) : WS := fun E b F => m E b { F with nx := fun E' b' => n E' b' F }
def mAsg (i : Nat) (m : WV) : WS := fun E b F => m E b fun s b1 => F.nx (E.set i s) b1
def mRet (m : WE) : WS := fun E b F => m E b F.rt
def mIfS (c : WT) (m n : WS) : WS := fun E b F => c E b fun c b1 => if c = true then m E b1 F else n E b1 F
def mDrop (m : WE) : WS := fun E b F => m E b fun _ b1 => F.nx E b1
theorem pm_skip : PSs X [] (tS xw mSkip) := pss_nil.weak fun D σ H ⟨W, H0, E, b, F, S, hm, k⟩ => k.nx σ H E b S hm
theorem pm_one1 {st : Stmt} {n : WS} (h : PS X st (tS xw n)) : PSs X [st] (tS xw n) := pss_one h
theorem pm_seq {st : Stmt} {rest : List Stmt} {m n : WS} (h1 : PS X st (tS xw m)) (h2 : PSs X rest (tS xw n)) : PSs X (st :: rest) (tS xw (mSeq m n)) := (pss_cons h1 h2).weak fun D σ H ⟨W, H0, E, b, F, S, hm, k⟩ =>
  ⟨W, H0, E, b, _, S, hm, ⟨fun σ' H' E' b' S' h' => ⟨W, H0, E', b', F, S', h', k⟩, k.bk, k.ct, k.rt, k.xx⟩⟩
theorem pm_ret (he : PE X e (tE m)) : PS X (.Return (some e) pos) (tS xw (mRet m)) := (ps_ret he).weak fun D σ H ⟨W, H0, E, b, F, S, hm, k⟩ =>
  ⟨W, H0, E, b, _, S, hm, fun d b1 v H1 h1 k1 d1 t1 => k.rt d b1 v H1 h1 (S.kp.trans k1) d1 t1⟩
theorem pm_if {c : Expr} {p q : List Stmt} {mc : WT} {m n : WS} (hc : PT X c (tT mc)) (ha : PSs X p (tS xw m)) (hb : PSs X q (tS xw n)) : PS X (.If c p q pos) (tS xw (mIfS mc m n)) := (ps_if hc ha hb).weak fun D σ H ⟨W, H0, E, b, F, S, hm, k⟩ => by
  refine ⟨W, H0, E, b, _, S, hm, fun c b1 H1 h1 k1 d1 => ?_⟩
  cases c with
  | true => exact ⟨W, H0, E, b1, F, S.step k1 d1, h1, k⟩
  | false => exact ⟨W, H0, E, b1, F, S.step k1 d1, h1, k⟩
theorem apart_new {W : Wld} {H H1 : Hp} {H0 : Bs} {σ : L2.St} {E : Env} {b : Bt} {v : V} {s : Sl} {i : Nat} (S : Sit W H0 σ H E b) (o : Own H v s) : isOwn s = true → ∀ (j : Nat) (t : Sl), j ≠ i → E[j]? = some t → isOwn t = true → σ[j]? ≠ some (some v) := fun os j t _ e ot z => by
  obtain ⟨a, rfl, na⟩ := o os
  obtain ⟨a', h1, h2⟩ := S.there e ot
  rw [h1] at z
  cases z
  exact h2 na
theorem pm_asg {i : Nat} {x : Str} {n : WV} {pos' : Pos} (hN : X.N.Nodup) (hi : X.N[i]? = some x) (hx : Loc X.env.scope x) (he : PE X e (tV n)) (hs : swapsWith e (some (.Name x pos')) pos.line X.env = pure false := by rfl) (hf : X.fn x = true ∨ X.env.scope.names.lookup x = some .local := by first | exact .inl rfl | exact .inr rfl | assumption) :
    PS X (.Assign [.Name x pos'] e pos) (tS xw (mAsg i n)) := (ps_set hN hi hx he hs hf).weak fun D σ H ⟨W, H0, E, b, F, S, hm, k⟩ =>
  ⟨W, H0, E, b, _, S, hm, fun s b1 v H1 h1 k1 d1 t1 o => k.nx _ H1 _ b1 ((S.step k1 d1).setV t1 (apart_new (H1 := H1) S o)) h1⟩
/-! several values at once -/
abbrev WVs := Env → Bt → (List Sl → Bt → Prop) → Prop
inductive Vs (W : Wld) (H0 H H' : Hp) : List V → List Sl → Prop
  | nil : Vs W H0 H H' [] []
  | cons {v : V} {vs : List V} {s : Sl} {ss : List Sl} : SlR W H0 H' (some v) s → Own H v s → (isOwn s = true → ∀ (j : Nat) (t : Sl), ss[j]? = some t → isOwn t = true → vs[j]? ≠ some v) → Vs W H0 H H' vs ss → Vs W H0 H H' (v :: vs) (s :: ss)
def tVs (m : WVs) : TA := fun σ H Q => ∃ W H0 E b R, Sit W H0 σ H E b ∧ m E b R ∧ ∀ ss b' vs H', R ss b' → Kp W.M H H' → W.Dk b' H' → Vs W H0.h0 H H' vs ss → Q vs H'
def vNil : WVs := fun _ b R => R [] b
def vCons (m : WV) (ms : WVs) : WVs := fun E b R => m E b fun s b1 => ms E b1 fun ss b2 => R (s :: ss) b2
theorem pm_vnil : PA X [] (tVs vNil) := pa_nil.weak fun σ H Q ⟨W, H0, E, b, R, S, hm, k⟩ => k [] b [] H hm Kp.refl S.dk .nil
theorem Vs.back {W : Wld} {H0 H H1 H2 : Hp} {n : Bt} (dk : W.Dk n H1) (k : Kp W.M H H1) : ∀ {vs : List V} {ss : List Sl}, (∀ a, H a ≠ none → H1 a ≠ none) → Vs W H0 H1 H2 vs ss → Vs W H0 H H2 vs ss
  | _, _, _, .nil => .nil
  | _, _, hk, .cons a o n r => .cons a (fun os => by
      obtain ⟨p, e, z⟩ := o os
      exact ⟨p, e, Classical.byContradiction fun w => hk p w z⟩) n (Vs.back dk k hk r)
theorem kp_some {W : Wld} {H H1 : Hp} {n n1 : Bt} (d : W.Dk n H) (d1 : W.Dk n1 H1) (k : Kp W.M H H1) (a : Addr) (h : H a ≠ none) : H1 a ≠ none := by
  by_cases z : W.M a
  · obtain ⟨xs, e⟩ := W.lst z d1
    rw [e]; simp
  · exact fun z1 => h (k.back z z1)
theorem Vs.notin {W : Wld} {H0 H H' : Hp} {a : Addr} (h : H a ≠ none) : ∀ {vs : List V} {ss : List Sl}, Vs W H0 H H' vs ss → ∀ (j : Nat) (t : Sl), ss[j]? = some t → isOwn t = true → vs[j]? ≠ some (.ref a)
  | _, _, .nil, j, t, e, _ => by simp at e
  | _, _, .cons q o n r, 0, t, e, ot => by
    simp at e
    subst e
    obtain ⟨p, rfl, z⟩ := o ot
    simp
    intro w
    subst w
    exact h z
  | _, _, .cons q o n r, j + 1, t, e, ot => by
    simpa using Vs.notin h r j t (by simpa using e) ot
theorem pm_vcons {n : WV} {ns : WVs} (ha : PE X e (tV n)) (hr : PA X es (tVs ns)) (hs : starEach (e :: es) X.env = (false, eval e X.env) :: starEach es X.env := by rfl) : PA X (e :: es) (tVs (vCons n ns)) := (pa_cons ha hr hs).weak fun σ H Q ⟨W, H0, E, b, R, S, hm, k⟩ => by
  refine ⟨W, H0, E, b, _, S, hm, fun s b1 v H1 h1 k1 d1 t1 o1 => ⟨W, H0, E, b1, _, S.step k1 d1, h1, fun ss b2 vs H2 h2 k2 d2 t2 => k _ b2 _ H2 h2 (k1.trans k2) d2 ?_⟩⟩
  refine .cons (t1.step d1 k2) o1 (fun os => ?_) (t2.back d1 k1 (fun a => kp_some S.dk d1 k1 a))
  obtain ⟨a, rfl, na⟩ := o1 os
  have ha1 : H1 a ≠ none := by
    cases s <;> simp [isOwn] at os
    · obtain ⟨a', e', _, _, xs, h', _⟩ := t1; cases e'; rw [h']; simp
    · obtain ⟨a', e', _, _, xs, h', _⟩ := t1; cases e'; rw [h']; simp
    · obtain ⟨a', e', _, _, ob, h', _⟩ := t1; cases e'; rw [h']; simp
  exact t2.notin ha1
end
end Wp

namespace Wp
open PySem PySem.Spec PyProof.Rows L2 Evl
def stAll : List Nat → List V → L2.St → L2.St
  | i :: is, v :: vs, σ => stAll is vs (σ.set i (some v))
  | _, _, σ => σ
def enAll : List Nat → List Sl → Env → Env
  | i :: is, s :: ss, E => enAll is ss (E.set i s)
  | _, _, E => E
theorem Sit.setAll {W : Wld} {H0 : Bs} {H H' : Hp} {b : Bt} : ∀ {is : List Nat} {vs : List V} {ss : List Sl} {σ : L2.St} {E : Env}, Vs W H0.h0 H H' vs ss → is.length = vs.length → Sit W H0 σ H' E b →
    (∀ (j : Nat) (t : Sl) (a : Addr), E[j]? = some t → isOwn t = true → σ[j]? = some (some (.ref a)) → ∀ (k : Nat) (t' : Sl), ss[k]? = some t' → isOwn t' = true → vs[k]? ≠ some (.ref a)) → Sit W H0 (stAll is vs σ) H' (enAll is ss E) b
  | [], _, _, _, _, .nil, _, S, _ => S
  | [], _, _, _, _, .cons _ _ _ _, l, _, _ => by simp at l
  | _ :: _, _, _, _, _, .nil, l, _, _ => by simp at l
  | i :: is, v :: vs, s :: ss, σ, E, .cons h o n r, l, S, ap => by
    have refOf : isOwn s = true → ∃ a, v = .ref a := fun os => by obtain ⟨a, e, _⟩ := o os; exact ⟨a, e⟩
    have S1 : Sit W H0 (σ.set i (some v)) H' (E.set i s) b := S.setV h fun os j t nj e ot z => by
      obtain ⟨a, rfl⟩ := refOf os
      exact ap j t a e ot z 0 s rfl os rfl
    refine Sit.setAll (is := is) r (by simpa using l) S1 fun j t a e ot hz k t' ek ot' => ?_
    by_cases hj : i = j
    · subst hj
      have hl : i < E.length := by have := (List.getElem?_eq_some_iff.mp e).1; simpa using this
      rw [List.getElem?_set_self hl] at e
      rw [List.getElem?_set_self (by rw [S.len]; exact hl)] at hz
      cases e
      cases hz
      exact n ot k t' ek ot'
    · rw [List.getElem?_set_ne hj] at e hz
      have := ap j t a e ot hz (k + 1) t' (by simpa using ek) ot'
      simpa using this
theorem Sit.parAll {W : Wld} {H0 : Bs} {H H' : Hp} {b b' : Bt} {is : List Nat} {vs : List V} {ss : List Sl} {σ : L2.St} {E : Env} (S : Sit W H0 σ H E b) (k : Kp W.M H H') (d : W.Dk b' H') (h : Vs W H0.h0 H H' vs ss) (l : is.length = vs.length) : Sit W H0 (stAll is vs σ) H' (enAll is ss E) b' :=
  Sit.setAll h l (S.step k d) fun j t a e ot hz k t' ek ot' => by
    obtain ⟨a', h1, h2⟩ := S.there e ot
    rw [hz] at h1
    cases h1
    exact h.notin h2 k t' ek ot'
theorem Vs.length {W : Wld} {H0 H H' : Hp} : ∀ {vs : List V} {ss : List Sl}, Vs W H0 H H' vs ss → vs.length = ss.length
  | _, _, .nil => rfl
  | _, _, .cons _ _ _ r => by simp [r.length]
/-- a, b, .. = x, y, .. -/
def mPar (is : List Nat) (ms : WVs) : WS := fun E b F => ms E b fun ss b1 => ss.length = is.length ∧ F.nx (enAll is ss E) b1
section
variable {X : Cx} {e a b : Expr} {es : List Expr} {m ma mb : WE} {ms : WVs} {pos : Pos}
theorem pm_par2 {i j : Nat} {x y : Str} {px py pt : Pos} {kt k2 pt2} (hc : X.calm = true) (hN : X.N.Nodup) (hi : X.N[i]? = some x) (hj : X.N[j]? = some y) (hij : i ≠ j)
    (hx : X.env.scope.names.lookup x = some .local) (hy : X.env.scope.names.lookup y = some .local) (ha : PA X [a, b] (tVs ms))
    (hw : swappedStores [.Tuple [.Name x px, .Name y py] kt pt] (.Tuple [a, b] k2 pt2) X.env = pure (some [x, y]))
    (hs : swapsWithSole [.Tuple [.Name x px, .Name y py] kt pt] (.Tuple [a, b] k2 pt2) pos.line X.env = pure false := by rfl) :
    PS X (.Assign [.Tuple [.Name x px, .Name y py] kt pt] (.Tuple [a, b] k2 pt2) pos) (tS xw (mPar [i, j] ms)) := (ps_par hc hN hi hj hij hx hy ha hw hs).weak fun D σ H ⟨W, H0, E, b, F, S, hm, k⟩ => by
  refine ⟨W, H0, E, b, _, S, hm, fun ss b1 vs H1 h1 k1 d1 t1 => ?_⟩
  have l := t1.length
  rw [h1.1] at l
  match vs, l with
  | [v, w], _ => exact ⟨v, w, rfl, k.nx _ H1 _ b1 (S.parAll (is := [i, j]) k1 d1 t1 rfl) h1.2⟩
/-- .. by way of a tuple: names in a row -/
def gAll : List Nat → TGs
  | [] => gNil
  | i :: is => gCons (gName i) (gAll is)
/-! targets -/
abbrev WG1 := PyData → Env → (Env → Prop) → Prop
abbrev WGs := List PyData → Env → (Env → Prop) → Prop
def bName (i : Nat) : WG1 := fun x E R => R (E.set i (.d x))
def bTup (n : Nat) (t : WGs) : WG1 := fun x E R => match x with
  | .tuple xs => xs.length = n ∧ t xs E R
  | _ => False
def bNil : WGs := fun xs E R => match xs with
  | [] => R E
  | _ => False
def bCons (t : WG1) (u : WGs) : WGs := fun xs E R => match xs with
  | x :: r => t x E fun E1 => u r E1 R
  | [] => False
def Sm (ws : List Nat) (σ σ' : L2.St) : Prop := σ'.length = σ.length ∧ ∀ j, j ∉ ws → σ'[j]? = σ[j]?
theorem Sm.refl {ws : List Nat} {σ : L2.St} : Sm ws σ σ := ⟨rfl, fun _ _ => rfl⟩
/-- what is bound: data, or a new tuple of data -/
def Bd (K : PySem.W.Frag) (H : Hp) (v : V) (x : PyData) : Prop := ∃ a vs xs, v = .ref a ∧ x = .tuple xs ∧ SqT K H a vs ∧ DtAll H vs xs
structure GB (B : Hp → V → PyData → Prop) (ws : List Nat) (g : TG) (t : WG1) : Prop where
  run : ∀ {W : Wld} {H0 : Bs} {H : Hp} {σ : L2.St} {E : Env} {b : Bt} {v : V} {x : PyData} {R : Env → Prop} {Q : L2.St → Hp → Prop}, Sit W H0 σ H E b → B H v x → t x E R → (∀ σ' E', R E' → Sm ws σ σ' → Sit W H0 σ' H E' b → Q σ' H) → g v σ H Q
structure GBs (ws : List Nat) (g : TGs) (t : WGs) : Prop where
  run : ∀ {W : Wld} {H0 : Bs} {H : Hp} {σ : L2.St} {E : Env} {b : Bt} {vs : List V} {xs : List PyData} {R : Env → Prop} {Q : L2.St → Hp → Prop}, Sit W H0 σ H E b → DtAll H vs xs → t xs E R → (∀ σ' E', R E' → Sm ws σ σ' → Sit W H0 σ' H E' b → Q σ' H) → g vs σ H Q
theorem gb_name {i : Nat} : GB Dt [i] (gName i) (bName i) := ⟨fun S t h k => k _ _ h ⟨by simp, fun j hj => List.getElem?_set_ne (fun z => hj (by simp [z]))⟩ (S.setD t)⟩
theorem gb_nil : GBs [] gNil bNil := by
  refine ⟨fun {W H0 H σ E b vs xs R Q} S t h k => ?_⟩
  cases t with
  | nil => exact ⟨rfl, k _ _ h Sm.refl S⟩
  | cons _ _ => exact h.elim
theorem gb_cons {w1 w2 : List Nat} {g : TG} {gs : TGs} {t : WG1} {u : WGs} (h1 : GB Dt w1 g t) (h2 : GBs w2 gs u) : GBs (w1 ++ w2) (gCons g gs) (bCons t u) := by
  refine ⟨fun {W H0 H σ E b vs xs R Q} S a h k => ?_⟩
  cases a with
  | nil => exact h.elim
  | cons a r =>
    refine ⟨_, _, rfl, h1.run S a h fun σ1 E1 hr s1 S1 => h2.run S1 r hr fun σ2 E2 hr2 s2 S2 => k σ2 E2 hr2 ⟨s2.1.trans s1.1, fun j hj => ?_⟩ S2⟩
    have hj' : j ∉ w1 ∧ j ∉ w2 := by simpa using hj
    rw [s2.2 j hj'.2, s1.2 j hj'.1]
theorem gt_tup {K : PySem.W.Frag} {ws : List Nat} {n : Nat} {gs : TGs} {u : WGs} (h : GBs ws gs u) : GB (Bd K) ws (gTup K n gs) (bTup n u) := by
  refine ⟨fun {W H0 H σ E b v x R Q} S a hb k => ?_⟩
  obtain ⟨p, vs, xs, rfl, rfl, sq, al⟩ := a
  exact ⟨p, vs, rfl, sq, by rw [al.length]; exact hb.1, h.run S al hb.2 k⟩
theorem gb_tup {K : PySem.W.Frag} {ws : List Nat} {n : Nat} {gs : TGs} {u : WGs} (h : GBs ws gs u) : GB Dt ws (gTup K n gs) (bTup n u) := by
  refine ⟨fun {W H0 H σ E b v x R Q} S a hb k => ?_⟩
  unfold bTup at hb
  split at hb
  · obtain ⟨p, o, xs, rfl, ha, _, al⟩ := a.tup_inv
    exact ⟨p, xs, rfl, .inl (.inr ⟨o, ha⟩), by rw [al.length]; exact hb.1, h.run S al hb.2 k⟩
  · exact hb.elim
/-- a, b = e, e data -/
def mUnp (t : WG1) (m : WE) : WS := fun E b F => m E b fun d b1 => t d E fun E1 => F.nx E1 b1
theorem pm_unp {tg : Expr} {g : TG} {t : WG1} {ws : List Nat} (he : PE X e (tE m)) (hg : PG X tg g) (hb : GB Dt ws g t) (hs : swapsWithSole [tg] e pos.line X.env = pure false := by rfl) (hw : swappedStores [tg] e X.env = pure none := by rfl)
    (h1 : (assignEach [tg] X.env).map (·.2) = [assign tg X.env] := by rfl) : PS X (.Assign [tg] e pos) (tS xw (mUnp t m)) := (ps_asg he hg hs hw h1).weak fun D σ H ⟨W, H0, E, b, F, S, hm, k⟩ =>
  ⟨W, H0, E, b, _, S, hm, fun d b1 v H1 h1 k1 d1 t1 => hb.run (S.step k1 d1) t1 h1 fun σ' E' hr _ S' => k.nx σ' H1 E' b1 S' hr⟩
/-! ### loops -/
def mTurns (t : WG1) (m : WS) : List PyData → WS
  | [] => fun E b F => F.nx E b
  | x :: xs => fun E b F => t x E fun E1 => m E1 b { F with nx := fun E2 b2 => mTurns t m xs E2 b2 F, ct := fun E2 b2 => mTurns t m xs E2 b2 F, bk := F.nx }
def itemsOf : PyData → Option (List PyData)
  | .list xs => some xs
  | .tuple xs => some xs
  | _ => none
/-- for t in e -/
def mFor (t : WG1) (me : WE) (m : WS) : WS := fun E b F => me E b fun d b1 => match d with
  | .list xs => mTurns t m xs E b1 F
  | .tuple xs => mTurns t m xs E b1 F
  | _ => False
theorem turns_for {J : It} {n : Nat} {G : Hp → Prop} {Y : Nat → Hp → V → Hp → Prop} (w : Walk J n G Y) {W : Wld} {H0 : Bs} {H : Hp} {σ : L2.St} {E : Env} {b : Bt} {F : WEnds} {D : Ends} {g : TG} {t : WG1} {m : WS} {xs : List PyData} {B : Hp → V → PyData → Prop} {ws : List Nat} (gb : GB B ws g t) (S : Sit W H0 σ H E b) (k : Acc xw W H0 F D)
    (hn : xs.length = n) (hG : ∀ H', Fk H H' → G H') (hm : mTurns t m xs E b F) (hY : ∀ i H1 v H2, Fk H H1 → Y i H1 v H2 → Ex H1 H2 ∧ ∃ x, xs[i]? = some x ∧ B H2 v x) :
    ∃ P : Nat → Nat → L2.St → Hp → Prop, (∃ c, P 0 c σ H) ∧ ∀ i c σ H, P i c σ H → (J.stop i H ∧ D.nx σ H) ∨ (J.go i H ∧ ∃ N : L2.St → Hp → Prop, (∀ σ' H', N σ' H' → ∃ c', c' < c ∧ P (i + 1) c' σ' H') ∧ ∀ x H', J.yld i H x H' → g x σ H' fun σ2 H2 => tS xw m { D with nx := N, ct := N, bk := D.nx } σ2 H2) := by
  have wk : ∀ {σ' H' E' b'}, Sit W ⟨H0.h0, H⟩ σ' H' E' b' → Sit W H0 σ' H' E' b' := fun S' => ⟨S'.len, S'.at_, S'.apart, S'.kp, S'.dk, S.fk.trans S'.fk⟩
  refine for_it w (fun i σ' H' => ∃ E' b', Sit W ⟨H0.h0, H⟩ σ' H' E' b' ∧ mTurns t m (xs.drop i) E' b' F) ⟨E, b, ⟨S.len, S.at_, S.apart, S.kp, S.dk, fun _ _ _ h => h⟩, by simpa using hm⟩ (fun i σ' H' _ ⟨E', b', S', _⟩ => hG H' S'.fk) ?_ ?_
  · rintro i v σ' H1 H2 hi ⟨E', b', S', hm'⟩ hy
    obtain ⟨e12, x, hx, tx⟩ := hY i H1 v H2 S'.fk hy
    have hd : xs.drop i = x :: xs.drop (i + 1) := by
      obtain ⟨hl, e⟩ := List.getElem?_eq_some_iff.mp hx
      rw [List.drop_eq_getElem_cons hl, e]
    rw [hd] at hm'
    refine gb.run (S'.ex e12) tx hm' fun σ2 E2 h2 _ S2 => ?_
    exact ⟨W, ⟨H0.h0, H⟩, E2, b', _, S2, h2, ⟨fun σ3 H3 E3 b3 S3 h3 => ⟨E3, b3, S3, h3⟩, fun σ3 H3 E3 b3 S3 h3 => k.nx σ3 H3 E3 b3 (wk S3) h3, fun σ3 H3 E3 b3 S3 h3 => ⟨E3, b3, S3, h3⟩, k.rt, fun c d v σ3 H3 E3 b3 h3 S3 t3 => k.xx c d v σ3 H3 E3 b3 h3 (wk S3) t3⟩⟩
  · rintro σ' H' ⟨E', b', S', hm'⟩
    rw [← hn, List.drop_length] at hm'
    exact k.nx σ' H' E' b' (wk S') hm'
/-- a walk over a list or a tuple, whichever it is -/
def iSq (K : PySem.W.Frag) (tl : TE) : TI := fun σ H R => tl σ H fun x H1 => ∃ a, x = .ref a ∧ ((∃ xs, SqL K H1 a xs ∧ R (Itl K a) H1) ∨ ∃ xs, SqT K H1 a xs ∧ R (Itt K a) H1)
theorem pi_sq {tg l : Expr} {tl : TE} {K : PySem.W.Frag} (hK : X.K = K) (hl : PE X l tl) : PI X tg l (iSq K tl) := by
  subst hK
  refine ⟨fun pins s σ H R I h => thn (hl.run pins s σ H _ I h) fun v s1 ⟨x, H1, I1, r1, a, ex, q1⟩ => ?_⟩
  subst ex
  cases r1
  have nf := I1.hok.fresh (Nat.le_refl s1.heap.objs.size)
  have fin : ∀ c ∈ [s1.heap.objs.size], FpOk X pins H1 c := fun c hc => by rw [List.mem_singleton.mp hc]; exact I1.fpOk (Nat.le_refl _) nf
  rcases q1 with ⟨xs, hq, q⟩ | ⟨xs, hq, q⟩
  · obtain ⟨its, _, pl, _⟩ := I1.list hq
    exact wpAny_pyIter_list pl.isList ⟨_, [s1.heap.objs.size], _, _, H1, rfl, I1.kept (t' := s1.toks) (fun _ _ z => Heap.get?_push_of_some _ z), turn_list a _, ⟨_, Heap.get?_push_size _ rfl, rfl, rfl⟩, fin, q⟩
  · obtain ⟨its, _, pl, _⟩ := I1.tuple hq
    exact wpAny_pyIter_tuple pl ⟨_, [s1.heap.objs.size], _, _, H1, rfl, I1.kept (t' := s1.toks) (fun _ _ z => Heap.get?_push_of_some _ z), turn_tuple a _, ⟨_, Heap.get?_push_size _ rfl, rfl, rfl⟩, fin, q⟩
theorem pm_for {ws : List Nat} {K : PySem.W.Frag} {tg iter : Expr} {body : List Stmt} {g : TG} {t : WG1} {m : WS} {me : WE} (hK : X.K = K) (hp : PassesOwn (model X.prog X.w) X.A X.env X.xe) (hc : X.calm = true) (hi : PE X iter (tE me)) (hg : PG X tg g) (gb : GB Dt ws g t) (hb : PSs X body (tS xw m)) (hs : ∀ x, foldedSetIterable iter X.env x = pure x := by intro _; rfl) : PS X (.For tg iter body [] pos) (tS xw (mFor t me m)) :=
  (ps_for hp hc (pi_sq hK hi) hg hb hs).weak fun D σ H ⟨W, H0, E, b, F, S, hm, k⟩ => by
    refine ⟨W, H0, E, b, _, S, hm, fun d b1 v H1 h1 k1 d1 t1 => ?_⟩
    have S1 := S.step k1 d1
    cases d <;> first | exact h1.elim | skip
    · obtain ⟨a, o, xs, rfl, ha, al⟩ := t1.lst_inv
      refine ⟨a, rfl, .inl ⟨xs, .inl (.inr ⟨o, ha⟩), ?_⟩⟩
      refine turns_for (walk_list (K := K) (a := a) (xs := xs)) gb S1 k al.length.symm (fun H' f => .inl (.inr ⟨o, f _ _ _ ha⟩)) h1 ?_
      rintro i H2 x _ f ⟨rfl, hx⟩
      obtain ⟨dd, h2, h3⟩ := al.get hx
      exact ⟨Ex.refl _, dd, h2, h3.mono f⟩
    · obtain ⟨a, o, xs, rfl, ha, _, al⟩ := t1.tup_inv
      refine ⟨a, rfl, .inr ⟨xs, .inl (.inr ⟨o, ha⟩), ?_⟩⟩
      refine turns_for (walk_tup (K := K) (a := a) (xs := xs)) gb S1 k al.length.symm (fun H' f => .inl (.inr ⟨o, f _ _ _ ha⟩)) h1 ?_
      rintro i H2 x _ f ⟨rfl, hx⟩
      obtain ⟨dd, h2, h3⟩ := al.get hx
      exact ⟨Ex.refl _, dd, h2, h3.mono f⟩
/-- for t in range(n) -/
def rngD (lo : Int) (n : Nat) : List PyData := (List.range n).map fun i : Nat => PyData.int (lo + (i : Int))
def mForR (t : WG1) (ms : WL) (m : WS) : WS := fun E b F => ms E b fun ds b1 => match ds with
  | [.int j] => (-(2 ^ 62) ≤ j ∧ j < 2 ^ 62) ∧ mTurns t m (rngD 0 j.toNat) E b1 F
  | _ => False
def mForR2 (t : WG1) (ms : WL) (m : WS) : WS := fun E b F => ms E b fun ds b1 => match ds with
  | [.int i, .int j] => (-(2 ^ 62) ≤ i ∧ i < 2 ^ 62 ∧ -(2 ^ 62) ≤ j ∧ j < 2 ^ 62) ∧ mTurns t m (rngD i (j - i).toNat) E b1 F
  | _ => False
theorem rngD_get {lo : Int} {n i : Nat} (h : i < n) : (rngD lo n)[i]? = some (.int (lo + (i : Int))) := by simp [rngD, h]
theorem rngD_len {lo : Int} {n : Nat} : (rngD lo n).length = n := by simp [rngD]
theorem turns_rng {ws : List Nat} {W : Wld} {H0 : Bs} {H : Hp} {σ : L2.St} {E : Env} {b : Bt} {F : WEnds} {D : Ends} {g : TG} {t : WG1} {m : WS} {lo : Int} {n : Nat} (gb : GB Dt ws g t) (S : Sit W H0 σ H E b) (k : Acc xw W H0 F D) (hm : mTurns t m (rngD lo n) E b F) :
    ∃ P : Nat → Nat → L2.St → Hp → Prop, (∃ c, P 0 c σ H) ∧ ∀ i c σ H, P i c σ H → ((Itr lo n).stop i H ∧ D.nx σ H) ∨ ((Itr lo n).go i H ∧ ∃ N : L2.St → Hp → Prop, (∀ σ' H', N σ' H' → ∃ c', c' < c ∧ P (i + 1) c' σ' H') ∧ ∀ x H', (Itr lo n).yld i H x H' → g x σ H' fun σ2 H2 => tS xw m { D with nx := N, ct := N, bk := D.nx } σ2 H2) := by
  have w : Walk (Itr lo n) n (fun _ => True) (fun i H x H' => i < n ∧ H' = H ∧ x = .int (lo + i)) := ⟨fun _ _ hi _ => hi, fun _ _ => Nat.le_refl _, fun i _ _ _ hi _ y => ⟨hi, y⟩⟩
  refine turns_for w gb S k rngD_len (fun _ _ => trivial) hm ?_
  rintro i H1 x H2 _ ⟨hi, rfl, rfl⟩
  exact ⟨Ex.refl _, _, rngD_get hi, .int _⟩
theorem pm_forR {ws : List Nat} {tg e1 : Expr} {p pos' : Pos} {body : List Stmt} {g : TG} {t : WG1} {m : WS} {me : WL} (hp : PassesOwn (model X.prog X.w) X.A X.env X.xe) (hc : X.calm = true) (hgl : Gl X "range") (hm0 : X.mg "range" = none) (ha : PA X [e1] (tA me)) (hg : PG X tg g) (gb : GB Dt ws g t) (hb : PSs X body (tS xw m))
    (hs1 : starEach [e1] X.env = [(false, eval e1 X.env)] := by rfl) (hs : ∀ x, foldedSetIterable (.Call (.Name "range" p) [e1] [] pos') X.env x = pure x := by intro _; rfl) : PS X (.For tg (.Call (.Name "range" p) [e1] [] pos') body [] pos) (tS xw (mForR t me m)) :=
  (ps_for hp hc (pi_range1 hgl hm0 ha hs1) hg hb hs).weak fun D σ H ⟨W, H0, E, b, F, S, hm, k⟩ => by
    refine ⟨W, H0, E, b, _, S, hm, fun ds b1 vs H1 h1 k1 d1 t1 => ?_⟩
    have S1 := S.step k1 d1
    match ds, h1, t1 with
    | [.int j], h1, .cons (.int _) .nil => exact ⟨j, rfl, h1.1.1, h1.1.2, turns_rng gb S1 k h1.2⟩
/-! ### append -/
def mApp (i : Nat) (m : WE) : WS := fun E b F => match E[i]? with
  | some (.l ds) => m E b fun d b1 => ds.length < 100000 ∧ F.nx (E.set i (.l (ds ++ [d]))) b1
  | _ => False
theorem Sit.put0 {W : Wld} {H0 : Bs} {H : Hp} {σ : L2.St} {E : Env} {b : Bt} {i : Nat} {a : Addr} {s s' : Sl} {o o' : HO} (S : Sit W H0 σ H E b) (hE : E[i]? = some s) (os : isOwn s = true) (hσ : σ[i]? = some (some (.ref a))) (h0 : H0.h0 a = none) (nM : ¬ W.M a) (ha : H a = some o) (nf : isFix o = false)
    (h : SlR W H0.h0 (upd H a o') (some (.ref a)) s') : Sit W H0 σ (upd H a o') (E.set i s') b := by
  have fk : Fk H (upd H a o') := fun p q u e => by
    rw [upd_ne (fun z => by subst z; rw [ha] at e; cases e; cases nf)]
    exact e
  have hl : i < E.length := (List.getElem?_eq_some_iff.mp hE).1
  refine ⟨by simp [S.len], fun j t e => ?_, fun p q s1 t a' ne h1 o1 h2 o2 e => ?_, S.kp.mut h0, W.put nM (loose_at ha nf) S.dk, S.fk.trans fk⟩
  · by_cases hj : i = j
    · subst hj
      rw [List.getElem?_set_self hl] at e
      cases e
      exact ⟨_, hσ, h⟩
    · rw [List.getElem?_set_ne hj] at e
      obtain ⟨u, h1, h2⟩ := S.at_ j t e
      refine ⟨u, h1, ?_⟩
      have nea : ∀ a', u = some (.ref a') → isOwn t = true → a' ≠ a := fun a' eu ot z => by
        subst z
        exact S.apart i j s t a' hj hE os e ot hσ (by rw [h1, eu])
      have neb : ∀ a', H0.h0 a' ≠ none → a' ≠ a := fun a' z w => z (by rw [w]; exact h0)
      have nec : ∀ (a' : Addr) (p : HO), H a' = some p → (∀ xs, p ≠ .lst xs) → (∀ xs, p ≠ .dK xs) → (∀ g, p ≠ .ext g) → a' ≠ a := fun a' p hp n1 n2 n3 z => by
        subst z
        obtain ⟨u', g1, g2⟩ := S.at_ i s hE
        rw [hσ] at g1
        cases g1
        cases s with
        | l x => obtain ⟨_, e1, _, _, xs, hx, _⟩ := g2; cases e1; rw [hp] at hx; cases hx; exact n1 _ rfl
        | m x => obtain ⟨_, e1, _, _, xs, hx, _⟩ := g2; cases e1; rw [hp] at hx; cases hx; exact n2 _ rfl
        | n x => obtain ⟨_, e1, _, _, ob, hx, _⟩ := g2; cases e1; rw [hp] at hx; cases hx; exact n3 _ rfl
        | _ => cases os
      cases t with
      | no => trivial
      | d x => obtain ⟨v, e1, t1⟩ := h2; exact ⟨v, e1, t1.mono fk⟩
      | l x => obtain ⟨v, rfl, e2, nm, xs, hx, t1⟩ := h2; exact ⟨v, rfl, e2, nm, xs, by rw [upd_ne (nea v rfl rfl)]; exact hx, t1.mono fk⟩
      | m x => obtain ⟨v, rfl, e2, nm, xs, hx, t1⟩ := h2; exact ⟨v, rfl, e2, nm, xs, by rw [upd_ne (nea v rfl rfl)]; exact hx, t1.mono fk⟩
      | n x => obtain ⟨v, rfl, e2, nm, ob, hx, r1, xs, es, ep, r2, r3, r4, r5, t1⟩ := h2; exact ⟨v, rfl, e2, nm, ob, by rw [upd_ne (nea v rfl rfl)]; exact hx, r1, xs, es, ep, r2, r3, r4, r5, Paired.mapP t1 fun x p r => r.mono fk⟩
      | rl x => obtain ⟨v, rfl, e2, nm, xs, hx, t1⟩ := h2; exact ⟨v, rfl, e2, nm, xs, by rw [upd_ne (neb v e2)]; exact hx, t1.mono fk⟩
      | rm x => obtain ⟨v, rfl, e2, nm, xs, hx, t1⟩ := h2; exact ⟨v, rfl, e2, nm, xs, by rw [upd_ne (neb v e2)]; exact hx, t1.mono fk⟩
      | rn x => obtain ⟨v, rfl, e2, nm, ob, hx, r1, xs, es, ep, r2, r3, r4, r5, t1⟩ := h2; exact ⟨v, rfl, e2, nm, ob, by rw [upd_ne (neb v e2)]; exact hx, r1, xs, es, ep, r2, r3, r4, r5, Paired.mapP t1 fun x p r => r.mono fk⟩
      | s _ => exact h2
      | x a' dd f y c => obtain ⟨e1, nm, v, hx, t1⟩ := h2; exact ⟨e1, nm, v, by rw [upd_ne (nec dd _ hx (by intro _ z; cases z) (by intro _ z; cases z) (by intro _ z; cases z))]; exact hx, t1.mono fk⟩
      | r a' => exact h2
  · have q1 : ∃ s0, E[p]? = some s0 ∧ isOwn s0 = true := by
      by_cases hp : i = p
      · subst hp; exact ⟨s, hE, os⟩
      · rw [List.getElem?_set_ne hp] at h1; exact ⟨s1, h1, o1⟩
    have q2 : ∃ s0, E[q]? = some s0 ∧ isOwn s0 = true := by
      by_cases hp : i = q
      · subst hp; exact ⟨s, hE, os⟩
      · rw [List.getElem?_set_ne hp] at h2; exact ⟨t, h2, o2⟩
    obtain ⟨s2, e2, k2⟩ := q1
    obtain ⟨s3, e3, k3⟩ := q2
    exact S.apart p q s2 s3 a' ne e2 k2 e3 k3 e
theorem Sit.put {W : Wld} {H0 : Bs} {H : Hp} {σ : L2.St} {E : Env} {b : Bt} {i : Nat} {a : Addr} {s s' : Sl} {o o' : HO} (S : Sit W H0 σ H E b) (hE : E[i]? = some s) (os : isOwn s = true) (os' : isOwn s' = true) (hσ : σ[i]? = some (some (.ref a))) (h0 : H0.h0 a = none) (nM : ¬ W.M a) (ha : H a = some o) (nf : isFix o = false)
    (h : SlR W H0.h0 (upd H a o') (some (.ref a)) s') : Sit W H0 σ (upd H a o') (E.set i s') b := S.put0 hE os hσ h0 nM ha nf h
theorem fk_put {H : Hp} {a : Addr} {xs : List V} {o : HO} (h : H a = some (.lst xs)) : Fk H (upd H a o) := fun p q u e => by
  rw [upd_ne (ne_of e h (by intro z; cases z))]
  exact e
end
end Wp

namespace Wp
open PySem PySem.Spec PyProof.Rows L2 Evl
/-! ### comprehensions -/
def wipeE (E : Env) : List Nat → Env
  | [] => E
  | v :: vs => (wipeE E vs).set v .no
def mYes : WT := fun _ b R => R true b
def mComp (t : WG1) (mt : WT) (ml : WE) (E : Env) : List PyData → List PyData → Bt → (List PyData → Bt → Prop) → Prop
  | [], acc, b, R => R acc b
  | x :: xs, acc, b, R => t x E fun E1 => mt E1 b fun c b1 => if c = true then ml E1 b1 fun y b2 => acc.length < 100000 ∧ mComp t mt ml E xs (acc ++ [y]) b2 R else mComp t mt ml E xs acc b1 R
/-- [ml for t in me if mt] -/
def mLc (t : WG1) (me : WE) (mt : WT) (ml : WE) (vs : List Nat) : WL := fun E b R => me E b fun d b1 => match d with
  | .list xs => mComp t mt ml (wipeE E vs) xs [] b1 R
  | .tuple xs => mComp t mt ml (wipeE E vs) xs [] b1 R
  | _ => False
def mLcR (t : WG1) (ms : WL) (mt : WT) (ml : WE) (vs : List Nat) : WL := fun E b R => ms E b fun ds b1 => match ds with
  | [.int j] => (-(2 ^ 62) ≤ j ∧ j < 2 ^ 62) ∧ mComp t mt ml (wipeE E vs) (rngD 0 j.toNat) [] b1 R
  | _ => False
def mLcR2 (t : WG1) (ms : WL) (mt : WT) (ml : WE) (vs : List Nat) : WL := fun E b R => ms E b fun ds b1 => match ds with
  | [.int i, .int j] => (-(2 ^ 62) ≤ i ∧ i < 2 ^ 62 ∧ -(2 ^ 62) ≤ j ∧ j < 2 ^ 62) ∧ mComp t mt ml (wipeE E vs) (rngD i (j - i).toNat) [] b1 R
  | _ => False
def zipD : List PyData → List PyData → List PyData
  | x :: xs, y :: ys => .tuple [x, y] :: zipD xs ys
  | _, _ => []
def mLcZ (t : WG1) (ms : WL) (mt : WT) (ml : WE) (vs : List Nat) : WL := fun E b R => ms E b fun ds b1 => match ds with
  | [.list xs, .list ys] => mComp t mt ml (wipeE E vs) (zipD xs ys) [] b1 R
  | _ => False
section
variable {W : Wld} {H0 : Bs} {H H1 : Hp} {σ : L2.St} {E : Env} {b b1 : Bt}
theorem Sit.no {i : Nat} (S : Sit W H0 σ H E b) : Sit W H0 (σ.set i none) H (E.set i .no) b := by
  refine ⟨by simp [S.len], fun j t e => ?_, fun p q s1 t a' ne h1 o1 h2 o2 e => ?_, S.kp, S.dk, S.fk⟩
  · by_cases hj : i = j
    · subst hj
      have hl : i < E.length := by have := (List.getElem?_eq_some_iff.mp e).1; simpa using this
      rw [List.getElem?_set_self hl] at e
      cases e
      exact ⟨_, List.getElem?_set_self (by rw [S.len]; exact hl), trivial⟩
    · rw [List.getElem?_set_ne hj] at e
      obtain ⟨u, h1, h2⟩ := S.at_ j t e
      exact ⟨u, by rw [List.getElem?_set_ne hj]; exact h1, h2⟩
  · have np : i ≠ p := fun z => by
      subst z
      have hl : i < E.length := by have := (List.getElem?_eq_some_iff.mp h1).1; simpa using this
      rw [List.getElem?_set_self hl] at h1
      cases h1; cases o1
    have nq : i ≠ q := fun z => by
      subst z
      have hl : i < E.length := by have := (List.getElem?_eq_some_iff.mp h2).1; simpa using this
      rw [List.getElem?_set_self hl] at h2
      cases h2; cases o2
    rw [List.getElem?_set_ne np] at h1 e
    rw [List.getElem?_set_ne nq] at h2 ⊢
    exact S.apart p q s1 t a' ne h1 o1 h2 o2 e
theorem Sit.wipe (S : Sit W H0 σ H E b) : ∀ vs : List Nat, Sit W H0 (L2.wipe σ vs) H (wipeE E vs) b
  | [] => S
  | v :: vs => (Sit.wipe S vs).no
theorem wipe_in {σ : L2.St} {i : Nat} : ∀ {vs : List Nat}, i ∈ vs → i < σ.length → (L2.wipe σ vs)[i]? = some none
  | v :: vs, h, l => by
    show ((L2.wipe σ vs).set v none)[i]? = _
    by_cases e : v = i
    · subst e
      rw [List.getElem?_set_self (by rw [wipe_length]; exact l)]
    · rw [List.getElem?_set_ne e]
      rcases List.mem_cons.mp h with z | z
      · exact absurd z.symm e
      · exact wipe_in z l
theorem wipe_sm {ws vs : List Nat} {σ σ' : L2.St} (h : Sm ws (L2.wipe σ vs) σ') (hw : ∀ i ∈ ws, i ∈ vs) : L2.wipe σ' vs = L2.wipe σ vs := by
  have l : σ'.length = σ.length := h.1.trans (wipe_length σ vs)
  refine List.ext_getElem? fun j => ?_
  by_cases hj : j ∈ vs
  · by_cases hl : j < σ.length
    · rw [wipe_in hj (by omega), wipe_in hj hl]
    · rw [List.getElem?_eq_none (by rw [wipe_length]; omega), List.getElem?_eq_none (by rw [wipe_length]; omega)]
  · rw [wipe_out hj, h.2 j (fun z => hj (hw j z))]
/-- the turns of a comprehension -/
theorem comp_core {J : It} {n : Nat} {G : Hp → Prop} {Y : Nat → Hp → V → Hp → Prop} (w : Walk J n G Y) {g : TG} {t : WG1} {mt : WT} {ml : WE} {vs ws : List Nat} {xs : List PyData} {B : Hp → V → PyData → Prop} {R : List PyData → Bt → Prop} {Q : VK} (gb : GB B ws g t) (hw : ∀ i ∈ ws, i ∈ vs) (S : Sit W H0 σ H E b)
    (hn : xs.length = n) (hG : ∀ H', Fk H H' → Kp W.M H H' → G H') (hm : mComp t mt ml (wipeE E vs) xs [] b R) (hY : ∀ i H1 v H2, Fk H H1 → Y i H1 v H2 → Ex H1 H2 ∧ ∃ x, xs[i]? = some x ∧ B H2 v x)
    (q : ∀ ds b' a zs H', R ds b' → Kp W.M H H' → W.Dk b' H' → H a = none → H' a = some (.lst zs) → DtAll H' zs ds → Q (.ref a) H') :
    ∀ D, H D = none → ∃ P : Nat → Nat → Hp → Prop, (∃ m, P 0 m (upd H D (.lst []))) ∧ ∀ i m H', P i m H' →
      (J.stop i H' ∧ Q (.ref D) H') ∨ (J.go i H' ∧ ∃ Nx : Hp → Prop, (∀ H2, Nx H2 → ∃ m', m' < m ∧ P (i + 1) m' H2) ∧ ∀ x H2, J.yld i H' x H2 → g x (L2.wipe σ vs) H2 fun σ2 H2 => L2.wipe σ2 vs = L2.wipe σ vs ∧ tT mt σ2 H2 fun b H3 =>
        if b = true then tE ml σ2 H3 fun y H4 => ∃ acc, H4 D = some (.lst acc) ∧ acc.length < sizeLine ∧ Nx (upd H4 D (.lst (acc ++ [y]))) else Nx H3) := by
  intro D hD
  have nM : ¬ W.M D := W.free S.dk hD
  refine lc_it w (Qd := fun H' => Q (.ref D) H') (fun i H' => ∃ b' zs acc, Kp W.M H H' ∧ W.Dk b' H' ∧ H' D = some (.lst zs) ∧ DtAll H' zs acc ∧ mComp t mt ml (wipeE E vs) (xs.drop i) acc b' R)
    ⟨b, [], [], Kp.ex (Ex.new hD), W.ex (Ex.new hD) S.dk, upd_same, .nil, by simpa using hm⟩ (fun i H' _ ⟨b', zs, acc, k, _⟩ => hG H' (W.fk S.dk k) k) ?_ ?_
  · rintro i v H1 H2 hi ⟨b', zs, acc, k1, d1, h1, t1, hm'⟩ hy
    obtain ⟨e12, x, hx, bx⟩ := hY i H1 v H2 (W.fk S.dk k1) hy
    have hd : xs.drop i = x :: xs.drop (i + 1) := by
      obtain ⟨hl, e⟩ := List.getElem?_eq_some_iff.mp hx
      rw [List.drop_eq_getElem_cons hl, e]
    rw [hd] at hm'
    have k2 : Kp W.M H H2 := k1.trans (Kp.ex e12)
    have d2 : W.Dk b' H2 := W.ex e12 d1
    have S2 : Sit W H0 (L2.wipe σ vs) H2 (wipeE E vs) b' := (S.step k2 d2).wipe vs
    refine gb.run S2 bx hm' fun σ3 E3 h3 s3 S3 => ⟨wipe_sm s3 hw, W, H0, E3, b', _, S3, h3, fun c b4 H4 h4 k4 d4 => ?_⟩
    have S4 := S3.step k4 d4
    have k24 : Kp W.M H1 H4 := (Kp.ex e12).trans k4
    cases c with
    | false => exact ⟨b4, zs, acc, k2.trans k4, d4, k24.1 D _ nM rfl h1, t1.mono (W.fk d1 k24), h4⟩
    | true =>
      refine ⟨W, H0, E3, b4, _, S4, h4, fun y b5 u H5 h5 k5 d5 t5 => ?_⟩
      have k25 := k24.trans k5
      have h5D := k25.1 D _ nM rfl h1
      have t15 := t1.mono (W.fk d1 k25)
      refine ⟨zs, h5D, sz_lt (by rw [t1.length]; exact h5.1), b5, zs ++ [u], acc ++ [y], ((k2.trans k4).trans k5).mut hD, W.put nM (loose_at h5D rfl) d5, upd_same, ?_, h5.2⟩
      exact ((t15.append (.cons t5 .nil)).mono (fk_put h5D))
  · rintro H' ⟨b', zs, acc, k1, d1, h1, t1, hm'⟩
    rw [← hn, List.drop_length] at hm'
    exact q acc b' D zs H' hm' k1 d1 hD h1 t1
end
section
variable {X : Cx} {e a b : Expr} {es : List Expr} {m ma mb : WE} {ms : WL} {pos : Pos}
theorem _root_.L2.PTs.weak {ifs : List Expr} {t t' : TT} (h : PTs X ifs t) (k : ∀ σ H Q, t' σ H Q → t σ H Q) : PTs X ifs t' := ⟨fun pins s σ H Q I q => h.run pins s σ H Q I (k σ H Q q)⟩
theorem pm_yes : PTs X [] (tT mYes) := pts_nil.weak fun σ H Q ⟨W, H0, E, b, R, S, hm, k⟩ => k true b H hm Kp.refl S.dk
theorem lc_of {K : PySem.W.Frag} {g : TG} {t : WG1} {ws vs : List Nat} {me : WE} {mt : WT} {ml : WE} {σ : L2.St} {H : Hp} {Q : VK} (gb : GB Dt ws g t) (hw : ∀ i ∈ ws, i ∈ vs) (h : tL (mLc t me mt ml vs) σ H Q) : tLc (iSq K (tQ me)) g (tT mt) (tE ml) vs σ H Q := by
  obtain ⟨W, H0, E, b, R, S, hm, k⟩ := h
  refine ⟨W, H0, E, b, _, S, hm, fun d b1 v H1 h1 k1 d1 t1 => ?_⟩
  have S1 := S.step k1 d1
  have fin : ∀ ds b' a zs H', R ds b' → Kp W.M H1 H' → W.Dk b' H' → H1 a = none → H' a = some (.lst zs) → DtAll H' zs ds → Q (.ref a) H' := fun ds b' a zs H' r kp dk na ha ta => k ds b' a zs H' r (k1.trans kp) dk (k1.back (W.free d1 na) na) ha ta
  rcases t1 with t1 | ⟨a, ds, rfl, rfl, nM, xs, ha, al⟩
  · cases d <;> first | exact h1.elim | skip
    · obtain ⟨a, o, xs, rfl, ha, al⟩ := t1.lst_inv
      refine ⟨a, rfl, .inl ⟨xs, .inl (.inr ⟨o, ha⟩), ?_⟩⟩
      refine comp_core (walk_list (K := K) (a := a) (xs := xs)) gb hw S1 al.length.symm (fun H' f _ => .inl (.inr ⟨o, f _ _ _ ha⟩)) h1 ?_ fin
      rintro i H2 x _ f ⟨rfl, hx⟩
      obtain ⟨dd, h2, h3⟩ := al.get hx
      exact ⟨Ex.refl _, dd, h2, h3.mono f⟩
    · obtain ⟨a, o, xs, rfl, ha, _, al⟩ := t1.tup_inv
      refine ⟨a, rfl, .inr ⟨xs, .inl (.inr ⟨o, ha⟩), ?_⟩⟩
      refine comp_core (walk_tup (K := K) (a := a) (xs := xs)) gb hw S1 al.length.symm (fun H' f _ => .inl (.inr ⟨o, f _ _ _ ha⟩)) h1 ?_ fin
      rintro i H2 x _ f ⟨rfl, hx⟩
      obtain ⟨dd, h2, h3⟩ := al.get hx
      exact ⟨Ex.refl _, dd, h2, h3.mono f⟩
  · refine ⟨a, rfl, .inl ⟨xs, .inl (.inl ha), ?_⟩⟩
    refine comp_core (walk_list (K := K) (a := a) (xs := xs)) gb hw S1 al.length.symm (fun H' _ kp => .inl (.inl (kp.1 a _ nM rfl ha))) h1 ?_ fin
    rintro i H2 x _ f ⟨rfl, hx⟩
    obtain ⟨dd, h2, h3⟩ := al.get hx
    exact ⟨Ex.refl _, dd, h2, h3.mono f⟩
theorem lcR_of {g : TG} {t : WG1} {ws vs : List Nat} {me : WL} {mt : WT} {ml : WE} {σ : L2.St} {H : Hp} {Q : VK} (gb : GB Dt ws g t) (hw : ∀ i ∈ ws, i ∈ vs) (h : tL (mLcR t me mt ml vs) σ H Q) : tLc (iRng1 (tA me)) g (tT mt) (tE ml) vs σ H Q := by
  obtain ⟨W, H0, E, b, R, S, hm, k⟩ := h
  refine ⟨W, H0, E, b, _, S, hm, fun ds b1 vs' H1 h1 k1 d1 t1 => ?_⟩
  have S1 := S.step k1 d1
  match ds, h1, t1 with
  | [.int j], h1, .cons (.int _) .nil =>
    refine ⟨j, rfl, h1.1.1, h1.1.2, ?_⟩
    have w : Walk (Itr 0 j.toNat) j.toNat (fun _ => True) (fun i H x H' => i < j.toNat ∧ H' = H ∧ x = .int (0 + i)) := ⟨fun _ _ hi _ => hi, fun _ _ => Nat.le_refl _, fun i _ _ _ hi _ y => ⟨hi, y⟩⟩
    refine comp_core w gb hw S1 rngD_len (fun _ _ _ => trivial) h1.2 ?_ fun ds b' a zs H' r kp dk na ha ta => k ds b' a zs H' r (k1.trans kp) dk (k1.back (W.free d1 na) na) ha ta
    rintro i H1 x H2 _ ⟨hi, rfl, rfl⟩
    exact ⟨Ex.refl _, _, rngD_get hi, .int _⟩
theorem zipD_get : ∀ {xs ys : List PyData} {i : Nat} {x y : PyData}, xs[i]? = some x → ys[i]? = some y → (zipD xs ys)[i]? = some (.tuple [x, y])
  | x :: xs, y :: ys, 0, _, _, h1, h2 => by simp at h1 h2; subst h1 h2; rfl
  | x :: xs, y :: ys, i + 1, _, _, h1, h2 => by simpa [zipD] using zipD_get (xs := xs) (ys := ys) (i := i) (by simpa using h1) (by simpa using h2)
  | [], _, _, _, _, h1, _ => by simp at h1
  | _ :: _, [], _, _, _, _, h2 => by simp at h2
theorem zipD_len : ∀ {xs ys : List PyData}, (zipD xs ys).length = min xs.length ys.length
  | [], _ => by simp [zipD]
  | _ :: _, [] => by simp [zipD]
  | x :: xs, y :: ys => by simp [zipD, zipD_len (xs := xs) (ys := ys)]
theorem lcZ_of {K : PySem.W.Frag} {g : TG} {t : WG1} {ws vs : List Nat} {me : WL} {mt : WT} {ml : WE} {σ : L2.St} {H : Hp} {Q : VK} (gb : GB (Bd K) ws g t) (hw : ∀ i ∈ ws, i ∈ vs) (h : tL (mLcZ t me mt ml vs) σ H Q) : tLc (iZip K (tAq me)) g (tT mt) (tE ml) vs σ H Q := by
  obtain ⟨W, H0, E, b, R, S, hm, k⟩ := h
  refine ⟨W, H0, E, b, _, S, hm, fun ds b1 vs' H1 h1 k1 d1 t1 => ?_⟩
  have S1 := S.step k1 d1
  split at h1
  · rename_i xs ys
    obtain ⟨v, u, rfl, q1, q2⟩ := dq2 t1
    obtain ⟨a1, us, rfl, s1, al1⟩ := q1.seqL (K := K)
    obtain ⟨a2, ws', rfl, s2, al2⟩ := q2.seqL (K := K)
    refine ⟨a1, a2, us, ws', rfl, s1, s2, ?_⟩
    have keep : ∀ {a : Addr} {zs : List V} {ds : List PyData}, Dq W H1 (.ref a) (.list ds) → SqL K H1 a zs → ∀ H', Kp W.M H1 H' → SqL K H' a zs := by
      intro a zs ds hq hs H' kp
      rcases hs with (hs | ⟨o, hs⟩) | hs
      · refine .inl (.inl (kp.1 a _ ?_ rfl hs))
        rcases hq with hq | ⟨a', ds', e1, e2, nM, _⟩
        · obtain ⟨a', o, xs, e1, h', _⟩ := hq.lst_inv
          cases e1
          rw [hs] at h'; cases h'
        · cases e1; exact nM
      · exact .inl (.inr ⟨o, W.fk d1 kp _ _ _ hs⟩)
      · exact .inr hs
    refine comp_core (walk_zip (K := K) (a := a1) (b := a2) (xs := us) (ys := ws') rfl) gb hw S1 (by rw [zipD_len, al1.length, al2.length]) (fun H' f kp => ⟨keep q1 s1 H' kp, keep q2 s2 H' kp⟩) h1 ?_ fun ds b' a zs H' r kp dk na ha ta => k ds b' a zs H' r (k1.trans kp) dk (k1.back (W.free d1 na) na) ha ta
    rintro i H2 x H3 f ⟨T, p, q, rfl, nT, rfl, hp, hq⟩
    obtain ⟨dp, e1, t1⟩ := al1.get hp
    obtain ⟨dq, e2, t2⟩ := al2.get hq
    have eN : Ex H2 (upd H2 T (.tup [p, q])) := Ex.new nT
    exact ⟨eN, _, zipD_get e1 e2, T, [p, q], [dp, dq], rfl, rfl, .inl (.inl upd_same), .cons ((t1.mono f).mono (Fk.ex eN)) (.cons ((t2.mono f).mono (Fk.ex eN)) .nil)⟩
  · exact h1.elim
theorem pm_setL {st : Stmt} {i : Nat} (h : PS X st (tAsg (tL ms) (gName i))) : PS X st (tS xw (mAsg i (vD (mLk ms)))) := by
  refine ⟨fun pins s σ H D I ⟨W, H0, E, b, F, S, hm, k⟩ => thn (h.run pins s σ H { D with nx := fun σ' H' => ∃ a xs, H' a = some (.lst xs) ∧ ∀ o, D.nx σ' (upd H' a (.frz o (.lst xs))) } I ?_) ?_⟩
  · refine ⟨W, H0, E, b, _, S, hm, fun ds b1 a xs H1 h1 k1 d1 na ha t1 => ⟨a, xs, ha, fun o => ?_⟩⟩
    have S1 : Sit W H0 σ (upd H1 a (.frz o (.lst xs))) E b1 := S.step (k1.mut na) (W.put (W.free S.dk na) (loose_at ha rfl) d1)
    exact k.nx _ _ _ b1 (S1.setV (s := .d (.list ds)) ⟨_, rfl, .lst upd_same (t1.mono (fk_lock ha))⟩ (fun z => by cases z)) h1
  · rintro (_ | u | _ | _) s' z
    · obtain ⟨σ', H', I', a, xs, ha, q⟩ := z
      obtain ⟨sz, its, n, rv, ho⟩ := (show ObjOk X.prog X.w H' s'.heap a (.lst xs) from I'.hok a _ ha)
      exact ⟨σ', _, I'.write (t' := s'.toks) (h' := s'.heap) (o := .frz { cls := .type "list", data := .seq its.toArray n } (.lst xs)) (by rw [ha]; exact True.intro) (.inl rfl) (fun b u _ e => e) ⟨_, ho⟩ ⟨ho, sz, its, n, rv, ho⟩, q _⟩
    all_goals exact z
/-! ### calls of defs -/
def gNo : WG := fun _ b R => R [] b
def gE (m : WE) (ms : WG) : WG := fun E b R => m E b fun d b1 => ms E b1 fun ss b2 => R (.d d :: ss) b2
def gO (i : Nat) (ms : WG) : WG := fun E b R => match E[i]? with
  | some (.l ds) => ms E b fun ss b2 => R (.rl ds :: ss) b2
  | some (.rl ds) => ms E b fun ss b2 => R (.rl ds :: ss) b2
  | some (.m ds) => ms E b fun ss b2 => R (.rm ds :: ss) b2
  | some (.rm ds) => ms E b fun ss b2 => R (.rm ds :: ss) b2
  | some (.s k) => ms E b fun ss b2 => R (.s k :: ss) b2
  | _ => False
theorem ArR.step {W : Wld} {H H1 : Hp} {n : Bt} {v : V} {s : Sl} (dk : W.Dk n H) (k : Kp W.M H H1) (h : ArR W H v s) : ArR W H1 v s := by
  cases s with
  | d x => exact Dt.mono (W.fk dk k) h
  | rl x => obtain ⟨a, e, t⟩ := h; exact ⟨a, e, t.step dk k⟩
  | rm x => obtain ⟨a, e, t⟩ := h; exact ⟨a, e, t.step dk k⟩
  | rn x => obtain ⟨a, e, t⟩ := h; exact ⟨a, e, t.step dk k⟩
  | s _ => exact h
  | r a => exact h
  | _ => exact h.elim
theorem pm_gno : PA X [] (tG gNo) := pa_nil.weak fun σ H Q ⟨W, H0, E, b, R, S, hm, k⟩ => k [] b [] H hm Kp.refl S.dk .nil
theorem pm_ge {gs : WG} (ha : PE X e (tE m)) (hr : PA X es (tG gs)) (hs : starEach (e :: es) X.env = (false, eval e X.env) :: starEach es X.env := by rfl) : PA X (e :: es) (tG (gE m gs)) := (pa_cons ha hr hs).weak fun σ H Q ⟨W, H0, E, b, R, S, hm, k⟩ =>
  ⟨W, H0, E, b, _, S, hm, fun d b1 v H1 h1 k1 d1 t1 => ⟨W, H0, E, b1, _, S.step k1 d1, h1, fun ss b2 vs H2 h2 k2 d2 t2 => k _ b2 _ H2 h2 (k1.trans k2) d2 (.cons (ArR.step (s := .d d) d1 k2 t1) t2)⟩⟩
theorem pm_go {gs : WG} {i : Nat} (ha : PE X e (tVar i)) (hr : PA X es (tG gs)) (hs : starEach (e :: es) X.env = (false, eval e X.env) :: starEach es X.env := by rfl) : PA X (e :: es) (tG (gO i gs)) := (pa_cons ha hr hs).weak fun σ H Q ⟨W, H0, E, b, R, S, hm, k⟩ => by
  unfold gO at hm
  have fin : ∀ (v : V) (s : Sl), σ[i]? = some (some v) → ArR W H v s → (gs E b fun ss b2 => R (s :: ss) b2) → tCons (tVar i) (tG gs) σ H Q := fun v s hv ar hg =>
    ⟨v, hv, W, H0, E, b, _, S, hg, fun ss b2 vs H2 h2 k2 d2 t2 => k _ b2 _ H2 h2 k2 d2 (.cons (ar.step S.dk k2) t2)⟩
  split at hm
  · obtain ⟨v, h1, a, rfl, _, t⟩ := S.at_ i _ (by assumption); exact fin _ (.rl _) h1 ⟨a, rfl, t⟩ hm
  · obtain ⟨v, h1, a, rfl, _, t⟩ := S.at_ i _ (by assumption); exact fin _ (.rl _) h1 ⟨a, rfl, t⟩ hm
  · obtain ⟨v, h1, a, rfl, _, t⟩ := S.at_ i _ (by assumption); exact fin _ (.rm _) h1 ⟨a, rfl, t⟩ hm
  · obtain ⟨v, h1, a, rfl, _, t⟩ := S.at_ i _ (by assumption); exact fin _ (.rm _) h1 ⟨a, rfl, t⟩ hm
  · obtain ⟨v, h1, e1⟩ := S.at_ i _ (by assumption)
    obtain ⟨e1, e2⟩ := e1
    subst e1
    exact fin _ (.s _) h1 ⟨rfl, e2⟩ hm
  · exact hm.elim
def mCall (mf : WF) (ms : WG) : WE := fun E b R => ms E b fun ss b1 => mf ss b1 R
theorem pm_call {k : Nat} {f : Addr} {fd : FuncData} {ps : List Str} {mf : WF} {gs : WG} {x : Str} {p : Pos} (F : Cn.FnG X.prog X.w X.K X.mg X.base k f fd ps (spOf mf)) (gd : X.A.guards = some []) (room : Room k X.A) (gl : Gl X x) (hm : X.mg x = some (.ref f)) (kp : PySem.W.keepIn X.K (.ref f) = true) (bd : Binds X.K fd ps [])
    (ha : PA X (e :: es) (tG gs)) (hdb : (x == ("__debug__" : Str)) = false := by decide) (he : starEach (e :: es) X.env = (false, eval e X.env) :: starEach es X.env := by rfl) (hpl : (backTo pos (starEach es X.env)).any (·.1) = false := by rfl) :
    PE X (.Call (.Name x p) (e :: es) [] pos) (tE (mCall mf gs)) := (Cn.pe_callG F gd room gl hm kp bd ha hdb he hpl).weak fun σ H Q ⟨W, H0, E, b, R, S, hm, k⟩ =>
  ⟨W, H0, E, b, _, S, hm, fun ss b1 vs H1 h1 k1 d1 t1 => by
    show spOf mf (vs ++ []) H1 Q E0
    rw [List.append_nil]
    exact ⟨W, ss, b1, _, t1, d1, h1, fun d b' v H' r kp dk t => k d b' v H' r (k1.trans kp) dk t⟩⟩
/-! ### defs -/
def mFn (np n : Nat) (mb : WS) : WF := fun as b R => as.length = np ∧ mb (as ++ List.replicate (n - np) .no) b { nx := fun _ b' => R .none b', rt := R }
theorem start_sit {W : Wld} {H : Hp} {b : Bt} {N : List Str} {vs : List V} {as : List Sl} (h : ArsR W H vs as) (d : W.Dk b H) (l : as.length ≤ N.length) : Sit W ⟨H, H⟩ (L2.start N vs) H (as ++ List.replicate (N.length - as.length) .no) b := by
  have hl : vs.length = as.length := h.length
  have get : ∀ (i : Nat) (s : Sl), as[i]? = some s → ∃ v, vs[i]? = some v ∧ ArR W H v s := by
    intro i s
    clear hl l
    induction h generalizing i with
    | nil => intro e; simp at e
    | cons a r ih =>
      intro e
      cases i with
      | zero => simp at e; subst e; exact ⟨_, rfl, a⟩
      | succ i => simpa using ih i (by simpa using e)
  have own : ∀ (i : Nat) (s : Sl), as[i]? = some s → isOwn s = false := fun i s e => by
    obtain ⟨v, _, ar⟩ := get i s e
    cases s <;> first | rfl | exact ar.elim
  refine ⟨by simp [L2.start]; omega, fun i s e => ?_, fun i j s t a _ h1 o1 => ?_, Kp.refl, d, fun _ _ _ z => z⟩
  · by_cases hi : i < as.length
    · rw [List.getElem?_append_left hi] at e
      obtain ⟨v, hv, ar⟩ := get i s e
      refine ⟨some v, ?_, ?_⟩
      · unfold L2.start
        rw [List.getElem?_append_left (by simpa [hl] using hi), List.getElem?_map, hv]
        rfl
      · cases s with
        | d x => exact ⟨v, rfl, ar⟩
        | rl x => obtain ⟨a, rfl, nm, xs, h1, h2⟩ := ar; exact ⟨a, rfl, by show H a ≠ none; rw [h1]; simp, nm, xs, h1, h2⟩
        | rm x => obtain ⟨a, rfl, nm, xs, h1, h2⟩ := ar; exact ⟨a, rfl, by show H a ≠ none; rw [h1]; simp, nm, xs, h1, h2⟩
        | rn x => obtain ⟨a, rfl, nm, ob, h1, h2⟩ := ar; exact ⟨a, rfl, by show H a ≠ none; rw [h1]; simp, nm, ob, h1, h2⟩
        | s _ => exact ⟨congrArg some ar.1, ar.2⟩
        | r a => exact congrArg some ar
        | _ => exact ar.elim
    · have hi' : as.length ≤ i := by omega
      rw [List.getElem?_append_right hi', List.getElem?_replicate] at e
      split at e
      · cases e
        refine ⟨none, ?_, trivial⟩
        unfold L2.start
        rw [List.getElem?_append_right (by simp; omega), List.getElem?_replicate, if_pos (by simp; omega)]
      · cases e
  · exfalso
    by_cases hi : i < as.length
    · rw [List.getElem?_append_left hi] at h1
      rw [own i s h1] at o1
      cases o1
    · rw [List.getElem?_append_right (by omega), List.getElem?_replicate] at h1
      split at h1
      · cases h1; cases o1
      · cases h1
theorem fn_of {P : Program} {w : World} {K : PySem.W.Frag} {mg : Str → Option Value} {base : Heap} {x qual : Str} {st : Stmt} {f : Addr} {fd : FuncData} {N ps : List Str} {k : Nat} {mb : WS} (F : Fun K x qual st f fd) (S : FnScope N ps (defScope st)) (hps : ps.length ≤ N.length)
    (body : ∀ (cdv : Value) (A : Around) (out : List PySem.Env) (s : Shared) (H : Hp) (E : XK), A.guards = some [] → Room k (A.deeper (envOfC qual (defScope st) s.heap.objs.size f cdv)) → PSs (cxOf CX0 P w K mg base N qual (defScope st) f cdv A out s H E).nox (defBody st) (tS noX mb)) :
    Cn.FnG P w K mg base (k + 1) f fd ps (spOf (mFn ps.length N.length mb)) := by
  refine Cn.okG F S (fun vs H Q E h => ?_) (fun cdv A out s H vs Q E gd hr h => ⟨_, body cdv A out s H E gd hr, ?_⟩)
  · obtain ⟨W, as, b, R, ar, _, hm, _⟩ := h
    exact ar.length.trans hm.1
  · obtain ⟨W, as, b, R, ar, dk, ⟨hl, hm⟩, q⟩ := h
    have S := start_sit (N := N) ar dk (by rw [hl]; exact hps)
    rw [hl] at S
    exact ⟨W, ⟨H, H⟩, _, b, _, S, hm, ⟨fun σ' H' E' b' S' h' => q _ b' _ H' h' S'.kp S'.dk .non, fun _ _ _ _ _ z => z.elim, fun _ _ _ _ _ z => z.elim, fun d b' v H' r kp d' t => q d b' v H' r kp d' t, fun _ _ _ _ _ _ _ z => z.elim⟩⟩
end
end Wp

namespace Wp
open PySem PySem.Spec PyProof.Rows L2 Evl
/-! ### repr, str -/
def reprW : WB := fun ds R => match ds with
  | [d] => (d.showable = true ∧ d.shown.length ≤ 1000000 ∧ d.depth ≤ 50) ∧ R (.str d.shown)
  | _ => False
def strW : WB := fun ds R => match ds with
  | [.int i] => i.natAbs.log2 < 1920 ∧ R (.str (toString i))
  | [.bool c] => R (.str (if c then "True" else "False"))
  | _ => False
section
variable {X : Cx} {e a b : Expr} {es : List Expr} {m ma mb : WE} {ms : WL} {pos : Pos}
/-! ### isinstance -/
def tyD : PyData → String
  | .none => "NoneType"
  | .bool _ => "bool"
  | .int _ => "int"
  | .str _ => "str"
  | .list _ => "list"
  | .tuple _ => "tuple"
  | .dict _ => "dict"
def isI : PyData → Bool
  | .int _ => true
  | .bool _ => true
  | _ => false
def isB : PyData → Bool
  | .bool _ => true
  | _ => false
def isT : PyData → Bool
  | .tuple _ => true
  | _ => false
def isS : PyData → Bool
  | .str _ => true
  | _ => false
def isL : PyData → Bool
  | .list _ => true
  | _ => false
theorem kit_int (d : PyData) : kitB (tyD d) "int" = some (isI d) := by cases d <;> simp only [tyD, isI] <;> decide +kernel
theorem kit_bool (d : PyData) : kitB (tyD d) "bool" = some (isB d) := by cases d <;> simp only [tyD, isB] <;> decide +kernel
theorem kit_tuple (d : PyData) : kitB (tyD d) "tuple" = some (isT d) := by cases d <;> simp only [tyD, isT] <;> decide +kernel
theorem Dt.tyx {K : PySem.W.Frag} {H : Hp} {v : V} {d : PyData} (h : Dt H v d) (hr : isRf d = false) : TyX K H v (.type (tyD d)) := by
  cases h with
  | non => exact .base .non
  | bl b => exact .base (.bl b)
  | int i => exact .base (.int i)
  | str x => exact .base (.str x)
  | rf a => rw [isRf_ref] at hr; cases hr
  | tup h _ _ => exact .fTuple h
  | lst h _ => exact .base (.frz h)
  | dic h _ _ => exact .fDict h
def mIsi (f : PyData → Bool) (m : WE) : WE := fun E b R => m E b fun d b1 => isRf d = false ∧ R (.bool (f d)) b1
theorem pm_isi {p p2 : Pos} {T : Str} {c : String} {f : PyData → Bool} (hk : ∀ d, kitB (tyD d) c = some (f d)) (hg : Gl X "isinstance") (hm : X.mg "isinstance" = none) (he : PE X e (tE m)) (hc : PE X (.Name T p2) (tC (.ty c))) (hs1 : starEach [e, .Name T p2] X.env = (false, eval e X.env) :: starEach [.Name T p2] X.env := by rfl) (hs2 : starEach [.Name T p2] X.env = (false, eval (.Name T p2) X.env) :: starEach [] X.env := by rfl) (hpl : (backTo pos (starEach [.Name T p2] X.env)).any (·.1) = false := by rfl) :
    PE X (.Call (.Name "isinstance" p) [e, .Name T p2] [] pos) (tE (mIsi f m)) := (pe_callB (id := "isinstance") call_isi hg hm (by decide +kernel) (pa_cons he (pa_cons hc pa_nil hs2) hs1) (by decide) (by decide) hs1 hpl).weak fun σ H Q ⟨W, H0, E, b, R, S, hm, k⟩ =>
  ⟨W, H0, E, b, _, S, hm, fun d b1 v H1 h1 k1 d1 t1 => ⟨v, .ty c, .type (tyD d), .type c, f d, rfl, .ty c, t1.tyx h1.1, kit_ty (hk d), k _ b1 _ H1 h1.2 k1 d1 (.bl _)⟩⟩
/-! ### sorted -/
mutual
theorem nob_alike : ∀ d : PyData, PySem.W.alike d d = true → nob d = true
  | .none, _ => by simp only [nob]
  | .bool _, _ => by simp only [nob]
  | .int _, _ => by simp only [nob]
  | .str _, _ => by simp only [nob]
  | .list xs, h => by simp only [nob]; exact nobAll_alike xs (by simpa only [PySem.W.alike] using h)
  | .tuple xs, h => by simp only [nob]; exact nobAll_alike xs (by simpa only [PySem.W.alike] using h)
  | .dict _, h => by simp [PySem.W.alike] at h
theorem nobAll_alike : ∀ ds : List PyData, PySem.W.alikeAll ds ds = true → nobAll ds = true
  | [], _ => by simp only [nobAll]
  | d :: ds, h => by
    simp only [PySem.W.alikeAll, Bool.and_eq_true] at h
    simp only [nobAll, Bool.and_eq_true]
    exact ⟨nob_alike d h.1, nobAll_alike ds h.2⟩
end
def srt (xs : List PyData) : List PyData := xs.mergeSort (PySem.W.dataLe false fun d => d)
def okSrt (xs : List PyData) : Prop := PySem.W.AllAlike xs ∧ PySem.W.Sortable xs ∧ (∀ d ∈ xs, d.depth ≤ 50) ∧ xs.length ≤ 100000
def sortW : WBL := fun ds R => match ds with
  | [.list xs] => okSrt xs ∧ R (srt xs)
  | [.tuple xs] => okSrt xs ∧ R (srt xs)
  | _ => False
end
section
variable {prog : Program} {w : World} {A : Around} {E : Value → Shared → Prop} {s : Shared}
theorem collect_tup {l : Addr} {vs : List Value} {Q : List Value → Shared → Prop} (hl : s.heap.IsTuple l vs.toArray)
    (h : Q vs { s with heap := (s.heap.push (seqObj "list" #[] 0)).update s.heap.objs.size (Obj.mapSeq (· ++ vs.toArray)) }) (hsz : vs.length ≤ sizeLine) : wpAny (model prog w) A (collect (.ref l)) Q E s := by
  obtain ⟨o, ho, hc, n, hd⟩ := hl
  unfold collect; refine wpAny_bind (wpAny_runValue (codeAny_builtin entry_proto_collect' ?_))
  show wpAny _ _ (do again (.builtin "list.__iadd__" ⟨[← newList [], .ref l], []⟩)) _ _ s; refine wpAny_bind (wpAny_newList (wpAny_pure ⟨Code.quiet_builtin _ (by decide +kernel), codeAny_builtin entry_list_iadd' ?_⟩))
  show wpAny _ _ (Builtin.List.listExtendWith (.ref s.heap.objs.size) (.ref l) (.ref s.heap.objs.size)) _ _ { s with heap := s.heap.push (seqObj "list" #[] 0) }; unfold Builtin.List.listExtendWith
  have ho2 : (s.heap.push (seqObj "list" #[] 0)).get? l = some o := Heap.get?_push_of_some _ ho
  refine wpAny_bind (wpAny_typeOf (T := "tuple") ⟨o, ho2, hc⟩ ?_); rw [if_pos (by simp)]
  refine wpAny_bind (listItems_at ho2 hd (wpAny_bind (listItems_at (xs := #[]) (n := 0) (Heap.get?_push_size _ rfl) rfl ?_))); rw [if_neg (by simp)]
  have room : (#[] ++ vs.toArray).size ≤ sizeLine + 1 := by simp only [Array.size_append, List.size_toArray, List.length_nil]; omega
  refine wpAny_bind (listUpdate_at (xs := #[]) (n := 0) (Heap.get?_push_size _ rfl) rfl (wpAny_pure ?_) (Nat.zero_le _) room)
  show wpAny (model prog w) A (do
      let q ← load s.heap.objs.size
      match q.data with
      | .seq zs _ => pure zs.toList
      | _ => unsupported "internal:collect") Q E { s with heap := (s.heap.push (seqObj "list" #[] 0)).update s.heap.objs.size (Obj.mapSeq (· ++ vs.toArray)) }
  refine wpAny_bind (wpAny_load (get?_update_seq (Heap.get?_push_size _ rfl) _) (show wpAny _ _ (pure ((#[] : Array Value) ++ vs.toArray).toList) Q E _ from ?_))
  have e : ((#[] : Array Value) ++ vs.toArray).toList = vs := by simp
  rw [e]; exact wpAny_pure h
open PySem.W in
theorem sorted_tup {κ : PyProof.Rows.KeyKind} {l : Addr} {vs : List Value} {Q : Value → Shared → Prop} (hl : s.heap.IsTuple l vs.toArray) (S : SortsAt prog w A.in1.in1 { s with heap := sortingHeap (copyHeap s.heap vs) (s.heap.objs.size + 1) vs } κ vs) (hL : vs.length ≤ sizeLine)
    (h : Q (.ref (s.heap.objs.size + 1)) { s with heap := sortedAll s.heap vs (sortVals κ false vs vs).toArray }) : wpAny (model prog w) A (call (.builtin "sorted") [.ref l]) Q E s := by
  refine call_function_entry_kw kind_sorted plain_sorted entry_sorted (args_sorted1 _) ?_; unfold Builtin.«sorted»
  refine wpAny_bind (m := checkCount "sorted" 1 1 _) (wpAny_pure (wpAny_bind (collect_tup hl (wpAny_bind (wpAny_newList ?_ hL)) hL)))
  have hsz : ((s.heap.push (seqObj "list" #[] 0)).update s.heap.objs.size (Obj.mapSeq (· ++ vs.toArray))).objs.size = s.heap.objs.size + 1 := by rw [Heap.size_update, size_push']
  show wpAny _ _ _ _ _ { s with heap := copyHeap s.heap vs }; rw [hsz]
  refine wpAny_bind (wpAny_holding (wpAny_call_entry_kw slot_list_sort ⟨_, copyHeap_at s.heap vs, rfl⟩ entry_list_sort (?_ : wpAny (model prog w) A.in1.in1 (Builtin.«list.sort» ⟨[.ref (s.heap.objs.size + 1)], []⟩) _ _ _) (args_list_sort _)))
  refine wpAny_mono (list_sort_vals (κ := κ) (P := fun f s' => f = .done (.ret .none) ∧ Q (.ref (s.heap.objs.size + 1)) s') (s := { s with heap := copyHeap s.heap vs }) (copyHeap_at s.heap vs) S hL ⟨rfl, h⟩) (fun f s' hf => ?_) fun _ _ e => e
  obtain ⟨rfl, hq⟩ := hf
  exact ⟨_, rfl, wpAny_pure ⟨_, rfl, hq⟩⟩
open PySem.W in
/-- sorted(xs), xs a list or a tuple of data -/
theorem sorted_vd {R : Value → V × PyData → Prop} {l : Addr} {vs : List Value} {bs : List (V × PyData)} {Q : Value → Shared → Prop} (hl : s.heap.IsList l vs.toArray ∨ s.heap.IsTuple l vs.toArray) (e : EachIs R vs bs) (er : EachIs (fun v b => ∃ as, Reads s.heap v b.2 as) vs bs) (hal : AllAlike (bs.map (·.2))) (hk : Sortable (bs.map (·.2))) (hL : bs.length ≤ sizeLine)
    (hu : ∀ b, b ∈ bs → A.units + 2 + b.2.depth < cLine) (h : ∀ out, out.length = bs.length → EachIs R out (bs.mergeSort (dataLe false (·.2))) → Q (.ref (s.heap.objs.size + 1)) { s with heap := sortedAll s.heap vs (List.toArray out) }) :
    wpAny (model prog w) A (call (.builtin "sorted") [.ref l]) Q E s := by
  rcases hl with hl | hl
  · exact sorted_data (enc := (·.2)) hl e er hal hk hL hu h
  · have er' : EachIs (fun v (b : V × PyData) => ∃ as, Reads (sortingHeap (copyHeap s.heap vs) (s.heap.objs.size + 1) vs) v b.2 as) vs bs := er.mono fun _ _ ⟨as, r⟩ => ⟨as, PyProof.Rows.Reads.keeps (fun _ _ z => sorting_copy_old z) r⟩
    have sa := SortsAt.data (prog := prog) (w := w) (A := A.in1.in1) (s := { s with heap := sortingHeap (copyHeap s.heap vs) (s.heap.objs.size + 1) vs }) (each_map (R := fun v d => ∃ as, Reads (sortingHeap (copyHeap s.heap vs) (s.heap.objs.size + 1) vs) v d as) (fun b : V × PyData => b.2) er') hal hk (bound_map (enc := fun b : V × PyData => b.2) hu)
    exact sorted_tup hl sa (by rw [e.length]; exact hL) (h _ (by rw [sortVals_length false rfl]; exact e.length) (sortVals_data (enc := (·.2)) false e er' hal))
end
section
variable {X : Cx}
theorem each_of {H : Hp} {pins : List (Addr × Obj)} {σ : L2.St} {s : Shared} (I : Inv X pins σ H s) : ∀ {xs : List V} {us : List Value} {ds : List PyData}, Vals xs us → DtAll H xs ds → (∀ d ∈ ds, nob d = true) → PySem.W.EachIs (fun u (b : V × PyData) => RelV b.1 u) us (xs.zip ds) ∧ PySem.W.EachIs (fun u (b : V × PyData) => ∃ as, Reads s.heap u b.2 as) us (xs.zip ds)
  | _, _, _, .nil, .nil, _ => ⟨.nil, .nil⟩
  | _, _, _, .cons r rs, .cons t ts, hn => by
    obtain ⟨h1, h2⟩ := each_of I rs ts fun d hd => hn d (List.mem_cons_of_mem _ hd)
    obtain ⟨as, hr, _⟩ := Dt.reads I _ _ _ (hn _ (List.mem_cons_self ..)) t r
    exact ⟨.cons r h1, .cons ⟨as, hr⟩ h2⟩
theorem vals_each : ∀ {us : List Value} {bs : List (V × PyData)}, PySem.W.EachIs (fun u (b : V × PyData) => RelV b.1 u) us bs → Vals (bs.map (·.1)) us
  | _, _, .nil => .nil
  | _, _, .cons r rs => .cons r (vals_each rs)
theorem dt_zip {H : Hp} : ∀ {xs : List V} {ds : List PyData}, DtAll H xs ds → ∀ p ∈ xs.zip ds, Dt H p.1 p.2
  | _, _, .nil, p, h => by simp at h
  | _, _, .cons t ts, p, h => by
    simp only [List.zip_cons_cons, List.mem_cons] at h
    rcases h with rfl | h
    · exact t
    · exact dt_zip ts p h
theorem all_map {H : Hp} : ∀ {bs : List (V × PyData)}, (∀ p ∈ bs, Dt H p.1 p.2) → DtAll H (bs.map (·.1)) (bs.map (·.2))
  | [], _ => .nil
  | b :: bs, h => .cons (h b (List.mem_cons_self ..)) (all_map fun p hp => h p (List.mem_cons_of_mem _ hp))
theorem cr_sortW (ho : XO X) : CallR X (.builtin "sorted") (rCL sortW) := by
  intro pins s σ H vs us Q I r h
  obtain ⟨W, ds, R, h1, hw, k⟩ := h
  have un := ho.un
  have fin : ∀ (zs : List PyData) (a : Addr) (xs : List V) (its : List Value), vs = [.ref a] → Vals xs its → DtAll H xs zs → (s.heap.IsList a its.toArray ∨ s.heap.IsTuple a its.toArray) → okSrt zs → R (srt zs) → wpAny (model X.prog X.w) X.A (call (.builtin "sorted") us) (EP X pins σ Q) X.xe s := by
    intro zs a xs its ev rv al hl ok hr
    subst ev
    rw [Vals.ref1 r]
    have l1 := al.length
    have e2 : (xs.zip zs).map (·.2) = zs := List.map_snd_zip (by omega)
    obtain ⟨q1, q2⟩ := each_of I rv al fun d hd => nob_alike d (ok.1 d hd d hd)
    refine sorted_vd hl q1 q2 (by rw [e2]; exact ok.1) (by rw [e2]; exact ok.2.1) (by rw [List.length_zip]; have := ok.2.2.2; exact sz_of (by omega)) (fun b hb => ?_) fun out lo eo => ?_
    · have := ok.2.2.1 b.2 (by rw [← e2]; exact List.mem_map_of_mem hb)
      omega
    · have pm : ((xs.zip zs).mergeSort (PySem.W.dataLe false (·.2))).Perm (xs.zip zs) := List.mergeSort_perm _ _
      have dts : ∀ p ∈ (xs.zip zs).mergeSort (PySem.W.dataLe false (·.2)), Dt H p.1 p.2 := fun p hp => dt_zip al p (pm.mem_iff.mp hp)
      have em : ((xs.zip zs).mergeSort (PySem.W.dataLe false (·.2))).map (·.2) = srt zs := by
        have := List.map_mergeSort (r := PySem.W.dataLe false (fun b : V × PyData => b.2)) (s := PySem.W.dataLe false fun d => d) (f := fun b : V × PyData => b.2) (l := xs.zip zs) (fun a _ b _ => rfl)
        rw [this, e2]
        rfl
      have nf : H (s.heap.objs.size + 1) = none := I.hok.fresh (Nat.le_succ _)
      obtain ⟨ep, he'⟩ := PyProof.Rows.sortedAll_at s.heap its out.toArray
      have vo := vals_each eo
      have am := all_map dts
      rw [em] at am
      refine ⟨.ref _, upd H (s.heap.objs.size + 1) (.lst (((xs.zip zs).mergeSort (PySem.W.dataLe false (·.2))).map (·.1))), I.laid (t' := s.toks) (fun _ _ z => PyProof.Rows.sortedAll_old z) (Nat.le_succ _) ⟨?_, out, ep, vo, he'⟩, rfl, k _ _ _ _ hr (Ex.new nf) nf upd_same (am.mono (Fk.ex (Ex.new nf)))⟩
      rw [vo.length, lo, List.length_zip]
      have := ok.2.2.2
      exact sz_of (by omega)
  unfold sortW at hw
  split at hw
  · obtain ⟨v, rfl, t⟩ := dq1 h1
    obtain ⟨u, rfl, ru⟩ := vals1 r
    obtain ⟨a, xs, rfl, sq, al⟩ := t.seqL (K := X.K)
    obtain ⟨its, rv, pl, _⟩ := I.list sq
    exact fin _ a xs its rfl rv al (.inl pl.isList) hw.1 hw.2
  · obtain ⟨v, rfl, t⟩ := dq1 h1
    obtain ⟨a, o, xs, rfl, _, _, sq, al⟩ := t.seqT (K := X.K)
    obtain ⟨its, rv, pl, _⟩ := I.tuple sq
    exact fin _ a xs its rfl rv al (.inr pl) hw.1 hw.2
  · exact hw.elim
end
end Wp

namespace Wp
open PySem PySem.Spec PyProof.Rows L2 Evl
/-! ### sorted(set(..)) of ints -/
section
variable {X : Cx} {e a b : Expr} {es : List Expr} {m ma mb : WE} {ms : WL} {pos : Pos}
def mSS (m : WE) : WL := fun E b R => m E b fun d b1 => match d with
  | .list xs => ∃ ns : List Int, xs = ns.map PyData.int ∧ ns.length < 64 ∧ R ((Cn.sortU ns).map PyData.int) b1
  | _ => False
/-! ### slices -/
def cutD (ds : List PyData) (lo hi : Option Int) : List PyData := (ds.drop (HT.sIx ds.length 0 lo)).take (HT.sIx ds.length ds.length hi - HT.sIx ds.length 0 lo)
def slW (d : PyData) (lo hi : Option Int) (R : PyData → Prop) : Prop := match d with
  | .tuple xs => R (.tuple (cutD xs lo hi))
  | .list xs => R (.list (cutD xs lo hi))
  | _ => False
abbrev WO := Env → Bt → (Option Int → Bt → Prop) → Prop
def mNo : WO := fun _ b R => R none b
def mPt (m : WE) : WO := fun E b R => m E b fun d b1 => match d with
  | .int i => R (some i) b1
  | _ => False
def tO (m : WO) : TO := fun σ H Q => ∃ W H0 E b R, Sit W H0 σ H E b ∧ m E b R ∧ ∀ o b' H', R o b' → Kp W.M H H' → W.Dk b' H' → Q o H'
theorem pm_pno : PO X none (tO mNo) := ⟨fun pins s σ H Q I ⟨W, H0, E, b, R, S, hm, k⟩ => po_none.run pins s σ H Q I (k none b H hm Kp.refl S.dk)⟩
theorem pm_pt (h : PE X e (tE m)) : PO X (some e) (tO (mPt m)) := ⟨fun pins s σ H Q I ⟨W, H0, E, b, R, S, hm, k⟩ => (po_some h).run pins s σ H Q I ⟨W, H0, E, b, _, S, hm, fun d b1 v H1 h1 k1 d1 t1 => by
  cases d <;> first | exact h1.elim | skip
  cases t1
  exact ⟨_, rfl, k _ b1 H1 h1 k1 d1⟩⟩⟩
def rSlD : V → Option Int → Option Int → Hp → VK → Prop := fun x lo hi H Q => ∃ (W : Wld) (d : PyData) (R : PyData → Prop), Dq W H x d ∧ slW d lo hi R ∧ ∀ z v H', R z → Ex H H' → Dt H' v z → Q v H'
theorem sl_D : L2.SlR X rSlD := by
  intro pins s σ H x v vl vu lo hi sl Q I rx hs pl pu h
  obtain ⟨W, d, R, hq, hw, k⟩ := h
  have nf : H s.heap.objs.size = none := I.hok.fresh (Nat.le_refl _)
  cases d <;> first | exact hw.elim | skip
  · rename_i ds
    obtain ⟨a, xs, rfl, sq, al⟩ := hq.seqL (K := X.K)
    cases rx
    obtain ⟨its, r, ht, hz⟩ := I.list sq
    have hlen := r.length
    have hl2 := al.length
    refine ⟨"list", _, slot_list_getitem.lookup, ht.isList.typeIs, wpAny_getItem_list_slice ht.isList hs pl pu .none (by simp) ?_ (by rw [List.size_toArray] <;> omega)⟩
    rw [slicePick_cut, ← hlen]
    refine ⟨.ref s.heap.objs.size, _, Inv.lz I ((r.drop (HT.sIx xs.length 0 lo)).take (HT.sIx xs.length xs.length hi - HT.sIx xs.length 0 lo)) (Nat.le_trans (cutV_length xs lo hi) hz), rfl, k _ _ _ hw (Ex.new nf) (.lst upd_same ?_)⟩
    unfold cutD
    rw [← hl2]
    exact ((al.drop _).take _).mono (Fk.ex (Ex.new nf))
  · rename_i ds
    obtain ⟨a, o, xs, rfl, ha, na, sq, al⟩ := hq.seqT (K := X.K)
    cases rx
    obtain ⟨its, r, ht, hz⟩ := I.tuple sq
    have hl2 := al.length
    have hlen : its.toArray.size = xs.length := by rw [List.size_toArray]; exact r.length.symm
    refine ⟨"tuple", _, PyProof.Rows.slot_tuple_getitem.lookup, ht.typeIs, ?_⟩
    by_cases hw2 : HT.sIx xs.length 0 lo = 0 ∧ HT.sIx xs.length xs.length hi = xs.length
    · refine getItem_tuple_whole ht hs pl pu (by rw [hlen]; exact hw2) ⟨.ref a, H, I, rfl, k _ _ H hw (Ex.refl H) (.tup ha na ?_)⟩
      unfold cutD
      rw [← hl2, hw2.1, hw2.2, hl2]
      simpa using al
    · refine HT.getItem_tuple_cut ht hs pl pu (by rw [hlen]; exact hw2) ?_ (by rw [hlen]; exact hz)
      rw [hlen]
      have vr : Vals (cutV xs lo hi) ((its.drop (HT.sIx xs.length 0 lo)).take (HT.sIx xs.length xs.length hi - HT.sIx xs.length 0 lo)) := (r.drop _).take _
      refine ⟨.ref s.heap.objs.size, _, I.laid (t' := s.toks) (o := .frz { cls := .type "tuple", data := .seq ((its.drop (HT.sIx xs.length 0 lo)).take (HT.sIx xs.length xs.length hi - HT.sIx xs.length 0 lo)).toArray } (.tup (cutV xs lo hi))) (fun b ob q => Heap.get?_push_of_some _ q) (Nat.le_refl _) ?_, rfl, k _ _ _ hw (Ex.new nf) (.tup upd_same rfl ?_)⟩
      · have here := Heap.get?_push_size s.heap (o := { cls := .type "tuple", data := .seq ((its.drop (HT.sIx xs.length 0 lo)).take (HT.sIx xs.length xs.length hi - HT.sIx xs.length 0 lo)).toArray }) rfl
        exact ⟨here, Nat.le_trans (cutV_length xs lo hi) hz, _, vr, ⟨_, here, rfl, _, rfl⟩⟩
      · unfold cutD
        rw [← hl2]
        exact ((al.drop _).take _).mono (Fk.ex (Ex.new nf))
def mSl (m : WE) (lo hi : WO) : WE := fun E b R => m E b fun d b1 => lo E b1 fun l b2 => hi E b2 fun u b3 => slW d l u fun z => R z b3
theorem pm_sl {lo hi : Option Expr} {mlo mhi : WO} {p2 : Pos} (he : PE X e (tQ m)) (hl : PO X lo (tO mlo)) (hh : PO X hi (tO mhi)) : PE X (.Subscript e (.Slice lo hi none p2) pos) (tE (mSl m mlo mhi)) := (pe_slice sl_D he hl hh).weak fun σ H Q ⟨W, H0, E, b, R, S, hm, k⟩ =>
  ⟨W, H0, E, b, _, S, hm, fun d b1 v H1 h1 k1 d1 t1 => ⟨W, H0, E, b1, _, S.step k1 d1, h1, fun l b2 H2 h2 k2 d2 => ⟨W, H0, E, b2, _, (S.step k1 d1).step k2 d2, h2, fun u b3 H3 h3 k3 d3 =>
    ⟨W, d, _, (t1.step d1 k2).step d2 k3, h3, fun z v' H' r e' t' => k z b3 v' H' r (((k1.trans k2).trans k3).trans (Kp.ex e')) (W.ex e' d3) t'⟩⟩⟩⟩
/-! ### dicts of one's own -/
def dKey : PyData → Option Key
  | .int i => some (.inl i)
  | .str x => some (.inr x)
  | _ => none
def lookD (kvs : List (Key × PyData)) (k : Key) : Option PyData := (kvs.find? fun kv => decide (kv.1 = k)).map (·.2)
def putD (kvs : List (Key × PyData)) (k : Key) (v : PyData) : List (Key × PyData) := if (kvs.any fun kv => decide (kv.1 = k)) = true then kvs.map (fun kv => if kv.1 = k then (kv.1, v) else kv) else kvs ++ [(k, v)]
theorem DtK.look {H : Hp} {k : Key} : ∀ {xs : List (Key × V)} {ds : List (Key × PyData)}, DtK H xs ds → (∀ d, lookD ds k = some d → ∃ v, valV xs k = some v ∧ Dt H v d) ∧ (lookD ds k = none → valV xs k = none)
  | _, _, .nil => ⟨fun d h => by simp [lookD] at h, fun _ => rfl⟩
  | _, _, .cons (k := k') (v := v) (d := d) (xs := xs) (ds := ds) t r => by
    obtain ⟨h1, h2⟩ := DtK.look (k := k) r
    by_cases e : k' = k
    · subst e
      refine ⟨fun d' h => ⟨v, valV_pos rfl, ?_⟩, fun h => ?_⟩
      · simp [lookD] at h; subst h; exact t
      · simp [lookD] at h
    · have e1 : valV ((k', v) :: xs) k = valV xs k := valV_neg (p := (k', v)) e
      have e2 : lookD ((k', d) :: ds) k = lookD ds k := by simp [lookD, List.find?_cons, e]
      rw [e1, e2]
      exact ⟨h1, h2⟩
theorem DtK.any {H : Hp} {k : Key} : ∀ {xs : List (Key × V)} {ds : List (Key × PyData)}, DtK H xs ds → (xs.any fun kv => decide (kv.1 = k)) = (ds.any fun kv => decide (kv.1 = k))
  | _, _, .nil => rfl
  | _, _, .cons _ r => by simp only [List.any_cons, DtK.any r]
theorem DtK.app {H : Hp} {k : Key} {v : V} {d : PyData} (t : Dt H v d) : ∀ {xs : List (Key × V)} {ds : List (Key × PyData)}, DtK H xs ds → DtK H (xs ++ [(k, v)]) (ds ++ [(k, d)])
  | _, _, .nil => .cons t .nil
  | _, _, .cons a r => .cons a (DtK.app t r)
theorem DtK.upd {H : Hp} {k : Key} {v : V} {d : PyData} (t : Dt H v d) : ∀ {xs : List (Key × V)} {ds : List (Key × PyData)}, DtK H xs ds → DtK H (xs.map fun kv => if kv.1 = k then (kv.1, v) else kv) (ds.map fun kv => if kv.1 = k then (kv.1, d) else kv)
  | _, _, .nil => .nil
  | _, _, .cons (k := k') a r => by
    simp only [List.map_cons]
    by_cases e : k' = k
    · simp only [e, if_true]; exact .cons t (DtK.upd t r)
    · simp only [e, if_false]; exact .cons a (DtK.upd t r)
theorem DtK.put {H : Hp} {k : Key} {v : V} {d : PyData} (t : Dt H v d) {xs : List (Key × V)} {ds : List (Key × PyData)} (h : DtK H xs ds) : DtK H (putK xs k v) (putD ds k d) := by
  unfold putK putD
  rw [h.any]
  split
  · exact h.upd t
  · exact h.app t
theorem DtK.length {H : Hp} : ∀ {xs : List (Key × V)} {ds : List (Key × PyData)}, DtK H xs ds → xs.length = ds.length
  | _, _, .nil => rfl
  | _, _, .cons _ r => by simp [r.length]
theorem DtK.keys {H : Hp} : ∀ {xs : List (Key × V)} {ds : List (Key × PyData)}, DtK H xs ds → xs.map (·.1) = ds.map (·.1)
  | _, _, .nil => rfl
  | _, _, .cons _ r => by simp [r.keys]
theorem Dt.key {H : Hp} {v : V} {d : PyData} {k : Key} (h : Dt H v d) (e : dKey d = some k) : v = kV k := by
  cases h <;> simp [dKey, refD] at e <;> subst e <;> rfl
def asM : Sl → Option (List (Key × PyData))
  | .m kvs => some kvs
  | .rm kvs => some kvs
  | _ => none
theorem Sit.dic {W : Wld} {H0 : Bs} {H : Hp} {σ : L2.St} {E : Env} {b : Bt} {i : Nat} {s : Sl} {ds : List (Key × PyData)} (S : Sit W H0 σ H E b) (h : E[i]? = some s) (hs : asM s = some ds) : ∃ a kvs, σ[i]? = some (some (.ref a)) ∧ ¬ W.M a ∧ H a = some (.dK kvs) ∧ DtK H kvs ds := by
  cases s <;> simp [asM] at hs <;> subst hs
  · obtain ⟨v, h1, a, rfl, _, n, kvs, h2, h3⟩ := S.at_ i _ h; exact ⟨a, kvs, h1, n, h2, h3⟩
  · obtain ⟨v, h1, a, rfl, _, n, kvs, h2, h3⟩ := S.at_ i _ h; exact ⟨a, kvs, h1, n, h2, h3⟩
/-- d[k] -/
def mDG (i : Nat) (mk : WE) : WE := fun E b R => ∃ s ds, E[i]? = some s ∧ asM s = some ds ∧ mk E b fun d b1 => ∃ k v, dKey d = some k ∧ lookD ds k = some v ∧ R v b1
/-- d.get(k, x) -/
def mDGd (i : Nat) (mk mx : WE) : WE := fun E b R => ∃ s ds, E[i]? = some s ∧ asM s = some ds ∧ mk E b fun d b1 => mx E b1 fun x b2 => ∃ k, dKey d = some k ∧ R ((lookD ds k).getD x) b2
/-- k in d -/
def mDIn (i : Nat) (mk : WE) : WE := fun E b R => ∃ s ds, E[i]? = some s ∧ asM s = some ds ∧ mk E b fun d b1 => ∃ k, dKey d = some k ∧ R (.bool (lookD ds k).isSome) b1
/-- d[k] = v -/
def mPut (i : Nat) (mk mv : WE) : WS := fun E b F => ∃ ds, E[i]? = some (.m ds) ∧ mv E b fun v b1 => mk E b1 fun d b2 => ∃ k, dKey d = some k ∧ ds.length < 100000 ∧ F.nx (E.set i (.m (putD ds k v))) b2
/-- sorted(d), int keys -/
def mSD (i : Nat) : WL := fun E b R => ∃ s ds, E[i]? = some s ∧ asM s = some ds ∧ ∃ ks : List Int, ds.map (·.1) = ks.map Sum.inl ∧ ks.length < 64 ∧ ∀ ys : List Int, ys.Perm ks → ys.Pairwise (· ≤ ·) → R (ys.map PyData.int) b
def rSDI : List V → Hp → VK → Prop := fun xs H Q => ∃ (a : Addr) (kvs : List (Key × V)) (ks : List Int), xs = [.ref a] ∧ Rd H a (.dK kvs) ∧ kvs.map (·.1) = ks.map Sum.inl ∧ ks.length < 64 ∧ ∀ (ys : List Int) (p : Addr), ys.Perm ks → ys.Pairwise (· ≤ ·) → H p = none → Q (.ref p) (upd H p (.lst (ys.map V.int)))
end
end Wp

namespace Wp
open PySem PySem.Spec PyProof.Rows L2 Evl
theorem FnG.weak {P : Program} {w : World} {K : PySem.W.Frag} {mg : Str → Option Value} {base : Heap} {k : Nat} {f : Addr} {fd : FuncData} {ps : List Str} {sp sp' : Sp} (F : Cn.FnG P w K mg base k f fd ps sp) (h : ∀ vs H Q E, sp' vs H Q E → sp vs H Q E) : Cn.FnG P w K mg base k f fd ps sp' :=
  ⟨fun vs H Q E q => F.len vs H Q E (h vs H Q E q), fun A out s H args us vs Q E g r e b v q => F.run A out s H args us vs Q E g r e b v (h vs H Q E q)⟩
/-! ### decks -/
theorem deck_lst {D C : Addr} {m : Int} {H : Hp} {a : Addr} (ma : a = D ∨ a = C) (h : Cn.Deck D C m H) : ∃ xs, H a = some (.lst xs) := by
  obtain ⟨n, cs, d, _⟩ := h
  rcases ma with rfl | rfl
  · exact ⟨_, d.hD⟩
  · exact ⟨_, d.hC⟩
def deckW (D C : Addr) : Wld where
  M := fun a => a = D ∨ a = C
  root := D
  Dk := fun m H => Cn.Deck D C m.n H ∧ Obs m H
  kd := 1
  isK := ⟨C, fun a => Iff.rfl, fun m H => Iff.rfl⟩
  ex := fun e d => ⟨d.1.ex e, Obs.ex e d.2⟩
  put := fun n l d => ⟨d.1.mut (fun z => n (.inl z)) (fun z => n (.inr z)), Obs.put l d.2⟩
  lst := fun ma d => deck_lst ma d.1
  obs := fun d => d.2
  new := fun d n => ⟨d.1, Obs.new d.2 n⟩
  chg := fun d n f => ⟨d.1.mut (fun z => by
    obtain ⟨_, _, _, e⟩ := n
    obtain ⟨_, e'⟩ := deck_lst (.inl z) d.1
    rw [e] at e'
    cases e') (fun z => by
    obtain ⟨_, _, _, e⟩ := n
    obtain ⟨_, e'⟩ := deck_lst (.inr z) d.1
    rw [e] at e'
    cases e'), Obs.chg d.2 n f⟩
def mDraw : WF := fun as b R => match as with
  | [.s 1, .d (.int k)] => (b.n ≤ 1000000000 ∧ 1 ≤ k ∧ k ≤ 1000000001) ∧ ∀ r : Int, 0 ≤ r → r < k → R (.int r) b.tick
  | _ => False
/-- what the law wants -/
def lawF : WEnds := { nx := fun _ _ => False, rt := fun d _ => d = .bool true }
theorem law_run {K : PySem.W.Frag} {N : List Str} {a : Addr} {ns : List Int} {H : Hp} {Q : VK} {mr : WS} (hs : SqL K H a (ns.map V.int)) (few : ns.length ≤ 63) (hN : 2 ≤ N.length) (hm : mr (.no :: .s 1 :: List.replicate (N.length - 2) .no) Bt.zero lawF) (q : ∀ H', Q (.bl true) H') :
    tSeq (tAsg (tCall (Cn.spDeck K) [] E0 (tCons (tVar 0) tNil)) (gName 1)) (tS noX mr) { nx := fun _ H' => Q .non H', rt := Q } (L2.start N [.ref a]) H := by
  refine ⟨.ref a, by simp [L2.start], a, ns, rfl, hs, few, fun D C H' nD nC e' dk => ?_⟩
  refine ⟨deckW D C, ⟨H', H'⟩, _, Bt.zero, lawF, ⟨?_, ?_, ?_, Kp.refl, ⟨dk, fun _ _ _ z => by cases z⟩, fun _ _ _ z => z⟩, hm, ⟨fun _ _ _ _ _ z => z.elim, fun _ _ _ _ _ z => z.elim, fun _ _ _ _ _ z => z.elim, fun d b v H2 r _ _ t => ?_, fun _ _ _ _ _ _ _ z => z.elim⟩⟩
  · simp [L2.start]; omega
  · intro i s e
    match i with
    | 0 => simp at e; subst e; exact ⟨some (.ref a), by simp [L2.start], trivial⟩
    | 1 =>
      simp at e
      subst e
      refine ⟨some (.ref D), ?_, rfl, rfl⟩
      simp only [gName, L2.start]
      rw [List.getElem?_set_self (by simp; omega)]
    | i + 2 =>
      have e : (List.replicate (N.length - 2) Sl.no)[i]? = some s := by simpa using e
      rw [List.getElem?_replicate] at e
      split at e
      · cases e
        rename_i hi
        refine ⟨none, ?_, trivial⟩
        simp only [L2.start]
        rw [List.getElem?_set_ne (by omega)]
        simp [List.getElem?_replicate]
        omega
      · cases e
  · intro i j s t a' _ h1 o1
    exfalso
    match i with
    | 0 => simp at h1; subst h1; cases o1
    | 1 => simp at h1; subst h1; cases o1
    | i + 2 =>
      have e : (List.replicate (N.length - 2) Sl.no)[i]? = some s := by simpa using h1
      rw [List.getElem?_replicate] at e
      split at e
      · cases e; cases o1
      · cases e
  · have r : d = .bool true := r
    subst r
    cases t
    exact q H2
end Wp

namespace Wp
open PySem PySem.Spec PyProof.Rows L2 Evl
section
variable {X : Cx} {e a b : Expr} {es : List Expr} {m ma mb : WE} {ms : WL} {pos : Pos}
/-- return of an own list: it is locked -/
def mRetO (i : Nat) : WS := fun E b F => match E[i]? with
  | some (.l ds) => F.rt (.list ds) b
  | _ => False
/-! dicts as data -/
/-! x[::-1] -/
def revW : W1 := fun d R => match d with
  | .tuple xs => R (.tuple xs.reverse)
  | .list xs => R (.list xs.reverse)
  | _ => False
theorem pm_rev {k : Nat} {p1 p2 p3 : Pos} (he : PE X e (tQ m)) : PE X (.Subscript e (.Slice none none (some (.UnaryOp .USub (.Constant (.int 1) k p1) p2)) p3) pos) (tE (mUn revW m)) := by
  refine ⟨fun pins s σ H Q I ⟨W, H0, E, b, R, S, hm, kk⟩ => ?_⟩
  refine Subscript_ (thn (he.run pins s σ H (fun x H1 => ∃ d b1, Dq W H1 x d ∧ Kp W.M H H1 ∧ W.Dk b1 H1 ∧ revW d fun z => R z b1) I ⟨W, H0, E, b, _, S, hm, fun d b1 v H1 h1 k1 d1 t1 => ⟨d, b1, t1, k1, d1, h1⟩⟩) fun v s1 ⟨x, H1, I1, r1, d, b1, t1, k1, d1, hr⟩ => ?_)
  have hst : PO X (some (.UnaryOp .USub (.Constant (.int 1) k p1) p2)) (tPart (tUn (rU fun i => .int (-i)) (tC (.int 1)))) := po_some (pe_un un_neg pe_int)
  refine wpAny_Slice (thn (po_none.run pins s1 σ H1 (fun o H2 => o = none ∧ H2 = H1) I1 ⟨rfl, rfl⟩) fun vl s2 ⟨l, H2, I2, pl, el, e2⟩ => ?_); subst el e2
  refine thn (po_none.run pins s2 σ H2 (fun o H3 => o = none ∧ H3 = H2) I2 ⟨rfl, rfl⟩) fun vu s3 ⟨u, H3, I3, pu, eu, e3⟩ => ?_; subst eu e3
  refine thn (hst.run pins s3 σ H3 (fun o H4 => o = some (-1) ∧ H4 = H3) I3 ⟨1, rfl, -1, rfl, rfl, rfl⟩) fun vs s4 ⟨o, H4, I4, ps, eo, e4⟩ => ?_; subst eo e4
  have I5 : Inv X pins σ H4 { s4 with heap := s4.heap.push { cls := .type "slice", data := .fields #[vl, vu, vs] } } := I4.kept (t' := s4.toks) fun b ob q => Heap.get?_push_of_some _ q
  have nf : H4 (s4.heap.push { cls := .type "slice", data := .fields #[vl, vu, vs] }).objs.size = none := I5.hok.fresh (Nat.le_refl _)
  unfold revW at hr
  split at hr
  · obtain ⟨a, ob, xs, rfl, ha, na, sq, al⟩ := t1.seqT (K := X.K)
    cases r1
    obtain ⟨its, r, ht, hz⟩ := I5.tuple sq
    have hlen := r.length
    show wpAny (model X.prog X.w) X.A (subscriptTail e (.Slice none none (some (.UnaryOp .USub (.Constant (.int 1) k p1) p2)) p3) (.ref a) (.ref s4.heap.objs.size)) (EP X pins σ Q) X.xe { s4 with heap := s4.heap.push { cls := .type "slice", data := .fields #[vl, vu, vs] } }; refine tail_any (ops := [.ref a, .ref s4.heap.objs.size]) ht.typeIs (PyProof.Rows.slot_tuple_getitem.lookup) ?_ (by with_unfolding_all rfl)
    refine HT.getItem_tuple_back ht (Heap.IsSliceOf.new _ vl vu vs) pl pu ps ?_ (by rw [List.size_toArray]; omega)
    have here := Heap.get?_push_size (s4.heap.push { cls := .type "slice", data := .fields #[vl, vu, vs] }) (o := { cls := .type "tuple", data := .seq its.reverse.toArray }) rfl
    exact ⟨.ref _, _, I5.laid (t' := s4.toks) (o := .frz { cls := .type "tuple", data := .seq its.reverse.toArray } (.tup xs.reverse)) (fun b ob q => Heap.get?_push_of_some _ q) (Nat.le_refl _) ⟨here, by rw [List.length_reverse]; exact hz, its.reverse, Cn.vals_rev r, ⟨_, here, rfl, _, rfl⟩⟩, rfl,
      kk _ b1 _ _ hr (k1.trans (Kp.ex (Ex.new nf))) (W.ex (Ex.new nf) d1) (.tup upd_same rfl (al.reverse.mono (Fk.ex (Ex.new nf))))⟩
  · obtain ⟨a, xs, rfl, sq, al⟩ := t1.seqL (K := X.K)
    cases r1
    obtain ⟨its, r, ht, hz⟩ := I5.list sq
    have hlen := r.length
    show wpAny (model X.prog X.w) X.A (subscriptTail e (.Slice none none (some (.UnaryOp .USub (.Constant (.int 1) k p1) p2)) p3) (.ref a) (.ref s4.heap.objs.size)) (EP X pins σ Q) X.xe { s4 with heap := s4.heap.push { cls := .type "slice", data := .fields #[vl, vu, vs] } }; refine tail_any (ops := [.ref a, .ref s4.heap.objs.size]) ht.isList.typeIs (PySem.slot_list_getitem.lookup) ?_ (by with_unfolding_all rfl)
    refine wpAny_getItem_list_slice ht.isList (Heap.IsSliceOf.new _ vl vu vs) pl pu ps (by decide) ?_ (by rw [List.size_toArray]; omega); rw [PySem.W.krv_pick]
    exact ⟨.ref _, _, Inv.lz I5 r.reverse (by rw [List.length_reverse]; exact hz), rfl, kk _ b1 _ _ hr (k1.trans (Kp.ex (Ex.new nf))) (W.ex (Ex.new nf) d1) (.lst upd_same (al.reverse.mono (Fk.ex (Ex.new nf))))⟩
  · exact hr.elim
/-! dict(tuple of pairs) -/
def pairK : PyData → Option (Key × PyData)
  | .tuple [k, v] => (dKey k).map fun k' => (k', v)
  | _ => none
def mergeD (kvs : List (Key × PyData)) (more : List (Key × PyData)) : List (Key × PyData) := more.foldl (fun acc kv => putD acc kv.1 kv.2) kvs
def vDof (m : WE) : WV := fun E b R => m E b fun d b1 => match d with
  | .tuple ds => ∃ kvs : List (Key × PyData), ds.map pairK = kvs.map some ∧ R (.m (mergeD [] kvs)) b1
  | _ => False
/-! for over zip -/
def mForZ (t : WG1) (ms : WL) (m : WS) : WS := fun E b F => ms E b fun ds b1 => match ds with
  | [.list xs, .list ys] => mTurns t m (zipD xs ys) E b1 F
  | _ => False
end
end Wp

namespace Wp
open PySem PySem.Spec PyProof.Rows L2 Evl
/-! ### dicts whose keys are tuples -/
section
variable {X : Cx} {pins : List (Addr × Obj)} {σ : L2.St} {H : Hp} {s : Shared}
def lookN (kvs : List (NestedKey × PyData)) (k : NestedKey) : Option PyData := (kvs.find? fun kv => decide (kv.1 = k)).map (·.2)
def putN (kvs : List (NestedKey × PyData)) (k : NestedKey) (v : PyData) : List (NestedKey × PyData) := if (lookN kvs k).isSome = true then kvs.map (fun kv => if kv.1 = k then (kv.1, v) else kv) else kvs ++ [(k, v)]
theorem Paired.app1 {α β : Type} {F : α → β → Prop} {x : α} {y : β} (h : F x y) : ∀ {xs : List α} {ys : List β}, Paired F xs ys → Paired F (xs ++ [x]) (ys ++ [y])
  | _, _, .nil => .cons h .nil
  | _, _, .cons a r => .cons a (Paired.app1 h r)
end
/-! the rules -/
def tNGet (td ty : TE) : TE := fun σ H Q => td σ H fun x H1 => ty σ H1 fun y H2 => ∃ W a ds k v b, x = .ref a ∧ NcAt W H2 a ds ∧ y = .ref b ∧ Dt H2 y k.data ∧ kOk k ∧ lookN ds k = some v ∧ ∀ u, Dt H2 u v → Q u H2
def tNGet2 (td ty tx : TE) : TE := fun σ H Q => td σ H fun x H1 => ∃ a W ds, x = .ref a ∧ NcAt W H1 a ds ∧ ty σ H1 fun y H2 => tx σ H2 fun z H3 => ∃ k b, NcAt W H3 a ds ∧ y = .ref b ∧ Dt H3 y k.data ∧ kOk k ∧ ((lookN ds k = none → Q z H3) ∧ ∀ v u, lookN ds k = some v → Dt H3 u v → Q u H3)
def sNPut (td ty tv : TE) : TS := fun D σ H => tv σ H fun v H1 => td σ H1 fun x H2 => ty σ H2 fun y H3 => ∃ W a ds k b d, x = .ref a ∧ NcAt W H3 a ds ∧ y = .ref b ∧ Dt H3 y k.data ∧ kOk k ∧ Dt H3 v d ∧ ds.length < sizeLine ∧ ∀ o, NcAt W (upd H3 a (NcO a o)) a (putN ds k d) → D.nx σ (upd H3 a (NcO a o))
section
variable {X : Cx} {o i e f value : Expr} {pos pos' tpos apos cpos : Pos} {td ty tx tv : TE}
def tNNew : TE := fun σ H Q => ∀ p o, H p = none → (p == sysModules) = false → o.ExactDict → o.data = .dict #[] 0 → Q (.ref p) (upd H p (NcO p o))
/-! the walk over the keys -/
def Itn (d : Addr) (o : Obj) (es : Array DictEntry) : It :=
  ⟨fun i H => H d = some (NcO d o) ∧ i < es.size, fun i H x H' => H' = H ∧ ∃ en q, es[i]? = some en ∧ en.key = .ref q ∧ x = .ref q, fun i H => H d = some (NcO d o) ∧ es.size ≤ i⟩
def iN (td : TE) : TI := fun σ H R => td σ H fun x H1 => ∃ d o es ep, x = .ref d ∧ H1 d = some (NcO d o) ∧ (d == sysModules) = false ∧ o.ExactDict ∧ o.data = .dict es ep ∧ (∀ (i : Nat) (en : DictEntry), es[i]? = some en → ∃ q, en.key = .ref q) ∧ R (Itn d o es) H1
end
end Wp

namespace Wp
open PySem PySem.Spec PyProof.Rows L2 Evl
section
variable {X : Cx} {e a b : Expr} {es : List Expr} {m ma mb : WE} {ms : WL} {pos : Pos}
def asN : Sl → Option (List (NestedKey × PyData))
  | .n kvs => some kvs
  | .rn kvs => some kvs
  | _ => none
/-- d[k], k a tuple -/
def mNG (i : Nat) (mk : WE) : WE := fun E b R => ∃ s ds, E[i]? = some s ∧ asN s = some ds ∧ mk E b fun d b1 => ∃ ks v, d = (NestedKey.tup ks).data ∧ kOk (.tup ks) ∧ lookN ds (.tup ks) = some v ∧ R v b1
/-- d.get(k, x) -/
def mNGd (i : Nat) (mk mx : WE) : WE := fun E b R => ∃ s ds, E[i]? = some s ∧ asN s = some ds ∧ mk E b fun d b1 => mx E b1 fun x b2 => ∃ ks, d = (NestedKey.tup ks).data ∧ kOk (.tup ks) ∧ R ((lookN ds (.tup ks)).getD x) b2
/-- d[k] = v -/
def mNPut (i : Nat) (mk mv : WE) : WS := fun E b F => ∃ ds, E[i]? = some (.n ds) ∧ mv E b fun v b1 => mk E b1 fun d b2 => ∃ ks, d = (NestedKey.tup ks).data ∧ kOk (.tup ks) ∧ ds.length < 100000 ∧ F.nx (E.set i (.n (putN ds (.tup ks) v))) b2
/-- {} -/
def vN0 : WV := fun _ b R => R (.n []) b
/-- [ml for t in d if mt] -/
def mLcN (t : WG1) (i : Nat) (mt : WT) (ml : WE) (vs : List Nat) : WL := fun E b R => ∃ s ds, E[i]? = some s ∧ asN s = some ds ∧ mComp t mt ml (wipeE E vs) (ds.map fun p => p.1.data) [] b R
/-! ### a for over an own dict: it is locked -/
def dicD (kvs : List (Key × PyData)) : PyData := .dict (kvs.map fun p => (keyD p.1, p.2))
theorem DtK.all {H : Hp} : ∀ {xs : List (Key × V)} {ds : List (Key × PyData)}, DtK H xs ds → DtAll H (xs.map (·.2)) (ds.map (·.2))
  | _, _, .nil => .nil
  | _, _, .cons t r => .cons t r.all
/-- d[k], d locked -/
def mDGL (i : Nat) (mk : WE) : WE := fun E b R => ∃ ds, E[i]? = some (.d (dicD ds)) ∧ mk E b fun d b1 => ∃ k v, dKey d = some k ∧ lookD ds k = some v ∧ R v b1
/-- for t in d: the own dict in slot i; it stays locked -/
def mForD (t : WG1) (i : Nat) (m : WS) : WS := fun E b F => ∃ ds, E[i]? = some (.m ds) ∧ mTurns t m (ds.map fun p => keyD p.1) (E.set i (.d (dicD ds))) b F
theorem Dt.kV {H : Hp} (k : Key) : Dt H (L2.kV k) (keyD k) := by
  cases k with
  | inl i => exact .int i
  | inr x => exact .str x
theorem DtK.at_ {H : Hp} : ∀ {xs : List (Key × V)} {ds : List (Key × PyData)} {i : Nat} {k : Key} {v : V}, DtK H xs ds → xs[i]? = some (k, v) → ∃ d, ds[i]? = some (k, d)
  | _, _, _, _, _, .nil, e => by simp at e
  | _, _, 0, _, _, .cons _ _, e => by simp at e; obtain ⟨rfl, rfl⟩ := e; exact ⟨_, rfl⟩
  | _, _, i + 1, _, _, .cons _ r, e => by
    obtain ⟨d, h⟩ := r.at_ (i := i) (by simpa using e)
    exact ⟨d, by simpa using h⟩
end
end Wp

namespace Wp
open PySem PySem.Spec PyProof.Rows L2 Evl
/-! ### comprehensions with two generators -/
def noOwn (E : Env) : Bool := E.all fun s => !isOwn s
def mComp2 (t : WG1) (mt : WT) (me1 : WE) (t1 : WG1) (mt1 : WT) (ml : WE) (vs1 : List Nat) (E : Env) : List PyData → List PyData → Bt → (List PyData → Bt → Prop) → Prop
  | [], acc, b, R => R acc b
  | x :: xs, acc, b, R => t x E fun E1 => noOwn E1 = true ∧ mt E1 b fun c b1 => if c = true then me1 E1 b1 fun d b2 => ∃ ys, itemsOf d = some ys ∧ mComp t1 mt1 ml (wipeE E1 vs1) ys acc b2 fun acc' b' => mComp2 t mt me1 t1 mt1 ml vs1 E xs acc' b' R else mComp2 t mt me1 t1 mt1 ml vs1 E xs acc b1 R
def mLc2 (t : WG1) (me : WE) (mt : WT) (t1 : WG1) (me1 : WE) (mt1 : WT) (ml : WE) (vs vs1 : List Nat) : WL := fun E b R => me E b fun d b1 => ∃ xs, itemsOf d = some xs ∧ mComp2 t mt me1 t1 mt1 ml vs1 (wipeE E vs) xs [] b1 R
section
variable {W : Wld} {H0 : Bs} {H H1 : Hp} {σ : L2.St} {E : Env} {b b1 : Bt}
theorem noOwn_at {i : Nat} {s : Sl} (h : noOwn E = true) (e : E[i]? = some s) : isOwn s = false := by
  have := List.all_eq_true.mp h s (List.mem_of_getElem? e)
  simpa using this
/-- a list that the env does not know is changed -/
theorem Sit.other {D : Addr} {zs : List V} {o : HO} (S : Sit W H0 σ H E b) (no : noOwn E = true) (hD : H D = some (.lst zs)) (h0 : H0.h0 D = none) (nM : ¬ W.M D) : Sit W H0 σ (upd H D o) E b := by
  have fk : Fk H (upd H D o) := fk_put hD
  refine ⟨S.len, fun j t e => ?_, S.apart, S.kp.mut h0, W.put nM (loose_at hD rfl) S.dk, S.fk.trans fk⟩
  obtain ⟨u, h1, h2⟩ := S.at_ j t e
  refine ⟨u, h1, ?_⟩
  have neb : ∀ a', H0.h0 a' ≠ none → a' ≠ D := fun a' z w => z (by rw [w]; exact h0)
  have no := noOwn_at no e
  have nec : ∀ (a' : Addr) (p : HO), H a' = some p → (∀ xs, p ≠ .lst xs) → a' ≠ D := fun a' p hp n1 z => by
    subst z
    rw [hD] at hp
    cases hp
    exact n1 _ rfl
  cases t with
  | no => trivial
  | d x => obtain ⟨v, e1, t1⟩ := h2; exact ⟨v, e1, t1.mono fk⟩
  | l x => cases no
  | m x => cases no
  | n x => cases no
  | rl x => obtain ⟨v, rfl, e2, nm, xs, hx, t1⟩ := h2; exact ⟨v, rfl, e2, nm, xs, by rw [upd_ne (neb v e2)]; exact hx, t1.mono fk⟩
  | rm x => obtain ⟨v, rfl, e2, nm, xs, hx, t1⟩ := h2; exact ⟨v, rfl, e2, nm, xs, by rw [upd_ne (neb v e2)]; exact hx, t1.mono fk⟩
  | rn x => obtain ⟨v, rfl, e2, nm, ob, hx, r1, xs, es, ep, r2, r3, r4, r5, t1⟩ := h2; exact ⟨v, rfl, e2, nm, ob, by rw [upd_ne (neb v e2)]; exact hx, r1, xs, es, ep, r2, r3, r4, r5, Paired.mapP t1 fun x p r => r.mono fk⟩
  | s _ => exact h2
  | x a' dd f y c => obtain ⟨e1, nm, v, hx, t1⟩ := h2; exact ⟨e1, nm, v, by rw [upd_ne (nec dd _ hx (by intro _ z; cases z))]; exact hx, t1.mono fk⟩
  | r a' => exact h2
/-- data that is walked -/
theorem Dt.items {H : Hp} {v : V} {d : PyData} {ys : List PyData} (h : Dt H v d) (e : itemsOf d = some ys) : ∃ a o xs, v = .ref a ∧ DtAll H xs ys ∧ ((H a = some (.frz o (.lst xs))) ∨ H a = some (.frz o (.tup xs))) := by
  cases d <;> simp [itemsOf] at e <;> subst e
  · obtain ⟨a, o, xs, rfl, ha, al⟩ := h.lst_inv
    exact ⟨a, o, xs, rfl, al, .inl ha⟩
  · obtain ⟨a, o, xs, rfl, ha, _, al⟩ := h.tup_inv
    exact ⟨a, o, xs, rfl, al, .inr ha⟩
end
section
variable {X : Cx} {e a b : Expr} {es : List Expr} {m ma mb : WE} {ms : WL} {pos : Pos}
/-! ### for over zip of tuples -/
def mForZT (t : WG1) (ms : WL) (m : WS) : WS := fun E b F => ms E b fun ds b1 => match ds with
  | [.tuple xs, .tuple ys] => mTurns t m (zipD xs ys) E b1 F
  | _ => False
end
end Wp

namespace Wp
open PySem PySem.Spec PyProof.Rows L2 Evl
/-! ### for over enumerate of a tuple -/
def enD : Nat → List PyData → List PyData
  | _, [] => []
  | i, d :: ds => .tuple [.int (i : Int), d] :: enD (i + 1) ds
def mForE (t : WG1) (ms : WL) (m : WS) : WS := fun E b F => ms E b fun ds b1 => match ds with
  | [.tuple xs] => mTurns t m (enD 0 xs) E b1 F
  | _ => False
section
variable {X : Cx}
end
end Wp

namespace Wp
open PySem PySem.Spec PyProof.Rows L2 Evl
/-! ### the second kind of state: cells, count, rests -/
def stateW (S C R : Addr) : Wld where
  M := Cb.MS S C R
  root := S
  Dk := fun m H => Cb.SD S C R m.n H ∧ Obs m H
  kd := 2
  isK := ⟨C, R, fun a => Iff.rfl, fun m H => Iff.rfl⟩
  ex := fun e d => ⟨Cb.drw.ex e d.1, Obs.ex e d.2⟩
  put := fun n l d => ⟨Cb.drw.put n d.1, Obs.put l d.2⟩
  lst := fun ma d => Cb.drw.lst ma d.1
  obs := fun d => d.2
  new := fun d n => ⟨d.1, Obs.new d.2 n⟩
  chg := fun d n f => ⟨Cb.drw.put (fun z => by
    obtain ⟨_, _, _, e⟩ := n
    obtain ⟨_, e'⟩ := Cb.drw.lst z d.1
    rw [e] at e'
    cases e') d.1, Obs.chg d.2 n f⟩
def mNext : WF := fun as b R => match as with
  | [.s 2, .d (.int k)] => (b.n ≤ 10000000 ∧ 1 ≤ k ∧ k ≤ 1000000000000000001) ∧ ∀ r : Int, 0 ≤ r → r < k → R (.int r) b.tick
  | _ => False
end Wp

namespace Wp
open PySem PySem.Spec PyProof.Rows L2 Evl
section
variable {X : Cx} {e a b : Expr} {es : List Expr} {m ma mb : WE} {ms : WL} {pos : Pos}
/-! ### a list times a number -/
def mRep (ml : WL) (mk : WE) : WL := fun E b R => ml E b fun xs b1 => mk E b1 fun d b2 => match d with
  | .int k => (-(2 ^ 62) ≤ k ∧ k < 2 ^ 62 ∧ xs.length * k.toNat ≤ 100000) ∧ R (List.replicate k.toNat xs).flatten b2
  | _ => False
theorem DtAll.rep {H : Hp} {xs : List V} {ds : List PyData} (h : DtAll H xs ds) : ∀ n : Nat, DtAll H (List.replicate n xs).flatten (List.replicate n ds).flatten
  | 0 => .nil
  | n + 1 => by
    rw [List.replicate_succ, List.replicate_succ, List.flatten_cons, List.flatten_cons]
    exact h.append (DtAll.rep h n)
theorem pm_rep (ha : PE X a (tL ms)) (hb : PE X b (tE mb)) : PE X (.BinOp a .Mult b pos) (tL (mRep ms mb)) := (pe_op op_rep ha hb).weak fun σ H Q ⟨W, H0, E, b, R, S, hm, k⟩ => by
  refine ⟨W, H0, E, b, _, S, hm, fun xs b1 p zs H1 h1 k1 d1 np hp t1 => ⟨W, H0, E, b1, _, S.step k1 d1, h1, fun y b2 u H2 h2 k2 d2 t2 => ?_⟩⟩
  cases y <;> first | exact h2.elim | skip
  cases t2
  obtain ⟨⟨g1, g2, g3⟩, hr⟩ := h2
  have nM : ¬ W.M p := W.free S.dk np
  refine ⟨p, _, zs, rfl, rfl, k2.1 p _ nM rfl hp, by omega, by omega, ?_, fun q nq => ?_⟩
  · rw [t1.length]
    exact sz_of g3
  · have nq1 := k2.back (W.free d2 nq) nq
    have nq0 := k1.back (W.free d1 nq1) nq1
    exact k _ b2 q _ _ hr ((k1.trans k2).trans (Kp.ex (Ex.new nq))) (W.ex (Ex.new nq) d2) nq0 upd_same (((t1.mono (W.fk d1 k2)).rep _).mono (Fk.ex (Ex.new nq)))
/-! ### extend -/
def mExt (i : Nat) (m : WL) : WS := fun E b F => ∃ ds, E[i]? = some (.l ds) ∧ m E b fun es b1 => ds.length + es.length ≤ 100000 ∧ F.nx (E.set i (.l (ds ++ es))) b1
/-! ### a, b = a list -/
def bUnl (n : Nat) (t : WGs) : WG1 := fun x E R => match x with
  | .list xs => xs.length = n ∧ t xs E R
  | _ => False
theorem gb_unl {K : PySem.W.Frag} {ws : List Nat} {n : Nat} {gs : TGs} {u : WGs} (h : GBs ws gs u) : GB Dt ws (gUnl K n gs) (bUnl n u) := by
  refine ⟨fun {W H0 H σ E b v x R Q} S a hb k => ?_⟩
  unfold bUnl at hb
  split at hb
  · obtain ⟨p, o, xs, rfl, ha, al⟩ := a.lst_inv
    exact ⟨p, xs, rfl, .inl (.inr ⟨o, ha⟩), by rw [al.length]; exact hb.1, h.run S al hb.2 k⟩
  · exact hb.elim
/-! ### range(i, j, c), c > 0 -/
def rngC (lo c : Int) (n : Nat) : List PyData := (List.range n).map fun i : Nat => PyData.int (lo + (i : Nat) * c)
def mLcR3 (t : WG1) (ms : WL) (mt : WT) (ml : WE) (vs : List Nat) : WL := fun E b R => ms E b fun ds b1 => match ds with
  | [.int i, .int j, .int c] => ∃ n, RgC i j c n ∧ mComp t mt ml (wipeE E vs) (rngC i c n) [] b1 R
  | _ => False
/-! ### a if c else b, as a test -/
def mIfT (mc mta mtb : WT) : WT := fun E b R => mc E b fun c b1 => if c = true then mta E b1 R else mtb E b1 R
end
end Wp

/-! list(zip(a, b)) of two tuples -/
namespace Zx
open PySem PySem.W PyProof.Rows PySem.Spec
section
variable {prog : Program} {w : World} {A : Around} {E : Value → Shared → Prop} {s : Shared} {z TI TO T i1 i2 l1 l2 : Addr} {f : Bool} {oT : Obj} {k1 k2 : Nat} {xs ys : Array Value}
/-- the zip's own step, its first tuple being out -/
theorem nx_own {x y : Value} {Q : Value → Shared → Prop} (D : ZipApart z TI TO i1 i2 l1 l2) (hz : IsZipHeld s.heap z TI TO T f) (hT : s.heap.get? T = some oT) (hTI : IsPair s.heap TI (.ref i1) (.ref i2)) (h1 : s.heap.IsTupleIter i1 l1 k1) (h2 : s.heap.IsTupleIter i2 l2 k2) (hl1 : s.heap.IsTuple l1 xs) (hl2 : s.heap.IsTuple l2 ys) (hx : xs[k1]? = some x) (hy : ys[k2]? = some y)
    (hQ : ∀ h', IsZipHeld h' z TI TO T true → h'.IsTupleIter i1 l1 (k1 + 1) → h'.IsTupleIter i2 l2 (k2 + 1) → IsPair h' s.heap.objs.size x y → h'.objs.size = s.heap.objs.size + 1 → (∀ c o, c ≠ z → c ≠ i1 → c ≠ i2 → s.heap.get? c = some o → h'.get? c = some o) → Q (.ref s.heap.objs.size) { s with heap := h' }) :
    wpAny (model prog w) A (Builtin.«zip.__next__» ⟨[.ref z], []⟩) (fun fin s' => ∃ v, fin = .done (.ret v) ∧ Q v s') E s := by
  show wpAny _ _ (field (.ref z) 2 >>= _) _ _ _; refine wpAny_bind (wpAny_field hz rfl (x := .bool false) rfl ?_)
  show wpAny _ _ (field (.ref z) 3 >>= _) _ _ _; refine wpAny_bind (wpAny_field hz rfl (x := .ref TI) rfl ?_); refine wpAny_bind (wpAny_seqItems hTI rfl ?_)
  show wpAny _ _ (Builtin.SmallTypes.ownedTupleIsFree (.ref z) >>= _) _ _ _; refine wpAny_bind (wpAny_tupleHeld_zip hz hT fun g1 z1 b1 => ?_)
  simp only [Bool.false_eq_true, if_false]; refine wpAny_bind ?_; rw [← Array.forIn_toList]; simp only [List.forIn_cons, List.forIn_nil]
  refine wpAny_bind (wpAny_bind (wpAny_holding ?_)); show wpAny _ _ (Builtin.SmallTypes.nextOf (.ref i1) >>= _) _ _ _
  refine wpAny_bind (RZ.nextOf_tuple_item (s := { s with heap := g1 }) (h1.extBut b1.extBut D.i1z) (hl1.extBut b1.extBut D.l1z) hx fun g2 a2 b2 => wpAny_pure (wpAny_pure ?_))
  refine wpAny_bind (wpAny_bind (wpAny_holding ?_)); show wpAny _ _ (Builtin.SmallTypes.nextOf (.ref i2) >>= _) _ _ _
  refine wpAny_bind (RZ.nextOf_tuple_item (s := { s with heap := g2 }) ((h2.extBut b1.extBut D.i2z).extBut b2.extBut D.i12.symm) ((hl2.extBut b1.extBut D.l2z).extBut b2.extBut D.l2i1) hy fun g3 a3 b3 => wpAny_pure (wpAny_pure (wpAny_pure ?_)))
  show wpAny _ _ (newTuple [x, y] >>= _) _ _ _; refine wpAny_bind (wpAny_newTuple ?_)
  have sz : g3.objs.size = s.heap.objs.size := by rw [b3.1, b2.1, b1.1]
  have z3 : IsZipHeld g3 z TI TO T true := b3.extBut _ _ D.i2z.symm (b2.extBut _ _ D.i1z.symm z1)
  have kp : ∀ c o, c ≠ z → c ≠ i1 → c ≠ i2 → s.heap.get? c = some o → g3.get? c = some o := fun c o c1 c2 c3 e => b3.extBut _ _ c3 (b2.extBut _ _ c2 (b1.extBut _ _ c1 e))
  have a23 : g3.IsTupleIter i1 l1 (k1 + 1) := a2.extBut b3.extBut D.i12
  refine wpAny_pure ⟨_, rfl, ?_⟩; show Q (.ref g3.objs.size) _
  have pr : IsPair (g3.push { cls := .type "tuple", data := .seq #[x, y] }) g3.objs.size x y := Heap.get?_push_size _ rfl
  have s4 : (g3.push { cls := .type "tuple", data := .seq #[x, y] }).objs.size = g3.objs.size + 1 := Heap.size_push ..
  rw [sz] at pr s4 ⊢
  exact hQ _ (Heap.get?_push_of_some _ z3) (a23.at fun o e => Heap.get?_push_of_some _ e) (a3.at fun o e => Heap.get?_push_of_some _ e) pr s4 fun c o c1 c2 c3 e => Heap.get?_push_of_some _ (kp c o c1 c2 c3 e)
theorem nx_stop {Q : Fin → Shared → Prop} (hh : A.handled = none) (D : ZipApart z TI TO i1 i2 l1 l2) (hz : IsZipHeld s.heap z TI TO T f) (hT : s.heap.get? T = some oT) (hTI : IsPair s.heap TI (.ref i1) (.ref i2)) (h1 : s.heap.IsTupleIter i1 l1 k1) (h2 : s.heap.IsTupleIter i2 l2 k2) (hl1 : s.heap.IsTuple l1 xs) (hl2 : s.heap.IsTuple l2 ys) (hend : xs[k1]? = none ∨ ys[k2]? = none)
    (hE : ∀ h' e, (∀ c o, c ≠ z → c ≠ i1 → c ≠ i2 → s.heap.get? c = some o → h'.get? c = some o) → (∃ o, h'.get? e = some o ∧ o.cls = .type "StopIteration") → E (.ref e) { s with heap := h' }) : wpAny (model prog w) A (Builtin.«zip.__next__» ⟨[.ref z], []⟩) Q E s := by
  show wpAny _ _ (field (.ref z) 2 >>= _) _ _ _; refine wpAny_bind (wpAny_field hz rfl (x := .bool false) rfl ?_)
  show wpAny _ _ (field (.ref z) 3 >>= _) _ _ _; refine wpAny_bind (wpAny_field hz rfl (x := .ref TI) rfl ?_); refine wpAny_bind (wpAny_seqItems hTI rfl ?_)
  show wpAny _ _ (Builtin.SmallTypes.ownedTupleIsFree (.ref z) >>= _) _ _ _; refine wpAny_bind (wpAny_tupleHeld_zip hz hT fun g1 z1 b1 => ?_)
  simp only [Bool.false_eq_true, if_false]; refine wpAny_bind ?_; rw [← Array.forIn_toList]; simp only [List.forIn_cons, List.forIn_nil]
  refine wpAny_bind (wpAny_bind (wpAny_holding ?_)); show wpAny _ _ (Builtin.SmallTypes.nextOf (.ref i1) >>= _) _ _ _
  cases hx : xs[k1]? with
  | none => exact wpAny_bind (RZ.nextOf_tuple_end (s := { s with heap := g1 }) hh (h1.extBut b1.extBut D.i1z) (hl1.extBut b1.extBut D.l1z) hx fun g2 e b2 he => hE g2 e (fun c o c1 c2 _ q => b2 _ _ c2 (b1.extBut _ _ c1 q)) he)
  | some x =>
    have hy : ys[k2]? = none := by rcases hend with h | h; rw [hx] at h; cases h; exact h
    refine wpAny_bind (RZ.nextOf_tuple_item (s := { s with heap := g1 }) (h1.extBut b1.extBut D.i1z) (hl1.extBut b1.extBut D.l1z) hx fun g2 a2 b2 => wpAny_pure (wpAny_pure ?_))
    refine wpAny_bind (wpAny_bind (wpAny_holding ?_)); show wpAny _ _ (Builtin.SmallTypes.nextOf (.ref i2) >>= _) _ _ _
    exact wpAny_bind (RZ.nextOf_tuple_end (s := { s with heap := g2 }) hh ((h2.extBut b1.extBut D.i2z).extBut b2.extBut D.i12.symm) ((hl2.extBut b1.extBut D.l2z).extBut b2.extBut D.l2i1) hy fun g3 e b3 he => hE g3 e (fun c o c1 c2 c3 q => b3 _ _ c3 (b2.extBut _ _ c2 (b1.extBut _ _ c1 q))) he)
theorem nx_some {x y : Value} {Q : Option Value → Shared → Prop} (D : ZipApart z TI TO i1 i2 l1 l2) (hz : IsZipHeld s.heap z TI TO T f) (hT : s.heap.get? T = some oT) (hTI : IsPair s.heap TI (.ref i1) (.ref i2)) (h1 : s.heap.IsTupleIter i1 l1 k1) (h2 : s.heap.IsTupleIter i2 l2 k2) (hl1 : s.heap.IsTuple l1 xs) (hl2 : s.heap.IsTuple l2 ys) (hx : xs[k1]? = some x) (hy : ys[k2]? = some y)
    (hQ : ∀ h', IsZipHeld h' z TI TO T true → h'.IsTupleIter i1 l1 (k1 + 1) → h'.IsTupleIter i2 l2 (k2 + 1) → IsPair h' s.heap.objs.size x y → h'.objs.size = s.heap.objs.size + 1 → (∀ c o, c ≠ z → c ≠ i1 → c ≠ i2 → s.heap.get? c = some o → h'.get? c = some o) → Q (some (.ref s.heap.objs.size)) { s with heap := h' }) : wpAny (model prog w) A (pyNext (.ref z)) Q E s := by
  have ty : s.TypeIs (.ref z) "zip" := ⟨_, hz, rfl⟩
  unfold pyNext; exact wpAny_bind (wpAny_attempt (wpAny_callSpecial?_slot (name := Str.ofString "__next__") ty F.slot_zip_next (wpAny_call_entry F.slot_zip_next ty F.entry_zip_next (nx_own D hz hT hTI h1 h2 hl1 hl2 hx hy fun h' a1 a3 a4 a5 a6 a7 => wpAny_pure (hQ h' a1 a3 a4 a5 a6 a7)) (F.args_zip_next_1 _))))
theorem nx_none {Q : Option Value → Shared → Prop} (hh : A.handled = none) (D : ZipApart z TI TO i1 i2 l1 l2) (hz : IsZipHeld s.heap z TI TO T f) (hT : s.heap.get? T = some oT) (hTI : IsPair s.heap TI (.ref i1) (.ref i2)) (h1 : s.heap.IsTupleIter i1 l1 k1) (h2 : s.heap.IsTupleIter i2 l2 k2) (hl1 : s.heap.IsTuple l1 xs) (hl2 : s.heap.IsTuple l2 ys) (hend : xs[k1]? = none ∨ ys[k2]? = none)
    (hQ : ∀ h', (∀ c o, c ≠ z → c ≠ i1 → c ≠ i2 → s.heap.get? c = some o → h'.get? c = some o) → Q none { s with heap := h' }) : wpAny (model prog w) A (pyNext (.ref z)) Q E s := by
  have ty : s.TypeIs (.ref z) "zip" := ⟨_, hz, rfl⟩
  unfold pyNext; refine wpAny_bind (wpAny_attempt (wpAny_callSpecial?_slot (name := Str.ofString "__next__") ty F.slot_zip_next (wpAny_call_entry F.slot_zip_next ty F.entry_zip_next (nx_stop hh D hz hT hTI h1 h2 hl1 hl2 hend fun h' e hk he => ?_) (F.args_zip_next_1 _))))
  obtain ⟨o, ho, hc⟩ := he
  exact wpAny_bind (wpAny_isInstance (T := "StopIteration") (b := true) ⟨o, ho, hc⟩ isSubtype_stop (wpAny_pure (hQ _ hk)))
/-- the state of the walk: nothing is out yet, or the tuple at T is -/
def St (h : Heap) (z TI TO i1 i2 l1 l2 S : Addr) (i : Nat) : Prop := IsPair h TI (.ref i1) (.ref i2) ∧ (∃ a b, IsPair h TO a b) ∧ h.IsTupleIter i1 l1 i ∧ h.IsTupleIter i2 l2 i ∧ ((i = 0 ∧ IsZip h z TI TO .none) ∨ ∃ T f oT, IsZipHeld h z TI TO T f ∧ h.get? T = some oT ∧ T ≠ z ∧ T ≠ TI ∧ T ≠ TO ∧ T ≠ i1 ∧ T ≠ i2 ∧ T ≠ S)
theorem st_keep {h h' : Heap} {i : Nat} {S : Addr} (D : St h z TI TO i1 i2 l1 l2 S i) (k : ∀ c o, c ≠ S → h.get? c = some o → h'.get? c = some o) (hz : z ≠ S) (hTI : TI ≠ S) (hTO : TO ≠ S) (h1 : i1 ≠ S) (h2 : i2 ≠ S) : St h' z TI TO i1 i2 l1 l2 S i := by
  obtain ⟨a, ⟨u, v, b⟩, c, d, e⟩ := D
  refine ⟨k _ _ hTI a, ⟨u, v, k _ _ hTO b⟩, c.at fun o q => k _ o h1 q, d.at fun o q => k _ o h2 q, ?_⟩
  rcases e with ⟨e, q⟩ | ⟨T, f, oT, q, r, m⟩
  · exact .inl ⟨e, k _ _ hz q⟩
  · exact .inr ⟨T, f, oT, k _ _ hz q, k _ _ m.2.2.2.2.2 r, m⟩
theorem st_some {S : Addr} {i : Nat} {x y : Value} {Q : Option Value → Shared → Prop} (D : ZipApart z TI TO i1 i2 l1 l2) (st : St s.heap z TI TO i1 i2 l1 l2 S i) (hl1 : s.heap.IsTuple l1 xs) (hl2 : s.heap.IsTuple l2 ys) (hx : xs[i]? = some x) (hy : ys[i]? = some y) (ltS : S < s.heap.objs.size)
    (hQ : ∀ h', St h' z TI TO i1 i2 l1 l2 S (i + 1) → IsPair h' s.heap.objs.size x y → h'.objs.size = s.heap.objs.size + 1 → (∀ c o, c ≠ z → c ≠ TO → c ≠ i1 → c ≠ i2 → s.heap.get? c = some o → h'.get? c = some o) → Q (some (.ref s.heap.objs.size)) { s with heap := h' }) : wpAny (model prog w) A (pyNext (.ref z)) Q E s := by
  obtain ⟨hTI, ⟨a, b, hTO⟩, h1, h2, e⟩ := st
  have lt1 : i1 < s.heap.objs.size := by obtain ⟨_, e, _⟩ := h1; exact Heap.lt_size e
  have lt2 : i2 < s.heap.objs.size := by obtain ⟨_, e, _⟩ := h2; exact Heap.lt_size e
  have ltI : TI < s.heap.objs.size := Heap.lt_size hTI
  have ltO : TO < s.heap.objs.size := Heap.lt_size hTO
  rcases e with ⟨rfl, hz⟩ | ⟨T, f, oT, hz, hT, n1, n2, n3, n4, n5, n6⟩
  · have ltz : z < s.heap.objs.size := Heap.lt_size hz
    refine RZ.pyNext_zipT_item D hz hTI hTO h1 h2 hl1 hl2 hx hy fun h' z' TO' h1' h2' hp hs hk => hQ h' ⟨hk _ _ D.TIz D.TITO D.TIi1 D.TIi2 hTI, ⟨_, _, TO'⟩, h1', h2', .inr ⟨_, false, _, z', hp, Nat.ne_of_gt ltz, Nat.ne_of_gt ltI, Nat.ne_of_gt ltO, Nat.ne_of_gt lt1, Nat.ne_of_gt lt2, Nat.ne_of_gt ltS⟩⟩ hp hs hk
  · exact nx_some D hz hT hTI h1 h2 hl1 hl2 hx hy fun h' z' h1' h2' hp hs hk => hQ h' ⟨hk _ _ D.TIz D.TIi1 D.TIi2 hTI, ⟨_, _, hk _ _ D.TOz D.TOi1 D.TOi2 hTO⟩, h1', h2', .inr ⟨T, true, oT, z', hk _ _ n1 n4 n5 hT, n1, n2, n3, n4, n5, n6⟩⟩ hp hs fun c o c1 _ c3 c4 q => hk c o c1 c3 c4 q
theorem st_none {S : Addr} {i : Nat} {Q : Option Value → Shared → Prop} (hh : A.handled = none) (D : ZipApart z TI TO i1 i2 l1 l2) (st : St s.heap z TI TO i1 i2 l1 l2 S i) (hl1 : s.heap.IsTuple l1 xs) (hl2 : s.heap.IsTuple l2 ys) (hend : xs[i]? = none ∨ ys[i]? = none)
    (hQ : ∀ h', (∀ c o, c ≠ z → c ≠ TO → c ≠ i1 → c ≠ i2 → s.heap.get? c = some o → h'.get? c = some o) → Q none { s with heap := h' }) : wpAny (model prog w) A (pyNext (.ref z)) Q E s := by
  obtain ⟨hTI, ⟨a, b, hTO⟩, h1, h2, e⟩ := st
  rcases e with ⟨rfl, hz⟩ | ⟨T, f, oT, hz, hT, _⟩
  · exact RZ.pyNext_zipT_end hh D hz hTI hTO h1 h2 hl1 hl2 hend hQ
  · exact nx_none hh D hz hT hTI h1 h2 hl1 hl2 hend fun h' hk => hQ h' fun c o c1 _ c3 c4 q => hk c o c1 c3 c4 q
end
/-- the tuples made so far: above lo, each the pair of its turn -/
structure Made (xs ys : Array Value) (lo : Addr) (h : Heap) (as : List Addr) : Prop where
  rise : as.Pairwise (· < ·)
  above : ∀ a ∈ as, lo < a
  pairs : ∀ (j : Nat) (a : Addr), as[j]? = some a → ∃ x y, xs[j]? = some x ∧ ys[j]? = some y ∧ IsPair h a x y
theorem Made.lt {xs ys : Array Value} {lo : Addr} {h : Heap} {as : List Addr} (g : Made xs ys lo h as) {a : Addr} (ha : a ∈ as) : a < h.objs.size := by
  obtain ⟨j, hj⟩ := List.mem_iff_getElem?.mp ha
  obtain ⟨_, _, _, _, e⟩ := g.pairs j a hj
  exact Heap.lt_size e
theorem Made.keep {xs ys : Array Value} {lo : Addr} {h h' : Heap} {as : List Addr} (g : Made xs ys lo h as) (k : ∀ a ∈ as, ∀ o, h.get? a = some o → h'.get? a = some o) : Made xs ys lo h' as :=
  ⟨g.rise, g.above, fun j a hj => by obtain ⟨x, y, e1, e2, e3⟩ := g.pairs j a hj; exact ⟨x, y, e1, e2, k a (List.mem_of_getElem? hj) _ e3⟩⟩
theorem Made.more {xs ys : Array Value} {lo : Addr} {h h' : Heap} {as : List Addr} {x y : Value} (g : Made xs ys lo h as) (k : ∀ a ∈ as, ∀ o, h.get? a = some o → h'.get? a = some o) (hlo : lo < h.objs.size) (hx : xs[as.length]? = some x) (hy : ys[as.length]? = some y) (hp : IsPair h' h.objs.size x y) : Made xs ys lo h' (as ++ [h.objs.size]) := by
  refine ⟨List.pairwise_append.mpr ⟨g.rise, List.pairwise_singleton _ _, fun a ha b hb => by rw [List.mem_singleton.mp hb]; exact g.lt ha⟩, fun a ha => ?_, fun j a hj => ?_⟩
  · rcases List.mem_append.mp ha with ha | ha
    · exact g.above a ha
    · rw [List.mem_singleton.mp ha]; exact hlo
  · rcases Nat.lt_trichotomy j as.length with h1 | h1 | h1
    · rw [List.getElem?_append_left h1] at hj
      obtain ⟨x', y', e1, e2, e3⟩ := g.pairs j a hj
      exact ⟨x', y', e1, e2, k a (List.mem_of_getElem? hj) _ e3⟩
    · subst h1
      have e : h.objs.size = a := by simpa using hj
      subst e
      exact ⟨x, y, hx, hy, hp⟩
    · rw [List.getElem?_eq_none (by rw [List.length_append, List.length_singleton]; omega)] at hj; cases hj
section
variable {prog : Program} {w : World} {A : Around} {s : Shared} {R : Result → Shared → Prop} {z TI TO i1 i2 l1 l2 S : Addr} {xs ys : Array Value}
/-- the addresses of the zip stand below S, those of the tuples made above -/
structure Low (S z TI TO i1 i2 l1 l2 : Addr) : Prop where
  z : z < S
  TI : TI < S
  TO : TO < S
  i1 : i1 < S
  i2 : i2 < S
  l1 : l1 < S
  l2 : l2 < S
theorem loop (hh : A.handled = none) (D : ZipApart z TI TO i1 i2 l1 l2) (L : Low S z TI TO i1 i2 l1 l2) (nl : l1 ≠ z ∧ l1 ≠ TO ∧ l1 ≠ i1 ∧ l1 ≠ i2 ∧ l2 ≠ z ∧ l2 ≠ TO ∧ l2 ≠ i1 ∧ l2 ≠ i2) (hn : xs.size ≤ sizeLine) (hxy : xs.size = ys.size) (res : Value) {g0 : Heap}
    (hR : ∀ h' tk acc c as, (∀ b o, b ≠ S → b ≠ z → b ≠ TO → b ≠ i1 → b ≠ i2 → g0.get? b = some o → h'.get? b = some o) → h'.get? S = some { cls := .type "list", dict := none, data := .seq acc c, slots := #[] } → as.length = xs.size → Made xs ys S h' as → acc.toList = as.map Value.ref → R (.ok (.ret res)) { s with heap := h', toks := tk }) :
    ∀ (k i : Nat) (h : Heap) (tk c : Nat) (acc : Array Value) (as : List Addr), xs.size - i = k → i ≤ xs.size → St h z TI TO i1 i2 l1 l2 S i → h.IsTuple l1 xs → h.IsTuple l2 ys → (∀ b o, b ≠ S → b ≠ z → b ≠ TO → b ≠ i1 → b ≠ i2 → g0.get? b = some o → h.get? b = some o) →
      h.get? S = some { cls := .type "list", dict := none, data := .seq acc c, slots := #[] } → acc.toList = as.map Value.ref → as.length = i → Made xs ys S h as → codeAny (model prog w) A (.builtin "list.extend.loop" ⟨[.ref S, .ref z, res], []⟩) R { s with heap := h, toks := tk } := by
  have neS : ∀ {a : Addr}, a < S → S ≠ a := fun h => Nat.ne_of_gt h
  intro k
  induction k with
  | zero =>
    intro i h tk c acc as hk hi st t1 t2 hkeep hS hacc hal hG
    refine codeAny_builtin PySem.F.entry_extend_loop ?_
    rw [Around.under_plainId PySem.F.plain_extend_loop _]
    show wpAny _ A.in1 (pyNext (.ref z) >>= _) _ _ _
    refine wpAny_bind (st_none (s := { s with heap := h, toks := tk }) (A := A.in1) hh D st t1 t2 (.inl (Array.getElem?_eq_none (by omega))) fun h' he => ?_)
    refine wpAny_pure (hR h' tk acc c as (fun b o h0 c1 c2 c3 c4 e => he b o c1 c2 c3 c4 (hkeep b o h0 c1 c2 c3 c4 e)) (he S _ (neS L.z) (neS L.TO) (neS L.i1) (neS L.i2) hS) (by omega) (hG.keep fun a ha o e => ?_) hacc)
    have := hG.above a ha
    exact he a o (Nat.ne_of_gt (Nat.lt_trans L.z this)) (Nat.ne_of_gt (Nat.lt_trans L.TO this)) (Nat.ne_of_gt (Nat.lt_trans L.i1 this)) (Nat.ne_of_gt (Nat.lt_trans L.i2 this)) e
  | succ k ih =>
    intro i h tk c acc as hk hi st t1 t2 hkeep hS hacc hal hG
    have lt : i < xs.size := by omega
    have hx : xs[i]? = some xs[i] := Array.getElem?_eq_getElem lt
    have hy : ys[i]? = some (ys[i]'(by omega)) := Array.getElem?_eq_getElem (by omega)
    have hsz : acc.size = i := by rw [← Array.length_toList, hacc, List.length_map, hal]
    have ltS : S < h.objs.size := Heap.lt_size hS
    refine codeAny_builtin PySem.F.entry_extend_loop ?_
    rw [Around.under_plainId PySem.F.plain_extend_loop _]
    show wpAny _ A.in1 (pyNext (.ref z) >>= _) _ _ _
    refine wpAny_bind (st_some (s := { s with heap := h, toks := tk }) D st t1 t2 hx hy ltS fun h' st' hp hz hkp => ?_)
    dsimp only at hp hz hkp ⊢
    have hS' := hkp S _ (neS L.z) (neS L.TO) (neS L.i1) (neS L.i2) hS
    have up : ∀ b o, b ≠ S → h'.get? b = some o → (h'.update S (Obj.mapSeq (·.push (Value.ref h.objs.size)))).get? b = some o := fun b o hb e => (Heap.get?_update_other _ _ (Ne.symm hb)).trans e
    have hiS : ∀ {a : Addr}, a < S → a ≠ S := fun q => Nat.ne_of_lt q
    show wpAny _ A.in1 (updateSeq S (·.push (Value.ref h.objs.size)) >>= _) _ _ _
    refine wpAny_bind ?_
    refine wpAny_updateSeq hS' rfl (wpAny_pure ⟨plainId_quiet PySem.F.plain_extend_loop _, ih (i + 1) _ tk _ (acc.push (Value.ref h.objs.size)) (as ++ [h.objs.size]) (by omega) lt (st_keep st' up (hiS L.z) (hiS L.TI) (hiS L.TO) (hiS L.i1) (hiS L.i2)) ?_ ?_ (fun b o h0 c1 c2 c3 c4 e => up b o h0 (hkp b o c1 c2 c3 c4 (hkeep b o h0 c1 c2 c3 c4 e))) (Heap.get?_update_self _ hS' rfl) (by rw [Array.toList_push, hacc, List.map_append]; rfl) (by rw [List.length_append, hal]; rfl) ?_⟩) (by rw [hsz]; omega) (by show (acc.push (Value.ref h.objs.size)).size ≤ sizeLine + 1; rw [Array.size_push, hsz]; omega)
    · obtain ⟨o, q, r⟩ := t1
      exact ⟨o, up _ o (hiS L.l1) (hkp _ o nl.1 nl.2.1 nl.2.2.1 nl.2.2.2.1 q), r⟩
    · obtain ⟨o, q, r⟩ := t2
      exact ⟨o, up _ o (hiS L.l2) (hkp _ o nl.2.2.2.2.1 nl.2.2.2.2.2.1 nl.2.2.2.2.2.2.1 nl.2.2.2.2.2.2.2 q), r⟩
    · refine hG.more (fun a ha o e => ?_) ltS (by rw [hal]; exact hx) (by rw [hal]; exact hy) (up _ _ (Nat.ne_of_gt ltS) hp)
      have q := hG.above a ha
      exact up a o (Nat.ne_of_gt q) (hkp a o (Nat.ne_of_gt (Nat.lt_trans L.z q)) (Nat.ne_of_gt (Nat.lt_trans L.TO q)) (Nat.ne_of_gt (Nat.lt_trans L.i1 q)) (Nat.ne_of_gt (Nat.lt_trans L.i2 q)) e)
end
theorem no_len : typeLookup (.type "zip") "__len__" = pure none := by rw [typeLookup_type, builtinLookup_eq_fast]; kernel_rfl
theorem no_hint : typeLookup (.type "zip") "__length_hint__" = pure none := by rw [typeLookup_type, builtinLookup_eq_fast]; kernel_rfl
section
variable {prog : Program} {w : World} {A : Around} {E : Value → Shared → Prop} {s : Shared} {z TI TO i1 i2 l1 l2 S : Addr} {xs ys : Array Value}
theorem hint (ty : s.TypeIs (.ref z) "zip") {Q : Bool → Shared → Prop} (h : Q true s) : wpAny (model prog w) A (Builtin.List.listLengthHint (.ref z)) Q E s := by
  unfold Builtin.List.listLengthHint
  refine wpAny_bind (wpAny_specialOf ty no_len ?_)
  wp_delta
  refine wpAny_bind (wpAny_specialOf ty no_hint ?_)
  exact wpAny_pure h
theorem extend {R : Result → Shared → Prop} (hh : A.handled = none) (D : ZipApart z TI TO i1 i2 l1 l2) (L : Low S z TI TO i1 i2 l1 l2) (nl : l1 ≠ z ∧ l1 ≠ TO ∧ l1 ≠ i1 ∧ l1 ≠ i2 ∧ l2 ≠ z ∧ l2 ≠ TO ∧ l2 ≠ i1 ∧ l2 ≠ i2) (hz : IsZip s.heap z TI TO .none) (hTI : IsPair s.heap TI (.ref i1) (.ref i2)) (hTO : ∃ a b, IsPair s.heap TO a b) (h1 : s.heap.IsTupleIter i1 l1 0) (h2 : s.heap.IsTupleIter i2 l2 0) (t1 : s.heap.IsTuple l1 xs) (t2 : s.heap.IsTuple l2 ys) (hn : xs.size ≤ sizeLine) (hxy : xs.size = ys.size) (res : Value) (c0 : Nat) (hS : s.heap.get? S = some { cls := .type "list", data := .seq #[] c0 })
    (hR : ∀ h' tk acc c as, (∀ b o, b ≠ S → b ≠ z → b ≠ TO → b ≠ i1 → b ≠ i2 → s.heap.get? b = some o → h'.get? b = some o) → h'.get? S = some { cls := .type "list", dict := none, data := .seq acc c, slots := #[] } → as.length = xs.size → Made xs ys S h' as → acc.toList = as.map Value.ref → R (.ok (.ret res)) { s with heap := h', toks := tk }) :
    wpAny (model prog w) A.in1 (Builtin.List.listExtendWith (.ref S) (.ref z) res) (fun fin s' => match fin with | .done f => R (.ok f) s' | .again c' => c'.quiet = true ∧ codeAny (model prog w) A c' R s') (fun e s' => R (.error e) s') s := by
  have ty : s.TypeIs (.ref z) "zip" := ⟨_, hz, rfl⟩
  have nS : ∀ {a : Addr}, a < S → a ≠ S := fun q => Nat.ne_of_lt q
  have key : ∀ (h : Heap) (c1 tk : Nat), (∀ b o, b ≠ S → s.heap.get? b = some o → h.get? b = some o) → h.get? S = some { cls := .type "list", data := .seq #[] c1 } → codeAny (model prog w) A (.builtin "list.extend.loop" ⟨[.ref S, .ref z, res], []⟩) R { s with heap := h, toks := tk } := by
    intro h c1 tk hk hS1
    obtain ⟨a, b, hTO⟩ := hTO
    refine loop (s := s) (g0 := s.heap) hh D L nl hn hxy res hR xs.size 0 h tk c1 #[] [] (Nat.sub_zero _) (Nat.zero_le _) ⟨hk _ _ (nS L.TI) hTI, ⟨a, b, hk _ _ (nS L.TO) hTO⟩, h1.at fun o q => hk _ o (nS L.i1) q, h2.at fun o q => hk _ o (nS L.i2) q, .inl ⟨rfl, hk _ _ (nS L.z) hz⟩⟩ ?_ ?_ (fun b o h0 _ _ _ _ e => hk b o h0 e) hS1 rfl rfl ⟨List.Pairwise.nil, fun _ ha => (nomatch ha), fun j a hj => by simp at hj⟩
    · obtain ⟨o, q, r⟩ := t1; exact ⟨o, hk _ o (nS L.l1) q, r⟩
    · obtain ⟨o, q, r⟩ := t2; exact ⟨o, hk _ o (nS L.l2) q, r⟩
  unfold Builtin.List.listExtendWith
  refine wpAny_bind (wpAny_typeOf (T := "zip") ty ?_)
  have e1 : Builtin.List.listSameRef (.ref S) (.ref z) = false := by simp [Builtin.List.listSameRef, (nS L.z).symm]
  have e2 : (Value.type "zip" == Value.type "list") = false := by decide
  have e3 : (Value.type "zip" == Value.type "tuple") = false := by decide
  simp only [e1, e2, e3, Bool.or_false, Bool.false_eq_true, if_false]
  refine wpAny_bind (wpAny_pyIter_zip hz ?_)
  refine wpAny_bind (wpAny_holding (hint ty ?_))
  simp only [Bool.true_or, if_true]
  refine wpAny_bind (wpAny_rule ?_); refine wpAny_bind ?_
  show wpAny _ _ (updateSeq S (·.push .none) >>= fun _ => updateSeq S (·.pop)) _ _ _; refine wpAny_bind (wpAny_updateSeq hS rfl ?_)
  have u2 := Heap.get?_update_self (Obj.mapSeq (·.push Value.none)) hS rfl
  refine wpAny_updateSeq (hz := by seq_fits) u2 rfl ?_
  have u3 := Heap.get?_update_self (Obj.mapSeq (·.pop)) u2 rfl
  exact wpAny_pure ⟨plainId_quiet PySem.F.plain_extend_loop _, key _ _ _ (fun b o hb e => (Heap.get?_update_other _ _ (Ne.symm hb)).trans ((Heap.get?_update_other _ _ (Ne.symm hb)).trans e)) u3⟩
end
end Zx

namespace Wp
open PySem PySem.Spec PyProof.Rows L2 Evl
abbrev Zt := Addr × Obj × (V × V)
def putZ : Hp → List Zt → Hp
  | H, t :: ts => putZ (upd H t.1 (.frz t.2.1 (.tup [t.2.2.1, t.2.2.2]))) ts
  | H, [] => H
def ZOk (h : Heap) (t : Zt) : Prop := ∃ x y, t.2.1 = { cls := .type "tuple", data := .seq #[x, y] } ∧ h.get? t.1 = some t.2.1 ∧ RelV t.2.2.1 x ∧ RelV t.2.2.2 y
def tLZ (K : PySem.W.Frag) (ta : TA) : TE := fun σ H Q => ta σ H fun vs H1 => ∃ a b xs ys, vs = [.ref a, .ref b] ∧ SqT K H1 a xs ∧ SqT K H1 b ys ∧ xs.length = ys.length ∧
  ∀ (H' : Hp) (p : Addr) (ts : List Zt), Ex H1 H' → H1 p = none → H' p = some (.lst (ts.map fun t => V.ref t.1)) → ts.map (·.2.2) = xs.zip ys → (∀ t ∈ ts, t.2.1.dict = none ∧ H' t.1 = some (.frz t.2.1 (.tup [t.2.2.1, t.2.2.2]))) → Q (.ref p) H'
section
variable {X : Cx} {e e2 : Expr} {ta : TA} {p p2 pos pos2 : Pos}
/-! the model -/
def mLZ (ms : WL) : WL := fun E b R => ms E b fun ds b1 => match ds with
  | [.tuple xs, .tuple ys] => xs.length = ys.length ∧ R (zipD xs ys) b1
  | _ => False
end
end Wp

/-! texts: f-strings, join; enumerate of a list as a loop -/
namespace Wp
open PySem PySem.Spec PyProof.Rows L2 Evl
/-- {x} -/
def mFmt (m : WE) : WE := fun E b R => m E b fun d b1 => match d with
  | .int i => i.natAbs.log2 < 1920 ∧ R (.str (toString i)) b1
  | .str y => y.length ≤ sizeLine ∧ R (.str y) b1
  | _ => False
/-- the parts of a text, one behind the other -/
def mJs : List WE → Str → WE
  | [], acc => fun E b R => R (.str acc) b
  | m :: ms, acc => fun E b R => m E b fun d b1 => match d with
    | .str y => (acc ++ y).length ≤ sizeLine ∧ mJs ms (acc ++ y) E b1 R
    | _ => False
theorem mJs_n {acc : Str} {E : Env} {b : Bt} {R : PyData → Bt → Prop} : mJs [] acc E b R = R (.str acc) b := rfl
theorem mJs_c {m : WE} {ms : List WE} {acc : Str} {E : Env} {b : Bt} {R : PyData → Bt → Prop} : mJs (m :: ms) acc E b R = (m E b fun d b1 => match d with
    | .str y => (acc ++ y).length ≤ sizeLine ∧ mJs ms (acc ++ y) E b1 R
    | _ => False) := propext Iff.rfl
/-- a.join(x) -/
def mSJ (mo m : WE) : WE := fun E b R => mo E b fun d b1 => match d with
  | .str a => m E b1 fun e b2 => match e with
    | .list ds => ∃ ys : List Str, ds = ys.map PyData.str ∧ (ys.map (·.length)).sum + ys.length * a.length ≤ 16777216 ∧ R (.str (Txt.join a ys)) b2
    | _ => False
  | _ => False
theorem mSJ_e {mo m : WE} {E : Env} {b : Bt} {R : PyData → Bt → Prop} : mSJ mo m E b R = (mo E b fun d b1 => match d with
  | .str a => m E b1 fun e b2 => match e with
    | .list ds => ∃ ys : List Str, ds = ys.map PyData.str ∧ (ys.map (·.length)).sum + ys.length * a.length ≤ 16777216 ∧ R (.str (Txt.join a ys)) b2
    | _ => False
  | _ => False) := propext Iff.rfl
theorem DtAll.strs_inv {H : Hp} : ∀ {ys : List Str} {xs : List V}, DtAll H xs (ys.map PyData.str) → xs = ys.map V.str
  | [], _, .nil => rfl
  | _ :: _, _, .cons a b => by cases a; rw [DtAll.strs_inv b]; rfl
section
variable {X : Cx} {m mo : WE} {pos apos : Pos} {e o : Expr}
theorem js_of {σ : L2.St} : ∀ {ms : List WE} {acc : Str} {H : Hp} {Q : VK}, tE (mJs ms acc) σ H Q → tJs (ms.map tE) acc σ H fun out H1 => Q (.str out) H1
  | [], acc, H, Q, ⟨W, H0, E, b, R, S, hm, k⟩ => k _ b _ H hm Kp.refl S.dk (.str _)
  | m :: ms, acc, H, Q, ⟨W, H0, E, b, R, S, hm, k⟩ => by
    refine ⟨W, H0, E, b, _, S, hm, fun d b1 v H1 h1 k1 d1 t1 => ?_⟩
    cases d <;> first | exact h1.elim | skip
    cases t1
    exact ⟨_, rfl, h1.1, js_of ⟨W, H0, E, b1, R, S.step k1 d1, h1.2, fun d b' v H' r kp dk t => k d b' v H' r (k1.trans kp) dk t⟩⟩
theorem pm_joined {ms : List WE} {v1 v2 : Expr} {rest : List Expr} (h : PJ X (v1 :: v2 :: rest) (ms.map tE)) : PE X (.JoinedStr (v1 :: v2 :: rest) pos) (tE (mJs ms Str.empty)) := (pe_joined h).weak fun σ H Q h => js_of h
theorem pm_sj (ho : PE X o (tE mo)) (he : PE X e (tE m)) (hs : starEach [e] X.env = [(false, eval e X.env)] := by rfl) (hbase : attributeBase o "join" X.env (eval o X.env) = eval o X.env := by rfl) (hline : (apos.endLine == pos.line) = true := by rfl) :
    PE X (.Call (.Attribute o "join" apos) [e] [] pos) (tE (mSJ mo m)) := (pe_join ho he hs hbase hline).weak fun σ H Q ⟨W, H0, E, b, R, S, hm, k⟩ => by
  refine ⟨W, H0, E, b, _, S, hm, fun d b1 v H1 h1 k1 d1 t1 => ?_⟩
  cases d <;> first | exact h1.elim | skip
  cases t1
  refine ⟨⟨_, rfl⟩, W, H0, E, b1, _, S.step k1 d1, h1, fun d b2 v H2 h2 k2 d2 t2 => ?_⟩
  cases d <;> first | exact h2.elim | skip
  obtain ⟨ys, rfl, hl, hr⟩ := h2
  obtain ⟨p, o1, xs, rfl, hp, al⟩ := t2.lst_inv
  obtain rfl := al.strs_inv
  exact ⟨_, p, ys, rfl, rfl, .inl (.inl (.inr ⟨o1, hp⟩)), hl, k _ b2 _ H2 hr (k1.trans k2) d2 (.str _)⟩
end
/-! ### for over enumerate of a list -/
def mForEL (t : WG1) (ms : WL) (m : WS) : WS := fun E b F => ms E b fun ds b1 => match ds with
  | [.list xs] => mTurns t m (enD 0 xs) E b1 F
  | _ => False
section
variable {X : Cx} {pos : Pos}
end
end Wp

/-! the names of L2N, so that they come before L2's -/
namespace Wp
abbrev XE := @L2N.XE
abbrev Takes := @L2N.Takes
abbrev CX := @L2N.CX
abbrev takes_of := @L2N.takes_of
abbrev passes_call := @L2N.passes_call
abbrev MkP := @L2N.MkP
abbrev PMk := @L2N.PMk
abbrev ps_raise := @L2N.ps_raise
abbrev mk_of := @L2N.mk_of
abbrev ps_try_as := @L2N.ps_try_as
abbrev ps_try_many := @L2N.ps_try_many
abbrev pmk_own := @L2N.pmk_own
abbrev passAt := @L2N.passAt
abbrev Zn := @L2N.Zn
end Wp
namespace Cn
abbrev XE := @L2N.XE
abbrev Takes := @L2N.Takes
abbrev CX := @L2N.CX
abbrev takes_of := @L2N.takes_of
abbrev passes_call := @L2N.passes_call
abbrev MkP := @L2N.MkP
abbrev PMk := @L2N.PMk
abbrev ps_raise := @L2N.ps_raise
abbrev mk_of := @L2N.mk_of
abbrev ps_try_as := @L2N.ps_try_as
abbrev ps_try_many := @L2N.ps_try_many
abbrev pmk_own := @L2N.pmk_own
abbrev passAt := @L2N.passAt
abbrev Zn := @L2N.Zn
end Cn

/-! defs that may raise -/
namespace Cn
open PySem PySem.Spec PyProof.Rows L2
/-- as FnG, for a def that may let an error out -/
structure FnX (P : Program) (w : World) (K : PySem.W.Frag) (mg : Str → Option Value) (base : Heap) (k : Nat) (f : Addr) (fd : FuncData) (ps : List Str) (sp : Sp) : Prop where
  len : ∀ vs H Q E, sp vs H Q E → vs.length = ps.length
  run : ∀ (A : Around) (out : List Env) (s : Shared) (H : Hp) (args : Args) (us : List Value) (vs : List V) (Q : VK) (E : XK), A.guards = some [] → Room k A → Env0 P w K mg base A out s H →
    BindsTo s fd args (ps.zip us) → Vals vs us → sp vs H Q E → codeAny (model P w) A (.call (.ref f) args) (CR (L2N.CX P w) out P w H s Q E) s
section
variable {P : Program} {w : World} {K : PySem.W.Frag} {mg : Str → Option Value} {base : Heap}
theorem okX {x qual : Str} {st : Stmt} {f : Addr} {fd : FuncData} {N ps : List Str} {k : Nat} {sp : Sp} (F : Fun K x qual st f fd) (S : FnScope N ps (defScope st)) (len : ∀ vs H Q E, sp vs H Q E → vs.length = ps.length)
    (body : ∀ (cdv : Value) (A : Around) (out : List Env) (s : Shared) (H : Hp) (vs : List V) (Q : VK) (E : XK), A.guards = some [] → Room k (A.deeper (envOfC qual (defScope st) s.heap.objs.size f cdv)) → sp vs H Q E →
      ∃ t, PSs (cxOf (L2N.CX P w) P w K mg base N qual (defScope st) f cdv A out s H E) (defBody st) t ∧ t { nx := fun _ H' => Q .non H', rt := Q } (start N vs) H) : FnX P w K mg base (k + 1) f fd ps sp := by
  obtain ⟨oc, od, kV, doc, pm, an, cdv, ct, osl, rfl, lk, code⟩ := F.ex
  refine ⟨len, fun A out s H args us vs Q E gd room e0 bd rel pr => ?_⟩
  have inK : K.In s.heap := e0.mod.kin.keeps fun b o e => (e0.bs b o e).1
  have par : ∀ y ∈ ps.zip us, (defScope st).names.lookup y.1 = some .local ∨ ((defScope st).names.lookup y.1 = some .cell ∧ ((cellsFrom (s.heap.objs.size + 1) (defScope st).names []).lookup y.1).isSome = true) := by
    intro y hy
    refine (S.par y.1 (List.of_mem_zip (show (y.1, y.2) ∈ ps.zip us from hy)).1).imp id fun c => ⟨c, PySem.W.cellsFrom_some _ _ _ (.inl c)⟩
  refine codeAny_call_function room.depth (inK _ _ lk) rfl S.co S.gen rfl (PySem.W.codeRec_of inK code) (bd _ _ _ _ (wpAny_newFunctionEnv_cells S.kind par ?_))
  rintro _ rfl s1 new
  refine ⟨(e0.mod.nolimit.keeps fun b o e => (e0.bs b o e).1).keeps new.toInCall.keep, codeAny_func ?_⟩
  obtain ⟨t, ht, q⟩ := body cdv A out s H vs Q E gd (room.deeper _) pr
  refine wpAny_mono (ht.run [] s1 (start N vs) H _ (inv_start S room.hd e0 (len _ _ _ _ pr) rel new) q) ?_ fun _ _ z => z
  rintro (_ | _ | _ | u) s' z
  case next =>
    obtain ⟨_, H', J, z⟩ := z
    exact ⟨V.non, H', J.os, J.bare, J.base, J.hok, rfl, z⟩
  case ret =>
    obtain ⟨v, _, H', J, rv, z⟩ := z
    exact ⟨v, H', J.os, J.bare, J.base, J.hok, rv, z⟩
  all_goals
    obtain ⟨_, _, _, z⟩ := z
    exact z.elim
/-- where nothing is let out, it is a def of the other kind -/
theorem FnX.calm {k : Nat} {f : Addr} {fd : FuncData} {ps : List Str} {sp : Sp} (F : FnX P w K mg base k f fd ps sp) : FnG P w K mg base k f fd ps (fun vs H Q _ => sp vs H Q fun _ _ _ => False) :=
  ⟨fun vs H Q _ h => F.len vs H Q _ h, fun A out s H args us vs Q E gd room e0 bd rel pr => codeAny_mono (F.run A out s H args us vs Q _ gd room e0 bd rel pr) fun r s' z => by
    cases r with
    | ok fl => cases fl <;> exact z
    | error e =>
      obtain ⟨_, _, _, _, _, _, _, _, _, _, _, _, z⟩ := z
      exact z.elim⟩
end
section
variable {X : Cx} {k : Nat} {f : Addr} {fd : FuncData} {ps : List Str} {sp : Sp} {x : Str} {p pos : Pos} {e : Expr} {es : List Expr} {t : TA} {Wx : WX}
/-- f(e, ..), what it lets out being taken by Wx -/
theorem pe_callX (F : FnX X.prog X.w X.K X.mg X.base k f fd ps sp) (gd : X.A.guards = some []) (room : Room k X.A) (gl : Gl X x) (hm : X.mg x = some (.ref f)) (kp : PySem.W.keepIn X.K (.ref f) = true) (bd : Binds X.K fd ps []) (tk : Takes X Wx)
    (ha : PA X (e :: es) t) (hdb : (x == ("__debug__" : Str)) = false := by decide) (he : starEach (e :: es) X.env = (false, eval e X.env) :: starEach es X.env := by rfl) (hpl : (backTo pos (starEach es X.env)).any (·.1) = false := by rfl) :
    PE X (.Call (.Name x p) (e :: es) [] pos) (tCallS sp (WE Wx) t) := by
  refine ⟨fun pins s σ H Q I h => wpAny_Call_Name_kw (ld_glob I gl hm ?_ hdb)⟩
  refine PySem.W.callWith_K (h₀ := X.base) I.ok.mod.kin kp (thn (ha.run pos pins s σ H _ I h) ?_) he hpl
  rintro us s1 ⟨vs, H1, I1, rel, q⟩
  refine ⟨I1.kIn, ?_⟩
  have l0 : us.length = ps.length := rel.length.symm.trans (F.len _ _ _ _ q)
  have b0 := bd s1 us I1.kIn (by rw [List.append_nil]; exact l0)
  rw [List.append_nil] at b0
  refine wpAny_call (codeAny_mono (F.run X.A X.stack s1 H1 ⟨us, []⟩ us vs Q (WE Wx σ) gd room I1.env0 b0 rel q) ?_)
  rintro (_ | fl) s' z
  · exact passAt tk σ pins H1 s1 _ s' I1 z
  · cases fl with
    | ret u => exact I1.after z
    | _ => exact z.elim
end
/-! ### classes of errors with one field, set by __init__ -/
section
variable {P : Program} {w : World} {K : PySem.W.Frag} {mg : Str → Option Value} {base : Heap}
def spI (C : Addr) (f : Str) : Sp := fun vs H Q _ => ∃ a v, vs = [.ref a, v] ∧ H a = some (exo a C none) ∧ ∀ dx, H dx = none → dx ≠ a → Q .non (upd (upd H dx (exd dx [(f, v)])) a (exo a C (some dx)))
theorem init_reads {C : Addr} {f y z : Str} {vs : List V} {H : Hp} {Q : VK} {E : XK} (T : OexC K C) (hno : PySem.W.findIn K (.ref C) f = some none) (h : spI C f vs H Q E) : tOst K f (tVar 0) (tVar 1) { nx := fun _ H' => Q .non H', rt := Q } (start [y, z] vs) H := by
  obtain ⟨a, v, rfl, ha, q⟩ := h
  exact ⟨v, rfl, .ref a, rfl, a, C, rfl, T, hno, .inl ⟨ha, q⟩⟩
end
end Cn
namespace Wp
open PySem PySem.Spec PyProof.Rows L2 Evl
theorem tE_mono {m : WE} {σ : L2.St} {H : Hp} {Q Q' : VK} (h : tE m σ H Q) (k : ∀ v H', Q v H' → Q' v H') : tE m σ H Q' := by
  obtain ⟨W, H0, E, b, R, S, hm, q⟩ := h
  exact ⟨W, H0, E, b, R, S, hm, fun d b' v H' r kp dk t => k _ _ (q d b' v H' r kp dk t)⟩
/-- the new error, its context None -/
theorem mk_endN {X : Cx} {pins : List (Addr × Obj)} {σ : L2.St} {H1 H2 : Hp} {Q : XK} {hp hp2 h2 : Heap} {g1 g2 : Array GenState} {d1 d2 : Drawn} {t1 t2 : Nat} {os1 os2 : OsState} {a C d : Addr} {fs : List (Str × V)} (T : Raises X (.ref C)) (I1 : Inv X pins σ H1 ⟨hp, g1, d1, t1, os1⟩)
    (ha : hp.objs.size ≤ a) (k : ∀ b o, hp.get? b = some o → hp2.get? b = some o) (un : Un (frs X.stack) [] (upd H1 a (exo a C none)) H2 hp2 h2) (hok : HOk X.prog X.w H2 h2) (ho : os2 = os1) (hb : AllBare g2)
    (ea : H2 a = some (exo a C (some d))) (ed : H2 d = some (exd d fs)) (hd1 : H1 d = none) (q : Q (.ref C) (some d) (upd (del H2 a) d (.xd fs))) : L2N.MkP X pins σ Q (.ref a) ⟨h2, g2, d2, t2, os2⟩ := by
  obtain ⟨t0, G, J, kG, ge, hoe, na⟩ := mk_end0 (d2 := d2) (t2 := t2) I1 ha k un hok ho hb ea ed hd1
  refine ⟨a, _, _, ⟨G, g2, d2, t2, os2⟩, _, .ref C, some d, rfl, J, kG, ge, hoe, ⟨rfl, rfl, fun vs hv => ?_⟩, rfl, rfl, na, rfl, hb, T, q⟩
  cases hv
  rfl
theorem pmk_ownV {X : Cx} {C fI : Addr} {fd : FuncData} {ps : List Str} {x : Str} {p pos : Pos} {e : Expr} {k : Nat} {CX : CXT} {es : List Expr} {ta : TA} {sp : Sp} (T : OexC X.K C) (iC : PySem.W.findIn X.K (.ref C) "__init__" = some (some (.ref fI))) (tI : PySem.W.typeIn X.K (.ref fI) = some (.type "function")) (F1 : FnOk X.prog X.w X.K X.mg X.base CX k fI fd ps sp) (hr : Room (k + 1) X.A) (hb : Binds X.K fd ps [])
    (hx : Passes CX X (fun _ _ _ => False)) (hg : Gl X x) (hm : X.mg x = some (.ref C)) (ha : PA X (e :: es) ta) (hdb : (x == ("__debug__" : Str)) = false := by decide) (hs : starEach (e :: es) X.env = (false, eval e X.env) :: starEach es X.env := by rfl) (hpl : (backTo pos (starEach es X.env)).any (·.1) = false := by rfl) :
    L2N.PMk X (.Call (.Name x p) (e :: es) [] pos) (tMkO C sp [] ta) := by
  intro pins s σ H Q I h
  obtain ⟨nm, qn, N, bs, bm, sn, sub, ab, col, dd, k0, k1, k2, k3, k5, hC, hbm⟩ := T.cls
  refine wpAny_Call_Name_kw (ld_glob I hg hm ?_ hdb)
  refine PySem.W.callWith_K (h₀ := X.base) I.ok.mod.kin T.kC (thn (ha.run pos pins s σ H _ I h) ?_) hs hpl
  rintro us ⟨hp, g, dr, tk, os⟩ ⟨vs, H1, I1, r1, hz, q1⟩
  refine ⟨I1.kIn, ?_⟩
  show wpAny _ _ (call (.ref C) us) _ _ _
  have big : hp.objs.size ≤ hp.objs.size + 1 := by omega
  have hn : H1 (hp.objs.size + 1) = none := I1.hok.fresh big
  have hq := q1 _ hn
  rw [List.append_nil] at hq
  have up : ∀ b o, hp.get? b = some o → ((hp.push (PySem.W.kdv_tup us)).push (PySem.HandSPX.excO C hp.objs.size)).get? b = some o := by
    intro b o z
    exact Heap.get?_push_of_some _ (Heap.get?_push_of_some _ z)
  have at1 : ((hp.push (PySem.W.kdv_tup us)).push (PySem.HandSPX.excO C hp.objs.size)).get? (hp.objs.size + 1) = some (PySem.HandSPX.excO C hp.objs.size) := by heap_get
  have I2 := I1.laid (t' := tk) (o := exo (hp.objs.size + 1) C none) up big (exo_ok at1)
  have r2 : Vals (V.ref (hp.objs.size + 1) :: vs) (Value.ref (hp.objs.size + 1) :: us) := .cons rfl r1
  have hl : (Value.ref (hp.objs.size + 1) :: us).length = ps.length := r2.length.symm.trans (F1.len _ _ _ _ hq)
  have hus : us.length ≤ sizeLine := by
    have := Paired.length r1
    rw [sizeLine_eq]
    omega
  have b0 := hb ⟨(hp.push (PySem.W.kdv_tup us)).push (PySem.HandSPX.excO C hp.objs.size), g, dr, tk, os⟩ (Value.ref (hp.objs.size + 1) :: us) I2.kIn (by rw [List.append_nil]; exact hl)
  rw [List.append_nil] at b0
  refine wpAny_call (PySem.HandSPX.call_own F.excBase_ValueError (fun Y => PySem.HandSPX.refsVE_contains Y bm hbm) (I1.kIn _ _ hC) (PySem.W.looks_findIn I1.kIn iC) (fun self => PySem.W.bind_fn I1.kIn self tI) hus (codeAny_mono (F1.run _ X.stack _ _ ⟨Value.ref (hp.objs.size + 1) :: us, []⟩ _ _ _ (fun _ _ _ => False) (hr.make C us []) (I2.env0.make C us []) b0 r2 hq) ?_))
  rintro (er | fl) s' z
  · exact hx pins σ _ _ er s' I2 z
  · cases fl with
    | ret u =>
      obtain ⟨v, H2, os2, bare2, un2, hok2, rv, rfl, d, fs, ea, ed, hd1, q2⟩ := z
      obtain ⟨h2, g2, d2, t2, os'⟩ := s'
      exact ⟨rv, mk_endN (raises_own T.exC T.tyC) I1 big up un2 hok2 os2 bare2 ea ed hd1 q2⟩
    | _ => exact z.elim
section
variable {X : Cx} {C fI : Addr} {fd : FuncData} {ps : List Str} {x f : Str} {p pos pos2 : Pos} {e : Expr} {m : WE} {k : Nat} {xw : XW} {Wx : WX}
def tMk1 (C : Addr) (f : Str) (te : TE) : L2.St → Hp → XK → Prop := fun σ H Q => te σ H fun v H1 => ∀ d, H1 d = none → Q (.ref C) (some d) (upd H1 d (.xd [(f, v)]))
/-- C(e) -/
theorem pmk_1 (T : OexC X.K C) (iC : PySem.W.findIn X.K (.ref C) "__init__" = some (some (.ref fI))) (tI : PySem.W.typeIn X.K (.ref fI) = some (.type "function")) (F1 : FnOk X.prog X.w X.K X.mg X.base CX0 k fI fd ps (Cn.spI C f)) (hr : Room (k + 1) X.A) (hb : Binds X.K fd ps []) (hg : Gl X x) (hm : X.mg x = some (.ref C)) (he : PE X e (tE m))
    (hdb : (x == ("__debug__" : Str)) = false := by decide) (hs : starEach [e] X.env = (false, eval e X.env) :: starEach [] X.env := by rfl) (hpl : (backTo pos (starEach [] X.env)).any (·.1) = false := by rfl) : PMk X (.Call (.Name x p) [e] [] pos) (tMk1 C f (tE m)) := by
  intro pins s σ H Q I h
  have ha : PA X [e] (tCons (tE m) tNil) := pa_cons he pa_nil hs
  refine pmk_ownV T iC tI F1 hr hb (fun _ _ _ _ _ _ _ z => z.elim) hg hm ha hdb hs hpl pins s σ H Q I ?_
  refine tE_mono h fun v H1 q => ⟨by simp, fun a na => ⟨a, v, rfl, upd_same, fun dx hd ne => ⟨rfl, dx, [(f, v)], upd_same, by rw [upd_ne ne]; exact upd_same, ?_, ?_⟩⟩⟩
  · rw [upd_ne ne] at hd
    exact hd
  · have hd1 : H1 dx = none := by rw [upd_ne ne] at hd; exact hd
    have e2 : upd (del (upd (upd (upd H1 a (exo a C none)) dx (exd dx [(f, v)])) a (exo a C (some dx))) a) dx (.xd [(f, v)]) = upd H1 dx (.xd [(f, v)]) := by
      funext b
      unfold upd del
      by_cases h1 : b = dx
      · rw [if_pos h1, if_pos h1]
      · rw [if_neg h1, if_neg h1]
        by_cases h2 : b = a
        · rw [if_pos h2, h2, na]
        · rw [if_neg h2]
          show (if b = a then some (exo a C (some dx)) else if b = dx then some (exd dx [(f, v)]) else if b = a then some (exo a C none) else H1 b) = H1 b
          rw [if_neg h2, if_neg h1, if_neg h2]
    rw [e2]
    exact q dx hd1
/-- the errors by number: class and field -/
abbrev XC := Nat → Addr × Str
/-- number 0: an object is returned; c + 1: the error of the number c is raised -/
def xwS (xc : XC) (Wx : WX) : XW := fun rt c v σ H => match c with
  | 0 => rt v H
  | c + 1 => if (xc c).2 = "" then Wx (.ref (xc c).1) none σ H else ∀ d, H d = none → Wx (.ref (xc c).1) (some d) σ (upd H d (.xd [((xc c).2, v)]))
abbrev xwOf (xc : XC) (E : XK) : XW := xwS xc fun cls d _ H => E cls d H
/-- raise C(e), C the class of the number c -/
def mRaise (c : Nat) (m : WE) : WS := fun E b F => m E b fun d b1 => F.xx (c + 1) (.d d) E b1
theorem pm_raise {xc : XC} {c : Nat} (hc : X.calm = true) (tk : Takes X Wx) (hp : PMk X e (tMk1 (xc c).1 (xc c).2 (tE m))) (hne : (xc c).2 ≠ "" := by decide) : PS X (.Raise (some e) none pos) (tS (xwS xc Wx) (mRaise c m)) :=
  (ps_raise hc tk hp).weak fun D σ H ⟨W, H0, E, b, F, S, hm, k⟩ => ⟨W, H0, E, b, _, S, hm, fun d b1 v H1 h1 k1 d1 t1 => by
    have := k.xx (c + 1) (.d d) v σ H1 E b1 h1 (S.step k1 d1) t1
    simp only [xwS, if_neg hne] at this
    exact this⟩
/-- raise C(), a class without fields -/
def mRaise0 (c : Nat) : WS := fun E b F => F.xx (c + 1) (.d .none) E b
theorem pm_raise0 {xc : XC} {c : Nat} (hc : X.calm = true) (tk : Takes X Wx) (hp : PMk X e (fun _ H Q => Q (.ref (xc c).1) none H)) (hne : (xc c).2 = "" := by decide) : PS X (.Raise (some e) none pos) (tS (xwS xc Wx) (mRaise0 c)) :=
  (ps_raise hc tk hp).weak fun D σ H ⟨W, H0, E, b, F, S, hm, k⟩ => by
    have := k.xx (c + 1) (.d .none) .non σ H E b hm S .non
    simp only [xwS, if_pos hne] at this
    exact this
end
/-! ### a def that may raise, or return an object, by its model -/
abbrev WFX := List Sl → Bt → (PyData → Bt → Prop) → (Nat → Sl → Bt → Prop) → Prop
def mFnX (n k : Nat) (m : WS) : WFX := fun as b R Z => as.length = n ∧ m (as ++ List.replicate (k - n) .no) b { nx := fun _ b' => R .none b', rt := R, xx := fun c d _ b' => Z c d b' }
def spOfX (xc : XC) (mf : WFX) : Sp := fun vs H Q E => ∃ W as b R Z, ArsR W H vs as ∧ W.Dk b H ∧ mf as b R Z ∧ (∀ d b' v H', R d b' → Kp W.M H H' → W.Dk b' H' → Dt H' v d → Q v H') ∧
  ∀ c d b' v H', Z c d b' → Kp W.M H H' → W.Dk b' H' → ArR W H' v d → xwOf xc E Q c v [] H'
theorem xwOf_any {xc : XC} {E : XK} {rt : VK} {c : Nat} {v : V} {σ σ' : L2.St} {H : Hp} (h : xwOf xc E rt c v σ H) : xwOf xc E rt c v σ' H := by
  cases c <;> exact h
theorem fn_ofX {P : Program} {w : World} {K : PySem.W.Frag} {mg : Str → Option Value} {base : Heap} {x qual : Str} {st : Stmt} {f : Addr} {fd : FuncData} {N ps : List Str} {k : Nat} {mb : WS} {xc : XC} (F : Fun K x qual st f fd) (S : FnScope N ps (defScope st)) (hps : ps.length ≤ N.length)
    (body : ∀ (cdv : Value) (A : Around) (out : List PySem.Env) (s : Shared) (H : Hp) (E : XK), A.guards = some [] → Room k (A.deeper (envOfC qual (defScope st) s.heap.objs.size f cdv)) → PSs (cxOf (L2N.CX P w) P w K mg base N qual (defScope st) f cdv A out s H E) (defBody st) (tS (xwOf xc E) mb)) :
    Cn.FnX P w K mg base (k + 1) f fd ps (spOfX xc (mFnX ps.length N.length mb)) := by
  refine Cn.okX F S (fun vs H Q E h => ?_) (fun cdv A out s H vs Q E gd hr h => ⟨_, body cdv A out s H E gd hr, ?_⟩)
  · obtain ⟨W, as, b, R, Z, ar, _, hm, _⟩ := h
    exact ar.length.trans hm.1
  · obtain ⟨W, as, b, R, Z, ar, dk, ⟨hl, hm⟩, q, qx⟩ := h
    have S := start_sit (N := N) ar dk (by rw [hl]; exact hps)
    rw [hl] at S
    exact ⟨W, ⟨H, H⟩, _, b, _, S, hm, ⟨fun σ' H' E' b' S' h' => q _ b' _ H' h' S'.kp S'.dk .non, fun _ _ _ _ _ z => z.elim, fun _ _ _ _ _ z => z.elim, fun d b' v H' r kp d' t => q d b' v H' r kp d' t, fun c d v σ' H' E' b' h' S' t' => xwOf_any (qx c d b' v H' h' S'.kp S'.dk t')⟩⟩
/-- where it raises nothing it may be called like any other -/
theorem calmF {P : Program} {w : World} {K : PySem.W.Frag} {mg : Str → Option Value} {base : Heap} {f : Addr} {fd : FuncData} {ps : List Str} {k : Nat} {mf : WFX} {xc : XC} (F : Cn.FnX P w K mg base k f fd ps (spOfX xc mf)) : Cn.FnG P w K mg base k f fd ps (spOf fun as b R => mf as b R fun _ _ _ => False) := by
  have G := F.calm
  refine ⟨fun vs H Q E h => ?_, fun A out s H args us vs Q E gd room e0 bd rel pr => ?_⟩
  · obtain ⟨W, as, b, R, ar, dk, hm, q⟩ := h
    exact G.len vs H Q E ⟨W, as, b, R, _, ar, dk, hm, q, fun _ _ _ _ _ z => z.elim⟩
  · obtain ⟨W, as, b, R, ar, dk, hm, q⟩ := pr
    exact G.run A out s H args us vs Q E gd room e0 bd rel ⟨W, as, b, R, _, ar, dk, hm, q, fun _ _ _ _ _ z => z.elim⟩
end Wp

/-! objects made and methods called, by defs that may raise -/
namespace Cn
open PySem PySem.Spec PyProof.Rows L2
section
variable {X : Cx} {k : Nat} {f C : Addr} {fd : FuncData} {ps : List Str} {sp : Sp} {x m : Str} {p pos apos : Pos} {e o : Expr} {es : List Expr} {ta : TE} {t : TA} {Wx : WX}
theorem guards_make {A : Around} (g : A.guards = some []) (c : Value) (us : List Value) : (A.under (.builtin "type.__call__" ⟨c :: us, []⟩)).guards = some [] := by
  have h : (Code.builtin "type.__call__" ⟨c :: us, []⟩).guards = [] := by
    unfold Code.guards
    rw [if_neg (by first | decide | (intro z; cases z) | simp [Code.isGuard])]
  simp [Around.under, g, h, pushGuards]
def tMakeS (C : Addr) (sp : Sp) (E : L2.St → XK) (t : TA) : TE := fun σ H Q => t σ H fun vs H1 => ∀ x dx, H1 x = none → H1 dx = none → dx ≠ x → sp (.ref x :: vs) (upd (upd H1 dx (.own x)) x (.ins C dx [])) (fun v H2 => v = .non ∧ Q (.ref x) H2) (E σ)
/-- C(e, ..) -/
theorem pe_makeX (M : Mk X.K C f) (F : FnX X.prog X.w X.K X.mg X.base k f fd ps sp) (gd : X.A.guards = some []) (hr : Room (k + 1) X.A) (hg : Gl X x) (hm : X.mg x = some (.ref C)) (hb : Binds X.K fd ps []) (tk : Takes X Wx)
    (ha : PA X (e :: es) t) (hdb : (x == ("__debug__" : Str)) = false := by decide) (he : starEach (e :: es) X.env = (false, eval e X.env) :: starEach es X.env := by rfl) (hpl : (backTo pos (starEach es X.env)).any (·.1) = false := by rfl) :
    PE X (.Call (.Name x p) (e :: es) [] pos) (tMakeS C sp (WE Wx) t) := by
  refine ⟨fun pins s σ H Q I h => wpAny_Call_Name_kw (ld_glob I hg hm ?_ hdb)⟩
  refine PySem.W.callWith_K (h₀ := X.base) I.ok.mod.kin M.kp (thn (ha.run pos pins s σ H _ I h) ?_) he hpl
  rintro us s ⟨vs, H, I, r, h⟩
  refine ⟨I.kIn, ?_⟩
  have hq := h (s.heap.objs.size + 1) s.heap.objs.size (I.hok.fresh (Nat.le_succ _)) (I.hok.fresh (Nat.le_refl _)) (Nat.ne_of_lt (Nat.lt_succ_self _))
  have J := Inv.made (C := C) I
  have r2 : Vals (V.ref (s.heap.objs.size + 1) :: vs) (Value.ref (s.heap.objs.size + 1) :: us) := .cons rfl r
  have hl : (Value.ref (s.heap.objs.size + 1) :: us).length = ps.length := r2.length.symm.trans (F.len _ _ _ _ hq)
  have b0 := hb { s with heap := (s.heap.push PySem.W.emptyDict).push (PySem.W.instObj C s.heap.objs.size) } (Value.ref (s.heap.objs.size + 1) :: us) J.kIn (by rw [List.append_nil]; exact hl)
  rw [List.append_nil] at b0
  refine wpAny_call (make_map (f := f) I.kIn M.makes M.init (beq_iff_eq.mp M.fn) (codeAny_mono (F.run _ X.stack _ _ ⟨Value.ref (s.heap.objs.size + 1) :: us, []⟩ _ _ _ (WE Wx σ) (guards_make gd _ us) (hr.make C us []) (J.env0.make C us []) b0 r2 hq) ?_))
  rintro (_ | fl) s' z
  · exact passAt tk σ pins _ _ _ s' J z
  · cases fl with
    | ret u =>
      obtain ⟨v, H', I3, rv, ev, q3⟩ := J.after z
      subst ev
      exact ⟨rv, ⟨V.ref (s.heap.objs.size + 1), H', I3, rfl, q3⟩⟩
    | _ => exact z.elim
def tMethS (C : Addr) (m : Str) (sp : Sp) (E : L2.St → XK) (ta : TE) (t : TA) : TE := fun σ H Q => ta σ H fun x H1 => ∃ a dx fs, x = .ref a ∧ H1 a = some (.ins C dx fs) ∧ fs.lookup m = none ∧ t σ H1 fun vs H2 => sp (.ref a :: vs) H2 Q (E σ)
end
end Cn

/-! errors caught; what their suites ask of them -/
namespace Cn
open PySem PySem.Spec PyProof.Rows L2
section
variable {X : Cx} {a D dd : Addr} {oe : Obj} {pn : List (Addr × Obj)}
/-- isinstance(e, c) -/
def rIsX (K : PySem.W.Frag) (D a dd : Addr) : List V → Hp → VK → Prop := fun xs H Q => ∃ (c : V) (cv : Value) (b : Bool) (fs : List (Str × V)), xs = [.ref a, c] ∧ (∀ u, RelV c u → u = cv) ∧ PySem.W.kitOne K (.ref D) cv = some b ∧ H dd = some (.xd fs) ∧ Q (.bl b) H
/-- isinstance(e, (c, ..)) -/
def rIsXs (K : PySem.W.Frag) (D a dd : Addr) : List V → Hp → VK → Prop := fun xs H Q => ∃ (tp : Addr) (cs : List V) (us : List Value) (b : Bool) (fs : List (Str × V)), xs = [.ref a, .ref tp] ∧ H tp = some (.tup cs) ∧ (∀ vs, Vals cs vs → vs = us) ∧ PySem.W.kitAny K (.ref D) us = some b ∧ H dd = some (.xd fs) ∧ Q (.bl b) H
end
end Cn
namespace Cn
open PySem PySem.Spec PyProof.Rows L2
section
variable {X : Cx} {C : Addr} {bmB : List Value} {B newId initId : String}
/-- X(), a class of errors of one's own without __init__ -/
theorem pmk_own0 {x : Str} {p pos : Pos} (F : ExcBaseFacts B newId initId bmB) (q : PySem.W.excIn X.K C bmB newId = true) (gC : X.mg x = some (.ref C)) (kC : PySem.W.keepIn X.K (.ref C) = true) (r : Raises X (.ref C)) (hg : Gl X x)
    (hdb : (x == ("__debug__" : Str)) = false := by decide) : PMk X (.Call (.Name x p) [] [] pos) (fun _ H Q => Q (.ref C) none H) := by
  intro pins s σ H Q I h
  refine wpAny_Call_Name_kw (ld_glob I hg gC ?_ hdb)
  refine PySem.W.callWith_K0 I.kIn kC ?_
  show wpAny _ _ (call (.ref C) []) _ _ _
  obtain ⟨bm, N, nm, qn, bs, hdct, sn, sub, ab, col, dd, k0, k1, k2, k3, k5, mN, hC, hN, hni, T⟩ := exc_obj I.kIn q
  refine wpAny_call_exc_subT F T hC hN hni (fun h' e hm => ?_) (Nat.zero_le _)
  exact mk_of I hm r h (I.hok.gone hm.new)
end
section
variable {X : Cx} {a D : Addr} {oe : Obj} {pn : List (Addr × Obj)}
def rIsX0 (K : PySem.W.Frag) (D a : Addr) : List V → Hp → VK → Prop := fun xs H Q => ∃ (c : V) (cv : Value) (b : Bool), xs = [.ref a, c] ∧ (∀ u, RelV c u → u = cv) ∧ PySem.W.kitOne K (.ref D) cv = some b ∧ Q (.bl b) H
def rIsXs0 (K : PySem.W.Frag) (D a : Addr) : List V → Hp → VK → Prop := fun xs H Q => ∃ (tp : Addr) (cs : List V) (us : List Value) (b : Bool), xs = [.ref a, .ref tp] ∧ H tp = some (.tup cs) ∧ (∀ vs, Vals cs vs → vs = us) ∧ PySem.W.kitAny K (.ref D) us = some b ∧ Q (.bl b) H
end
end Cn
namespace Wp
open PySem PySem.Spec PyProof.Rows L2 Evl
section
variable {W : Wld} {H0 H H1 : Hp} {B : Bs} {σ : L2.St} {E : Env} {b b1 : Bt}
/-- a name is set to what nobody owns -/
theorem Sit.setS {i : Nat} {v : Option V} {s : Sl} (S : Sit W B σ H E b) (h : SlR W B.h0 H v s) (ho : isOwn s = false) : Sit W B (σ.set i v) H (E.set i s) b := by
  refine ⟨by simp [S.len], fun j s' e => ?_, fun p q s' t a ne h1 o1 h2 o2 e => ?_, S.kp, S.dk, S.fk⟩
  · by_cases hj : i = j
    · subst hj
      have hl : i < E.length := by have := (List.getElem?_eq_some_iff.mp e).1; simpa using this
      rw [List.getElem?_set_self hl] at e
      cases e
      exact ⟨v, List.getElem?_set_self (by rw [S.len]; exact hl), h⟩
    · rw [List.getElem?_set_ne hj] at e
      obtain ⟨u, h1, h2⟩ := S.at_ j s' e
      exact ⟨u, by rw [List.getElem?_set_ne hj]; exact h1, h2⟩
  · have np : i ≠ p := fun z => by
      subst z
      have hl : i < E.length := by have := (List.getElem?_eq_some_iff.mp h1).1; simpa using this
      rw [List.getElem?_set_self hl] at h1
      cases h1; rw [ho] at o1; cases o1
    have nq : i ≠ q := fun z => by
      subst z
      have hl : i < E.length := by have := (List.getElem?_eq_some_iff.mp h2).1; simpa using this
      rw [List.getElem?_set_self hl] at h2
      cases h2; rw [ho] at o2; cases o2
    rw [List.getElem?_set_ne np] at h1 e
    rw [List.getElem?_set_ne nq] at h2 ⊢
    exact S.apart p q s' t a ne h1 o1 h2 o2 e
end
/-! ### try: body, except x as n: suite -/
/-- errors of the numbers below n may come; cap: which of them the clause takes -/
def mTry (xc : XC) (n i : Nat) (cap : Nat → Bool) (mb : WS) (ms : Addr → Addr → Nat → WS) : WS := fun E b F => mb E b { F with xx := fun c s E1 b1 => match c with
  | 0 => F.xx 0 s E1 b1
  | c + 1 => c < n ∧ if cap c = true then (if (xc c).2 = "" then ∀ a dd, ms a dd c (E1.set i (.r a)) b1 { nx := fun E2 b2 => F.nx (E2.set i .no) b2, rt := F.rt, bk := fun E2 b2 => F.bk (E2.set i .no) b2, ct := fun E2 b2 => F.ct (E2.set i .no) b2 } else ∃ d, s = .d d ∧ ∀ a dd, ms a dd c (E1.set i (.x a dd (xc c).2 d c)) b1 { nx := fun E2 b2 => F.nx (E2.set i .no) b2, rt := F.rt, bk := fun E2 b2 => F.bk (E2.set i .no) b2, ct := fun E2 b2 => F.ct (E2.set i .no) b2 }) else F.xx (c + 1) s E1 b1 }
/-- the dict of an error of the number c, if it has fields -/
def dOf (xc : XC) (c : Nat) (dd : Addr) : Option Addr := if (xc c).2 = "" then none else some dd
section
variable {X : Cx} {x nm : Str} {cv : Value} {i n : Nat} {body suite : List Stmt} {b₀ : Stmt} {np pos pos' : Pos} {xc : XC} {cap : Nat → Bool} {mb : WS} {ms : Addr → Addr → Nat → WS} {Wx : WX}
theorem pm_try (hs : X.stack = X.env :: X.outer) (hf : X.env.frame = some X.env.locals) (hN : X.N.Nodup) (hi : X.N[i]? = some nm) (hln : X.env.kindOf nm = some .local) (hc : Names X x cv) (tk : Takes X Wx) (hcap : ∀ c, c < n → PySem.W.exmOne X.K (.ref (xc c).1) cv = some (cap c))
    (hb : ∀ (W : WX) (pn : List (Addr × Obj)) (xe : Value → Shared → Prop), Takes (X.tr pn xe) W → PassesOwn (model X.prog X.w) X.A X.env xe → PSs (X.tr pn xe) body (tS (xwS xc W) mb))
    (hsu : ∀ (a dd : Addr) (oe : Obj) (c : Nat) (pn : List (Addr × Obj)), c < n → Zn (.ref (xc c).1) (dOf xc c dd) oe → (∃ vs, oe.data = .fields vs) → PSs (X.suite a ((a, oe) :: pn)) (b₀ :: suite) (tS noX (ms a dd c))) :
    PS X (.Try body [.ExceptHandler (some (.Name x np)) (some nm) (b₀ :: suite) pos'] [] [] pos) (tS (xwS xc Wx) (mTry xc n i cap mb ms)) := by
  refine (ps_try_as (i := i) (tb := fun W => tS (xwS xc W) mb) (ts := fun a cls d D σ H => ∃ c dd, c < n ∧ cls = .ref (xc c).1 ∧ d = dOf xc c dd ∧ tS noX (ms a dd c) D σ H) hs hf hN hi hln hc tk hb (fun a oe cls d pn hz hfi => ⟨fun pins s σ H D I h => ?_⟩)).weak fun D σ H ⟨W, H0, E, b, F, S, hm, k⟩ => ?_
  · obtain ⟨c, dd, hcn, rfl, rfl, h⟩ := h
    exact (hsu a dd oe c pn hcn hz hfi).run pins s σ H D I h
  · refine ⟨W, H0, E, b, _, S, hm, ⟨k.nx, k.bk, k.ct, k.rt, fun c s v σ1 H1 E1 b1 h S1 t => ?_⟩⟩
    cases c with
    | zero => exact k.xx 0 s v σ1 H1 E1 b1 h S1 t
    | succ c =>
      obtain ⟨hcn, h⟩ := h
      by_cases hz : (xc c).2 = ""
      · simp only [xwS, if_pos hz]
        refine ⟨cap c, hcap c hcn, fun hy a na => ?_, fun hn => ?_⟩
        · rw [if_pos hy, if_pos hz] at h
          exact ⟨c, a, hcn, rfl, by unfold dOf; rw [if_pos hz], W, H0, _, b1, _, S1.setS (i := i) (v := some (.ref a)) (s := .r a) rfl rfl, h a a, ⟨fun σ3 H3 E3 b3 S3 h3 => k.nx _ _ _ b3 (S3.setS (v := none) (s := .no) trivial rfl) h3, fun σ3 H3 E3 b3 S3 h3 => k.bk _ _ _ b3 (S3.setS (v := none) (s := .no) trivial rfl) h3, fun σ3 H3 E3 b3 S3 h3 => k.ct _ _ _ b3 (S3.setS (v := none) (s := .no) trivial rfl) h3, k.rt, fun _ _ _ _ _ _ _ z => z.elim⟩⟩
        · rw [if_neg (by rw [hn]; decide)] at h
          have := k.xx (c + 1) s v σ1 H1 E1 b1 h S1 t
          simp only [xwS, if_pos hz] at this
          exact this
      simp only [xwS, if_neg hz]
      intro dd hd
      refine ⟨cap c, hcap c hcn, fun hy a na => ?_, fun hn => ?_⟩
      · rw [if_pos hy, if_neg hz] at h
        obtain ⟨d, rfl, h⟩ := h
        have ex : Ex H1 (upd H1 dd (.xd [((xc c).2, v)])) := fun p o e => by rw [upd_ne (ne_of_none e hd)]; exact e
        have S2 := S1.ex ex
        have ea : ExAt W (upd H1 dd (.xd [((xc c).2, v)])) dd (xc c).2 d := ⟨W.free S1.dk hd, v, upd_same, Dt.mono (fun a o u e => ex a _ e) t⟩
        exact ⟨c, dd, hcn, rfl, by unfold dOf; rw [if_neg hz], W, H0, _, b1, _, S2.setS (i := i) (v := some (.ref a)) (s := .x a dd (xc c).2 d c) ⟨rfl, ea⟩ rfl, h a dd, ⟨fun σ3 H3 E3 b3 S3 h3 => k.nx _ _ _ b3 (S3.setS (v := none) (s := .no) trivial rfl) h3, fun σ3 H3 E3 b3 S3 h3 => k.bk _ _ _ b3 (S3.setS (v := none) (s := .no) trivial rfl) h3, fun σ3 H3 E3 b3 S3 h3 => k.ct _ _ _ b3 (S3.setS (v := none) (s := .no) trivial rfl) h3, k.rt, fun _ _ _ _ _ _ _ z => z.elim⟩⟩
      · rw [if_neg (by rw [hn]; decide)] at h
        have := k.xx (c + 1) s v σ1 H1 E1 b1 h S1 t
        simp only [xwS, if_neg hz] at this
        exact this dd hd
end
/-! ### in a suite: the error's field, and what it is -/
def mXf (xc : XC) (i : Nat) (a dd : Addr) (f : Str) (c : Nat) : WE := fun E b R => ∃ d, ((xc c).2 ≠ "" ∧ E[i]? = some (.x a dd f d c)) ∧ R d b
def mXis (xc : XC) (i : Nat) (a dd : Addr) (c : Nat) (r : Bool) : WE := fun E b R => (if (xc c).2 = "" then E[i]? = some (.r a) else ∃ f d, E[i]? = some (.x a dd f d c)) ∧ R (.bool r) b
theorem pe_void {X : Cx} {e : Expr} {t : TE} (h : ∀ σ H Q, t σ H Q → False) : PE X e t := ⟨fun pins s σ H Q I q => (h σ H Q q).elim⟩
section
variable {X : Cx} {xc : XC} {a C dd : Addr} {oe : Obj} {pn : List (Addr × Obj)} {f nm : Str} {i c : Nat} {p p2 pos pos2 : Pos} {e2 : Expr} {es : List Expr} {r : Bool}
theorem pe_xfM (T : XfC X.K C) (hno : PySem.W.findIn X.K (.ref C) f = some none) (hz : Zn (.ref C) (dOf xc c dd) oe) (hf : ∃ vs, oe.data = .fields vs) (hv : PE (X.suite a ((a, oe) :: pn)) (.Name nm p) (tVar i)) (hb : attributeBase (.Name nm p) f X.env (eval (.Name nm p) X.env) = eval (.Name nm p) X.env := by rfl) :
    PE (X.suite a ((a, oe) :: pn)) (.Attribute (.Name nm p) f pos) (tE (mXf xc i a dd f c)) := by
  by_cases hd : (xc c).2 = ""
  · exact pe_void fun σ H Q ⟨W, H0, E, b, R, S, ⟨d, ⟨hn, _⟩, _⟩, k⟩ => hn hd
  unfold dOf at hz
  rw [if_neg hd] at hz
  exact (pe_xf T hno hz.zc hf hv hb).weak fun σ H Q ⟨W, H0, E, b, R, S, ⟨d, ⟨_, hE⟩, hr⟩, k⟩ => by
    obtain ⟨v, h1, e, nM, u, h2, t⟩ := S.at_ i _ hE
    subst e
    exact ⟨.ref a, h1, rfl, rfl, dd, _, u, rfl, h2, by simp, k d b u H hr Kp.refl S.dk t⟩
def tCs (vs : List V) : TA := fun _ H Q => Q vs H
end
end Wp

/-! calls that may raise; objects of the state: made, read, changed, their methods called -/
namespace Cn
open PySem PySem.Spec PyProof.Rows L2
section
variable {X : Cx} {k : Nat} {f C : Addr} {fd : FuncData} {ps : List Str} {sp : Sp} {x m : Str} {p pos apos : Pos} {e o : Expr} {es : List Expr} {ta : TE} {t : TA} {Wx : WX}
/-- methods looked up by the class that the instance has -/
def tMethG (isC : Addr → Prop) (m : Str) (sp : Sp) (E : L2.St → XK) (ta : TE) (t : TA) : TE := fun σ H Q => ta σ H fun x H1 => ∃ a C dx fs, x = .ref a ∧ isC C ∧ H1 a = some (.ins C dx fs) ∧ fs.lookup m = none ∧ t σ H1 fun vs H2 => sp (.ref a :: vs) H2 Q (E σ)
/-- o.m(), parameters behind self by their defaults dvs -/
def tMethG0 (isC : Addr → Prop) (m : Str) (sp : Sp) (dvs : List V) (E : L2.St → XK) (ta : TE) : TE := fun σ H Q => ta σ H fun x H1 => ∃ a C dx fs, x = .ref a ∧ isC C ∧ H1 a = some (.ins C dx fs) ∧ fs.lookup m = none ∧ sp (.ref a :: dvs) H1 Q (E σ)
end
end Cn
namespace Wp
open PySem PySem.Spec PyProof.Rows L2 Evl
theorem ar_rf {W : Wld} {H : Hp} (a : Addr) : ArR W H (.ref a) (.d (refD a)) := Dt.rf a
/-- an expression that may raise -/
abbrev WEX := Env → Bt → (PyData → Bt → Prop) → (Nat → Sl → Bt → Prop) → Prop
def tX (xc : XC) (Wx : WX) (m : WEX) : TE := fun σ H Q => ∃ W H0 E b R Z, Sit W H0 σ H E b ∧ m E b R Z ∧ (∀ d b' v H', R d b' → Kp W.M H H' → W.Dk b' H' → Dt H' v d → Q v H') ∧
  ∀ c s b' v H', Z c s b' → Kp W.M H H' → W.Dk b' H' → ArR W H' v s → c ≠ 0 ∧ xwS xc Wx (fun _ _ => False) c v σ H'
theorem xw_up {xc : XC} {Wx : WX} {rt : VK} {c : Nat} {v : V} {σ : L2.St} {H : Hp} (hc : c ≠ 0) (h : xwS xc Wx rt c v σ H) : xwS xc Wx (fun _ _ => False) c v σ H := by
  cases c with
  | zero => exact absurd rfl hc
  | succ c => exact h
/-- x = e -/
def mAsgX (i : Nat) (m : WEX) : WS := fun E b F => m E b (fun d b1 => F.nx (E.set i (.d d)) b1) fun c s b1 => c ≠ 0 ∧ F.xx c s E b1
/-- return e -/
def mRetX (m : WEX) : WS := fun E b F => m E b F.rt fun c s b1 => c ≠ 0 ∧ F.xx c s E b1
def mDropX (m : WEX) : WS := fun E b F => m E b (fun _ b1 => F.nx E b1) fun c s b1 => c ≠ 0 ∧ F.xx c s E b1
section
variable {X : Cx} {xc : XC} {Wx : WX} {e : Expr} {m : WEX} {pos : Pos}
theorem pm_retX (he : PE X e (tX xc Wx m)) : PS X (.Return (some e) pos) (tS (xwS xc Wx) (mRetX m)) := (ps_ret he).weak fun D σ H ⟨W, H0, E, b, F, S, hm, k⟩ =>
  ⟨W, H0, E, b, _, _, S, hm, fun d b1 v H1 h1 k1 d1 t1 => k.rt d b1 v H1 h1 (S.kp.trans k1) d1 t1, fun c s b1 v H1 h1 k1 d1 t1 => ⟨h1.1, xw_up h1.1 (k.xx c s v σ H1 E b1 h1.2 (S.step k1 d1) t1)⟩⟩
end
/-! ### f(e, ..) -/
def mCallX (mf : WFX) (gs : WG) : WEX := fun E b R Z => gs E b fun as b1 => mf as b1 R fun c s b2 => c ≠ 0 ∧ Z c s b2
section
variable {X : Cx} {k : Nat} {f C : Addr} {fd : FuncData} {ps : List Str} {mf : WFX} {gs : WG} {x m : Str} {p pos apos : Pos} {e o : Expr} {es : List Expr} {Wx : WX} {xc : XC} {mo : WE}
/-- what a def that may raise leaves, seen from a call -/
theorem spx_of {W : Wld} {H H1 : Hp} {σ : L2.St} {as : List Sl} {vs : List V} {b1 : Bt} {R : PyData → Bt → Prop} {Z : Nat → Sl → Bt → Prop} {Q : VK} (t1 : ArsR W H1 vs as) (d1 : W.Dk b1 H1) (k1 : Kp W.M H H1) (h1 : mf as b1 R fun c s b2 => c ≠ 0 ∧ Z c s b2)
    (q : ∀ d b' v H', R d b' → Kp W.M H H' → W.Dk b' H' → Dt H' v d → Q v H') (z : ∀ c s b' v H', Z c s b' → Kp W.M H H' → W.Dk b' H' → ArR W H' v s → c ≠ 0 ∧ xwS xc Wx (fun _ _ => False) c v σ H') : spOfX xc mf vs H1 Q (L2.WE Wx σ) :=
  ⟨W, as, b1, R, _, t1, d1, h1, fun d b' v H' r kp dk t => q d b' v H' r (k1.trans kp) dk t, fun c s b' v H' h kp dk t => by
    have := (z c s b' v H' h.2 (k1.trans kp) dk t).2
    cases c with
    | zero => exact absurd rfl h.1
    | succ c => exact this⟩
theorem pe_callXM (F : Cn.FnX X.prog X.w X.K X.mg X.base k f fd ps (spOfX xc mf)) (gd : X.A.guards = some []) (room : Room k X.A) (gl : Gl X x) (hm : X.mg x = some (.ref f)) (kp : PySem.W.keepIn X.K (.ref f) = true) (bd : Binds X.K fd ps []) (tk : Takes X Wx)
    (ha : PA X (e :: es) (tG gs)) (hdb : (x == ("__debug__" : Str)) = false := by decide) (he : starEach (e :: es) X.env = (false, eval e X.env) :: starEach es X.env := by rfl) (hpl : (backTo pos (starEach es X.env)).any (·.1) = false := by rfl) :
    PE X (.Call (.Name x p) (e :: es) [] pos) (tX xc Wx (mCallX mf gs)) := (Cn.pe_callX F gd room gl hm kp bd tk ha hdb he hpl).weak fun σ H Q ⟨W, H0, E, b, R, Z, S, hm, q, z⟩ =>
  ⟨W, H0, E, b, _, S, hm, fun ss b1 vs H1 h1 k1 d1 t1 => spx_of t1 d1 k1 h1 q z⟩
/-! ### C(e, ..) -/
def mMk (C : Addr) (mf : WFX) (gs : WG) : WEX := fun E b R Z => gs E b fun as b1 => ∀ a, b1.os a = none → mf (.d (refD a) :: as) (b1.put a C []) (fun d b2 => d = .none ∧ R (refD a) b2) fun c s b2 => c ≠ 0 ∧ Z c s b2
theorem pe_mkXM (M : Mk X.K C f) (F : Cn.FnX X.prog X.w X.K X.mg X.base k f fd ps (spOfX xc mf)) (gd : X.A.guards = some []) (hr : Room (k + 1) X.A) (hg : Gl X x) (hm : X.mg x = some (.ref C)) (hb : Binds X.K fd ps []) (tk : Takes X Wx)
    (ha : PA X (e :: es) (tG gs)) (hdb : (x == ("__debug__" : Str)) = false := by decide) (he : starEach (e :: es) X.env = (false, eval e X.env) :: starEach es X.env := by rfl) (hpl : (backTo pos (starEach es X.env)).any (·.1) = false := by rfl) :
    PE X (.Call (.Name x p) (e :: es) [] pos) (tX xc Wx (mMk C mf gs)) := (Cn.pe_makeX M F gd hr hg hm hb tk ha hdb he hpl).weak fun σ H Q ⟨W, H0, E, b, R, Z, S, hm, q, z⟩ =>
  ⟨W, H0, E, b, _, S, hm, fun ss b1 vs H1 h1 k1 d1 t1 => fun a dx na nd ne => by
    have e1 : Ex H1 (upd H1 dx (.own a)) := Ex.new nd
    have na' : upd H1 dx (.own a) a = none := by rw [upd_ne (Ne.symm ne)]; exact na
    have ex : Ex H1 (upd (upd H1 dx (.own a)) a (.ins C dx [])) := fun p o e => Ex.new na' p o (e1 p o e)
    have d2 := W.new (a := a) (C := C) (fs := []) (W.ex ex d1) ⟨dx, [], upd_same, .nil⟩
    have no : b1.os a = none := by
      cases ho : b1.os a with
      | none => rfl
      | some y =>
        obtain ⟨dx', vs', hi, _⟩ := W.obs d1 a y.1 y.2 ho
        rw [na] at hi
        cases hi
    exact spx_of (xc := xc) (R := fun d b2 => d = .none ∧ R (refD a) b2) (.cons (ar_rf a) (Paired.mapP t1 fun v s h => ArR.step d1 (Kp.ex ex) h)) d2 (k1.trans (Kp.ex ex)) (h1 a no) (fun d b' v H' r kp dk t => by
      obtain ⟨rfl, r⟩ := r
      cases t
      exact ⟨rfl, q _ b' (.ref a) H' r kp dk (.rf a)⟩) z⟩
/-! ### o.m(e, ..), o.m() -/
def mMeth (isC : Addr → Prop) (m : Str) (mf : WFX) (mo : WE) (gs : WG) : WEX := fun E b R Z => mo E b fun d b1 => ∃ a C fs, d = refD a ∧ b1.os a = some (C, fs) ∧ isC C ∧ fs.lookup m = none ∧ gs E b1 fun as b2 => mf (.d d :: as) b2 R fun c s b3 => c ≠ 0 ∧ Z c s b3
theorem lookup_fd {H : Hp} {f : Str} : ∀ {us : List (Str × V)} {fs : List (Str × PyData)}, Paired (FdR H) us fs → (fs.lookup f = none → us.lookup f = none) ∧ ∀ d, fs.lookup f = some d → ∃ v, us.lookup f = some v ∧ Dt H v d
  | _, _, .nil => ⟨fun _ => rfl, fun d h => by cases h⟩
  | (g, v) :: us, (g', d) :: fs, .cons r t => by
    obtain ⟨h1, h2⟩ := lookup_fd (f := f) t
    obtain ⟨hg, hd⟩ := r
    have hg : g = g' := hg
    subst hg
    constructor
    · intro h
      rw [List.lookup_cons] at h ⊢
      cases hb : (f == g) with
      | true => rw [hb] at h; cases h
      | false => rw [hb] at h; exact h1 h
    · intro d' h
      rw [List.lookup_cons] at h ⊢
      cases hb : (f == g) with
      | true => rw [hb] at h; cases h; exact ⟨v, rfl, hd⟩
      | false => rw [hb] at h; exact h2 d' h
def mMeth0 (isC : Addr → Prop) (m : Str) (mf : WFX) (mo : WE) (dds : List PyData) : WEX := fun E b R Z => mo E b fun d b1 => ∃ a C fs, d = refD a ∧ b1.os a = some (C, fs) ∧ isC C ∧ fs.lookup m = none ∧ mf (.d d :: dds.map Sl.d) b1 R fun c s b3 => c ≠ 0 ∧ Z c s b3
/-! ### o.f, o.f = e -/
def mGet (isC : Addr → Prop) (f : Str) (mo : WE) : WE := fun E b R => mo E b fun d b1 => ∃ a C fs u, d = refD a ∧ b1.os a = some (C, fs) ∧ isC C ∧ fs.lookup f = some u ∧ R u b1
theorem pm_get {isC : Addr → Prop} {fl : Str} (ho : PE X o (tE mo)) (hc : ∀ C, isC C → Cls X.K C ∧ NoAttr X.K C fl) (hb : attributeBase o fl X.env (eval o X.env) = eval o X.env := by rfl) : PE X (.Attribute o fl pos) (tE (mGet isC fl mo)) := (pe_fld ho hb).weak fun σ H Q ⟨W, H0, E, b, R, S, hm, k⟩ =>
  ⟨W, H0, E, b, _, S, hm, fun d b1 v H1 h1 k1 d1 t1 => by
    obtain ⟨a, C, fs, u, rfl, os, hC, hl, hr⟩ := h1
    have := t1.rf_inv
    subst this
    obtain ⟨dx, us, hi, hp⟩ := W.obs d1 a C fs os
    obtain ⟨w, hw, hd⟩ := (lookup_fd hp).2 u hl
    exact ⟨a, C, dx, us, w, rfl, hi, (hc C hC).1, (hc C hC).2, hw, k _ b1 w H1 hr k1 d1 hd⟩⟩
def putP (f : Str) (v : PyData) : List (Str × PyData) → List (Str × PyData)
  | [] => [(f, v)]
  | (g, x) :: r => if g = f then (g, v) :: r else (g, x) :: putP f v r
theorem fd_put {H : Hp} {f : Str} {v : V} {d : PyData} (t : Dt H v d) : ∀ {us : List (Str × V)} {fs : List (Str × PyData)}, Paired (FdR H) us fs → Paired (FdR H) (putF f v us) (putP f d fs)
  | _, _, .nil => .cons ⟨rfl, t⟩ .nil
  | (g, x) :: us, (g', y) :: fs, .cons r q => by
    obtain ⟨hg, hd⟩ := r
    have hg : g = g' := hg
    subst hg
    unfold putF putP
    by_cases h : g = f
    · rw [if_pos h, if_pos h]; exact .cons ⟨rfl, t⟩ q
    · rw [if_neg h, if_neg h]; exact .cons ⟨rfl, hd⟩ (fd_put t q)
def mSet (isC : Addr → Prop) (f : Str) (mo me : WE) : WS := fun E b F => me E b fun v b1 => mo E b1 fun d b2 => ∃ a C fs, d = refD a ∧ b2.os a = some (C, fs) ∧ isC C ∧ fs.length < 1000 ∧ F.nx E (b2.put a C (putP f v fs))
theorem Kp.chg {M : Addr → Prop} {H : Hp} {a C dx : Addr} {vs vs' : List (Str × V)} (h : H a = some (.ins C dx vs)) : Kp M H (upd H a (.ins C dx vs')) := ⟨fun p o n i e => by
  rw [upd_ne (fun z => by subst z; rw [h] at e; cases e; cases i)]
  exact e, fun p D dy us e => by
  by_cases z : p = a
  · subst z
    rw [h] at e
    cases e
    exact ⟨vs', upd_same⟩
  · exact ⟨us, by rw [upd_ne z]; exact e⟩⟩
theorem pm_set {isC : Addr → Prop} {fl : Str} {value : Expr} {pos' : Pos} {me : WE} {xw : XW} (ho : PE X o (tE mo)) (hv : PE X value (tE me)) (hc : ∀ C, isC C → Cls X.K C ∧ NoAttr X.K C fl) (hs : swapsWith value (some (.Attribute o fl pos')) pos.line X.env = pure false := by rfl) : PS X (.Assign [.Attribute o fl pos'] value pos) (tS xw (mSet isC fl mo me)) := (ps_fld ho hv hs).weak fun D σ H ⟨W, H0, E, b, F, S, hm, k⟩ =>
  ⟨W, H0, E, b, _, S, hm, fun v b1 y H1 h1 k1 d1 t1 => ⟨W, H0, E, b1, _, S.step k1 d1, h1, fun d b2 x H2 h2 k2 d2 t2 => by
    obtain ⟨a, C, fs, rfl, os, hC, hl, h2⟩ := h2
    have := t2.rf_inv
    subst this
    obtain ⟨dx, us, hi, hp⟩ := W.obs d2 a C fs os
    have lp : ∀ {us : List (Str × V)} {fs : List (Str × PyData)}, Paired (FdR H2) us fs → us.length = fs.length := fun h => h.length
    have fp := fd_put (f := fl) (t1.mono (W.fk d1 k2)) hp
    exact ⟨a, C, dx, us, rfl, hi, (hc C hC).1, (hc C hC).2, by rw [lp hp]; exact hl, k.nx σ _ E _ (((S.step k1 d1).step k2 d2).step (Kp.chg hi) (W.chg d2 ⟨C, dx, us, hi⟩ fp)) h2⟩⟩⟩
end
end Wp

/-! repr in a suite -/
namespace Wp
open PySem PySem.Spec PyProof.Rows L2 Evl
structure XS (X : Cx) : Prop where
  gd : X.A.guards = some []
  un : X.A.units + 64 < cLine
  sm : ∃ o, X.base.get? sysModules = some o
theorem XS.free {X : Cx} (h : XS X) {pins : List (Addr × Obj)} {σ : L2.St} {H : Hp} {s : Shared} (I : Inv X pins σ H s) : H sysModules = none := by
  obtain ⟨o, e⟩ := h.sm
  exact (I.bs _ _ e).2
theorem XO.suite {X : Cx} (h : XO X) (a : Addr) (pn : List (Addr × Obj)) : XS (X.suite a pn) := ⟨h.gd, h.un, h.sm⟩
section
variable {X : Cx} {e a b : Expr} {es : List Expr} {m ma mb : WE} {ms : WL} {pos : Pos}
end
end Wp

/-! l.count(x) -/
namespace Wp
open PySem PySem.Spec PyProof.Rows L2 Evl
def rCnt : V → List V → Hp → VK → Prop := fun x xs H Q => ∃ (W : Wld) (ds : List PyData) (d : PyData) (y : V), xs = [y] ∧ Dq W H x (.list ds) ∧ Dt H y d ∧ PyData.plainAll ds = true ∧ d.plain = true ∧ d.depth ≤ 50 ∧ Q (.int ((ds.countP fun y => PyData.eqv y d : Nat) : Int)) H
/-- l.count(x) -/
def mCnt (ml m : WE) : WE := fun E b R => ml E b fun l b1 => ∃ ds, l = .list ds ∧ m E b1 fun d b2 => (PyData.plainAll ds = true ∧ d.plain = true ∧ d.depth ≤ 50) ∧ R (.int ((ds.countP fun y => PyData.eqv y d : Nat) : Int)) b2
/-- == of two ints, in a suite too -/
def eqI (d e : PyData) (R : PyData → Prop) : Prop := ∃ i j, d = .int i ∧ e = .int j ∧ R (.bool (decide (i = j)))
theorem op_eqI {X : Cx} : OpR X (compareOp .Eq) (rD eqI) := by
  intro pins s σ H x y v u Q I rx ry h
  obtain ⟨W, d, e, R, h1, h2, ⟨i, j, rfl, rfl, hw⟩, k⟩ := h
  obtain rfl := h1.int
  obtain rfl := h2.int
  obtain ⟨t, rfl⟩ := rx
  obtain ⟨t', rfl⟩ := ry
  exact eq_int (by rw [Bool.beq_eq_decide_eq]; exact ⟨.bl _, H, I, rfl, k _ _ H hw (Ex.refl H) (.bl _)⟩)
end Wp

/-! calls that raise nothing where they stand; isinstance of what may be an object; the ends of a law with errors -/
namespace Wp
open PySem PySem.Spec PyProof.Rows L2 Evl
def noW : WX := fun _ _ _ _ => False
theorem takes_never {X : Cx} : Takes X noW := fun u s' ⟨_, _, _, _, _, _, _, _, _, _, _, _, _, _, _, _, w⟩ => w.elim
theorem tS_any {xw : XW} {m : WS} {D : Ends} {σ : L2.St} {H : Hp} (h : tS noX m D σ H) : tS xw m D σ H := by
  obtain ⟨W, H0, E, b, F, S, hm, k⟩ := h
  exact ⟨W, H0, E, b, F, S, hm, ⟨k.nx, k.bk, k.ct, k.rt, fun c d v σ H E b h S t => (k.xx c d v σ H E b h S t).elim⟩⟩
/-- an expression that may raise, where it doesn't -/
def mCalm (m : WEX) : WE := fun E b R => m E b R fun _ _ _ => False
theorem pm_calm {X : Cx} {xc : XC} {e : Expr} {m : WEX} (he : PE X e (tX xc noW m)) : PE X e (tE (mCalm m)) := he.weak fun σ H Q ⟨W, H0, E, b, R, S, hm, k⟩ =>
  ⟨W, H0, E, b, _, _, S, hm, fun d b1 v H1 h1 k1 d1 t1 => k d b1 v H1 h1 k1 d1 t1, fun c s b1 v H1 h1 _ _ _ => h1.elim⟩
/-- what isinstance asks of a class of objects -/
structure InC (K : PySem.W.Frag) (C : Addr) : Prop where
  cl : Cls K C
  ha : PySem.W.findIn K (.ref C) "__class__" = some (some (.builtin "object.__class__"))
  hn : PySem.W.specialIn K (.builtin "object.__class__") "__get__" = some (some (.builtin "getset_descriptor.__get__"))
  ht : PySem.W.takesIn K (.builtin "object.__class__") = some true
  hm : PySem.W.mroIn K C (.type "object") = some true
/-- isinstance(x, c), c a built-in type, x data or an object of a class that is not under c -/
def mIsiR (isC : Addr → Prop) (f : PyData → Bool) (m : WE) : WE := fun E b R => m E b fun d b1 => (isRf d = false ∧ R (.bool (f d)) b1) ∨ ∃ a C fs, d = refD a ∧ b1.os a = some (C, fs) ∧ isC C ∧ R (.bool false) b1
/-- isinstance(x, c), c a class of one's own, x an object -/
def mIsO (isC : Addr → Prop) (f : Addr → Bool) (m : WE) : WE := fun E b R => m E b fun d b1 => ∃ a C fs, d = refD a ∧ b1.os a = some (C, fs) ∧ isC C ∧ R (.bool (f C)) b1
end Wp

/-! for texts that xgen.py writes -/
namespace Wp
open PySem PySem.Spec PyProof.Rows L2 Evl
def clB : Stmt → List Stmt
  | .ClassDef _ _ _ body _ _ _ _ _ _ _ => body
  | _ => []
/-- what a class of errors brings: C(e) may be raised -/
structure ErrC (P : Program) (w : World) (K : PySem.W.Frag) (mg : Str → Option Value) (base : Heap) (x : Str) (C fI : Addr) (fd : FuncData) (p fl : Str) : Prop where
  T : OexC K C
  iC : PySem.W.findIn K (.ref C) "__init__" = some (some (.ref fI))
  tI : PySem.W.typeIn K (.ref fI) = some (.type "function")
  F1 : FnOk P w K mg base CX0 1 fI fd ["self", p] (Cn.spI C fl)
  hb : Binds K fd ["self", p] []
  hm : mg x = some (.ref C)
def ErrE (P : Program) (w : World) (K : PySem.W.Frag) (mg : Str → Option Value) (base : Heap) (x : Str) (C : Addr) (fl : Str) : Prop := ∃ fI fd p, ErrC P w K mg base x C fI fd p fl
theorem pmk_E {X : Cx} {C : Addr} {x fl : Str} {p pos : Pos} {e : Expr} {m : WE} (h : ErrE X.prog X.w X.K X.mg X.base x C fl) (hr : Room 2 X.A) (hg : Gl X x) (he : PE X e (tE m)) (hdb : (x == ("__debug__" : Str)) = false := by decide) (hs : starEach [e] X.env = (false, eval e X.env) :: starEach [] X.env := by rfl) (hpl : (backTo pos (starEach [] X.env)).any (·.1) = false := by rfl) : PMk X (.Call (.Name x p) [e] [] pos) (tMk1 C fl (tE m)) := by
  obtain ⟨fI, fd, q, h⟩ := h
  exact pmk_1 h.T h.iC h.tI h.F1 hr h.hb hg h.hm he hdb hs hpl
def nz (m : WEX) : WEX := fun E b R Z => m E b R fun c s b' => c ≠ 0 ∧ Z c s b'
end Wp

/-! draws from a deck, up to 2 * 10 ** 18 -/
namespace Cn
open PySem PySem.Spec PyProof.Rows L2
def spDrawW : Sp := fun vs H Q _ => ∃ D C m k, vs = [.ref D, .int k] ∧ Deck D C m H ∧ m ≤ 1000000000 ∧ 1 ≤ k ∧ k ≤ 2000000000000000000 ∧ ∀ r H', 0 ≤ r → r < k → Kp D C H H' → Deck D C (m + 1) H' → Q (.int r) H'
end Cn
namespace Wp
open PySem PySem.Spec PyProof.Rows L2 Evl
def mDrawW : WF := fun as b R => match as with
  | [.s 1, .d (.int k)] => (b.n ≤ 1000000000 ∧ 1 ≤ k ∧ k ≤ 2000000000000000000) ∧ ∀ r : Int, 0 ≤ r → r < k → R (.int r) b.tick
  | _ => False
theorem drawW_of {vs : List V} {H : Hp} {Q : VK} {E : XK} (h : spOf mDrawW vs H Q E) : Cn.spDrawW vs H Q E := by
  obtain ⟨W, as, b, R, ar, dk, hm, k⟩ := h
  unfold mDrawW at hm
  split at hm
  · cases ar with
    | cons a1 r =>
      cases r with
      | cons a2 r =>
        cases r
        obtain ⟨rfl, hk⟩ := a1
        have a2 : Dt H _ (.int _) := a2
        cases a2
        have ik := W.isK
        rw [hk] at ik
        obtain ⟨C, hM, hD⟩ := ik
        obtain ⟨⟨b1, k1, k2⟩, hr⟩ := hm
        have dk' := (hD b H).mp dk
        have ml : ∀ a, W.M a → ∃ xs, H a = some (.lst xs) := fun a z => W.lst z dk
        refine ⟨W.root, C, b.n, _, rfl, dk'.1, by omega, k1, k2, fun r H' r0 r1 kp d' => ?_⟩
        have all : ∀ a o, ¬ W.M a → H a = some o → H' a = some o := fun a o na e => kp a o (fun z => na ((hM a).mpr (.inl z))) (fun z => na ((hM a).mpr (.inr z))) e
        refine k _ b.tick _ H' (hr r r0 r1) (Kp.all all ml) ((hD _ H').mpr ⟨by simpa [Bt.tick] using d', Obs.all all ml dk'.2⟩) (.int r)
  · exact hm.elim
theorem mDrawW_at {k : Int} {b : Bt} {R : PyData → Bt → Prop} (hb : b.n ≤ 1000000000) (h1 : 1 ≤ k) (h2 : k ≤ 2000000000000000000) (q : ∀ r : Int, 0 ≤ r → r < k → R (.int r) b.tick) : mDrawW [.s 1, .d (.int k)] b R := ⟨⟨hb, h1, h2⟩, q⟩
end Wp

namespace Wp
open PySem PySem.Spec PyProof.Rows L2 Evl
/-! ### models, reasoned with -/
section
variable {R : PyData → Prop}
theorem pow6 : powW (.int 10) (.int 6) R = R (.int 1000000) := propext ⟨fun h => h.2, fun h => ⟨by decide, h⟩⟩
theorem pow9 : powW (.int 10) (.int 9) R = R (.int 1000000000) := propext ⟨fun h => h.2, fun h => ⟨by decide, h⟩⟩
theorem pow7 : powW (.int 10) (.int 7) R = R (.int 10000000) := propext ⟨fun h => h.2, fun h => ⟨by decide, h⟩⟩
theorem pow15 : powW (.int 10) (.int 15) R = R (.int 1000000000000000) := propext ⟨fun h => h.2, fun h => ⟨by decide, h⟩⟩
theorem pow18 : powW (.int 10) (.int 18) R = R (.int 1000000000000000000) := propext ⟨fun h => h.2, fun h => ⟨by decide, h⟩⟩
theorem pow39 : powW (.int 10) (.int 39) R = R (.int 1000000000000000000000000000000000000000) := propext ⟨fun h => h.2, fun h => ⟨by decide, h⟩⟩
end
section
variable {R : PyData → Prop} {i j : Int} {x y : Str} {c c' : Bool} {xs ys ds : List PyData} {d e : PyData} {lo hi : Option Int} {Q : List PyData → Prop}
theorem addW_ii : addW (.int i) (.int j) R = R (.int (i + j)) := rfl
theorem addW_ib : addW (.int i) (.bool c) R = R (.int (i + b2z c)) := rfl
theorem addW_bi : addW (.bool c) (.int j) R = R (.int (b2z c + j)) := rfl
theorem addW_tt : addW (.tuple xs) (.tuple ys) R = (xs.length + ys.length ≤ 100000 ∧ R (.tuple (xs ++ ys))) := rfl
theorem addW_ll : addW (.list xs) (.list ys) R = (xs.length + ys.length ≤ 100000 ∧ R (.list (xs ++ ys))) := rfl
theorem subW_ii : subW (.int i) (.int j) R = R (.int (i - j)) := rfl
theorem subW_ib : subW (.int i) (.bool c) R = R (.int (i - b2z c)) := rfl
theorem subW_bi : subW (.bool c) (.int j) R = R (.int (b2z c - j)) := rfl
theorem mulW_ii : mulW (.int i) (.int j) R = (CMul i j ∧ R (.int (i * j))) := rfl
theorem fdivW_ii : fdivW (.int i) (.int j) R = ((0 < j ∧ j < 4611686018427387904) ∧ R (.int (i / j))) := rfl
theorem modW_ii : modW (.int i) (.int j) R = (0 < j ∧ R (.int (i % j))) := rfl
theorem negW_i : negW (.int i) R = R (.int (-i)) := rfl
theorem eqW_ii : eqW (.int i) (.int j) R = R (.bool (decide (i = j))) := rfl
theorem eqW_ss : eqW (.str x) (.str y) R = R (.bool (decide (x = y))) := rfl
theorem eqW_t0 : eqW (.tuple ds) (.tuple []) R = R (.bool ds.isEmpty) := rfl
theorem eqW_l0 : eqW (.list ds) (.list []) R = R (.bool ds.isEmpty) := rfl
theorem neW_ii : neW (.int i) (.int j) R = R (.bool (!decide (i = j))) := rfl
theorem neW_ss : neW (.str x) (.str y) R = R (.bool (!decide (x = y))) := rfl
theorem neW_t0 : neW (.tuple ds) (.tuple []) R = R (.bool (!ds.isEmpty)) := rfl
theorem neW_l0 : neW (.list ds) (.list []) R = R (.bool (!ds.isEmpty)) := rfl
theorem ltW_ii : ltW (.int i) (.int j) R = R (.bool (decide (i < j))) := rfl
theorem leW_ii : leW (.int i) (.int j) R = R (.bool (decide (i ≤ j))) := rfl
theorem gtW_ii : gtW (.int i) (.int j) R = R (.bool (decide (j < i))) := rfl
theorem geW_ii : geW (.int i) (.int j) R = R (.bool (decide (j ≤ i))) := rfl
theorem isW_n : isW d .none R = R (.bool (isNn d)) := rfl
theorem isntW_n : isntW d .none R = R (.bool (!isNn d)) := rfl
theorem ixW_l : ixW (.list xs) (.int i) R = ∃ z, L2.atI xs i = some z ∧ R z := rfl
theorem ixW_t : ixW (.tuple xs) (.int i) R = ∃ z, L2.atI xs i = some z ∧ R z := rfl
theorem lenW_l : lenW [.list xs] R = R (.int xs.length) := rfl
theorem lenW_t : lenW [.tuple xs] R = R (.int xs.length) := rfl
theorem absW_i : absW [.int i] R = R (.int (if i < 0 then -i else i)) := rfl
theorem intW_i : intW [.int i] R = R (.int i) := rfl
theorem intW_b : intW [.bool c] R = R (.int (if c then 1 else 0)) := rfl
theorem tupW_l : tupW [.list xs] R = R (.tuple xs) := rfl
theorem tupW_t : tupW [.tuple xs] R = R (.tuple xs) := rfl
theorem lstW_l : lstW [.list xs] Q = Q xs := rfl
theorem lstW_t : lstW [.tuple xs] Q = Q xs := rfl
theorem sumW_l : sumW [.list xs] R = ∃ ns : List Int, xs = ns.map PyData.int ∧ R (.int ns.sum) := rfl
theorem allW_l : allW [.list xs] R = ∃ bs : List Bool, xs = bs.map PyData.bool ∧ R (.bool (bs.all id)) := rfl
theorem anyW_l : anyW [.list xs] R = ∃ bs : List Bool, xs = bs.map PyData.bool ∧ R (.bool (bs.any id)) := rfl
theorem minW_2 : minW [.int i, .int j] R = R (.int (if j < i then j else i)) := rfl
theorem maxW_2 : maxW [.int i, .int j] R = R (.int (if j > i then j else i)) := rfl
theorem slW_t : slW (.tuple xs) lo hi R = R (.tuple (cutD xs lo hi)) := rfl
theorem slW_l : slW (.list xs) lo hi R = R (.list (cutD xs lo hi)) := rfl
theorem revW_t : revW (.tuple xs) R = R (.tuple xs.reverse) := rfl
theorem revW_l : revW (.list xs) R = R (.list xs.reverse) := rfl
theorem reprW_1 : reprW [d] R = ((d.showable = true ∧ d.shown.length ≤ 1000000 ∧ d.depth ≤ 50) ∧ R (.str d.shown)) := rfl
theorem strW_i : strW [.int i] R = (i.natAbs.log2 < 1920 ∧ R (.str (toString i))) := rfl
theorem strW_b : strW [.bool c] R = R (.str (if c then "True" else "False")) := rfl
theorem sortW_l : sortW [.list xs] Q = (okSrt xs ∧ Q (srt xs)) := rfl
theorem sortW_t : sortW [.tuple xs] Q = (okSrt xs ∧ Q (srt xs)) := rfl
end
theorem atI_of {α : Type} {l : List α} {r : Int} (h0 : 0 ≤ r) (h1 : r < l.length) : ∃ z, L2.atI l r = some z ∧ z ∈ l := by
  obtain ⟨j, rfl⟩ : ∃ j : Nat, r = j := ⟨r.toNat, by omega⟩
  have hj : j < l.length := by omega
  exact ⟨l[j], atI_nat (List.getElem?_eq_getElem hj), List.getElem_mem hj⟩
/-- [..][drawn], ints -/
theorem pick_int {l : List PyData} {r : Int} {Q : PyData → Prop} (is : List Int) (hl : l = is.map PyData.int) (h0 : 0 ≤ r) (h1 : r < is.length) (q : ∀ i ∈ is, Q (.int i)) : ∃ z, L2.atI l r = some z ∧ Q z := by
  obtain ⟨z, h2, h3⟩ := atI_of (l := l) h0 (by rw [hl, List.length_map]; exact h1)
  rw [hl] at h3
  obtain ⟨i, hi, rfl⟩ := List.mem_map.mp h3
  exact ⟨_, h2, q i hi⟩
/-! comprehensions -/
section
variable {t : WG1} {mt : WT} {ml : WE} {E : Env}
end
def fstD : PyData → PyData
  | .tuple [p, _] => p
  | _ => .none
def sndD : PyData → PyData
  | .tuple [_, p] => p
  | _ => .none
/-! gardens -/
abbrev Bed := Int × Int
def bedD (b : Bed) : PyData := .tuple [.int b.1, .int b.2]
def bedsD (bs : List Bed) : PyData := .tuple (bs.map bedD)
def gardenD (t c : Int) (bs : List Bed) : PyData := .tuple [.int t, .int c, bedsD bs]
end Wp

namespace Wp
open PySem PySem.Spec PyProof.Rows L2 Evl
/-! ### one step of a model -/

theorem mV_e {i : Nat} {E : Env} {b : Bt} {R : PyData → Bt → Prop} : mV i E b R = (match E[i]? with
  | some (.d d) => R d b
  | _ => False) := propext Iff.rfl
theorem mC_e {d : PyData} {E : Env} {b : Bt} {R : PyData → Bt → Prop} : mC d E b R = (R d b) := propext Iff.rfl
theorem mO_e {i : Nat} {E : Env} {b : Bt} {R : PyData → Bt → Prop} : mO i E b R = (match E[i]? with
  | some (.l ds) => R (.list ds) b
  | some (.rl ds) => R (.list ds) b
  | _ => False) := propext Iff.rfl
theorem mOp_e {w : W2} {ma mb : WE} {E : Env} {b : Bt} {R : PyData → Bt → Prop} : mOp w ma mb E b R = (ma E b fun x b1 => mb E b1 fun y b2 => w x y fun z => R z b2) := propext Iff.rfl
theorem mUn_e {w : W1} {ma : WE} {E : Env} {b : Bt} {R : PyData → Bt → Prop} : mUn w ma E b R = (ma E b fun x b1 => w x fun z => R z b1) := propext Iff.rfl
theorem mT_e {m : WE} {E : Env} {b : Bt} {R : Bool → Bt → Prop} : mT m E b R = (m E b fun d b1 => match d with
  | .bool c => R c b1
  | _ => False) := propext Iff.rfl
theorem mNotT_e {m : WT} {E : Env} {b : Bt} {R : Bool → Bt → Prop} : mNotT m E b R = (m E b fun c b1 => R (!c) b1) := propext Iff.rfl
theorem mAndT_e {m n : WT} {E : Env} {b : Bt} {R : Bool → Bt → Prop} : mAndT m n E b R = (m E b fun c b1 => if c = true then n E b1 R else R false b1) := propext Iff.rfl
theorem mOrT_e {m n : WT} {E : Env} {b : Bt} {R : Bool → Bt → Prop} : mOrT m n E b R = (m E b fun c b1 => if c = true then R true b1 else n E b1 R) := propext Iff.rfl
theorem mAnd_e {m n : WE} {E : Env} {b : Bt} {R : PyData → Bt → Prop} : mAnd m n E b R = (m E b fun d b1 => match d with
  | .bool true => n E b1 R
  | .bool false => R (.bool false) b1
  | _ => False) := propext Iff.rfl
theorem mOr_e {m n : WE} {E : Env} {b : Bt} {R : PyData → Bt → Prop} : mOr m n E b R = (m E b fun d b1 => match d with
  | .bool true => R (.bool true) b1
  | .bool false => n E b1 R
  | _ => False) := propext Iff.rfl
theorem mNot_e {m : WE} {E : Env} {b : Bt} {R : PyData → Bt → Prop} : mNot m E b R = (m E b fun d b1 => match d with
  | .bool c => R (.bool (!c)) b1
  | _ => False) := propext Iff.rfl
theorem mIf_e {c : WT} {m n : WE} {E : Env} {b : Bt} {R : PyData → Bt → Prop} : mIf c m n E b R = (c E b fun c b1 => if c = true then m E b1 R else n E b1 R) := propext Iff.rfl
theorem mChain_e {w w' : W2} {ma mb mc : WE} {E : Env} {b : Bt} {R : PyData → Bt → Prop} : mChain w w' ma mb mc E b R = (ma E b fun x b1 => mb E b1 fun y b2 => w x y fun z => match z with
  | .bool true => mc E b2 fun u b3 => w' y u fun z => R z b3
  | .bool false => R (.bool false) b2
  | _ => False) := propext Iff.rfl
theorem mNil_e {E : Env} {b : Bt} {R : List PyData → Bt → Prop} : mNil E b R = (R [] b) := propext Iff.rfl
theorem mCons_e {m : WE} {ms : WL} {E : Env} {b : Bt} {R : List PyData → Bt → Prop} : mCons m ms E b R = (m E b fun d b1 => ms E b1 fun ds b2 => R (d :: ds) b2) := propext Iff.rfl
theorem mTup_e {ms : WL} {E : Env} {b : Bt} {R : PyData → Bt → Prop} : mTup ms E b R = (ms E b fun ds b1 => ds.length ≤ 100000 ∧ R (.tuple ds) b1) := propext Iff.rfl
theorem mLst_e {ms : WL} {E : Env} {b : Bt} {R : List PyData → Bt → Prop} : mLst ms E b R = (ms E b fun ds b1 => ds.length ≤ 100000 ∧ R ds b1) := propext Iff.rfl
theorem mLk_e {m : WL} {E : Env} {b : Bt} {R : PyData → Bt → Prop} : mLk m E b R = (m E b fun ds b1 => R (.list ds) b1) := propext Iff.rfl
theorem mCat_e {ma mb : WE} {E : Env} {b : Bt} {R : List PyData → Bt → Prop} : mCat ma mb E b R = (ma E b fun x b1 => mb E b1 fun y b2 => match x, y with
  | .list xs, .list ys => xs.length + ys.length ≤ 100000 ∧ R (xs ++ ys) b2
  | _, _ => False) := propext Iff.rfl
theorem mCB_e {w : WB} {ms : WL} {E : Env} {b : Bt} {R : PyData → Bt → Prop} : mCB w ms E b R = (ms E b fun ds b1 => w ds fun z => R z b1) := propext Iff.rfl
theorem mCL_e {w : WBL} {ms : WL} {E : Env} {b : Bt} {R : List PyData → Bt → Prop} : mCL w ms E b R = (ms E b fun ds b1 => w ds fun z => R z b1) := propext Iff.rfl
theorem vD_e {m : WE} {E : Env} {b : Bt} {R : Sl → Bt → Prop} : vD m E b R = (m E b fun d b1 => R (.d d) b1) := propext Iff.rfl
theorem vL_e {m : WL} {E : Env} {b : Bt} {R : Sl → Bt → Prop} : vL m E b R = (m E b fun ds b1 => R (.l ds) b1) := propext Iff.rfl
theorem vM0_e {E : Env} {b : Bt} {R : Sl → Bt → Prop} : vM0 E b R = (R (.m []) b) := propext Iff.rfl
theorem mSkip_e {E : Env} {b : Bt} {F : WEnds} : mSkip E b F = (F.nx E b) := propext Iff.rfl
theorem mSeq_e {m n : WS} {E : Env} {b : Bt} {F : WEnds} : mSeq m n E b F = (m E b { F with nx := fun E' b' => n E' b' F }) := propext Iff.rfl
theorem mAsg_e {i : Nat} {m : WV} {E : Env} {b : Bt} {F : WEnds} : mAsg i m E b F = (m E b fun s b1 => F.nx (E.set i s) b1) := propext Iff.rfl
theorem mRet_e {m : WE} {E : Env} {b : Bt} {F : WEnds} : mRet m E b F = (m E b F.rt) := propext Iff.rfl
theorem mIfS_e {c : WT} {m n : WS} {E : Env} {b : Bt} {F : WEnds} : mIfS c m n E b F = (c E b fun c b1 => if c = true then m E b1 F else n E b1 F) := propext Iff.rfl
theorem mDrop_e {m : WE} {E : Env} {b : Bt} {F : WEnds} : mDrop m E b F = (m E b fun _ b1 => F.nx E b1) := propext Iff.rfl
theorem vNil_e {E : Env} {b : Bt} {R : List Sl → Bt → Prop} : vNil E b R = (R [] b) := propext Iff.rfl
theorem vCons_e {m : WV} {ms : WVs} {E : Env} {b : Bt} {R : List Sl → Bt → Prop} : vCons m ms E b R = (m E b fun s b1 => ms E b1 fun ss b2 => R (s :: ss) b2) := propext Iff.rfl
theorem mPar_e {is : List Nat} {ms : WVs} {E : Env} {b : Bt} {F : WEnds} : mPar is ms E b F = (ms E b fun ss b1 => ss.length = is.length ∧ F.nx (enAll is ss E) b1) := propext Iff.rfl
theorem bName_e {i : Nat} {x : PyData} {E : Env} {R : Env → Prop} : bName i x E R = (R (E.set i (.d x))) := propext Iff.rfl
theorem bTup_e {n : Nat} {t : WGs} {x : PyData} {E : Env} {R : Env → Prop} : bTup n t x E R = (match x with
  | .tuple xs => xs.length = n ∧ t xs E R
  | _ => False) := propext Iff.rfl
theorem bNil_e {xs : List PyData} {E : Env} {R : Env → Prop} : bNil xs E R = (match xs with
  | [] => R E
  | _ => False) := propext Iff.rfl
theorem bCons_e {t : WG1} {u : WGs} {xs : List PyData} {E : Env} {R : Env → Prop} : bCons t u xs E R = (match xs with
  | x :: r => t x E fun E1 => u r E1 R
  | [] => False) := propext Iff.rfl
theorem mUnp_e {t : WG1} {m : WE} {E : Env} {b : Bt} {F : WEnds} : mUnp t m E b F = (m E b fun d b1 => t d E fun E1 => F.nx E1 b1) := propext Iff.rfl
theorem mFor_e {t : WG1} {me : WE} {m : WS} {E : Env} {b : Bt} {F : WEnds} : mFor t me m E b F = (me E b fun d b1 => match d with
  | .list xs => mTurns t m xs E b1 F
  | .tuple xs => mTurns t m xs E b1 F
  | _ => False) := propext Iff.rfl
theorem mForR_e {t : WG1} {ms : WL} {m : WS} {E : Env} {b : Bt} {F : WEnds} : mForR t ms m E b F = (ms E b fun ds b1 => match ds with
  | [.int j] => (-(2 ^ 62) ≤ j ∧ j < 2 ^ 62) ∧ mTurns t m (rngD 0 j.toNat) E b1 F
  | _ => False) := propext Iff.rfl
theorem mForR2_e {t : WG1} {ms : WL} {m : WS} {E : Env} {b : Bt} {F : WEnds} : mForR2 t ms m E b F = (ms E b fun ds b1 => match ds with
  | [.int i, .int j] => (-(2 ^ 62) ≤ i ∧ i < 2 ^ 62 ∧ -(2 ^ 62) ≤ j ∧ j < 2 ^ 62) ∧ mTurns t m (rngD i (j - i).toNat) E b1 F
  | _ => False) := propext Iff.rfl
theorem mApp_e {i : Nat} {m : WE} {E : Env} {b : Bt} {F : WEnds} : mApp i m E b F = (match E[i]? with
  | some (.l ds) => m E b fun d b1 => ds.length < 100000 ∧ F.nx (E.set i (.l (ds ++ [d]))) b1
  | _ => False) := propext Iff.rfl
theorem mYes_e {E : Env} {b : Bt} {R : Bool → Bt → Prop} : mYes E b R = (R true b) := propext Iff.rfl
theorem mLc_e {t : WG1} {me : WE} {mt : WT} {ml : WE} {vs : List Nat} {E : Env} {b : Bt} {R : List PyData → Bt → Prop} : mLc t me mt ml vs E b R = (me E b fun d b1 => match d with
  | .list xs => mComp t mt ml (wipeE E vs) xs [] b1 R
  | .tuple xs => mComp t mt ml (wipeE E vs) xs [] b1 R
  | _ => False) := propext Iff.rfl
theorem mLcR_e {t : WG1} {ms : WL} {mt : WT} {ml : WE} {vs : List Nat} {E : Env} {b : Bt} {R : List PyData → Bt → Prop} : mLcR t ms mt ml vs E b R = (ms E b fun ds b1 => match ds with
  | [.int j] => (-(2 ^ 62) ≤ j ∧ j < 2 ^ 62) ∧ mComp t mt ml (wipeE E vs) (rngD 0 j.toNat) [] b1 R
  | _ => False) := propext Iff.rfl
theorem mLcR2_e {t : WG1} {ms : WL} {mt : WT} {ml : WE} {vs : List Nat} {E : Env} {b : Bt} {R : List PyData → Bt → Prop} : mLcR2 t ms mt ml vs E b R = (ms E b fun ds b1 => match ds with
  | [.int i, .int j] => (-(2 ^ 62) ≤ i ∧ i < 2 ^ 62 ∧ -(2 ^ 62) ≤ j ∧ j < 2 ^ 62) ∧ mComp t mt ml (wipeE E vs) (rngD i (j - i).toNat) [] b1 R
  | _ => False) := propext Iff.rfl
theorem mLcZ_e {t : WG1} {ms : WL} {mt : WT} {ml : WE} {vs : List Nat} {E : Env} {b : Bt} {R : List PyData → Bt → Prop} : mLcZ t ms mt ml vs E b R = (ms E b fun ds b1 => match ds with
  | [.list xs, .list ys] => mComp t mt ml (wipeE E vs) (zipD xs ys) [] b1 R
  | _ => False) := propext Iff.rfl
theorem gNo_e {E : Env} {b : Bt} {R : List Sl → Bt → Prop} : gNo E b R = (R [] b) := propext Iff.rfl
theorem gE_e {m : WE} {ms : WG} {E : Env} {b : Bt} {R : List Sl → Bt → Prop} : gE m ms E b R = (m E b fun d b1 => ms E b1 fun ss b2 => R (.d d :: ss) b2) := propext Iff.rfl
theorem gO_e {i : Nat} {ms : WG} {E : Env} {b : Bt} {R : List Sl → Bt → Prop} : gO i ms E b R = (match E[i]? with
  | some (.l ds) => ms E b fun ss b2 => R (.rl ds :: ss) b2
  | some (.rl ds) => ms E b fun ss b2 => R (.rl ds :: ss) b2
  | some (.m ds) => ms E b fun ss b2 => R (.rm ds :: ss) b2
  | some (.rm ds) => ms E b fun ss b2 => R (.rm ds :: ss) b2
  | some (.s k) => ms E b fun ss b2 => R (.s k :: ss) b2
  | _ => False) := propext Iff.rfl
theorem mCall_e {mf : WF} {ms : WG} {E : Env} {b : Bt} {R : PyData → Bt → Prop} : mCall mf ms E b R = (ms E b fun ss b1 => mf ss b1 R) := propext Iff.rfl
theorem mFn_e {np n : Nat} {mb : WS} {as : List Sl} {b : Bt} {R : PyData → Bt → Prop} : mFn np n mb as b R = (as.length = np ∧ mb (as ++ List.replicate (n - np) .no) b { nx := fun _ b' => R .none b', rt := R }) := propext Iff.rfl
theorem mIsi_e {f : PyData → Bool} {m : WE} {E : Env} {b : Bt} {R : PyData → Bt → Prop} : mIsi f m E b R = (m E b fun d b1 => isRf d = false ∧ R (.bool (f d)) b1) := propext Iff.rfl
theorem mSS_e {m : WE} {E : Env} {b : Bt} {R : List PyData → Bt → Prop} : mSS m E b R = (m E b fun d b1 => match d with
  | .list xs => ∃ ns : List Int, xs = ns.map PyData.int ∧ ns.length < 64 ∧ R ((Cn.sortU ns).map PyData.int) b1
  | _ => False) := propext Iff.rfl
theorem mNo_e {E : Env} {b : Bt} {R : Option Int → Bt → Prop} : mNo E b R = (R none b) := propext Iff.rfl
theorem mPt_e {m : WE} {E : Env} {b : Bt} {R : Option Int → Bt → Prop} : mPt m E b R = (m E b fun d b1 => match d with
  | .int i => R (some i) b1
  | _ => False) := propext Iff.rfl
theorem mSl_e {m : WE} {lo hi : WO} {E : Env} {b : Bt} {R : PyData → Bt → Prop} : mSl m lo hi E b R = (m E b fun d b1 => lo E b1 fun l b2 => hi E b2 fun u b3 => slW d l u fun z => R z b3) := propext Iff.rfl
theorem mDG_e {i : Nat} {mk : WE} {E : Env} {b : Bt} {R : PyData → Bt → Prop} : mDG i mk E b R = (∃ s ds, E[i]? = some s ∧ asM s = some ds ∧ mk E b fun d b1 => ∃ k v, dKey d = some k ∧ lookD ds k = some v ∧ R v b1) := propext Iff.rfl
theorem mDGd_e {i : Nat} {mk mx : WE} {E : Env} {b : Bt} {R : PyData → Bt → Prop} : mDGd i mk mx E b R = (∃ s ds, E[i]? = some s ∧ asM s = some ds ∧ mk E b fun d b1 => mx E b1 fun x b2 => ∃ k, dKey d = some k ∧ R ((lookD ds k).getD x) b2) := propext Iff.rfl
theorem mDIn_e {i : Nat} {mk : WE} {E : Env} {b : Bt} {R : PyData → Bt → Prop} : mDIn i mk E b R = (∃ s ds, E[i]? = some s ∧ asM s = some ds ∧ mk E b fun d b1 => ∃ k, dKey d = some k ∧ R (.bool (lookD ds k).isSome) b1) := propext Iff.rfl
theorem mPut_e {i : Nat} {mk mv : WE} {E : Env} {b : Bt} {F : WEnds} : mPut i mk mv E b F = (∃ ds, E[i]? = some (.m ds) ∧ mv E b fun v b1 => mk E b1 fun d b2 => ∃ k, dKey d = some k ∧ ds.length < 100000 ∧ F.nx (E.set i (.m (putD ds k v))) b2) := propext Iff.rfl
theorem mSD_e {i : Nat} {E : Env} {b : Bt} {R : List PyData → Bt → Prop} : mSD i E b R = (∃ s ds, E[i]? = some s ∧ asM s = some ds ∧ ∃ ks : List Int, ds.map (·.1) = ks.map Sum.inl ∧ ks.length < 64 ∧ ∀ ys : List Int, ys.Perm ks → ys.Pairwise (· ≤ ·) → R (ys.map PyData.int) b) := propext Iff.rfl
theorem mRetO_e {i : Nat} {E : Env} {b : Bt} {F : WEnds} : mRetO i E b F = (match E[i]? with
  | some (.l ds) => F.rt (.list ds) b
  | _ => False) := propext Iff.rfl
theorem vDof_e {m : WE} {E : Env} {b : Bt} {R : Sl → Bt → Prop} : vDof m E b R = (m E b fun d b1 => match d with
  | .tuple ds => ∃ kvs : List (Key × PyData), ds.map pairK = kvs.map some ∧ R (.m (mergeD [] kvs)) b1
  | _ => False) := propext Iff.rfl
theorem mForZ_e {t : WG1} {ms : WL} {m : WS} {E : Env} {b : Bt} {F : WEnds} : mForZ t ms m E b F = (ms E b fun ds b1 => match ds with
  | [.list xs, .list ys] => mTurns t m (zipD xs ys) E b1 F
  | _ => False) := propext Iff.rfl
theorem mNG_e {i : Nat} {mk : WE} {E : Env} {b : Bt} {R : PyData → Bt → Prop} : mNG i mk E b R = (∃ s ds, E[i]? = some s ∧ asN s = some ds ∧ mk E b fun d b1 => ∃ ks v, d = (NestedKey.tup ks).data ∧ kOk (.tup ks) ∧ lookN ds (.tup ks) = some v ∧ R v b1) := propext Iff.rfl
theorem mNGd_e {i : Nat} {mk mx : WE} {E : Env} {b : Bt} {R : PyData → Bt → Prop} : mNGd i mk mx E b R = (∃ s ds, E[i]? = some s ∧ asN s = some ds ∧ mk E b fun d b1 => mx E b1 fun x b2 => ∃ ks, d = (NestedKey.tup ks).data ∧ kOk (.tup ks) ∧ R ((lookN ds (.tup ks)).getD x) b2) := propext Iff.rfl
theorem mNPut_e {i : Nat} {mk mv : WE} {E : Env} {b : Bt} {F : WEnds} : mNPut i mk mv E b F = (∃ ds, E[i]? = some (.n ds) ∧ mv E b fun v b1 => mk E b1 fun d b2 => ∃ ks, d = (NestedKey.tup ks).data ∧ kOk (.tup ks) ∧ ds.length < 100000 ∧ F.nx (E.set i (.n (putN ds (.tup ks) v))) b2) := propext Iff.rfl
theorem vN0_e {E : Env} {b : Bt} {R : Sl → Bt → Prop} : vN0 E b R = (R (.n []) b) := propext Iff.rfl
theorem mLcN_e {t : WG1} {i : Nat} {mt : WT} {ml : WE} {vs : List Nat} {E : Env} {b : Bt} {R : List PyData → Bt → Prop} : mLcN t i mt ml vs E b R = (∃ s ds, E[i]? = some s ∧ asN s = some ds ∧ mComp t mt ml (wipeE E vs) (ds.map fun p => p.1.data) [] b R) := propext Iff.rfl
theorem mDGL_e {i : Nat} {mk : WE} {E : Env} {b : Bt} {R : PyData → Bt → Prop} : mDGL i mk E b R = (∃ ds, E[i]? = some (.d (dicD ds)) ∧ mk E b fun d b1 => ∃ k v, dKey d = some k ∧ lookD ds k = some v ∧ R v b1) := propext Iff.rfl
theorem mForD_e {t : WG1} {i : Nat} {m : WS} {E : Env} {b : Bt} {F : WEnds} : mForD t i m E b F = (∃ ds, E[i]? = some (.m ds) ∧ mTurns t m (ds.map fun p => keyD p.1) (E.set i (.d (dicD ds))) b F) := propext Iff.rfl
theorem mLc2_e {t : WG1} {me : WE} {mt : WT} {t1 : WG1} {me1 : WE} {mt1 : WT} {ml : WE} {vs vs1 : List Nat} {E : Env} {b : Bt} {R : List PyData → Bt → Prop} : mLc2 t me mt t1 me1 mt1 ml vs vs1 E b R = (me E b fun d b1 => ∃ xs, itemsOf d = some xs ∧ mComp2 t mt me1 t1 mt1 ml vs1 (wipeE E vs) xs [] b1 R) := propext Iff.rfl
theorem mForZT_e {t : WG1} {ms : WL} {m : WS} {E : Env} {b : Bt} {F : WEnds} : mForZT t ms m E b F = (ms E b fun ds b1 => match ds with
  | [.tuple xs, .tuple ys] => mTurns t m (zipD xs ys) E b1 F
  | _ => False) := propext Iff.rfl
theorem mRep_e {ml : WL} {mk : WE} {E : Env} {b : Bt} {R : List PyData → Bt → Prop} : mRep ml mk E b R = (ml E b fun xs b1 => mk E b1 fun d b2 => match d with
  | .int k => (-(2 ^ 62) ≤ k ∧ k < 2 ^ 62 ∧ xs.length * k.toNat ≤ 100000) ∧ R (List.replicate k.toNat xs).flatten b2
  | _ => False) := propext Iff.rfl
theorem mExt_e {i : Nat} {m : WL} {E : Env} {b : Bt} {F : WEnds} : mExt i m E b F = (∃ ds, E[i]? = some (.l ds) ∧ m E b fun es b1 => ds.length + es.length ≤ 100000 ∧ F.nx (E.set i (.l (ds ++ es))) b1) := propext Iff.rfl
theorem bUnl_e {n : Nat} {t : WGs} {x : PyData} {E : Env} {R : Env → Prop} : bUnl n t x E R = (match x with
  | .list xs => xs.length = n ∧ t xs E R
  | _ => False) := propext Iff.rfl
theorem mLcR3_e {t : WG1} {ms : WL} {mt : WT} {ml : WE} {vs : List Nat} {E : Env} {b : Bt} {R : List PyData → Bt → Prop} : mLcR3 t ms mt ml vs E b R = (ms E b fun ds b1 => match ds with
  | [.int i, .int j, .int c] => ∃ n, RgC i j c n ∧ mComp t mt ml (wipeE E vs) (rngC i c n) [] b1 R
  | _ => False) := propext Iff.rfl
theorem mIfT_e {mc mta mtb : WT} {E : Env} {b : Bt} {R : Bool → Bt → Prop} : mIfT mc mta mtb E b R = (mc E b fun c b1 => if c = true then mta E b1 R else mtb E b1 R) := propext Iff.rfl
theorem mLZ_e {ms : WL} {E : Env} {b : Bt} {R : List PyData → Bt → Prop} : mLZ ms E b R = (ms E b fun ds b1 => match ds with
  | [.tuple xs, .tuple ys] => xs.length = ys.length ∧ R (zipD xs ys) b1
  | _ => False) := propext Iff.rfl
end Wp

/-! one step of a model, with errors and objects -/
namespace Wp
open PySem PySem.Spec PyProof.Rows L2 Evl
section
variable {E : Env} {b : Bt} {F : WEnds} {R : PyData → Bt → Prop} {Rs : Sl → Bt → Prop} {Z : Nat → Sl → Bt → Prop} {Rg : List Sl → Bt → Prop}
theorem mTry_e {xc : XC} {n i : Nat} {cap : Nat → Bool} {mb : WS} {ms : Addr → Addr → Nat → WS} : mTry xc n i cap mb ms E b F = mb E b { F with xx := fun c s E1 b1 => match c with
  | 0 => F.xx 0 s E1 b1
  | c + 1 => c < n ∧ if cap c = true then (if (xc c).2 = "" then ∀ a dd, ms a dd c (E1.set i (.r a)) b1 { nx := fun E2 b2 => F.nx (E2.set i .no) b2, rt := F.rt, bk := fun E2 b2 => F.bk (E2.set i .no) b2, ct := fun E2 b2 => F.ct (E2.set i .no) b2 } else ∃ d, s = .d d ∧ ∀ a dd, ms a dd c (E1.set i (.x a dd (xc c).2 d c)) b1 { nx := fun E2 b2 => F.nx (E2.set i .no) b2, rt := F.rt, bk := fun E2 b2 => F.bk (E2.set i .no) b2, ct := fun E2 b2 => F.ct (E2.set i .no) b2 }) else F.xx (c + 1) s E1 b1 } := propext Iff.rfl
theorem mRaise0_e {c : Nat} : mRaise0 c E b F = F.xx (c + 1) (.d .none) E b := rfl
theorem mRaise_e {c : Nat} {m : WE} : mRaise c m E b F = m E b fun d b1 => F.xx (c + 1) (.d d) E b1 := propext Iff.rfl
theorem mAsgX_e {i : Nat} {m : WEX} : mAsgX i m E b F = m E b (fun d b1 => F.nx (E.set i (.d d)) b1) fun c s b1 => c ≠ 0 ∧ F.xx c s E b1 := propext Iff.rfl
theorem mRetX_e {m : WEX} : mRetX m E b F = m E b F.rt fun c s b1 => c ≠ 0 ∧ F.xx c s E b1 := propext Iff.rfl
theorem mDropX_e {m : WEX} : mDropX m E b F = m E b (fun _ b1 => F.nx E b1) fun c s b1 => c ≠ 0 ∧ F.xx c s E b1 := propext Iff.rfl
theorem mCallX_e {mf : WFX} {gs : WG} : mCallX mf gs E b R Z = gs E b fun as b1 => mf as b1 R fun c s b2 => c ≠ 0 ∧ Z c s b2 := propext Iff.rfl
theorem mMk_e {C : Addr} {mf : WFX} {gs : WG} : mMk C mf gs E b R Z = gs E b fun as b1 => ∀ a, b1.os a = none → mf (.d (refD a) :: as) (b1.put a C []) (fun d b2 => d = .none ∧ R (refD a) b2) fun c s b2 => c ≠ 0 ∧ Z c s b2 := propext Iff.rfl
theorem mMeth_e {isC : Addr → Prop} {m : Str} {mf : WFX} {mo : WE} {gs : WG} : mMeth isC m mf mo gs E b R Z = mo E b fun d b1 => ∃ a C fs, d = refD a ∧ b1.os a = some (C, fs) ∧ isC C ∧ fs.lookup m = none ∧ gs E b1 fun as b2 => mf (.d d :: as) b2 R fun c s b3 => c ≠ 0 ∧ Z c s b3 := propext Iff.rfl
theorem mMeth0_e {isC : Addr → Prop} {m : Str} {mf : WFX} {mo : WE} {dds : List PyData} : mMeth0 isC m mf mo dds E b R Z = mo E b fun d b1 => ∃ a C fs, d = refD a ∧ b1.os a = some (C, fs) ∧ isC C ∧ fs.lookup m = none ∧ mf (.d d :: dds.map Sl.d) b1 R fun c s b3 => c ≠ 0 ∧ Z c s b3 := propext Iff.rfl
theorem mGet_e {isC : Addr → Prop} {f : Str} {mo : WE} : mGet isC f mo E b R = mo E b fun d b1 => ∃ a C fs u, d = refD a ∧ b1.os a = some (C, fs) ∧ isC C ∧ fs.lookup f = some u ∧ R u b1 := propext Iff.rfl
theorem mSet_e {isC : Addr → Prop} {f : Str} {mo me : WE} : mSet isC f mo me E b F = me E b fun v b1 => mo E b1 fun d b2 => ∃ a C fs, d = refD a ∧ b2.os a = some (C, fs) ∧ isC C ∧ fs.length < 1000 ∧ F.nx E (b2.put a C (putP f v fs)) := propext Iff.rfl
theorem mFnX_e {n k : Nat} {m : WS} {as : List Sl} : mFnX n k m as b R Z = (as.length = n ∧ m (as ++ List.replicate (k - n) .no) b { nx := fun _ b' => R .none b', rt := R, xx := fun c d _ b' => Z c d b' }) := propext Iff.rfl
theorem mIsiR_e {isC : Addr → Prop} {f : PyData → Bool} {m : WE} : mIsiR isC f m E b R = m E b fun d b1 => (isRf d = false ∧ R (.bool (f d)) b1) ∨ ∃ a C fs, d = refD a ∧ b1.os a = some (C, fs) ∧ isC C ∧ R (.bool false) b1 := propext Iff.rfl
theorem mCalm_e {m : WEX} : mCalm m E b R = m E b R fun _ _ _ => False := propext Iff.rfl
theorem mXf_e {xc : XC} {i : Nat} {a dd : Addr} {f : Str} {c : Nat} : mXf xc i a dd f c E b R = ∃ d, ((xc c).2 ≠ "" ∧ E[i]? = some (.x a dd f d c)) ∧ R d b := propext Iff.rfl
theorem mXis_e {xc : XC} {i : Nat} {a dd : Addr} {c : Nat} {r : Bool} : mXis xc i a dd c r E b R = ((if (xc c).2 = "" then E[i]? = some (.r a) else ∃ f d, E[i]? = some (.x a dd f d c)) ∧ R (.bool r) b) := propext Iff.rfl
theorem mCnt_e {ml m : WE} : mCnt ml m E b R = ml E b fun l b1 => ∃ ds, l = .list ds ∧ m E b1 fun d b2 => (PyData.plainAll ds = true ∧ d.plain = true ∧ d.depth ≤ 50) ∧ R (.int ((ds.countP fun y => PyData.eqv y d : Nat) : Int)) b2 := propext Iff.rfl
theorem eqI_ii {i j : Int} {Q : PyData → Prop} : eqI (.int i) (.int j) Q = Q (.bool (decide (i = j))) := propext ⟨fun ⟨_, _, h1, h2, h⟩ => by cases h1; cases h2; exact h, fun h => ⟨i, j, rfl, rfl, h⟩⟩
end
/-- a loop by what holds before each turn -/
theorem turns_ind {t : WG1} {m : WS} {F : WEnds} (I : List PyData → Env → Bt → Prop)
    (step : ∀ x xs E b F', I (x :: xs) E b → (∀ E b, I xs E b → F'.nx E b) → (∀ E b, I xs E b → F'.ct E b) → F'.bk = F.nx → F'.rt = F.rt → F'.xx = F.xx → t x E fun E1 => m E1 b F')
    (fin : ∀ E b, I [] E b → F.nx E b) : ∀ xs E b, I xs E b → mTurns t m xs E b F
  | [], E, b, h => fin E b h
  | x :: xs, E, b, h => step x xs E b _ h (fun E b h' => turns_ind I step fin xs E b h') (fun E b h' => turns_ind I step fin xs E b h') rfl rfl rfl
abbrev okShow (d : PyData) : Prop := d.showable = true ∧ d.shown.length ≤ 1000000 ∧ d.depth ≤ 50
end Wp

/-! len(o), str(o) and their like, by own methods -/
namespace Cn
open PySem PySem.Spec PyProof.Rows L2
section
variable {X : Cx} {pins : List (Addr × Obj)} {σ : L2.St} {H : Hp} {s : Shared} {a C dx : Addr} {fs : List (Str × V)} {k : Nat} {f : Addr} {fd : FuncData} {ps : List Str} {sp : Sp}
theorem ins_at (I : Inv X pins σ H s) (hi : H a = some (.ins C dx fs)) : ∃ oe od, PySem.W.InstAt s.heap a oe C od := by
  obtain ⟨mA, J, _⟩ := ins_get I.hok hi
  obtain ⟨od, J, _⟩ := J.look
  exact ⟨_, _, J⟩
/-- a def called from within a built-in -/
theorem run_in (F : FnG X.prog X.w X.K X.mg X.base k f fd ps sp) {A : Around} (gd : A.guards = some []) (room : Room k A) (e0 : Env0 X.prog X.w X.K X.mg X.base A X.stack s H) (bd : Binds X.K fd ps []) (I : Inv X pins σ H s) {us : List Value} {vs : List V} (r : Vals vs us) {Q : VK} {E : Value → Shared → Prop} (h : sp vs H Q fun _ _ _ => False) :
    wpAny (model X.prog X.w) A (call (.ref f) us) (EP X pins σ Q) E s := by
  have l0 : us.length = ps.length := r.length.symm.trans (F.len _ _ _ _ h)
  have b0 := bd s us I.kIn (by rw [List.append_nil]; exact l0)
  rw [List.append_nil] at b0
  refine wpAny_call (codeAny_mono (F.run A X.stack s H ⟨us, []⟩ us vs Q _ gd room e0 b0 r h) ?_)
  rintro (_ | fl) s' z
  · exact z.elim
  · cases fl with
    | ret u => exact I.after z
    | _ => exact z.elim
def rSpec (isC : Addr → Prop) (sp : Sp) (P : V → Prop) : List V → Hp → VK → Prop := fun xs H Q => ∃ a C dx fs, xs = [.ref a] ∧ isC C ∧ H a = some (.ins C dx fs) ∧ sp [.ref a] H (fun v H' => P v ∧ Q v H') fun _ _ _ => False
def isLen (v : V) : Prop := ∃ n : Int, v = .int n ∧ 0 ≤ n ∧ n < 2 ^ 63
def isStr (v : V) : Prop := ∃ x, v = .str x
theorem cr_lenO {isC : Addr → Prop} (hc : ∀ C, isC C → PySem.W.findIn X.K (.ref C) "__len__" = some (some (.ref f)) ∧ PySem.W.isFn X.K (.ref f) = true) (F : FnG X.prog X.w X.K X.mg X.base k f fd ps sp) (gd : X.A.guards = some []) (room : Room (k + 1) X.A) (bd : Binds X.K fd ps []) : CallR X (.builtin "len") (rSpec isC sp isLen) := by
  intro pins s σ H xs us Q I r h
  obtain ⟨a, C, dx, fs, rfl, hC, hi, h⟩ := h
  obtain ⟨u, rfl, ru⟩ := vals1 r
  obtain rfl : u = Value.ref a := ru
  obtain ⟨oe, od, J⟩ := ins_at I hi
  obtain ⟨m, hF⟩ := I.fr
  refine PySem.W.len_K hF I.ok.mod.kin J (hc C hC).1 (hc C hC).2 (wpAny_mono (run_in F (A := X.A.in1) gd room.in1 I.env0.in1 bd I (vs := [V.ref a]) (us := [Value.ref a]) (.cons (show RelV (V.ref a) (Value.ref a) from rfl) .nil) h) (fun u s' z => ?_) fun _ _ e => e)
  obtain ⟨v, H', I', rv, ⟨n, rfl, h0, h1⟩, q⟩ := z
  obtain ⟨t, rfl⟩ := rv
  exact ⟨⟨h0, h1⟩, .int n, H', I'.tok _, ⟨_, rfl⟩, q⟩
theorem cr_strO {isC : Addr → Prop} (hc : ∀ C, isC C → PySem.W.findIn X.K (.ref C) "__str__" = some (some (.ref f)) ∧ PySem.W.isFn X.K (.ref f) = true) (F : FnG X.prog X.w X.K X.mg X.base k f fd ps sp) (gd : X.A.guards = some []) (room : Room (k + 2) X.A) (bd : Binds X.K fd ps []) : CallR X (.type "str") (rSpec isC sp isStr) := by
  intro pins s σ H xs us Q I r h
  obtain ⟨a, C, dx, fs, rfl, hC, hi, h⟩ := h
  obtain ⟨u, rfl, ru⟩ := vals1 r
  obtain rfl : u = Value.ref a := ru
  obtain ⟨oe, od, J⟩ := ins_at I hi
  refine PySem.W.kso_call (by have := room.un; show X.A.units + 1 + 1 < cLine; omega) I.kIn J (hc C hC).1 (hc C hC).2 (wpAny_mono (run_in F (A := X.A.in1.in1) gd room.in1.in1 I.env0.in1.in1 bd I (vs := [V.ref a]) (us := [Value.ref a]) (.cons (show RelV (V.ref a) (Value.ref a) from rfl) .nil) h) (fun u s' z => ?_) fun _ _ e => e)
  obtain ⟨v, H', I', rv, ⟨x, rfl⟩, q⟩ := z
  obtain ⟨t, rfl⟩ := rv
  exact ⟨.str x, H', I', ⟨_, rfl⟩, q⟩
end
end Cn
namespace Wp
open PySem PySem.Spec PyProof.Rows L2 Evl
/-- a built-in that asks an own method of the object: P what the method must answer -/
def mSpec (isC : Addr → Prop) (mf : WF) (P : PyData → Prop) (mo : WE) : WE := fun E b R => mo E b fun d b1 => ∃ a C fs, d = refD a ∧ b1.os a = some (C, fs) ∧ isC C ∧ mf [.d d] b1 fun r b2 => P r ∧ R r b2
def lenP (d : PyData) : Prop := ∃ n : Int, d = .int n ∧ 0 ≤ n ∧ n < 2 ^ 63
def strP (d : PyData) : Prop := ∃ x, d = .str x
theorem spec_of {isC : Addr → Prop} {mf : WF} {P : PyData → Prop} {P' : V → Prop} {mo : WE} {σ : L2.St} {H : Hp} {Q : VK} (hP : ∀ H d v, P d → Dt H v d → P' v) (h : tE (mSpec isC mf P mo) σ H Q) : (tCB (Cn.rSpec isC (spOf mf) P') (tCons (tE mo) tNil)) σ H Q := by
  obtain ⟨W, H0, E, b, R, S, hm, k⟩ := h
  exact ⟨W, H0, E, b, _, S, hm, fun d b1 v H1 h1 k1 d1 t1 => by
    obtain ⟨a, C, fs, rfl, os, hC, h1⟩ := h1
    have := t1.rf_inv
    subst this
    obtain ⟨dx, us, hi, hp⟩ := W.obs d1 a C fs os
    exact ⟨a, C, dx, us, rfl, hC, hi, W, [.d (refD a)], b1, _, .cons (ar_rf a) .nil, d1, h1, fun d b' v H' r kp dk t => ⟨hP H' d v r.1 t, k d b' v H' r.2 (k1.trans kp) dk t⟩⟩⟩
section
variable {X : Cx} {k : Nat} {f : Addr} {fd : FuncData} {ps : List Str} {mf : WF} {isC : Addr → Prop} {mo : WE} {e : Expr} {p pos : Pos}
theorem pm_lenO (hc : ∀ C, isC C → PySem.W.findIn X.K (.ref C) "__len__" = some (some (.ref f)) ∧ PySem.W.isFn X.K (.ref f) = true) (F : Cn.FnG X.prog X.w X.K X.mg X.base k f fd ps (spOf mf)) (gd : X.A.guards = some []) (room : Room (k + 1) X.A) (bd : Binds X.K fd ps []) (hg : Gl X "len") (hm : X.mg "len" = none) (he : PE X e (tE mo))
    (hs : starEach [e] X.env = (false, eval e X.env) :: starEach [] X.env := by rfl) (hpl : (backTo pos (starEach [] X.env)).any (·.1) = false := by rfl) : PE X (.Call (.Name "len" p) [e] [] pos) (tE (mSpec isC mf lenP mo)) :=
  (pe_callB (id := "len") (Cn.cr_lenO hc F gd room bd) hg hm (by decide +kernel) (pa_cons he pa_nil hs) (by decide) (by decide) hs hpl).weak fun σ H Q h => spec_of (fun H d v ⟨n, e, h0, h1⟩ t => by subst e; cases t; exact ⟨n, rfl, h0, h1⟩) h
theorem pm_strO (hc : ∀ C, isC C → PySem.W.findIn X.K (.ref C) "__str__" = some (some (.ref f)) ∧ PySem.W.isFn X.K (.ref f) = true) (F : Cn.FnG X.prog X.w X.K X.mg X.base k f fd ps (spOf mf)) (gd : X.A.guards = some []) (room : Room (k + 2) X.A) (bd : Binds X.K fd ps []) (hg : Gl X "str") (hm : X.mg "str" = none) (he : PE X e (tE mo))
    (hs : starEach [e] X.env = (false, eval e X.env) :: starEach [] X.env := by rfl) (hpl : (backTo pos (starEach [] X.env)).any (·.1) = false := by rfl) : PE X (.Call (.Name "str" p) [e] [] pos) (tE (mSpec isC mf strP mo)) :=
  (pe_callTy (T := "str") (Cn.cr_strO hc F gd room bd) hg hm (by decide +kernel) (pa_cons he pa_nil hs) (by decide) (by decide) hs hpl).weak fun σ H Q h => spec_of (fun H d v ⟨x, e⟩ t => by subst e; cases t; exact ⟨x, rfl⟩) h
theorem mSpec_e {P : PyData → Prop} {E : Env} {b : Bt} {R : PyData → Bt → Prop} : mSpec isC mf P mo E b R = mo E b fun d b1 => ∃ a C fs, d = refD a ∧ b1.os a = some (C, fs) ∧ isC C ∧ mf [.d d] b1 fun r b2 => P r ∧ R r b2 := propext Iff.rfl
end
/-- a statement that is never reached -/
def mNever : WS := fun _ _ _ => False
theorem pm_never {X : Cx} {st : Stmt} {xw : XW} : PS X st (tS xw mNever) := ⟨fun pins s σ H D I ⟨W, H0, E, b, F, S, hm, k⟩ => hm.elim⟩
theorem mNever_e {E : Env} {b : Bt} {F : WEnds} : mNever E b F = False := rfl
end Wp

namespace Wp
open PySem PySem.Spec PyProof.Rows L2 Evl
/-- a def that may raise, where it doesn't -/
def calmM (m : WFX) : WF := fun as b R => m as b R fun _ _ _ => False
theorem calmM_e {m : WFX} {as : List Sl} {b : Bt} {R : PyData → Bt → Prop} : calmM m as b R = m as b R fun _ _ _ => False := rfl
end Wp

namespace Cn
open PySem PySem.Spec PyProof.Rows L2 Evl
section
variable {K : PySem.W.Frag} {σ : L2.St} {H H' : Hp} {ta tb te tc : TE} {v : V} {d e : PyData} {ds es : List PyData}
def pickD (b : Bool) (x y : PyData) : PyData := if b = true then y else x
end
/-! ### edges -/
def manyL : List PyData := (List.range 13).map fun (k : Nat) => .tuple [.int (-6 + (k : Int)), .int 1]
def pr (a b : Int) : PyData := .tuple [.int a, .int b]
def g3 (a b c : PyData) : PyData := .tuple [a, b, c]
section
variable (t c : Int) (bs : List Bed)
def edgA : List PyData := [g3 (.int 1000000) (.int 1000000) (bedsD bs), g3 (.int (0 - 1000000)) (.int 1) (bedsD bs), g3 (.int (1000000 + 1)) (.int c) (bedsD bs), g3 (.int (0 - 1000000 - 1)) (.int c) (bedsD bs), g3 (.int t) (.int (1000000 + 1)) (bedsD bs)]
def edgB : List PyData := [g3 (.int t) (.int 0) (bedsD bs), g3 (.int t) (.int c) (.tuple (cutD manyL none (some 12))), g3 (.int t) (.int c) (.tuple manyL), g3 (.int t) (.int c) (.tuple (cutD manyL none (some 12)).reverse)]
def edgC : List PyData := [g3 (.int t) (.int c) (.tuple [pr (0 - 1000000) 1000000000, pr 1000000 1]), g3 (.int t) (.int c) (.tuple [pr (0 - 1000000 - 1) 1])]
def edgD : PyData := g3 (.int t) (.int c) (.tuple [pr (1000000 + 1) 1])
def edgE : List PyData := [g3 (.int t) (.int c) (.tuple [pr 0 (1000000000 + 1)]), g3 (.int t) (.int c) (.tuple [pr 0 0]), g3 (.int t) (.int c) (.tuple [pr 3 1, pr 3 2])]
def edgF : PyData := g3 (.int c) (.int t) (bedsD bs)
def edgG : List PyData := [g3 .none .none .none, g3 (.int t) .none .none, g3 (.int t) (.int c) (.tuple [.none, pr 0 0])]
def edgH : List PyData := [g3 (.int t) (.int c) (.tuple [pr 5 1, .none]), g3 (.int t) (.int c) (.tuple [pr 5 1, pr 4 0])]
def edgesD : List PyData := (((((edgA t c bs ++ edgB t c bs) ++ edgC t c) ++ [edgD t c]) ++ edgE t c) ++ [edgF t c bs] ++ edgG t c) ++ edgH t c
end
def szB (d : PyData) : Bool := okV (10 ^ 39) d && decide (wv d ≤ 4000) && decide (dv d ≤ 2)
section
variable {most top t c : Int} {bs : List Bed}
end
/-! ### the values of a turn -/
def one1 (i : Int) : Bool := decide (V.int i = V.int 1)
def twin1 (b : Bed) : PyData := .tuple [.int b.1, pickD (one1 b.2) (.int b.2) (.bool true)]
def valA (t c : Int) (bs : List Bed) : List PyData := [gardenD t c bs, .tuple [.int t, pickD (one1 c) (.int c) (.bool (one1 c)), .tuple (bs.map twin1)], gardenD t c bs, .tuple [.int 1, .int 1, .tuple []], .tuple [.bool true, .int 1, .tuple []], .tuple [.int 1, .bool true, .tuple []]]
def valB : List PyData := [.tuple [.int 1, .int 1, .tuple [.tuple [.int 1, .int 1]]], .tuple [.int 1, .int 1, .tuple [.tuple [.bool true, .int 1]]], .tuple [.int 1, .int 1, .tuple [.tuple [.int 1, .bool true]]], .tuple [.int 0, .int 0, .tuple [.tuple [.int 0, .int 0]]]]
section
variable {most top t c : Int} {bs : List Bed}
end
def sp_edges : Sp := fun vs H Q _ => ∃ v t c bs, vs = [v] ∧ Tp H v (gardenD t c bs) ∧ bs.length ≤ 12 ∧ ∀ p xs H', H p = none → Ex H H' → H' p = some (.lst xs) → TpAll H' xs (edgesD t c bs) → Q (.ref p) H'
/-! ### errors are small -/
end Cn

namespace Cb
open PySem PySem.Spec PyProof.Rows L2 Evl Cn
/-! ### lists of lists of two ints -/
def LL (H : Hp) (p : Addr) (rows : List (Int × Int)) : Prop := ∃ qs : List Addr, H p = some (.lst (qs.map V.ref)) ∧ qs.length = rows.length ∧ ∀ (i : Nat) (q : Addr) (r : Int × Int), qs[i]? = some q → rows[i]? = some r → H q = some (.lst [.int r.1, .int r.2])
theorem LL.ex {H H' : Hp} {p : Addr} {rows : List (Int × Int)} (e : Ex H H') (h : LL H p rows) : LL H' p rows := by
  obtain ⟨qs, h1, h2, h3⟩ := h
  exact ⟨qs, e _ _ h1, h2, fun i q r a b => e _ _ (h3 i q r a b)⟩
section
variable {K : PySem.W.Frag} {σ : L2.St} {H : Hp} {te tl : TE} {t : TT}
end
/-! ### the least way, stretch by stretch -/
def rowsOf (t : Int) (bs : List Bed) : List (Int × Int) := (pairs (marks t bs)).map fun p => (2 * (p.2 - p.1), litres t bs p.1 p.2)
def ceilD (l c : Int) : Int := -((-l) / c)
def leastW (t c : Int) (bs : List Bed) : Int := ((rowsOf t bs).map fun r => r.1 * ceilD r.2 c).sum
def behind (t lo hi : Int) (bs : List Bed) : List Int := (bs.filter fun b => if hi ≤ t then decide (b.1 ≤ lo) else decide (hi ≤ b.1)).map (·.2)
def spBeyond : Sp := fun vs H Q _ => ∃ v t c bs, vs = [v] ∧ Tp H v (gardenD t c bs) ∧ bs.length ≤ 40 ∧ ∀ p H', Ex H H' → LL H' p (rowsOf t bs) → Q (.ref p) H'
def spLeast : Sp := fun vs H Q _ => ∃ v t c bs, vs = [v] ∧ Tp H v (gardenD t c bs) ∧ bs.length ≤ 40 ∧ 1 ≤ c ∧ c ≤ 1000000 ∧ -2000000 ≤ t ∧ t ≤ 2000000 ∧ (∀ b ∈ bs, -2000000 ≤ b.1 ∧ b.1 ≤ 2000000) ∧ ∀ H', Ex H H' → Q (.int (leastW t c bs)) H'
end Cb

namespace Wp
open PySem PySem.Spec PyProof.Rows L2 Evl
/-! ### sums -/
def mx0 (i : Int) : Int := if i > 0 then i else 0
def sg {α : Type} (f : α → Int) (l : List α) : Int := (l.map f).sum
section
variable {α β : Type}
theorem sg_cons (f : α → Int) (x : α) (l : List α) : sg f (x :: l) = f x + sg f l := by simp [sg]
theorem sg_filter (p : α → Bool) (f : α → Int) : ∀ l : List α, ((l.filter p).map f).sum = sg (fun x => if p x = true then f x else 0) l
  | [] => rfl
  | x :: l => by
    rw [sg_cons, ← sg_filter p f l]
    cases h : p x <;> simp [h]
theorem sg_congr {f g : α → Int} : ∀ {l : List α}, (∀ x ∈ l, f x = g x) → sg f l = sg g l
  | [], _ => rfl
  | x :: l, h => by rw [sg_cons, sg_cons, h x (List.mem_cons_self ..), sg_congr fun y hy => h y (List.mem_cons_of_mem _ hy)]
theorem sg_le {f g : α → Int} : ∀ {l : List α}, (∀ x ∈ l, f x ≤ g x) → sg f l ≤ sg g l
  | [], _ => Int.le_refl _
  | x :: l, h => by
    have h1 := h x (List.mem_cons_self ..)
    have h2 := sg_le (l := l) fun y hy => h y (List.mem_cons_of_mem _ hy)
    rw [sg_cons, sg_cons]
    omega
theorem sg_zero : ∀ l : List α, sg (fun _ => 0) l = 0
  | [] => rfl
  | x :: l => by rw [sg_cons, sg_zero l]; rfl
theorem sg_nn {f : α → Int} {l : List α} (h : ∀ x ∈ l, 0 ≤ f x) : 0 ≤ sg f l := by
  have := sg_le (f := fun _ => 0) (g := f) (l := l) h
  rw [sg_zero] at this
  exact this
end
/-! ### marks -/
/-! ### which trips go beyond a stretch -/

end Wp

namespace Wp
open PySem PySem.Spec PyProof.Rows L2 Evl
/-! ### cans -/
def cans (l c : Int) : Int := (l + c - 1) / c
theorem lt_cans {k m c : Int} (hc : 0 < c) : k < cans m c ↔ k * c < m := by
  unfold cans
  rw [show (k < (m + c - 1) / c) ↔ (k + 1 ≤ (m + c - 1) / c) from Iff.rfl, Int.le_ediv_iff_mul_le hc, Int.add_mul]
  omega
theorem cans_nn {m c : Int} (hc : 0 < c) (h : 0 ≤ m) : 0 ≤ cans m c := Int.ediv_nonneg (by omega) (by omega)
theorem sg_range {q : Int} : ∀ {n : Nat}, 0 ≤ q → q ≤ n → sg (fun k : Nat => if (k : Int) < q then 1 else 0) (List.range n) = q
  | 0, h0, h1 => by simp [sg]; omega
  | n + 1, h0, h1 => by
    rw [List.range_succ]
    have app : ∀ (f : Nat → Int) (l m : List Nat), sg f (l ++ m) = sg f l + sg f m := fun f l m => by simp [sg]
    rw [app]
    by_cases h : q ≤ n
    · rw [sg_range h0 h]
      simp [sg]
      omega
    · have e : sg (fun k : Nat => if (k : Int) < q then 1 else 0) (List.range n) = n := by
        have e2 : sg (fun k : Nat => if (k : Int) < q then 1 else 0) (List.range n) = sg (fun k : Nat => if (k : Int) < (n : Int) then 1 else 0) (List.range n) := sg_congr fun k hk => by
          have := List.mem_range.mp hk
          rw [if_pos (by omega), if_pos (by omega)]
        rw [e2, sg_range (by omega) (by omega)]
      rw [e]
      simp [sg]
      omega
/-- in a list that falls, those above v come first -/
theorem falls {v : Int} : ∀ {D : List Int}, D.Pairwise (fun a b => b ≤ a) → ∀ (j : Nat) (x : Int), D[j]? = some x → (v < x ↔ j < D.countP fun r => decide (v < r))
  | [], _, j, x, h => by simp at h
  | d :: D, hD, j, x, h => by
    have h1 := List.pairwise_cons.mp hD
    by_cases hd : v < d
    · rw [List.countP_cons_of_pos (by simpa using hd)]
      cases j with
      | zero => simp at h; subst h; exact ⟨fun _ => by omega, fun _ => hd⟩
      | succ j =>
        have := falls (v := v) h1.2 j x (by simpa using h)
        omega
    · have e : (d :: D).countP (fun r => decide (v < r)) = 0 := by
        rw [List.countP_eq_zero]
        intro y hy
        rcases List.mem_cons.mp hy with rfl | hy
        · simpa using hd
        · have := h1.1 y hy
          simp
          omega
      rw [e]
      have hx : x ≤ d := by
        cases j with
        | zero => simp at h; omega
        | succ j => exact h1.1 x (List.mem_of_getElem? (by simpa using h))
      omega
/-- each c-th of a falling list, counted by what is above v -/
theorem every {D : List Int} {c v : Int} (hc : 0 < c) (hD : D.Pairwise fun a b => b ≤ a) : sg (fun k : Nat => if v < D.getD (k * c.toNat) 0 then 1 else 0) (List.range (cans D.length c).toNat) = cans (D.countP fun r => decide (v < r)) c := by
  have n0 := cans_nn (m := (D.length : Int)) hc (by omega)
  have cl : D.countP (fun r => decide (v < r)) ≤ D.length := List.countP_le_length
  have q0 := cans_nn (m := ((D.countP fun r => decide (v < r) : Nat) : Int)) hc (by omega)
  have q1 : cans ((D.countP fun r => decide (v < r) : Nat) : Int) c ≤ cans D.length c := Int.ediv_le_ediv hc (by omega)
  have e : sg (fun k : Nat => if v < D.getD (k * c.toNat) 0 then 1 else 0) (List.range (cans D.length c).toNat) = sg (fun k : Nat => if (k : Int) < cans ((D.countP fun r => decide (v < r) : Nat) : Int) c then 1 else 0) (List.range (cans D.length c).toNat) := sg_congr fun k hk => by
    have hk' := List.mem_range.mp hk
    have h1 : (k : Int) < cans D.length c := by omega
    have h2 := (lt_cans hc).mp h1
    obtain ⟨c', rfl⟩ : ∃ c' : Nat, c = c' := ⟨c.toNat, by omega⟩
    have e1 : ((c' : Nat) : Int).toNat = c' := rfl
    have h3 : k * c' < D.length := by
      have : ((k * c' : Nat) : Int) < D.length := by rw [Int.natCast_mul]; exact h2
      omega
    have g : D[k * c']? = some D[k * c'] := List.getElem?_eq_getElem h3
    have f := falls (v := v) hD (k * c') _ g
    have e2 : D.getD (k * c') 0 = D[k * c'] := by rw [List.getD_eq_getElem?_getD, g]; rfl
    have l := lt_cans (k := (k : Int)) (m := ((D.countP fun r => decide (v < r) : Nat) : Int)) hc
    have l2 : ((k : Int) * (c' : Int) < ((D.countP fun r => decide (v < r) : Nat) : Int)) ↔ k * c' < D.countP fun r => decide (v < r) := by
      rw [← Int.natCast_mul]
      omega
    rw [e1, e2]
    by_cases hv : v < D[k * c']
    · rw [if_pos hv, if_pos (l.mpr (l2.mpr (f.mp hv)))]
    · rw [if_neg hv, if_neg (fun z => hv (f.mpr (l2.mp (l.mp z))))]
  rw [e, sg_range q0 (by omega)]
/-! ### the litres of one side, each by its reach -/
def farL (s t : Int) (bs : List Bed) : List Int := bs.flatMap fun b => if 0 < s * (b.1 - t) then List.replicate b.2.toNat (s * (b.1 - t)) else []
/-- each can-th litre from the farthest on -/
def steps (c : Int) (D : List Int) : Int := sg (fun k : Nat => D.getD (k * c.toNat) 0) (List.range (cans D.length c).toNat)
def lwp (t c : Int) (bs : List Bed) (p : Int × Int) : Int := (p.2 - p.1) * cans (Cn.litres t bs p.1 p.2) c
def leastW (t c : Int) (bs : List Bed) : Int := sg (fun p : Int × Int => 2 * (p.2 - p.1) * cans (Cn.litres t bs p.1 p.2) c) (Cn.pairs (Cn.marks t bs))
end Wp

namespace Wp
open PySem PySem.Spec PyProof.Rows L2 Evl
/-! ### sums over the cells of the path -/
def cs (f : Int → Int) (a : Int) (n : Nat) : Int := sg (fun k : Nat => f (a + k)) (List.range n)
/-- whether a litre for p is carried through the cell [x, x + 1] -/
def bt (t x p : Int) : Prop := (t ≤ x ∧ x < p) ∨ (x < t ∧ p ≤ x)
instance (t x p : Int) : Decidable (bt t x p) := inferInstanceAs (Decidable (_ ∨ _))
def byd (t : Int) (bs : List Bed) (x : Int) : Int := sg (fun b : Bed => if bt t x b.1 then b.2 else 0) bs
def MB (t : Int) (bs : List Bed) : Prop := ∀ x ∈ Cn.marks t bs, -2000000 ≤ x ∧ x ≤ 2000000
theorem mb_of {t : Int} {bs : List Bed} (h : -2000000 ≤ t ∧ t ≤ 2000000) (hb : ∀ b ∈ bs, -2000000 ≤ b.1 ∧ b.1 ≤ 2000000) : MB t bs := fun x hx => by
  rcases List.mem_cons.mp (Cn.mem_sortU.mp hx) with rfl | hx
  · exact h
  · obtain ⟨b, hb', rfl⟩ := List.mem_map.mp hx
    exact hb b hb'
def bigN : Nat := 4000000
def lwc (t c : Int) (bs : List Bed) : Int := 2 * cs (fun x => cans (byd t bs x) c) (-2000000) bigN
/-! ### cans -/
/-! ### least ways compared -/
section
variable {t c : Int} {bs bs' : List Bed}
end
/-! ### a bed with other litres -/
def wantAt (p : Int) (bs : List Bed) : Int := sg (fun b : Bed => if b.1 = p then b.2 else 0) bs
def withB (p l : Int) (bs : List Bed) : List Bed := bs.filter (fun b => decide (b.1 ≠ p)) ++ if 1 ≤ l + wantAt p bs then [(p, l + wantAt p bs)] else []
def tot (bs : List Bed) : Int := sg (fun b : Bed => b.2) bs
end Wp

namespace Wp
open PySem PySem.Spec PyProof.Rows L2 Evl
/-- the least way with l litres more at p -/
def lwm (t c : Int) (bs : List Bed) (p l : Int) : Int := 2 * cs (fun x => cans (byd t bs x + if bt t x p then l else 0) c) (-2000000) bigN
/-! ### room in the cans -/
def room (m c : Int) : Int := cans m c * c - m
section
variable {t c p l : Int} {bs : List Bed}
end
/-! ### stretches and cells -/
/-- the stretches between t and p, of the garden with a litre more at p -/
def between (lo hi : Int) (q : Int × Int) : Bool := decide (lo ≤ q.1 ∧ q.2 ≤ hi)
end Wp

/-! models of the program's defs on gardens -/
namespace Pg
open PySem PySem.Spec PyProof.Rows L2 Evl Wp
def S_cans_for_1 : WS := (mRet (mOp fdivW (mOp subW (mOp addW (mV 0) (mV 1)) (mC (.int 1))) (mV 1)))
def B_cans_for : WS := S_cans_for_1
def M_cans_for : WF := mFn 2 2 B_cans_for

def S_litres_wanted_1 : WS := (mRet (mCB sumW (mCons (mLk (mLc (bTup 2 (bCons (bName 1) (bCons (bName 2) bNil))) (mOp ixW (mV 0) (mC (.int 2))) mYes (mV 2) [1, 2])) mNil)))
def B_litres_wanted : WS := S_litres_wanted_1
def M_litres_wanted : WF := mFn 1 3 B_litres_wanted

def S_fewest_trips_1 : WS := (mRet (mCall M_cans_for (gE (mCall M_litres_wanted (gE (mV 0) gNo)) (gE (mOp ixW (mV 0) (mC (.int 1))) gNo))))
def B_fewest_trips : WS := S_fewest_trips_1
def M_fewest_trips : WF := mFn 1 1 B_fewest_trips

def S_litres_beyond_1 : WS := (mRet (mCB sumW (mCons (mLk (mLc (bTup 2 (bCons (bName 6) (bCons (bName 7) bNil))) (mV 5) (mT (mOp leW (mV 6) (mV 1))) (mV 7) [6, 7])) mNil)))
def S_litres_beyond_2 : WS := (mRet (mCB sumW (mCons (mLk (mLc (bTup 2 (bCons (bName 6) (bCons (bName 7) bNil))) (mV 5) (mT (mOp geW (mV 6) (mV 2))) (mV 7) [6, 7])) mNil)))
def S_litres_beyond_3 : WS := (mIfS (mT (mOp leW (mV 3) (mV 1))) S_litres_beyond_2 mSkip)
def S_litres_beyond_4 : WS := (mUnp (bTup 3 (bCons (bName 3) (bCons (bName 4) (bCons (bName 5) bNil)))) (mV 0))
def B_litres_beyond : WS := (mSeq S_litres_beyond_4
    (mSeq S_litres_beyond_3
    S_litres_beyond_1))
def M_litres_beyond : WF := mFn 3 8 B_litres_beyond

def S_marks_of_1 : WS := (mRet (mLk (mSS (mOp addW (mLk (mLst (mCons (mV 1) mNil))) (mLk (mLc (bTup 2 (bCons (bName 4) (bCons (bName 5) bNil))) (mV 3) mYes (mV 4) [4, 5]))))))
def S_marks_of_2 : WS := (mUnp (bTup 3 (bCons (bName 1) (bCons (bName 2) (bCons (bName 3) bNil)))) (mV 0))
def B_marks_of : WS := (mSeq S_marks_of_2
    S_marks_of_1)
def M_marks_of : WF := mFn 1 6 B_marks_of

def S_stretches_of_1 : WS := (mRet (mCB tupW (mCons (mLk (mLcZ (bTup 2 (bCons (bName 2) (bCons (bName 3) bNil))) (mCons (mV 1) (mCons (mSl (mV 1) (mPt (mC (.int 1))) mNo) mNil)) mYes (mTup (mCons (mV 2) (mCons (mV 3) (mCons (mCall M_litres_beyond (gE (mV 0) (gE (mV 2) (gE (mV 3) gNo)))) mNil)))) [2, 3])) mNil)))
def S_stretches_of_2 : WS := (mAsg 1 (vD (mCall M_marks_of (gE (mV 0) gNo))))
def B_stretches_of : WS := (mSeq S_stretches_of_2
    S_stretches_of_1)
def M_stretches_of : WF := mFn 1 4 B_stretches_of

def S_least_counts_1 : WS := (mRet (mCB tupW (mCons (mLk (mLc (bTup 3 (bCons (bName 2) (bCons (bName 3) (bCons (bName 4) bNil)))) (mCall M_stretches_of (gE (mV 0) gNo)) mYes (mCall M_cans_for (gE (mV 4) (gE (mV 1) gNo))) [2, 3, 4])) mNil)))
def S_least_counts_2 : WS := (mAsg 1 (vD (mOp ixW (mV 0) (mC (.int 1)))))
def B_least_counts : WS := (mSeq S_least_counts_2
    S_least_counts_1)
def M_least_counts : WF := mFn 1 5 B_least_counts

def S_way_of_counts_1 : WS := (mRet (mCB sumW (mCons (mLk (mLc (bTup 2 (bCons (bTup 3 (bCons (bName 4) (bCons (bName 5) (bCons (bName 6) bNil)))) (bCons (bName 3) bNil))) (mV 2) mYes (mOp mulW (mOp mulW (mC (.int 2)) (mOp subW (mV 5) (mV 4))) (mV 3)) [3, 4, 5, 6])) mNil)))
def S_way_of_counts_2 : WS := (mAsg 2 (vD (mLk (mLZ (mCons (mCall M_stretches_of (gE (mV 0) gNo)) (mCons (mV 1) mNil))))))
def B_way_of_counts : WS := (mSeq S_way_of_counts_2
    S_way_of_counts_1)
def M_way_of_counts : WF := mFn 2 7 B_way_of_counts

def S_least_way_1 : WS := (mRet (mCall M_way_of_counts (gE (mV 0) (gE (mCall M_least_counts (gE (mV 0) gNo)) gNo))))
def B_least_way : WS := S_least_way_1
def M_least_way : WF := mFn 1 1 B_least_way

def S_is_number_1 : WS := (mRet (mAnd (mIsi isI (mV 0)) (mNot (mIsi isB (mV 0)))))
def B_is_number : WS := S_is_number_1
def M_is_number : WF := mFn 1 1 B_is_number

def S_is_number_within_1 : WS := (mRet (mAnd (mCall M_is_number (gE (mV 0) gNo)) (mChain leW leW (mV 1) (mV 0) (mV 2))))
def B_is_number_within : WS := S_is_number_within_1
def M_is_number_within : WF := mFn 3 3 B_is_number_within

def S_is_place_1 : WS := (mRet (mCall M_is_number_within (gE (mV 0) (gE (mUn negW (mC (.int 1000000))) (gE (mC (.int 1000000)) gNo)))))
def B_is_place : WS := S_is_place_1
def M_is_place : WF := mFn 1 1 B_is_place

def S_is_tuple_of_1 : WS := (mRet (mAnd (mIsi isT (mV 0)) (mOp eqW (mCB lenW (mCons (mV 0) mNil)) (mV 1))))
def B_is_tuple_of : WS := S_is_tuple_of_1
def M_is_tuple_of : WF := mFn 2 2 B_is_tuple_of

def S_is_bed_1 : WS := (mRet (mAnd (mCall M_is_tuple_of (gE (mV 0) (gE (mC (.int 2)) gNo))) (mAnd (mCall M_is_place (gE (mOp ixW (mV 0) (mC (.int 0))) gNo)) (mCall M_is_number_within (gE (mOp ixW (mV 0) (mC (.int 1))) (gE (mC (.int 1)) (gE (mC (.int 1000000000)) gNo)))))))
def B_is_bed : WS := S_is_bed_1
def M_is_bed : WF := mFn 1 1 B_is_bed

def S_bed_error_1 : WS := (mRet (mC .none))
def S_bed_error_2 : WS := (mRet (mTup (mCons (mV 1) (mCons (mC (.str "bed")) mNil))))
def S_bed_error_3 : WS := (mIfS (mAndT (mT (mOp gtW (mV 1) (mC (.int 0)))) (mT (mOp leW (mOp ixW (mV 2) (mC (.int 0))) (mOp ixW (mOp ixW (mV 0) (mOp subW (mV 1) (mC (.int 1)))) (mC (.int 0)))))) S_bed_error_2 mSkip)
def S_bed_error_4 : WS := (mRet (mTup (mCons (mV 1) (mCons (mC (.str "bed")) mNil))))
def S_bed_error_5 : WS := (mIfS (mNotT (mT (mCall M_is_bed (gE (mV 2) gNo)))) S_bed_error_4 mSkip)
def S_bed_error_6 : WS := (mForE (bTup 2 (bCons (bName 1) (bCons (bName 2) bNil))) (mCons (mV 0) mNil)
      (mSeq S_bed_error_5
    S_bed_error_3))
def B_bed_error : WS := (mSeq S_bed_error_6
    S_bed_error_1)
def M_bed_error : WF := mFn 1 3 B_bed_error

def S_garden_error_1 : WS := (mRet (mCall M_bed_error (gE (mV 3) gNo)))
def S_garden_error_2 : WS := (mRet (mTup (mCons (mC .none) (mCons (mC (.str "beds")) mNil))))
def S_garden_error_3 : WS := (mIfS (mOrT (mNotT (mT (mIsi isT (mV 3)))) (mT (mOp gtW (mCB lenW (mCons (mV 3) mNil)) (mC (.int 12))))) S_garden_error_2 mSkip)
def S_garden_error_4 : WS := (mRet (mTup (mCons (mC .none) (mCons (mC (.str "can")) mNil))))
def S_garden_error_5 : WS := (mIfS (mNotT (mT (mCall M_is_number_within (gE (mV 2) (gE (mC (.int 1)) (gE (mC (.int 1000000)) gNo)))))) S_garden_error_4 mSkip)
def S_garden_error_6 : WS := (mRet (mTup (mCons (mC .none) (mCons (mC (.str "tap")) mNil))))
def S_garden_error_7 : WS := (mIfS (mNotT (mT (mCall M_is_place (gE (mV 1) gNo)))) S_garden_error_6 mSkip)
def S_garden_error_8 : WS := (mUnp (bTup 3 (bCons (bName 1) (bCons (bName 2) (bCons (bName 3) bNil)))) (mV 0))
def S_garden_error_9 : WS := (mRet (mTup (mCons (mC .none) (mCons (mC (.str "garden")) mNil))))
def S_garden_error_10 : WS := (mIfS (mNotT (mT (mCall M_is_tuple_of (gE (mV 0) (gE (mC (.int 3)) gNo))))) S_garden_error_9 mSkip)
def B_garden_error : WS := (mSeq S_garden_error_10
    (mSeq S_garden_error_8
    (mSeq S_garden_error_7
    (mSeq S_garden_error_5
    (mSeq S_garden_error_3
    S_garden_error_1)))))
def M_garden_error : WF := mFn 1 4 B_garden_error

def S_wanting_1 : WS := (mRet (mTup (mCons (mV 5) (mCons (mV 6) (mCons (mCB tupW (mCons (mLk (mCL sortW (mCons (mOp addW (mV 3) (mV 4)) mNil))) mNil)) mNil)))))
def S_wanting_2 : WS := (mAsg 4 (vD (mIf (mT (mOp eqW (mV 2) (mC (.int 0)))) (mLk (mLst mNil)) (mLk (mLst (mCons (mTup (mCons (mV 1) (mCons (mV 2) mNil))) mNil))))))
def S_wanting_3 : WS := (mAsg 3 (vD (mLk (mLc (bName 8) (mV 7) (mT (mOp neW (mOp ixW (mV 8) (mC (.int 0))) (mV 1))) (mV 8) [8]))))
def S_wanting_4 : WS := (mUnp (bTup 3 (bCons (bName 5) (bCons (bName 6) (bCons (bName 7) bNil)))) (mV 0))
def B_wanting : WS := (mSeq S_wanting_4
    (mSeq S_wanting_3
    (mSeq S_wanting_2
    S_wanting_1)))
def M_wanting : WF := mFn 3 9 B_wanting

end Pg

namespace Wp
open PySem PySem.Spec PyProof.Rows L2 Evl
theorem comp_ty {α : Type} {t : WG1} {mt : WT} {ml : WE} {E : Env} (enc f : α → PyData) (p : α → Bool) : ∀ (xs : List α) (acc : List PyData) (b : Bt) (R : List PyData → Bt → Prop), (∀ x ∈ xs, ∀ C : Option PyData → Bt → Prop, C (if p x = true then some (f x) else none) b → t (enc x) E fun E1 => mt E1 b fun c b1 => if c = true then ml E1 b1 (fun y b2 => C (some y) b2) else C none b1) →
    acc.length + xs.length ≤ 100000 → R (acc ++ (xs.filter p).map f) b → mComp t mt ml E (xs.map enc) acc b R
  | [], acc, b, R, _, _, q => by simpa [mComp] using q
  | x :: xs, acc, b, R, h, few, q => by
    refine h x (List.mem_cons_self ..) (fun o b' => match o with | some y => acc.length < 100000 ∧ mComp t mt ml E (xs.map enc) (acc ++ [y]) b' R | none => mComp t mt ml E (xs.map enc) acc b' R) ?_
    simp at few
    cases hp : p x with
    | true =>
      refine ⟨by omega, comp_ty enc f p xs (acc ++ [f x]) b R (fun y hy => h y (List.mem_cons_of_mem _ hy)) (by simp; omega) ?_⟩
      simpa [hp] using q
    | false => exact comp_ty enc f p xs acc b R (fun y hy => h y (List.mem_cons_of_mem _ hy)) (by omega) (by simpa [hp] using q)
theorem comp_tm {α : Type} {t : WG1} {ml : WE} {E : Env} (enc f : α → PyData) (xs : List α) (b : Bt) (R : List PyData → Bt → Prop) (h : ∀ x ∈ xs, ∀ Q : PyData → Bt → Prop, Q (f x) b → t (enc x) E fun E1 => ml E1 b Q) (few : xs.length ≤ 100000) (q : R (xs.map f) b) : mComp t mYes ml E (xs.map enc) [] b R := by
  refine comp_ty enc f (fun _ => true) xs [] b R (fun x hx C hc => h x hx (fun y b2 => C (some y) b2) (by simpa using hc)) (by simpa using few) ?_
  rw [List.filter_eq_self.mpr (fun _ _ => rfl)]
  exact q
theorem cut_1 (l : List PyData) : cutD l (some 1) none = l.drop 1 := by
  unfold cutD
  rw [show HT.sIx l.length 0 (some 1) = min 1 l.length from HT.sIx_nat l.length 0 1, HT.sIx_none]
  cases l with
  | nil => rfl
  | cons x r =>
    have e : min 1 (x :: r).length = 1 := by simp
    rw [e]
    show r.take ((x :: r).length - 1) = r
    simp
end Wp
namespace Pg
open PySem PySem.Spec PyProof.Rows L2 Evl Wp
def prs {α : Type} : List α → List (α × α)
  | x :: y :: r => (x, y) :: prs (y :: r)
  | _ => []
theorem prs_len {α : Type} : ∀ l : List α, (prs l).length ≤ l.length
  | [] => by simp [prs]
  | [_] => by simp [prs]
  | x :: y :: r => by
    have := prs_len (y :: r)
    simp [prs] at this ⊢
    omega
theorem zip_prs {α : Type} (enc : α → PyData) : ∀ l : List α, zipD (l.map enc) ((l.map enc).drop 1) = (prs l).map fun p => .tuple [enc p.1, enc p.2]
  | [] => rfl
  | [_] => rfl
  | x :: y :: r => by
    have := zip_prs enc (y :: r)
    simp only [List.map_cons, List.drop_one, List.tail_cons, zipD, prs] at this ⊢
    rw [this]
/-! ### stretches -/
/-! ### the program's defs about plans -/
def leI (a b : Int) : Bool := PySem.W.dataLe false (fun d => d) (.int a) (.int b)
theorem leI_eq (a b : Int) : leI a b = decide (a ≤ b) := by
  have e : leI a b = !PySem.W.dataLt (.int b) (.int a) := rfl
  rw [e, PySem.W.dataLt_int]
  by_cases h : a ≤ b
  · simp [h]
  · simp [h]; omega
theorem srt_ints (ns : List Int) : srt (ns.map PyData.int) = (ns.mergeSort leI).map PyData.int := by
  unfold srt
  exact (List.map_mergeSort (f := PyData.int) (r := leI) (s := PySem.W.dataLe false fun d => d) (l := ns) (fun _ _ _ _ => rfl)).symm
theorem okSrt_ints (ns : List Int) (few : ns.length ≤ 100000) : okSrt (ns.map PyData.int) :=
  ⟨PySem.W.AllAlike.of fun x y => rfl, PySem.W.Sortable.others fun x => ⟨by simp, by simp⟩, fun d hd => by
    obtain ⟨x, _, rfl⟩ := List.mem_map.mp hd
    simp [PyData.depth], by simpa using few⟩
section
variable {t c : Int} {bs : List Bed} {b : Bt} {R : PyData → Bt → Prop}
section
variable {t c : Int} {bs : List Bed} {b : Bt} {R : PyData → Bt → Prop}
section
variable {t c : Int} {bs : List Bed} {b : Bt} {R : PyData → Bt → Prop}
end
end
end
end Pg

namespace Pg
open PySem PySem.Spec PyProof.Rows L2 Evl Wp
local macro_rules
  | `(tactic| simp only [$xs,*] $[$l]?) => do
    let ys := xs.getElems.filter fun x => x.raw[2].getId != `wpx2
    if ys.size == xs.getElems.size then Lean.Macro.throwUnsupported
    if ys.size == 0 then `(tactic| simp only [mV_e, mC_e, mO_e, mOp_e, mUn_e, mT_e, mNotT_e, mAndT_e, mOrT_e, mAnd_e, mOr_e, mNot_e, mIf_e, mChain_e, mNil_e, mCons_e, mTup_e, mLst_e, mLk_e, mCat_e, mCB_e, mCL_e, vD_e, vL_e, vM0_e, mSkip_e, mSeq_e, mAsg_e, mRet_e, mIfS_e, mDrop_e, vNil_e, vCons_e, mPar_e, bName_e, bTup_e, bNil_e, bCons_e, mUnp_e, mFor_e, mForR_e, mForR2_e, mApp_e, mYes_e, mLc_e, mLcR_e, mLcR2_e, mLcZ_e, gNo_e, gE_e, gO_e, mCall_e, mFn_e, mIsi_e, mSS_e, mNo_e, mPt_e, mSl_e, mDG_e, mDGd_e, mDIn_e, mPut_e, mSD_e, mRetO_e, vDof_e, mForZ_e, mNG_e, mNGd_e, mNPut_e, vN0_e, mLcN_e, mDGL_e, mForD_e, asN, mLc2_e, mForZT_e, mRep_e, mIfT_e, mExt_e, bUnl_e, mLcR3_e, mLZ_e, wipeE, pow6, pow7, pow9, pow15, pow18, pow39, asM, List.replicate, List.cons_append, List.nil_append, List.getElem?_cons_zero, List.getElem?_cons_succ, enAll, List.set_cons_zero, List.set_cons_succ, Nat.reduceSub, List.length_cons, List.length_nil, decide_eq_true_eq, Nat.reduceAdd, Nat.reduceLeDiff, true_and, Bool.not_true, Bool.not_false, if_true, if_false, Bool.false_eq_true, Bool.not_eq_true', decide_eq_false_iff_not, Int.reduceLE, Int.reduceLT, Int.reduceNeg, Int.reduceSub, Int.reduceAdd, and_true, PyData.int.injEq, Nat.zero_add, Int.zero_add, Int.sub_zero, addW_ii, addW_ib, addW_bi, addW_tt, addW_ll, subW_ii, subW_ib, subW_bi, mulW_ii, fdivW_ii, modW_ii, negW_i, eqW_ii, eqW_ss, eqW_t0, eqW_l0, neW_ii, neW_ss, neW_t0, neW_l0, ltW_ii, leW_ii, gtW_ii, geW_ii, isW_n, isntW_n, ixW_l, ixW_t, lenW_l, lenW_t, absW_i, intW_i, intW_b, tupW_l, tupW_t, lstW_l, lstW_t, sumW_l, allW_l, anyW_l, minW_2, maxW_2, slW_t, slW_l, revW_t, revW_l, reprW_1, strW_i, strW_b, sortW_l, sortW_t, Option.some.injEq, exists_eq_left', exists_eq_left, dKey, exists_and_left, exists_const, isRf_n, isRf_b, isRf_i, isRf_s, isRf_l, isRf_t] $[$l]?) else `(tactic| simp only [$ys,*, mV_e, mC_e, mO_e, mOp_e, mUn_e, mT_e, mNotT_e, mAndT_e, mOrT_e, mAnd_e, mOr_e, mNot_e, mIf_e, mChain_e, mNil_e, mCons_e, mTup_e, mLst_e, mLk_e, mCat_e, mCB_e, mCL_e, vD_e, vL_e, vM0_e, mSkip_e, mSeq_e, mAsg_e, mRet_e, mIfS_e, mDrop_e, vNil_e, vCons_e, mPar_e, bName_e, bTup_e, bNil_e, bCons_e, mUnp_e, mFor_e, mForR_e, mForR2_e, mApp_e, mYes_e, mLc_e, mLcR_e, mLcR2_e, mLcZ_e, gNo_e, gE_e, gO_e, mCall_e, mFn_e, mIsi_e, mSS_e, mNo_e, mPt_e, mSl_e, mDG_e, mDGd_e, mDIn_e, mPut_e, mSD_e, mRetO_e, vDof_e, mForZ_e, mNG_e, mNGd_e, mNPut_e, vN0_e, mLcN_e, mDGL_e, mForD_e, asN, mLc2_e, mForZT_e, mRep_e, mIfT_e, mExt_e, bUnl_e, mLcR3_e, mLZ_e, wipeE, pow6, pow7, pow9, pow15, pow18, pow39, asM, List.replicate, List.cons_append, List.nil_append, List.getElem?_cons_zero, List.getElem?_cons_succ, enAll, List.set_cons_zero, List.set_cons_succ, Nat.reduceSub, List.length_cons, List.length_nil, decide_eq_true_eq, Nat.reduceAdd, Nat.reduceLeDiff, true_and, Bool.not_true, Bool.not_false, if_true, if_false, Bool.false_eq_true, Bool.not_eq_true', decide_eq_false_iff_not, Int.reduceLE, Int.reduceLT, Int.reduceNeg, Int.reduceSub, Int.reduceAdd, and_true, PyData.int.injEq, Nat.zero_add, Int.zero_add, Int.sub_zero, addW_ii, addW_ib, addW_bi, addW_tt, addW_ll, subW_ii, subW_ib, subW_bi, mulW_ii, fdivW_ii, modW_ii, negW_i, eqW_ii, eqW_ss, eqW_t0, eqW_l0, neW_ii, neW_ss, neW_t0, neW_l0, ltW_ii, leW_ii, gtW_ii, geW_ii, isW_n, isntW_n, ixW_l, ixW_t, lenW_l, lenW_t, absW_i, intW_i, intW_b, tupW_l, tupW_t, lstW_l, lstW_t, sumW_l, allW_l, anyW_l, minW_2, maxW_2, slW_t, slW_l, revW_t, revW_l, reprW_1, strW_i, strW_b, sortW_l, sortW_t, Option.some.injEq, exists_eq_left', exists_eq_left, dKey, exists_and_left, exists_const, isRf_n, isRf_b, isRf_i, isRf_s, isRf_l, isRf_t] $[$l]?)
/-- a garden -/
structure Gv (t c : Int) (bs : List Bed) : Prop where
  t : -1000000 ≤ t ∧ t ≤ 1000000
  c : 1 ≤ c ∧ c ≤ 1000000
  few : bs.length ≤ 12
  p : ∀ b ∈ bs, -1000000 ≤ b.1 ∧ b.1 ≤ 1000000
  l : ∀ b ∈ bs, 1 ≤ b.2 ∧ b.2 ≤ 1000000000
  asc : bs.Pairwise fun a b => a.1 < b.1
section
variable {t c : Int} {bs : List Bed} {b : Bt} {R : PyData → Bt → Prop}
theorem Gv.mb (g : Gv t c bs) : MB t bs := mb_of ⟨by have := g.t; omega, by have := g.t; omega⟩ fun b hb => by have := g.p b hb; exact ⟨by omega, by omega⟩
theorem within_ex {x lo hi : Int} (q : R (.bool (decide (lo ≤ x ∧ x ≤ hi))) b) : M_is_number_within [.d (.int x), .d (.int lo), .d (.int hi)] b R := by
  simp only [M_is_number_within, B_is_number_within, S_is_number_within_1, M_is_number, B_is_number, S_is_number_1, isI, isB, wpx2, mTry_e, mRaise_e, mAsgX_e, mRetX_e, mDropX_e, mCallX_e, mMk_e, mMeth_e, mMeth0_e, mGet_e, mSet_e, mFnX_e, mCalm_e, mIsiR_e, mXf_e, mXis_e, mCnt_e, mSpec_e, calmM_e, mNever_e, eqI_ii, List.getD_cons_zero, List.getD_cons_succ, ne_eq, Nat.reduceEqDiff, Nat.add_eq_zero_iff, Nat.reduceLT, and_false, not_false_eq_true, Sl.d.injEq, Sl.x.injEq, exists_eq', exists_eq, exists_and_right, exists_const, and_self, List.map_nil, List.map_cons]
  by_cases h : lo ≤ x
  · rw [decide_eq_true h]
    simpa [h] using q
  · rw [decide_eq_false h]
    simpa [h] using q
theorem place_ex {x : Int} (q : R (.bool (decide (-1000000 ≤ x ∧ x ≤ 1000000))) b) : M_is_place [.d (.int x)] b R := by
  simp only [M_is_place, B_is_place, S_is_place_1, wpx2, mTry_e, mRaise_e, mAsgX_e, mRetX_e, mDropX_e, mCallX_e, mMk_e, mMeth_e, mMeth0_e, mGet_e, mSet_e, mFnX_e, mCalm_e, mIsiR_e, mXf_e, mXis_e, mCnt_e, mSpec_e, calmM_e, mNever_e, eqI_ii, List.getD_cons_zero, List.getD_cons_succ, ne_eq, Nat.reduceEqDiff, Nat.add_eq_zero_iff, Nat.reduceLT, and_false, not_false_eq_true, Sl.d.injEq, Sl.x.injEq, exists_eq', exists_eq, exists_and_right, exists_const, and_self, List.map_nil, List.map_cons]
  exact within_ex q
theorem tuple_ex {ds : List PyData} {n : Int} (q : R (.bool (decide ((ds.length : Int) = n))) b) : M_is_tuple_of [.d (.tuple ds), .d (.int n)] b R := by
  simp only [M_is_tuple_of, B_is_tuple_of, S_is_tuple_of_1, isT, wpx2, mTry_e, mRaise_e, mAsgX_e, mRetX_e, mDropX_e, mCallX_e, mMk_e, mMeth_e, mMeth0_e, mGet_e, mSet_e, mFnX_e, mCalm_e, mIsiR_e, mXf_e, mXis_e, mCnt_e, mSpec_e, calmM_e, mNever_e, eqI_ii, List.getD_cons_zero, List.getD_cons_succ, ne_eq, Nat.reduceEqDiff, Nat.add_eq_zero_iff, Nat.reduceLT, and_false, not_false_eq_true, Sl.d.injEq, Sl.x.injEq, exists_eq', exists_eq, exists_and_right, exists_const, and_self, List.map_nil, List.map_cons]
  exact q
end
end Pg

namespace Pg
open PySem PySem.Spec PyProof.Rows L2 Evl Wp
theorem put_at {b : Bt} {a C : Addr} {fs : List (Str × PyData)} : (b.put a C fs).os a = some (C, fs) := by simp [Bt.put]
theorem put_put {b : Bt} {a C C' : Addr} {fs fs' : List (Str × PyData)} : (b.put a C fs).put a C' fs' = b.put a C' fs' := by
  unfold Bt.put
  simp only [Bt.mk.injEq, true_and]
  funext x
  by_cases h : x = a <;> simp [h]
section
variable {isC : Addr → Prop} {f : Str} {i : Nat} {E : Wp.Env} {b : Bt} {a C : Addr} {fs : List (Str × PyData)} {u v : PyData} {R : PyData → Bt → Prop} {F : WEnds} {me : WE}
end
/-! ### sorted pairs -/
/-! ### other litres at a place -/
def wantL (p l : Int) (bs : List Bed) : List Bed := bs.filter (fun b => decide (b.1 ≠ p)) ++ if l = 0 then [] else [(p, l)]
section
variable {t c p l : Int} {bs : List Bed} {b : Bt} {R : PyData → Bt → Prop}
end
end Pg

namespace Wp
open PySem PySem.Spec PyProof.Rows L2 Evl
/-- what a class of errors without __init__ brings (over ValueError) -/
structure ErrZ (K : PySem.W.Frag) (mg : Str → Option Value) (x : Str) (C : Addr) : Prop where
  ex : PySem.W.excIn K C [.type "ValueError", .type "Exception", .type "BaseException", .type "object"] "ValueError.__new__" = true
  mg : mg x = some (.ref C)
  kp : PySem.W.keepIn K (.ref C) = true
  be : PySem.W.subIn K (.ref C) (.type "BaseException") = some true
  ty : PySem.W.typeIn K (.ref C) = some (.type "type")
theorem pmk_Z {X : Cx} {x : Str} {C : Addr} {p pos : Pos} (E : ErrZ X.K X.mg x C) (hg : Gl X x) (hdb : (x == ("__debug__" : Str)) = false := by decide) : PMk X (.Call (.Name x p) [] [] pos) (fun _ H Q => Q (.ref C) none H) :=
  Cn.pmk_own0 PySem.F.excBase_ValueError E.ex E.mg E.kp (raises_own E.be E.ty) hg hdb
end Wp
namespace Wp
open PySem PySem.Spec PyProof.Rows L2 Evl
/-- x.pop() of an own list, its answer dropped -/
def mPop (i : Nat) : WS := fun E b F => ∃ ds d, E[i]? = some (.l (ds ++ [d])) ∧ F.nx (E.set i (.l ds)) b
theorem mPop_e {i : Nat} {E : Env} {b : Bt} {F : WEnds} : mPop i E b F = ∃ ds d, E[i]? = some (.l (ds ++ [d])) ∧ F.nx (E.set i (.l ds)) b := rfl
end Wp
namespace Cn
open PySem PySem.Spec PyProof.Rows L2
/-- a call with n positional values and keywords ks, behind these in the parameters' order -/
def Bk (K : PySem.W.Frag) (fd : FuncData) (ps ks : List Str) (n : Nat) : Prop := ∀ (s : Shared) (us ws : List Value), K.In s.heap → us.length = n → ws.length = ks.length → BindsTo s fd ⟨us, ks.zip ws⟩ (ps.zip (us ++ ws))
section
variable {X : Cx} {k : Nat} {f : Addr} {fd : FuncData} {ps ks : List Str} {sp : Sp} {m : Str} {apos pos : Pos} {o : Expr} {kws : List Keyword} {ta : TE} {t : TA} {Wx : WX}
end
end Cn
namespace Wp
open PySem PySem.Spec PyProof.Rows L2 Evl
end Wp
namespace Wp
open PySem PySem.Spec PyProof.Rows L2 Evl
/-- an operator whose first operand may raise -/
def mOpX (w : W2) (ma : WEX) (mb : WE) : WEX := fun E b R Z => ma E b (fun x b1 => mb E b1 fun y b2 => w x y fun z => R z b2) Z
end Wp
namespace Wp
open PySem PySem.Spec PyProof.Rows L2 Evl
/-- == of two texts, in a suite too -/
def eqS (d e : PyData) (R : PyData → Prop) : Prop := ∃ i j, d = .str i ∧ e = .str j ∧ R (.bool (decide (i = j)))
theorem eqS_ss {i j : Str} {Q : PyData → Prop} : eqS (.str i) (.str j) Q = Q (.bool (decide (i = j))) := propext ⟨fun ⟨_, _, h1, h2, h⟩ => by cases h1; cases h2; exact h, fun h => ⟨_, _, rfl, rfl, h⟩⟩
end Wp

/-! own classes of errors over any built-in class (LookupError too) -/
namespace Cn
open PySem PySem.Spec PyProof.Rows L2
structure OexB (K : PySem.W.Frag) (C : Addr) : Prop where
  over : ∃ B nw ini bmB, ExcBaseFacts B nw ini bmB ∧ StoreFacts B bmB "object.__setattr__" "object" ∧ PySem.W.excInitIn K C bmB nw = true ∧ PySem.W.excOver K C bmB = true
  hd : PySem.W.hasDictIn K C = true
  sa : PySem.W.findIn K (.ref C) "__setattr__" = some (some (.builtin "object.__setattr__"))
  be : PySem.W.subIn K (.ref C) (.type "BaseException") = some true
  ty : PySem.W.typeIn K (.ref C) = some (.type "type")
  kp : PySem.W.keepIn K (.ref C) = true
theorem upd3 {H : Hp} {a dx : Addr} {o1 o2 o3 : HO} (ne : dx ≠ a) : upd (upd (upd H dx o1) a o2) dx o3 = upd (upd H dx o3) a o2 := by
  funext b
  unfold upd
  by_cases h1 : b = dx
  · rw [if_pos h1]
    by_cases h2 : b = a
    · exact absurd (h1.symm.trans h2) ne
    · rw [if_neg h2, if_pos h1]
  · simp only [if_neg h1]
section
variable {X : Cx} {pins : List (Addr × Obj)} {σ : L2.St} {H : Hp} {s : Shared} {a C : Addr} {f : Str} {y : V} {u : Value}
theorem setB {Q : Unit → Shared → Prop} {E : Value → Shared → Prop} {A : Around} (T : OexB X.K C) (I : Inv X pins σ H s) (ha : H a = some (exo a C none)) (hno : PySem.W.findIn X.K (.ref C) f = some none) (ry : RelV y u)
    (k : ∀ dx s', H dx = none → dx ≠ a → Inv X pins σ (upd (upd H dx (exd dx [(f, y)])) a (exo a C (some dx))) s' → Q () s') : wpAny (model X.prog X.w) A (setAttr (.ref a) f u) Q E s := by
  obtain ⟨B, nw, ini, bmB, FB, SF, qi, ov⟩ := T.over
  obtain ⟨t1, ho⟩ := exo_at I.hok ha
  obtain ⟨hp, g, d, t, os⟩ := s
  obtain ⟨cd, hc, hh⟩ := PySem.W.any_some T.hd
  refine PySem.W.set_plain I.kIn (od := none) ⟨ho, rfl, rfl, trivial⟩ T.sa (PySem.W.osa_openX (r := none) (od := none) SF I.kIn ⟨ho, rfl, rfl, trivial⟩ ov (by unfold PySem.W.takerIn; rw [hno]; rfl) fun b => ?_)
  refine wpAny_bind (wpAny_pure (wpAny_bind (PySem.W.instanceDict_exc ho (PySem.W.looks_clsIn I.kIn hc) hh ?_)))
  have lt := Heap.lt_size ho
  have n1 : hp.objs.size ≠ a := Nat.ne_of_gt lt
  have hda : H hp.objs.size = none := I.hok.fresh (Nat.le_refl _)
  have hg0 : (hp.push (PySem.W.dictOf [] 0)).get? hp.objs.size = some (PySem.W.dictOf [] 0) := Heap.get?_push_at rfl rfl
  have ha1 : (hp.push (PySem.W.dictOf [] 0)).get? a = some (PySem.W.excObj C t1 none .none) := Heap.get?_push_of_some _ ho
  have I1 := I.laid (t' := t + 1) (a := hp.objs.size) (o := exd hp.objs.size []) (h' := hp.push (PySem.W.dictOf [] 0)) (fun b o z => Heap.get?_push_of_some _ z) (Nat.le_refl _) (exd_ok (mA := fun _ => none) (Heap.Ns1.of_empty ⟨_, #[], _, hg0, rfl, fun e he => absurd he (by simp), fun _ => rfl⟩) fun g => True.intro)
  have ha2 := Heap.get?_update_self (fun o : Obj => { o with dict := some hp.objs.size }) ha1 rfl
  have I2 := I1.write (t' := t + 1) (x := a) (e := a) (o := exo a C (some hp.objs.size)) (h' := (hp.push (PySem.W.dictOf [] 0)).update a fun o => { o with dict := some hp.objs.size }) (by rw [upd_ne n1.symm, ha]; exact True.intro) (.inl rfl)
    (fun b o hb z => (Heap.get?_update_ne _ _ _ _ hb).trans z) ⟨_, ha2⟩ (exo_ok ha2)
  refine PySem.HandSPX.store_in_new (hp := (hp.push (PySem.W.dictOf [] 0)).update a fun o => { o with dict := some hp.objs.size }) ⟨_, #[], _, (Heap.get?_update_ne _ _ _ _ n1).trans hg0, rfl, fun e he => absurd he (by simp), fun _ => rfl⟩ fun h' tk' hn hs => ?_
  have I3 := I2.write (t' := tk') (x := hp.objs.size) (e := hp.objs.size) (o := exd hp.objs.size [(f, y)]) (h' := h') (by rw [upd_ne n1, upd_same]; exact True.intro) (.inl rfl) (fun b o hb z => (hs.2 b hb).trans z)
    (by obtain ⟨o, _, _, z, _⟩ := hn; exact ⟨o, z⟩) (exd_ok hn (relO_put (fs := []) ry fun g => True.intro))
  rw [upd3 n1] at I3
  exact k _ _ hda n1 I3
/-- self.f = e of an error that has no field yet -/
def tSetB (K : PySem.W.Frag) (f : Str) (to te : TE) : TS := fun D σ H => te σ H fun y H1 => to σ H1 fun x H2 => ∃ a C : Addr, x = .ref a ∧ OexB K C ∧ PySem.W.findIn K (.ref C) f = some none ∧ H2 a = some (exo a C none) ∧ ∀ dx, H2 dx = none → dx ≠ a → D.nx σ (upd (upd H2 dx (exd dx [(f, y)])) a (exo a C (some dx)))
theorem ps_setB {o e : Expr} {p' pos : Pos} {to te : TE} (ho : PE X o to) (he : PE X e te) (hs : swapsWith e (some (.Attribute o f p')) pos.line X.env = pure false := by rfl) : PS X (.Assign [.Attribute o f p'] e pos) (tSetB X.K f to te) := by
  constructor
  intro pins s σ H D I h
  refine plainObj_wpAny_Assign_Attribute (thn (he.run pins s σ H _ I h) ?_) hs
  rintro v s1 ⟨y, H1, I1, r1, q1⟩
  refine thn (ho.run pins s1 σ H1 _ I1 q1) ?_
  rintro u s2 ⟨x, H2, I2, r2, a, C, rfl, T, hno, ea, q⟩
  obtain rfl : u = Value.ref a := r2
  exact setB T I2 ea hno r1 fun dx s' n ne J => ⟨σ, _, J, q dx n ne⟩
end
section
variable {P : Program} {w : World} {K : PySem.W.Frag} {mg : Str → Option Value} {base : Heap}
theorem readsB {C : Addr} {f y z : Str} {vs : List V} {H : Hp} {Q : VK} {E : XK} (T : OexB K C) (hno : PySem.W.findIn K (.ref C) f = some none) (h : spI C f vs H Q E) : tSetB K f (tVar 0) (tVar 1) { nx := fun _ H' => Q .non H', rt := Q } (start [y, z] vs) H := by
  obtain ⟨a, v, rfl, ha, q⟩ := h
  exact ⟨v, rfl, .ref a, rfl, a, C, rfl, T, hno, ha, q⟩
end
end Cn
namespace Wp
open PySem PySem.Spec PyProof.Rows L2 Evl
section
variable {X : Cx} {C fI : Addr} {fd : FuncData} {ps : List Str} {x f : Str} {p pos : Pos} {e : Expr} {m : WE} {k : Nat}
theorem pmk_ownB {CX : CXT} {es : List Expr} {ta : TA} {sp : Sp} (T : Cn.OexB X.K C) (iC : PySem.W.findIn X.K (.ref C) "__init__" = some (some (.ref fI))) (tI : PySem.W.typeIn X.K (.ref fI) = some (.type "function")) (F1 : FnOk X.prog X.w X.K X.mg X.base CX k fI fd ps sp) (hr : Room (k + 1) X.A) (hb : Binds X.K fd ps [])
    (hx : Passes CX X (fun _ _ _ => False)) (hg : Gl X x) (hm : X.mg x = some (.ref C)) (ha : PA X (e :: es) ta) (hdb : (x == ("__debug__" : Str)) = false := by decide) (hs : starEach (e :: es) X.env = (false, eval e X.env) :: starEach es X.env := by rfl) (hpl : (backTo pos (starEach es X.env)).any (·.1) = false := by rfl) :
    PMk X (.Call (.Name x p) (e :: es) [] pos) (tMkO C sp [] ta) := by
  intro pins s σ H Q I h
  obtain ⟨B, nw, ini, bmB, FB, SF, qi, ov⟩ := T.over
  refine wpAny_Call_Name_kw (ld_glob I hg hm ?_ hdb)
  refine PySem.W.callWith_K (h₀ := X.base) I.ok.mod.kin T.kp (thn (ha.run pos pins s σ H _ I h) ?_) hs hpl
  rintro us ⟨hp, g, dr, tk, os⟩ ⟨vs, H1, I1, r1, hz, q1⟩
  refine ⟨I1.kIn, ?_⟩
  obtain ⟨nm, N, qn, bs, bm, hd, sn, sub, ab, col, dd, k0, k1, k2, k3, k5, hC, hT⟩ := PySem.W.excInit_of I1.kIn qi
  have big : hp.objs.size ≤ hp.objs.size + 1 := by omega
  have hn : H1 (hp.objs.size + 1) = none := I1.hok.fresh big
  have hq := q1 _ hn
  rw [List.append_nil] at hq
  have up : ∀ b o, hp.get? b = some o → ((hp.push (PySem.W.kdv_tup us)).push (PySem.HandSPX.excO C hp.objs.size)).get? b = some o := by
    intro b o z
    exact Heap.get?_push_of_some _ (Heap.get?_push_of_some _ z)
  have at1 : ((hp.push (PySem.W.kdv_tup us)).push (PySem.HandSPX.excO C hp.objs.size)).get? (hp.objs.size + 1) = some (PySem.HandSPX.excO C hp.objs.size) := by heap_get
  have I2 := I1.laid (t' := tk) (o := exo (hp.objs.size + 1) C none) up big (exo_ok at1)
  have r2 : Vals (V.ref (hp.objs.size + 1) :: vs) (Value.ref (hp.objs.size + 1) :: us) := .cons rfl r1
  have hl : (Value.ref (hp.objs.size + 1) :: us).length = ps.length := r2.length.symm.trans (F1.len _ _ _ _ hq)
  have hus : us.length ≤ sizeLine := by
    have := Paired.length r1
    rw [sizeLine_eq]
    omega
  have b0 := hb ⟨(hp.push (PySem.W.kdv_tup us)).push (PySem.HandSPX.excO C hp.objs.size), g, dr, tk, os⟩ (Value.ref (hp.objs.size + 1) :: us) I2.kIn (by rw [List.append_nil]; exact hl)
  rw [List.append_nil] at b0
  refine wpAny_call (PySem.HandSPX.call_own FB hT hC (PySem.W.looks_findIn I1.kIn iC) (fun self => PySem.W.bind_fn I1.kIn self tI) hus (codeAny_mono (F1.run _ X.stack _ _ ⟨Value.ref (hp.objs.size + 1) :: us, []⟩ _ _ _ (fun _ _ _ => False) (hr.make C us []) (I2.env0.make C us []) b0 r2 hq) ?_))
  rintro (er | fl) s' z
  · exact hx pins σ _ _ er s' I2 z
  · cases fl with
    | ret u =>
      obtain ⟨v, H2, os2, bare2, un2, hok2, rv, rfl, d, fs, ea, ed, hd1, q2⟩ := z
      obtain ⟨h2, g2, d2, t2, os'⟩ := s'
      exact ⟨rv, mk_endN (raises_own T.be T.ty) I1 big up un2 hok2 os2 bare2 ea ed hd1 q2⟩
    | _ => exact z.elim
/-- C(e) -/
theorem pmk_B (T : Cn.OexB X.K C) (iC : PySem.W.findIn X.K (.ref C) "__init__" = some (some (.ref fI))) (tI : PySem.W.typeIn X.K (.ref fI) = some (.type "function")) (F1 : FnOk X.prog X.w X.K X.mg X.base CX0 k fI fd ps (Cn.spI C f)) (hr : Room (k + 1) X.A) (hb : Binds X.K fd ps []) (hg : Gl X x) (hm : X.mg x = some (.ref C)) (he : PE X e (tE m))
    (hdb : (x == ("__debug__" : Str)) = false := by decide) (hs : starEach [e] X.env = (false, eval e X.env) :: starEach [] X.env := by rfl) (hpl : (backTo pos (starEach [] X.env)).any (·.1) = false := by rfl) : PMk X (.Call (.Name x p) [e] [] pos) (tMk1 C f (tE m)) := by
  intro pins s σ H Q I h
  have ha : PA X [e] (tCons (tE m) tNil) := pa_cons he pa_nil hs
  refine pmk_ownB T iC tI F1 hr hb (fun _ _ _ _ _ _ _ z => z.elim) hg hm ha hdb hs hpl pins s σ H Q I ?_
  refine tE_mono h fun v H1 q => ⟨by simp, fun a na => ⟨a, v, rfl, upd_same, fun dx hd ne => ⟨rfl, dx, [(f, v)], upd_same, by rw [upd_ne ne]; exact upd_same, ?_, ?_⟩⟩⟩
  · rw [upd_ne ne] at hd
    exact hd
  · have hd1 : H1 dx = none := by rw [upd_ne ne] at hd; exact hd
    have e2 : upd (del (upd (upd (upd H1 a (exo a C none)) dx (exd dx [(f, v)])) a (exo a C (some dx))) a) dx (.xd [(f, v)]) = upd H1 dx (.xd [(f, v)]) := by
      funext b
      unfold upd del
      by_cases h1 : b = dx
      · rw [if_pos h1, if_pos h1]
      · rw [if_neg h1, if_neg h1]
        by_cases h2 : b = a
        · rw [if_pos h2, h2, na]
        · rw [if_neg h2]
          show (if b = a then some (exo a C (some dx)) else if b = dx then some (exd dx [(f, v)]) else if b = a then some (exo a C none) else H1 b) = H1 b
          rw [if_neg h2, if_neg h1, if_neg h2]
    rw [e2]
    exact q dx hd1
end
/-- what such a class brings -/
structure ErrBC (P : Program) (w : World) (K : PySem.W.Frag) (mg : Str → Option Value) (base : Heap) (x : Str) (C fI : Addr) (fd : FuncData) (p fl : Str) : Prop where
  T : Cn.OexB K C
  iC : PySem.W.findIn K (.ref C) "__init__" = some (some (.ref fI))
  tI : PySem.W.typeIn K (.ref fI) = some (.type "function")
  F1 : FnOk P w K mg base CX0 1 fI fd ["self", p] (Cn.spI C fl)
  hb : Binds K fd ["self", p] []
  hm : mg x = some (.ref C)
def ErrB (P : Program) (w : World) (K : PySem.W.Frag) (mg : Str → Option Value) (base : Heap) (x : Str) (C : Addr) (fl : Str) : Prop := ∃ fI fd p, ErrBC P w K mg base x C fI fd p fl
theorem pmk_EB {X : Cx} {C : Addr} {x fl : Str} {p pos : Pos} {e : Expr} {m : WE} (h : ErrB X.prog X.w X.K X.mg X.base x C fl) (hr : Room 2 X.A) (hg : Gl X x) (he : PE X e (tE m)) (hdb : (x == ("__debug__" : Str)) = false := by decide) (hs : starEach [e] X.env = (false, eval e X.env) :: starEach [] X.env := by rfl) (hpl : (backTo pos (starEach [] X.env)).any (·.1) = false := by rfl) : PMk X (.Call (.Name x p) [e] [] pos) (tMk1 C fl (tE m)) := by
  obtain ⟨fI, fd, q, h⟩ := h
  exact pmk_B h.T h.iC h.tI h.F1 hr h.hb hg h.hm he hdb hs hpl
/-- over LookupError -/
theorem oexB_LE {K : PySem.W.Frag} {C : Addr} (h1 : PySem.W.excInitIn K C [.type "LookupError", .type "Exception", .type "BaseException", .type "object"] "LookupError.__new__" = true) (h2 : PySem.W.excOver K C [.type "LookupError", .type "Exception", .type "BaseException", .type "object"] = true) (hd : PySem.W.hasDictIn K C = true)
    (sa : PySem.W.findIn K (.ref C) "__setattr__" = some (some (.builtin "object.__setattr__"))) (be : PySem.W.subIn K (.ref C) (.type "BaseException") = some true) (ty : PySem.W.typeIn K (.ref C) = some (.type "type")) (kp : PySem.W.keepIn K (.ref C) = true) : Cn.OexB K C :=
  ⟨⟨_, _, _, _, PySem.F.excBase_LookupError, PySem.F.store_LookupError, h1, h2⟩, hd, sa, be, ty, kp⟩
end Wp

/-! several clauses 'except x as n' and 'except (x, y) as n' -/
namespace Cn
open PySem PySem.Spec PyProof.Rows L2
/-- what a clause's test says of the class of the error -/
def ClT (X : Cx) (t : Expr) (m : Value → Option Bool) : Prop := ∀ (a : Addr) (oe : Obj) (pn pins : List (Addr × Obj)) (σ : L2.St) (H : Hp) (s : Shared) (cls : Value) (b : Bool) (Q : Bool → Shared → Prop) (E : Value → Shared → Prop),
  Inv (X.suite a ((a, oe) :: pn)) pins σ H s → PySem.W.Looks (model X.prog X.w) s.heap (typeOf (.ref a)) cls → m cls = some b → (∀ h', (∀ q o, s.heap.get? q = some o → h'.get? q = some o) → Q b { s with heap := h' }) →
  wpAny (model X.prog X.w) (X.A.mark (some (.ref a))) (eval t X.env) (fun c s1 => wpAny (model X.prog X.w) (X.A.mark (some (.ref a))) (excMatches (.ref a) c) Q E s1) E s
section
variable {X : Cx} {x y : Str} {c d : Value} {p p1 p2 : Pos} {k : Nat}
end
/-- what the clauses wish of an error, one after another -/
def wClauses (i : Nat) (Wout : WX) (D : Ends) : List ((Value → Option Bool) × (Addr → Value → Option Addr → TS)) → WX
  | [] => Wout
  | (m, ts) :: r => fun cls d σ H => ∃ b, m cls = some b ∧ (b = true → ∀ a, H a = none → ts a cls d { nx := fun σ' H' => D.nx (σ'.set i none) H', rt := D.rt, bk := fun σ' H' => D.bk (σ'.set i none) H', ct := fun σ' H' => D.ct (σ'.set i none) H' } (σ.set i (some (.ref a))) H) ∧ (b = false → wClauses i Wout D r cls d σ H)
inductive Clauses (X : Cx) (n : Str) : List ExceptHandler → List ((Value → Option Bool) × (Addr → Value → Option Addr → TS)) → Prop
  | nil : Clauses X n [] []
  | cons {t : Expr} {m : Value → Option Bool} {ts : Addr → Value → Option Addr → TS} {b₀ : Stmt} {suite : List Stmt} {pos' : Pos} {hds : List ExceptHandler} {l : List ((Value → Option Bool) × (Addr → Value → Option Addr → TS))} (ht : ClT X t m)
      (hsu : ∀ (a : Addr) (oe : Obj) (cls : Value) (d : Option Addr) (pn : List (Addr × Obj)), Zn cls d oe → (∃ vs, oe.data = .fields vs) → PSs (X.suite a ((a, oe) :: pn)) (b₀ :: suite) (ts a cls d)) (r : Clauses X n hds l) :
      Clauses X n (.ExceptHandler (some t) (some n) (b₀ :: suite) pos' :: hds) ((m, ts) :: l)
section
variable {X : Cx} {n : Str} {i : Nat} {body : List Stmt} {h₀ : ExceptHandler} {hds : List ExceptHandler} {l : List ((Value → Option Bool) × (Addr → Value → Option Addr → TS))} {pos : Pos} {tb : WX → TS} {Wout : WX}
end
end Cn
namespace Wp
open PySem PySem.Spec PyProof.Rows L2 Evl
/-- the clauses one after another: which errors a clause takes, and its suite -/
def mClauses (xc : XC) (i : Nat) (c : Nat) (s : Sl) (E : Env) (b : Bt) (F : WEnds) : List ((Nat → Bool) × (Addr → Addr → Nat → WS)) → Prop
  | [] => F.xx (c + 1) s E b
  | (cap, ms) :: r => if cap c = true then (if (xc c).2 = "" then ∀ a dd, ms a dd c (E.set i (.r a)) b { nx := fun E2 b2 => F.nx (E2.set i .no) b2, rt := F.rt, bk := fun E2 b2 => F.bk (E2.set i .no) b2, ct := fun E2 b2 => F.ct (E2.set i .no) b2 } else ∃ d, s = .d d ∧ ∀ a dd, ms a dd c (E.set i (.x a dd (xc c).2 d c)) b { nx := fun E2 b2 => F.nx (E2.set i .no) b2, rt := F.rt, bk := fun E2 b2 => F.bk (E2.set i .no) b2, ct := fun E2 b2 => F.ct (E2.set i .no) b2 }) else mClauses xc i c s E b F r
def mTryN (xc : XC) (n i : Nat) (l : List ((Nat → Bool) × (Addr → Addr → Nat → WS))) (mb : WS) : WS := fun E b F => mb E b { F with xx := fun c s E1 b1 => match c with
  | 0 => F.xx 0 s E1 b1
  | c + 1 => c < n ∧ mClauses xc i c s E1 b1 F l }
inductive ClauseM (X : Cx) (xc : XC) (n : Nat) (nm : Str) : List ExceptHandler → List ((Nat → Bool) × (Addr → Addr → Nat → WS)) → Prop
  | nil : ClauseM X xc n nm [] []
  | cons {t : Expr} {m : Value → Option Bool} {cap : Nat → Bool} {ms : Addr → Addr → Nat → WS} {b₀ : Stmt} {suite : List Stmt} {pos' : Pos} {hds : List ExceptHandler} {l : List ((Nat → Bool) × (Addr → Addr → Nat → WS))} (ht : Cn.ClT X t m) (hcap : ∀ c, c < n → m (.ref (xc c).1) = some (cap c))
      (hsu : ∀ (a dd : Addr) (oe : Obj) (c : Nat) (pn : List (Addr × Obj)), c < n → Zn (.ref (xc c).1) (dOf xc c dd) oe → (∃ vs, oe.data = .fields vs) → PSs (X.suite a ((a, oe) :: pn)) (b₀ :: suite) (tS noX (ms a dd c))) (r : ClauseM X xc n nm hds l) :
      ClauseM X xc n nm (.ExceptHandler (some t) (some nm) (b₀ :: suite) pos' :: hds) ((cap, ms) :: l)
section
variable {X : Cx} {nm : Str} {i n : Nat} {body : List Stmt} {h₀ : ExceptHandler} {hds : List ExceptHandler} {pos : Pos} {xc : XC} {mb : WS} {l : List ((Nat → Bool) × (Addr → Addr → Nat → WS))} {Wx : WX}
end
end Wp
namespace Wp
open PySem PySem.Spec PyProof.Rows L2 Evl
/-- the first place of c -/
def idxB (c : Bool) : List Bool → Option Nat
  | [] => none
  | z :: r => if z = c then some 0 else (idxB c r).map (· + 1)
/-- l.index(x) among truth values -/
def mIdx (ml m : WE) : WE := fun E b R => ml E b fun l b1 => ∃ bs : List Bool, l = .list (bs.map .bool) ∧ m E b1 fun d b2 => ∃ c j, d = .bool c ∧ idxB c bs = some j ∧ R (.int (j : Nat)) b2
end Wp

/-! C.m(o, ..): a def of the class C called by the class -/
namespace Cn
open PySem PySem.Spec PyProof.Rows L2
/-- what a class brings for C.m -/
structure ClsM (K : PySem.W.Frag) (C : Addr) (m : Str) (f : Addr) : Prop where
  ga : PySem.W.specialIn K (.ref C) "__getattribute__" = some (some (.builtin "type.__getattribute__"))
  rd : PySem.W.readsIn K C (.type "type") = true
  fd : PySem.W.findCls K (.ref C) (.type "type") m = some (.val (.ref f))
  kp : PySem.W.keepIn K (.ref f) = true
section
variable {X : Cx} {k : Nat} {f C : Addr} {fd : FuncData} {ps : List Str} {sp : Sp} {x m : Str} {p1 p2 pos : Pos} {e : Expr} {es : List Expr} {t : TA} {Wx : WX}
end
end Cn
namespace Wp
open PySem PySem.Spec PyProof.Rows L2 Evl
section
variable {X : Cx} {k : Nat} {f C : Addr} {fd : FuncData} {ps : List Str} {mf : WFX} {gs : WG} {x m : Str} {p1 p2 pos : Pos} {e : Expr} {es : List Expr} {Wx : WX} {xc : XC}
end
/-- a if t else c, where a and c may raise -/
def mIfX (mt : WT) (ma mb : WEX) : WEX := fun E b R Z => mt E b fun t b1 => if t = true then ma E b1 R Z else mb E b1 R Z
end Wp
namespace Wp
open PySem PySem.Spec PyProof.Rows L2 Evl
/-- != of two ints, in a suite too -/
def neI (d e : PyData) (R : PyData → Prop) : Prop := ∃ i j, d = .int i ∧ e = .int j ∧ R (.bool (!decide (i = j)))
end Wp

/-! o[i] by an own __getitem__ that may raise -/
namespace Cn
open PySem PySem.Spec PyProof.Rows L2
/-- what a class brings for o[i] -/
structure SubC (K : PySem.W.Frag) (C f : Addr) : Prop where
  fd : PySem.W.findIn K (.ref C) "__getitem__" = some (some (.ref f))
  fn : PySem.W.fnIn K f = true
  isf : PySem.W.isFn K (.ref f) = true
def tSubS (isC : Addr → Prop) (sp : Sp) (E : L2.St → XK) (to ti : TE) : TE := fun σ H Q => to σ H fun x H1 => ti σ H1 fun y H2 => ∃ a C dx fs, x = .ref a ∧ isC C ∧ H2 a = some (.ins C dx fs) ∧ sp [.ref a, y] H2 Q (E σ)
section
variable {X : Cx} {k : Nat} {f : Addr} {fd : FuncData} {ps : List Str} {sp : Sp} {pos : Pos} {o i : Expr} {to ti : TE} {Wx : WX}
theorem pe_subX {isC : Addr → Prop} (hc : ∀ C, isC C → SubC X.K C f) (F : FnX X.prog X.w X.K X.mg X.base k f fd ps sp) (gd : X.A.guards = some []) (room : Room (k + 1) X.A) (bd : Binds X.K fd ps []) (tk : Takes X Wx) (ho : PE X o to) (hi : PE X i ti)
    (hsl : ∀ v u : Value, subscripted i true v u = runValue (.builtin "lifetime.subscript" ⟨[v, u], []⟩) := by intro _ _; with_unfolding_all rfl) :
    PE X (.Subscript o i pos) (tSubS isC sp (WE Wx) to ti) := by
  refine ⟨fun pins s σ H Q I h => ?_⟩
  refine Subscript_ (binT ho hi I h fun v u s2 x y H2 I2 rx ry q => ?_)
  obtain ⟨a, C, dx, fs, rfl, hC, hin, q⟩ := q
  obtain rfl : v = Value.ref a := rx
  obtain ⟨oe, od, J⟩ := ins_at I2 hin
  obtain ⟨m, hF⟩ := I2.fr
  have c := hc C hC
  refine PySem.W.sub_K hF I2.ok.mod.kin J c.fd c.fn c.isf ?_ (hsl _ _)
  have rel : Vals [V.ref a, y] [Value.ref a, u] := .cons rfl (.cons ry .nil)
  have l0 : [Value.ref a, u].length = ps.length := rel.length.symm.trans (F.len _ _ _ _ q)
  have b0 := bd s2 [Value.ref a, u] I2.kIn (by rw [List.append_nil]; exact l0)
  rw [List.append_nil] at b0
  refine wpAny_call (codeAny_mono (F.run X.A.in1 X.stack s2 H2 ⟨[Value.ref a, u], []⟩ [Value.ref a, u] _ Q (WE Wx σ) gd room.in1 I2.env0.in1 b0 rel q) ?_)
  rintro (_ | fl) s' z
  · exact passAt tk σ pins H2 s2 _ s' I2 z
  · cases fl with
    | ret u => exact I2.after z
    | _ => exact z.elim
end
end Cn
namespace Wp
open PySem PySem.Spec PyProof.Rows L2 Evl
def mSubX (isC : Addr → Prop) (mf : WFX) (mo mi : WE) : WEX := fun E b R Z => mo E b fun d b1 => mi E b1 fun e b2 => ∃ a C fs, d = refD a ∧ b2.os a = some (C, fs) ∧ isC C ∧ mf [.d d, .d e] b2 R fun c s b3 => c ≠ 0 ∧ Z c s b3
theorem mSubX_e {isC : Addr → Prop} {mf : WFX} {mo mi : WE} {E : Env} {b : Bt} {R : PyData → Bt → Prop} {Z : Nat → Sl → Bt → Prop} : mSubX isC mf mo mi E b R Z = mo E b fun d b1 => mi E b1 fun e b2 => ∃ a C fs, d = refD a ∧ b2.os a = some (C, fs) ∧ isC C ∧ mf [.d d, .d e] b2 R fun c s b3 => c ≠ 0 ∧ Z c s b3 := rfl
theorem pm_subX {X : Cx} {k : Nat} {f : Addr} {fd : FuncData} {ps : List Str} {mf : WFX} {pos : Pos} {o i : Expr} {mo mi : WE} {Wx : WX} {xc : XC} {isC : Addr → Prop} (hc : ∀ C, isC C → Cn.SubC X.K C f) (F : Cn.FnX X.prog X.w X.K X.mg X.base k f fd ps (spOfX xc mf)) (gd : X.A.guards = some []) (room : Room (k + 1) X.A) (bd : Binds X.K fd ps []) (tk : Takes X Wx) (ho : PE X o (tE mo)) (hi : PE X i (tE mi))
    (hsl : ∀ v u : Value, subscripted i true v u = runValue (.builtin "lifetime.subscript" ⟨[v, u], []⟩) := by intro _ _; with_unfolding_all rfl) : PE X (.Subscript o i pos) (tX xc Wx (mSubX isC mf mo mi)) := (Cn.pe_subX hc F gd room bd tk ho hi hsl).weak fun σ H Q ⟨W, H0, E, b, R, Z, S, hm, q, z⟩ =>
  ⟨W, H0, E, b, _, S, hm, fun d b1 v H1 h1 k1 d1 t1 => ⟨W, H0, E, b1, _, S.step k1 d1, h1, fun e b2 y H2 h2 k2 d2 t2 => by
    obtain ⟨a, C, fs, rfl, os, hC, h2⟩ := h2
    have := t1.rf_inv
    subst this
    obtain ⟨dx, us, hi, hp⟩ := W.obs d2 a C fs os
    exact ⟨a, C, dx, us, rfl, hC, hi, spx_of (.cons (ar_rf a) (.cons (show ArR W H2 y (.d e) from t2) .nil)) d2 (k1.trans k2) h2 q z⟩⟩⟩
end Wp

namespace Wp
open PySem PySem.Spec PyProof.Rows L2
def spLaw (K : PySem.W.Frag) : Sp := fun vs H Q _ => ∃ (a : Addr) (ns : List Int), vs = [.ref a] ∧ SqL K H a (ns.map V.int) ∧ ns.length ≤ 63 ∧ ∀ H', Q (.bl true) H'
/-! ### the end of a law, where what the interpreter keeps of its own is at hand -/
theorem lawM {P : Program} {w : World} {K : PySem.W.Frag} {mg mb : Str → Option Value} {k : Nat} {fa a : Addr} {fd : FuncData} {x : Str} {sp : Sp} {s : Shared} {vs : List Value} {ns : List Int}
    (inK : K.In s.heap) (gl : s.heap.Ns mainGlobals mg) (bt : s.heap.Ns builtinsNs mb) (boot : ∀ x : Str, x ≠ "__name__" → mb x = bootBuiltins x) (lim : s.heap.NoLimit) (mods : ∃ mm, s.heap.Ns sysModules mm) (gens : s.gens = #[])
    (at_a : s.heap.get? a = some { cls := .type "list", data := .seq vs.toArray }) (nums : IntsAre vs ns) (few : ns.length ≤ sizeLine) (room : Room k callerA)
    (F : ∀ base : Heap, K.In base → base.Ns mainGlobals mg → (∃ o, base.get? sysModules = some o) → Cn.FnG P w K mg base k fa fd [x] sp) (binds : ∀ (s : Shared) (u : Value), BindsTo s fd ⟨[u], []⟩ [(x, u)])
    (pr : ∀ H : Hp, Only H → SqL K H a (ns.map V.int) → sp [.ref a] H (fun v _ => v = .bl true) fun _ _ _ => False) :
    codeAny (model P w) callerA (.call (.ref fa) ⟨[.ref a], []⟩) (fun r s' => r = .ok (.ret (.bool true)) ∧ OldK s.heap s'.heap ∧ s'.os = s.os ∧ AllBare s'.gens) s := by
  have rel := vals_ints nums
  have main : ∀ H : Hp, Only H → SqL K H a (ns.map V.int) → HOk P w H s.heap → (∀ b, H b ≠ none → b = a ∧ K.lookup a = none) →
      codeAny (model P w) callerA (.call (.ref fa) ⟨[.ref a], []⟩) (fun r s' => r = .ok (.ret (.bool true)) ∧ OldK s.heap s'.heap ∧ s'.os = s.os ∧ AllBare s'.gens) s := by
    intro H only sq hok tr
    have names : ∀ {b : Addr} {m : Str → Option Value}, s.heap.Ns b m → (hidT s.heap H).Ns b m := by
      rintro b m ⟨o, es, ep, e, d, r⟩
      refine ⟨o, es, ep, hidT_get e (Classical.byContradiction fun n => ?_), d, r⟩
      obtain ⟨rfl, _⟩ := tr b n
      have z := at_a.symm.trans e
      injection z with z
      subst z
      exact Data.noConfusion d
    have inB : K.In (hidT s.heap H) := fun b o e => hidT_get (inK b o e) (Classical.byContradiction fun n => by
      obtain ⟨rfl, z⟩ := tr b n
      rw [z] at e
      cases e)
    have e0 : Env0 P w K mg (hidT s.heap H) callerA [] s H := by
      refine ⟨rfl, ⟨inB, names gl, ⟨mb, names bt, boot⟩, ?_⟩, fun b o e => of_hidT e, Nat.le_of_eq (hidT_size _ _), trivial, fun b z => ?_, hok, .of_eq gens⟩
      · obtain ⟨mc, h1, h2⟩ := lim
        exact ⟨mc, names h1, h2⟩
      · simp [frs] at z
    refine codeAny_mono ((F _ inB (names gl) (by obtain ⟨mm, hm⟩ := mods; obtain ⟨o, _, _, e, _⟩ := names hm; exact ⟨o, e⟩)).run callerA [] s H ⟨[.ref a], []⟩ [.ref a] [.ref a] _ _ rfl room e0 (binds s (.ref a)) (.cons rfl .nil) (pr H only sq)) ?_
    rintro (_ | _ | _ | _ | u) s' z
    case ok.ret =>
      obtain ⟨v, H', os, bare, un, hok', ru, rfl⟩ := z
      cases ru
      refine ⟨rfl, OldK.of_keep fun b o e => ?_, os, bare⟩
      rcases only b with n | ⟨ob, xs, fz⟩
      · exact un.keep b o e n (by simp [frs]) (by simp)
      · have o1 : s.heap.get? b = some ob := (hok b _ fz).1
        have o2 : s'.heap.get? b = some ob := (hok' b _ (un.frzs b ob _ fz)).1
        rw [o2, ← o1, e]
    all_goals exact z.elim
  cases lk : K.lookup a with
  | some o =>
    have e := (inK a o lk).symm.trans at_a
    injection e with e
    subst e
    exact main (fun _ => none) (fun _ => .inl rfl) (.inr ⟨_, vs.toArray, _, lk, rfl, rfl, rfl, by rw [List.size_toArray, nums.length]; exact few, by simpa using rel⟩) (fun b u z => nomatch z) (fun b z => absurd rfl z)
  | none =>
    let o : HO := .frz { cls := .type "list", data := .seq vs.toArray } (.lst (ns.map V.int))
    have off : ∀ b, b ≠ a → (upd (fun _ => none) a o) b = none := fun b n => upd_ne n
    refine main (upd (fun _ => none) a o) (fun b => ?_) (.inl (.inr ⟨_, upd_same⟩)) (fun b u z => ?_) (fun b z => ?_)
    · by_cases n : b = a
      · subst n; exact .inr ⟨_, _, upd_same⟩
      · exact .inl (off b n)
    · by_cases n : b = a
      · subst n
        rw [upd_same] at z
        injection z with z
        subst z
        exact ⟨at_a, by rw [List.length_map]; exact few, vs, _, rel, at_a⟩
      · rw [off b n] at z; cases z
    · by_cases n : b = a
      · exact ⟨n, lk⟩
      · exact absurd (off b n) z
/-- the end of a law's proof; the law's def is called with no repr under way -/
theorem walkM {l : PySem.W.OpenLaw} {n k : Nat} {q : Program} {loose : List Str} {XP : (Str → Option Value) → Heap → Prop} {YP : World → Heap → Prop} {d : DefRec} {K : Params → PySem.W.Frag} {sp : PySem.W.Frag → Sp} {x : Str}
    (most : l.most = some n) (few : n ≤ sizeLine) (nodef : d.params.defaults = []) (hi : importsNone q = true) (room : Room k callerA) (hY : ∀ (w : World) (h : Heap), YP w h → (K w.params).In h)
    (F : ∀ (w : World) (mg : Str → Option Value) (fa : Addr) (h : Heap), (K w.params).In h → h.Ns mainGlobals mg → mg d.name = some (.ref fa) →
      ∃ fd : FuncData, (∀ (s : Shared) (u : Value), BindsTo s fd ⟨[u], []⟩ [(x, u)]) ∧ ∀ base : Heap, (K w.params).In base → base.Ns mainGlobals mg → (∃ o, base.get? sysModules = some o) → Cn.FnG l.prog w (K w.params) mg base k fa fd [x] (sp (K w.params)))
    (pr : ∀ (K : PySem.W.Frag) (H : Hp) (a : Addr) (ns : List Int), ns.length ≤ n → SqL K H a (ns.map V.int) → sp K [.ref a] H (fun v _ => v = .bl true) fun _ _ _ => False) :
    PySem.W.WalkO q loose XP YP l.row.toRowW d [] (fun f vs => PySem.call f vs) := by
  refine Att.attach_call most nodef ?_
  intro w s₀ s mg mb fa o pm cd doc a vs ns G Y _ _ _ named at_a nums len gens
  obtain ⟨fd, bd, go⟩ := F w mg fa _ (hY w _ Y) G.T.g named
  exact lawM (hY w _ Y) G.T.g G.T.b G.T.builtins G.T.nolimit (by obtain ⟨mm, h, _⟩ := (G.T.seer hi).mods; exact ⟨mm, h⟩) gens at_a nums (Nat.le_trans len few) room go bd fun H _ sq => pr _ H a ns len sq
end Wp

/-! a law that begins with: deck, list = (_law_deck(script), []) -/
namespace Wp
open PySem PySem.Spec PyProof.Rows L2 Evl
end Wp

/-! a def that is handed the error that a suite caught -/
namespace Cn
open PySem PySem.Spec PyProof.Rows L2
theorem roomH_units {k : Nat} {A : Around} (r : L2H.RoomH k A) : A.units + 64 < cLine := by have := r.un; omega
/-- called within a suite, of its error -/
structure FnE (P : Program) (w : World) (K : PySem.W.Frag) (mg : Str → Option Value) (base : Heap) (k : Nat) (f : Addr) (fd : FuncData) (ps : List Str) (n : Nat) (C : Nat → Addr) (D : Nat → Addr → Option Addr) (sp : Addr → Addr → Nat → Sp) : Prop where
  len : ∀ a dd c vs H Q E, sp a dd c vs H Q E → vs.length = ps.length
  run : ∀ (A : Around) (out : List Env) (s : Shared) (H : Hp) (args : Args) (us : List Value) (vs : List V) (Q : VK) (E : XK) (a dd : Addr) (c : Nat) (oe : Obj), c < n → A.guards = some [] → L2H.RoomH k A → A.handled = some (.ref a) → Zn (.ref (C c)) (D c dd) oe → (∃ vs, oe.data = .fields vs) → L2H.PinOk out H s (a, oe) → Env0 P w K mg base A out s H →
    BindsTo s fd args (ps.zip us) → Vals vs us → sp a dd c vs H Q E → codeAny (model P w) A (.call (.ref f) args) (CR L2.CX0 out P w H s Q E) s
section
variable {P : Program} {w : World} {K : PySem.W.Frag} {mg : Str → Option Value} {base : Heap}
end
section
variable {X : Cx} {k n : Nat} {f : Addr} {fd : FuncData} {ps : List Str} {C : Nat → Addr} {D : Nat → Addr → Option Addr} {sp : Addr → Addr → Nat → Sp} {x : Str} {p pos : Pos} {e : Expr} {t : TE} {a dd : Addr} {c : Nat} {oe : Obj} {pn : List (Addr × Obj)}
end
end Cn
namespace Wp
open PySem PySem.Spec PyProof.Rows L2 Evl
/-- the slot of a caught error -/
def slE (xc : XC) (a dd : Addr) (c : Nat) (d : PyData) : Sl := if (xc c).2 = "" then .r a else .x a dd (xc c).2 d c
abbrev WFE := Addr → Addr → Nat → Sl → Bt → (PyData → Bt → Prop) → Prop
def mFnE (n : Nat) (mb : Addr → Addr → Nat → WS) : WFE := fun a dd c s b R => mb a dd c (s :: List.replicate (n - 1) .no) b { nx := fun _ b' => R .none b', rt := R }
def spOfE (xc : XC) (mf : WFE) (a dd : Addr) (c : Nat) : Sp := fun vs H Q _ => vs = [.ref a] ∧ ∃ W d b R, W.Dk b H ∧ ((xc c).2 ≠ "" → ExAt W H dd (xc c).2 d) ∧ mf a dd c (slE xc a dd c d) b R ∧ ∀ d b' v H', R d b' → Kp W.M H H' → W.Dk b' H' → Dt H' v d → Q v H'
def mCallE (xc : XC) (mf : WFE) (i : Nat) (a dd : Addr) (c : Nat) : WE := fun E b R => ∃ d, E[i]? = some (slE xc a dd c d) ∧ mf a dd c (slE xc a dd c d) b R
end Wp

/-! o + p, o - p of two objects of one class, by an own method that may raise -/
namespace Cn
open PySem PySem.Spec PyProof.Rows L2
/-- what a class brings for an operator -/
structure BinC (K : PySem.W.Frag) (C f : Addr) (m : Str) : Prop where
  sf : PySem.W.selfFirst K C = true
  fd : PySem.W.findIn K (.ref C) m = some (some (.ref f))
  isf : PySem.W.isFn K (.ref f) = true
def tBinS (isC : Addr → Prop) (sp : Sp) (E : L2.St → XK) (to ti : TE) : TE := fun σ H Q => to σ H fun x H1 => ti σ H1 fun y H2 => ∃ a C dx fs a2 dx2 fs2, x = .ref a ∧ y = .ref a2 ∧ isC C ∧ H2 a = some (.ins C dx fs) ∧ H2 a2 = some (.ins C dx2 fs2) ∧ sp [.ref a, y] H2 (fun r H3 => (∃ a3, r = .ref a3) ∧ Q r H3) (E σ)
section
variable {X : Cx} {k : Nat} {f : Addr} {fd : FuncData} {ps : List Str} {sp : Sp} {pos : Pos} {o i : Expr} {to ti : TE} {Wx : WX} {op : Operator}
theorem pe_binX {isC : Addr → Prop} (hc : ∀ C, isC C → BinC X.K C f (PySem.dunder op.info.2)) (F : FnX X.prog X.w X.K X.mg X.base k f fd ps sp) (gd : X.A.guards = some []) (room : Room k X.A) (bd : Binds X.K fd ps []) (tk : Takes X Wx) (ho : PE X o to) (hi : PE X i ti) :
    PE X (.BinOp o op i pos) (tBinS isC sp (WE Wx) to ti) := by
  refine ⟨fun pins s σ H Q I h => ?_⟩
  refine wpAny_BinOp (binT ho hi I h fun v u s2 x y H2 I2 rx ry q => ?_)
  obtain ⟨a, C, dx, fs, a2, dx2, fs2, rfl, rfl, hC, hin, hin2, q⟩ := q
  obtain rfl : v = Value.ref a := rx
  obtain rfl : u = Value.ref a2 := ry
  obtain ⟨oe, od, J⟩ := ins_at I2 hin
  obtain ⟨oe2, od2, J2⟩ := ins_at I2 hin2
  obtain ⟨m, hF⟩ := I2.fr
  have c := hc C hC
  refine PySem.W.binop_K hF I2.ok.mod.kin J J2.type c.sf c.fd c.isf ?_
  have rel : Vals [V.ref a, .ref a2] [Value.ref a, .ref a2] := .cons rfl (.cons rfl .nil)
  have l0 : [Value.ref a, .ref a2].length = ps.length := rel.length.symm.trans (F.len _ _ _ _ q)
  have b0 := bd s2 [Value.ref a, .ref a2] I2.kIn (by rw [List.append_nil]; exact l0)
  rw [List.append_nil] at b0
  refine wpAny_call (codeAny_mono (F.run X.A X.stack s2 H2 ⟨[Value.ref a, .ref a2], []⟩ [Value.ref a, .ref a2] _ _ (WE Wx σ) gd room I2.env0 b0 rel q) ?_)
  rintro (_ | fl) s' z
  · exact passAt tk σ pins H2 s2 _ s' I2 z
  · cases fl with
    | ret u =>
      obtain ⟨r, H3, I3, rr, ⟨a3, rfl⟩, zz⟩ := I2.after z
      obtain rfl : u = Value.ref a3 := rr
      exact ⟨.ref a3, H3, I3, rfl, zz⟩
    | _ => exact z.elim
end
end Cn
namespace Wp
open PySem PySem.Spec PyProof.Rows L2 Evl
def mBinX (isC : Addr → Prop) (mf : WFX) (mo mi : WE) : WEX := fun E b R Z => mo E b fun d b1 => mi E b1 fun e b2 => ∃ a C fs a2 fs2, d = refD a ∧ e = refD a2 ∧ b2.os a = some (C, fs) ∧ b2.os a2 = some (C, fs2) ∧ isC C ∧ mf [.d d, .d e] b2 (fun r b3 => (∃ a3, r = refD a3) ∧ R r b3) fun c s b3 => c ≠ 0 ∧ Z c s b3
theorem mBinX_e {isC : Addr → Prop} {mf : WFX} {mo mi : WE} {E : Env} {b : Bt} {R : PyData → Bt → Prop} {Z : Nat → Sl → Bt → Prop} : mBinX isC mf mo mi E b R Z = mo E b fun d b1 => mi E b1 fun e b2 => ∃ a C fs a2 fs2, d = refD a ∧ e = refD a2 ∧ b2.os a = some (C, fs) ∧ b2.os a2 = some (C, fs2) ∧ isC C ∧ mf [.d d, .d e] b2 (fun r b3 => (∃ a3, r = refD a3) ∧ R r b3) fun c s b3 => c ≠ 0 ∧ Z c s b3 := rfl
theorem pm_binX {X : Cx} {k : Nat} {f : Addr} {fd : FuncData} {ps : List Str} {mf : WFX} {pos : Pos} {o i : Expr} {mo mi : WE} {Wx : WX} {xc : XC} {isC : Addr → Prop} {op : Operator} (hc : ∀ C, isC C → Cn.BinC X.K C f (PySem.dunder op.info.2)) (F : Cn.FnX X.prog X.w X.K X.mg X.base k f fd ps (spOfX xc mf)) (gd : X.A.guards = some []) (room : Room k X.A) (bd : Binds X.K fd ps []) (tk : Takes X Wx) (ho : PE X o (tE mo)) (hi : PE X i (tE mi)) :
    PE X (.BinOp o op i pos) (tX xc Wx (mBinX isC mf mo mi)) := (Cn.pe_binX hc F gd room bd tk ho hi).weak fun σ H Q ⟨W, H0, E, b, R, Z, S, hm, q, z⟩ =>
  ⟨W, H0, E, b, _, S, hm, fun d b1 v H1 h1 k1 d1 t1 => ⟨W, H0, E, b1, _, S.step k1 d1, h1, fun e b2 y H2 h2 k2 d2 t2 => by
    obtain ⟨a, C, fs, a2, fs2, rfl, rfl, os, os2, hC, h2⟩ := h2
    have := t1.rf_inv
    subst this
    have := t2.rf_inv
    subst this
    obtain ⟨dx, us, hi, hp⟩ := W.obs d2 a C fs os
    obtain ⟨dx2, us2, hi2, hp2⟩ := W.obs d2 a2 C fs2 os2
    exact ⟨a, C, dx, us, a2, dx2, us2, rfl, rfl, hC, hi, hi2, spx_of (.cons (ar_rf a) (.cons (ar_rf a2) .nil)) d2 (k1.trans k2) h2 (fun d b' v H' r kp dk t => by
      obtain ⟨⟨a3, rfl⟩, r⟩ := r
      have := t.rf_inv
      subst this
      exact ⟨⟨a3, rfl⟩, q _ b' _ H' r kp dk t⟩) z⟩⟩⟩
end Wp
theorem _root_.L2H.RoomH.units {k : Nat} {A : PySem.Around} (r : L2H.RoomH k A) : A.units + 64 < PySem.cLine := Cn.roomH_units r
namespace Wp
open PySem PySem.Spec PyProof.Rows L2 Evl
/-- isinstance(x, D), D a class of one's own, x an object -/
def mIsiO (isC : Addr → Prop) (r : Bool) (m : WE) : WE := fun E b R => m E b fun d b1 => ∃ a C fs, d = refD a ∧ b1.os a = some (C, fs) ∧ isC C ∧ R (.bool r) b1
theorem mIsiO_e {isC : Addr → Prop} {r : Bool} {m : WE} {E : Env} {b : Bt} {R : PyData → Bt → Prop} : mIsiO isC r m E b R = m E b fun d b1 => ∃ a C fs, d = refD a ∧ b1.os a = some (C, fs) ∧ isC C ∧ R (.bool r) b1 := rfl
theorem pm_isiO {X : Cx} {isC : Addr → Prop} {m : WE} {e : Expr} {p p2 pos : Pos} {T : Str} {D : Addr} {r : Bool} (hC : ∀ C, isC C → InC X.K C ∧ PySem.W.kitOne X.K (.ref C) (.ref D) = some r) (hg : Gl X "isinstance") (hm : X.mg "isinstance" = none) (he : PE X e (tE m)) (hc : PE X (.Name T p2) (tC (.ref D))) (hs1 : starEach [e, .Name T p2] X.env = (false, eval e X.env) :: starEach [.Name T p2] X.env := by rfl) (hs2 : starEach [.Name T p2] X.env = (false, eval (.Name T p2) X.env) :: starEach [] X.env := by rfl) (hpl : (backTo pos (starEach [.Name T p2] X.env)).any (·.1) = false := by rfl) :
    PE X (.Call (.Name "isinstance" p) [e, .Name T p2] [] pos) (tE (mIsiO isC r m)) := (pe_callB (id := "isinstance") call_isi hg hm (by decide +kernel) (pa_cons he (pa_cons hc pa_nil hs2) hs1) (by decide) (by decide) hs1 hpl).weak fun σ H Q ⟨W, H0, E, b, R, S, hm, k⟩ =>
  ⟨W, H0, E, b, _, S, hm, fun d b1 v H1 h1 k1 d1 t1 => by
    obtain ⟨a, C, fs, rfl, os, hc', h1⟩ := h1
    have := t1.rf_inv
    subst this
    obtain ⟨dx, us, hi, hp⟩ := W.obs d1 a C fs os
    have ic := (hC C hc').1
    exact ⟨.ref a, .ref D, .ref C, .ref D, r, rfl, .own _, .base (.ins hi ic.cl ic.ha ic.hn ic.ht ic.hm), (hC C hc').2, k _ b1 _ H1 h1 k1 d1 (.bl _)⟩⟩
end Wp

/-! sorted(set(ints)), sorted(dict) of more than 63 -/
namespace Wp
open PySem PySem.Spec PyProof.Rows L2 Evl
section
variable {P : Program} {w : World} {A : Around} {E : Value → Shared → Prop} {s : Shared} {a : Addr}
theorem sorted_setB {S : Int → Bool} {n : Nat} {Q : Value → Shared → Prop} (R : SetR w s.heap a S n) (hh : A.handled = none) (h64 : n ≤ 100000)
    (hQ : ∀ s' p (out : Array Value) (c : Nat) (ns : List Int), (∀ b o, s.heap.get? b = some o → s'.heap.get? b = some o) → s'.gens = s.gens → s'.os = s.os → s.heap.objs.size ≤ p →
      s'.heap.get? p = some (seqObj "list" out c) → IntsAre out.toList ns → ns.Pairwise (· < ·) → (∀ k, k ∈ ns ↔ S k = true) → ns.length = n → Q (.ref p) s') :
    wpAny (model P w) A (call (.builtin "sorted") [.ref a]) Q E s := by
  obtain ⟨o, es, ep, t, ho, hex, hd, g, nd, hm, hb, hf, hn, hr, hl⟩ := R
  refine Calls.call_function_entry kind_sorted plain_sorted entry_sorted (args_sorted1 _) ?_
  unfold Builtin.«sorted»
  refine wpAny_bind (m := checkCount "sorted" 1 1 _) (wpAny_pure ?_)
  refine wpAny_bind (collect_set (A := A.in1) hh ⟨o, ho, hex.1, hd⟩ hf hb hr hl fun s1 vs k1 hz g1 o1 pm => ?_)
  have hvl : vs.length = n := by rw [pm.length_eq, List.length_map, Array.length_toList]; exact hn
  have hI : IntsAre vs (vs.map Builtin.Re.reRawOf) := ints_of vs fun v hv => by
    obtain ⟨e, he, q⟩ := List.mem_map.mp (pm.mem_iff.mp hv)
    obtain ⟨k, tk, h1, _⟩ := g e he
    exact ⟨k, tk, by rw [← q]; exact h1⟩
  have pk : (vs.map Builtin.Re.reRawOf).Perm (es.toList.map keyOf) := by
    have q := pm.map Builtin.Re.reRawOf
    rw [List.map_map] at q
    exact q
  have hz1 : vs.length ≤ sizeLine := by rw [hvl, sizeLine_eq]; omega
  refine wpAny_bind (wpAny_newList ?_ hz1)
  have hoL : (s1.heap.push (seqObj "list" vs.toArray 0)).get? s1.heap.objs.size = some (seqObj "list" vs.toArray 0) := Heap.get?_push_size _ rfl
  refine wpAny_bind (wpAny_holding (wpAny_call_entry slot_list_sort ⟨_, hoL, rfl⟩ entry_list_sort (SrtO.list_sort_ord SrtO.swo_int hoL hz1 (fun h2 => SrtO.ints_sortable hI h2) fun out h1 h2 => ⟨_, rfl, ?_⟩) (args_list_sort _)))
  obtain ⟨a1, a2, a3⟩ := SrtO.ints_out hI h1 h2
  obtain ⟨c, hc⟩ := sortedHeap_at (vs := vs) (out := out.toArray) hoL
  have pn : (out.map SrtO.iv).Perm (es.toList.map keyOf) := a2.trans pk
  refine wpAny_pure ⟨_, rfl, hQ _ s1.heap.objs.size out.toArray c _ (fun b u e => ?_) g1 o1 hz hc a1 (lt_of_le_nodup _ a3 (pn.nodup_iff.mpr nd)) (fun k => by rw [pn.mem_iff, ← hm k]) ?_⟩
  · have q := k1 b u e
    have hlt := Heap.lt_size q
    show (sortedHeap (s1.heap.push (seqObj "list" vs.toArray 0)) s1.heap.objs.size vs out.toArray).get? b = some u
    rw [sortedHeap_old (Nat.ne_of_lt hlt) (by rw [size_push']; exact Nat.lt_succ_of_lt hlt)]
    exact Heap.get?_push_of_some _ q
  · rw [pn.length_eq, List.length_map, Array.length_toList]; exact hn
end
section
variable {X : Cx}
def rSortedSetB (w : World) : List V → Hp → VK → Prop := fun vs H Q => ∃ (a : Addr) (S : Int → Bool) (n : Nat), vs = [V.ref a] ∧ H a = some (SetO w a S n) ∧ n ≤ 1000 ∧
  ∀ (ns : List Int) (p : Addr), ns.Pairwise (· < ·) → (∀ k : Int, k ∈ ns ↔ S k = true) → ns.length = n → H p = none → Q (.ref p) (upd H p (.lst (ns.map V.int)))
theorem cr_sortedSetB (hc : X.calm = true) : CallR X (.builtin "sorted") (rSortedSetB X.w) := by
  intro pins s σ H vs us Q I r h
  obtain ⟨a, S, n, rfl, ha, h64, q⟩ := h
  have R := setO_get I ha
  rw [Vals.ref1 r]
  refine sorted_setB R (I.ok.hd hc) (by omega) fun s' p out c ns k g o hp hg hi hs hm hl => ?_
  have hlen : (ns.map V.int).length ≤ sizeLine := by rw [List.length_map, hl, sizeLine_eq]; omega
  have hn : H p = none := I.hok.fresh hp
  have J : Inv X pins σ (upd H p (.lst (ns.map V.int))) { s with heap := s'.heap, gens := s'.gens, drawn := s'.drawn, toks := s'.toks } :=
    I.call (ch := []) (Un.laid k hp hn) (I.hok.laid k hp ⟨hlen, out.toList, c, vals_of_ints hi, hg⟩) (by rw [g]; exact I.bare) (fun _ z => nomatch z)
  have e : s' = { s with heap := s'.heap, gens := s'.gens, drawn := s'.drawn, toks := s'.toks } := by
    cases s'
    cases s
    cases o
    rfl
  rw [e]
  exact ⟨.ref p, _, J, rfl, q ns p hs hm hl hn⟩
theorem sortsetB {K : PySem.W.Frag} {w : World} {vs : List V} {H1 : Hp} {Q : VK} (h : ∃ (l : Addr) (ns : List Int), vs = [.ref l] ∧ SqL K H1 l (ns.map V.int) ∧ ns.length ≤ 1000 ∧
    ∀ (ms : List Int) (p : Addr) (H' : Hp), ms.Pairwise (· < ·) → (∀ k : Int, k ∈ ms ↔ k ∈ ns) → H1 p = none → (∀ b o, H1 b = some o → H' b = some o) → H' p = some (.lst (ms.map V.int)) → Q (.ref p) H') : Cn.rSetL K w vs H1 fun x H2 => rSortedSetB w [x] H2 Q := by
  obtain ⟨l, ns, rfl, sq, few, q⟩ := h
  refine ⟨l, ns, rfl, sq, by omega, fun p n np le => ⟨p, _, n, rfl, upd_same, by omega, fun ms p' asc mem len np' => ?_⟩⟩
  have n1 : p' ≠ p := fun z => by rw [z, upd_same] at np'; cases np'
  have np0 := np'
  rw [upd_ne n1] at np0
  refine q ms p' _ asc (fun k => by rw [mem k, decide_eq_true_eq]) np0 (fun b o e => ?_) upd_same
  rw [upd_ne (ne_of_none e np0), upd_ne (ne_of_none e np)]
  exact e
def mSSB (m : WE) : WL := fun E b R => m E b fun d b1 => match d with
  | .list xs => ∃ ns : List Int, xs = ns.map PyData.int ∧ ns.length ≤ 1000 ∧ R ((Cn.sortU ns).map PyData.int) b1
  | _ => False
theorem mSSB_e {m : WE} {E : Env} {b : Bt} {R : List PyData → Bt → Prop} : mSSB m E b R = (m E b fun d b1 => match d with
  | .list xs => ∃ ns : List Int, xs = ns.map PyData.int ∧ ns.length ≤ 1000 ∧ R ((Cn.sortU ns).map PyData.int) b1
  | _ => False) := propext Iff.rfl
theorem pm_ssB {K : PySem.W.Frag} {w : World} {m : WE} {q : Expr} (h : PE X q (tCB (rSortedSetB w) (tCons (tCB (Cn.rSetL K w) (tCons (tQ m) tNil)) tNil))) : PE X q (tL (mSSB m)) := h.weak fun σ H Q ⟨W, H0, E, b, R, S, hm, k⟩ => by
  refine ⟨W, H0, E, b, _, S, hm, fun d b1 v H1 h1 k1 d1 t1 => ?_⟩
  cases d <;> first | exact h1.elim | skip
  obtain ⟨ns, rfl, few, hr⟩ := h1
  obtain ⟨a, rfl, sq⟩ := t1.ints (K := K)
  refine sortsetB ⟨a, ns, rfl, sq, few, fun ms' p H2 asc mem np e2 hp => ?_⟩
  rw [Cn.sortU_eq asc mem] at hp
  exact k _ b1 p _ H2 hr (k1.trans (Kp.ex e2)) (W.ex e2 d1) (k1.back (W.free d1 np) np) hp (DtAll.ints _)
end
end Wp
namespace Wp
open PySem PySem.Spec PyProof.Rows L2 Evl
section
variable {X : Cx}
def rSDIB : List V → Hp → VK → Prop := fun xs H Q => ∃ (a : Addr) (kvs : List (Key × V)) (ks : List Int), xs = [.ref a] ∧ Rd H a (.dK kvs) ∧ kvs.map (·.1) = ks.map Sum.inl ∧ ks.length ≤ 1000 ∧
    ∀ (ys : List Int) (p : Addr), ys.Perm ks → ys.Pairwise (· ≤ ·) → H p = none → Q (.ref p) (upd H p (.lst (ys.map V.int)))
/-- sorted(d), int keys, up to a thousand -/
def mSDB (i : Nat) : WL := fun E b R => ∃ s ds, E[i]? = some s ∧ asM s = some ds ∧ ∃ ks : List Int, ds.map (·.1) = ks.map Sum.inl ∧ ks.length ≤ 1000 ∧ ∀ ys : List Int, ys.Perm ks → ys.Pairwise (· ≤ ·) → R (ys.map PyData.int) b
end
end Wp

/-! o == p, x in o, by own methods that answer with a bool -/
namespace Cn
open PySem PySem.Spec PyProof.Rows L2
/-- what a class brings for == with an object of the other one -/
structure EqC (K : PySem.W.Frag) (C D f : Addr) : Prop where
  nf : PySem.W.notFirst K C (.ref D) = true
  fd : PySem.W.findIn K (.ref C) "__eq__" = some (some (.ref f))
  isf : PySem.W.isFn K (.ref f) = true
structure InOC (K : PySem.W.Frag) (C f : Addr) : Prop where
  fd : PySem.W.findIn K (.ref C) "__contains__" = some (some (.ref f))
  isf : PySem.W.isFn K (.ref f) = true
section
variable {X : Cx} {k : Nat} {f : Addr} {fd : FuncData} {ps : List Str} {sp : Sp}
def rEqO (isC : Addr → Prop) (sp : Sp) : R2 := fun x y H Q => ∃ a C dx fs a2 D dx2 fs2, x = .ref a ∧ y = .ref a2 ∧ isC C ∧ isC D ∧ H a = some (.ins C dx fs) ∧ H a2 = some (.ins D dx2 fs2) ∧ sp [.ref a, .ref a2] H (fun r H3 => (∃ c, r = .bl c) ∧ Q r H3) E0
theorem op_eqO {isC : Addr → Prop} (hc : ∀ C D, isC C → isC D → EqC X.K C D f) (F : FnG X.prog X.w X.K X.mg X.base k f fd ps sp) (gd : X.A.guards = some []) (room : Room k X.A) (bd : Binds X.K fd ps []) : OpR X (compareOp .Eq) (rEqO isC sp) := by
  intro pins s2 σ H2 x y v u Q I2 rx ry q
  obtain ⟨a, C, dx, fs, a2, D, dx2, fs2, rfl, rfl, hC, hD, hin, hin2, q⟩ := q
  obtain rfl : v = Value.ref a := rx
  obtain rfl : u = Value.ref a2 := ry
  obtain ⟨oe, od, J⟩ := ins_at I2 hin
  obtain ⟨oe2, od2, J2⟩ := ins_at I2 hin2
  obtain ⟨m, hF⟩ := I2.fr
  have c := hc C D hC hD
  refine PySem.W.cmp_ofEq (PySem.W.cmp_K (by have := room.un; omega) hF I2.ok.mod.kin J J2.type c.nf c.fd c.isf ?_)
  have rel : Vals [V.ref a, .ref a2] [Value.ref a, .ref a2] := .cons rfl (.cons rfl .nil)
  have l0 : [Value.ref a, .ref a2].length = ps.length := rel.length.symm.trans (F.len _ _ _ _ q)
  have b0 := bd s2 [Value.ref a, .ref a2] I2.kIn (by rw [List.append_nil]; exact l0)
  rw [List.append_nil] at b0
  refine wpAny_call (codeAny_mono (F.run X.A X.stack s2 H2 ⟨[Value.ref a, .ref a2], []⟩ [Value.ref a, .ref a2] _ _ E0 gd room I2.env0 b0 rel q) ?_)
  rintro (_ | _ | _ | _ | u) s' z
  case ok.ret =>
    obtain ⟨r, H3, I3, rr, ⟨c, rfl⟩, zz⟩ := I2.after z
    obtain rfl : u = Value.bool c := rr
    exact ⟨.bl c, H3, I3, rfl, zz⟩
  all_goals exact z.elim
def rInO (isC : Addr → Prop) (sp : Sp) (neg : Bool) : R2 := fun x y H Q => ∃ a C dx fs, y = .ref a ∧ isC C ∧ H a = some (.ins C dx fs) ∧ sp [.ref a, x] H (fun r H3 => ∃ c, r = .bl c ∧ Q (.bl (c != neg)) H3) E0
theorem op_inO {isC : Addr → Prop} (hc : ∀ C, isC C → InOC X.K C f) (F : FnG X.prog X.w X.K X.mg X.base k f fd ps sp) (gd : X.A.guards = some []) (room : Room k X.A) (bd : Binds X.K fd ps []) : OpR X (compareOp .In) (rInO isC sp false) := by
  intro pins s2 σ H2 x y v u Q I2 rx ry q
  obtain ⟨a, C, dx, fs, rfl, hC, hin, q⟩ := q
  obtain rfl : u = Value.ref a := ry
  obtain ⟨oe, od, J⟩ := ins_at I2 hin
  obtain ⟨m, hF⟩ := I2.fr
  have c := hc C hC
  refine PySem.W.in_K hF I2.ok.mod.kin J c.fd c.isf ?_
  have rel : Vals [V.ref a, x] [Value.ref a, v] := .cons rfl (.cons rx .nil)
  have l0 : [Value.ref a, v].length = ps.length := rel.length.symm.trans (F.len _ _ _ _ q)
  have b0 := bd s2 [Value.ref a, v] I2.kIn (by rw [List.append_nil]; exact l0)
  rw [List.append_nil] at b0
  refine wpAny_call (codeAny_mono (F.run X.A X.stack s2 H2 ⟨[Value.ref a, v], []⟩ [Value.ref a, v] _ _ E0 gd room I2.env0 b0 rel q) ?_)
  rintro (_ | _ | _ | _ | u) s' z
  case ok.ret =>
    obtain ⟨r, H3, I3, rr, ⟨c, rfl, zz⟩⟩ := I2.after z
    obtain rfl : u = Value.bool c := rr
    have zz : Q (.bl c) H3 := by simpa using zz
    exact wpAny_pure ⟨.bl c, H3, I3, rfl, zz⟩
  all_goals exact z.elim
theorem op_ninO {isC : Addr → Prop} (hc : ∀ C, isC C → InOC X.K C f) (F : FnG X.prog X.w X.K X.mg X.base k f fd ps sp) (gd : X.A.guards = some []) (room : Room k X.A) (bd : Binds X.K fd ps []) : OpR X (compareOp .NotIn) (rInO isC sp true) := by
  intro pins s2 σ H2 x y v u Q I2 rx ry q
  obtain ⟨a, C, dx, fs, rfl, hC, hin, q⟩ := q
  obtain rfl : u = Value.ref a := ry
  obtain ⟨oe, od, J⟩ := ins_at I2 hin
  obtain ⟨m, hF⟩ := I2.fr
  have c := hc C hC
  refine PySem.W.notIn_K hF I2.ok.mod.kin J c.fd c.isf ?_
  have rel : Vals [V.ref a, x] [Value.ref a, v] := .cons rfl (.cons rx .nil)
  have l0 : [Value.ref a, v].length = ps.length := rel.length.symm.trans (F.len _ _ _ _ q)
  have b0 := bd s2 [Value.ref a, v] I2.kIn (by rw [List.append_nil]; exact l0)
  rw [List.append_nil] at b0
  refine wpAny_call (codeAny_mono (F.run X.A X.stack s2 H2 ⟨[Value.ref a, v], []⟩ [Value.ref a, v] _ _ E0 gd room I2.env0 b0 rel q) ?_)
  rintro (_ | _ | _ | _ | u) s' z
  case ok.ret =>
    obtain ⟨r, H3, I3, rr, ⟨c, rfl, zz⟩⟩ := I2.after z
    obtain rfl : u = Value.bool c := rr
    have zz : Q (.bl (!c)) H3 := by simpa using zz
    exact wpAny_pure ⟨.bl (!c), H3, I3, rfl, zz⟩
  all_goals exact z.elim
end
end Cn
namespace Wp
open PySem PySem.Spec PyProof.Rows L2 Evl
def mEqO (isC : Addr → Prop) (mf : WF) (mo mi : WE) : WE := fun E b R => mo E b fun d b1 => mi E b1 fun e b2 => ∃ a C fs a2 D fs2, d = refD a ∧ e = refD a2 ∧ b2.os a = some (C, fs) ∧ b2.os a2 = some (D, fs2) ∧ isC C ∧ isC D ∧ mf [.d d, .d e] b2 fun r b3 => ∃ c, r = .bool c ∧ R (.bool c) b3
theorem mEqO_e {isC : Addr → Prop} {mf : WF} {mo mi : WE} {E : Env} {b : Bt} {R : PyData → Bt → Prop} : mEqO isC mf mo mi E b R = mo E b fun d b1 => mi E b1 fun e b2 => ∃ a C fs a2 D fs2, d = refD a ∧ e = refD a2 ∧ b2.os a = some (C, fs) ∧ b2.os a2 = some (D, fs2) ∧ isC C ∧ isC D ∧ mf [.d d, .d e] b2 fun r b3 => ∃ c, r = .bool c ∧ R (.bool c) b3 := rfl
/-- x in o (neg: x not in o), x data or an object -/
def mInO (isC : Addr → Prop) (mf : WF) (neg : Bool) (mi mo : WE) : WE := fun E b R => mi E b fun e b1 => mo E b1 fun d b2 => ∃ a C fs, d = refD a ∧ b2.os a = some (C, fs) ∧ isC C ∧ mf [.d d, .d e] b2 fun r b3 => ∃ c, r = .bool c ∧ R (.bool (c != neg)) b3
theorem mInO_e {isC : Addr → Prop} {mf : WF} {neg : Bool} {mi mo : WE} {E : Env} {b : Bt} {R : PyData → Bt → Prop} : mInO isC mf neg mi mo E b R = mi E b fun e b1 => mo E b1 fun d b2 => ∃ a C fs, d = refD a ∧ b2.os a = some (C, fs) ∧ isC C ∧ mf [.d d, .d e] b2 fun r b3 => ∃ c, r = .bool c ∧ R (.bool (c != neg)) b3 := rfl
section
variable {X : Cx} {k : Nat} {f : Addr} {fd : FuncData} {ps : List Str} {mf : WF} {pos : Pos} {o i : Expr} {mo mi : WE} {isC : Addr → Prop}
theorem eqO_of {σ : L2.St} {H : Hp} {Q : VK} (h : tE (mEqO isC mf mo mi) σ H Q) : tOp (Cn.rEqO isC (spOf mf)) (tE mo) (tE mi) σ H Q := by
  obtain ⟨W, H0, E, b, R, S, hm, q⟩ := h
  exact ⟨W, H0, E, b, _, S, hm, fun d b1 v H1 h1 k1 d1 t1 => ⟨W, H0, E, b1, _, S.step k1 d1, h1, fun e b2 y H2 h2 k2 d2 t2 => by
    obtain ⟨a, C, fs, a2, D, fs2, rfl, rfl, os, os2, hC, hD, h2⟩ := h2
    have := t1.rf_inv
    subst this
    have := t2.rf_inv
    subst this
    obtain ⟨dx, us, hi, hp⟩ := W.obs d2 a C fs os
    obtain ⟨dx2, us2, hi2, hp2⟩ := W.obs d2 a2 D fs2 os2
    exact ⟨a, C, dx, us, a2, D, dx2, us2, rfl, rfl, hC, hD, hi, hi2, W, _, b2, _, .cons (ar_rf a) (.cons (ar_rf a2) .nil), d2, h2, fun d b' v H' r kp dk t => by
      obtain ⟨c, rfl, r⟩ := r
      cases t
      exact ⟨⟨c, rfl⟩, q _ b' _ H' r ((k1.trans k2).trans kp) dk (.bl c)⟩⟩⟩⟩
theorem inO_of {neg : Bool} {σ : L2.St} {H : Hp} {Q : VK} (h : tE (mInO isC mf neg mi mo) σ H Q) : tOp (Cn.rInO isC (spOf mf) neg) (tE mi) (tE mo) σ H Q := by
  obtain ⟨W, H0, E, b, R, S, hm, q⟩ := h
  exact ⟨W, H0, E, b, _, S, hm, fun e b1 v H1 h1 k1 d1 t1 => ⟨W, H0, E, b1, _, S.step k1 d1, h1, fun d b2 y H2 h2 k2 d2 t2 => by
    obtain ⟨a, C, fs, rfl, os, hC, h2⟩ := h2
    have := t2.rf_inv
    subst this
    obtain ⟨dx, us, hi, hp⟩ := W.obs d2 a C fs os
    exact ⟨a, C, dx, us, rfl, hC, hi, W, _, b2, _, .cons (ar_rf a) (.cons (show ArR W H2 v (.d e) from t1.mono (W.fk d1 k2)) .nil), d2, h2, fun d b' v H' r kp dk t => by
      obtain ⟨c, rfl, r⟩ := r
      cases t
      exact ⟨c, rfl, q _ b' _ H' r ((k1.trans k2).trans kp) dk (.bl _)⟩⟩⟩⟩
section
variable (F : Cn.FnG X.prog X.w X.K X.mg X.base k f fd ps (spOf mf)) (gd : X.A.guards = some []) (room : Room k X.A) (bd : Binds X.K fd ps []) (ho : PE X o (tE mo)) (hi : PE X i (tE mi))
include F gd room bd ho hi
theorem pm_eqO (hc : ∀ C D, isC C → isC D → Cn.EqC X.K C D f) (hm : behindInMarks .Eq i = false := by rfl) : PE X (.Compare o [.Eq] [i] pos) (tE (mEqO isC mf mo mi)) := (pe_cmpR (Cn.op_eqO hc F gd room bd) ho hi hm).weak fun σ H Q h => eqO_of h
theorem pm_teqO (hc : ∀ C D, isC C → isC D → Cn.EqC X.K C D f) (hm : behindInMarks .Eq i = false := by rfl) : PT X (.Compare o [.Eq] [i] pos) (tT (mT (mEqO isC mf mo mi))) := (pt_cmpR (Cn.op_eqO hc F gd room bd) ho hi hm).weak fun σ H Q h => eqO_of (tB_of h)
theorem pm_inO (hc : ∀ C, isC C → Cn.InOC X.K C f) (hm : behindInMarks .In o = false := by rfl) : PE X (.Compare i [.In] [o] pos) (tE (mInO isC mf false mi mo)) := (pe_cmpR (Cn.op_inO hc F gd room bd) hi ho hm).weak fun σ H Q h => inO_of h
theorem pm_ninO (hc : ∀ C, isC C → Cn.InOC X.K C f) (hm : behindInMarks .NotIn o = false := by rfl) : PE X (.Compare i [.NotIn] [o] pos) (tE (mInO isC mf true mi mo)) := (pe_cmpR (Cn.op_ninO hc F gd room bd) hi ho hm).weak fun σ H Q h => inO_of h
theorem pm_tninO (hc : ∀ C, isC C → Cn.InOC X.K C f) (hm : behindInMarks .NotIn o = false := by rfl) : PT X (.Compare i [.NotIn] [o] pos) (tT (mT (mInO isC mf true mi mo))) := (pt_cmpR (Cn.op_ninO hc F gd room bd) hi ho hm).weak fun σ H Q h => inO_of (tB_of h)
end
end
end Wp

/-! o != p where the class has an own __eq__ and object's __ne__ -/
namespace Cn
open PySem PySem.Spec PyProof.Rows L2
section
open PySem.W
variable {prog : Program} {w : World} {A : Around} {E : Value → Shared → Prop} {s : Shared} {K : Frag} {x C L f : Addr} {h₀ : Heap} {m : Str → Option Value} {ox : Obj} {od : Option Obj} {b tb : Value}
theorem ifBoundB_K {name : Str} {id : String} {args : List Value} {Q : Option Value → Shared → Prop} (X : K.In s.heap) (I : InstAt s.heap x ox C od) (hs : findIn K (.ref C) name = some (some (.builtin id))) (hb : bindSpecial (.builtin id) (.ref x) = pure (.builtin id, [.ref x]))
    (h : wpAny (model prog w) A (call (.builtin id) (.ref x :: args)) (fun v => Q (some v)) E s) : wpAny (model prog w) A (callSpecialIfBound? (.ref x) name args) Q E s := by
  simp only [callSpecialIfBound?, bindSpecialIfBound?]
  refine wpAny_holding (wpAny_bind (wpAny_bind (wpAny_bind (I.type.here ((looks_findIn X hs).here ?_)))))
  refine wpAny_bind (wpAny_askSetting (wpAny_ite ?_))
  have fin : wpAny (model prog w) A (call (.builtin id) ([.ref x] ++ args) >>= fun v => pure (some v)) Q E s := wpAny_bind (wpAny_mono h (fun v s' h' => wpAny_pure h') fun _ _ h' => h')
  split
  · rw [hb]
    exact wpAny_bind (wpAny_pure (wpAny_pure (by exact fin)))
  · rw [hb]
    exact wpAny_tryCatch (wpAny_bind (wpAny_pure (wpAny_pure (by exact fin))))
theorem ne_bind (v : Value) : bindSpecial (.builtin "object.__ne__") v = pure (.builtin "object.__ne__", [v]) := by kernel_rfl
theorem objNe_K (hu : A.units < cLine) (F : Fr h₀ L s.heap m) (X₀ : K.In h₀) (I : InstAt s.heap x ox C od) (he : findIn K (.ref C) "__eq__" = some (some (.ref f))) (hf : isFn K (.ref f) = true) {Q : PySem.Fin → Shared → Prop}
    (h : wpAny (model prog w) A (call (.ref f) [.ref x, b]) (fun v s' => ∃ c, v = .bool c ∧ Q (.done (.ret (.bool (!c)))) s') E s) : wpAny (model prog w) A (Builtin.«object.__ne__» ⟨[.ref x, b], []⟩) Q E s := by
  have X := X₀.keeps F.keep
  unfold Builtin.«object.__ne__»
  repeat (first
    | with_reducible refine wpAny_cRoomFor hu ?_
    | (refine wpAny_bind (m := callSpecialIfBound? (.ref x) (Str.ofString "__eq__") [b])
        (ifBound_K X I he hf (wpAny_mono h (fun r s' hr => by
          obtain ⟨c, rfl, hq⟩ := hr
          repeat (first | exact hq | exact wpAny_pure hq | exact wpAny_truthy_bool hq | (refine wpAny_bind (m := truthy (.bool _)) (wpAny_truthy_bool ?_)) | wp_step)) fun _ _ e => e)))
    | wp_step)
theorem neq_K (hu : A.units + 1 < cLine) (F : Fr h₀ L s.heap m) (X₀ : K.In h₀) (I : InstAt s.heap x ox C od) (hb : Looks (model prog w) s.heap (typeOf b) tb) (hn : notFirst K C tb = true)
    (hne : findIn K (.ref C) "__ne__" = some (some (.builtin "object.__ne__"))) (ho : mroIn K C (.type "object") = some true) (he : findIn K (.ref C) "__eq__" = some (some (.ref f))) (hf : isFn K (.ref f) = true) {Q : Value → Shared → Prop}
    (h : wpAny (model prog w) A.in1 (call (.ref f) [.ref x, b]) (fun v s' => ∃ c, v = .bool c ∧ Q (.bool (!c)) s') E s) : wpAny (model prog w) A (richCompare .NotEq (.ref x) b) Q E s := by
  have X := X₀.keeps F.keep
  have sub : Looks (model prog w) s.heap (isInstance (.ref x) (.type "object")) true := I.type.andThen (looks_mroIn X ho)
  have one : wpAny (model prog w) A (tryCompare (.ref x) (cmpInfo .NotEq).2.1 b) (fun r s' => ∃ v, r = some v ∧ Q v s') E s := by
    rw [cmpInfo_NotEq]
    unfold tryCompare
    refine wpAny_bind (ifBoundB_K X I hne (ne_bind _) (wpAny_call (codeAny_call_builtin (by decide +kernel) PySem.F.cmpEntry_ne (@check_slot (model prog w) _ _ s "object.__ne__" "object" "__ne__" (.ref x) [b] [] _ PySem.F.cmpKind_ne PySem.F.cmpSplit_ne sub (PySem.F.cmpArgs_ne _ _)
      (objNe_K (A := A.in1) (by show A.units + 1 < _; exact hu) F X₀ I he hf (wpAny_mono h (fun v s' hv => ?_) fun _ _ e => e))))))
    obtain ⟨c, rfl, hq⟩ := hv
    exact ⟨c, rfl, wpAny_pure ⟨_, rfl, hq⟩⟩
  unfold richCompare
  simp only [oneThing_ref]
  refine wpAny_holding (wpAny_bind (wpAny_cRoomFor (Nat.lt_of_succ_lt hu) ?_))
  refine wpAny_bind (I.type.here (wpAny_bind (hb.here ?_)))
  split
  · rename_i q
    have e : subIn K tb (.ref C) = some false := by
      rcases Bool.or_eq_true_iff.mp hn with e | e
      · rw [beq_iff_eq.mp e] at q; simp at q
      · exact beq_iff_eq.mp e
    refine wpAny_bind ((looks_subIn X e).here ?_)
    simp only [Bool.false_eq_true, if_false]
    refine wpAny_bind (wpAny_mono one (fun r s' z => ?_) fun _ _ e => e)
    obtain ⟨v, rfl, hq⟩ := z
    exact wpAny_pure hq
  · refine wpAny_bind (wpAny_pure ?_)
    simp only [Bool.false_eq_true, if_false]
    refine wpAny_bind (wpAny_mono one (fun r s' z => ?_) fun _ _ e => e)
    obtain ⟨v, rfl, hq⟩ := z
    exact wpAny_pure hq
end
end Cn
namespace Cn
open PySem PySem.Spec PyProof.Rows L2
structure NeC (K : PySem.W.Frag) (C D f : Addr) : Prop where
  nf : PySem.W.notFirst K C (.ref D) = true
  fd : PySem.W.findIn K (.ref C) "__eq__" = some (some (.ref f))
  isf : PySem.W.isFn K (.ref f) = true
  ne : PySem.W.findIn K (.ref C) "__ne__" = some (some (.builtin "object.__ne__"))
  ob : PySem.W.mroIn K C (.type "object") = some true
section
variable {X : Cx} {k : Nat} {f : Addr} {fd : FuncData} {ps : List Str} {sp : Sp}
def rNeO (isC : Addr → Prop) (sp : Sp) : R2 := fun x y H Q => ∃ a C dx fs a2 D dx2 fs2, x = .ref a ∧ y = .ref a2 ∧ isC C ∧ isC D ∧ H a = some (.ins C dx fs) ∧ H a2 = some (.ins D dx2 fs2) ∧ sp [.ref a, .ref a2] H (fun r H3 => ∃ c, r = .bl c ∧ Q (.bl (!c)) H3) E0
theorem op_neO {isC : Addr → Prop} (hc : ∀ C D, isC C → isC D → NeC X.K C D f) (F : FnG X.prog X.w X.K X.mg X.base k f fd ps sp) (gd : X.A.guards = some []) (room : Room (k + 1) X.A) (bd : Binds X.K fd ps []) : OpR X (compareOp .NotEq) (rNeO isC sp) := by
  intro pins s2 σ H2 x y v u Q I2 rx ry q
  obtain ⟨a, C, dx, fs, a2, D, dx2, fs2, rfl, rfl, hC, hD, hin, hin2, q⟩ := q
  obtain rfl : v = Value.ref a := rx
  obtain rfl : u = Value.ref a2 := ry
  obtain ⟨oe, od, J⟩ := ins_at I2 hin
  obtain ⟨oe2, od2, J2⟩ := ins_at I2 hin2
  obtain ⟨m, hF⟩ := I2.fr
  have c := hc C D hC hD
  refine PySem.W.cmp_ofNotEq (neq_K (by have := room.un; omega) hF I2.ok.mod.kin J J2.type c.nf c.ne c.ob c.fd c.isf ?_)
  have rel : Vals [V.ref a, .ref a2] [Value.ref a, .ref a2] := .cons rfl (.cons rfl .nil)
  have l0 : [Value.ref a, .ref a2].length = ps.length := rel.length.symm.trans (F.len _ _ _ _ q)
  have b0 := bd s2 [Value.ref a, .ref a2] I2.kIn (by rw [List.append_nil]; exact l0)
  rw [List.append_nil] at b0
  refine wpAny_call (codeAny_mono (F.run X.A.in1 X.stack s2 H2 ⟨[Value.ref a, .ref a2], []⟩ [Value.ref a, .ref a2] _ _ E0 gd room.in1 I2.env0.in1 b0 rel q) ?_)
  rintro (_ | _ | _ | _ | u) s' z
  case ok.ret =>
    obtain ⟨r, H3, I3, rr, ⟨c, rfl, zz⟩⟩ := I2.after z
    obtain rfl : u = Value.bool c := rr
    exact ⟨c, rfl, .bl (!c), H3, I3, rfl, zz⟩
  all_goals exact z.elim
end
end Cn
namespace Wp
open PySem PySem.Spec PyProof.Rows L2 Evl
def mNeO (isC : Addr → Prop) (mf : WF) (mo mi : WE) : WE := fun E b R => mo E b fun d b1 => mi E b1 fun e b2 => ∃ a C fs a2 D fs2, d = refD a ∧ e = refD a2 ∧ b2.os a = some (C, fs) ∧ b2.os a2 = some (D, fs2) ∧ isC C ∧ isC D ∧ mf [.d d, .d e] b2 fun r b3 => ∃ c, r = .bool c ∧ R (.bool (!c)) b3
theorem mNeO_e {isC : Addr → Prop} {mf : WF} {mo mi : WE} {E : Env} {b : Bt} {R : PyData → Bt → Prop} : mNeO isC mf mo mi E b R = mo E b fun d b1 => mi E b1 fun e b2 => ∃ a C fs a2 D fs2, d = refD a ∧ e = refD a2 ∧ b2.os a = some (C, fs) ∧ b2.os a2 = some (D, fs2) ∧ isC C ∧ isC D ∧ mf [.d d, .d e] b2 fun r b3 => ∃ c, r = .bool c ∧ R (.bool (!c)) b3 := rfl
section
variable {X : Cx} {k : Nat} {f : Addr} {fd : FuncData} {ps : List Str} {mf : WF} {pos : Pos} {o i : Expr} {mo mi : WE} {isC : Addr → Prop}
theorem neO_of {σ : L2.St} {H : Hp} {Q : VK} (h : tE (mNeO isC mf mo mi) σ H Q) : tOp (Cn.rNeO isC (spOf mf)) (tE mo) (tE mi) σ H Q := by
  obtain ⟨W, H0, E, b, R, S, hm, q⟩ := h
  exact ⟨W, H0, E, b, _, S, hm, fun d b1 v H1 h1 k1 d1 t1 => ⟨W, H0, E, b1, _, S.step k1 d1, h1, fun e b2 y H2 h2 k2 d2 t2 => by
    obtain ⟨a, C, fs, a2, D, fs2, rfl, rfl, os, os2, hC, hD, h2⟩ := h2
    have := t1.rf_inv
    subst this
    have := t2.rf_inv
    subst this
    obtain ⟨dx, us, hi, hp⟩ := W.obs d2 a C fs os
    obtain ⟨dx2, us2, hi2, hp2⟩ := W.obs d2 a2 D fs2 os2
    exact ⟨a, C, dx, us, a2, D, dx2, us2, rfl, rfl, hC, hD, hi, hi2, W, _, b2, _, .cons (ar_rf a) (.cons (ar_rf a2) .nil), d2, h2, fun d b' v H' r kp dk t => by
      obtain ⟨c, rfl, r⟩ := r
      cases t
      exact ⟨c, rfl, q _ b' _ H' r ((k1.trans k2).trans kp) dk (.bl _)⟩⟩⟩⟩
section
variable (F : Cn.FnG X.prog X.w X.K X.mg X.base k f fd ps (spOf mf)) (gd : X.A.guards = some []) (room : Room (k + 1) X.A) (bd : Binds X.K fd ps []) (ho : PE X o (tE mo)) (hi : PE X i (tE mi))
include F gd room bd ho hi
theorem pm_tneO (hc : ∀ C D, isC C → isC D → Cn.NeC X.K C D f) (hm : behindInMarks .NotEq i = false := by rfl) : PT X (.Compare o [.NotEq] [i] pos) (tT (mT (mNeO isC mf mo mi))) := (pt_cmpR (Cn.op_neO hc F gd room bd) ho hi hm).weak fun σ H Q h => neO_of (tB_of h)
end
end
end Wp

/-! o(e, ..) by an own __call__ that may raise -/
namespace Cn
open PySem PySem.Spec PySem.Calls PyProof.Rows L2
/-- what a class brings for o(e, ..) -/
structure CallC (K : PySem.W.Frag) (C f : Addr) : Prop where
  fd : PySem.W.findIn K (.ref C) "__call__" = some (some (.ref f))
  fn : PySem.W.fnIn K f = true
  isf : PySem.W.isFn K (.ref f) = true
def tCallO (isC : Addr → Prop) (sp : Sp) (E : L2.St → XK) (ta : TE) (t : TA) : TE := fun σ H Q => ta σ H fun x H1 => ∃ a, x = .ref a ∧ t σ H1 fun vs H2 => ∃ C dx fs, isC C ∧ H2 a = some (.ins C dx fs) ∧ sp (.ref a :: vs) H2 Q (E σ)
def Ob (h : Heap) (x : Addr) : Prop := ∃ C dx od, PySem.W.InstAt h x (PySem.W.instObj C dx) C od
section
variable {M : Model} {A : Around} {E : Value → Shared → Prop} {s : Shared} {env : Env} {pos : Pos} {x : Addr} {Q : Value → Shared → Prop} {e : Expr} {es : List Expr}
end
section
variable {X : Cx} {k : Nat} {f : Addr} {fd : FuncData} {ps : List Str} {sp : Sp} {x : Str} {p pos : Pos} {e : Expr} {es : List Expr} {ta : TE} {t : TA} {Wx : WX}
end
end Cn
namespace Wp
open PySem PySem.Spec PyProof.Rows L2 Evl
def mCallO (isC : Addr → Prop) (mf : WFX) (mo : WE) (gs : WG) : WEX := fun E b R Z => mo E b fun d b1 => ∃ a, d = refD a ∧ gs E b1 fun as b2 => ∃ C fs, b2.os a = some (C, fs) ∧ isC C ∧ mf (.d d :: as) b2 R fun c s b3 => c ≠ 0 ∧ Z c s b3
section
variable {X : Cx} {k : Nat} {f : Addr} {fd : FuncData} {ps : List Str} {mf : WFX} {x : Str} {p pos : Pos} {e : Expr} {es : List Expr} {mo : WE} {gs : WG} {Wx : WX} {xc : XC}
end
/-! ### o.f += e -/
def mFAug (isC : Addr → Prop) (f : Str) (g : Int → Int → Int) (mo me : WE) : WS := fun E b F => mo E b fun d b1 => ∃ a C fs x, d = refD a ∧ b1.os a = some (C, fs) ∧ isC C ∧ fs.lookup f = some (.int x) ∧ me E b1 fun e b2 => ∃ y fs2, e = .int y ∧ b2.os a = some (C, fs2) ∧ fs2.length < 1000 ∧ F.nx E (b2.put a C (putP f (.int (g x y)) fs2))
def rI (g : Int → Int → Int) : V → V → Hp → VK → Prop := fun x y H Q => ∃ i j, x = .int i ∧ y = .int j ∧ Q (.int (g i j)) H
end Wp

namespace Wp
open PySem PySem.Spec PyProof.Rows L2 Evl
/-- x.append(y.pop(e)), x and y two own lists -/
def mAppPop (i j : Nat) (m : WE) : WS := fun E b F => ∃ es ds, i ≠ j ∧ E[i]? = some (.l es) ∧ E[j]? = some (.l ds) ∧ es.length < 100000 ∧ ds.length < 100000 ∧ m E b fun d b1 => ∃ (n : Int) (k : Nat) (x : PyData), d = .int n ∧ n = k ∧ ds[k]? = some x ∧ F.nx ((E.set j (.l (ds.eraseIdx k))).set i (.l (es ++ [x]))) b1
end Wp

/-! several clauses, some of them without a name -/
namespace Cn
open PySem PySem.Spec PyProof.Rows L2
/-- what the clauses wish of an error, one after another -/
def wClausesA (i : Nat) (Wout : WX) (D : Ends) : List (Bool × (Value → Option Bool) × (Addr → Value → Option Addr → TS)) → WX
  | [] => Wout
  | (true, m, ts) :: r => fun cls d σ H => ∃ b, m cls = some b ∧ (b = true → ∀ a, H a = none → ts a cls d { nx := fun σ' H' => D.nx (σ'.set i none) H', rt := D.rt, bk := fun σ' H' => D.bk (σ'.set i none) H', ct := fun σ' H' => D.ct (σ'.set i none) H' } (σ.set i (some (.ref a))) H) ∧ (b = false → wClausesA i Wout D r cls d σ H)
  | (false, m, ts) :: r => fun cls d σ H => ∃ b, m cls = some b ∧ (b = true → ∀ a, H a = none → ts a cls d D σ H) ∧ (b = false → wClausesA i Wout D r cls d σ H)
inductive ClausesA (X : Cx) (n : Str) : List ExceptHandler → List (Bool × (Value → Option Bool) × (Addr → Value → Option Addr → TS)) → Prop
  | nil : ClausesA X n [] []
  | cons {t : Expr} {m : Value → Option Bool} {ts : Addr → Value → Option Addr → TS} {b₀ : Stmt} {suite : List Stmt} {pos' : Pos} {hds : List ExceptHandler} {l : List (Bool × (Value → Option Bool) × (Addr → Value → Option Addr → TS))} (ht : ClT X t m)
      (hsu : ∀ (a : Addr) (oe : Obj) (cls : Value) (d : Option Addr) (pn : List (Addr × Obj)), Zn cls d oe → (∃ vs, oe.data = .fields vs) → PSs (X.suite a ((a, oe) :: pn)) (b₀ :: suite) (ts a cls d)) (r : ClausesA X n hds l) :
      ClausesA X n (.ExceptHandler (some t) (some n) (b₀ :: suite) pos' :: hds) ((true, m, ts) :: l)
  | anon {t : Expr} {m : Value → Option Bool} {ts : Addr → Value → Option Addr → TS} {b₀ : Stmt} {suite : List Stmt} {pos' : Pos} {hds : List ExceptHandler} {l : List (Bool × (Value → Option Bool) × (Addr → Value → Option Addr → TS))} (ht : ClT X t m)
      (hsu : ∀ (a : Addr) (oe : Obj) (cls : Value) (d : Option Addr) (pn : List (Addr × Obj)), Zn cls d oe → (∃ vs, oe.data = .fields vs) → PSs (X.suite a ((a, oe) :: pn)) (b₀ :: suite) (ts a cls d)) (r : ClausesA X n hds l) :
      ClausesA X n (.ExceptHandler (some t) none (b₀ :: suite) pos' :: hds) ((false, m, ts) :: l)
section
variable {X : Cx} {n : Str} {i : Nat} {body : List Stmt} {h₀ : ExceptHandler} {hds : List ExceptHandler} {l : List (Bool × (Value → Option Bool) × (Addr → Value → Option Addr → TS))} {pos : Pos} {tb : WX → TS} {Wout : WX}
end
end Cn
namespace Wp
open PySem PySem.Spec PyProof.Rows L2 Evl
/-- the clauses one after another: which errors a clause takes, and its suite -/
def mClausesA (xc : XC) (i : Nat) (c : Nat) (s : Sl) (E : Env) (b : Bt) (F : WEnds) : List (Bool × (Nat → Bool) × (Addr → Addr → Nat → WS)) → Prop
  | [] => F.xx (c + 1) s E b
  | (true, cap, ms) :: r => if cap c = true then (if (xc c).2 = "" then ∀ a dd, ms a dd c (E.set i (.r a)) b { nx := fun E2 b2 => F.nx (E2.set i .no) b2, rt := F.rt, bk := fun E2 b2 => F.bk (E2.set i .no) b2, ct := fun E2 b2 => F.ct (E2.set i .no) b2 } else ∃ d, s = .d d ∧ ∀ a dd, ms a dd c (E.set i (.x a dd (xc c).2 d c)) b { nx := fun E2 b2 => F.nx (E2.set i .no) b2, rt := F.rt, bk := fun E2 b2 => F.bk (E2.set i .no) b2, ct := fun E2 b2 => F.ct (E2.set i .no) b2 }) else mClausesA xc i c s E b F r
  | (false, cap, ms) :: r => if cap c = true then (if (xc c).2 = "" then ∀ a dd, ms a dd c E b { nx := F.nx, rt := F.rt, bk := F.bk, ct := F.ct } else ∃ d, s = .d d ∧ ∀ a dd, ms a dd c E b { nx := F.nx, rt := F.rt, bk := F.bk, ct := F.ct }) else mClausesA xc i c s E b F r
def mTryA (xc : XC) (n i : Nat) (l : List (Bool × (Nat → Bool) × (Addr → Addr → Nat → WS))) (mb : WS) : WS := fun E b F => mb E b { F with xx := fun c s E1 b1 => match c with
  | 0 => F.xx 0 s E1 b1
  | c + 1 => c < n ∧ mClausesA xc i c s E1 b1 F l }
inductive ClauseA (X : Cx) (xc : XC) (n : Nat) (nm : Str) : List ExceptHandler → List (Bool × (Nat → Bool) × (Addr → Addr → Nat → WS)) → Prop
  | nil : ClauseA X xc n nm [] []
  | cons {t : Expr} {m : Value → Option Bool} {cap : Nat → Bool} {ms : Addr → Addr → Nat → WS} {b₀ : Stmt} {suite : List Stmt} {pos' : Pos} {hds : List ExceptHandler} {l : List (Bool × (Nat → Bool) × (Addr → Addr → Nat → WS))} (ht : Cn.ClT X t m) (hcap : ∀ c, c < n → m (.ref (xc c).1) = some (cap c))
      (hsu : ∀ (a dd : Addr) (oe : Obj) (c : Nat) (pn : List (Addr × Obj)), c < n → Zn (.ref (xc c).1) (dOf xc c dd) oe → (∃ vs, oe.data = .fields vs) → PSs (X.suite a ((a, oe) :: pn)) (b₀ :: suite) (tS noX (ms a dd c))) (r : ClauseA X xc n nm hds l) :
      ClauseA X xc n nm (.ExceptHandler (some t) (some nm) (b₀ :: suite) pos' :: hds) ((true, cap, ms) :: l)
  | anon {t : Expr} {m : Value → Option Bool} {cap : Nat → Bool} {ms : Addr → Addr → Nat → WS} {b₀ : Stmt} {suite : List Stmt} {pos' : Pos} {hds : List ExceptHandler} {l : List (Bool × (Nat → Bool) × (Addr → Addr → Nat → WS))} (ht : Cn.ClT X t m) (hcap : ∀ c, c < n → m (.ref (xc c).1) = some (cap c))
      (hsu : ∀ (a dd : Addr) (oe : Obj) (c : Nat) (pn : List (Addr × Obj)), c < n → Zn (.ref (xc c).1) (dOf xc c dd) oe → (∃ vs, oe.data = .fields vs) → PSs (X.suite a ((a, oe) :: pn)) (b₀ :: suite) (tS noX (ms a dd c))) (r : ClauseA X xc n nm hds l) :
      ClauseA X xc n nm (.ExceptHandler (some t) none (b₀ :: suite) pos' :: hds) ((false, cap, ms) :: l)
section
variable {X : Cx} {nm : Str} {i n : Nat} {body : List Stmt} {h₀ : ExceptHandler} {hds : List ExceptHandler} {pos : Pos} {xc : XC} {mb : WS} {l : List (Bool × (Nat → Bool) × (Addr → Addr → Nat → WS))} {Wx : WX}
end
end Wp

/-! texts: split, methods, slices, signs, int -/
namespace Wp
open PySem PySem.Spec PyProof.Rows L2 Evl
/-- a.split(s) -/
def mSp (mo m : WE) : WL := fun E b R => mo E b fun d b1 => match d with
  | .str a => m E b1 fun e b2 => match e with
    | .str s => (s.length == 0) = false ∧ a.length + 2 ≤ sizeLine ∧ R ((Txt.split a s).map PyData.str) b2
    | _ => False
  | _ => False
theorem mSp_e {mo m : WE} {E : Env} {b : Bt} {R : List PyData → Bt → Prop} : mSp mo m E b R = (mo E b fun d b1 => match d with
  | .str a => m E b1 fun e b2 => match e with
    | .str s => (s.length == 0) = false ∧ a.length + 2 ≤ sizeLine ∧ R ((Txt.split a s).map PyData.str) b2
    | _ => False
  | _ => False) := propext Iff.rfl
/-- a text's method without arguments -/
def mS0 (ok : Str → Prop) (g : Str → PyData) (mo : WE) : WE := fun E b R => mo E b fun d b1 => match d with
  | .str a => ok a ∧ R (g a) b1
  | _ => False
/-- a text's method with one text -/
def mS1 (ok : Str → Str → Prop) (g : Str → Str → PyData) (mo m : WE) : WE := fun E b R => mo E b fun d b1 => match d with
  | .str a => m E b1 fun e b2 => match e with
    | .str s => ok a s ∧ R (g a s) b2
    | _ => False
  | _ => False
abbrev okAny : Str → Prop := fun _ => True
abbrev okLine : Str → Str → Prop := fun a _ => a.length ≤ sizeLine
section
variable {X : Cx} {m mo : WE} {pos apos : Pos} {e o : Expr}
theorem DtAll.of_strs {H : Hp} : ∀ ys : List Str, DtAll H (ys.map V.str) (ys.map PyData.str)
  | [] => .nil
  | y :: ys => .cons (.str y) (DtAll.of_strs ys)
theorem pm_sp (ho : PE X o (tE mo)) (he : PE X e (tE m)) (hs : starEach [e] X.env = [(false, eval e X.env)] := by rfl) (hbase : attributeBase o "split" X.env (eval o X.env) = eval o X.env := by rfl) (hline : (apos.endLine == pos.line) = true := by rfl) :
    PE X (.Call (.Attribute o "split" apos) [e] [] pos) (tL (mSp mo m)) := (pe_split ho he hs hbase hline).weak fun σ H Q ⟨W, H0, E, b, R, S, hm, k⟩ => by
  refine ⟨W, H0, E, b, _, S, hm, fun d b1 v H1 h1 k1 d1 t1 => ?_⟩
  cases d <;> first | exact h1.elim | skip
  cases t1
  refine ⟨⟨_, rfl⟩, W, H0, E, b1, _, S.step k1 d1, h1, fun d b2 y H2 h2 k2 d2 t2 => ?_⟩
  cases d <;> first | exact h2.elim | skip
  cases t2
  refine ⟨_, _, rfl, rfl, h2.1, h2.2.1, fun p np => ?_⟩
  exact k _ b2 p _ _ h2.2.2 ((k1.trans k2).trans (Kp.ex (Ex.new np))) (W.ex (Ex.new np) d2) ((k1.trans k2).back (W.free d2 np) np) upd_same (DtAll.of_strs _)
/-! int of a text -/
def intSW : WB := fun ds R => match ds with
  | [.str a] => ∃ n, PySem.intText? a = some n ∧ a.length ≤ 640 ∧ R (.int n)
  | _ => False
/-! len of a text, too -/
def lenT : WB := fun ds R => match ds with
  | [.str z] => z.length ≤ sizeLine ∧ R (.int z.length)
  | ds => lenW ds R
/-! a text's sign, slices, times, signs in -/
def ixT : W2 := fun d e R => match d, e with
  | .str z, .int i => z.length ≤ sizeLine ∧ ∃ c, atI z.cps.toList i = some c ∧ R (.str ⟨#[c]⟩)
  | _, _ => ixW d e R
def mulT : W2 := fun d e R => match d, e with
  | .str z, .int i => (0 ≤ i ∧ i ≤ 1 ∧ z.length ≤ sizeLine) ∧ R (if i < 1 then .str Str.empty else .str z)
  | _, _ => mulW d e R
def slT (d : PyData) (lo hi : Option Int) (R : PyData → Prop) : Prop := match d with
  | .str z => z.length ≤ sizeLine ∧ R (.str (Txt.slice z lo hi))
  | _ => slW d lo hi R
def rSlT2 : V → Option Int → Option Int → Hp → VK → Prop := fun x lo hi H Q => ∃ (W : Wld) (d : PyData) (R : PyData → Prop), Dq W H x d ∧ slT d lo hi R ∧ ∀ z v H', R z → Ex H H' → Dt H' v z → Q v H'
def mSlT (m : WE) (lo hi : WO) : WE := fun E b R => m E b fun d b1 => lo E b1 fun l b2 => hi E b2 fun u b3 => slT d l u fun z => R z b3
/-- whether a text stands in another -/
def subS (j i : Str) : Bool := !(Builtin.Str.occurrences j i 0 j.length 1).isEmpty
def inT : W2 := fun d e R => match d, e with
  | .str i, .str j => R (.bool (subS j i))
  | _, _ => inW d e R
def ninT : W2 := fun d e R => match d, e with
  | .str i, .str j => R (.bool (!subS j i))
  | _, _ => ninW d e R
/-! comprehensions over a text's signs, over enumerate(list) -/
def sgD (z : Str) : List PyData := z.cps.toList.map fun c => .str ⟨#[c]⟩
def mLcS (t : WG1) (me : WE) (mt : WT) (ml : WE) (vs : List Nat) : WL := fun E b R => me E b fun d b1 => match d with
  | .str z => mComp t mt ml (wipeE E vs) (sgD z) [] b1 R
  | _ => False
def mLcE (t : WG1) (ms : WL) (mt : WT) (ml : WE) (vs : List Nat) : WL := fun E b R => ms E b fun ds b1 => match ds with
  | [.list xs] => mComp t mt ml (wipeE E vs) (enD 0 xs) [] b1 R
  | _ => False
/-! comprehensions over zip(tuple, tuple) -/
def mLcZT (t : WG1) (ms : WL) (mt : WT) (ml : WE) (vs : List Nat) : WL := fun E b R => ms E b fun ds b1 => match ds with
  | [.tuple xs, .tuple ys] => mComp t mt ml (wipeE E vs) (zipD xs ys) [] b1 R
  | _ => False
/-! l.index(x) of data -/
mutual
def sqD : PyData → Bool
  | .none => true
  | .bool _ => true
  | .int _ => true
  | .str _ => true
  | .list ds => sqAll ds
  | .tuple ds => sqAll ds
  | _ => false
def sqAll : List PyData → Bool
  | [] => true
  | d :: ds => sqD d && sqAll ds
end
mutual
theorem Dt.dp {K : PySem.W.Frag} {H : Hp} : ∀ (d : PyData) (v : V), sqD d = true → Dt H v d → Dp K H v d
  | .none, _, _, h => by cases h; exact .non
  | .bool b, _, _, h => by cases h; exact .bl b
  | .int i, _, _, h => by cases h; exact .int i
  | .str x, _, _, h => by cases h; exact .str x
  | .list ds, _, hb, h => by
    cases h with
    | lst hs ha => exact .lst (.inl (.inr ⟨_, hs⟩)) (DtAll.dp ds _ (by simpa only [sqD] using hb) ha)
  | .tuple ds, _, hb, h => by
    cases h with
    | tup hs _ ha => exact .tup (.inl (.inr ⟨_, hs⟩)) (DtAll.dp ds _ (by simpa only [sqD] using hb) ha)
  | .dict _, _, hb, _ => by simp [sqD] at hb
theorem DtAll.dp {K : PySem.W.Frag} {H : Hp} : ∀ (ds : List PyData) (vs : List V), sqAll ds = true → DtAll H vs ds → DpAll K H vs ds
  | [], _, _, h => by cases h; exact .nil
  | d :: ds, _, hb, h => by
    rw [sqAll, Bool.and_eq_true] at hb
    cases h with
    | cons a r => exact .cons (Dt.dp d _ hb.1 a) (DtAll.dp ds _ hb.2 r)
end
theorem Dq.dp {K : PySem.W.Frag} {W : Wld} {H : Hp} {v : V} {d : PyData} (hb : sqD d = true) (h : Dq W H v d) : Dp K H v d := by
  rcases h with h | ⟨a, ds, rfl, rfl, _, xs, ha, hx⟩
  · exact h.dp _ _ hb
  · exact .lst (.inl (.inl ha)) (DtAll.dp _ _ (by simpa only [sqD] using hb) hx)
def mIdxD (ml m : WE) : WE := fun E b R => ml E b fun l b1 => ∃ ds, l = .list ds ∧ m E b1 fun d b2 => ∃ j z, (sqAll ds = true ∧ sqD d = true ∧ SeqAt.shaped (.list ds) = true ∧ SeqAt.shaped d = true) ∧ ds[j]? = some z ∧ PyData.eqv z d = true ∧ (∀ m z', m < j → ds[m]? = some z' → PyData.eqv z' d = false) ∧ R (.int (j : Nat)) b2
end
end Wp

/-! for in a generator's body -/
namespace Cn
open PySem PySem.Spec PyProof.Rows L2 GenW
section
variable {M : Model} {A : Around} {R : GenEnd} {Y : Protocol} {n : Nat} {s₀ : Shared} {c : Code} {fs : List Frame} {s : Shared} {env : Env} {K : Flow → Sem PySem.Fin} {H : Value → Sem PySem.Fin} {gd : Bool → Bool} {lv : List Value → List Value}
end
section
variable {prog : Program} {w : World} {A : Around} {R : GenEnd} {Y : Protocol} {n : Nat} {s₀ : Shared} {fs : List Frame} {s : Shared} {env : Env}
abbrev notedJ (env : Env) : Value → Sem PySem.Fin := fun e => (do noteFrame e env; theTreesLotGoes e : Sem Unit).wrap (fun _ => .raise e) .raise id id
end
section
variable {X : Cx} {tg iter : Expr} {body : List Stmt} {wi : TI} {g : TG} {tb : TGn} {pos : Pos}
def tGFor (wi : TI) (g : TG) (tb : TGn) : TGn := fun D ys σ H => wi σ H fun J H1 => ∃ W : Nat → Nat → List V → L2.St → Hp → Prop, (∃ m, W 0 m ys σ H1) ∧ ∀ i m ys σ H, W i m ys σ H →
  (J.stop i H ∧ D.nx ys σ H) ∨ (J.go i H ∧ ∃ N : List V → L2.St → Hp → Prop, (∀ ys' σ' H', N ys' σ' H' → ∃ m', m' < m ∧ W (i + 1) m' ys' σ' H') ∧ ∀ x H', J.yld i H x H' → g x σ H' fun σ2 H2 => tb { D with nx := N, ct := N, bk := D.nx } ys σ2 H2)
end
end Cn

namespace Wp
open PySem PySem.Spec PyProof.Rows L2 Evl
section
variable {X : Cx} {e a b : Expr} {es : List Expr} {m ma mb : WE} {ms : WL} {pos : Pos}
/-! ### an own list becomes data -/
def mLockS (i : Nat) (m : WS) : WS := fun E b F => ∃ ds, E[i]? = some (.l ds) ∧ m (E.set i (.d (.list ds))) b F
/-! ### divmod -/
def dmW : WB := fun ds R => match ds with
  | [.int i, .int j] => (0 < j ∧ j < 1073741824) ∧ R (.tuple [.int (i / j), .int (i % j)])
  | _ => False
/-! ### name op= int -/
def mAug (i : Nat) (f : Int → Int → Int) (m : WE) : WS := fun E b F => ∃ x, E[i]? = some (.d (.int x)) ∧ m E b fun d b1 => match d with
  | .int y => F.nx (E.set i (.d (.int (f x y)))) b1
  | _ => False
end
end Wp

namespace Wp
open PySem PySem.Spec PyProof.Rows L2 L2.DX Evl
/-! ### sorted(d.items()), d a dict whose keys are tuples -/
def pairN (p : NestedKey × PyData) : PyData := .tuple [p.1.data, p.2]
section
variable {X : Cx}
def rItemsN : V → List V → Hp → VK → Prop := fun x xs H Q => ∃ (a : Addr) (W : Wld) (ds : List (NestedKey × PyData)), x = .ref a ∧ xs = [] ∧ NcAt W H a ds ∧ ∀ p, H p = none → Q (.ref p) (upd H p (itemsO p a))
/-- what lies at a pair that was made -/
def PrO (h : Heap) (H : Hp) (a : Addr) (y : (V × V) × PyData × PyData) : Prop := (∃ u1 u2, h.get? a = some { cls := .type "tuple", data := .seq #[u1, u2] } ∧ RelV y.1.1 u1 ∧ RelV y.1.2 u2) ∧ Dt H y.1.1 y.2.1 ∧ Dt H y.1.2 y.2.2
theorem PrO.mono {h : Heap} {H H' : Hp} (k : Fk H H') : ∀ {as : List Addr} {ys : List ((V × V) × PyData × PyData)}, Paired (PrO h H) as ys → Paired (PrO h H') as ys
  | _, _, .nil => .nil
  | _, _, .cons a t => .cons ⟨a.1, a.2.1.mono k, a.2.2.mono k⟩ (PrO.mono k t)
def rSortN : List V → Hp → VK → Prop := fun vs H Q => ∃ (W : Wld) (p a : Addr) (ds : List (NestedKey × PyData)), vs = [.ref p] ∧ H p = some (itemsO p a) ∧ NcAt W H a ds ∧ okSrt (ds.map pairN) ∧
  ∀ l xs H', Ex H H' → H l = none → H' l = some (.lst xs) → DtAll H' xs (srt (ds.map pairN)) → Q (.ref l) H'
variable {e o : Expr} {pos p apos cpos : Pos}
def tItN (td : TE) : TE := fun σ H Q => td σ H fun x H1 => ∃ (a : Addr) (W : Wld) (ds : List (NestedKey × PyData)), x = .ref a ∧ NcAt W H1 a ds ∧ ∀ p, H1 p = none → Q (.ref p) (upd H1 p (itemsO p a))
def mSortN (i : Nat) : WL := fun E b R => ∃ s ds, E[i]? = some s ∧ asN s = some ds ∧ okSrt (ds.map pairN) ∧ R (srt (ds.map pairN)) b
end
end Wp

/-! for over zip of a tuple and a list -/
namespace Zt
open PySem PySem.W PyProof.Rows PySem.Spec
section
variable {prog : Program} {w : World} {A : Around} {E : Value → Shared → Prop} {s : Shared} {z TI TO i1 i2 l1 l2 : Addr} {k1 k2 : Nat} {xs ys : Array Value} {a b : Value}
/-- the two sources at their turns, and what they walk over -/
structure Src (h : Heap) (i1 i2 l1 l2 : Addr) (k1 k2 : Nat) (xs ys : Array Value) : Prop where
  p : h.IsTupleIter i1 l1 k1
  q : h.IsListIter i2 l2 k2
  u : h.IsTuple l1 xs
  v : h.IsList l2 ys
end
def G1 (h : Heap) (l : Addr) : Heap := h.push { cls := .type "tuple_iterator", data := .fields #[.ref l, .int 0 0] }
def G2 (h : Heap) (l m : Addr) : Heap := (G1 h l).push { cls := .type "list_iterator", data := .fields #[.ref m, .int 0 0] }
def G3 (h : Heap) (l m : Addr) : Heap := (G2 h l m).push { cls := .type "tuple", data := .seq #[.ref h.objs.size, .ref (G1 h l).objs.size] }
def G4 (h : Heap) (l m : Addr) : Heap := (G3 h l m).push { cls := .type "tuple", data := .seq #[.none, .none] }
def G5 (h : Heap) (l m : Addr) : Heap := (G4 h l m).push { cls := .type "zip", data := .fields #[.none, .bool false, .bool false, .ref (G2 h l m).objs.size, .ref (G3 h l m).objs.size] }
end Zt
namespace Zt
open PySem PySem.Spec PyProof.Rows L2
/-- a tuple and a list, the items in new pairs -/
def ItM (K : PySem.W.Frag) (a b : Addr) : It :=
  ⟨fun i H => ∃ (xs ys : List V) (x y : V), (SqT K H a xs ∧ xs[i]? = some x) ∧ SqL K H b ys ∧ ys[i]? = some y,
    fun i H v H' => ∃ T x y, (v = .ref T ∧ H T = none ∧ H' = upd H T (.tup [x, y])) ∧ (∀ xs, SqT K H a xs → xs[i]? = some x) ∧ ∀ ys, SqL K H b ys → ys[i]? = some y,
    fun i H => ∃ xs ys : List V, (SqT K H a xs ∧ SqL K H b ys) ∧ (xs.length ≤ i ∨ ys.length ≤ i)⟩
def iZX (K : PySem.W.Frag) (ta : TA) : TI := fun σ H R => ta σ H fun vs H1 => ∃ a b xs ys, vs = [.ref a, .ref b] ∧ (SqT K H1 a xs ∧ SqL K H1 b ys) ∧ R (ItM K a b) H1
end Zt
namespace Wp
open PySem PySem.Spec PyProof.Rows L2 Evl
/-- for over zip(tuple, list) -/
def mForZX (t : WG1) (ms : WL) (m : WS) : WS := fun E b F => ms E b fun ds b1 => match ds with
  | [.tuple xs, .list ys] => mTurns t m (zipD xs ys) E b1 F
  | _ => False
section
variable {X : Cx} {pos : Pos}
end
end Wp

/-! comprehensions over zip(tuple, list) -/
namespace Wp
open PySem PySem.Spec PyProof.Rows L2 Evl
def mLcZX (t : WG1) (ms : WL) (mt : WT) (ml : WE) (vs : List Nat) : WL := fun E b R => ms E b fun ds b1 => match ds with
  | [.tuple xs, .list ys] => mComp t mt ml (wipeE E vs) (zipD xs ys) [] b1 R
  | _ => False
end Wp

/-! texts with a piece replaced: behind a statement with a written text a token is out -/
namespace PySem
def Tk {α : Type} (t : Sem α) : Prop := ∀ (M : Model) (Γ : Ctx) (Q : α → Pos → Shared → Prop) (E : Value → Pos → Shared → Prop) (p : Pos) (s : Shared), Sem.wp M Γ t Q E p s → Sem.wp M Γ t (fun a p' s' => 1 ≤ s'.toks ∧ Q a p' s') E p s
theorem Tk.left {α β : Type} {m : Sem α} {f : α → Sem β} (h : Tk m) : Tk (m >>= f) := fun M Γ Q E p s hw => by
  rw [Sem.wp_bind'] at hw ⊢
  exact Sem.wp_mono M Γ m (fun a p' s' x => Sem.wp_mono M Γ (f a) (fun _ _ _ x => x) (fun _ _ _ x => x.2) p' s' (Sem.wp_toks M Γ 1 (f a) _ _ p' s' x.1 x.2)) (fun _ _ _ x => x) p s (h M Γ _ E p s hw)
theorem Tk.right {α β : Type} {m : Sem α} {f : α → Sem β} (h : ∀ a, Tk (f a)) : Tk (m >>= f) := fun M Γ Q E p s hw => by
  rw [Sem.wp_bind'] at hw ⊢
  exact Sem.wp_mono M Γ m (fun a p' s' x => h a M Γ Q E p' s' x) (fun _ _ _ x => x) p s hw
theorem Tk.text {x : Str} : Tk (mkText x) := fun M Γ Q E p s hw => by
  have : Sem.wp M Γ (mkText x) Q E p s = Q (.str x s.toks) p { s with toks := s.toks + 1 } := rfl
  rw [this] at hw
  show 1 ≤ s.toks + 1 ∧ _
  exact ⟨by omega, hw⟩
theorem Tk.list {e : Expr} {es : List Expr} {pos : Pos} {env : Env} (h : Tk (eval e env)) (hs : starEach (e :: es) env = (false, eval e env) :: starEach es env := by rfl) : Tk (eval (.List (e :: es) pos) env) := by
  rw [arm_eval_List, hs]
  exact Tk.right fun _ => Tk.left (Tk.left h)
end PySem
namespace L2
open PySem PySem.Spec PyProof.Rows
section
variable {X : Cx} {st : Stmt} {rest : List Stmt} {t u : TS}
end
section
variable {X : Cx} {o e f : Expr} {es : List Expr} {to te : TE} {T : String} {name : Str} {id : String} {r : V → List V → Hp → VK → Prop} {apos cpos pos : Pos}
/-- the first occurrence replaced -/
def rep1 (x y z : Str) : Str := if (Builtin.Str.occurrences x y 0 x.length 1).isEmpty then x else Builtin.Str.glued z (Builtin.Str.partsBetween x (Builtin.Str.occurrences x y 0 x.length 1) y.length)
def tRep1 (to : TE) (y z : Str) : TE := fun σ H Q => to σ H fun v H1 => ∃ x, v = .str x ∧ x.length + (x.length + 1) * z.length ≤ 16777216 ∧ Q (.str (rep1 x y z)) H1
end
end L2
namespace PySem
open Builtin Builtin.Str PyProof.Rows
end PySem
namespace PySem
open PyProof.Rows
end PySem
namespace L2
open PySem PySem.Spec PyProof.Rows
section
variable {X : Cx} {o : Expr} {to : TE} {y z : Str} {j k l : Nat} {c0 c1 c2 apos pos : Pos}
end
end L2
namespace Wp
open PySem PySem.Spec PyProof.Rows L2 Evl
/-- o.replace(y, z, 1) -/
def mRep1 (y z : Str) (mo : WE) : WE := fun E b R => mo E b fun d b1 => match d with
  | .str x => x.length + (x.length + 1) * z.length ≤ 16777216 ∧ R (.str (L2.rep1 x y z)) b1
  | _ => False
section
variable {X : Cx} {m mo : WE} {pos apos : Pos} {e o : Expr}
theorem PET.weak {t u : TE} (h : PET X e t) (w : ∀ σ H Q, u σ H Q → t σ H Q) : PET X e u := fun pins s σ H Q h0 I q => h pins s σ H Q h0 I (w σ H Q q)
theorem PST.weak {st : Stmt} {t u : TS} (h : PST X st t) (w : ∀ D σ H, u D σ H → t D σ H) : PST X st u := fun pins s σ H D h0 I q => h pins s σ H D h0 I (w D σ H q)
theorem PET.q (h : PET X e (tE m)) : PET X e (tQ m) := Wp.PET.weak h fun σ H Q ⟨W, H0, E, b, R, S, hm, k⟩ => ⟨W, H0, E, b, R, S, hm, fun d b' v H' r kp dk t => k d b' v H' r kp dk (.inl t)⟩
/-! a text times a number -/
def timesS (z : Str) (i : Int) : Str := if i < 1 then Str.empty else if (i == 1 || z.length == 0) = true then z else ⟨(List.replicate i.toNat z.cps).foldl (· ++ ·) #[]⟩
def mulN : W2 := fun d e R => match d, e with
  | .str z, .int i => (0 ≤ i ∧ i ≤ 1000 ∧ z.length ≤ 1000) ∧ R (.str (timesS z i))
  | _, _ => mulW d e R
end
end Wp

/-! str of a text, too -/
namespace Wp
open PySem PySem.Spec PyProof.Rows L2 Evl
def strT : WB := fun ds R => match ds with
  | [.str a] => R (.str a)
  | ds => strW ds R
section
variable {X : Cx}
end
end Wp

/-! f"{n:>10,}" -/
namespace Wp.Fm
open PySem PySem.Spec PyProof.Rows L2 Evl
open Builtin Float
def fC : FormatSpec := { fill := 32, align := 62, width := some 10, grouping := some ',' }
theorem hpC : parseFormatSpec (Str.ofString ">10,").cps.toList "int" 62 = .ok fC := by kernel_rfl
/-- what the model's text is -/
def colF (f : FormatSpec) (a : Int) : Str := intField' f (decide (a < 0)) [] ((Nat.toDigits 10 a.natAbs).map fun c => c.toNat) [] 3
section
variable {prog : Program} {w : World} {A : Around} {E : Value → Shared → Prop} {s : Shared}
def intFieldG (G : Nat → Nat → Nat → List Nat → Int → List Nat → List Nat) (f : FormatSpec) (negative : Bool) (pre digits tail : List Nat) (groupSize : Nat) : Str :=
  let sign : List Nat := if negative then [45] else match f.sign with | some 43 => [43] | some 32 => [32] | _ => []
  let width : Int := match f.width with | some w => w | none => -1
  let other : Int := sign.length + pre.length + tail.length
  let room : Int := if f.fill == 48 && f.align == 61 then width - other else 0
  let ds := if digits.isEmpty then [] else match f.grouping with
    | none => List.replicate (room.toNat - digits.length) 48 ++ digits
    | some sep => G groupSize sep.toNat (digits.length + room.toNat + 1) digits.reverse room []
  let pad := (width - other - ds.length).toNat
  let (left, mid, right) :=
    if f.align == 60 then (0, 0, pad) else if f.align == 94 then (pad / 2, 0, pad - pad / 2) else if f.align == 61 then (0, pad, 0) else (pad, 0, 0)
  ⟨(List.replicate left f.fill ++ sign ++ pre ++ List.replicate mid f.fill ++ ds ++ tail ++ List.replicate right f.fill).toArray⟩
theorem G_is {G : Nat → Nat → Nat → List Nat → Int → List Nat → List Nat} (h0 : ∀ size sep ds room out, G size sep 0 ds room out = out)
    (h1 : ∀ size sep turns (digits : List Nat) (room : Int) out, G size sep (turns + 1) digits room out =
      (let n := min size (max (max (digits.length : Int) room) 1).toNat
       let out := List.replicate (n - digits.length) 48 ++ (digits.take n).reverse ++ out
       if (digits.drop n).isEmpty && room - n ≤ 0 then out else G size sep turns (digits.drop n) (room - n - 1) (sep :: out))) : G = groupsFromRight' := by
  funext size sep turns
  induction turns with
  | zero => funext ds room out; rw [h0]; rfl
  | succ n ih =>
    funext ds room out
    rw [h1, groupsFromRight']
    simp only [ih]
theorem G_col {G : Nat → Nat → Nat → List Nat → Int → List Nat → List Nat} {f : FormatSpec} {a : Int} (h0 : ∀ size sep ds room out, G size sep 0 ds room out = out)
    (h1 : ∀ size sep turns (digits : List Nat) (room : Int) out, G size sep (turns + 1) digits room out =
      (let n := min size (max (max (digits.length : Int) room) 1).toNat
       let out := List.replicate (n - digits.length) 48 ++ (digits.take n).reverse ++ out
       if (digits.drop n).isEmpty && room - n ≤ 0 then out else G size sep turns (digits.drop n) (room - n - 1) (sep :: out))) :
    intFieldG G f (decide (a < 0)) [] ((Nat.toDigits 10 a.natAbs).map fun c => c.toNat) [] 3 = colF f a := by
  rw [G_is h0 h1]
  rfl
theorem col_of {M : PySem.Model} {x y : Str} {B : Around} {Q : PySem.Fin → Shared → Prop} {E : Value → Shared → Prop} {s : Shared} (e : y = x) (h : wpAny M B (retStr x) Q E s) : wpAny M B (retStr y) Q E s := e ▸ h
theorem formatField_colF {f : FormatSpec} {a : Int} {t : Tok} {Q : Value → Shared → Prop} (hp : parseFormatSpec (Str.ofString ">10,").cps.toList "int" 62 = .ok f) (hty : f.type = none) (hpr : f.precision = none) (hz : f.noNeg0 = false) (hal : f.alt = false) (hw : f.width.getD 0 ≤ 100000) (hlt : a.natAbs.log2 < 1920) (hlen : (colF f a).length ≤ sizeLine)
    (h : Q (.str (colF f a) (s.toks + 1)) { s with toks := s.toks + 1 + 1 }) : wpAny (model prog w) A (formatField (.int a t) (Str.ofString ">10,")) Q E s := by
  have hsz : (Str.ofString ">10,").length ≤ sizeLine := by decide +kernel
  show wpAny _ _ (holding [.int a t] (pyFormat (.int a t) (Str.ofString ">10,"))) Q E s
  refine wpAny_holding ?_
  unfold pyFormat
  refine wpAny_bind (wpAny_mkStr ?_ hsz)
  refine wpAny_bind (m := callSpecial? (.int a t) (Str.ofString "__format__") [.str (Str.ofString ">10,") s.toks]) (wpAny_callSpecial?_slot (name := Str.ofString "__format__") (typeIs_int _ a t) slot_int_format ?_)
  refine wpAny_call (codeAny_call_builtin slot_int_format.plain entry_int_format (slot_int_format.check _ _ _ _ _ _ _ _ (typeIs_int _ a t) (args_int_format _ _) ?_))
  have hne : ((Str.ofString ">10,").length == 0) = false := by decide +kernel
  have hasc : (((Str.ofString ">10,").cps.toList.drop 1).any (· ≥ 128) || ((Str.ofString ">10,").cps.getD 0 0 ≥ 128 && !([60, 62, 61, 94] : List Nat).contains ((Str.ofString ">10,").cps.getD 1 0))) = false := by decide +kernel
  unfold Builtin.«int.__format__»
  simp only [selfAndOne, noKeywords, Builtin.Int.intOfSelf, asInt?, asStr?, List.isEmpty_nil, if_true, pure_bind, bind_pure, bind_assoc, hne, hasc, Bool.false_eq_true, if_false,
    show (Value.str (Str.ofString ">10,") s.toks == Value.none) = false from rfl]
  refine wpAny_bind (wpAny_typeNameOf (T := "str") (typeIs_str _ _ _) (by decide) fun _ => ?_)
  refine wpAny_bind (wpAny_typeNameOfCut_int ?_)
  have hty : f.type.getD (if ((Str.ofString ">10,").cps.back? == some 0) = true then 0 else 100) = 100 := by rw [hty]; decide +kernel
  simp only [hp, hty]
  rw [if_pos (by decide)]
  show wpAny _ _ (if _ then _ else _) _ _ _
  rw [if_neg (by simp [hpr])]
  show wpAny _ _ (if _ then _ else _) _ _ _
  rw [if_neg (by simp [hz])]
  show wpAny _ _ (if _ then _ else _) _ _ _
  rw [if_neg (by decide)]
  show wpAny _ _ (do let r ← Builtin.overDigitLimit? a; _) _ _ _
  rw [PyProof.Rows.overDigitLimit_small hlt]
  refine wpAny_bind (wpAny_pure ?_)
  show wpAny _ _ (if _ then _ else _) _ _ _
  have hw' : ¬ (f.width.getD 0 > 100000) := by omega
  rw [if_neg (by simpa using hw')]
  simp only [hal, Bool.false_eq_true, if_false, show ((10 : Nat) == 10) = true by decide, if_true, show ((100 : Nat) == 88) = false by decide]
  refine col_of (x := colF f a) ?_ ?_
  · exact G_col (fun _ _ _ _ _ => rfl) (fun _ _ _ _ _ _ => rfl)
  · unfold retStr
    refine wpAny_bind (wpAny_mkStr (wpAny_pure ?_) hlen)
    dsimp only
    refine wpAny_bind (wpAny_isInstance (typeIs_str _ _ _) isSubtype_str_str (wpAny_pure ?_))
    exact h
end
/-- f"{a:>10,}" -/
def colS (a : Int) : Str := colF fC a
theorem formatField_col {prog : Program} {w : World} {A : Around} {E : Value → Shared → Prop} {s : Shared} {a : Int} {t : Tok} {Q : Value → Shared → Prop} (hlt : a.natAbs.log2 < 1920) (hlen : (colS a).length ≤ sizeLine)
    (h : Q (.str (colS a) (s.toks + 1)) { s with toks := s.toks + 1 + 1 }) : wpAny (model prog w) A (formatField (.int a t) (Str.ofString ">10,")) Q E s :=
  formatField_colF hpC rfl rfl rfl rfl (by decide) hlt hlen h
section
variable {X : Cx}
theorem pe_fmtC {e spec : Expr} {te ts : TE} {pos : Pos} (he : PE X e te) (hs : PE X spec ts) : PE X (.FormattedValue e (-1) (some spec) pos)
    (fun σ H Q => te σ H fun x H1 => ∃ i : Int, x = .int i ∧ (i.natAbs.log2 < 1920 ∧ (colS i).length ≤ sizeLine) ∧ ts σ H1 fun y H2 => y = .str (Str.ofString ">10,") ∧ Q (.str (colS i)) H2) := by
  refine ⟨fun pins s σ H Q I h => ?_⟩
  refine wpAny_FormattedValue_spec (thn (he.run pins s σ H _ I h) fun v s1 hv => ?_)
  obtain ⟨x, H1, I1, r1, i, rfl, ⟨hb, hl⟩, q⟩ := hv
  obtain ⟨t, rfl⟩ := r1
  refine thn (hs.run pins s1 σ H1 _ I1 q) fun v2 s2 hv2 => ?_
  obtain ⟨y, H2, I2, r2, rfl, q2⟩ := hv2
  obtain ⟨t2, rfl⟩ := r2
  refine ⟨_, t2, rfl, ?_⟩
  exact formatField_col hb hl ⟨.str _, H2, (I2.tok _).tok _, ⟨_, rfl⟩, q2⟩
end
end Wp.Fm
namespace Wp
open PySem PySem.Spec PyProof.Rows L2 Evl
def mFmtC (m : WE) : WE := fun E b R => m E b fun d b1 => match d with
  | .int i => (i.natAbs.log2 < 1920 ∧ (Fm.colS i).length ≤ sizeLine) ∧ R (.str (Fm.colS i)) b1
  | _ => False
theorem mFmtC_e {m : WE} {E : Env} {b : Bt} {R : PyData → Bt → Prop} : mFmtC m E b R = (m E b fun d b1 => match d with
  | .int i => (i.natAbs.log2 < 1920 ∧ (Fm.colS i).length ≤ sizeLine) ∧ R (.str (Fm.colS i)) b1
  | _ => False) := propext Iff.rfl
theorem pm_fmtC {X : Cx} {e spec : Expr} {m : WE} {pos : Pos} (he : PE X e (tE m)) (hs : PE X spec (tE (mC (.str (Str.ofString ">10,"))))) : PE X (.FormattedValue e (-1) (some spec) pos) (tE (mFmtC m)) := (Fm.pe_fmtC he hs).weak fun σ H Q ⟨W, H0, E, b, R, S, hm, k⟩ => by
  refine ⟨W, H0, E, b, _, S, hm, fun d b1 v H1 h1 k1 d1 t1 => ?_⟩
  cases d <;> first | exact h1.elim | skip
  cases t1
  refine ⟨_, rfl, h1.1, W, H0, E, b1, fun d b2 => d = .str (Str.ofString ">10,") ∧ b2 = b1, S.step k1 d1, ⟨rfl, rfl⟩, fun d b2 y H2 h2 k2 d2 t2 => ?_⟩
  obtain ⟨rfl, rfl⟩ := h2
  cases t2
  exact ⟨rfl, k _ b2 _ H2 h1.2 (k1.trans k2) d2 (.str _)⟩
end Wp

/-! a comprehension whose element wants a token that is out: its iterable has a written text -/
namespace L2
open PySem PySem.Spec PyProof.Rows
section
variable {X : Cx}
/-- behind e a token is out -/
def PEk (X : Cx) (e : Expr) (t : TE) : Prop := ∀ (pins : List (Addr × Obj)) (s : Shared) (σ : St) (H : Hp) (Q : VK), Inv X pins σ H s → t σ H Q → wpAny (model X.prog X.w) X.A (eval e X.env) (fun v s' => 1 ≤ s'.toks ∧ EP X pins σ Q v s') X.xe s
theorem PEk.weak {e : Expr} {t u : TE} (h : PEk X e t) (w : ∀ σ H Q, u σ H Q → t σ H Q) : PEk X e u := fun pins s σ H Q I q => h pins s σ H Q I (w σ H Q q)
/-- an iterator has come, a token is out -/
def PIk (X : Cx) (tg iter : Expr) (wi : TI) : Prop := ∀ (pins : List (Addr × Obj)) (s : Shared) (σ : St) (H : Hp) (R : It → Hp → Prop), Inv X pins σ H s → wi σ H R →
    wpAny (model X.prog X.w) X.A (eval iter X.env) (fun v s1 => wpAny (model X.prog X.w) X.A (pyIter v) (fun u s2 => 1 ≤ s2.toks ∧ PIE X pins σ tg R u s2) X.xe s1) X.xe s
theorem PIk.sq {tg l : Expr} {tl : TE} {K : PySem.W.Frag} (hK : X.K = K) (hl : PEk X l tl) : PIk X tg l (Wp.iSq K tl) := fun pins s σ H R I h => by
  subst hK
  refine thn (hl pins s σ H _ I h) fun v s1 hv => ?_
  obtain ⟨k, x, H1, I1, r1, a, ex, q1⟩ := hv
  subst ex
  obtain rfl : v = Value.ref a := r1
  have fin : ∀ c ∈ [s1.heap.objs.size], FpOk X pins H1 c := fun c hc => by
    rw [List.mem_singleton.mp hc]
    exact I1.fpOk (Nat.le_refl _) (I1.hok.fresh (Nat.le_refl _))
  rcases q1 with ⟨xs, hq, q⟩ | ⟨xs, hq, q⟩
  · obtain ⟨its, _, pl, _⟩ := I1.list hq
    exact wpAny_pyIter_list pl.isList ⟨k, _, [s1.heap.objs.size], _, _, H1, rfl, I1.kept (t' := s1.toks) (fun _ _ z => Heap.get?_push_of_some _ z), turn_list a _, ⟨_, Heap.get?_push_size _ rfl, rfl, rfl⟩, fin, q⟩
  · obtain ⟨its, _, pl, _⟩ := I1.tuple hq
    exact wpAny_pyIter_tuple pl ⟨k, _, [s1.heap.objs.size], _, _, H1, rfl, I1.kept (t' := s1.toks) (fun _ _ z => Heap.get?_push_of_some _ z), turn_tuple a _, ⟨_, Heap.get?_push_size _ rfl, rfl, rfl⟩, fin, q⟩
end
end L2
namespace Wp
open PySem PySem.Spec PyProof.Rows L2 Evl
/-- o.replace(y, z), y and z written -/
def mRepl (y z : Str) (mo : WE) : WE := fun E b R => mo E b fun d b1 => match d with
  | .str x => x.length + (x.length + 1) * z.length ≤ 16777216 ∧ R (.str (Txt.replace x y z)) b1
  | _ => False
section
variable {X : Cx} {m mo : WE} {ms : WL} {pos apos : Pos} {e o : Expr}
theorem _root_.L2.PEk.lq (h : PEk X e (tL ms)) : PEk X e (tQ (mLk ms)) := h.weak fun σ H Q ⟨W, H0, E, b, R, S, hm, k⟩ =>
  ⟨W, H0, E, b, _, S, hm, fun ds b' a xs H' r kp dk h0 ha al => k _ b' _ H' r kp dk (.inr ⟨a, ds, rfl, rfl, W.free S.dk h0, xs, ha, al⟩)⟩
/-- the written form of a field -/
theorem pm_spec {c : Expr} {jpos : Pos} {z : Str} (h : PE X c (tE (mC (.str z)))) : PE X (.JoinedStr [c] jpos) (tE (mC (.str z))) := ⟨fun pins s σ H Q I q => wpAny_JoinedStr_one (h.run pins s σ H Q I q)⟩
end
end Wp

/-! an object compared with data -/
namespace Cn
open PySem PySem.Spec PyProof.Rows L2
def dTy : List String := ["NoneType", "bool", "int", "str", "tuple", "list", "dict"]
/-- data of a built-in type -/
inductive B7 (s : Shared) : Value → String → Prop
  | non : B7 s .none "NoneType"
  | bl (b : Bool) : B7 s (.bool b) "bool"
  | int (i : Int) (t : Tok) : B7 s (.int i t) "int"
  | str (y : Str) (t : Tok) : B7 s (.str y t) "str"
  | tup (a : Addr) : s.TypeIs (.ref a) "tuple" → B7 s (.ref a) "tuple"
  | lst (a : Addr) : s.TypeIs (.ref a) "list" → B7 s (.ref a) "list"
  | dic (a : Addr) : s.TypeIs (.ref a) "dict" → B7 s (.ref a) "dict"
theorem B7.ty {s : Shared} {v : Value} {T : String} (h : B7 s v T) : s.TypeIs v T := by
  cases h <;> first | assumption | rfl
theorem B7.mem {s : Shared} {v : Value} {T : String} (h : B7 s v T) : T ∈ dTy := by
  cases h <;> decide
end Cn
namespace Cn
open PySem PySem.Spec PyProof.Rows L2 PySem.W
section
variable {prog : Program} {w : World} {A : Around} {E : Value → Shared → Prop} {s : Shared} {K : PySem.W.Frag} {x C : Addr} {dx : Addr}
theorem m_int {a : Int} {t : Tok} : Meets (Builtin.«int.__eq__» ⟨[.int a t, .ref x], []⟩) (fun _ R s => s.heap.get? x = some (instObj C dx) ∧ R (.ok (.ret .notImplemented)) s) :=
  .of_wp fun prog w A R s h => by
    obtain ⟨hp, g, d, tk, os⟩ := s
    obtain ⟨hl, h⟩ := h
    wp_walk using wpAny_loadPart' hl, wpAny_load hl
    exact ⟨_, rfl, h⟩
theorem m_bool {a : Bool} : Meets (Builtin.«int.__eq__» ⟨[.bool a, .ref x], []⟩) (fun _ R s => s.heap.get? x = some (instObj C dx) ∧ R (.ok (.ret .notImplemented)) s) :=
  .of_wp fun prog w A R s h => by
    obtain ⟨hp, g, d, tk, os⟩ := s
    obtain ⟨hl, h⟩ := h
    wp_walk using wpAny_loadPart' hl, wpAny_load hl
    exact ⟨_, rfl, h⟩
theorem m_str {a : Str} {t : Tok} : Meets (Builtin.«str.__eq__» ⟨[.str a t, .ref x], []⟩) (fun _ R s => s.heap.get? x = some (instObj C dx) ∧ R (.ok (.ret .notImplemented)) s) :=
  .of_wp fun prog w A R s h => by
    obtain ⟨hp, g, d, tk, os⟩ := s
    obtain ⟨hl, h⟩ := h
    wp_walk using wpAny_loadPart' hl, wpAny_load hl
    exact ⟨_, rfl, h⟩
end
end Cn
namespace Cn
open PySem PySem.Spec PyProof.Rows L2
/-- what a class brings for == and != with data -/
structure EqDC (K : PySem.W.Frag) (C f : Addr) : Prop where
  fd : PySem.W.findIn K (.ref C) "__eq__" = some (some (.ref f))
  isf : PySem.W.isFn K (.ref f) = true
  nf : ∀ T ∈ dTy, PySem.W.notFirst K C (.type T) = true
  sb : ∀ T ∈ dTy, PySem.W.subIn K (.ref C) (.type T) = some false
structure NeDC (K : PySem.W.Frag) (C f : Addr) : Prop where
  eq : EqDC K C f
  ne : PySem.W.findIn K (.ref C) "__ne__" = some (some (.builtin "object.__ne__"))
  ob : PySem.W.mroIn K C (.type "object") = some true
section
variable {X : Cx} {k : Nat} {f : Addr} {fd : FuncData} {ps : List Str} {sp : Sp}
def rEqD (isC : Addr → Prop) (sp : Sp) : R2 := fun x y H Q => ∃ a C dx fs d, x = .ref a ∧ isC C ∧ H a = some (.ins C dx fs) ∧ Wp.Dt H y d ∧ Wp.isRf d = false ∧ sp [.ref a, y] H (fun r H3 => (∃ c, r = .bl c) ∧ Q r H3) E0
def rEqB (isC : Addr → Prop) (sp : Sp) : R2 := fun x y H Q => ∃ a C dx fs d, y = .ref a ∧ isC C ∧ H a = some (.ins C dx fs) ∧ Wp.Dt H x d ∧ Wp.isRf d = false ∧ sp [.ref a, x] H (fun r H3 => (∃ c, r = .bl c) ∧ Q r H3) E0
def rNeD (isC : Addr → Prop) (sp : Sp) : R2 := fun x y H Q => ∃ a C dx fs d, x = .ref a ∧ isC C ∧ H a = some (.ins C dx fs) ∧ Wp.Dt H y d ∧ Wp.isRf d = false ∧ sp [.ref a, y] H (fun r H3 => ∃ c, r = .bl c ∧ Q (.bl (!c)) H3) E0
end
end Cn
namespace Wp
open PySem PySem.Spec PyProof.Rows L2 Evl
/-- o == data, data == o, o != data, by o's own __eq__ -/
def mEqOD (isC : Addr → Prop) (mf : WF) (mo mi : WE) : WE := fun E b R => mo E b fun d b1 => mi E b1 fun e b2 => ∃ a C fs, d = refD a ∧ b2.os a = some (C, fs) ∧ isC C ∧ isRf e = false ∧ mf [.d d, .d e] b2 fun r b3 => ∃ c, r = .bool c ∧ R (.bool c) b3
def mEqDO (isC : Addr → Prop) (mf : WF) (mi mo : WE) : WE := fun E b R => mi E b fun e b1 => mo E b1 fun d b2 => ∃ a C fs, d = refD a ∧ b2.os a = some (C, fs) ∧ isC C ∧ isRf e = false ∧ mf [.d d, .d e] b2 fun r b3 => ∃ c, r = .bool c ∧ R (.bool c) b3
def mNeOD (isC : Addr → Prop) (mf : WF) (mo mi : WE) : WE := fun E b R => mo E b fun d b1 => mi E b1 fun e b2 => ∃ a C fs, d = refD a ∧ b2.os a = some (C, fs) ∧ isC C ∧ isRf e = false ∧ mf [.d d, .d e] b2 fun r b3 => ∃ c, r = .bool c ∧ R (.bool (!c)) b3
section
variable {X : Cx} {k : Nat} {f : Addr} {fd : FuncData} {ps : List Str} {mf : WF} {pos : Pos} {o i : Expr} {mo mi : WE} {isC : Addr → Prop}
section
variable (F : Cn.FnG X.prog X.w X.K X.mg X.base k f fd ps (spOf mf)) (gd : X.A.guards = some []) (bd : Binds X.K fd ps []) (ho : PE X o (tE mo)) (hi : PE X i (tE mi))
include F gd bd ho hi
end
end
end Wp

/-! for over enumerate(a text); t[::2] of a tuple -/
namespace Cn
open PySem PySem.Spec PyProof.Rows L2 Evl
def IteS (x : Str) : It :=
  ⟨fun i _ => i < x.cps.size, fun i H v H' => ∃ T c, v = .ref T ∧ H T = none ∧ H' = upd H T (.tup [.int (i : Nat), .str ⟨#[c]⟩]) ∧ x.cps[i]? = some c, fun i _ => x.cps.size ≤ i⟩
def iEnumS (ta : TA) : TI := fun σ H R => ta σ H fun vs H1 => ∃ x, vs = [.str x] ∧ R (IteS x) H1
end Cn
namespace Wp
open PySem PySem.Spec PyProof.Rows L2 Evl
/-- for i, c in enumerate(a text) -/
def mForES (t : WG1) (ms : WL) (m : WS) : WS := fun E b F => ms E b fun ds b1 => match ds with
  | [.str z] => mTurns t m (enD 0 (sgD z)) E b1 F
  | _ => False
end Wp
namespace HT
open PySem PySem.Spec PyProof.Rows L2
/-- every second -/
def evens {α : Type} : List α → List α
  | [] => []
  | [x] => [x]
  | x :: _ :: r => x :: evens r
section
variable {prog : Program} {w : World} {A : Around} {E : Value → Shared → Prop} {s : Shared}
end
end HT
namespace Cn
open PySem PySem.Spec PyProof.Rows L2 Evl
end Cn
namespace Wp
open PySem PySem.Spec PyProof.Rows L2 Evl
theorem DtAll.evens {H : Hp} : ∀ {xs : List V} {ds : List PyData}, DtAll H xs ds → DtAll H (HT.evens xs) (HT.evens ds)
  | _, _, .nil => by rw [HT.evens, HT.evens]; exact .nil
  | _, _, .cons a .nil => by rw [HT.evens, HT.evens]; exact .cons a .nil
  | _, _, .cons a (.cons _ t) => by rw [HT.evens, HT.evens]; exact .cons a (DtAll.evens t)
/-- t[::2], t a tuple -/
def twoW : W1 := fun d R => match d with
  | .tuple xs => R (.tuple (HT.evens xs))
  | _ => False
end Wp

/-! isinstance(x, D), D a class of one's own, x an object or data -/
namespace Cn
end Cn
namespace Wp
open PySem PySem.Spec PyProof.Rows L2 Evl
def mIsiOD (isC : Addr → Prop) (r : Bool) (m : WE) : WE := fun E b R => m E b fun d b1 => (isRf d = false ∧ R (.bool false) b1) ∨ ∃ a C fs, d = refD a ∧ b1.os a = some (C, fs) ∧ isC C ∧ R (.bool r) b1
end Wp

/-! iteration of a tuple while an exception is handled -/
namespace HotX
open PySem PySem.Spec PyProof.Rows
section
variable {prog : Program} {w : World} {A : Around} {E : Value → Shared → Prop} {s : Shared}
theorem HotAt.ne_iter {x1 it t : Addr} {i : Nat} {h : Heap} (hot : HotAt A x1 h) (hit : h.IsTupleIter it t i) : x1 ≠ it := by
  obtain ⟨hh, o1, vs1, h1, d1, c1⟩ := hot
  obtain ⟨o, ho, hc, hd⟩ := hit
  rintro rfl
  rw [h1] at ho
  cases ho
  rw [d1] at hd
  cases hd
  simp at c1
theorem pyNext_tuple_end_hot {it t x1 : Addr} {i : Nat} {items : Array Value} {Q : Option Value → Shared → Prop} (hot : HotAt A x1 s.heap)
    (hit : s.heap.IsTupleIter it t i) (ht : s.heap.IsTuple t items) (hx : items[i]? = none)
    (hQ : ∀ h', Heap.ExtBut it s.heap h' → Q none { s with heap := h' }) : wpAny (model prog w) A (pyNext (.ref it)) Q E s := by
  have hne := hot.ne_iter hit
  obtain ⟨hh, o1, vs1, h1, d1, c1⟩ := hot
  obtain ⟨o, ho, hc, hd⟩ := id hit
  obtain ⟨ol, hol, _, nl, hdl⟩ := ht
  unfold pyNext
  refine wpAny_bind (wpAny_attempt (wpAny_callSpecial?_slot (name := Str.ofString "__next__") hit.typeIs F.slot_tuple_iterator_next
    (wpAny_call_entry F.slot_tuple_iterator_next hit.typeIs F.entry_tuple_iterator_next ?_ (F.args_tuple_iterator_next_1 _))))
  show wpAny _ _ (field (.ref it) 0 >>= _) _ _ s
  refine wpAny_bind (wpAny_field ho hd (x := .ref t) rfl ?_)
  show wpAny _ _ (if (Value.ref t == Value.none) = true then _ else _) _ _ s
  rw [if_neg (show ¬ ((Value.ref t == Value.none) = true) from Bool.false_ne_true)]
  show wpAny _ _ (field (.ref it) 1 >>= _) _ _ s
  refine wpAny_bind (wpAny_field ho hd (x := .int i 0) rfl ?_)
  show wpAny _ _ (seqItems? (.ref t) >>= _) _ _ s
  refine wpAny_bind (wpAny_seqItems hol hdl ?_)
  simp only [Int.toNat_natCast, hx]
  refine wpAny_bind (wpAny_rule (wpAny_bind (wpAny_setField ho hd (by simp) ?_)))
  have h1' : (s.heap.update it (Obj.mapFields (·.setIfInBounds 0 Value.none))).get? x1 = some o1 := by
    rw [Heap.get?_update_other _ _ (Ne.symm hne)]
    exact h1
  show wpAny _ _ (newExc (.type "StopIteration") [] >>= _) _ _ _
  refine wpAny_bind ?_
  simp only [newExc, newTuple]
  refine wpAny_bind (wpAny_newObj_type ?_ (by size_fits))
  refine wpAny_bind (m := firstArgMember _ _) (wpAny_of_eq (a := Value.none) (by first | rfl | (simp only [firstArgMember]; rfl)) ?_)
  refine wpAny_newObj_type ?_ (by size_fits)
  refine raiseNew_hot ⟨hh, o1, vs1, Heap.get?_push_of_some _ (Heap.get?_push_of_some _ h1'), d1, c1⟩ (Nat.ne_of_lt (Heap.lt_size (Heap.get?_push_of_some _ h1'))) (Heap.get?_push_size _ rfl) rfl (by first | (simp; done) | (simp; omega) | (simp only [Array.size_append]; simp; omega)) ?_
  refine wpAny_bind (wpAny_isInstance (T := "StopIteration") (b := true) ⟨_, Heap.get?_update_self _ (Heap.get?_push_size _ rfl) rfl, rfl⟩ isSubtype_stop ?_)
  refine wpAny_pure (hQ _ fun b o hb e => ?_)
  have e1 : (s.heap.update it (Obj.mapFields (·.setIfInBounds 0 Value.none))).get? b = some o := by
    rw [Heap.get?_update_other _ _ (Ne.symm hb)]
    exact e
  rw [Heap.get?_update_other _ _ (Nat.ne_of_gt (Heap.lt_size (Heap.get?_push_of_some _ e1)))]
  exact Heap.get?_push_of_some _ (Heap.get?_push_of_some _ e1)
theorem HotAt.ne_list {x1 it t : Addr} {i : Nat} {h : Heap} (hot : HotAt A x1 h) (hit : h.IsListIter it t i) : x1 ≠ it := by
  obtain ⟨hh, o1, vs1, h1, d1, c1⟩ := hot
  obtain ⟨o, ho, hc, hd⟩ := hit
  rintro rfl
  rw [h1] at ho
  cases ho
  rw [d1] at hd
  cases hd
  simp at c1
theorem pyNext_list_end_hot {it t x1 : Addr} {i : Nat} {items : Array Value} {Q : Option Value → Shared → Prop} (hot : HotAt A x1 s.heap)
    (hit : s.heap.IsListIter it t i) (ht : s.heap.IsList t items) (hx : items[i]? = none)
    (hQ : ∀ h', Heap.ExtBut it s.heap h' → Q none { s with heap := h' }) : wpAny (model prog w) A (pyNext (.ref it)) Q E s := by
  have hne := hot.ne_list hit
  obtain ⟨hh, o1, vs1, h1, d1, c1⟩ := hot
  obtain ⟨o, ho, hc, hd⟩ := id hit
  obtain ⟨ol, hol, _, nl, hdl⟩ := ht
  unfold pyNext
  refine wpAny_bind (wpAny_attempt (wpAny_callSpecial?_slot (name := Str.ofString "__next__") hit.typeIs slot_listiter_next
    (wpAny_call_entry slot_listiter_next hit.typeIs entry_listiter_next ?_ (args_listiter_next _))))
  show wpAny _ _ (field (.ref it) 0 >>= _) _ _ s
  refine wpAny_bind (wpAny_field ho hd (x := .ref t) rfl ?_)
  show wpAny _ _ (if (Value.ref t == Value.none) = true then _ else _) _ _ s
  rw [if_neg (show ¬ ((Value.ref t == Value.none) = true) from Bool.false_ne_true)]
  show wpAny _ _ (field (.ref it) 1 >>= _) _ _ s
  refine wpAny_bind (wpAny_field ho hd (x := .int i 0) rfl ?_)
  show wpAny _ _ (seqItems? (.ref t) >>= _) _ _ s
  refine wpAny_bind (wpAny_seqItems hol hdl ?_)
  simp only [Int.toNat_natCast, hx]
  refine wpAny_bind (wpAny_rule (wpAny_bind (wpAny_setField ho hd (by simp) ?_)))
  have h1' : (s.heap.update it (Obj.mapFields (·.setIfInBounds 0 Value.none))).get? x1 = some o1 := by
    rw [Heap.get?_update_other _ _ (Ne.symm hne)]
    exact h1
  show wpAny _ _ (newExc (.type "StopIteration") [] >>= _) _ _ _
  refine wpAny_bind ?_
  simp only [newExc, newTuple]
  refine wpAny_bind (wpAny_newObj_type ?_ (by size_fits))
  refine wpAny_bind (m := firstArgMember _ _) (wpAny_of_eq (a := Value.none) (by first | rfl | (simp only [firstArgMember]; rfl)) ?_)
  refine wpAny_newObj_type ?_ (by size_fits)
  refine raiseNew_hot ⟨hh, o1, vs1, Heap.get?_push_of_some _ (Heap.get?_push_of_some _ h1'), d1, c1⟩ (Nat.ne_of_lt (Heap.lt_size (Heap.get?_push_of_some _ h1'))) (Heap.get?_push_size _ rfl) rfl (by first | (simp; done) | (simp; omega) | (simp only [Array.size_append]; simp; omega)) ?_
  refine wpAny_bind (wpAny_isInstance (T := "StopIteration") (b := true) ⟨_, Heap.get?_update_self _ (Heap.get?_push_size _ rfl) rfl, rfl⟩ isSubtype_stop ?_)
  refine wpAny_pure (hQ _ fun b o hb e => ?_)
  have e1 : (s.heap.update it (Obj.mapFields (·.setIfInBounds 0 Value.none))).get? b = some o := by
    rw [Heap.get?_update_other _ _ (Ne.symm hb)]
    exact e
  rw [Heap.get?_update_other _ _ (Nat.ne_of_gt (Heap.lt_size (Heap.get?_push_of_some _ e1)))]
  exact Heap.get?_push_of_some _ (Heap.get?_push_of_some _ e1)
end
end HotX
namespace L2H
open PySem PySem.Spec PyProof.Rows L2 HotX
theorem turn_tupleH {P : Program} {w : World} {K : PySem.W.Frag} {tg : Expr} (a it : Addr) : TurnH P w K tg (Itt K a) [it] it (fun i h => h.IsTupleIter it a i) where
  mem := by simp
  obj := fun i h st b hb => by
    have e : b = it := by simpa using hb
    subst e
    obtain ⟨o, e, c, d⟩ := st
    exact ⟨o, e, fun v z => by rw [d] at z; cases z⟩
  keep := fun i h h' st k => st.at fun o e => k it (by simp) o e
  item := by
    intro X hP hw hK hc i pins s σ H E I hf st hg
    subst hP hw hK
    obtain ⟨xs, x, hq, hx⟩ := hg
    obtain ⟨its, rv, p, hz⟩ := I.tuple hq
    obtain ⟨u, hu, ru⟩ := rv.get hx
    obtain ⟨f0, f1, f2, f3, f4, f5⟩ := hf it (by simp)
    refine wpAny_pyNext_tuple_item st (show s.heap.IsTuple a its.toArray from p) (x := u) (by simpa using hu) fun h' st' sb => ?_
    have I1 : Inv X pins σ H { s with heap := h' } := I.turned (t' := s.toks) (fun b o hb e => (sb.2 b hb).trans e) f0 f1 f3 f4 f5
    obtain ⟨o, e, c, d⟩ := id st'
    exact ⟨u, rfl, go_of (s := { s with heap := h' }) e c d (by decide) ⟨x, H, I1, ru, ⟨rfl, fun ys hy => by rw [I.tuple_inj hy hq]; exact hx⟩, st', fun b hb => (hf b hb).1⟩⟩
  done := by
    intro X hP hw hK hc i pins s σ H E I hf st hg
    subst hP hw hK
    obtain ⟨xs, hq, hx⟩ := hg
    obtain ⟨its, rv, p, hz⟩ := I.tuple hq
    obtain ⟨f0, f1, f2, f3, f4, f5⟩ := hf it (by simp)
    have hl := rv.length
    obtain ⟨x1, hot⟩ := hc.at I
    exact pyNext_tuple_end_hot hot st (show s.heap.IsTuple a its.toArray from p) (by simp; omega) fun h' eb => ⟨rfl, I.turned (t' := s.toks) (fun b o hb e => eb b o hb e) f0 f1 f3 f4 f5⟩
  self := fun _ _ _ _ _ st h => wpAny_pyIter_tupleiter st h

theorem turn_listH {P : Program} {w : World} {K : PySem.W.Frag} {tg : Expr} (a it : Addr) : TurnH P w K tg (Itl K a) [it] it (fun i h => h.IsListIter it a i) where
  mem := by simp
  obj := fun i h st b hb => by
    have e : b = it := by simpa using hb
    subst e
    obtain ⟨o, e, c, d⟩ := st
    exact ⟨o, e, fun v z => by rw [d] at z; cases z⟩
  keep := fun i h h' st k => st.at fun o e => k it (by simp) o e
  item := by
    intro X hP hw hK hc i pins s σ H E I hf st hg
    subst hP hw hK
    obtain ⟨xs, x, hq, hx⟩ := hg
    obtain ⟨its, rv, p, hz⟩ := I.list hq
    obtain ⟨u, hu, ru⟩ := rv.get hx
    obtain ⟨f0, f1, f2, f3, f4, f5⟩ := hf it (by simp)
    refine wpAny_pyNext_list_item st p.isList (x := u) (by simpa using hu) fun h' st' sb => ?_
    have I1 : Inv X pins σ H { s with heap := h' } := I.turned (t' := s.toks) (fun b o hb e => (sb.2 b hb).trans e) f0 f1 f3 f4 f5
    obtain ⟨o, e, c, d⟩ := id st'
    exact ⟨u, rfl, go_of (s := { s with heap := h' }) e c d (by decide) ⟨x, H, I1, ru, ⟨rfl, fun ys hy => by rw [I.list_inj hy hq]; exact hx⟩, st', fun b hb => (hf b hb).1⟩⟩
  done := by
    intro X hP hw hK hc i pins s σ H E I hf st hg
    subst hP hw hK
    obtain ⟨xs, hq, hx⟩ := hg
    obtain ⟨its, rv, p, hz⟩ := I.list hq
    obtain ⟨f0, f1, f2, f3, f4, f5⟩ := hf it (by simp)
    have hl := rv.length
    obtain ⟨x1, hot⟩ := hc.at I
    exact pyNext_list_end_hot hot st p.isList (by simp; omega) fun h' eb => ⟨rfl, I.turned (t' := s.toks) (fun b o hb e => eb b o hb e) f0 f1 f3 f4 f5⟩
  self := fun _ _ _ _ _ st h => wpAny_pyIter_listiter st h

/-! blocks -/
/-- the block of a comprehension: it bears the handled exception too -/
abbrev blkH (X : Cx) (p : Addr × Obj) (s : Shared) (H : Hp) (scope : Scope) (cenv : Env) (fp : List Addr) : Cx := { X.blk s H scope cenv fp with pn := [p] }
theorem blockH {X : Cx} {p : Addr × Obj} {s s' : Shared} {H : Hp} {scope : Scope} {cenv : Env} {fp : List Addr} {σ : St} (P : s.heap.get? p.1 = some p.2 ∧ H p.1 = none ∧ p.1 ≠ X.env.locals ∧ p.1 ∉ X.fs ∧ ∀ v, p.2.data ≠ .cell v) (sk : p.1 ∈ frs X.stack → p.1 ∈ X.env.locals :: X.fs)
    (I : Inv (X.blk s H scope cenv fp) [] σ H s') (eL : cenv.locals = s.heap.objs.size) (kp : ∀ o, s.heap.get? p.1 = some o → s'.heap.get? p.1 = some o) : Inv (blkH X p s H scope cenv fp) [] σ H s' :=
  ⟨⟨I.ok.mod, I.ok.kind, I.ok.glob, I.ok.blt, I.ok.above, I.ok.inj, I.ok.has, I.ok.cab, I.ok.hd, I.ok.frames, I.ok.stk, I.ok.exf, I.ok.bs, I.ok.bsz, I.ok.noex, I.ok.exfs, I.ok.funs, I.ok.frf⟩, I.os, I.bare, I.base, I.loc, I.cell, I.free, I.freeC, fun q hq => by
    rw [List.mem_singleton.mp (show q ∈ [p] from hq)]
    refine ⟨kp _ P.1, P.2.1, ?_, fun z => ?_, P.2.2.2.2⟩
    · show p.1 ≠ cenv.locals
      rw [eL]
      exact Nat.ne_of_lt (Heap.lt_size P.1)
    · exact (List.mem_cons.mp (sk z)).elim P.2.2.1 P.2.2.2.1, I.hok, I.len⟩
section
variable {X : Cx}
/-- [elt for tg in iter if ..] while an exception is handled: the block bears it too -/
theorem pe_lcH {p : Addr × Obj} {elt tg iter : Expr} {ifs : List Expr} {scope : Scope} {own : List (Str × Nat)} {pos : Pos} {wi : TI} {g : TG} {tt : TT} {te : TE} (hc : Hot1 X.A p) (hp : p ∈ X.pn) (hN : X.N.Nodup) (hi : PIH X tg iter wi) (ok : BlkOk X.N X.env.scope scope own)
    (hg : ∀ (s : Shared) (H : Hp) (C : Addr) (cl : List (Str × Addr)) (fp : List Addr), PG (blkH X p s H scope (compEnvC scope cl C X.env) fp) tg g)
    (ht : ∀ (s : Shared) (H : Hp) (C : Addr) (cl : List (Str × Addr)) (fp : List Addr), PTs (blkH X p s H scope (compEnvC scope cl C X.env) fp) ifs tt)
    (he : ∀ (s : Shared) (H : Hp) (C : Addr) (cl : List (Str × Addr)) (fp : List Addr), PE (blkH X p s H scope (compEnvC scope cl C X.env) fp) elt te) (hs : ∀ x, foldedSetIterable iter X.env x = pure x := by intro _; rfl) :
    PE X (.ListComp elt [⟨tg, iter, ifs, 0⟩] scope pos) (tLc wi g tt te (own.map (·.2))) := by
  refine ⟨fun pins s σ H Q I h => ?_⟩
  rw [eval_ListComp]
  have cls : closureFor scope X.env = pure (cloFrom X.env.cells scope.names []) := closure_ok fun y hy e => (ok.free y hy e).elim (fun k => I.ok.has _ (.inl k)) fun k => I.ok.has _ (.inr k)
  refine wpAny_comprehension_free (use := none) rfl hs cls ok.kind (fun y hy e => by rw [ok.uniq y hy, e]) (thn (hi.run pins s σ H _ I h) fun xv s1 hx => thn hx fun itv s2 h2 => ?_)
  obtain ⟨it, fp, tn, J, H2, e, I2, T, st2, f2, q⟩ := h2
  subst e
  -- the list that is filled, at D
  have hDn : H2 s2.heap.objs.size = none := I2.hok.fresh (Nat.le_refl _)
  obtain ⟨W, ⟨m0, w0⟩, turn⟩ := q s2.heap.objs.size hDn
  refine wpAny_newObj_type (newEnv_comp ?_) (Nat.zero_le _)
  have I3 : Inv X pins σ (upd H2 s2.heap.objs.size (.lst [])) { s2 with heap := s2.heap.push { cls := .type "list", data := .seq ([] : List Value).toArray } } :=
    I2.laid (t' := s2.toks) (fun b o e => Heap.get?_push_of_some _ e) (Nat.le_refl _) ⟨Nat.zero_le _, [], 0, .nil, Heap.get?_push_size _ rfl⟩
  have lt2 : ∀ b ∈ fp, b < s2.heap.objs.size := fun b hb => Heap.lt_size (T.obj _ _ st2 b hb).choose_spec.1
  generalize hs3 : ({ s2 with heap := s2.heap.push { cls := .type "list", data := .seq ([] : List Value).toArray } } : Shared) = s3 at I3 ⊢
  have o3 : ∀ b o, s2.heap.get? b = some o → s3.heap.get? b = some o := fun b o e => by rw [← hs3]; exact Heap.get?_push_of_some _ e
  have z3 : s2.heap.objs.size < s3.heap.objs.size := by rw [← hs3]; show _ < (s2.heap.push _).objs.size; rw [Heap.size_push]; exact Nat.lt_succ_self _
  generalize hD : s2.heap.objs.size = D at *
  generalize hH3 : upd H2 D (.lst []) = H3 at *
  have n3 : ∀ b ∈ fp, H3 b = none := fun b hb => by
    rw [← hH3, upd_ne (Nat.ne_of_lt (lt2 b hb))]
    exact (f2 b hb).1
  have f3 : ∀ b ∈ fp, FpOk X pins H3 b ∧ b < s3.heap.objs.size := fun b hb => ⟨⟨n3 b hb, (f2 b hb).2⟩, Nat.lt_trans (lt2 b hb) z3⟩
  have P3 := I3.pin p (List.mem_append_left _ hp)
  have I4 := blockH P3 (I3.stkSub p.1) (block_start I3 ok hN f3) rfl (fun o e => pushCells_keeps _ _ _ _ (Heap.get?_push_of_some _ e))
  have st4 : tn 0 (pushCells (s3.heap.push { cls := .type "dict", data := .dict #[] }) scope.names) := T.keep _ _ _ st2 fun b _ o e => pushCells_keeps _ _ _ _ (Heap.get?_push_of_some _ (o3 b o e))
  have pg := hg s3 H3 s3.heap.objs.size (cellsFrom (s3.heap.objs.size + 1) scope.names (cloFrom X.env.cells scope.names [])) fp
  have pt := ht s3 H3 s3.heap.objs.size (cellsFrom (s3.heap.objs.size + 1) scope.names (cloFrom X.env.cells scope.names [])) fp
  have pe := he s3 H3 s3.heap.objs.size (cellsFrom (s3.heap.objs.size + 1) scope.names (cloFrom X.env.cells scope.names [])) fp
  show codeAny _ _ (.compStart (.ListComp elt [⟨tg, iter, ifs, 0⟩] scope pos) 0 (.ref it) (.ref D) (compEnvC scope (cellsFrom (s3.heap.objs.size + 1) scope.names (cloFrom X.env.cells scope.names [])) s3.heap.objs.size X.env)) (compPost (model X.prog X.w) X.A X.xe none (EP X pins σ Q) (.ref D) s3.heap.objs.size) _
  have cL : (compEnvC scope (cellsFrom (s3.heap.objs.size + 1) scope.names (cloFrom X.env.cells scope.names [])) s3.heap.objs.size X.env).locals = s3.heap.objs.size := rfl
  generalize compEnvC scope (cellsFrom (s3.heap.objs.size + 1) scope.names (cloFrom X.env.cells scope.names [])) s3.heap.objs.size X.env = ce at I4 pg pt pe cL ⊢
  have st4 : tn 0 ({ s3 with heap := pushCells (s3.heap.push { cls := .type "dict", data := .dict #[] }) scope.names } : Shared).heap := st4
  generalize ({ s3 with heap := pushCells (s3.heap.push { cls := .type "dict", data := .dict #[] }) scope.names } : Shared) = s4 at I4 st4 ⊢
  have loop : codeAny (model X.prog X.w) X.A (.compLoop (.ListComp elt [⟨tg, iter, ifs, 0⟩] scope pos) 0 (.ref it) (.ref D) ce) (compPost (model X.prog X.w) X.A X.xe none (EP X pins σ Q) (.ref D) s3.heap.objs.size) s4 := by
    refine compLoop_any (fun n s' => ∃ i H', Inv (blkH X p s3 H3 scope ce fp) [] (wipe σ (own.map (·.2))) H' s' ∧ tn i s'.heap ∧ (∀ b ∈ fp, H' b = none) ∧ W i n H') ?_ m0 ⟨0, H3, I4, st4, n3, w0⟩
    intro n s5 h5
    obtain ⟨i, H5, I5, st5, n5, w5⟩ := h5
    have pin : ∀ {σ' : St} {H' : Hp} {s' : Shared}, Inv (blkH X p s3 H3 scope ce fp) [] σ' H' s' → (∀ b ∈ fp, H' b = none) → ∀ b ∈ fp, FpOk (blkH X p s3 H3 scope ce fp) [] H' b := fun I' hn b hb =>
      ⟨hn b hb, (I'.ok.exf b hb).1, I'.ok.exfs b hb, .inl hb, fun x c e => (I'.ok.exf b hb).2 x c e, fun q hq => by
        rw [List.mem_singleton.mp (show q ∈ [p] from hq)]
        exact (f3 b hb).1.2.2.2.2.2 p (List.mem_append_left _ hp)⟩
    rcases turn i n H5 w5 with ⟨stop, qq⟩ | ⟨go, Nx, hNx, step⟩
    · -- the end: the block's names are left
      refine thnF (T.done (blkH X p s3 H3 scope ce fp) rfl rfl rfl ⟨p, hc, List.mem_singleton.mpr rfl⟩ i [] s5 _ H5 (fun _ _ => False) I5 (pin I5 n5) st5 stop) fun r s6 hr => ?_
      obtain ⟨rfl, I6⟩ := hr
      have I7 : Inv X pins σ H5 s6 := I3.call' (ch := fp) I6.os I6.base I6.hok I6.bare fun b hb => ⟨(f3 b hb).1.2.2.2.1, (f3 b hb).1.2.1, (f3 b hb).1.2.2.2.2.1, (f3 b hb).1.2.2.2.2.2⟩
      have nC : H5 s3.heap.objs.size = none := by
        have z : H5 ce.locals = none := I6.free
        rwa [cL] at z
      obtain ⟨m, hn, _⟩ := I6.loc
      have hn : s6.heap.Ns ce.locals m := hn
      rw [cL] at hn
      refine ⟨m, hn, fun h'' sb => ?_⟩
      obtain ⟨g0, g1, _, g3, g4, _⟩ := I3.fpOk (Nat.le_refl _) nC
      exact ⟨.ref D, H5, I7.turned (t' := s6.toks) (fun b o hb e => (sb.2 b hb).trans e) g0 g1 g3 g4 (I3.fpOk (Nat.le_refl _) nC).2.2.2.2.2, rfl, qq⟩
    · refine thnF (T.item (blkH X p s3 H3 scope ce fp) rfl rfl rfl ⟨p, hc, List.mem_singleton.mpr rfl⟩ i [] s5 _ H5 (fun _ _ => False) I5 (pin I5 n5) st5 go) fun r s6 hr => ?_
      obtain ⟨u, rfl, h6⟩ := hr
      refine thnF h6 fun _ s7 h7 => ?_
      obtain ⟨x, H7, I7, r7, y7, st7, n7⟩ := h7
      refine thnF (pg.run _ s7 _ H7 x u _ (I7.pinned (pin I7 n7) (T.obj _ _ st7)) r7 (step x H7 y7)) fun _ s8 h8 => ?_
      obtain ⟨σ8, H8, I8, hw8, q8⟩ := h8
      -- what a turn that ends so leaves behind
      have fin : ∀ {s' : Shared} {H' : Hp}, Inv (blkH X p s3 H3 scope ce fp) ([] ++ pinsAt fp s7.heap) σ8 H' s' → Nx H' → ∃ m, m < n ∧ ∃ i H', Inv (blkH X p s3 H3 scope ce fp) [] (wipe σ (own.map (·.2))) H' s' ∧ tn i s'.heap ∧ (∀ b ∈ fp, H' b = none) ∧ W i m H' := fun {s' H'} I' nx => by
        obtain ⟨m', hm, w'⟩ := hNx H' nx
        have keep : ∀ b ∈ fp, ∀ o, s7.heap.get? b = some o → s'.heap.get? b = some o ∧ H' b = none := fun b hb o e =>
          have z := I'.pin (b, o) (List.mem_append_right _ (List.mem_append_right _ (mem_pinsAt hb e)))
          ⟨z.1, z.2.1⟩
        refine ⟨m', hm, i + 1, H', (I'.unpinned (pins := [])).weak (by rw [← hw8, wipe_length]) (fun j v e => ?_), T.keep _ _ _ st7 fun b hb o e => (keep b hb o e).1, fun b hb => ?_, w'⟩
        · rw [← hw8] at e
          exact (wipe_some e).1
        · obtain ⟨o, e, _⟩ := T.obj _ _ st7 b hb
          exact (keep b hb o e).2
      refine thnF (pt.run _ s8 σ8 H8 _ I8 q8) fun c s9 h9 => ?_
      obtain ⟨H9, I9, q9⟩ := h9
      cases c with
      | false => exact fin I9 q9
      | true =>
        refine thnF (pe.run _ s9 σ8 H9 _ I9 q9) fun z s10 h10 => ?_
        obtain ⟨yv, H10, I10, r10, acc, hD10, hz10, nx⟩ := h10
        refine thnF (app_ok (X := blkH X p s3 H3 scope ce fp) (Q := fun _ s' => ∃ H', Inv (blkH X p s3 H3 scope ce fp) ([] ++ pinsAt fp s7.heap) σ8 H' s' ∧ Nx H') I10 hD10 hz10 r10 fun s11 I11 => ⟨_, I11, nx⟩) fun _ s11 h11 => ?_
        obtain ⟨H11, I11, nx⟩ := h11
        exact fin I11 nx
  exact codeAny_compStart_list loop (T.self X.A 0 _ _ _ st4 loop)
theorem pi_sqH {K : PySem.W.Frag} {tg l : Expr} {tl : TE} (hK : X.K = K) (hl : PE X l tl) : PIH X tg l (Wp.iSq K tl) := ⟨fun pins s σ H R I h => by
  subst hK
  refine thn (hl.run pins s σ H _ I h) fun v s1 hv => ?_
  obtain ⟨x, H1, I1, r1, a, ex, q1⟩ := hv
  subst ex
  obtain rfl : v = Value.ref a := r1
  have fin : ∀ c ∈ [s1.heap.objs.size], FpOk X pins H1 c := fun c hc => by
    rw [List.mem_singleton.mp hc]
    exact I1.fpOk (Nat.le_refl _) (I1.hok.fresh (Nat.le_refl _))
  rcases q1 with ⟨xs, hq, q⟩ | ⟨xs, hq, q⟩
  · obtain ⟨its, _, pl, _⟩ := I1.list hq
    exact wpAny_pyIter_list pl.isList ⟨_, [s1.heap.objs.size], _, _, H1, rfl, I1.kept (t' := s1.toks) (fun _ _ z => Heap.get?_push_of_some _ z), turn_listH a _, ⟨_, Heap.get?_push_size _ rfl, rfl, rfl⟩, fin, q⟩
  · obtain ⟨its, _, pl, _⟩ := I1.tuple hq
    exact wpAny_pyIter_tuple pl ⟨_, [s1.heap.objs.size], _, _, H1, rfl, I1.kept (t' := s1.toks) (fun _ _ z => Heap.get?_push_of_some _ z), turn_tupleH a _, ⟨_, Heap.get?_push_size _ rfl, rfl, rfl⟩, fin, q⟩⟩
end
end L2H

/-! sum and order of ints while an exception is handled -/
namespace HotX
open PySem PySem.Spec PyProof.Rows
section
variable {prog : Program} {w : World} {A : Around} {E : Value → Shared → Prop} {s : Shared}
theorem walks_hot {x1 I ax : Addr} {o1 : Obj} {vs1 : Array Value} (hh : A.handled = some (.ref x1)) (d1 : o1.data = .fields vs1) (c1 : vs1[2]? = some .none) (hne : ax ≠ I) (nx : x1 ≠ I) (items : Array Value) :
    Walks prog w A I [I, ax, x1] [I] items.size (fun i v => items[i]? = some v) (fun i h => h.IsListIter I ax i ∧ h.IsList ax items ∧ h.get? x1 = some o1) where
  sub := fun b hb => by simp at hb; simp [hb]
  frame := fun _ _ _ st hk => ⟨st.1.at fun o e => hk I (by simp) o e, st.2.1.at fun o e => hk ax (by simp) o e, hk x1 (by simp) _ st.2.2⟩
  item := fun i s Q E hi st hQ => by
    refine wpAny_pyNext_list_item st.1 st.2.1 (x := items[i]) (by simp [hi]) fun h' hit' hs' => ?_
    exact hQ _ h' s.toks (by simp [hi]) ⟨hit', st.2.1.extBut hs'.extBut hne, hs'.extBut x1 o1 nx st.2.2⟩ fun b o hb e => hs'.extBut b o (fun h => hb (by simp [h])) e
  done := fun s Q E st hQ => pyNext_list_end_hot ⟨hh, o1, vs1, st.2.2, d1, c1⟩ st.1 st.2.1 (by simp) fun h' he' => hQ h' s.toks fun b o hb e => he' b o (fun h => hb (by simp [h])) e
  self := fun _ _ _ _ st hQ => wpAny_pyIter_listiter st.1 hQ
theorem sum_hot {x1 l : Addr} {its : List Value} {ns : List Int} {Q : Value → Shared → Prop} (hot : HotAt A x1 s.heap) (hl : s.heap.IsList l its.toArray) (hi : IntsAre its ns)
    (h : ∀ h' tk t', (∀ b o, s.heap.get? b = some o → h'.get? b = some o) → Q (.int ns.sum t') { s with heap := h', toks := tk }) : wpAny (model prog w) A (call (.builtin "sum") [.ref l]) Q E s := by
  obtain ⟨hh, o1, vs1, h1, d1, c1⟩ := hot
  obtain ⟨xs, e⟩ := hi.allInts.items
  have hn : numsOf (intItems xs).toList = ns := by rw [← e]; exact hi.numsOf
  rw [nums_intItems] at hn
  rw [e] at hl
  refine call_sum_walkG (iter_intList hl fun s₂ e st hfp hlI => ?_)
  subst e
  have hx : x1 < s.heap.objs.size := Heap.lt_size h1
  refine ⟨_, _, _, _, _, _, numAt xs, rfl, walks_hot (A := A.in1) hh d1 c1 hlI (Nat.ne_of_lt hx) (intItems xs), ⟨st.1, st.2, Heap.get?_push_of_some _ h1⟩, fun b hb => ?_, (fun _ _ => intItems_at), fun h' tk t' hk => ?_⟩
  · rcases List.mem_cons.mp hb with rfl | hb
    · exact hfp _ (by simp)
    · rcases List.mem_cons.mp hb with rfl | hb
      · exact hfp _ (by simp)
      · rw [List.mem_singleton.mp hb]
        exact Heap.lt_size (Heap.get?_push_of_some _ h1)
  · have sz : (intItems xs).size = xs.size := by simp [intItems]
    rw [sz, preSum_eq, List.take_of_length_le (by simp), hn]
    exact h h' tk t' (old_kept hk)
end
end HotX
namespace Wp
open PySem PySem.Spec PyProof.Rows L2 Evl
section
variable {X : Cx}
theorem cr_sumH (hc : L2H.HotC X) : CallR X (.builtin "sum") (rC sumW) := by
  intro pins s σ H vs us Q I r h
  obtain ⟨W, ds, R, h1, hw, k⟩ := h
  unfold sumW at hw
  split at hw
  · obtain ⟨ns, rfl, hr⟩ := hw
    obtain ⟨v, rfl, t⟩ := dq1 h1
    obtain ⟨a, rfl, sq⟩ := t.ints (K := X.K)
    obtain ⟨its, rv, hl, _⟩ := I.list sq
    rw [Vals.ref1 r]
    obtain ⟨x1, hot⟩ := hc.at I
    exact HotX.sum_hot hot hl.isList rv.ints fun h' tk t' hk => ⟨.int _, H, I.kept hk, ⟨_, rfl⟩, k _ _ H hr (Ex.refl H) (.int _)⟩
  · exact hw.elim
/-- ints alone: in any context -/
def leI (d e : PyData) (R : PyData → Prop) : Prop := ∃ i j, d = .int i ∧ e = .int j ∧ R (.bool (decide (i ≤ j)))
def geI (d e : PyData) (R : PyData → Prop) : Prop := ∃ i j, d = .int i ∧ e = .int j ∧ R (.bool (decide (j ≤ i)))
theorem op_leI : OpR X (compareOp .LtE) (rD leI) := by
  intro pins s σ H x y v u Q I rx ry h
  obtain ⟨W, d, e, R, h1, h2, ⟨i, j, rfl, rfl, hw⟩, k⟩ := h
  obtain rfl := h1.int
  obtain rfl := h2.int
  exact op_le pins s σ H _ _ v u Q I rx ry ⟨_, _, rfl, rfl, k _ _ H hw (Ex.refl H) (.bl _)⟩
theorem op_geI : OpR X (compareOp .GtE) (rD geI) := by
  intro pins s σ H x y v u Q I rx ry h
  obtain ⟨W, d, e, R, h1, h2, ⟨i, j, rfl, rfl, hw⟩, k⟩ := h
  obtain rfl := h1.int
  obtain rfl := h2.int
  exact op_ge pins s σ H _ _ v u Q I rx ry ⟨_, _, rfl, rfl, k _ _ H hw (Ex.refl H) (.bl _)⟩
end
end Wp

/-! a def, or o[i], called while an exception is handled (it raises nothing) -/
namespace Cn
open PySem PySem.Spec PyProof.Rows L2
structure FnW (P : Program) (w : World) (K : PySem.W.Frag) (mg : Str → Option Value) (base : Heap) (k : Nat) (f : Addr) (fd : FuncData) (ps : List Str) (sp : Sp) : Prop where
  len : ∀ vs H Q E, sp vs H Q E → vs.length = ps.length
  run : ∀ (A : Around) (out : List Env) (s : Shared) (H : Hp) (args : Args) (us : List Value) (vs : List V) (Q : VK) (E : XK) (p : Addr × Obj), A.guards = some [] → L2H.RoomH k A → L2H.Hot1 A p → L2H.PinOk out H s p → Env0 P w K mg base A out s H →
    BindsTo s fd args (ps.zip us) → Vals vs us → sp vs H Q E → codeAny (model P w) A (.call (.ref f) args) (CR L2.CX0 out P w H s Q E) s
section
variable {P : Program} {w : World} {K : PySem.W.Frag} {mg : Str → Option Value} {base : Heap}
theorem okW {x qual : Str} {st : Stmt} {f : Addr} {fd : FuncData} {N ps : List Str} {k : Nat} {sp : Sp} (F : Fun K x qual st f fd) (S : FnScope N ps (defScope st)) (len : ∀ vs H Q E, sp vs H Q E → vs.length = ps.length)
    (body : ∀ (cdv : Value) (A : Around) (out : List Env) (s : Shared) (H : Hp) (vs : List V) (Q : VK) (E : XK) (p : Addr × Obj), A.guards = some [] → L2H.RoomH k (A.deeper (envOfC qual (defScope st) s.heap.objs.size f cdv)) → L2H.Hot1 (A.deeper (envOfC qual (defScope st) s.heap.objs.size f cdv)) p → sp vs H Q E →
      ∃ t, PSs (L2H.cxH L2.CX0 P w K mg base N qual (defScope st) f cdv A out s H E p).nox (defBody st) t ∧ t { nx := fun _ H' => Q .non H', rt := Q } (start N vs) H) : FnW P w K mg base (k + 1) f fd ps sp := by
  obtain ⟨oc, od, kV, doc, pm, an, cdv, ct, osl, rfl, lk, code⟩ := F.ex
  refine ⟨len, fun A out s H args us vs Q E p gd room hot pin e0 bd rel pr => ?_⟩
  have inK : K.In s.heap := e0.mod.kin.keeps fun b o e => (e0.bs b o e).1
  have par : ∀ y ∈ ps.zip us, (defScope st).names.lookup y.1 = some .local ∨ ((defScope st).names.lookup y.1 = some .cell ∧ ((cellsFrom (s.heap.objs.size + 1) (defScope st).names []).lookup y.1).isSome = true) := by
    intro y hy
    refine (S.par y.1 (List.of_mem_zip (show (y.1, y.2) ∈ ps.zip us from hy)).1).imp id fun c => ⟨c, PySem.W.cellsFrom_some _ _ _ (.inl c)⟩
  refine codeAny_call_function room.depth (inK _ _ lk) rfl S.co S.gen rfl (PySem.W.codeRec_of inK code) (bd _ _ _ _ (wpAny_newFunctionEnv_cells S.kind par ?_))
  rintro _ rfl s1 new
  refine ⟨(e0.mod.nolimit.keeps fun b o e => (e0.bs b o e).1).keeps new.toInCall.keep, codeAny_func ?_⟩
  obtain ⟨t, ht, q⟩ := body cdv A out s H vs Q E p gd (room.deeper _) ⟨hot.1, hot.2⟩ pr
  refine wpAny_mono (ht.nox.run [] s1 (start N vs) H _ (L2H.inv_startH S pin e0 (len _ _ _ _ pr) rel new) q) ?_ fun _ _ z => z
  rintro (_ | _ | _ | u) s' z
  case next =>
    obtain ⟨_, H', J, z⟩ := z
    exact ⟨V.non, H', J.os, J.bare, J.base, J.hok, rfl, z⟩
  case ret =>
    obtain ⟨v, _, H', J, rv, z⟩ := z
    exact ⟨v, H', J.os, J.bare, J.base, J.hok, rv, z⟩
  all_goals
    obtain ⟨_, _, _, z⟩ := z
    exact z.elim
end
section
variable {X : Cx} {k : Nat} {f : Addr} {fd : FuncData} {ps : List Str} {sp : Sp} {p : Addr × Obj}
theorem pin_of {pins : List (Addr × Obj)} {σ : L2.St} {H : Hp} {s : Shared} (I : Inv X pins σ H s) (hp : p ∈ X.pn) : L2H.PinOk X.stack H s p :=
  have P := I.pin p (List.mem_append_left _ hp)
  ⟨P.1, P.2.1, fun hm => (List.mem_cons.mp (I.stkSub p.1 hm)).elim P.2.2.1 P.2.2.2.1, P.2.2.2.2⟩
theorem pe_callW {x : Str} {q pos : Pos} {e : Expr} {es : List Expr} {t : TA} (F : FnW X.prog X.w X.K X.mg X.base k f fd ps sp) (gd : X.A.guards = some []) (room : L2H.RoomH k X.A) (hc : L2H.Hot1 X.A p) (hp : p ∈ X.pn) (gl : Gl X x) (hm : X.mg x = some (.ref f)) (kp : PySem.W.keepIn X.K (.ref f) = true) (bd : Binds X.K fd ps [])
    (ha : PA X (e :: es) t) (hdb : (x == ("__debug__" : Str)) = false := by decide) (he : starEach (e :: es) X.env = (false, eval e X.env) :: starEach es X.env := by rfl) (hpl : (backTo pos (starEach es X.env)).any (·.1) = false := by rfl) :
    PE X (.Call (.Name x q) (e :: es) [] pos) (tCall sp [] E0 t) := by
  refine ⟨fun pins s σ H Q I h => wpAny_Call_Name_kw (ld_glob I gl hm ?_ hdb)⟩
  refine PySem.W.callWith_K (h₀ := X.base) I.ok.mod.kin kp (thn (ha.run pos pins s σ H _ I h) ?_) he hpl
  rintro us s1 ⟨vs, H1, I1, rel, q⟩
  refine ⟨I1.kIn, ?_⟩
  have q0 : sp (vs ++ []) H1 Q E0 := q
  have rel0 : Vals (vs ++ []) (us ++ []) := rel.append .nil
  have l0 : (us ++ []).length = ps.length := rel0.length.symm.trans (F.len _ _ _ _ q0)
  refine wpAny_call (codeAny_mono (F.run X.A X.stack s1 H1 ⟨us, []⟩ (us ++ []) (vs ++ []) Q E0 p gd room hc (pin_of I1 hp) I1.env0 (bd s1 us I1.kIn l0) rel0 q0) ?_)
  rintro (_ | _ | _ | _ | u) s' z
  case ok.ret => exact I1.after z
  all_goals exact z.elim
def tSubW (isC : Addr → Prop) (sp : Sp) (to ti : TE) : TE := fun σ H Q => to σ H fun x H1 => ti σ H1 fun y H2 => ∃ a C dx fs, x = .ref a ∧ isC C ∧ H2 a = some (.ins C dx fs) ∧ sp [.ref a, y] H2 Q E0
theorem pe_subW {pos : Pos} {o i : Expr} {to ti : TE} {isC : Addr → Prop} (hc : ∀ C, isC C → SubC X.K C f) (F : FnW X.prog X.w X.K X.mg X.base k f fd ps sp) (gd : X.A.guards = some []) (room : L2H.RoomH (k + 1) X.A) (hot : L2H.Hot1 X.A p) (hp : p ∈ X.pn) (bd : Binds X.K fd ps []) (ho : PE X o to) (hi : PE X i ti)
    (hsl : ∀ v u : Value, subscripted i true v u = runValue (.builtin "lifetime.subscript" ⟨[v, u], []⟩) := by intro _ _; with_unfolding_all rfl) :
    PE X (.Subscript o i pos) (tSubW isC sp to ti) := by
  refine ⟨fun pins s σ H Q I h => ?_⟩
  refine Subscript_ (binT ho hi I h fun v u s2 x y H2 I2 rx ry q => ?_)
  obtain ⟨a, C, dx, fs, rfl, hC, hin, q⟩ := q
  obtain rfl : v = Value.ref a := rx
  obtain ⟨oe, od, J⟩ := ins_at I2 hin
  obtain ⟨m, hF⟩ := I2.fr
  have c := hc C hC
  refine PySem.W.sub_K hF I2.ok.mod.kin J c.fd c.fn c.isf ?_ (hsl _ _)
  have rel : Vals [V.ref a, y] [Value.ref a, u] := .cons rfl (.cons ry .nil)
  have l0 : [Value.ref a, u].length = ps.length := rel.length.symm.trans (F.len _ _ _ _ q)
  have b0 := bd s2 [Value.ref a, u] I2.kIn (by rw [List.append_nil]; exact l0)
  rw [List.append_nil] at b0
  have r1 : L2H.RoomH k X.A.in1 := ⟨by have := room.dp; show X.A.depth + 3 * k + 5 < _; omega, by have := room.un; show X.A.units + 1 + 16 * k + 200 < _; omega⟩
  refine wpAny_call (codeAny_mono (F.run X.A.in1 X.stack s2 H2 ⟨[Value.ref a, u], []⟩ [Value.ref a, u] _ Q E0 p gd r1 ⟨hot.1, hot.2⟩ (pin_of I2 hp) I2.env0.in1 b0 rel q) ?_)
  rintro (_ | _ | _ | _ | u) s' z
  case ok.ret => exact I2.after z
  all_goals exact z.elim
end
end Cn
namespace Wp
open PySem PySem.Spec PyProof.Rows L2 Evl
section
variable {X : Cx} {k : Nat} {f : Addr} {fd : FuncData} {ps : List Str} {mf : WF} {p : Addr × Obj}
theorem pm_callW {gs : WG} {x : Str} {q pos : Pos} {e : Expr} {es : List Expr} (F : Cn.FnW X.prog X.w X.K X.mg X.base k f fd ps (spOf mf)) (gd : X.A.guards = some []) (room : L2H.RoomH k X.A) (hc : L2H.Hot1 X.A p) (hp : p ∈ X.pn) (gl : Gl X x) (hm : X.mg x = some (.ref f)) (kp : PySem.W.keepIn X.K (.ref f) = true) (bd : Binds X.K fd ps [])
    (ha : PA X (e :: es) (tG gs)) (hdb : (x == ("__debug__" : Str)) = false := by decide) (he : starEach (e :: es) X.env = (false, eval e X.env) :: starEach es X.env := by rfl) (hpl : (backTo pos (starEach es X.env)).any (·.1) = false := by rfl) :
    PE X (.Call (.Name x q) (e :: es) [] pos) (tE (mCall mf gs)) := (Cn.pe_callW F gd room hc hp gl hm kp bd ha hdb he hpl).weak fun σ H Q ⟨W, H0, E, b, R, S, hm, k⟩ =>
  ⟨W, H0, E, b, _, S, hm, fun ss b1 vs H1 h1 k1 d1 t1 => by
    show spOf mf (vs ++ []) H1 Q E0
    rw [List.append_nil]
    exact ⟨W, ss, b1, _, t1, d1, h1, fun d b' v H' r kp dk t => k d b' v H' r (k1.trans kp) dk t⟩⟩
def mSubW (isC : Addr → Prop) (mf : WF) (mo mi : WE) : WE := fun E b R => mo E b fun d b1 => mi E b1 fun e b2 => ∃ a C fs, d = refD a ∧ b2.os a = some (C, fs) ∧ isC C ∧ mf [.d d, .d e] b2 R
theorem mSubW_e {isC : Addr → Prop} {mo mi : WE} {E : Env} {b : Bt} {R : PyData → Bt → Prop} : mSubW isC mf mo mi E b R = mo E b fun d b1 => mi E b1 fun e b2 => ∃ a C fs, d = refD a ∧ b2.os a = some (C, fs) ∧ isC C ∧ mf [.d d, .d e] b2 R := rfl
theorem pm_subW {pos : Pos} {o i : Expr} {mo mi : WE} {isC : Addr → Prop} (hc : ∀ C, isC C → Cn.SubC X.K C f) (F : Cn.FnW X.prog X.w X.K X.mg X.base k f fd ps (spOf mf)) (gd : X.A.guards = some []) (room : L2H.RoomH (k + 1) X.A) (hot : L2H.Hot1 X.A p) (hp : p ∈ X.pn) (bd : Binds X.K fd ps []) (ho : PE X o (tE mo)) (hi : PE X i (tE mi))
    (hsl : ∀ v u : Value, subscripted i true v u = runValue (.builtin "lifetime.subscript" ⟨[v, u], []⟩) := by intro _ _; with_unfolding_all rfl) : PE X (.Subscript o i pos) (tE (mSubW isC mf mo mi)) := (Cn.pe_subW hc F gd room hot hp bd ho hi hsl).weak fun σ H Q ⟨W, H0, E, b, R, S, hm, q⟩ =>
  ⟨W, H0, E, b, _, S, hm, fun d b1 v H1 h1 k1 d1 t1 => ⟨W, H0, E, b1, _, S.step k1 d1, h1, fun e b2 y H2 h2 k2 d2 t2 => by
    obtain ⟨a, C, fs, rfl, os, hC, h2⟩ := h2
    have := t1.rf_inv
    subst this
    obtain ⟨dx, us, hi, hp⟩ := W.obs d2 a C fs os
    exact ⟨a, C, dx, us, rfl, hC, hi, W, _, b2, R, .cons (ar_rf a) (.cons (show ArR W H2 y (.d e) from t2) .nil), d2, h2, fun d b' v H' r kp dk t => q d b' v H' r ((k1.trans k2).trans kp) dk t⟩⟩⟩
theorem fn_ofW {P : Program} {w : World} {K : PySem.W.Frag} {mg : Str → Option Value} {base : Heap} {x qual : Str} {st : Stmt} {f : Addr} {fd : FuncData} {N ps : List Str} {k : Nat} {mb : WS} (F : Fun K x qual st f fd) (S : FnScope N ps (defScope st)) (hps : ps.length ≤ N.length)
    (body : ∀ (cdv : Value) (A : Around) (out : List PySem.Env) (s : Shared) (H : Hp) (E : XK) (p : Addr × Obj), A.guards = some [] → L2H.RoomH k (A.deeper (envOfC qual (defScope st) s.heap.objs.size f cdv)) → L2H.Hot1 (A.deeper (envOfC qual (defScope st) s.heap.objs.size f cdv)) p →
      PSs (L2H.cxH CX0 P w K mg base N qual (defScope st) f cdv A out s H E p).nox (defBody st) (tS noX mb)) :
    Cn.FnW P w K mg base (k + 1) f fd ps (spOf (mFn ps.length N.length mb)) := by
  refine Cn.okW F S (fun vs H Q E h => ?_) (fun cdv A out s H vs Q E p gd hr hot h => ⟨_, body cdv A out s H E p gd hr hot, ?_⟩)
  · obtain ⟨W, as, b, R, ar, _, hm, _⟩ := h
    exact ar.length.trans hm.1
  · obtain ⟨W, as, b, R, ar, dk, ⟨hl, hm⟩, q⟩ := h
    have S := start_sit (N := N) ar dk (by rw [hl]; exact hps)
    rw [hl] at S
    exact ⟨W, ⟨H, H⟩, _, b, _, S, hm, ⟨fun σ' H' E' b' S' h' => q _ b' _ H' h' S'.kp S'.dk .non, fun _ _ _ _ _ z => z.elim, fun _ _ _ _ _ z => z.elim, fun d b' v H' r kp d' t => q d b' v H' r kp d' t, fun _ _ _ _ _ _ _ z => z.elim⟩⟩
end
end Wp

/-! a tuple is unpacked while an exception is handled -/
namespace HotX
open PySem PySem.Spec PyProof.Rows
section
variable {prog : Program} {w : World} {A : Around} {E : Value → Shared → Prop} {s : Shared}
theorem HotAt.kept {x1 b : Addr} {h h' : Heap} (hot : HotAt A x1 h) (hne : x1 ≠ b) (k : Heap.ExtBut b h h') : HotAt A x1 h' := by
  obtain ⟨hh, o1, vs1, h1, d1, c1⟩ := hot
  exact ⟨hh, o1, vs1, k x1 o1 hne h1, d1, c1⟩
theorem HotAt.lt {x1 : Addr} {h : Heap} (hot : HotAt A x1 h) : x1 < h.objs.size := by
  obtain ⟨hh, o1, vs1, h1, d1, c1⟩ := hot
  exact Heap.lt_size h1
theorem unpack_hot {x1 t : Addr} {items : Array Value} {targets : List (Bool × (Value → Sem Unit))} {Q : Unit → Shared → Prop} (hot : HotAt A x1 s.heap) (ht : s.heap.IsTuple t items)
    (hn : targets.length = items.size) (hstar : targets.findIdx? (·.1) = none)
    (h : ∀ h', Heap.ExtBut s.heap.objs.size s.heap h' → wpAny (model prog w) A (assignInOrder (targets.map (·.2)) items.toList) Q E { s with heap := h' }) :
    wpAny (model prog w) A (unpack (.ref t) targets) Q E s := by
  have hlt : t ≠ s.heap.objs.size := by obtain ⟨o, ho, _⟩ := ht; exact Nat.ne_of_lt (Heap.lt_size ho)
  have hx : x1 ≠ s.heap.objs.size := Nat.ne_of_lt hot.lt
  unfold unpack
  rw [hn, hstar]
  refine wpAny_bind (wpAny_holding ?_)
  unfold unpackItems
  refine wpAny_bind ?_
  unfold notIterableAtAll
  refine wpAny_bind (wpAny_specialOf ht.typeIs F.slot_tuple_iter.lookup ?_)
  refine wpAny_pure ?_
  simp only [Bool.false_eq_true, if_false]
  refine wpAny_bind (wpAny_holding (wpAny_pyIter_tuple ht ?_))
  refine wpAny_bind (wpAny_holding (wpAny_draw_tuple hlt items.size 0 _ _ ⟨_, Heap.get?_push_size _ rfl, rfl, rfl⟩ (ht.push _) (by omega) fun h₁ hit₁ hs₁ => ?_))
  rw [show List.take items.size (List.drop 0 items.toList) = items.toList by rw [List.drop_zero]; exact List.take_of_length_le (by simp), if_neg (by simp)]
  have e₁ : Heap.ExtBut s.heap.objs.size s.heap h₁ := fun b o hb e => hs₁.extBut b o hb (Heap.get?_push_of_some _ e)
  refine wpAny_bind (wpAny_holding (pyNext_tuple_end_hot (hot.kept hx e₁) hit₁ ((ht.push _).extBut hs₁.extBut hlt) (by simp) fun h₂ he₂ => ?_))
  simp only [Option.isSome_none, Bool.false_eq_true, if_false]
  exact wpAny_pure (h h₂ fun b o hb e => he₂ b o hb (e₁ b o hb e))
end
end HotX
namespace L2H
open PySem PySem.Spec PyProof.Rows L2 HotX
section
variable {X : Cx} {pos : Pos}
theorem pg_tupH {es : List Expr} {k : Nat} {t : TGs} {n : Nat} (hc : HotC X) (h : PGs X es t)
    (hn : (assignEach es X.env).length = n := by rfl) (hst : (assignEach es X.env).findIdx? (·.1) = none := by rfl) : PG X (.Tuple es k pos) (gTup X.K n t) := by
  refine ⟨fun pins s σ H v u Q I r hw => ?_⟩
  obtain ⟨a, xs, rfl, hq, hl, hw⟩ := hw
  cases r
  obtain ⟨its, rv, ht, hz⟩ := I.tuple hq
  obtain ⟨x1, hot⟩ := hc.at I
  rw [assign_Tuple]
  refine wpAny_bind (wpAny_standAt (unpack_hot hot (show s.heap.IsTuple a its.toArray from ht) (by simp [hn, ← hl, rv.length]) hst fun h' hx => ?_))
  exact h.run pins _ σ H xs _ Q (I.kept (t' := s.toks) fun b o e => hx b o (Nat.ne_of_lt (Heap.lt_size e)) e) (by simpa using rv) hw
end
end L2H

/-! a suite knows that the caught error's context is None -/
namespace Cn
open PySem PySem.Spec PyProof.Rows L2
theorem hot_suite {X : Cx} {a : Addr} {oe : Obj} {pn : List (Addr × Obj)} {cls : Value} {d : Option Addr} (hz : L2N.Zn cls d oe) (hf : ∃ vs, oe.data = .fields vs) : L2H.Hot1 (X.suite a ((a, oe) :: pn)).A (a, oe) := by
  obtain ⟨vs, e⟩ := hf
  exact ⟨rfl, vs, e, hz.2.2 vs e⟩
end Cn

/-! o + x, x == o where x may raise -/
namespace Wp
open PySem PySem.Spec PyProof.Rows L2 Evl
/-- o + x: the right side may raise -/
def mBinXR (isC : Addr → Prop) (mf : WFX) (mo : WE) (mi : WEX) : WEX := fun E b R Z => mo E b fun d b1 => mi E b1 (fun e b2 => ∃ a C fs a2 fs2, d = refD a ∧ e = refD a2 ∧ b2.os a = some (C, fs) ∧ b2.os a2 = some (C, fs2) ∧ isC C ∧ mf [.d d, .d e] b2 (fun r b3 => (∃ a3, r = refD a3) ∧ R r b3) fun c s b3 => c ≠ 0 ∧ Z c s b3) Z
theorem mBinXR_e {isC : Addr → Prop} {mf : WFX} {mo : WE} {mi : WEX} {E : Env} {b : Bt} {R : PyData → Bt → Prop} {Z : Nat → Sl → Bt → Prop} : mBinXR isC mf mo mi E b R Z = mo E b fun d b1 => mi E b1 (fun e b2 => ∃ a C fs a2 fs2, d = refD a ∧ e = refD a2 ∧ b2.os a = some (C, fs) ∧ b2.os a2 = some (C, fs2) ∧ isC C ∧ mf [.d d, .d e] b2 (fun r b3 => (∃ a3, r = refD a3) ∧ R r b3) fun c s b3 => c ≠ 0 ∧ Z c s b3) Z := rfl
theorem pm_binXR {X : Cx} {k : Nat} {f : Addr} {fd : FuncData} {ps : List Str} {mf : WFX} {pos : Pos} {o i : Expr} {mo : WE} {mi : WEX} {Wx : WX} {xc : XC} {isC : Addr → Prop} {op : Operator} (hc : ∀ C, isC C → Cn.BinC X.K C f (PySem.dunder op.info.2)) (F : Cn.FnX X.prog X.w X.K X.mg X.base k f fd ps (spOfX xc mf)) (gd : X.A.guards = some []) (room : Room k X.A) (bd : Binds X.K fd ps []) (tk : Takes X Wx) (ho : PE X o (tE mo)) (hi : PE X i (tX xc Wx mi)) :
    PE X (.BinOp o op i pos) (tX xc Wx (mBinXR isC mf mo mi)) := (Cn.pe_binX hc F gd room bd tk ho hi).weak fun σ H Q ⟨W, H0, E, b, R, Z, S, hm, q, z⟩ =>
  ⟨W, H0, E, b, _, S, hm, fun d b1 v H1 h1 k1 d1 t1 => ⟨W, H0, E, b1, _, _, S.step k1 d1, h1, fun e b2 y H2 h2 k2 d2 t2 => by
    obtain ⟨a, C, fs, a2, fs2, rfl, rfl, os, os2, hC, h2⟩ := h2
    have := t1.rf_inv
    subst this
    have := t2.rf_inv
    subst this
    obtain ⟨dx, us, hi, hp⟩ := W.obs d2 a C fs os
    obtain ⟨dx2, us2, hi2, hp2⟩ := W.obs d2 a2 C fs2 os2
    exact ⟨a, C, dx, us, a2, dx2, us2, rfl, rfl, hC, hi, hi2, spx_of (.cons (ar_rf a) (.cons (ar_rf a2) .nil)) d2 (k1.trans k2) h2 (fun d b' v H' r kp dk t => by
      obtain ⟨⟨a3, rfl⟩, r⟩ := r
      have := t.rf_inv
      subst this
      exact ⟨⟨a3, rfl⟩, q _ b' _ H' r kp dk t⟩) z⟩, fun c s b' v H' hz kz => z c s b' v H' hz (k1.trans kz)⟩⟩
/-- x == o: the left side may raise -/
def mEqOX (isC : Addr → Prop) (mf : WF) (mo : WEX) (mi : WE) : WEX := fun E b R Z => mo E b (fun d b1 => mi E b1 fun e b2 => ∃ a C fs a2 D fs2, d = refD a ∧ e = refD a2 ∧ b2.os a = some (C, fs) ∧ b2.os a2 = some (D, fs2) ∧ isC C ∧ isC D ∧ mf [.d d, .d e] b2 fun r b3 => ∃ c, r = .bool c ∧ R (.bool c) b3) Z
theorem mEqOX_e {isC : Addr → Prop} {mf : WF} {mo : WEX} {mi : WE} {E : Env} {b : Bt} {R : PyData → Bt → Prop} {Z : Nat → Sl → Bt → Prop} : mEqOX isC mf mo mi E b R Z = mo E b (fun d b1 => mi E b1 fun e b2 => ∃ a C fs a2 D fs2, d = refD a ∧ e = refD a2 ∧ b2.os a = some (C, fs) ∧ b2.os a2 = some (D, fs2) ∧ isC C ∧ isC D ∧ mf [.d d, .d e] b2 fun r b3 => ∃ c, r = .bool c ∧ R (.bool c) b3) Z := rfl
theorem pm_eqOX {X : Cx} {k : Nat} {f : Addr} {fd : FuncData} {ps : List Str} {mf : WF} {pos : Pos} {o i : Expr} {mo : WEX} {mi : WE} {Wx : WX} {xc : XC} {isC : Addr → Prop} (F : Cn.FnG X.prog X.w X.K X.mg X.base k f fd ps (spOf mf)) (gd : X.A.guards = some []) (room : Room k X.A) (bd : Binds X.K fd ps []) (ho : PE X o (tX xc Wx mo)) (hi : PE X i (tE mi))
    (hc : ∀ C D, isC C → isC D → Cn.EqC X.K C D f) (hm : behindInMarks .Eq i = false := by rfl) : PE X (.Compare o [.Eq] [i] pos) (tX xc Wx (mEqOX isC mf mo mi)) := (pe_cmpR (Cn.op_eqO hc F gd room bd) ho hi hm).weak fun σ H Q ⟨W, H0, E, b, R, Z, S, hm, q, z⟩ =>
  ⟨W, H0, E, b, _, Z, S, hm, fun d b1 v H1 h1 k1 d1 t1 => ⟨W, H0, E, b1, _, S.step k1 d1, h1, fun e b2 y H2 h2 k2 d2 t2 => by
    obtain ⟨a, C, fs, a2, D, fs2, rfl, rfl, os, os2, hC, hD, h2⟩ := h2
    have := t1.rf_inv
    subst this
    have := t2.rf_inv
    subst this
    obtain ⟨dx, us, hi, hp⟩ := W.obs d2 a C fs os
    obtain ⟨dx2, us2, hi2, hp2⟩ := W.obs d2 a2 D fs2 os2
    exact ⟨a, C, dx, us, a2, D, dx2, us2, rfl, rfl, hC, hD, hi, hi2, W, _, b2, _, .cons (ar_rf a) (.cons (ar_rf a2) .nil), d2, h2, fun d b' v H' r kp dk t => by
      obtain ⟨c, rfl, r⟩ := r
      cases t
      exact ⟨⟨c, rfl⟩, q _ b' _ H' r ((k1.trans k2).trans kp) dk (.bl c)⟩⟩⟩, z⟩
end Wp

namespace Wp.K33
open PySem PySem.Spec PyProof.Rows L2 Evl Wp Pg
def topS (i : Nat) : Stmt := PySem.Challenge.pw_canpath_k33_whole_loads.main.body.getD i (.Pass ⟨0, 0, 0, 0⟩)

abbrev s_is_number : Stmt := topS 4
abbrev N_is_number : List Str := ["value"]
theorem sc_is_number : FnScope N_is_number ["value"] (defScope s_is_number) := ⟨rfl, rfl, rfl, by decide +kernel, rfl, by decide +kernel, by decide +kernel⟩

abbrev s_is_number_within : Stmt := topS 5
abbrev N_is_number_within : List Str := ["value", "low", "high"]
theorem sc_is_number_within : FnScope N_is_number_within ["value", "low", "high"] (defScope s_is_number_within) := ⟨rfl, rfl, rfl, by decide +kernel, rfl, by decide +kernel, by decide +kernel⟩

abbrev s_is_place : Stmt := topS 6
abbrev N_is_place : List Str := ["value"]
theorem sc_is_place : FnScope N_is_place ["value"] (defScope s_is_place) := ⟨rfl, rfl, rfl, by decide +kernel, rfl, by decide +kernel, by decide +kernel⟩

abbrev s_is_tuple_of : Stmt := topS 7
abbrev N_is_tuple_of : List Str := ["value", "many"]
theorem sc_is_tuple_of : FnScope N_is_tuple_of ["value", "many"] (defScope s_is_tuple_of) := ⟨rfl, rfl, rfl, by decide +kernel, rfl, by decide +kernel, by decide +kernel⟩

abbrev s_ascends : Stmt := topS 8
abbrev N_ascends : List Str := ["items", "low", "high"]
theorem sc_ascends : FnScope N_ascends ["items"] (defScope s_ascends) := ⟨rfl, rfl, rfl, by decide +kernel, rfl, by decide +kernel, by decide +kernel⟩

abbrev s_are_rows : Stmt := topS 17
abbrev N_are_rows : List Str := ["value", "row", "place", "litres"]
theorem sc_are_rows : FnScope N_are_rows ["value"] (defScope s_are_rows) := ⟨rfl, rfl, rfl, by decide +kernel, rfl, by decide +kernel, by decide +kernel⟩

abbrev s_is_load_row : Stmt := topS 18
abbrev N_is_load_row : List Str := ["value"]
theorem sc_is_load_row : FnScope N_is_load_row ["value"] (defScope s_is_load_row) := ⟨rfl, rfl, rfl, by decide +kernel, rfl, by decide +kernel, by decide +kernel⟩

abbrev s_l_deck : Stmt := topS 20
abbrev N_l_deck : List Str := ["_law_script", "_law_cell"]
theorem sc_l_deck : FnScope N_l_deck ["_law_script"] (defScope s_l_deck) := ⟨rfl, rfl, rfl, by decide +kernel, rfl, by decide +kernel, by decide +kernel⟩

abbrev s_l_draw : Stmt := topS 21
abbrev N_l_draw : List Str := ["_law_deck_here", "_law_many", "_law_cell", "_law_place"]
theorem sc_l_draw : FnScope N_l_draw ["_law_deck_here", "_law_many"] (defScope s_l_draw) := ⟨rfl, rfl, rfl, by decide +kernel, rfl, by decide +kernel, by decide +kernel⟩

abbrev s_l_rows : Stmt := topS 22
abbrev N_l_rows : List Str := ["_law_deck_here", "_law_most", "_law_k", "_law_top", "_law_reach", "_law_some", "_law_place"]
theorem sc_l_rows : FnScope N_l_rows ["_law_deck_here", "_law_most"] (defScope s_l_rows) := ⟨rfl, rfl, rfl, by decide +kernel, rfl, by decide +kernel, by decide +kernel⟩

abbrev s_l_few : Stmt := topS 23
abbrev N_l_few : List Str := ["_law_deck_here", "_law_rows_here", "_law_place", "_law_litres"]
theorem sc_l_few : FnScope N_l_few ["_law_deck_here"] (defScope s_l_few) := ⟨rfl, rfl, rfl, by decide +kernel, rfl, by decide +kernel, by decide +kernel⟩

abbrev s_l_can_take : Stmt := topS 24
abbrev N_l_can_take : List Str := ["_law_one", "_law_other", "error"]
theorem sc_l_can_take : FnScope N_l_can_take ["_law_one", "_law_other"] (defScope s_l_can_take) := ⟨rfl, rfl, rfl, by decide +kernel, rfl, by decide +kernel, by decide +kernel⟩

abbrev s_l_sums_right : Stmt := topS 25
abbrev N_l_sums_right : List Str := ["_law_one", "_law_other", "_law_third", "_law_both", "_law_place", "_law_litres"]
theorem sc_l_sums_right : FnScope N_l_sums_right ["_law_one", "_law_other", "_law_third"] (defScope s_l_sums_right) := ⟨rfl, rfl, rfl, by decide +kernel, rfl, by decide +kernel, by decide +kernel⟩

abbrev s_l_parts_right : Stmt := topS 26
abbrev N_l_parts_right : List Str := ["_law_one", "_law_other"]
theorem sc_l_parts_right : FnScope N_l_parts_right ["_law_one", "_law_other"] (defScope s_l_parts_right) := ⟨rfl, rfl, rfl, by decide +kernel, rfl, by decide +kernel, by decide +kernel⟩

abbrev s_l_built_right : Stmt := topS 27
abbrev N_l_built_right : List Str := ["_law_load", "_law_row", "_law_lines", "_law_found", "_law_back"]
theorem sc_l_built_right : FnScope N_l_built_right ["_law_load"] (defScope s_l_built_right) := ⟨rfl, rfl, rfl, by decide +kernel, rfl, by decide +kernel, by decide +kernel⟩

abbrev s_law : Stmt := topS 28
abbrev N_law : List Str := ["_law_script", "_law_deck_here", "_law_turn", "_law_some", "_law_part", "_law_less", "_law_loads", "_law_kept", "_law_k", "_law_load", "_law_one", "_law_other", "_law_third", "_law_again", "_law_row", "_law_place", "_law_litres"]
theorem sc_law : FnScope N_law ["_law_script"] (defScope s_law) := ⟨rfl, rfl, rfl, by decide +kernel, rfl, by decide +kernel, by decide +kernel⟩

abbrev s_Load_init : Stmt := (clB (topS 16)).getD 0 (.Pass ⟨0, 0, 0, 0⟩)
abbrev N_Load_init : List Str := ["self", "rows", "place", "litres"]
theorem sc_Load_init : FnScope N_Load_init ["self", "rows"] (defScope s_Load_init) := ⟨rfl, rfl, rfl, by decide +kernel, rfl, by decide +kernel, by decide +kernel⟩

abbrev s_Load_getitem : Stmt := (clB (topS 16)).getD 1 (.Pass ⟨0, 0, 0, 0⟩)
abbrev N_Load_getitem : List Str := ["self", "at", "place", "litres"]
theorem sc_Load_getitem : FnScope N_Load_getitem ["self", "at"] (defScope s_Load_getitem) := ⟨rfl, rfl, rfl, by decide +kernel, rfl, by decide +kernel, by decide +kernel⟩

abbrev s_Load_add : Stmt := (clB (topS 16)).getD 3 (.Pass ⟨0, 0, 0, 0⟩)
abbrev N_Load_add : List Str := ["self", "other", "places", "rows", "place", "litres"]
theorem sc_Load_add : FnScope N_Load_add ["self", "other"] (defScope s_Load_add) := ⟨rfl, rfl, rfl, by decide +kernel, rfl, by decide +kernel, by decide +kernel⟩

abbrev s_Load_sub : Stmt := (clB (topS 16)).getD 4 (.Pass ⟨0, 0, 0, 0⟩)
abbrev N_Load_sub : List Str := ["self", "other", "rows", "place", "litres"]
theorem sc_Load_sub : FnScope N_Load_sub ["self", "other"] (defScope s_Load_sub) := ⟨rfl, rfl, rfl, by decide +kernel, rfl, by decide +kernel, by decide +kernel⟩

abbrev s_Load_contains : Stmt := (clB (topS 16)).getD 5 (.Pass ⟨0, 0, 0, 0⟩)
abbrev N_Load_contains : List Str := ["self", "x", "place", "litres"]
theorem sc_Load_contains : FnScope N_Load_contains ["self", "x"] (defScope s_Load_contains) := ⟨rfl, rfl, rfl, by decide +kernel, rfl, by decide +kernel, by decide +kernel⟩

abbrev s_Load_len : Stmt := (clB (topS 16)).getD 6 (.Pass ⟨0, 0, 0, 0⟩)
abbrev N_Load_len : List Str := ["self"]
theorem sc_Load_len : FnScope N_Load_len ["self"] (defScope s_Load_len) := ⟨rfl, rfl, rfl, by decide +kernel, rfl, by decide +kernel, by decide +kernel⟩

abbrev s_Load_str : Stmt := (clB (topS 16)).getD 7 (.Pass ⟨0, 0, 0, 0⟩)
abbrev N_Load_str : List Str := ["self", "place", "litres"]
theorem sc_Load_str : FnScope N_Load_str ["self"] (defScope s_Load_str) := ⟨rfl, rfl, rfl, by decide +kernel, rfl, by decide +kernel, by decide +kernel⟩

abbrev s_Load_eq : Stmt := (clB (topS 16)).getD 8 (.Pass ⟨0, 0, 0, 0⟩)
abbrev N_Load_eq : List Str := ["self", "other"]
theorem sc_Load_eq : FnScope N_Load_eq ["self", "other"] (defScope s_Load_eq) := ⟨rfl, rfl, rfl, by decide +kernel, rfl, by decide +kernel, by decide +kernel⟩

def xcL (ad : Nat → Addr) : XC := fun c => (ad c, ["value", "value", "place", ""].getD c "")

def HB_is_number_within : WS := (mRet (mAnd (mCall M_is_number (gE (mV 0) gNo)) (mChain leI leI (mV 1) (mV 0) (mV 2))))
def HM_is_number_within : WF := mFn 3 3 HB_is_number_within
def HB_is_place : WS := (mRet (mCall HM_is_number_within (gE (mV 0) (gE (mUn negW (mC (.int 1000000))) (gE (mC (.int 1000000)) gNo)))))
def HM_is_place : WF := mFn 1 1 HB_is_place
def HB_Load_getitem (ad : Nat → Addr) : WS := mSeq (mIfS (mNotT (mT (mCall HM_is_place (gE (mV 1) gNo)))) mNever mSkip)
  (mRet (mCB sumW (mCons (mLk (mLc (bTup 2 (bCons (bName 2) (bCons (bName 3) bNil))) (mGet (fun C => C = ad 5) "rows" (mV 0)) (mT (mOp eqI (mV 2) (mV 1))) (mV 3) [2, 3])) mNil)))
def HM_Load_getitem (ad : Nat → Addr) : WF := mFn 2 4 (HB_Load_getitem ad)

def S_Load_getitem_1 (ad : Nat → Addr) : WS := (mRet (mCB sumW (mCons (mLk (mLc (bTup 2 (bCons (bName 2) (bCons (bName 3) bNil))) (mGet (fun C => C = ad 5) "rows" (mV 0)) (mT (mOp eqW (mV 2) (mV 1))) (mV 3) [2, 3])) mNil)))
def S_Load_getitem_2 (ad : Nat → Addr) : WS := (mRaise 1 (mV 1))
def S_Load_getitem_3 (ad : Nat → Addr) : WS := (mIfS (mNotT (mT (mCall M_is_place (gE (mV 1) gNo)))) (S_Load_getitem_2 ad) mSkip)
def B_Load_getitem (ad : Nat → Addr) : WS := (mSeq (S_Load_getitem_3 ad)
    (S_Load_getitem_1 ad))
def M_Load_getitem (ad : Nat → Addr) : WFX := mFnX 2 4 (B_Load_getitem ad)

def S_Load_contains_1 (ad : Nat → Addr) : WS := (mRet (mAnd (mIsiO (fun C => C = ad 5) true (mV 1)) (mCB allW (mCons (mLk (mLc (bTup 2 (bCons (bName 2) (bCons (bName 3) bNil))) (mGet (fun C => C = ad 5) "rows" (mV 1)) mYes (mOp leW (mV 3) (mCalm (mSubX (fun C => C = ad 5) (M_Load_getitem ad) (mV 0) (mV 2)))) [2, 3])) mNil))))
def B_Load_contains (ad : Nat → Addr) : WS := (S_Load_contains_1 ad)
def M_Load_contains (ad : Nat → Addr) : WFX := mFnX 2 4 (B_Load_contains ad)

def S_ascends_1 : WS := (mRet (mCB allW (mCons (mLk (mLcZ (bTup 2 (bCons (bName 1) (bCons (bName 2) bNil))) (mCons (mV 0) (mCons (mSl (mV 0) (mPt (mC (.int 1))) mNo) mNil)) mYes (mOp ltW (mV 1) (mV 2)) [1, 2])) mNil)))
def B_ascends : WS := S_ascends_1
def M_ascends : WF := mFn 1 3 B_ascends

def S_is_load_row_1 : WS := (mRet (mAnd (mCall M_is_tuple_of (gE (mV 0) (gE (mC (.int 2)) gNo))) (mAnd (mCall M_is_place (gE (mOp ixW (mV 0) (mC (.int 0))) gNo)) (mCall M_is_number_within (gE (mOp ixW (mV 0) (mC (.int 1))) (gE (mC (.int 1)) (gE (mC (.int 1000000000000000000)) gNo)))))))
def B_is_load_row : WS := S_is_load_row_1
def M_is_load_row : WF := mFn 1 1 B_is_load_row

def S_are_rows_1 : WS := (mRet (mCall M_ascends (gE (mLk (mLc (bTup 2 (bCons (bName 2) (bCons (bName 3) bNil))) (mV 0) mYes (mV 2) [2, 3])) gNo)))
def S_are_rows_2 : WS := (mRet (mC (.bool false)))
def S_are_rows_3 : WS := (mIfS (mNotT (mT (mCB allW (mCons (mLk (mLc (bName 1) (mV 0) mYes (mCall M_is_load_row (gE (mV 1) gNo)) [1])) mNil)))) S_are_rows_2 mSkip)
def S_are_rows_4 : WS := (mRet (mC (.bool false)))
def S_are_rows_5 : WS := (mIfS (mOrT (mNotT (mT (mIsi isT (mV 0)))) (mT (mOp gtW (mCB lenW (mCons (mV 0) mNil)) (mC (.int 50))))) S_are_rows_4 mSkip)
def B_are_rows : WS := (mSeq S_are_rows_5
    (mSeq S_are_rows_3
    S_are_rows_1))
def M_are_rows : WF := mFn 1 4 B_are_rows

def S_Load_init_1 (ad : Nat → Addr) : WS := (mSet (fun C => C = ad 5) "total" (mV 0) (mCB sumW (mCons (mLk (mLc (bTup 2 (bCons (bName 2) (bCons (bName 3) bNil))) (mV 1) mYes (mV 3) [2, 3])) mNil)))
def S_Load_init_2 (ad : Nat → Addr) : WS := (mSet (fun C => C = ad 5) "rows" (mV 0) (mV 1))
def S_Load_init_3 (ad : Nat → Addr) : WS := (mRaise 0 (mV 1))
def S_Load_init_4 (ad : Nat → Addr) : WS := (mIfS (mNotT (mT (mCall M_are_rows (gE (mV 1) gNo)))) (S_Load_init_3 ad) mSkip)
def B_Load_init (ad : Nat → Addr) : WS := (mSeq (S_Load_init_4 ad)
    (mSeq (S_Load_init_2 ad)
    (S_Load_init_1 ad)))
def M_Load_init (ad : Nat → Addr) : WFX := mFnX 2 4 (B_Load_init ad)

def S_Load_add_1 (ad : Nat → Addr) : WS := (mRetX (mMk (ad 5) (M_Load_init ad) (gE (mCB tupW (mCons (mV 3) mNil)) gNo)))
def S_Load_add_2 (ad : Nat → Addr) : WS := (mRaise0 3)
def S_Load_add_3 (ad : Nat → Addr) : WS := (mIfS (mOrT (mT (mOp gtW (mCB lenW (mCons (mV 3) mNil)) (mC (.int 50)))) (mT (mCB anyW (mCons (mLk (mLc (bTup 2 (bCons (bName 4) (bCons (bName 5) bNil))) (mV 3) mYes (mOp gtW (mV 5) (mC (.int 1000000000000000000))) [4, 5])) mNil)))) (S_Load_add_2 ad) mSkip)
def S_Load_add_4 (ad : Nat → Addr) : WS := (mAsg 3 (vD (mLk (mLc (bName 4) (mV 2) mYes (mTup (mCons (mV 4) (mCons (mOp addW (mCalm (mSubX (fun C => C = ad 5) (M_Load_getitem ad) (mV 0) (mV 4))) (mCalm (mSubX (fun C => C = ad 5) (M_Load_getitem ad) (mV 1) (mV 4)))) mNil))) [4]))))
def S_Load_add_5 (ad : Nat → Addr) : WS := (mAsg 2 (vD (mLk (mSSB (mLk (mLc (bTup 2 (bCons (bName 4) (bCons (bName 5) bNil))) (mOp addW (mGet (fun C => C = ad 5) "rows" (mV 0)) (mGet (fun C => C = ad 5) "rows" (mV 1))) mYes (mV 4) [4, 5]))))))
def S_Load_add_6 (ad : Nat → Addr) : WS := mNever
def S_Load_add_7 (ad : Nat → Addr) : WS := (mIfS (mNotT (mT (mIsiO (fun C => C = ad 5) true (mV 1)))) (S_Load_add_6 ad) mSkip)
def B_Load_add (ad : Nat → Addr) : WS := (mSeq (S_Load_add_7 ad)
    (mSeq (S_Load_add_5 ad)
    (mSeq (S_Load_add_4 ad)
    (mSeq (S_Load_add_3 ad)
    (S_Load_add_1 ad)))))
def M_Load_add (ad : Nat → Addr) : WFX := mFnX 2 6 (B_Load_add ad)

def S_Load_eq_1 (ad : Nat → Addr) : WS := (mRet (mAnd (mIsiO (fun C => C = ad 5) true (mV 1)) (mOp eqW (mGet (fun C => C = ad 5) "rows" (mV 0)) (mGet (fun C => C = ad 5) "rows" (mV 1)))))
def B_Load_eq (ad : Nat → Addr) : WS := (S_Load_eq_1 ad)
def M_Load_eq (ad : Nat → Addr) : WFX := mFnX 2 2 (B_Load_eq ad)

def S_Load_len_1 (ad : Nat → Addr) : WS := (mRet (mCB lenW (mCons (mGet (fun C => C = ad 5) "rows" (mV 0)) mNil)))
def B_Load_len (ad : Nat → Addr) : WS := (S_Load_len_1 ad)
def M_Load_len (ad : Nat → Addr) : WFX := mFnX 1 1 (B_Load_len ad)

def S_Load_str_1 (ad : Nat → Addr) : WS := (mRet (mSJ (mC (.str "\n")) (mLk (mLc (bTup 2 (bCons (bName 1) (bCons (bName 2) bNil))) (mGet (fun C => C = ad 5) "rows" (mV 0)) mYes (mJs [(mFmtC (mV 1)), (mC (.str ":")), (mFmtC (mV 2))] Str.empty) [1, 2]))))
def B_Load_str (ad : Nat → Addr) : WS := (S_Load_str_1 ad)
def M_Load_str (ad : Nat → Addr) : WFX := mFnX 1 3 (B_Load_str ad)

def S_l_built_right_1 (ad : Nat → Addr) : WS := (mRet (mAnd (mEqO (fun C => C = ad 5) (calmM (M_Load_eq ad)) (mV 3) (mV 0)) (mAnd (mEqO (fun C => C = ad 5) (calmM (M_Load_eq ad)) (mV 4) (mV 0)) (mOp eqW (mV 2) (mLk (mLc (bName 1) (mGet (fun C => C = ad 5) "rows" (mV 0)) mYes (mSpec (fun C => C = ad 5) (calmM (M_Load_str ad)) strP (mCalm (mMk (ad 5) (M_Load_init ad) (gE (mTup (mCons (mV 1) mNil)) gNo)))) [1]))))))
def S_l_built_right_2 (ad : Nat → Addr) : WS := (mAsg 2 (vD (mIf (mT (mOp gtW (mSpec (fun C => C = ad 5) (calmM (M_Load_len ad)) lenP (mV 0)) (mC (.int 0)))) (mLk (mSp (mSpec (fun C => C = ad 5) (calmM (M_Load_str ad)) strP (mV 0)) (mC (.str "\n")))) (mLk (mLst mNil)))))
def S_l_built_right_3 (ad : Nat → Addr) : WS := (mAsg 4 (vD (mCalm (mBinX (fun C => C = ad 5) (M_Load_add ad) (mCalm (mMk (ad 5) (M_Load_init ad) (gE (mTup (mCons (mV 1) mNil)) gNo))) (mV 4)))))
def S_l_built_right_4 (ad : Nat → Addr) : WS := (mFor (bName 1) (mUn revW (mGet (fun C => C = ad 5) "rows" (mV 0)))
      (S_l_built_right_3 ad))
def S_l_built_right_5 (ad : Nat → Addr) : WS := (mAsg 3 (vD (mCalm (mBinX (fun C => C = ad 5) (M_Load_add ad) (mV 3) (mCalm (mMk (ad 5) (M_Load_init ad) (gE (mTup (mCons (mV 1) mNil)) gNo)))))))
def S_l_built_right_6 (ad : Nat → Addr) : WS := (mFor (bName 1) (mGet (fun C => C = ad 5) "rows" (mV 0))
      (S_l_built_right_5 ad))
def S_l_built_right_7 (ad : Nat → Addr) : WS := (mPar [3, 4] (vCons (vD (mCalm (mMk (ad 5) (M_Load_init ad) (gE (mTup mNil) gNo)))) (vCons (vD (mCalm (mMk (ad 5) (M_Load_init ad) (gE (mTup mNil) gNo)))) vNil)))
def B_l_built_right (ad : Nat → Addr) : WS := (mSeq (S_l_built_right_7 ad)
    (mSeq (S_l_built_right_6 ad)
    (mSeq (S_l_built_right_4 ad)
    (mSeq (S_l_built_right_2 ad)
    (S_l_built_right_1 ad)))))
def M_l_built_right (ad : Nat → Addr) : WF := mFn 1 5 (B_l_built_right ad)

def S_l_rows_1 : WS := (mRet (mCB tupW (mCons (mLk (mLc (bName 6) (mLk (mCL sortW (mCons (mV 5) mNil))) mYes (mTup (mCons (mV 6) (mCons (mOp addW (mC (.int 1)) (mCall mDrawW (gO 0 (gE (mV 3) gNo)))) mNil))) [6])) mNil)))
def S_l_rows_2 : WS := (mAsg 3 (vD (mOp ixW (mLk (mLst (mCons (mC (.int 3)) (mCons (mOp powW (mC (.int 10)) (mC (.int 9))) (mCons (mOp powW (mC (.int 10)) (mC (.int 18))) mNil))))) (mCall mDrawW (gO 0 (gE (mC (.int 3)) gNo))))))
def S_l_rows_3 : WS := (mAsg 5 (vD (mOp addW (mV 5) (mLk (mRep (mLst (mCons (mV 6) mNil)) (mCB intW (mCons (mOp ninW (mV 6) (mV 5)) mNil)))))))
def S_l_rows_4 : WS := (mAsg 6 (vD (mOp subW (mCall mDrawW (gO 0 (gE (mOp addW (mOp mulW (mC (.int 2)) (mV 4)) (mC (.int 1))) gNo))) (mV 4))))
def S_l_rows_5 : WS := (mForR (bName 2) (mCons (mCall mDrawW (gO 0 (gE (mOp addW (mV 1) (mC (.int 1))) gNo))) mNil)
      (mSeq S_l_rows_4
    S_l_rows_3))
def S_l_rows_6 : WS := (mPar [4, 5] (vCons (vD (mOp ixW (mLk (mLst (mCons (mC (.int 5)) (mCons (mC (.int 40)) (mCons (mOp powW (mC (.int 10)) (mC (.int 6))) mNil))))) (mCall mDrawW (gO 0 (gE (mC (.int 3)) gNo))))) (vCons (vD (mLk (mLst mNil))) vNil)))
def B_l_rows : WS := (mSeq S_l_rows_6
    (mSeq S_l_rows_5
    (mSeq S_l_rows_2
    S_l_rows_1)))
def M_l_rows : WF := mFn 2 7 B_l_rows

def S_l_few_1 (ad : Nat → Addr) : WS := (mRet (mCalm (mMk (ad 5) (M_Load_init ad) (gE (mCB tupW (mCons (mLk (mLc (bTup 2 (bCons (bName 2) (bCons (bName 3) bNil))) (mV 1) mYes (mTup (mCons (mV 2) (mCons (mOp addW (mC (.int 1)) (mOp modW (mV 3) (mOp powW (mC (.int 10)) (mC (.int 9))))) mNil))) [2, 3])) mNil)) gNo))))
def S_l_few_2 (ad : Nat → Addr) : WS := (mAsg 1 (vD (mCall M_l_rows (gO 0 (gE (mC (.int 16)) gNo)))))
def B_l_few (ad : Nat → Addr) : WS := (mSeq (S_l_few_2 ad)
    (S_l_few_1 ad))
def M_l_few (ad : Nat → Addr) : WF := mFn 1 4 (B_l_few ad)

def S_Load_sub_1 (ad : Nat → Addr) : WS := (mRetX (mMk (ad 5) (M_Load_init ad) (gE (mCB tupW (mCons (mLk (mLc (bTup 2 (bCons (bName 3) (bCons (bName 4) bNil))) (mV 2) (mT (mOp gtW (mV 4) (mC (.int 0)))) (mTup (mCons (mV 3) (mCons (mV 4) mNil))) [3, 4])) mNil)) gNo)))
def S_Load_sub_2 (ad : Nat → Addr) : WS := (mAsg 2 (vD (mLk (mLc (bTup 2 (bCons (bName 3) (bCons (bName 4) bNil))) (mGet (fun C => C = ad 5) "rows" (mV 0)) mYes (mTup (mCons (mV 3) (mCons (mOp subW (mV 4) (mCalm (mSubX (fun C => C = ad 5) (M_Load_getitem ad) (mV 1) (mV 3)))) mNil))) [3, 4]))))
def S_Load_sub_3 (ad : Nat → Addr) : WS := (mRaise 2 (mV 3))
def S_Load_sub_4 (ad : Nat → Addr) : WS := (mIfS (mT (mOp gtW (mV 4) (mCalm (mSubX (fun C => C = ad 5) (M_Load_getitem ad) (mV 0) (mV 3))))) (S_Load_sub_3 ad) mSkip)
def S_Load_sub_5 (ad : Nat → Addr) : WS := (mFor (bTup 2 (bCons (bName 3) (bCons (bName 4) bNil))) (mGet (fun C => C = ad 5) "rows" (mV 1))
      (S_Load_sub_4 ad))
def S_Load_sub_6 (ad : Nat → Addr) : WS := mNever
def S_Load_sub_7 (ad : Nat → Addr) : WS := (mIfS (mNotT (mT (mIsiO (fun C => C = ad 5) true (mV 1)))) (S_Load_sub_6 ad) mSkip)
def B_Load_sub (ad : Nat → Addr) : WS := (mSeq (S_Load_sub_7 ad)
    (mSeq (S_Load_sub_5 ad)
    (mSeq (S_Load_sub_2 ad)
    (S_Load_sub_1 ad))))
def M_Load_sub (ad : Nat → Addr) : WFX := mFnX 2 5 (B_Load_sub ad)

def S_l_can_take_1 (ad : Nat → Addr) : WS := (mRetX (mEqOX (fun C => C = ad 5) (calmM (M_Load_eq ad)) (mBinXR (fun C => C = ad 5) (M_Load_add ad) (mV 1) (mBinX (fun C => C = ad 5) (M_Load_sub ad) (mV 0) (mV 1))) (mV 0)))
def S_l_can_take_2 (ad : Nat → Addr) (a dd : Addr) (c : Nat) : WS := (mRet (mOp geI (mSubW (fun C => C = ad 5) (HM_Load_getitem ad) (mV 0) (mXf (xcL ad) 2 a dd "place" c)) (mSubW (fun C => C = ad 5) (HM_Load_getitem ad) (mV 1) (mXf (xcL ad) 2 a dd "place" c))))
def U_l_can_take_3 (ad : Nat → Addr) (a dd : Addr) (c : Nat) : WS := (S_l_can_take_2 ad a dd c)
def S_l_can_take_4 (ad : Nat → Addr) : WS := (mTry (xcL ad) 4 2 (fun c => [false, false, true, false].getD c false) (S_l_can_take_1 ad) (U_l_can_take_3 ad))
def B_l_can_take (ad : Nat → Addr) : WS := (S_l_can_take_4 ad)
def M_l_can_take (ad : Nat → Addr) : WFX := mFnX 2 3 (B_l_can_take ad)

def S_l_parts_right_1 (ad : Nat → Addr) : WS := (mRet (mOr (mInO (fun C => C = ad 5) (calmM (M_Load_contains ad)) true (mV 1) (mV 0)) (mOp eqW (mGet (fun C => C = ad 5) "total" (mCalm (mBinX (fun C => C = ad 5) (M_Load_sub ad) (mV 0) (mV 1)))) (mOp subW (mGet (fun C => C = ad 5) "total" (mV 0)) (mGet (fun C => C = ad 5) "total" (mV 1))))))
def S_l_parts_right_2 (ad : Nat → Addr) : WS := (mRet (mC (.bool false)))
def S_l_parts_right_3 (ad : Nat → Addr) : WS := (mIfS (mOrT (mT (mOp neW (mAnd (mInO (fun C => C = ad 5) (calmM (M_Load_contains ad)) false (mV 0) (mV 1)) (mInO (fun C => C = ad 5) (calmM (M_Load_contains ad)) false (mV 1) (mV 0))) (mEqO (fun C => C = ad 5) (calmM (M_Load_eq ad)) (mV 0) (mV 1)))) (mAndT (mT (mEqO (fun C => C = ad 5) (calmM (M_Load_eq ad)) (mV 0) (mV 1))) (mT (mOp neW (mSpec (fun C => C = ad 5) (calmM (M_Load_str ad)) strP (mV 0)) (mSpec (fun C => C = ad 5) (calmM (M_Load_str ad)) strP (mV 1)))))) (S_l_parts_right_2 ad) mSkip)
def S_l_parts_right_4 (ad : Nat → Addr) : WS := (mRet (mC (.bool false)))
def S_l_parts_right_5 (ad : Nat → Addr) : WS := (mIfS (mT (mOp neW (mCalm (mCallX (M_l_can_take ad) (gE (mV 0) (gE (mV 1) gNo)))) (mInO (fun C => C = ad 5) (calmM (M_Load_contains ad)) false (mV 1) (mV 0)))) (S_l_parts_right_4 ad) mSkip)
def B_l_parts_right (ad : Nat → Addr) : WS := (mSeq (S_l_parts_right_5 ad)
    (mSeq (S_l_parts_right_3 ad)
    (S_l_parts_right_1 ad)))
def M_l_parts_right (ad : Nat → Addr) : WF := mFn 2 2 (B_l_parts_right ad)

def S_l_sums_right_1 (ad : Nat → Addr) : WS := (mRet (mAnd (mInO (fun C => C = ad 5) (calmM (M_Load_contains ad)) false (mV 0) (mV 3)) (mAnd (mInO (fun C => C = ad 5) (calmM (M_Load_contains ad)) false (mV 1) (mV 3)) (mAnd (mInO (fun C => C = ad 5) (calmM (M_Load_contains ad)) false (mCalm (mMk (ad 5) (M_Load_init ad) (gE (mTup mNil) gNo))) (mV 0)) (mOp eqW (mInO (fun C => C = ad 5) (calmM (M_Load_contains ad)) false (mV 3) (mV 0)) (mOp eqW (mSpec (fun C => C = ad 5) (calmM (M_Load_len ad)) lenP (mV 1)) (mC (.int 0))))))))
def S_l_sums_right_2 (ad : Nat → Addr) : WS := (mRet (mC (.bool false)))
def S_l_sums_right_3 (ad : Nat → Addr) : WS := (mIfS (mT (mOp neW (mCalm (mSubX (fun C => C = ad 5) (M_Load_getitem ad) (mV 3) (mV 4))) (mOp addW (mCalm (mSubX (fun C => C = ad 5) (M_Load_getitem ad) (mV 0) (mV 4))) (mCalm (mSubX (fun C => C = ad 5) (M_Load_getitem ad) (mV 1) (mV 4)))))) (S_l_sums_right_2 ad) mSkip)
def S_l_sums_right_4 (ad : Nat → Addr) : WS := (mFor (bName 4) (mOp addW (mLk (mLc (bTup 2 (bCons (bName 4) (bCons (bName 5) bNil))) (mGet (fun C => C = ad 5) "rows" (mV 3)) mYes (mV 4) [4, 5])) (mLk (mLst (mCons (mC (.int 0)) (mCons (mOp powW (mC (.int 10)) (mC (.int 6))) (mCons (mUn negW (mOp powW (mC (.int 10)) (mC (.int 6)))) mNil))))))
      (S_l_sums_right_3 ad))
def S_l_sums_right_5 (ad : Nat → Addr) : WS := (mRet (mC (.bool false)))
def S_l_sums_right_6 (ad : Nat → Addr) : WS := (mIfS (mOrT (mT (mOp neW (mGet (fun C => C = ad 5) "total" (mV 3)) (mOp addW (mGet (fun C => C = ad 5) "total" (mV 0)) (mGet (fun C => C = ad 5) "total" (mV 1))))) (mOrT (mT (mOp gtW (mSpec (fun C => C = ad 5) (calmM (M_Load_len ad)) lenP (mV 3)) (mOp addW (mSpec (fun C => C = ad 5) (calmM (M_Load_len ad)) lenP (mV 0)) (mSpec (fun C => C = ad 5) (calmM (M_Load_len ad)) lenP (mV 1))))) (mT (mNeO (fun C => C = ad 5) (calmM (M_Load_eq ad)) (mCalm (mBinX (fun C => C = ad 5) (M_Load_sub ad) (mV 0) (mV 0))) (mCalm (mMk (ad 5) (M_Load_init ad) (gE (mTup mNil) gNo))))))) (S_l_sums_right_5 ad) mSkip)
def S_l_sums_right_7 (ad : Nat → Addr) : WS := (mRet (mC (.bool false)))
def S_l_sums_right_8 (ad : Nat → Addr) : WS := (mIfS (mOrT (mT (mNeO (fun C => C = ad 5) (calmM (M_Load_eq ad)) (mV 3) (mCalm (mBinX (fun C => C = ad 5) (M_Load_add ad) (mV 1) (mV 0))))) (mOrT (mT (mNeO (fun C => C = ad 5) (calmM (M_Load_eq ad)) (mCalm (mBinX (fun C => C = ad 5) (M_Load_add ad) (mV 3) (mV 2))) (mCalm (mBinX (fun C => C = ad 5) (M_Load_add ad) (mV 0) (mCalm (mBinX (fun C => C = ad 5) (M_Load_add ad) (mV 1) (mV 2))))))) (mOrT (mT (mNeO (fun C => C = ad 5) (calmM (M_Load_eq ad)) (mCalm (mBinX (fun C => C = ad 5) (M_Load_sub ad) (mV 3) (mV 1))) (mV 0))) (mT (mNeO (fun C => C = ad 5) (calmM (M_Load_eq ad)) (mCalm (mBinX (fun C => C = ad 5) (M_Load_sub ad) (mV 3) (mV 0))) (mV 1)))))) (S_l_sums_right_7 ad) mSkip)
def S_l_sums_right_9 (ad : Nat → Addr) : WS := (mAsg 3 (vD (mCalm (mBinX (fun C => C = ad 5) (M_Load_add ad) (mV 0) (mV 1)))))
def B_l_sums_right (ad : Nat → Addr) : WS := (mSeq (S_l_sums_right_9 ad)
    (mSeq (S_l_sums_right_8 ad)
    (mSeq (S_l_sums_right_6 ad)
    (mSeq (S_l_sums_right_4 ad)
    (S_l_sums_right_1 ad)))))
def M_l_sums_right (ad : Nat → Addr) : WF := mFn 3 6 (B_l_sums_right ad)

def S_law_1 (ad : Nat → Addr) : WS := (mRet (mC (.bool true)))
def S_law_2 (ad : Nat → Addr) : WS := (mRet (mC (.bool false)))
def S_law_3 (ad : Nat → Addr) : WS := (mIfS (mT (mOp neW (mLk (mLc (bName 9) (mV 6) mYes (mGet (fun C => C = ad 5) "rows" (mV 9)) [9])) (mV 7))) (S_law_2 ad) mSkip)
def S_law_4 (ad : Nat → Addr) : WS := (mRet (mC (.bool false)))
def S_law_5 (ad : Nat → Addr) : WS := (mIfS (mOrT (mNotT (mT (mCall (M_l_built_right ad) (gE (mOp ixW (mV 3) (mC (.int 0))) gNo)))) (mOrT (mT (mInO (fun C => C = ad 5) (calmM (M_Load_contains ad)) true (mV 4) (mOp ixW (mV 3) (mC (.int 0))))) (mT (mInO (fun C => C = ad 5) (calmM (M_Load_contains ad)) true (mV 5) (mV 4))))) (S_law_4 ad) mSkip)
def S_law_6 (ad : Nat → Addr) : WS := (mRet (mC (.bool false)))
def S_law_7 (ad : Nat → Addr) : WS := (mIfS (mOrT (mNotT (mT (mCall (M_l_sums_right ad) (gE (mV 10) (gE (mV 11) (gE (mV 12) gNo)))))) (mNotT (mT (mCall (M_l_parts_right ad) (gE (mV 10) (gE (mV 11) gNo)))))) (S_law_6 ad) mSkip)
def S_law_8 (ad : Nat → Addr) : WS := (mUnp (bUnl 3 (bCons (bName 10) (bCons (bName 11) (bCons (bName 12) bNil)))) (mLk (mLcR (bName 13) (mCons (mC (.int 3)) mNil) mYes (mOp ixW (mV 6) (mCall mDrawW (gO 1 (gE (mC (.int 6)) gNo)))) [13])))
def S_law_9 (ad : Nat → Addr) : WS := (mForR (bName 8) (mCons (mC (.int 10)) mNil)
      (mSeq (S_law_8 ad)
    (S_law_7 ad)))
def S_law_10 (ad : Nat → Addr) : WS := (mAsg 7 (vD (mLk (mLc (bName 9) (mV 6) mYes (mGet (fun C => C = ad 5) "rows" (mV 9)) [9]))))
def S_law_11 (ad : Nat → Addr) : WS := (mAsg 6 (vD (mOp addW (mV 3) (mLk (mLst (mCons (mV 4) (mCons (mV 5) (mCons (mCalm (mMk (ad 5) (M_Load_init ad) (gE (mGet (fun C => C = ad 5) "rows" (mOp ixW (mV 3) (mC (.int 0)))) gNo))) mNil))))))))
def S_law_12 (ad : Nat → Addr) : WS := (mAsg 5 (vD (mCalm (mMk (ad 5) (M_Load_init ad) (gE (mCB tupW (mCons (mLk (mLc (bTup 2 (bCons (bName 15) (bCons (bName 16) bNil))) (mGet (fun C => C = ad 5) "rows" (mV 4)) mYes (mTup (mCons (mV 15) (mCons (mOp addW (mC (.int 1)) (mCall mDrawW (gO 1 (gE (mV 16) gNo)))) mNil))) [15, 16])) mNil)) gNo)))))
def S_law_13 (ad : Nat → Addr) : WS := (mAsg 4 (vD (mCalm (mMk (ad 5) (M_Load_init ad) (gE (mCB tupW (mCons (mLk (mLc (bName 14) (mGet (fun C => C = ad 5) "rows" (mOp ixW (mV 3) (mC (.int 0)))) (mT (mOp gtW (mCall mDrawW (gO 1 (gE (mC (.int 3)) gNo))) (mC (.int 0)))) (mV 14) [14])) mNil)) gNo)))))
def S_law_14 (ad : Nat → Addr) : WS := (mAsg 3 (vD (mLk (mLcR (bName 8) (mCons (mC (.int 3)) mNil) mYes (mCall (M_l_few ad) (gO 1 gNo)) [8]))))
def S_law_15 (ad : Nat → Addr) : WS := (mForR (bName 2) (mCons (mC (.int 6)) mNil)
      (mSeq (S_law_14 ad)
    (mSeq (S_law_13 ad)
    (mSeq (S_law_12 ad)
    (mSeq (S_law_11 ad)
    (mSeq (S_law_10 ad)
    (mSeq (S_law_9 ad)
    (mSeq (S_law_5 ad)
    (S_law_3 ad)))))))))
def B_law (ad : Nat → Addr) : WS := (mSeq (S_law_15 ad)
    (S_law_1 ad))
def M_law (ad : Nat → Addr) : WF := mFn 1 17 (B_law ad)

structure Lc (P : Program) (w : World) (K : PySem.W.Frag) (mg : Str → Option Value) (base : Heap) (ad : Nat → Addr) : Prop where
  ga_Load_rows : ∀ C, (fun C => C = ad 5) C → Cls K C ∧ NoAttr K C "rows"
  ct_Load_Load_contains : ∀ C, (fun C => C = ad 5) C → Cn.InOC K C (ad 8)
  mk_Load : Mk K (ad 5) (ad 11)
  g_Load : mg "Load" = some (.ref (ad 5))
  su_Load_Load_getitem : ∀ C, (fun C => C = ad 5) C → Cn.SubC K C (ad 10)
  io_Load_Load : ∀ C, (fun C => C = ad 5) C → InC K C ∧ PySem.W.kitOne K (.ref C) (.ref (ad 5)) = some true
  e_NoPlace : ErrB P w K mg base "NoPlace" (ad 1) "value"
  ga_Load_total : ∀ C, (fun C => C = ad 5) C → Cls K C ∧ NoAttr K C "total"
  e_BadLoad : ErrE P w K mg base "BadLoad" (ad 0) "value"
  sp_Load_Load_str : ∀ C, (fun C => C = ad 5) C → PySem.W.findIn K (.ref C) "__str__" = some (some (.ref (ad 14))) ∧ PySem.W.isFn K (.ref (ad 14)) = true
  eq_Load_Load_eq : ∀ C D, (fun C => C = ad 5) C → (fun C => C = ad 5) D → Cn.EqC K C D (ad 9)
  sp_Load_Load_len : ∀ C, (fun C => C = ad 5) C → PySem.W.findIn K (.ref C) "__len__" = some (some (.ref (ad 13))) ∧ PySem.W.isFn K (.ref (ad 13)) = true
  bi_Load_Load_add : ∀ C, (fun C => C = ad 5) C → Cn.BinC K C (ad 7) (PySem.dunder (Operator.info .Add).2)
  z_TooMuch : ErrZ K mg "TooMuch" (ad 3)
  bi_Load_Load_sub : ∀ C, (fun C => C = ad 5) C → Cn.BinC K C (ad 15) (PySem.dunder (Operator.info .Sub).2)
  e_Missing : ErrE P w K mg base "Missing" (ad 2) "place"
  ex_Missing : ∀ c, c < 4 → PySem.W.exmOne K (.ref (ad c)) (.ref (ad 2)) = some ([false, false, true, false].getD c false)
  hw_Load_getitem : ∃ fd, Cn.FnW P w K mg base 4 (ad 10) fd ["self", "at"] (spOf (HM_Load_getitem ad)) ∧ Binds K fd ["self", "at"] []
  X : ∀ c, c < 4 → XfC K (ad c)
  nf_place : ∀ c, c < 4 → PySem.W.findIn K (.ref (ad c)) "place" = some none
  g_Missing : mg "Missing" = some (.ref (ad 2))
  ne_Load_Load_eq : ∀ C D, (fun C => C = ad 5) C → (fun C => C = ad 5) D → Cn.NeC K C D (ad 9)


section
variable {P : Program} {w : World} {K : PySem.W.Frag} {mg : Str → Option Value} {base : Heap}

theorem ok_is_number {f : Addr} {fd : FuncData} (sm : ∃ o, base.get? sysModules = some o) (F : Fun K "is_number" "is_number" s_is_number f fd) (m_bool : mg "bool" = none) (m_int : mg "int" = none) (m_isinstance : mg "isinstance" = none) : Cn.FnG P w K mg base 1 f fd ["value"] (spOf M_is_number) :=
  fn_of F sc_is_number (by decide) fun cdv A outer s H E gd hr =>
    (pm_one1 (pm_ret (pm_and (pm_isi kit_int (by rfl) m_isinstance (pm_var (pv 0)) (pe_bltn (v := .ty "int") (by rfl) m_int (by decide +kernel) rfl)) (pm_one (pm_not (pm_isi kit_bool (by rfl) m_isinstance (pm_var (pv 0)) (pe_bltn (v := .ty "bool") (by rfl) m_bool (by decide +kernel) rfl)))))))

theorem ok_is_number_within {f : Addr} {fd : FuncData} (sm : ∃ o, base.get? sysModules = some o) (F : Fun K "is_number_within" "is_number_within" s_is_number_within f fd) {f_is_number : Addr} {fd_is_number : FuncData} (G_is_number : Cn.FnG P w K mg base 1 f_is_number fd_is_number ["value"] (spOf M_is_number)) (g_is_number : mg "is_number" = some (.ref f_is_number)) (F_is_number : Fun K "is_number" "is_number" s_is_number f_is_number fd_is_number) (b_is_number : Binds K fd_is_number ["value"] []) : Cn.FnG P w K mg base 2 f fd ["value", "low", "high"] (spOf M_is_number_within) :=
  fn_of F sc_is_number_within (by decide) fun cdv A outer s H E gd hr =>
    (pm_one1 (pm_ret (pm_and (pm_call G_is_number gd (hr.mono (by first | decide | omega)) (by rfl) g_is_number F_is_number.kp b_is_number (pm_ge (pm_var (pv 0)) pm_gno)) (pm_one (pm_chain (op_leW ⟨gd, hr.units, rfl, sm⟩) (op_leW ⟨gd, hr.units, rfl, sm⟩) ((pm_var (pv 1))).q ((pm_var (pv 0))).q ((pm_var (pv 2))).q)))))

theorem ok_is_place {f : Addr} {fd : FuncData} (sm : ∃ o, base.get? sysModules = some o) (F : Fun K "is_place" "is_place" s_is_place f fd) {t_MAX_PLACE : Tok} (k_MAX_PLACE : mg "MAX_PLACE" = some (.int 1000000 t_MAX_PLACE)) {f_is_number_within : Addr} {fd_is_number_within : FuncData} (G_is_number_within : Cn.FnG P w K mg base 2 f_is_number_within fd_is_number_within ["value", "low", "high"] (spOf M_is_number_within)) (g_is_number_within : mg "is_number_within" = some (.ref f_is_number_within)) (F_is_number_within : Fun K "is_number_within" "is_number_within" s_is_number_within f_is_number_within fd_is_number_within) (b_is_number_within : Binds K fd_is_number_within ["value", "low", "high"] []) : Cn.FnG P w K mg base 3 f fd ["value"] (spOf M_is_place) :=
  fn_of F sc_is_place (by decide) fun cdv A outer s H E gd hr =>
    (pm_one1 (pm_ret (pm_call G_is_number_within gd (hr.mono (by first | decide | omega)) (by rfl) g_is_number_within F_is_number_within.kp b_is_number_within (pm_ge (pm_var (pv 0)) (pm_ge (pm_neg (pm_gi (by rfl) k_MAX_PLACE)) (pm_ge (pm_gi (by rfl) k_MAX_PLACE) pm_gno))))))

theorem ok_Load_getitem {ad : Nat → Addr} {f : Addr} {fd : FuncData} (sm : ∃ o, base.get? sysModules = some o) (F : Fun K "__getitem__" "Load.__getitem__" s_Load_getitem f fd) (L : Lc P w K mg base ad) (m_sum : mg "sum" = none) {f_is_place : Addr} {fd_is_place : FuncData} (G_is_place : Cn.FnG P w K mg base 3 f_is_place fd_is_place ["value"] (spOf M_is_place)) (g_is_place : mg "is_place" = some (.ref f_is_place)) (F_is_place : Fun K "is_place" "is_place" s_is_place f_is_place fd_is_place) (b_is_place : Binds K fd_is_place ["value"] []) : Cn.FnX P w K mg base 4 f fd ["self", "at"] (spOfX (xcL ad) (M_Load_getitem ad)) :=
  fn_ofX F sc_Load_getitem (by decide) fun cdv A outer s H E gd hr =>
    (pm_seq (pm_if (pm_tnot (pm_tval (pm_call G_is_place gd (hr.mono (by first | decide | omega)) (by rfl) g_is_place F_is_place.kp b_is_place (pm_ge (pm_var (pv 1)) pm_gno)))) (pm_one1 (pm_raise (c := 1) rfl (takes_of rfl rfl rfl rfl) (pmk_EB L.e_NoPlace (hr.mono (by first | decide | omega)) (by rfl) (pm_var (pv 1))) (show ("value" : Str) ≠ "" by decide))) pm_skip)
    (pm_one1 (pm_ret (pm_callB (cr_sumW ⟨gd, hr.units, rfl, sm⟩) (by rfl) m_sum (by decide +kernel) (pm_qcons (((pe_lc (own := [("place", 2), ("litres", 3)]) (g := (gTup K 2 (gCons (gName 2) (gCons (gName 3) gNil)))) rfl sc_Load_getitem.nd (pi_sq (K := K) rfl ((pm_get (isC := (fun C => C = ad 5)) (pm_var (pv 0)) L.ga_Load_rows)).q) (blkOk_by (N := N_Load_getitem) (sc := defScope s_Load_getitem) (by decide +kernel)) (fun _ _ _ _ _ => (pg_tup rfl (pgs_cons (pg_name (i := 2) sc_Load_getitem.nd rfl (.inl rfl)) (pgs_cons (pg_name (i := 3) sc_Load_getitem.nd rfl (.inl rfl)) pgs_nil)))) (fun _ _ _ _ _ => (pts_one (pm_tcmp (op_eqW ⟨gd, hr.units, rfl, sm⟩) ((pm_var (pv 2))).q ((pm_var (pv 1))).q (by rfl)))) (fun _ _ _ _ _ => (pm_var (pv 3)))).weak fun _ _ _ h => lc_of (gb_tup (gb_cons gb_name (gb_cons gb_name gb_nil))) (by decide) h)).lq pm_qnil)))))

theorem ok_Load_contains {ad : Nat → Addr} {f : Addr} {fd : FuncData} (sm : ∃ o, base.get? sysModules = some o) (F : Fun K "__contains__" "Load.__contains__" s_Load_contains f fd) (L : Lc P w K mg base ad) (m_all : mg "all" = none) (m_isinstance : mg "isinstance" = none) {fd_Load_getitem : FuncData} (G_Load_getitem : Cn.FnX P w K mg base 4 (ad 10) fd_Load_getitem ["self", "at"] (spOfX (xcL ad) (M_Load_getitem ad))) (b_Load_getitem : Binds K fd_Load_getitem ["self", "at"] []) : Cn.FnX P w K mg base 6 f fd ["self", "x"] (spOfX (xcL ad) (M_Load_contains ad)) :=
  fn_ofX F sc_Load_contains (by decide) fun cdv A outer s H E gd hr =>
    (pm_one1 (pm_ret (pm_and (pm_isiO (isC := (fun C => C = ad 5)) L.io_Load_Load (by rfl) m_isinstance (pm_var (pv 1)) (pe_glob (v := .ref (ad 5)) (by rfl) L.g_Load rfl)) (pm_one (pm_callB (cr_allW ⟨gd, hr.units, rfl, sm⟩) (by rfl) m_all (by decide +kernel) (pm_qcons (((pe_lc (own := [("place", 2), ("litres", 3)]) (g := (gTup K 2 (gCons (gName 2) (gCons (gName 3) gNil)))) rfl sc_Load_contains.nd (pi_sq (K := K) rfl ((pm_get (isC := (fun C => C = ad 5)) (pm_var (pv 1)) L.ga_Load_rows)).q) (blkOk_by (N := N_Load_contains) (sc := defScope s_Load_contains) (by decide +kernel)) (fun _ _ _ _ _ => (pg_tup rfl (pgs_cons (pg_name (i := 2) sc_Load_contains.nd rfl (.inl rfl)) (pgs_cons (pg_name (i := 3) sc_Load_contains.nd rfl (.inl rfl)) pgs_nil)))) (fun _ _ _ _ _ => pm_yes) (fun _ _ _ _ _ => (pm_cmp (op_leW ⟨gd, hr.units, rfl, sm⟩) ((pm_var (pv 3))).q ((pm_calm (xc := (xcL ad)) (pm_subX (xc := (xcL ad)) (isC := (fun C => C = ad 5)) L.su_Load_Load_getitem G_Load_getitem gd (hr.mono (by first | decide | omega)) b_Load_getitem takes_never (pm_var (pv 0)) (pm_var (pv 2))))).q (by rfl)))).weak fun _ _ _ h => lc_of (gb_tup (gb_cons gb_name (gb_cons gb_name gb_nil))) (by decide) h)).lq pm_qnil))))))

theorem ok_ascends {f : Addr} {fd : FuncData} (sm : ∃ o, base.get? sysModules = some o) (F : Fun K "ascends" "ascends" s_ascends f fd) (m_all : mg "all" = none) (m_zip : mg "zip" = none) : Cn.FnG P w K mg base 1 f fd ["items"] (spOf M_ascends) :=
  fn_of F sc_ascends (by decide) fun cdv A outer s H E gd hr =>
    (pm_one1 (pm_ret (pm_callB (cr_allW ⟨gd, hr.units, rfl, sm⟩) (by rfl) m_all (by decide +kernel) (pm_qcons (((pe_lc (own := [("low", 1), ("high", 2)]) (g := (gTup K 2 (gCons (gName 1) (gCons (gName 2) gNil)))) rfl sc_ascends.nd (pi_zip (by rfl) m_zip (pm_qcons ((pm_var (pv 0))).q (pm_qcons ((pm_sl ((pm_var (pv 0))).q (pm_pt pm_int) pm_pno)).q pm_qnil))) (blkOk_by (N := N_ascends) (sc := defScope s_ascends) (by decide +kernel)) (fun _ _ _ _ _ => (pg_tup rfl (pgs_cons (pg_name (i := 1) sc_ascends.nd rfl (.inl rfl)) (pgs_cons (pg_name (i := 2) sc_ascends.nd rfl (.inl rfl)) pgs_nil)))) (fun _ _ _ _ _ => pm_yes) (fun _ _ _ _ _ => (pm_cmp (op_ltW ⟨gd, hr.units, rfl, sm⟩) ((pm_var (pv 1))).q ((pm_var (pv 2))).q (by rfl)))).weak fun _ _ _ h => lcZ_of (gt_tup (gb_cons gb_name (gb_cons gb_name gb_nil))) (by decide) h)).lq pm_qnil))))

theorem ok_is_tuple_of {f : Addr} {fd : FuncData} (sm : ∃ o, base.get? sysModules = some o) (F : Fun K "is_tuple_of" "is_tuple_of" s_is_tuple_of f fd) (m_isinstance : mg "isinstance" = none) (m_len : mg "len" = none) (m_tuple : mg "tuple" = none) : Cn.FnG P w K mg base 1 f fd ["value", "many"] (spOf M_is_tuple_of) :=
  fn_of F sc_is_tuple_of (by decide) fun cdv A outer s H E gd hr =>
    (pm_one1 (pm_ret (pm_and (pm_isi kit_tuple (by rfl) m_isinstance (pm_var (pv 0)) (pe_bltn (v := .ty "tuple") (by rfl) m_tuple (by decide +kernel) rfl)) (pm_one (pm_cmp (op_eqW ⟨gd, hr.units, rfl, sm⟩) ((pm_callB cr_lenW (by rfl) m_len (by decide +kernel) (pm_qcons ((pm_var (pv 0))).q pm_qnil))).q ((pm_var (pv 1))).q (by rfl))))))

theorem ok_is_load_row {f : Addr} {fd : FuncData} (sm : ∃ o, base.get? sysModules = some o) (F : Fun K "is_load_row" "is_load_row" s_is_load_row f fd) {t_LIMIT : Tok} (k_LIMIT : mg "LIMIT" = some (.int 1000000000000000000 t_LIMIT)) {f_is_number_within : Addr} {fd_is_number_within : FuncData} (G_is_number_within : Cn.FnG P w K mg base 2 f_is_number_within fd_is_number_within ["value", "low", "high"] (spOf M_is_number_within)) (g_is_number_within : mg "is_number_within" = some (.ref f_is_number_within)) (F_is_number_within : Fun K "is_number_within" "is_number_within" s_is_number_within f_is_number_within fd_is_number_within) (b_is_number_within : Binds K fd_is_number_within ["value", "low", "high"] []) {f_is_place : Addr} {fd_is_place : FuncData} (G_is_place : Cn.FnG P w K mg base 3 f_is_place fd_is_place ["value"] (spOf M_is_place)) (g_is_place : mg "is_place" = some (.ref f_is_place)) (F_is_place : Fun K "is_place" "is_place" s_is_place f_is_place fd_is_place) (b_is_place : Binds K fd_is_place ["value"] []) {f_is_tuple_of : Addr} {fd_is_tuple_of : FuncData} (G_is_tuple_of : Cn.FnG P w K mg base 1 f_is_tuple_of fd_is_tuple_of ["value", "many"] (spOf M_is_tuple_of)) (g_is_tuple_of : mg "is_tuple_of" = some (.ref f_is_tuple_of)) (F_is_tuple_of : Fun K "is_tuple_of" "is_tuple_of" s_is_tuple_of f_is_tuple_of fd_is_tuple_of) (b_is_tuple_of : Binds K fd_is_tuple_of ["value", "many"] []) : Cn.FnG P w K mg base 4 f fd ["value"] (spOf M_is_load_row) :=
  fn_of F sc_is_load_row (by decide) fun cdv A outer s H E gd hr =>
    (pm_one1 (pm_ret (pm_and (pm_call G_is_tuple_of gd (hr.mono (by first | decide | omega)) (by rfl) g_is_tuple_of F_is_tuple_of.kp b_is_tuple_of (pm_ge (pm_var (pv 0)) (pm_ge pm_int pm_gno))) (pm_and (pm_call G_is_place gd (hr.mono (by first | decide | omega)) (by rfl) g_is_place F_is_place.kp b_is_place (pm_ge (pm_ix (ixr_W (K := K) rfl) ((pm_var (pv 0))).q (pm_int).q (fun _ _ => rfl)) pm_gno)) (pm_one (pm_call G_is_number_within gd (hr.mono (by first | decide | omega)) (by rfl) g_is_number_within F_is_number_within.kp b_is_number_within (pm_ge (pm_ix (ixr_W (K := K) rfl) ((pm_var (pv 0))).q (pm_int).q (fun _ _ => rfl)) (pm_ge pm_int (pm_ge (pm_gi (by rfl) k_LIMIT) pm_gno)))))))))

theorem ok_are_rows {f : Addr} {fd : FuncData} (sm : ∃ o, base.get? sysModules = some o) (F : Fun K "are_rows" "are_rows" s_are_rows f fd) {t_MAX_ROWS : Tok} (k_MAX_ROWS : mg "MAX_ROWS" = some (.int 50 t_MAX_ROWS)) (m_all : mg "all" = none) (m_isinstance : mg "isinstance" = none) (m_len : mg "len" = none) (m_tuple : mg "tuple" = none) {f_ascends : Addr} {fd_ascends : FuncData} (G_ascends : Cn.FnG P w K mg base 1 f_ascends fd_ascends ["items"] (spOf M_ascends)) (g_ascends : mg "ascends" = some (.ref f_ascends)) (F_ascends : Fun K "ascends" "ascends" s_ascends f_ascends fd_ascends) (b_ascends : Binds K fd_ascends ["items"] []) {f_is_load_row : Addr} {fd_is_load_row : FuncData} (G_is_load_row : Cn.FnG P w K mg base 4 f_is_load_row fd_is_load_row ["value"] (spOf M_is_load_row)) (g_is_load_row : mg "is_load_row" = some (.ref f_is_load_row)) (F_is_load_row : Fun K "is_load_row" "is_load_row" s_is_load_row f_is_load_row fd_is_load_row) (b_is_load_row : Binds K fd_is_load_row ["value"] []) : Cn.FnG P w K mg base 5 f fd ["value"] (spOf M_are_rows) :=
  fn_of F sc_are_rows (by decide) fun cdv A outer s H E gd hr =>
    (pm_seq (pm_if (PW.pt (pm_wor (pm_tnot (pm_tval (pm_isi kit_tuple (by rfl) m_isinstance (pm_var (pv 0)) (pe_bltn (v := .ty "tuple") (by rfl) m_tuple (by decide +kernel) rfl)))) (pm_wor1 (pm_tcmp (op_gtW ⟨gd, hr.units, rfl, sm⟩) ((pm_callB cr_lenW (by rfl) m_len (by decide +kernel) (pm_qcons ((pm_var (pv 0))).q pm_qnil))).q ((pm_gi (by rfl) k_MAX_ROWS)).q (by rfl))))) (pm_one1 (pm_ret pm_bl)) pm_skip)
    (pm_seq (pm_if (pm_tnot (pm_tval (pm_callB (cr_allW ⟨gd, hr.units, rfl, sm⟩) (by rfl) m_all (by decide +kernel) (pm_qcons (((pe_lc (own := [("row", 1)]) (g := (gName 1)) rfl sc_are_rows.nd (pi_sq (K := K) rfl ((pm_var (pv 0))).q) (blkOk_by (N := N_are_rows) (sc := defScope s_are_rows) (by decide +kernel)) (fun _ _ _ _ _ => (pg_name (i := 1) sc_are_rows.nd rfl (.inl rfl))) (fun _ _ _ _ _ => pm_yes) (fun _ _ _ _ _ => (pm_call G_is_load_row gd (hr.mono (by first | decide | omega)) (by rfl) g_is_load_row F_is_load_row.kp b_is_load_row (pm_ge (pm_var (pv 1)) pm_gno)))).weak fun _ _ _ h => lc_of gb_name (by decide) h)).lq pm_qnil)))) (pm_one1 (pm_ret pm_bl)) pm_skip)
    (pm_one1 (pm_ret (pm_call G_ascends gd (hr.mono (by first | decide | omega)) (by rfl) g_ascends F_ascends.kp b_ascends (pm_ge (((pe_lc (own := [("place", 2), ("litres", 3)]) (g := (gTup K 2 (gCons (gName 2) (gCons (gName 3) gNil)))) rfl sc_are_rows.nd (pi_sq (K := K) rfl ((pm_var (pv 0))).q) (blkOk_by (N := N_are_rows) (sc := defScope s_are_rows) (by decide +kernel)) (fun _ _ _ _ _ => (pg_tup rfl (pgs_cons (pg_name (i := 2) sc_are_rows.nd rfl (.inl rfl)) (pgs_cons (pg_name (i := 3) sc_are_rows.nd rfl (.inl rfl)) pgs_nil)))) (fun _ _ _ _ _ => pm_yes) (fun _ _ _ _ _ => (pm_var (pv 2)))).weak fun _ _ _ h => lc_of (gb_tup (gb_cons gb_name (gb_cons gb_name gb_nil))) (by decide) h)).lk pm_gno))))))

theorem ok_Load_init {ad : Nat → Addr} {f : Addr} {fd : FuncData} (sm : ∃ o, base.get? sysModules = some o) (F : Fun K "__init__" "Load.__init__" s_Load_init f fd) (L : Lc P w K mg base ad) (m_sum : mg "sum" = none) {f_are_rows : Addr} {fd_are_rows : FuncData} (G_are_rows : Cn.FnG P w K mg base 5 f_are_rows fd_are_rows ["value"] (spOf M_are_rows)) (g_are_rows : mg "are_rows" = some (.ref f_are_rows)) (F_are_rows : Fun K "are_rows" "are_rows" s_are_rows f_are_rows fd_are_rows) (b_are_rows : Binds K fd_are_rows ["value"] []) : Cn.FnX P w K mg base 6 f fd ["self", "rows"] (spOfX (xcL ad) (M_Load_init ad)) :=
  fn_ofX F sc_Load_init (by decide) fun cdv A outer s H E gd hr =>
    (pm_seq (pm_if (pm_tnot (pm_tval (pm_call G_are_rows gd (hr.mono (by first | decide | omega)) (by rfl) g_are_rows F_are_rows.kp b_are_rows (pm_ge (pm_var (pv 1)) pm_gno)))) (pm_one1 (pm_raise (c := 0) rfl (takes_of rfl rfl rfl rfl) (pmk_E L.e_BadLoad (hr.mono (by first | decide | omega)) (by rfl) (pm_var (pv 1))) (show ("value" : Str) ≠ "" by decide))) pm_skip)
    (pm_seq (pm_set (isC := (fun C => C = ad 5)) (pm_var (pv 0)) (pm_var (pv 1)) L.ga_Load_rows)
    (pm_one1 (pm_set (isC := (fun C => C = ad 5)) (pm_var (pv 0)) (pm_callB (cr_sumW ⟨gd, hr.units, rfl, sm⟩) (by rfl) m_sum (by decide +kernel) (pm_qcons (((pe_lc (own := [("place", 2), ("litres", 3)]) (g := (gTup K 2 (gCons (gName 2) (gCons (gName 3) gNil)))) rfl sc_Load_init.nd (pi_sq (K := K) rfl ((pm_var (pv 1))).q) (blkOk_by (N := N_Load_init) (sc := defScope s_Load_init) (by decide +kernel)) (fun _ _ _ _ _ => (pg_tup rfl (pgs_cons (pg_name (i := 2) sc_Load_init.nd rfl (.inl rfl)) (pgs_cons (pg_name (i := 3) sc_Load_init.nd rfl (.inl rfl)) pgs_nil)))) (fun _ _ _ _ _ => pm_yes) (fun _ _ _ _ _ => (pm_var (pv 3)))).weak fun _ _ _ h => lc_of (gb_tup (gb_cons gb_name (gb_cons gb_name gb_nil))) (by decide) h)).lq pm_qnil)) L.ga_Load_total))))

theorem ok_Load_add {ad : Nat → Addr} {f : Addr} {fd : FuncData} (sm : ∃ o, base.get? sysModules = some o) (F : Fun K "__add__" "Load.__add__" s_Load_add f fd) (L : Lc P w K mg base ad) {t_LIMIT : Tok} (k_LIMIT : mg "LIMIT" = some (.int 1000000000000000000 t_LIMIT)) {t_MAX_ROWS : Tok} (k_MAX_ROWS : mg "MAX_ROWS" = some (.int 50 t_MAX_ROWS)) (m_any : mg "any" = none) (m_isinstance : mg "isinstance" = none) (m_len : mg "len" = none) (m_set : mg "set" = none) (m_sorted : mg "sorted" = none) (m_tuple : mg "tuple" = none) {fd_Load_getitem : FuncData} (G_Load_getitem : Cn.FnX P w K mg base 4 (ad 10) fd_Load_getitem ["self", "at"] (spOfX (xcL ad) (M_Load_getitem ad))) (b_Load_getitem : Binds K fd_Load_getitem ["self", "at"] []) {fd_Load_init : FuncData} (G_Load_init : Cn.FnX P w K mg base 6 (ad 11) fd_Load_init ["self", "rows"] (spOfX (xcL ad) (M_Load_init ad))) (b_Load_init : Binds K fd_Load_init ["self", "rows"] []) : Cn.FnX P w K mg base 8 f fd ["self", "other"] (spOfX (xcL ad) (M_Load_add ad)) :=
  fn_ofX F sc_Load_add (by decide) fun cdv A outer s H E gd hr =>
    (pm_seq (pm_if (pm_tnot (pm_tval (pm_isiO (isC := (fun C => C = ad 5)) L.io_Load_Load (by rfl) m_isinstance (pm_var (pv 1)) (pe_glob (v := .ref (ad 5)) (by rfl) L.g_Load rfl)))) (pm_one1 pm_never) pm_skip)
    (pm_seq (pm_asg (i := 2) sc_Load_add.nd rfl (.inl rfl) (((pm_ssB (pe_callB (cr_sortedSetB rfl) (by rfl) m_sorted (by decide +kernel) (pa_cons (pe_callTy (Cn.cr_setK (K := K) rfl rfl) (by rfl) m_set (by decide +kernel) (pa_cons (((pe_lc (own := [("place", 4), ("litres", 5)]) (g := (gTup K 2 (gCons (gName 4) (gCons (gName 5) gNil)))) rfl sc_Load_add.nd (pi_sq (K := K) rfl ((pm_op op_addW ((pm_get (isC := (fun C => C = ad 5)) (pm_var (pv 0)) L.ga_Load_rows)).q ((pm_get (isC := (fun C => C = ad 5)) (pm_var (pv 1)) L.ga_Load_rows)).q)).q) (blkOk_by (N := N_Load_add) (sc := defScope s_Load_add) (by decide +kernel)) (fun _ _ _ _ _ => (pg_tup rfl (pgs_cons (pg_name (i := 4) sc_Load_add.nd rfl (.inl rfl)) (pgs_cons (pg_name (i := 5) sc_Load_add.nd rfl (.inl rfl)) pgs_nil)))) (fun _ _ _ _ _ => pm_yes) (fun _ _ _ _ _ => (pm_var (pv 4)))).weak fun _ _ _ h => lc_of (gb_tup (gb_cons gb_name (gb_cons gb_name gb_nil))) (by decide) h)).lq pa_nil)) pa_nil)))).lk).vd)
    (pm_seq (pm_setL ((ps_setLc (i := 3) (own := [("place", 4)]) (g := (gName 4)) rfl sc_Load_add.nd rfl rfl (sw_true rfl rfl rfl (by decide +kernel)) (pi_sq (K := K) rfl ((pm_var (pv 2))).q) (blkOk_by (N := N_Load_add) (sc := defScope s_Load_add) (by decide +kernel)) (fun _ _ _ _ _ => (pg_name (i := 4) sc_Load_add.nd rfl (.inl rfl))) (fun _ _ _ _ _ => pm_yes) (fun _ _ _ _ _ => (pm_tup (pm_acons (pm_var (pv 4)) (pm_acons (pm_op op_addW ((pm_calm (xc := (xcL ad)) (pm_subX (xc := (xcL ad)) (isC := (fun C => C = ad 5)) L.su_Load_Load_getitem G_Load_getitem gd (hr.mono (by first | decide | omega)) b_Load_getitem takes_never (pm_var (pv 0)) (pm_var (pv 4))))).q ((pm_calm (xc := (xcL ad)) (pm_subX (xc := (xcL ad)) (isC := (fun C => C = ad 5)) L.su_Load_Load_getitem G_Load_getitem gd (hr.mono (by first | decide | omega)) b_Load_getitem takes_never (pm_var (pv 1)) (pm_var (pv 4))))).q) pm_anil))))).weak fun _ _ _ h => lc_of gb_name (by decide) h))
    (pm_seq (pm_if (PW.pt (pm_wor (pm_tcmp (op_gtW ⟨gd, hr.units, rfl, sm⟩) ((pm_callB cr_lenW (by rfl) m_len (by decide +kernel) (pm_qcons ((pm_var (pv 3))).q pm_qnil))).q ((pm_gi (by rfl) k_MAX_ROWS)).q (by rfl)) (pm_wor1 (pm_tval (pm_callB (cr_anyW ⟨gd, hr.units, rfl, sm⟩) (by rfl) m_any (by decide +kernel) (pm_qcons (((pe_lc (own := [("place", 4), ("litres", 5)]) (g := (gTup K 2 (gCons (gName 4) (gCons (gName 5) gNil)))) rfl sc_Load_add.nd (pi_sq (K := K) rfl ((pm_var (pv 3))).q) (blkOk_by (N := N_Load_add) (sc := defScope s_Load_add) (by decide +kernel)) (fun _ _ _ _ _ => (pg_tup rfl (pgs_cons (pg_name (i := 4) sc_Load_add.nd rfl (.inl rfl)) (pgs_cons (pg_name (i := 5) sc_Load_add.nd rfl (.inl rfl)) pgs_nil)))) (fun _ _ _ _ _ => pm_yes) (fun _ _ _ _ _ => (pm_cmp (op_gtW ⟨gd, hr.units, rfl, sm⟩) ((pm_var (pv 5))).q ((pm_gi (by rfl) k_LIMIT)).q (by rfl)))).weak fun _ _ _ h => lc_of (gb_tup (gb_cons gb_name (gb_cons gb_name gb_nil))) (by decide) h)).lq pm_qnil)))))) (pm_one1 (pm_raise0 (c := 3) rfl (takes_of rfl rfl rfl rfl) (pmk_Z L.z_TooMuch (by rfl)) rfl)) pm_skip)
    (pm_one1 (pm_retX (xc := (xcL ad)) (pe_mkXM (xc := (xcL ad)) L.mk_Load G_Load_init gd (hr.mono (by first | decide | omega)) (by rfl) L.g_Load b_Load_init (takes_of rfl rfl rfl rfl) (pm_ge (pm_callTy cr_tupW (by rfl) m_tuple (by decide +kernel) (pm_qcons ((pm_var (pv 3))).q pm_qnil)) pm_gno))))))))

theorem ok_Load_eq {ad : Nat → Addr} {f : Addr} {fd : FuncData} (sm : ∃ o, base.get? sysModules = some o) (F : Fun K "__eq__" "Load.__eq__" s_Load_eq f fd) (L : Lc P w K mg base ad) (m_isinstance : mg "isinstance" = none) : Cn.FnX P w K mg base 1 f fd ["self", "other"] (spOfX (xcL ad) (M_Load_eq ad)) :=
  fn_ofX F sc_Load_eq (by decide) fun cdv A outer s H E gd hr =>
    (pm_one1 (pm_ret (pm_and (pm_isiO (isC := (fun C => C = ad 5)) L.io_Load_Load (by rfl) m_isinstance (pm_var (pv 1)) (pe_glob (v := .ref (ad 5)) (by rfl) L.g_Load rfl)) (pm_one (pm_cmp (op_eqW ⟨gd, hr.units, rfl, sm⟩) ((pm_get (isC := (fun C => C = ad 5)) (pm_var (pv 0)) L.ga_Load_rows)).q ((pm_get (isC := (fun C => C = ad 5)) (pm_var (pv 1)) L.ga_Load_rows)).q (by rfl))))))

theorem ok_Load_len {ad : Nat → Addr} {f : Addr} {fd : FuncData} (sm : ∃ o, base.get? sysModules = some o) (F : Fun K "__len__" "Load.__len__" s_Load_len f fd) (L : Lc P w K mg base ad) (m_len : mg "len" = none) : Cn.FnX P w K mg base 1 f fd ["self"] (spOfX (xcL ad) (M_Load_len ad)) :=
  fn_ofX F sc_Load_len (by decide) fun cdv A outer s H E gd hr =>
    (pm_one1 (pm_ret (pm_callB cr_lenW (by rfl) m_len (by decide +kernel) (pm_qcons ((pm_get (isC := (fun C => C = ad 5)) (pm_var (pv 0)) L.ga_Load_rows)).q pm_qnil))))

theorem ok_Load_str {ad : Nat → Addr} {f : Addr} {fd : FuncData} (sm : ∃ o, base.get? sysModules = some o) (F : Fun K "__str__" "Load.__str__" s_Load_str f fd) (L : Lc P w K mg base ad) : Cn.FnX P w K mg base 1 f fd ["self"] (spOfX (xcL ad) (M_Load_str ad)) :=
  fn_ofX F sc_Load_str (by decide) fun cdv A outer s H E gd hr =>
    (pm_one1 (pm_ret (pm_sj pm_str (((pe_lc (own := [("place", 1), ("litres", 2)]) (g := (gTup K 2 (gCons (gName 1) (gCons (gName 2) gNil)))) rfl sc_Load_str.nd (pi_sq (K := K) rfl ((pm_get (isC := (fun C => C = ad 5)) (pm_var (pv 0)) L.ga_Load_rows)).q) (blkOk_by (N := N_Load_str) (sc := defScope s_Load_str) (by decide +kernel)) (fun _ _ _ _ _ => (pg_tup rfl (pgs_cons (pg_name (i := 1) sc_Load_str.nd rfl (.inl rfl)) (pgs_cons (pg_name (i := 2) sc_Load_str.nd rfl (.inl rfl)) pgs_nil)))) (fun _ _ _ _ _ => pm_yes) (fun _ _ _ _ _ => (pm_joined (ms := [(mFmtC (mV 1)), (mC (.str ":")), (mFmtC (mV 2))]) (PJ.cons (pm_fmtC (pm_var (pv 1)) (pm_spec pm_str)) (PJ.cons pm_str (PJ.cons (pm_fmtC (pm_var (pv 2)) (pm_spec pm_str)) PJ.nil)))))).weak fun _ _ _ h => lc_of (gb_tup (gb_cons gb_name (gb_cons gb_name gb_nil))) (by decide) h)).lk)))

theorem ok_l_built_right {ad : Nat → Addr} {f : Addr} {fd : FuncData} (sm : ∃ o, base.get? sysModules = some o) (F : Fun K "_law_built_right" "_law_built_right" s_l_built_right f fd) (L : Lc P w K mg base ad) (m_len : mg "len" = none) (m_str : mg "str" = none) {fd_Load_add : FuncData} (G_Load_add : Cn.FnX P w K mg base 8 (ad 7) fd_Load_add ["self", "other"] (spOfX (xcL ad) (M_Load_add ad))) (b_Load_add : Binds K fd_Load_add ["self", "other"] []) {fd_Load_eq : FuncData} (G_Load_eq : Cn.FnX P w K mg base 1 (ad 9) fd_Load_eq ["self", "other"] (spOfX (xcL ad) (M_Load_eq ad))) (b_Load_eq : Binds K fd_Load_eq ["self", "other"] []) {fd_Load_init : FuncData} (G_Load_init : Cn.FnX P w K mg base 6 (ad 11) fd_Load_init ["self", "rows"] (spOfX (xcL ad) (M_Load_init ad))) (b_Load_init : Binds K fd_Load_init ["self", "rows"] []) {fd_Load_len : FuncData} (G_Load_len : Cn.FnX P w K mg base 1 (ad 13) fd_Load_len ["self"] (spOfX (xcL ad) (M_Load_len ad))) (b_Load_len : Binds K fd_Load_len ["self"] []) {fd_Load_str : FuncData} (G_Load_str : Cn.FnX P w K mg base 1 (ad 14) fd_Load_str ["self"] (spOfX (xcL ad) (M_Load_str ad))) (b_Load_str : Binds K fd_Load_str ["self"] []) : Cn.FnG P w K mg base 9 f fd ["_law_load"] (spOf (M_l_built_right ad)) :=
  fn_of F sc_l_built_right (by decide) fun cdv A outer s H E gd hr =>
    (pm_seq (pm_par2 (i := 3) (j := 4) rfl sc_l_built_right.nd rfl rfl (by decide) rfl rfl (pm_vcons ((pm_calm (xc := (xcL ad)) (pe_mkXM (xc := (xcL ad)) L.mk_Load G_Load_init gd (hr.mono (by first | decide | omega)) (by rfl) L.g_Load b_Load_init takes_never (pm_ge (pm_tup pm_anil) pm_gno)))).vd (pm_vcons ((pm_calm (xc := (xcL ad)) (pe_mkXM (xc := (xcL ad)) L.mk_Load G_Load_init gd (hr.mono (by first | decide | omega)) (by rfl) L.g_Load b_Load_init takes_never (pm_ge (pm_tup pm_anil) pm_gno)))).vd pm_vnil)) (by rfl))
    (pm_seq (pm_for (K := K) rfl PassesOwn.never rfl (pm_get (isC := (fun C => C = ad 5)) (pm_var (pv 0)) L.ga_Load_rows) (pg_name (i := 1) sc_l_built_right.nd rfl (.inl rfl)) gb_name
      (pm_one1 (pm_asg (i := 3) sc_l_built_right.nd rfl (.inl rfl) ((pm_calm (xc := (xcL ad)) (pm_binX (xc := (xcL ad)) (isC := (fun C => C = ad 5)) L.bi_Load_Load_add G_Load_add gd (hr.mono (by first | decide | omega)) b_Load_add takes_never (pm_var (pv 3)) (pm_calm (xc := (xcL ad)) (pe_mkXM (xc := (xcL ad)) L.mk_Load G_Load_init gd (hr.mono (by first | decide | omega)) (by rfl) L.g_Load b_Load_init takes_never (pm_ge (pm_tup (pm_acons (pm_var (pv 1)) pm_anil)) pm_gno)))))).vd)))
    (pm_seq (pm_for (K := K) rfl PassesOwn.never rfl (pm_rev ((pm_get (isC := (fun C => C = ad 5)) (pm_var (pv 0)) L.ga_Load_rows)).q) (pg_name (i := 1) sc_l_built_right.nd rfl (.inl rfl)) gb_name
      (pm_one1 (pm_asg (i := 4) sc_l_built_right.nd rfl (.inl rfl) ((pm_calm (xc := (xcL ad)) (pm_binX (xc := (xcL ad)) (isC := (fun C => C = ad 5)) L.bi_Load_Load_add G_Load_add gd (hr.mono (by first | decide | omega)) b_Load_add takes_never (pm_calm (xc := (xcL ad)) (pe_mkXM (xc := (xcL ad)) L.mk_Load G_Load_init gd (hr.mono (by first | decide | omega)) (by rfl) L.g_Load b_Load_init takes_never (pm_ge (pm_tup (pm_acons (pm_var (pv 1)) pm_anil)) pm_gno))) (pm_var (pv 4))))).vd)))
    (pm_seq (pm_asg (i := 2) sc_l_built_right.nd rfl (.inl rfl) ((pm_ifE (pm_tcmp (op_gtW ⟨gd, hr.units, rfl, sm⟩) ((pm_lenO (isC := (fun C => C = ad 5)) L.sp_Load_Load_len (calmF G_Load_len) gd (hr.mono (by first | decide | omega)) b_Load_len (by rfl) m_len (pm_var (pv 0)))).q (pm_int).q (by rfl)) ((pm_sp (pm_strO (isC := (fun C => C = ad 5)) L.sp_Load_Load_str (calmF G_Load_str) gd (hr.mono (by first | decide | omega)) b_Load_str (by rfl) m_str (pm_var (pv 0))) pm_str)).lk ((pm_lst pm_anil)).lk)).vd)
    (pm_one1 (pm_ret (pm_and (pm_eqO (isC := (fun C => C = ad 5)) (calmF G_Load_eq) gd (hr.mono (by first | decide | omega)) b_Load_eq (pm_var (pv 3)) (pm_var (pv 0)) L.eq_Load_Load_eq) (pm_and (pm_eqO (isC := (fun C => C = ad 5)) (calmF G_Load_eq) gd (hr.mono (by first | decide | omega)) b_Load_eq (pm_var (pv 4)) (pm_var (pv 0)) L.eq_Load_Load_eq) (pm_one (pm_cmp (op_eqW ⟨gd, hr.units, rfl, sm⟩) ((pm_var (pv 2))).q (((pe_lc (own := [("_law_row", 1)]) (g := (gName 1)) rfl sc_l_built_right.nd (pi_sq (K := K) rfl ((pm_get (isC := (fun C => C = ad 5)) (pm_var (pv 0)) L.ga_Load_rows)).q) (blkOk_by (N := N_l_built_right) (sc := defScope s_l_built_right) (by decide +kernel)) (fun _ _ _ _ _ => (pg_name (i := 1) sc_l_built_right.nd rfl (.inl rfl))) (fun _ _ _ _ _ => pm_yes) (fun _ _ _ _ _ => (pm_strO (isC := (fun C => C = ad 5)) L.sp_Load_Load_str (calmF G_Load_str) gd (hr.mono (by first | decide | omega)) b_Load_str (by rfl) m_str (pm_calm (xc := (xcL ad)) (pe_mkXM (xc := (xcL ad)) L.mk_Load G_Load_init gd (hr.mono (by first | decide | omega)) (by rfl) L.g_Load b_Load_init takes_never (pm_ge (pm_tup (pm_acons (pm_var (pv 1)) pm_anil)) pm_gno)))))).weak fun _ _ _ h => lc_of gb_name (by decide) h)).lq (by rfl)))))))))))

theorem ok_l_rows {f : Addr} {fd : FuncData} (sm : ∃ o, base.get? sysModules = some o) (F : Fun K "_law_rows" "_law_rows" s_l_rows f fd) (m_int : mg "int" = none) (m_range : mg "range" = none) (m_sorted : mg "sorted" = none) (m_tuple : mg "tuple" = none) {f_l_draw : Addr} {fd_l_draw : FuncData} (G_l_draw : Cn.FnG P w K mg base 1 f_l_draw fd_l_draw ["_law_deck_here", "_law_many"] (spOf mDrawW)) (g_l_draw : mg "_law_draw" = some (.ref f_l_draw)) (F_l_draw : Fun K "_law_draw" "_law_draw" s_l_draw f_l_draw fd_l_draw) (b_l_draw : Binds K fd_l_draw ["_law_deck_here", "_law_many"] []) : Cn.FnG P w K mg base 2 f fd ["_law_deck_here", "_law_most"] (spOf M_l_rows) :=
  fn_of F sc_l_rows (by decide) fun cdv A outer s H E gd hr =>
    (pm_seq (pm_par2 (i := 4) (j := 5) rfl sc_l_rows.nd rfl rfl (by decide) rfl rfl (pm_vcons ((pm_ix (ixr_W (K := K) rfl) ((pm_lst (pm_acons pm_int (pm_acons pm_int (pm_acons (pm_op op_powW (pm_int).q (pm_int).q) pm_anil))))).lq ((pm_call G_l_draw gd (hr.mono (by first | decide | omega)) (by rfl) g_l_draw F_l_draw.kp b_l_draw (pm_go (pv 0) (pm_ge pm_int pm_gno)))).q (fun _ _ => rfl))).vd (pm_vcons (((pm_lst pm_anil)).lk).vd pm_vnil)) (by rfl))
    (pm_seq (pm_forR PassesOwn.never rfl (by rfl) m_range (pm_acons (pm_call G_l_draw gd (hr.mono (by first | decide | omega)) (by rfl) g_l_draw F_l_draw.kp b_l_draw (pm_go (pv 0) (pm_ge (pm_op op_addW ((pm_var (pv 1))).q (pm_int).q) pm_gno))) pm_anil) (pg_name (i := 2) sc_l_rows.nd rfl (.inl rfl)) gb_name
      (pm_seq (pm_asg (i := 6) sc_l_rows.nd rfl (.inl rfl) ((pm_op op_subW ((pm_call G_l_draw gd (hr.mono (by first | decide | omega)) (by rfl) g_l_draw F_l_draw.kp b_l_draw (pm_go (pv 0) (pm_ge (pm_op op_addW ((pm_op op_mulW (pm_int).q ((pm_var (pv 4))).q)).q (pm_int).q) pm_gno)))).q ((pm_var (pv 4))).q)).vd)
    (pm_one1 (pm_asg (i := 5) sc_l_rows.nd rfl (.inl rfl) ((pm_op op_addW ((pm_var (pv 5))).q ((pm_rep (pm_lst (pm_acons (pm_var (pv 6)) pm_anil)) (pm_callTy cr_intW (by rfl) m_int (by decide +kernel) (pm_qcons ((pm_cmp (op_ninW ⟨gd, hr.units, rfl, sm⟩) ((pm_var (pv 6))).q ((pm_var (pv 5))).q (by rfl))).q pm_qnil)))).lq)).vd))))
    (pm_seq (pm_asg (i := 3) sc_l_rows.nd rfl (.inr rfl) ((pm_ix (ixr_W (K := K) rfl) ((pm_lst (pm_acons pm_int (pm_acons (pm_op op_powW (pm_int).q (pm_int).q) (pm_acons (pm_op op_powW (pm_int).q (pm_int).q) pm_anil))))).lq ((pm_call G_l_draw gd (hr.mono (by first | decide | omega)) (by rfl) g_l_draw F_l_draw.kp b_l_draw (pm_go (pv 0) (pm_ge pm_int pm_gno)))).q (fun _ _ => rfl))).vd)
    (pm_one1 (pm_ret (pm_callTy cr_tupW (by rfl) m_tuple (by decide +kernel) (pm_qcons (((pe_lc (own := [("_law_place", 6)]) (g := (gName 6)) rfl sc_l_rows.nd (pi_sq (K := K) rfl ((pm_callBL (cr_sortW ⟨gd, hr.units, rfl, sm⟩) (by rfl) m_sorted (by decide +kernel) (pm_qcons ((pm_var (pv 5))).q pm_qnil))).lq) (blkOk_by (N := N_l_rows) (sc := defScope s_l_rows) (by decide +kernel)) (fun _ _ _ _ _ => (pg_name (i := 6) sc_l_rows.nd rfl (.inl rfl))) (fun _ _ _ _ _ => pm_yes) (fun _ _ _ _ _ => (pm_tup (pm_acons (pm_var (pv 6)) (pm_acons (pm_op op_addW (pm_int).q ((pm_call G_l_draw gd (hr.mono (by first | decide | omega)) (by rfl) g_l_draw F_l_draw.kp b_l_draw (pm_go (pv 0) (pm_ge (pm_var (pv 3)) pm_gno)))).q) pm_anil))))).weak fun _ _ _ h => lc_of gb_name (by decide) h)).lq pm_qnil)))))))

theorem ok_l_few {ad : Nat → Addr} {f : Addr} {fd : FuncData} (sm : ∃ o, base.get? sysModules = some o) (F : Fun K "_law_few" "_law_few" s_l_few f fd) (L : Lc P w K mg base ad) (m_tuple : mg "tuple" = none) {fd_Load_init : FuncData} (G_Load_init : Cn.FnX P w K mg base 6 (ad 11) fd_Load_init ["self", "rows"] (spOfX (xcL ad) (M_Load_init ad))) (b_Load_init : Binds K fd_Load_init ["self", "rows"] []) {f_l_rows : Addr} {fd_l_rows : FuncData} (G_l_rows : Cn.FnG P w K mg base 2 f_l_rows fd_l_rows ["_law_deck_here", "_law_most"] (spOf M_l_rows)) (g_l_rows : mg "_law_rows" = some (.ref f_l_rows)) (F_l_rows : Fun K "_law_rows" "_law_rows" s_l_rows f_l_rows fd_l_rows) (b_l_rows : Binds K fd_l_rows ["_law_deck_here", "_law_most"] []) : Cn.FnG P w K mg base 8 f fd ["_law_deck_here"] (spOf (M_l_few ad)) :=
  fn_of F sc_l_few (by decide) fun cdv A outer s H E gd hr =>
    (pm_seq (pm_asg (i := 1) sc_l_few.nd rfl (.inl rfl) ((pm_call G_l_rows gd (hr.mono (by first | decide | omega)) (by rfl) g_l_rows F_l_rows.kp b_l_rows (pm_go (pv 0) (pm_ge pm_int pm_gno)))).vd)
    (pm_one1 (pm_ret (pm_calm (xc := (xcL ad)) (pe_mkXM (xc := (xcL ad)) L.mk_Load G_Load_init gd (hr.mono (by first | decide | omega)) (by rfl) L.g_Load b_Load_init takes_never (pm_ge (pm_callTy cr_tupW (by rfl) m_tuple (by decide +kernel) (pm_qcons (((pe_lc (own := [("_law_place", 2), ("_law_litres", 3)]) (g := (gTup K 2 (gCons (gName 2) (gCons (gName 3) gNil)))) rfl sc_l_few.nd (pi_sq (K := K) rfl ((pm_var (pv 1))).q) (blkOk_by (N := N_l_few) (sc := defScope s_l_few) (by decide +kernel)) (fun _ _ _ _ _ => (pg_tup rfl (pgs_cons (pg_name (i := 2) sc_l_few.nd rfl (.inl rfl)) (pgs_cons (pg_name (i := 3) sc_l_few.nd rfl (.inl rfl)) pgs_nil)))) (fun _ _ _ _ _ => pm_yes) (fun _ _ _ _ _ => (pm_tup (pm_acons (pm_var (pv 2)) (pm_acons (pm_op op_addW (pm_int).q ((pm_op op_modW ((pm_var (pv 3))).q ((pm_op op_powW (pm_int).q (pm_int).q)).q)).q) pm_anil))))).weak fun _ _ _ h => lc_of (gb_tup (gb_cons gb_name (gb_cons gb_name gb_nil))) (by decide) h)).lq pm_qnil)) pm_gno))))))

theorem ok_Load_sub {ad : Nat → Addr} {f : Addr} {fd : FuncData} (sm : ∃ o, base.get? sysModules = some o) (F : Fun K "__sub__" "Load.__sub__" s_Load_sub f fd) (L : Lc P w K mg base ad) (m_isinstance : mg "isinstance" = none) (m_tuple : mg "tuple" = none) {fd_Load_getitem : FuncData} (G_Load_getitem : Cn.FnX P w K mg base 4 (ad 10) fd_Load_getitem ["self", "at"] (spOfX (xcL ad) (M_Load_getitem ad))) (b_Load_getitem : Binds K fd_Load_getitem ["self", "at"] []) {fd_Load_init : FuncData} (G_Load_init : Cn.FnX P w K mg base 6 (ad 11) fd_Load_init ["self", "rows"] (spOfX (xcL ad) (M_Load_init ad))) (b_Load_init : Binds K fd_Load_init ["self", "rows"] []) : Cn.FnX P w K mg base 8 f fd ["self", "other"] (spOfX (xcL ad) (M_Load_sub ad)) :=
  fn_ofX F sc_Load_sub (by decide) fun cdv A outer s H E gd hr =>
    (pm_seq (pm_if (pm_tnot (pm_tval (pm_isiO (isC := (fun C => C = ad 5)) L.io_Load_Load (by rfl) m_isinstance (pm_var (pv 1)) (pe_glob (v := .ref (ad 5)) (by rfl) L.g_Load rfl)))) (pm_one1 pm_never) pm_skip)
    (pm_seq (pm_for (K := K) rfl (passes_of rfl) rfl (pm_get (isC := (fun C => C = ad 5)) (pm_var (pv 1)) L.ga_Load_rows) (pg_tup rfl (pgs_cons (pg_name (i := 3) sc_Load_sub.nd rfl (.inl rfl)) (pgs_cons (pg_name (i := 4) sc_Load_sub.nd rfl (.inl rfl)) pgs_nil))) (gb_tup (gb_cons gb_name (gb_cons gb_name gb_nil)))
      (pm_one1 (pm_if (pm_tcmp (op_gtW ⟨gd, hr.units, rfl, sm⟩) ((pm_var (pv 4))).q ((pm_calm (xc := (xcL ad)) (pm_subX (xc := (xcL ad)) (isC := (fun C => C = ad 5)) L.su_Load_Load_getitem G_Load_getitem gd (hr.mono (by first | decide | omega)) b_Load_getitem takes_never (pm_var (pv 0)) (pm_var (pv 3))))).q (by rfl)) (pm_one1 (pm_raise (c := 2) rfl (takes_of rfl rfl rfl rfl) (pmk_E L.e_Missing (hr.mono (by first | decide | omega)) (by rfl) (pm_var (pv 3))) (show ("place" : Str) ≠ "" by decide))) pm_skip)))
    (pm_seq (pm_setL ((ps_setLc (i := 2) (own := [("place", 3), ("litres", 4)]) (g := (gTup K 2 (gCons (gName 3) (gCons (gName 4) gNil)))) rfl sc_Load_sub.nd rfl rfl (sw_true rfl rfl rfl (by decide +kernel)) (pi_sq (K := K) rfl ((pm_get (isC := (fun C => C = ad 5)) (pm_var (pv 0)) L.ga_Load_rows)).q) (blkOk_by (N := N_Load_sub) (sc := defScope s_Load_sub) (by decide +kernel)) (fun _ _ _ _ _ => (pg_tup rfl (pgs_cons (pg_name (i := 3) sc_Load_sub.nd rfl (.inl rfl)) (pgs_cons (pg_name (i := 4) sc_Load_sub.nd rfl (.inl rfl)) pgs_nil)))) (fun _ _ _ _ _ => pm_yes) (fun _ _ _ _ _ => (pm_tup (pm_acons (pm_var (pv 3)) (pm_acons (pm_op op_subW ((pm_var (pv 4))).q ((pm_calm (xc := (xcL ad)) (pm_subX (xc := (xcL ad)) (isC := (fun C => C = ad 5)) L.su_Load_Load_getitem G_Load_getitem gd (hr.mono (by first | decide | omega)) b_Load_getitem takes_never (pm_var (pv 1)) (pm_var (pv 3))))).q) pm_anil))))).weak fun _ _ _ h => lc_of (gb_tup (gb_cons gb_name (gb_cons gb_name gb_nil))) (by decide) h))
    (pm_one1 (pm_retX (xc := (xcL ad)) (pe_mkXM (xc := (xcL ad)) L.mk_Load G_Load_init gd (hr.mono (by first | decide | omega)) (by rfl) L.g_Load b_Load_init (takes_of rfl rfl rfl rfl) (pm_ge (pm_callTy cr_tupW (by rfl) m_tuple (by decide +kernel) (pm_qcons (((pe_lc (own := [("place", 3), ("litres", 4)]) (g := (gTup K 2 (gCons (gName 3) (gCons (gName 4) gNil)))) rfl sc_Load_sub.nd (pi_sq (K := K) rfl ((pm_var (pv 2))).q) (blkOk_by (N := N_Load_sub) (sc := defScope s_Load_sub) (by decide +kernel)) (fun _ _ _ _ _ => (pg_tup rfl (pgs_cons (pg_name (i := 3) sc_Load_sub.nd rfl (.inl rfl)) (pgs_cons (pg_name (i := 4) sc_Load_sub.nd rfl (.inl rfl)) pgs_nil)))) (fun _ _ _ _ _ => (pts_one (pm_tcmp (op_gtW ⟨gd, hr.units, rfl, sm⟩) ((pm_var (pv 4))).q (pm_int).q (by rfl)))) (fun _ _ _ _ _ => (pm_tup (pm_acons (pm_var (pv 3)) (pm_acons (pm_var (pv 4)) pm_anil))))).weak fun _ _ _ h => lc_of (gb_tup (gb_cons gb_name (gb_cons gb_name gb_nil))) (by decide) h)).lq pm_qnil)) pm_gno)))))))

theorem ok_l_can_take {ad : Nat → Addr} {f : Addr} {fd : FuncData} (sm : ∃ o, base.get? sysModules = some o) (F : Fun K "_law_can_take" "_law_can_take" s_l_can_take f fd) (L : Lc P w K mg base ad) {fd_Load_add : FuncData} (G_Load_add : Cn.FnX P w K mg base 8 (ad 7) fd_Load_add ["self", "other"] (spOfX (xcL ad) (M_Load_add ad))) (b_Load_add : Binds K fd_Load_add ["self", "other"] []) {fd_Load_eq : FuncData} (G_Load_eq : Cn.FnX P w K mg base 1 (ad 9) fd_Load_eq ["self", "other"] (spOfX (xcL ad) (M_Load_eq ad))) (b_Load_eq : Binds K fd_Load_eq ["self", "other"] []) {fd_Load_getitem : FuncData} (G_Load_getitem : Cn.FnX P w K mg base 4 (ad 10) fd_Load_getitem ["self", "at"] (spOfX (xcL ad) (M_Load_getitem ad))) (b_Load_getitem : Binds K fd_Load_getitem ["self", "at"] []) {fd_Load_sub : FuncData} (G_Load_sub : Cn.FnX P w K mg base 8 (ad 15) fd_Load_sub ["self", "other"] (spOfX (xcL ad) (M_Load_sub ad))) (b_Load_sub : Binds K fd_Load_sub ["self", "other"] []) : Cn.FnX P w K mg base 9 f fd ["_law_one", "_law_other"] (spOfX (xcL ad) (M_l_can_take ad)) :=
  fn_ofX F sc_l_can_take (by decide) fun cdv A outer s H E gd hr =>
    (pm_one1 (pm_try (i := 2) (n := 4) (cap := fun c => [false, false, true, false].getD c false) (ms := fun a dd c => _) rfl rfl sc_l_can_take.nd rfl rfl ⟨rfl, by decide, .inl L.g_Missing⟩ (takes_of rfl rfl rfl rfl) (fun c hc => L.ex_Missing c hc)
      (fun W pn xe tk po => (pm_one1 (pm_retX (xc := (xcL ad)) (pm_eqOX (xc := (xcL ad)) (isC := (fun C => C = ad 5)) (calmF G_Load_eq) gd (hr.mono (by first | decide | omega)) b_Load_eq (pm_binXR (xc := (xcL ad)) (isC := (fun C => C = ad 5)) L.bi_Load_Load_add G_Load_add gd (hr.mono (by first | decide | omega)) b_Load_add tk (pm_var (pv 1)) (pm_binX (xc := (xcL ad)) (isC := (fun C => C = ad 5)) L.bi_Load_Load_sub G_Load_sub gd (hr.mono (by first | decide | omega)) b_Load_sub tk (pm_var (pv 0)) (pm_var (pv 1)))) (pm_var (pv 0)) L.eq_Load_Load_eq))))
      (fun a dd oe c pn hc hz hf => (pm_one1 (pm_ret (pm_cmp op_geI (pm_subW (isC := (fun C => C = ad 5)) L.su_Load_Load_getitem L.hw_Load_getitem.choose_spec.1 gd (L2H.roomH_mark (hr.mono (by first | decide | omega)) _) (Cn.hot_suite hz hf) (.head _) L.hw_Load_getitem.choose_spec.2 (pm_var (pv 0)) (pe_xfM (L.X c hc) (L.nf_place c hc) hz hf (pv 2))).q (pm_subW (isC := (fun C => C = ad 5)) L.su_Load_Load_getitem L.hw_Load_getitem.choose_spec.1 gd (L2H.roomH_mark (hr.mono (by first | decide | omega)) _) (Cn.hot_suite hz hf) (.head _) L.hw_Load_getitem.choose_spec.2 (pm_var (pv 1)) (pe_xfM (L.X c hc) (L.nf_place c hc) hz hf (pv 2))).q (by rfl)))))))

theorem ok_l_parts_right {ad : Nat → Addr} {f : Addr} {fd : FuncData} (sm : ∃ o, base.get? sysModules = some o) (F : Fun K "_law_parts_right" "_law_parts_right" s_l_parts_right f fd) (L : Lc P w K mg base ad) (m_str : mg "str" = none) {fd_Load_contains : FuncData} (G_Load_contains : Cn.FnX P w K mg base 6 (ad 8) fd_Load_contains ["self", "x"] (spOfX (xcL ad) (M_Load_contains ad))) (b_Load_contains : Binds K fd_Load_contains ["self", "x"] []) {fd_Load_eq : FuncData} (G_Load_eq : Cn.FnX P w K mg base 1 (ad 9) fd_Load_eq ["self", "other"] (spOfX (xcL ad) (M_Load_eq ad))) (b_Load_eq : Binds K fd_Load_eq ["self", "other"] []) {fd_Load_str : FuncData} (G_Load_str : Cn.FnX P w K mg base 1 (ad 14) fd_Load_str ["self"] (spOfX (xcL ad) (M_Load_str ad))) (b_Load_str : Binds K fd_Load_str ["self"] []) {fd_Load_sub : FuncData} (G_Load_sub : Cn.FnX P w K mg base 8 (ad 15) fd_Load_sub ["self", "other"] (spOfX (xcL ad) (M_Load_sub ad))) (b_Load_sub : Binds K fd_Load_sub ["self", "other"] []) {f_l_can_take : Addr} {fd_l_can_take : FuncData} (G_l_can_take : Cn.FnX P w K mg base 9 f_l_can_take fd_l_can_take ["_law_one", "_law_other"] (spOfX (xcL ad) (M_l_can_take ad))) (g_l_can_take : mg "_law_can_take" = some (.ref f_l_can_take)) (F_l_can_take : Fun K "_law_can_take" "_law_can_take" s_l_can_take f_l_can_take fd_l_can_take) (b_l_can_take : Binds K fd_l_can_take ["_law_one", "_law_other"] []) : Cn.FnG P w K mg base 10 f fd ["_law_one", "_law_other"] (spOf (M_l_parts_right ad)) :=
  fn_of F sc_l_parts_right (by decide) fun cdv A outer s H E gd hr =>
    (pm_seq (pm_if (pm_tcmp (op_neW ⟨gd, hr.units, rfl, sm⟩) ((pm_calm (xc := (xcL ad)) (pe_callXM (xc := (xcL ad)) G_l_can_take gd (hr.mono (by first | decide | omega)) (by rfl) g_l_can_take F_l_can_take.kp b_l_can_take takes_never (pm_ge (pm_var (pv 0)) (pm_ge (pm_var (pv 1)) pm_gno))))).q ((pm_inO (isC := (fun C => C = ad 5)) (calmF G_Load_contains) gd (hr.mono (by first | decide | omega)) b_Load_contains (pm_var (pv 0)) (pm_var (pv 1)) L.ct_Load_Load_contains)).q (by rfl)) (pm_one1 (pm_ret pm_bl)) pm_skip)
    (pm_seq (pm_if (PW.pt (pm_wor (pm_tcmp (op_neW ⟨gd, hr.units, rfl, sm⟩) ((pm_and (pm_inO (isC := (fun C => C = ad 5)) (calmF G_Load_contains) gd (hr.mono (by first | decide | omega)) b_Load_contains (pm_var (pv 1)) (pm_var (pv 0)) L.ct_Load_Load_contains) (pm_one (pm_inO (isC := (fun C => C = ad 5)) (calmF G_Load_contains) gd (hr.mono (by first | decide | omega)) b_Load_contains (pm_var (pv 0)) (pm_var (pv 1)) L.ct_Load_Load_contains)))).q ((pm_eqO (isC := (fun C => C = ad 5)) (calmF G_Load_eq) gd (hr.mono (by first | decide | omega)) b_Load_eq (pm_var (pv 0)) (pm_var (pv 1)) L.eq_Load_Load_eq)).q (by rfl)) (pm_wor1 (PW.pt (pm_wand (pm_teqO (isC := (fun C => C = ad 5)) (calmF G_Load_eq) gd (hr.mono (by first | decide | omega)) b_Load_eq (pm_var (pv 0)) (pm_var (pv 1)) L.eq_Load_Load_eq) (pm_wand1 (pm_tcmp (op_neW ⟨gd, hr.units, rfl, sm⟩) ((pm_strO (isC := (fun C => C = ad 5)) L.sp_Load_Load_str (calmF G_Load_str) gd (hr.mono (by first | decide | omega)) b_Load_str (by rfl) m_str (pm_var (pv 0)))).q ((pm_strO (isC := (fun C => C = ad 5)) L.sp_Load_Load_str (calmF G_Load_str) gd (hr.mono (by first | decide | omega)) b_Load_str (by rfl) m_str (pm_var (pv 1)))).q (by rfl)))))))) (pm_one1 (pm_ret pm_bl)) pm_skip)
    (pm_one1 (pm_ret (pm_or (pm_ninO (isC := (fun C => C = ad 5)) (calmF G_Load_contains) gd (hr.mono (by first | decide | omega)) b_Load_contains (pm_var (pv 0)) (pm_var (pv 1)) L.ct_Load_Load_contains) (pm_one (pm_cmp (op_eqW ⟨gd, hr.units, rfl, sm⟩) ((pm_get (isC := (fun C => C = ad 5)) (pm_calm (xc := (xcL ad)) (pm_binX (xc := (xcL ad)) (isC := (fun C => C = ad 5)) L.bi_Load_Load_sub G_Load_sub gd (hr.mono (by first | decide | omega)) b_Load_sub takes_never (pm_var (pv 0)) (pm_var (pv 1)))) L.ga_Load_total)).q ((pm_op op_subW ((pm_get (isC := (fun C => C = ad 5)) (pm_var (pv 0)) L.ga_Load_total)).q ((pm_get (isC := (fun C => C = ad 5)) (pm_var (pv 1)) L.ga_Load_total)).q)).q (by rfl))))))))

theorem ok_l_sums_right {ad : Nat → Addr} {f : Addr} {fd : FuncData} (sm : ∃ o, base.get? sysModules = some o) (F : Fun K "_law_sums_right" "_law_sums_right" s_l_sums_right f fd) (L : Lc P w K mg base ad) (m_len : mg "len" = none) {fd_Load_add : FuncData} (G_Load_add : Cn.FnX P w K mg base 8 (ad 7) fd_Load_add ["self", "other"] (spOfX (xcL ad) (M_Load_add ad))) (b_Load_add : Binds K fd_Load_add ["self", "other"] []) {fd_Load_contains : FuncData} (G_Load_contains : Cn.FnX P w K mg base 6 (ad 8) fd_Load_contains ["self", "x"] (spOfX (xcL ad) (M_Load_contains ad))) (b_Load_contains : Binds K fd_Load_contains ["self", "x"] []) {fd_Load_eq : FuncData} (G_Load_eq : Cn.FnX P w K mg base 1 (ad 9) fd_Load_eq ["self", "other"] (spOfX (xcL ad) (M_Load_eq ad))) (b_Load_eq : Binds K fd_Load_eq ["self", "other"] []) {fd_Load_getitem : FuncData} (G_Load_getitem : Cn.FnX P w K mg base 4 (ad 10) fd_Load_getitem ["self", "at"] (spOfX (xcL ad) (M_Load_getitem ad))) (b_Load_getitem : Binds K fd_Load_getitem ["self", "at"] []) {fd_Load_init : FuncData} (G_Load_init : Cn.FnX P w K mg base 6 (ad 11) fd_Load_init ["self", "rows"] (spOfX (xcL ad) (M_Load_init ad))) (b_Load_init : Binds K fd_Load_init ["self", "rows"] []) {fd_Load_len : FuncData} (G_Load_len : Cn.FnX P w K mg base 1 (ad 13) fd_Load_len ["self"] (spOfX (xcL ad) (M_Load_len ad))) (b_Load_len : Binds K fd_Load_len ["self"] []) {fd_Load_sub : FuncData} (G_Load_sub : Cn.FnX P w K mg base 8 (ad 15) fd_Load_sub ["self", "other"] (spOfX (xcL ad) (M_Load_sub ad))) (b_Load_sub : Binds K fd_Load_sub ["self", "other"] []) : Cn.FnG P w K mg base 9 f fd ["_law_one", "_law_other", "_law_third"] (spOf (M_l_sums_right ad)) :=
  fn_of F sc_l_sums_right (by decide) fun cdv A outer s H E gd hr =>
    (pm_seq (pm_asg (i := 3) sc_l_sums_right.nd rfl (.inl rfl) ((pm_calm (xc := (xcL ad)) (pm_binX (xc := (xcL ad)) (isC := (fun C => C = ad 5)) L.bi_Load_Load_add G_Load_add gd (hr.mono (by first | decide | omega)) b_Load_add takes_never (pm_var (pv 0)) (pm_var (pv 1))))).vd)
    (pm_seq (pm_if (PW.pt (pm_wor (pm_tneO (isC := (fun C => C = ad 5)) (calmF G_Load_eq) gd (hr.mono (by first | decide | omega)) b_Load_eq (pm_var (pv 3)) (pm_calm (xc := (xcL ad)) (pm_binX (xc := (xcL ad)) (isC := (fun C => C = ad 5)) L.bi_Load_Load_add G_Load_add gd (hr.mono (by first | decide | omega)) b_Load_add takes_never (pm_var (pv 1)) (pm_var (pv 0)))) L.ne_Load_Load_eq) (pm_wor (pm_tneO (isC := (fun C => C = ad 5)) (calmF G_Load_eq) gd (hr.mono (by first | decide | omega)) b_Load_eq (pm_calm (xc := (xcL ad)) (pm_binX (xc := (xcL ad)) (isC := (fun C => C = ad 5)) L.bi_Load_Load_add G_Load_add gd (hr.mono (by first | decide | omega)) b_Load_add takes_never (pm_var (pv 3)) (pm_var (pv 2)))) (pm_calm (xc := (xcL ad)) (pm_binX (xc := (xcL ad)) (isC := (fun C => C = ad 5)) L.bi_Load_Load_add G_Load_add gd (hr.mono (by first | decide | omega)) b_Load_add takes_never (pm_var (pv 0)) (pm_calm (xc := (xcL ad)) (pm_binX (xc := (xcL ad)) (isC := (fun C => C = ad 5)) L.bi_Load_Load_add G_Load_add gd (hr.mono (by first | decide | omega)) b_Load_add takes_never (pm_var (pv 1)) (pm_var (pv 2)))))) L.ne_Load_Load_eq) (pm_wor (pm_tneO (isC := (fun C => C = ad 5)) (calmF G_Load_eq) gd (hr.mono (by first | decide | omega)) b_Load_eq (pm_calm (xc := (xcL ad)) (pm_binX (xc := (xcL ad)) (isC := (fun C => C = ad 5)) L.bi_Load_Load_sub G_Load_sub gd (hr.mono (by first | decide | omega)) b_Load_sub takes_never (pm_var (pv 3)) (pm_var (pv 1)))) (pm_var (pv 0)) L.ne_Load_Load_eq) (pm_wor1 (pm_tneO (isC := (fun C => C = ad 5)) (calmF G_Load_eq) gd (hr.mono (by first | decide | omega)) b_Load_eq (pm_calm (xc := (xcL ad)) (pm_binX (xc := (xcL ad)) (isC := (fun C => C = ad 5)) L.bi_Load_Load_sub G_Load_sub gd (hr.mono (by first | decide | omega)) b_Load_sub takes_never (pm_var (pv 3)) (pm_var (pv 0)))) (pm_var (pv 1)) L.ne_Load_Load_eq)))))) (pm_one1 (pm_ret pm_bl)) pm_skip)
    (pm_seq (pm_if (PW.pt (pm_wor (pm_tcmp (op_neW ⟨gd, hr.units, rfl, sm⟩) ((pm_get (isC := (fun C => C = ad 5)) (pm_var (pv 3)) L.ga_Load_total)).q ((pm_op op_addW ((pm_get (isC := (fun C => C = ad 5)) (pm_var (pv 0)) L.ga_Load_total)).q ((pm_get (isC := (fun C => C = ad 5)) (pm_var (pv 1)) L.ga_Load_total)).q)).q (by rfl)) (pm_wor (pm_tcmp (op_gtW ⟨gd, hr.units, rfl, sm⟩) ((pm_lenO (isC := (fun C => C = ad 5)) L.sp_Load_Load_len (calmF G_Load_len) gd (hr.mono (by first | decide | omega)) b_Load_len (by rfl) m_len (pm_var (pv 3)))).q ((pm_op op_addW ((pm_lenO (isC := (fun C => C = ad 5)) L.sp_Load_Load_len (calmF G_Load_len) gd (hr.mono (by first | decide | omega)) b_Load_len (by rfl) m_len (pm_var (pv 0)))).q ((pm_lenO (isC := (fun C => C = ad 5)) L.sp_Load_Load_len (calmF G_Load_len) gd (hr.mono (by first | decide | omega)) b_Load_len (by rfl) m_len (pm_var (pv 1)))).q)).q (by rfl)) (pm_wor1 (pm_tneO (isC := (fun C => C = ad 5)) (calmF G_Load_eq) gd (hr.mono (by first | decide | omega)) b_Load_eq (pm_calm (xc := (xcL ad)) (pm_binX (xc := (xcL ad)) (isC := (fun C => C = ad 5)) L.bi_Load_Load_sub G_Load_sub gd (hr.mono (by first | decide | omega)) b_Load_sub takes_never (pm_var (pv 0)) (pm_var (pv 0)))) (pm_calm (xc := (xcL ad)) (pe_mkXM (xc := (xcL ad)) L.mk_Load G_Load_init gd (hr.mono (by first | decide | omega)) (by rfl) L.g_Load b_Load_init takes_never (pm_ge (pm_tup pm_anil) pm_gno))) L.ne_Load_Load_eq))))) (pm_one1 (pm_ret pm_bl)) pm_skip)
    (pm_seq (pm_for (K := K) rfl PassesOwn.never rfl (pm_op op_addW (((pe_lc (own := [("_law_place", 4), ("_law_litres", 5)]) (g := (gTup K 2 (gCons (gName 4) (gCons (gName 5) gNil)))) rfl sc_l_sums_right.nd (pi_sq (K := K) rfl ((pm_get (isC := (fun C => C = ad 5)) (pm_var (pv 3)) L.ga_Load_rows)).q) (blkOk_by (N := N_l_sums_right) (sc := defScope s_l_sums_right) (by decide +kernel)) (fun _ _ _ _ _ => (pg_tup rfl (pgs_cons (pg_name (i := 4) sc_l_sums_right.nd rfl (.inl rfl)) (pgs_cons (pg_name (i := 5) sc_l_sums_right.nd rfl (.inl rfl)) pgs_nil)))) (fun _ _ _ _ _ => pm_yes) (fun _ _ _ _ _ => (pm_var (pv 4)))).weak fun _ _ _ h => lc_of (gb_tup (gb_cons gb_name (gb_cons gb_name gb_nil))) (by decide) h)).lq ((pm_lst (pm_acons pm_int (pm_acons (pm_op op_powW (pm_int).q (pm_int).q) (pm_acons (pm_neg (pm_op op_powW (pm_int).q (pm_int).q)) pm_anil))))).lq) (pg_name (i := 4) sc_l_sums_right.nd rfl (.inl rfl)) gb_name
      (pm_one1 (pm_if (pm_tcmp (op_neW ⟨gd, hr.units, rfl, sm⟩) ((pm_calm (xc := (xcL ad)) (pm_subX (xc := (xcL ad)) (isC := (fun C => C = ad 5)) L.su_Load_Load_getitem G_Load_getitem gd (hr.mono (by first | decide | omega)) b_Load_getitem takes_never (pm_var (pv 3)) (pm_var (pv 4))))).q ((pm_op op_addW ((pm_calm (xc := (xcL ad)) (pm_subX (xc := (xcL ad)) (isC := (fun C => C = ad 5)) L.su_Load_Load_getitem G_Load_getitem gd (hr.mono (by first | decide | omega)) b_Load_getitem takes_never (pm_var (pv 0)) (pm_var (pv 4))))).q ((pm_calm (xc := (xcL ad)) (pm_subX (xc := (xcL ad)) (isC := (fun C => C = ad 5)) L.su_Load_Load_getitem G_Load_getitem gd (hr.mono (by first | decide | omega)) b_Load_getitem takes_never (pm_var (pv 1)) (pm_var (pv 4))))).q)).q (by rfl)) (pm_one1 (pm_ret pm_bl)) pm_skip)))
    (pm_one1 (pm_ret (pm_and (pm_inO (isC := (fun C => C = ad 5)) (calmF G_Load_contains) gd (hr.mono (by first | decide | omega)) b_Load_contains (pm_var (pv 3)) (pm_var (pv 0)) L.ct_Load_Load_contains) (pm_and (pm_inO (isC := (fun C => C = ad 5)) (calmF G_Load_contains) gd (hr.mono (by first | decide | omega)) b_Load_contains (pm_var (pv 3)) (pm_var (pv 1)) L.ct_Load_Load_contains) (pm_and (pm_inO (isC := (fun C => C = ad 5)) (calmF G_Load_contains) gd (hr.mono (by first | decide | omega)) b_Load_contains (pm_var (pv 0)) (pm_calm (xc := (xcL ad)) (pe_mkXM (xc := (xcL ad)) L.mk_Load G_Load_init gd (hr.mono (by first | decide | omega)) (by rfl) L.g_Load b_Load_init takes_never (pm_ge (pm_tup pm_anil) pm_gno))) L.ct_Load_Load_contains) (pm_one (pm_cmp (op_eqW ⟨gd, hr.units, rfl, sm⟩) ((pm_inO (isC := (fun C => C = ad 5)) (calmF G_Load_contains) gd (hr.mono (by first | decide | omega)) b_Load_contains (pm_var (pv 0)) (pm_var (pv 3)) L.ct_Load_Load_contains)).q ((pm_cmp (op_eqW ⟨gd, hr.units, rfl, sm⟩) ((pm_lenO (isC := (fun C => C = ad 5)) L.sp_Load_Load_len (calmF G_Load_len) gd (hr.mono (by first | decide | omega)) b_Load_len (by rfl) m_len (pm_var (pv 1)))).q (pm_int).q (by rfl))).q (by rfl))))))))))))

abbrev s_BadLoad_init : Stmt := (clB (topS 11)).getD 0 (.Pass ⟨0, 0, 0, 0⟩)
theorem sc_BadLoad_init : FnScope ["self", "value"] ["self", "value"] (defScope s_BadLoad_init) := ⟨rfl, rfl, rfl, by decide +kernel, rfl, by decide +kernel, by decide +kernel⟩
theorem ok_BadLoad_init {f C : Addr} {fd : FuncData} (F : Fun K "__init__" "BadLoad.__init__" s_BadLoad_init f fd) (T : OexC K C) (hno : PySem.W.findIn K (.ref C) "value" = some none) : FnOk P w K mg base CX0 1 f fd ["self", "value"] (Cn.spI C "value") := by
  refine F.ok sc_BadLoad_init (fun vs H Q E h => ?_) (fun cdv A outer s H vs Q E hr h => ⟨_, pss_one (ps_ost (pv 0) (pv 1)), Cn.init_reads T hno h⟩)
  obtain ⟨a, v, rfl, _⟩ := h
  rfl

abbrev s_NoPlace_init : Stmt := (clB (topS 14)).getD 0 (.Pass ⟨0, 0, 0, 0⟩)
theorem sc_NoPlace_init : FnScope ["self", "value"] ["self", "value"] (defScope s_NoPlace_init) := ⟨rfl, rfl, rfl, by decide +kernel, rfl, by decide +kernel, by decide +kernel⟩
theorem ok_NoPlace_init {f C : Addr} {fd : FuncData} (F : Fun K "__init__" "NoPlace.__init__" s_NoPlace_init f fd) (T : Cn.OexB K C) (hno : PySem.W.findIn K (.ref C) "value" = some none) : FnOk P w K mg base CX0 1 f fd ["self", "value"] (Cn.spI C "value") := by
  refine F.ok sc_NoPlace_init (fun vs H Q E h => ?_) (fun cdv A outer s H vs Q E hr h => ⟨_, pss_one (Cn.ps_setB (pv 0) (pv 1)), Cn.readsB T hno h⟩)
  obtain ⟨a, v, rfl, _⟩ := h
  rfl

abbrev s_Missing_init : Stmt := (clB (topS 13)).getD 0 (.Pass ⟨0, 0, 0, 0⟩)
theorem sc_Missing_init : FnScope ["self", "place"] ["self", "place"] (defScope s_Missing_init) := ⟨rfl, rfl, rfl, by decide +kernel, rfl, by decide +kernel, by decide +kernel⟩
theorem ok_Missing_init {f C : Addr} {fd : FuncData} (F : Fun K "__init__" "Missing.__init__" s_Missing_init f fd) (T : OexC K C) (hno : PySem.W.findIn K (.ref C) "place" = some none) : FnOk P w K mg base CX0 1 f fd ["self", "place"] (Cn.spI C "place") := by
  refine F.ok sc_Missing_init (fun vs H Q E h => ?_) (fun cdv A outer s H vs Q E hr h => ⟨_, pss_one (ps_ost (pv 0) (pv 1)), Cn.init_reads T hno h⟩)
  obtain ⟨a, v, rfl, _⟩ := h
  rfl

theorem ok_law {ad : Nat → Addr} {f f_l_deck : Addr} {fd fd_l_deck : FuncData} (sm : ∃ o, base.get? sysModules = some o) (F : Fun K "law" "law" s_law f fd) (L : Lc P w K mg base ad) (m_range : mg "range" = none) (m_tuple : mg "tuple" = none) {fd_Load_contains : FuncData} (G_Load_contains : Cn.FnX P w K mg base 6 (ad 8) fd_Load_contains ["self", "x"] (spOfX (xcL ad) (M_Load_contains ad))) (b_Load_contains : Binds K fd_Load_contains ["self", "x"] []) {fd_Load_init : FuncData} (G_Load_init : Cn.FnX P w K mg base 6 (ad 11) fd_Load_init ["self", "rows"] (spOfX (xcL ad) (M_Load_init ad))) (b_Load_init : Binds K fd_Load_init ["self", "rows"] []) {f_l_built_right : Addr} {fd_l_built_right : FuncData} (G_l_built_right : Cn.FnG P w K mg base 9 f_l_built_right fd_l_built_right ["_law_load"] (spOf (M_l_built_right ad))) (g_l_built_right : mg "_law_built_right" = some (.ref f_l_built_right)) (F_l_built_right : Fun K "_law_built_right" "_law_built_right" s_l_built_right f_l_built_right fd_l_built_right) (b_l_built_right : Binds K fd_l_built_right ["_law_load"] []) {f_l_draw : Addr} {fd_l_draw : FuncData} (G_l_draw : Cn.FnG P w K mg base 1 f_l_draw fd_l_draw ["_law_deck_here", "_law_many"] (spOf mDrawW)) (g_l_draw : mg "_law_draw" = some (.ref f_l_draw)) (F_l_draw : Fun K "_law_draw" "_law_draw" s_l_draw f_l_draw fd_l_draw) (b_l_draw : Binds K fd_l_draw ["_law_deck_here", "_law_many"] []) {f_l_few : Addr} {fd_l_few : FuncData} (G_l_few : Cn.FnG P w K mg base 8 f_l_few fd_l_few ["_law_deck_here"] (spOf (M_l_few ad))) (g_l_few : mg "_law_few" = some (.ref f_l_few)) (F_l_few : Fun K "_law_few" "_law_few" s_l_few f_l_few fd_l_few) (b_l_few : Binds K fd_l_few ["_law_deck_here"] []) {f_l_parts_right : Addr} {fd_l_parts_right : FuncData} (G_l_parts_right : Cn.FnG P w K mg base 10 f_l_parts_right fd_l_parts_right ["_law_one", "_law_other"] (spOf (M_l_parts_right ad))) (g_l_parts_right : mg "_law_parts_right" = some (.ref f_l_parts_right)) (F_l_parts_right : Fun K "_law_parts_right" "_law_parts_right" s_l_parts_right f_l_parts_right fd_l_parts_right) (b_l_parts_right : Binds K fd_l_parts_right ["_law_one", "_law_other"] []) {f_l_sums_right : Addr} {fd_l_sums_right : FuncData} (G_l_sums_right : Cn.FnG P w K mg base 9 f_l_sums_right fd_l_sums_right ["_law_one", "_law_other", "_law_third"] (spOf (M_l_sums_right ad))) (g_l_sums_right : mg "_law_sums_right" = some (.ref f_l_sums_right)) (F_l_sums_right : Fun K "_law_sums_right" "_law_sums_right" s_l_sums_right f_l_sums_right fd_l_sums_right) (b_l_sums_right : Binds K fd_l_sums_right ["_law_one", "_law_other", "_law_third"] []) (G_l_deck : FnOk P w K mg base CX0 1 f_l_deck fd_l_deck ["_law_script"] (Cn.spDeck K)) (g_l_deck : mg "_law_deck" = some (.ref f_l_deck)) (F_l_deck : Fun K "_law_deck" "_law_deck" s_l_deck f_l_deck fd_l_deck) (b_l_deck : Binds K fd_l_deck ["_law_script"] []) (hm : B_law ad (.no :: .s 1 :: List.replicate (N_law.length - 2) .no) Bt.zero lawF) : Cn.FnG P w K mg base 11 f fd ["_law_script"] (spLaw K) := by
  refine Cn.okG F sc_law (fun vs H Q E h => ?_) (fun cdv A outer s H vs Q E gd hr h => ?_)
  · obtain ⟨a, ns, rfl, _⟩ := h
    rfl
  · obtain ⟨a, ns, rfl, hs, few, q⟩ := h
    exact ⟨_, (pss_cons (ps_set (i := 1) sc_law.nd rfl (.inr rfl) (pe_call G_l_deck (hr.mono (by first | decide | omega)) (by rfl) g_l_deck F_l_deck.kp b_l_deck .nil pass0 (pa_cons (pv 0) pa_nil)))
      ((pm_seq (pm_forR PassesOwn.never rfl (by rfl) m_range (pm_acons pm_int pm_anil) (pg_name (i := 2) sc_law.nd rfl (.inl rfl)) gb_name
      (pm_seq (pm_setL ((ps_setLc (i := 3) (own := [("_law_k", 8)]) (g := (gName 8)) rfl sc_law.nd rfl rfl (sw_true rfl rfl rfl (by decide +kernel)) (pi_range1 (by rfl) m_range (pm_acons pm_int pm_anil)) (blkOk_by (N := N_law) (sc := defScope s_law) (by decide +kernel)) (fun _ _ _ _ _ => (pg_name (i := 8) sc_law.nd rfl (.inl rfl))) (fun _ _ _ _ _ => pm_yes) (fun _ _ _ _ _ => (pm_call G_l_few gd (hr.mono (by first | decide | omega)) (by rfl) g_l_few F_l_few.kp b_l_few (pm_go (pv 1) pm_gno)))).weak fun _ _ _ h => lcR_of gb_name (by decide) h))
    (pm_seq (pm_asg (i := 4) sc_law.nd rfl (.inl rfl) ((pm_calm (xc := (xcL ad)) (pe_mkXM (xc := (xcL ad)) L.mk_Load G_Load_init gd (hr.mono (by first | decide | omega)) (by rfl) L.g_Load b_Load_init takes_never (pm_ge (pm_callTy cr_tupW (by rfl) m_tuple (by decide +kernel) (pm_qcons (((pe_lc (own := [("_law_row", 14)]) (g := (gName 14)) rfl sc_law.nd (pi_sq (K := K) rfl ((pm_get (isC := (fun C => C = ad 5)) (pm_ix (ixr_W (K := K) rfl) ((pm_var (pv 3))).q (pm_int).q (fun _ _ => rfl)) L.ga_Load_rows)).q) (blkOk_by (N := N_law) (sc := defScope s_law) (by decide +kernel)) (fun _ _ _ _ _ => (pg_name (i := 14) sc_law.nd rfl (.inl rfl))) (fun _ _ _ _ _ => (pts_one (pm_tcmp (op_gtW ⟨gd, hr.units, rfl, sm⟩) ((pm_call G_l_draw gd (hr.mono (by first | decide | omega)) (by rfl) g_l_draw F_l_draw.kp b_l_draw (pm_go (pv 1) (pm_ge pm_int pm_gno)))).q (pm_int).q (by rfl)))) (fun _ _ _ _ _ => (pm_var (pv 14)))).weak fun _ _ _ h => lc_of gb_name (by decide) h)).lq pm_qnil)) pm_gno)))).vd)
    (pm_seq (pm_asg (i := 5) sc_law.nd rfl (.inl rfl) ((pm_calm (xc := (xcL ad)) (pe_mkXM (xc := (xcL ad)) L.mk_Load G_Load_init gd (hr.mono (by first | decide | omega)) (by rfl) L.g_Load b_Load_init takes_never (pm_ge (pm_callTy cr_tupW (by rfl) m_tuple (by decide +kernel) (pm_qcons (((pe_lc (own := [("_law_place", 15), ("_law_litres", 16)]) (g := (gTup K 2 (gCons (gName 15) (gCons (gName 16) gNil)))) rfl sc_law.nd (pi_sq (K := K) rfl ((pm_get (isC := (fun C => C = ad 5)) (pm_var (pv 4)) L.ga_Load_rows)).q) (blkOk_by (N := N_law) (sc := defScope s_law) (by decide +kernel)) (fun _ _ _ _ _ => (pg_tup rfl (pgs_cons (pg_name (i := 15) sc_law.nd rfl (.inl rfl)) (pgs_cons (pg_name (i := 16) sc_law.nd rfl (.inl rfl)) pgs_nil)))) (fun _ _ _ _ _ => pm_yes) (fun _ _ _ _ _ => (pm_tup (pm_acons (pm_var (pv 15)) (pm_acons (pm_op op_addW (pm_int).q ((pm_call G_l_draw gd (hr.mono (by first | decide | omega)) (by rfl) g_l_draw F_l_draw.kp b_l_draw (pm_go (pv 1) (pm_ge (pm_var (pv 16)) pm_gno)))).q) pm_anil))))).weak fun _ _ _ h => lc_of (gb_tup (gb_cons gb_name (gb_cons gb_name gb_nil))) (by decide) h)).lq pm_qnil)) pm_gno)))).vd)
    (pm_seq (pm_asg (i := 6) sc_law.nd rfl (.inr rfl) ((pm_op op_addW ((pm_var (pv 3))).q ((pm_lst (pm_acons (pm_var (pv 4)) (pm_acons (pm_var (pv 5)) (pm_acons (pm_calm (xc := (xcL ad)) (pe_mkXM (xc := (xcL ad)) L.mk_Load G_Load_init gd (hr.mono (by first | decide | omega)) (by rfl) L.g_Load b_Load_init takes_never (pm_ge (pm_get (isC := (fun C => C = ad 5)) (pm_ix (ixr_W (K := K) rfl) ((pm_var (pv 3))).q (pm_int).q (fun _ _ => rfl)) L.ga_Load_rows) pm_gno))) pm_anil))))).lq)).vd)
    (pm_seq (pm_setL ((ps_setLc (i := 7) (own := [("_law_load", 9)]) (g := (gName 9)) rfl sc_law.nd rfl rfl (sw_true rfl rfl rfl (by decide +kernel)) (pi_sq (K := K) rfl ((pm_var (pv 6))).q) (blkOk_by (N := N_law) (sc := defScope s_law) (by decide +kernel)) (fun _ _ _ _ _ => (pg_name (i := 9) sc_law.nd rfl (.inl rfl))) (fun _ _ _ _ _ => pm_yes) (fun _ _ _ _ _ => (pm_get (isC := (fun C => C = ad 5)) (pm_var (pv 9)) L.ga_Load_rows))).weak fun _ _ _ h => lc_of gb_name (by decide) h))
    (pm_seq (pm_forR PassesOwn.never rfl (by rfl) m_range (pm_acons pm_int pm_anil) (pg_name (i := 8) sc_law.nd rfl (.inl rfl)) gb_name
      (pm_seq (pm_unp (((pe_lc (own := [("_law_again", 13)]) (g := (gName 13)) rfl sc_law.nd (pi_range1 (by rfl) m_range (pm_acons pm_int pm_anil)) (blkOk_by (N := N_law) (sc := defScope s_law) (by decide +kernel)) (fun _ _ _ _ _ => (pg_name (i := 13) sc_law.nd rfl (.inl rfl))) (fun _ _ _ _ _ => pm_yes) (fun _ _ _ _ _ => (pm_ix (ixr_W (K := K) rfl) ((pm_var (pv 6))).q ((pm_call G_l_draw gd (hr.mono (by first | decide | omega)) (by rfl) g_l_draw F_l_draw.kp b_l_draw (pm_go (pv 1) (pm_ge pm_int pm_gno)))).q (fun _ _ => rfl)))).weak fun _ _ _ h => lcR_of gb_name (by decide) h)).lk (pg_unl rfl (pgs_cons (pg_name (i := 10) sc_law.nd rfl (.inl rfl)) (pgs_cons (pg_name (i := 11) sc_law.nd rfl (.inl rfl)) (pgs_cons (pg_name (i := 12) sc_law.nd rfl (.inl rfl)) pgs_nil)))) (gb_unl (gb_cons gb_name (gb_cons gb_name (gb_cons gb_name gb_nil)))))
    (pm_one1 (pm_if (PW.pt (pm_wor (pm_tnot (pm_tval (pm_call G_l_sums_right gd (hr.mono (by first | decide | omega)) (by rfl) g_l_sums_right F_l_sums_right.kp b_l_sums_right (pm_ge (pm_var (pv 10)) (pm_ge (pm_var (pv 11)) (pm_ge (pm_var (pv 12)) pm_gno)))))) (pm_wor1 (pm_tnot (pm_tval (pm_call G_l_parts_right gd (hr.mono (by first | decide | omega)) (by rfl) g_l_parts_right F_l_parts_right.kp b_l_parts_right (pm_ge (pm_var (pv 10)) (pm_ge (pm_var (pv 11)) pm_gno)))))))) (pm_one1 (pm_ret pm_bl)) pm_skip))))
    (pm_seq (pm_if (PW.pt (pm_wor (pm_tnot (pm_tval (pm_call G_l_built_right gd (hr.mono (by first | decide | omega)) (by rfl) g_l_built_right F_l_built_right.kp b_l_built_right (pm_ge (pm_ix (ixr_W (K := K) rfl) ((pm_var (pv 3))).q (pm_int).q (fun _ _ => rfl)) pm_gno)))) (pm_wor (pm_tninO (isC := (fun C => C = ad 5)) (calmF G_Load_contains) gd (hr.mono (by first | decide | omega)) b_Load_contains (pm_ix (ixr_W (K := K) rfl) ((pm_var (pv 3))).q (pm_int).q (fun _ _ => rfl)) (pm_var (pv 4)) L.ct_Load_Load_contains) (pm_wor1 (pm_tninO (isC := (fun C => C = ad 5)) (calmF G_Load_contains) gd (hr.mono (by first | decide | omega)) b_Load_contains (pm_var (pv 4)) (pm_var (pv 5)) L.ct_Load_Load_contains))))) (pm_one1 (pm_ret pm_bl)) pm_skip)
    (pm_one1 (pm_if (pm_tcmp (op_neW ⟨gd, hr.units, rfl, sm⟩) (((pe_lc (own := [("_law_load", 9)]) (g := (gName 9)) rfl sc_law.nd (pi_sq (K := K) rfl ((pm_var (pv 6))).q) (blkOk_by (N := N_law) (sc := defScope s_law) (by decide +kernel)) (fun _ _ _ _ _ => (pg_name (i := 9) sc_law.nd rfl (.inl rfl))) (fun _ _ _ _ _ => pm_yes) (fun _ _ _ _ _ => (pm_get (isC := (fun C => C = ad 5)) (pm_var (pv 9)) L.ga_Load_rows))).weak fun _ _ _ h => lc_of gb_name (by decide) h)).lq ((pm_var (pv 7))).q (by rfl)) (pm_one1 (pm_ret pm_bl)) pm_skip))))))))))
    (pm_one1 (pm_ret pm_bl))).weak fun D σ H h => tS_any (xw := xwS (xcL ad) noW) h)), law_run hs few (by decide) hm q⟩

end
end Wp.K33

namespace Wp.K33
open PySem PySem.Spec PyProof.Rows L2 Evl Wp Pg
section
variable {P : Program} {w : World} {K : PySem.W.Frag} {mg : Str → Option Value} {base : Heap}
theorem okH_is_number {f : Addr} {fd : FuncData} (F : Fun K "is_number" "is_number" s_is_number f fd) (m_bool : mg "bool" = none) (m_int : mg "int" = none) (m_isinstance : mg "isinstance" = none) : Cn.FnW P w K mg base 1 f fd ["value"] (spOf M_is_number) :=
  fn_ofW F sc_is_number (by decide) fun cdv A outer s H E p gd hr hot =>
    (pm_one1 (pm_ret (pm_and (pm_isi kit_int (by rfl) m_isinstance (pm_var (pv 0)) (pe_bltn (v := .ty "int") (by rfl) m_int (by decide +kernel) rfl)) (pm_one (pm_not (pm_isi kit_bool (by rfl) m_isinstance (pm_var (pv 0)) (pe_bltn (v := .ty "bool") (by rfl) m_bool (by decide +kernel) rfl)))))))
theorem okH_is_number_within {f : Addr} {fd : FuncData} (F : Fun K "is_number_within" "is_number_within" s_is_number_within f fd) {f_is_number : Addr} {fd_is_number : FuncData} (G_is_number : Cn.FnW P w K mg base 1 f_is_number fd_is_number ["value"] (spOf M_is_number)) (g_is_number : mg "is_number" = some (.ref f_is_number)) (F_is_number : Fun K "is_number" "is_number" s_is_number f_is_number fd_is_number) (b_is_number : Binds K fd_is_number ["value"] []) : Cn.FnW P w K mg base 2 f fd ["value", "low", "high"] (spOf HM_is_number_within) :=
  fn_ofW F sc_is_number_within (by decide) fun cdv A outer s H E p gd hr hot =>
    (pm_one1 (pm_ret (pm_and (pm_callW G_is_number gd (hr.mono (by first | decide | omega)) hot (.head _) (by rfl) g_is_number F_is_number.kp b_is_number (pm_ge (pm_var (pv 0)) pm_gno)) (pm_one (pm_chain op_leI op_leI ((pm_var (pv 1))).q ((pm_var (pv 0))).q ((pm_var (pv 2))).q)))))
theorem okH_is_place {f : Addr} {fd : FuncData} (F : Fun K "is_place" "is_place" s_is_place f fd) {t_MAX_PLACE : Tok} (k_MAX_PLACE : mg "MAX_PLACE" = some (.int 1000000 t_MAX_PLACE)) {f_is_number_within : Addr} {fd_is_number_within : FuncData} (G_is_number_within : Cn.FnW P w K mg base 2 f_is_number_within fd_is_number_within ["value", "low", "high"] (spOf HM_is_number_within)) (g_is_number_within : mg "is_number_within" = some (.ref f_is_number_within)) (F_is_number_within : Fun K "is_number_within" "is_number_within" s_is_number_within f_is_number_within fd_is_number_within) (b_is_number_within : Binds K fd_is_number_within ["value", "low", "high"] []) : Cn.FnW P w K mg base 3 f fd ["value"] (spOf HM_is_place) :=
  fn_ofW F sc_is_place (by decide) fun cdv A outer s H E p gd hr hot =>
    (pm_one1 (pm_ret (pm_callW G_is_number_within gd (hr.mono (by first | decide | omega)) hot (.head _) (by rfl) g_is_number_within F_is_number_within.kp b_is_number_within (pm_ge (pm_var (pv 0)) (pm_ge (pm_neg (pm_gi (by rfl) k_MAX_PLACE)) (pm_ge (pm_gi (by rfl) k_MAX_PLACE) pm_gno))))))
theorem okH_Load_getitem {ad : Nat → Addr} {f : Addr} {fd : FuncData} (sm : ∃ o, base.get? sysModules = some o) (F : Fun K "__getitem__" "Load.__getitem__" s_Load_getitem f fd) (ga : ∀ C, (fun C => C = ad 5) C → Cls K C ∧ NoAttr K C "rows") (m_sum : mg "sum" = none) {f_is_place : Addr} {fd_is_place : FuncData} (G_is_place : Cn.FnW P w K mg base 3 f_is_place fd_is_place ["value"] (spOf HM_is_place)) (g_is_place : mg "is_place" = some (.ref f_is_place)) (F_is_place : Fun K "is_place" "is_place" s_is_place f_is_place fd_is_place) (b_is_place : Binds K fd_is_place ["value"] []) : Cn.FnW P w K mg base 4 f fd ["self", "at"] (spOf (HM_Load_getitem ad)) :=
  fn_ofW F sc_Load_getitem (by decide) fun cdv A outer s H E p gd hr hot =>
    (pm_seq (pm_if (pm_tnot (pm_tval (pm_callW G_is_place gd (hr.mono (by first | decide | omega)) hot (.head _) (by rfl) g_is_place F_is_place.kp b_is_place (pm_ge (pm_var (pv 1)) pm_gno)))) (pm_one1 pm_never) pm_skip)
    (pm_one1 (pm_ret (pm_callB (cr_sumH ⟨p, hot, .head _⟩) (by rfl) m_sum (by decide +kernel) (pm_qcons (((L2H.pe_lcH (own := [("place", 2), ("litres", 3)]) (g := (gTup K 2 (gCons (gName 2) (gCons (gName 3) gNil)))) hot (.head _) sc_Load_getitem.nd (L2H.pi_sqH (K := K) rfl ((pm_get (isC := (fun C => C = ad 5)) (pm_var (pv 0)) ga)).q) (blkOk_by (N := N_Load_getitem) (sc := defScope s_Load_getitem) (by decide +kernel)) (fun _ _ _ _ _ => (L2H.pg_tupH ⟨p, hot, .head _⟩ (pgs_cons (pg_name (i := 2) sc_Load_getitem.nd rfl (.inl rfl)) (pgs_cons (pg_name (i := 3) sc_Load_getitem.nd rfl (.inl rfl)) pgs_nil)))) (fun _ _ _ _ _ => (pts_one (pm_tcmp op_eqI ((pm_var (pv 2))).q ((pm_var (pv 1))).q (by rfl)))) (fun _ _ _ _ _ => (pm_var (pv 3)))).weak fun _ _ _ h => lc_of (gb_tup (gb_cons gb_name (gb_cons gb_name gb_nil))) (by decide) h)).lq pm_qnil)))))
end
end Wp.K33

/-! the least way, side by side, from the farthest bed on -/
namespace Pg
open PySem PySem.Spec PyProof.Rows L2 Evl Wp
def near (base : Int) : List Bed → Int
  | [] => base
  | r :: _ => r.1
def sideW (c base : Int) : Int → List Bed → Int
  | _, [] => 0
  | tt, r :: rs => 2 * (r.1 - near base rs) * cans (tt + r.2) c + sideW c base (tt + r.2) rs
def sm (bs : List Bed) : Int := (bs.map (·.2)).sum
abbrev Up (bs : List Bed) : Prop := bs.Pairwise fun a b => a.1 < b.1
def gW (t c : Int) (bs : List Bed) (p : Int × Int) : Int := 2 * (p.2 - p.1) * cans (Cn.litres t bs p.1 p.2) c
def leftR (t : Int) (bs : List Bed) : List Bed := (bs.filter fun x => decide (x.1 < t)).map fun x => (t - x.1, x.2)
def rightR (t : Int) (bs : List Bed) : List Bed := (bs.filter fun x => decide (t < x.1)).map fun x => (x.1 - t, x.2)
end Pg

namespace Pg
open PySem PySem.Spec PyProof.Rows L2 Evl Wp
/-! ### sizes -/
theorem okI {i : Int} (h : i.natAbs ≤ 1000000000000000000000000000000) : Cn.okV (10 ^ 39) (.int i) = true := by
  have : (10 : Nat) ^ 39 = 1000000000000000000000000000000000000000 := by decide
  simp only [Cn.okV, decide_eq_true_eq]
  omega
theorem sz_garden {t c : Int} {bs : List Bed} (ht : -2000000 ≤ t ∧ t ≤ 2000000) (hc : 0 ≤ c ∧ c ≤ 1000000000000) (hb : ∀ b ∈ bs, -2000000 ≤ b.1 ∧ b.1 ≤ 2000000 ∧ 0 ≤ b.2 ∧ b.2 ≤ 1000000000000) (few : bs.length ≤ 40) : Cn.Sz (10 ^ 39) 20000 3 (gardenD t c bs) := by
  have z : Cn.Sz (10 ^ 39) 19000 2 (bedsD bs) := by
    refine Cn.sz_tup (fun d hd => ?_) ?_ (fun d hd => ?_) (by omega)
    · obtain ⟨x, hx, rfl⟩ := List.mem_map.mp hd
      have := hb x hx
      simp only [bedD, Cn.okV, Cn.okVAll, Bool.and_true, Bool.and_eq_true]
      exact ⟨okI (by omega), okI (by omega)⟩
    · have : ∀ l : List Bed, Cn.wvAll (l.map bedD) ≤ 302 * l.length := by
        intro l
        induction l with
        | nil => simp [Cn.wvAll]
        | cons x l ih =>
          simp only [List.map_cons, bedD, Cn.wvAll, Cn.wv, List.length_cons] at ih ⊢
          omega
      have := this bs
      omega
    · obtain ⟨x, hx, rfl⟩ := List.mem_map.mp hd
      simp [bedD, Cn.dv, Cn.dvAll]
  refine Cn.sz_tup (by
    simp only [List.forall_mem_cons, List.not_mem_nil, false_implies, implies_true, and_true]
    exact ⟨okI (by omega), okI (by omega), z.ok⟩) (by have := z.w; simp only [Cn.wvAll, Cn.wv]; omega) (by
    simp only [List.forall_mem_cons, List.not_mem_nil, false_implies, implies_true, and_true]
    have := z.p
    exact ⟨by simp [Cn.dv], by simp [Cn.dv], by omega⟩) (by omega)
theorem shows {d : PyData} {k n : Nat} (z : Cn.Sz (10 ^ 39) k n d) (hk : k ≤ 1000000) (hn : n ≤ 50) : d.showable = true ∧ d.shown.length ≤ 1000000 ∧ d.depth ≤ 50 := by
  obtain ⟨h1, h2, h3⟩ := Cn.okV_show (by decide) _ z.ok
  have := z.w
  have := z.p
  exact ⟨h1, by omega, by omega⟩
/-- the litres of some beds -/
theorem some_le {bs : List Bed} (h0 : ∀ b ∈ bs, 0 ≤ b.2) (h1 : ∀ b ∈ bs, b.2 ≤ 1000000000000) (few : bs.length ≤ 40) (p : Bed → Bool) : 0 ≤ ((bs.filter p).map (·.2)).sum ∧ ((bs.filter p).map (·.2)).sum ≤ 40000000000000 := by
  rw [sg_filter]
  refine ⟨sg_nn fun b hb => ?_, ?_⟩
  · have := h0 b hb
    split <;> omega
  · have a1 : sg (fun x : Bed => if p x = true then x.2 else 0) bs ≤ sg (fun _ => 1000000000000) bs := sg_le fun b hb => by
      have := h0 b hb
      have := h1 b hb
      split <;> omega
    have a2 : ∀ l : List Bed, sg (fun _ => (1000000000000 : Int)) l = 1000000000000 * l.length := by
      intro l
      induction l with
      | nil => rfl
      | cons x l ih => rw [sg_cons, ih, List.length_cons]; omega
    rw [a2] at a1
    omega
section
variable {t c : Int} {bs : List Bed}
theorem Gv.sz (g : Gv t c bs) : Cn.Sz (10 ^ 39) 20000 3 (gardenD t c bs) := by
  have := g.t
  have := g.c
  have := g.few
  refine sz_garden (by omega) (by omega) (fun x hx => ?_) (by omega)
  have := g.p x hx
  have := g.l x hx
  omega
theorem Gv.tt (g : Gv t c bs) : 0 ≤ tot bs ∧ tot bs ≤ 40000000000000 := by
  have := some_le (bs := bs) (fun x hx => by have := g.l x hx; omega) (fun x hx => by have := g.l x hx; omega) (by have := g.few; omega) (fun _ => true)
  rw [List.filter_eq_self.mpr (fun _ _ => rfl)] at this
  exact this
theorem Gv.cs (g : Gv t c bs) : 0 ≤ cans (tot bs) c ∧ cans (tot bs) c ≤ 50000000000000 := by
  have h := g.tt
  have := g.c
  have a7 := cans_nn (m := tot bs) (c := c) (by omega) h.1
  have a8 : cans (tot bs) c ≤ tot bs + c - 1 := Int.ediv_le_self _ (by omega)
  omega
end
/-! ### texts of numbers -/
def nL (i : Int) : List Nat := (Str.ofString (toString i)).cps.toList
theorem log_i {i : Int} (h : i.natAbs ≤ 1000000000000000000000000000000) : i.natAbs.log2 < 1920 := by
  by_cases z : i.natAbs = 0
  · rw [z]; decide
  · rw [Nat.log2_lt z]
    have e : (2 : Nat) ^ 128 = 340282366920938463463374607431768211456 := by decide
    have h1 : i.natAbs < 2 ^ 128 := by omega
    exact Nat.lt_of_lt_of_le h1 (Nat.pow_le_pow_right (by decide) (by decide))
theorem lit (x : String) : Str.ofString x = SX.S (x.toList.map Char.toNat) := by rw [Str.ofString_eq_toList]
end Pg

namespace Wp.K33
open PySem PySem.Spec PyProof.Rows L2 Evl Wp Pg
local macro_rules
  | `(tactic| simp only [$xs,*] $[$l]?) => do
    let ys := xs.getElems.filter fun x => x.raw[2].getId != `wpx1
    if ys.size == xs.getElems.size then Lean.Macro.throwUnsupported
    if ys.size == 0 then `(tactic| simp only [mV_e, mC_e, mO_e, mOp_e, mUn_e, mT_e, mNotT_e, mAndT_e, mOrT_e, mAnd_e, mOr_e, mNot_e, mIf_e, mChain_e, mNil_e, mCons_e, mTup_e, mLst_e, mLk_e, mCat_e, mCB_e, mCL_e, vD_e, vL_e, vM0_e, mSkip_e, mSeq_e, mAsg_e, mRet_e, mIfS_e, mDrop_e, vNil_e, vCons_e, mPar_e, bName_e, bTup_e, bNil_e, bCons_e, mUnp_e, mFor_e, mForR_e, mForR2_e, mApp_e, mYes_e, mLc_e, mLcR_e, mLcR2_e, mLcZ_e, gNo_e, gE_e, gO_e, mCall_e, mFn_e, mIsi_e, mSS_e, mNo_e, mPt_e, mSl_e, mDG_e, mDGd_e, mDIn_e, mPut_e, mSD_e, mRetO_e, vDof_e, mForZ_e, mNG_e, mNGd_e, mNPut_e, vN0_e, mLcN_e, mDGL_e, mForD_e, asN, mLc2_e, mForZT_e, mRep_e, mIfT_e, mExt_e, bUnl_e, mLcR3_e, mLZ_e, wipeE, pow6, pow7, pow9, pow15, pow18, pow39, asM, List.replicate, List.cons_append, List.nil_append, List.getElem?_cons_zero, List.getElem?_cons_succ, enAll, List.set_cons_zero, List.set_cons_succ, Nat.reduceSub, List.length_cons, List.length_nil, decide_eq_true_eq, Nat.reduceAdd, Nat.reduceLeDiff, true_and, Bool.not_true, Bool.not_false, if_true, if_false, Bool.false_eq_true, Bool.not_eq_true', decide_eq_false_iff_not, Int.reduceLE, Int.reduceLT, Int.reduceNeg, Int.reduceSub, Int.reduceAdd, and_true, PyData.int.injEq, Nat.zero_add, Int.zero_add, Int.sub_zero, addW_ii, addW_ib, addW_bi, addW_tt, addW_ll, subW_ii, subW_ib, subW_bi, mulW_ii, fdivW_ii, modW_ii, negW_i, eqW_ii, eqW_ss, eqW_t0, eqW_l0, neW_ii, neW_ss, neW_t0, neW_l0, ltW_ii, leW_ii, gtW_ii, geW_ii, isW_n, isntW_n, ixW_l, ixW_t, lenW_l, lenW_t, absW_i, intW_i, intW_b, tupW_l, tupW_t, lstW_l, lstW_t, sumW_l, allW_l, anyW_l, minW_2, maxW_2, slW_t, slW_l, revW_t, revW_l, reprW_1, strW_i, strW_b, sortW_l, sortW_t, Option.some.injEq, exists_eq_left', exists_eq_left, dKey, exists_and_left, exists_const, isRf_n, isRf_b, isRf_i, isRf_s, isRf_l, isRf_t, mTry_e, mRaise_e, mRaise0_e, eqS_ss, mPop_e, mAsgX_e, mRetX_e, mDropX_e, mCallX_e, mMk_e, mMeth_e, mMeth0_e, mGet_e, mSet_e, mFnX_e, mCalm_e, mIsiR_e, mXf_e, mXis_e, mCnt_e, mSpec_e, calmM_e, mNever_e, eqI_ii, List.getD_cons_zero, List.getD_cons_succ, ne_eq, Nat.reduceEqDiff, Nat.add_eq_zero_iff, Nat.reduceLT, and_false, not_false_eq_true, Sl.d.injEq, Sl.x.injEq, exists_eq', exists_eq, exists_and_right, exists_const, and_self, List.map_nil, List.map_cons] $[$l]?) else `(tactic| simp only [$ys,*, mV_e, mC_e, mO_e, mOp_e, mUn_e, mT_e, mNotT_e, mAndT_e, mOrT_e, mAnd_e, mOr_e, mNot_e, mIf_e, mChain_e, mNil_e, mCons_e, mTup_e, mLst_e, mLk_e, mCat_e, mCB_e, mCL_e, vD_e, vL_e, vM0_e, mSkip_e, mSeq_e, mAsg_e, mRet_e, mIfS_e, mDrop_e, vNil_e, vCons_e, mPar_e, bName_e, bTup_e, bNil_e, bCons_e, mUnp_e, mFor_e, mForR_e, mForR2_e, mApp_e, mYes_e, mLc_e, mLcR_e, mLcR2_e, mLcZ_e, gNo_e, gE_e, gO_e, mCall_e, mFn_e, mIsi_e, mSS_e, mNo_e, mPt_e, mSl_e, mDG_e, mDGd_e, mDIn_e, mPut_e, mSD_e, mRetO_e, vDof_e, mForZ_e, mNG_e, mNGd_e, mNPut_e, vN0_e, mLcN_e, mDGL_e, mForD_e, asN, mLc2_e, mForZT_e, mRep_e, mIfT_e, mExt_e, bUnl_e, mLcR3_e, mLZ_e, wipeE, pow6, pow7, pow9, pow15, pow18, pow39, asM, List.replicate, List.cons_append, List.nil_append, List.getElem?_cons_zero, List.getElem?_cons_succ, enAll, List.set_cons_zero, List.set_cons_succ, Nat.reduceSub, List.length_cons, List.length_nil, decide_eq_true_eq, Nat.reduceAdd, Nat.reduceLeDiff, true_and, Bool.not_true, Bool.not_false, if_true, if_false, Bool.false_eq_true, Bool.not_eq_true', decide_eq_false_iff_not, Int.reduceLE, Int.reduceLT, Int.reduceNeg, Int.reduceSub, Int.reduceAdd, and_true, PyData.int.injEq, Nat.zero_add, Int.zero_add, Int.sub_zero, addW_ii, addW_ib, addW_bi, addW_tt, addW_ll, subW_ii, subW_ib, subW_bi, mulW_ii, fdivW_ii, modW_ii, negW_i, eqW_ii, eqW_ss, eqW_t0, eqW_l0, neW_ii, neW_ss, neW_t0, neW_l0, ltW_ii, leW_ii, gtW_ii, geW_ii, isW_n, isntW_n, ixW_l, ixW_t, lenW_l, lenW_t, absW_i, intW_i, intW_b, tupW_l, tupW_t, lstW_l, lstW_t, sumW_l, allW_l, anyW_l, minW_2, maxW_2, slW_t, slW_l, revW_t, revW_l, reprW_1, strW_i, strW_b, sortW_l, sortW_t, Option.some.injEq, exists_eq_left', exists_eq_left, dKey, exists_and_left, exists_const, isRf_n, isRf_b, isRf_i, isRf_s, isRf_l, isRf_t, mTry_e, mRaise_e, mRaise0_e, eqS_ss, mPop_e, mAsgX_e, mRetX_e, mDropX_e, mCallX_e, mMk_e, mMeth_e, mMeth0_e, mGet_e, mSet_e, mFnX_e, mCalm_e, mIsiR_e, mXf_e, mXis_e, mCnt_e, mSpec_e, calmM_e, mNever_e, eqI_ii, List.getD_cons_zero, List.getD_cons_succ, ne_eq, Nat.reduceEqDiff, Nat.add_eq_zero_iff, Nat.reduceLT, and_false, not_false_eq_true, Sl.d.injEq, Sl.x.injEq, exists_eq', exists_eq, exists_and_right, exists_const, and_self, List.map_nil, List.map_cons] $[$l]?)
variable {ad : Nat → Addr} {b : Bt} {a : Addr} {R : PyData → Bt → Prop} {Z : Nat → Sl → Bt → Prop}
/-- data that a law may ask about -/
def okD (d : PyData) : Prop := Cn.okV (10 ^ 39) d = true
theorem okD_rf {d : PyData} (h : okD d) : isRf d = false := by
  unfold okD at h
  cases d with
  | dict kvs =>
    rcases Cn.odKv_inv (by simpa only [Cn.okV] using h) with rfl | rfl | rfl <;> rfl
  | _ => rfl
theorem okD_all : ∀ {ds : List PyData}, Cn.okVAll (10 ^ 39) ds = true ↔ ∀ d ∈ ds, okD d
  | [] => by simp [Cn.okVAll]
  | d :: ds => by
    rw [Cn.okVAll, Bool.and_eq_true, okD_all (ds := ds)]
    simp [okD]
theorem okD_tup {ds : List PyData} : okD (.tuple ds) ↔ ∀ d ∈ ds, okD d := by
  rw [← okD_all]
  unfold okD
  rw [Cn.okV.eq_6]
def inR (lo hi : Int) : PyData → Bool
  | .int x => decide (lo ≤ x ∧ x ≤ hi)
  | _ => false
def tupN (n : Nat) : PyData → Bool
  | .tuple ds => decide (ds.length = n)
  | _ => false
theorem within_any {d : PyData} {lo hi : Int} (h : isRf d = false) (q : R (.bool (inR lo hi d)) b) : M_is_number_within [.d d, .d (.int lo), .d (.int hi)] b R := by
  cases d with
  | int x => exact within_ex q
  | _ =>
    simp only [M_is_number_within, B_is_number_within, S_is_number_within_1, M_is_number, B_is_number, S_is_number_1, isI, isB, wpx1]
    first | exact q | exact ⟨h, q⟩ | exact ⟨h, h, q⟩
theorem place_any {d : PyData} (h : isRf d = false) (q : R (.bool (inR (-1000000) 1000000 d)) b) : M_is_place [.d d] b R := by
  simp only [M_is_place, B_is_place, S_is_place_1, wpx1]
  exact within_any h q
theorem tuple_any {d : PyData} {n : Nat} (h : isRf d = false) (q : R (.bool (tupN n d)) b) : M_is_tuple_of [.d d, .d (.int n)] b R := by
  cases d with
  | tuple ds =>
    refine tuple_ex ?_
    unfold tupN at q
    have e : decide ((ds.length : Int) = n) = decide (ds.length = n) := by
      by_cases h : ds.length = n
      · rw [decide_eq_true h, decide_eq_true (by omega)]
      · rw [decide_eq_false h, decide_eq_false (by omega)]
    rw [e]
    exact q
  | _ =>
    simp only [M_is_tuple_of, B_is_tuple_of, S_is_tuple_of_1, isT, wpx1]
    first | exact q | exact ⟨h, q⟩
def isRow : PyData → Bool
  | .tuple [p, l] => inR (-1000000) 1000000 p && inR 1 1000000000000000000 l
  | _ => false
def placeD : PyData → Int
  | .tuple (.int p :: _) => p
  | _ => 0
theorem two_of {ds : List PyData} (h : ds.length = 2) : ∃ p l, ds = [p, l] := by
  match ds, h with
  | [p, l], _ => exact ⟨p, l, rfl⟩
theorem isRow_not {d : PyData} (h : tupN 2 d = false) : isRow d = false := by
  cases d with
  | tuple ds =>
    unfold isRow
    split
    · rename_i e
      cases e
      simp [tupN] at h
    · rfl
  | _ => rfl
theorem isRow_is {d : PyData} (h : isRow d = true) : ∃ p l, d = .tuple [.int p, .int l] ∧ (-1000000 ≤ p ∧ p ≤ 1000000) ∧ 1 ≤ l ∧ l ≤ 1000000000000000000 := by
  unfold isRow at h
  split at h
  · rename_i p l
    rw [Bool.and_eq_true] at h
    obtain ⟨h1, h2⟩ := h
    cases p with
    | int p =>
      cases l with
      | int l => exact ⟨p, l, rfl, of_decide_eq_true h1, of_decide_eq_true h2⟩
      | _ => cases h2
    | _ => cases h1
  · cases h
theorem row_any {d : PyData} (h : okD d) (q : R (.bool (isRow d)) b) : M_is_load_row [.d d] b R := by
  simp only [M_is_load_row, B_is_load_row, S_is_load_row_1, wpx1]
  refine tuple_any (n := 2) (okD_rf h) ?_
  cases h2 : tupN 2 d with
  | false =>
    rw [isRow_not h2] at q
    simp only [Bool.false_eq_true, if_false]
    exact q
  | true =>
    cases d with
    | tuple ds =>
      obtain ⟨p, l, rfl⟩ := two_of (of_decide_eq_true h2)
      have hs := okD_tup.mp h
      simp only [wpx1]
      refine ⟨_, rfl, place_any (okD_rf (hs p (by simp))) ?_⟩
      have e : isRow (.tuple [p, l]) = (inR (-1000000) 1000000 p && inR 1 1000000000000000000 l) := rfl
      rw [e] at q
      cases hp : inR (-1000000) 1000000 p with
      | false =>
        rw [hp, Bool.false_and] at q
        simp only [Bool.false_eq_true, if_false]
        exact q
      | true =>
        rw [hp, Bool.true_and] at q
        simp only [if_true]
        exact ⟨_, rfl, within_any (okD_rf (hs l (by simp))) q⟩
    | _ => cases h2
def rowsA : Int → List PyData → Bool
  | _, [] => true
  | last, d :: r => isRow d && (decide (last < placeD d) && rowsA (placeD d) r)
def rowsB : PyData → Bool
  | .tuple ds => decide (ds.length ≤ 50) && rowsA (-1000001) ds
  | _ => false
/-- the rows of a load -/
structure Rw (rs : List Bed) : Prop where
  few : rs.length ≤ 50
  p : ∀ x ∈ rs, -1000000 ≤ x.1 ∧ x.1 ≤ 1000000
  l : ∀ x ∈ rs, 1 ≤ x.2 ∧ x.2 ≤ 1000000000000000000
  asc : rs.Pairwise fun a b => a.1 < b.1
def rowsD (rs : List Bed) : PyData := .tuple (rs.map bedD)
theorem rowsB_rw {d : PyData} (h : rowsB d = true) : ∃ rs, d = rowsD rs ∧ Rw rs := by
  have key : ∀ (ds : List PyData) (last : Int), rowsA last ds = true → ∃ rs : List Bed, ds = rs.map bedD ∧ (∀ x ∈ rs, (-1000000 ≤ x.1 ∧ x.1 ≤ 1000000) ∧ (1 ≤ x.2 ∧ x.2 ≤ 1000000000000000000) ∧ last < x.1) ∧ rs.Pairwise fun a b => a.1 < b.1 := by
    intro ds
    induction ds with
    | nil => exact fun last _ => ⟨[], rfl, fun x hx => (nomatch hx), List.Pairwise.nil⟩
    | cons d ds ih =>
      intro last h
      unfold rowsA at h
      simp only [Bool.and_eq_true, decide_eq_true_eq] at h
      obtain ⟨h1, h2, h3⟩ := h
      obtain ⟨p, l, rfl, hp, hl⟩ := isRow_is h1
      have hlt : last < p := h2
      obtain ⟨rs, rfl, g1, g2⟩ := ih p h3
      refine ⟨(p, l) :: rs, rfl, fun x hx => ?_, List.Pairwise.cons (fun y hy => (g1 y hy).2.2) g2⟩
      rcases List.mem_cons.mp hx with rfl | hx
      · exact ⟨hp, hl, hlt⟩
      · have := g1 x hx
        exact ⟨this.1, this.2.1, by omega⟩
  cases d with
  | tuple ds =>
    have h : (decide (ds.length ≤ 50) && rowsA (-1000001) ds) = true := h
    simp only [Bool.and_eq_true, decide_eq_true_eq] at h
    obtain ⟨rs, rfl, g1, g2⟩ := key ds _ h.2
    exact ⟨rs, rfl, ⟨by have := h.1; rwa [List.length_map] at this, fun x hx => (g1 x hx).1, fun x hx => (g1 x hx).2.1, g2⟩⟩
  | _ => cases h
theorem rw_rowsB {rs : List Bed} (h : Rw rs) : rowsB (rowsD rs) = true := by
  have key : ∀ (l : List Bed) (last : Int), (∀ x ∈ l, (-1000000 ≤ x.1 ∧ x.1 ≤ 1000000) ∧ (1 ≤ x.2 ∧ x.2 ≤ 1000000000000000000)) → (∀ x ∈ l, last < x.1) → l.Pairwise (fun a b => a.1 < b.1) → rowsA last (l.map bedD) = true := by
    intro l
    induction l with
    | nil => exact fun _ _ _ _ => rfl
    | cons x l ih =>
      intro last h1 h2 h3
      rw [List.map_cons]
      unfold rowsA
      have hx := h1 x (List.mem_cons_self ..)
      have hb : isRow (bedD x) = true := by
        show (decide _ && decide _) = true
        rw [decide_eq_true hx.1, decide_eq_true hx.2]
        rfl
      have hl : last < placeD (bedD x) := h2 x (List.mem_cons_self ..)
      rw [hb, decide_eq_true hl, Bool.true_and, Bool.true_and]
      cases h3 with
      | cons h4 h5 => exact ih _ (fun y hy => h1 y (List.mem_cons_of_mem _ hy)) (fun y hy => h4 y hy) h5
  show (decide _ && _) = true
  rw [decide_eq_true (by rw [List.length_map]; exact h.few), Bool.true_and]
  exact key rs _ (fun x hx => ⟨h.p x hx, h.l x hx⟩) (fun x hx => by have := h.p x hx; omega) h.asc
theorem comp_id {t : WG1} {ml : WE} {E : Wp.Env} (f : PyData → PyData) (xs : List PyData) (b : Bt) (R : List PyData → Bt → Prop) (h : ∀ x ∈ xs, ∀ Q : PyData → Bt → Prop, Q (f x) b → t x E fun E1 => ml E1 b Q) (few : xs.length ≤ 100000) (q : R (xs.map f) b) : mComp t mYes ml E xs [] b R := by
  have := comp_tm (t := t) (ml := ml) (E := E) id f xs b R h few q
  rwa [List.map_id] at this
/-- the places of ascending rows -/
def asc : Int → List Int → Bool
  | _, [] => true
  | last, p :: r => decide (last < p) && asc p r
theorem asc_prs : ∀ (p : Int) (r : List Int), ((prs (p :: r)).all fun q : Int × Int => decide (q.1 < q.2)) = asc p r
  | p, [] => rfl
  | p, x :: r => by
    rw [prs, List.all_cons, asc_prs x r, asc]
theorem ascends_ok {ps : List Int} (few : ps.length ≤ 1000) (h : ∀ p ∈ ps, -1000000 ≤ p) (q : R (.bool (asc (-1000001) ps)) b) : M_ascends [.d (.list (ps.map .int))] b R := by
  simp only [M_ascends, B_ascends, S_ascends_1, cut_1, wpx1]
  rw [zip_prs PyData.int]
  refine comp_tm (fun p : Int × Int => PyData.tuple [.int p.1, .int p.2]) (fun p : Int × Int => PyData.bool (decide (p.1 < p.2))) (prs ps) b _ (fun x hx Q hQ => ?_) (by have := prs_len ps; omega) ?_
  · simp only [wpx1]
    exact hQ
  · refine ⟨(prs ps).map fun p => decide (p.1 < p.2), by rw [List.map_map]; rfl, ?_⟩
    have e : ((prs ps).map fun p : Int × Int => decide (p.1 < p.2)).all id = asc (-1000001) ps := by
      rw [List.all_map]
      cases ps with
      | nil => rfl
      | cons p r =>
        have hp := h p (List.mem_cons_self ..)
        have := asc_prs p r
        rw [asc, decide_eq_true (by omega), Bool.true_and, ← this]
        rfl
    rw [e]
    exact q
theorem rowsA_split : ∀ (ds : List PyData) (last : Int), ds.all isRow = true → ∃ rs : List Bed, ds = rs.map bedD ∧ (∀ x ∈ rs, -1000000 ≤ x.1) ∧ rowsA last ds = asc last (rs.map (·.1))
  | [], last, _ => ⟨[], rfl, fun x hx => (nomatch hx), rfl⟩
  | d :: ds, last, h => by
    rw [List.all_cons, Bool.and_eq_true] at h
    obtain ⟨p, l, rfl, hp, hl⟩ := isRow_is h.1
    obtain ⟨rs, rfl, h1, h2⟩ := rowsA_split ds p h.2
    refine ⟨(p, l) :: rs, rfl, fun x hx => ?_, ?_⟩
    · rcases List.mem_cons.mp hx with rfl | hx
      · exact hp.1
      · exact h1 x hx
    · rw [rowsA, h.1, Bool.true_and, List.map_cons, asc]
      show (decide (last < p) && rowsA p _) = _
      rw [h2]
theorem rowsA_all : ∀ {ds : List PyData} {last : Int}, rowsA last ds = true → ds.all isRow = true
  | [], _, _ => rfl
  | d :: ds, last, h => by
    rw [rowsA, Bool.and_eq_true, Bool.and_eq_true] at h
    rw [List.all_cons, h.1, rowsA_all h.2.2]
    rfl
theorem are_rows_any {d : PyData} (h : okD d) (q : R (.bool (rowsB d)) b) : M_are_rows [.d d] b R := by
  simp only [M_are_rows, B_are_rows, S_are_rows_5, wpx1]
  cases d with
  | tuple ds =>
    simp only [isT, Bool.true_eq_false, wpx1]
    have e : rowsB (.tuple ds) = (decide (ds.length ≤ 50) && rowsA (-1000001) ds) := rfl
    rw [e] at q
    have hs := okD_tup.mp h
    by_cases h50 : ds.length ≤ 50
    · rw [decide_eq_true h50, Bool.true_and] at q
      rw [if_neg (by omega)]
      simp only [S_are_rows_3, wpx1]
      refine comp_id (fun d => .bool (isRow d)) ds b _ (fun x hx Q hQ => ?_) (by omega) ?_
      · simp only [wpx1]
        exact row_any (hs x hx) hQ
      · refine ⟨ds.map isRow, by rw [List.map_map]; rfl, ?_⟩
        rw [List.all_map]
        have ea : ds.all (id ∘ isRow) = ds.all isRow := rfl
        rw [ea]
        cases ha : ds.all isRow with
        | false =>
          have : rowsA (-1000001) ds = false := by
            cases hr : rowsA (-1000001) ds
            · rfl
            · rw [rowsA_all hr] at ha; cases ha
          rw [this] at q
          simp only [S_are_rows_2, wpx1]
          exact q
        | true =>
          obtain ⟨rs, rfl, h1, h2⟩ := rowsA_split ds (-1000001) ha
          rw [h2] at q
          simp only [S_are_rows_1, Bool.true_eq_false, if_false, wpx1]
          rw [List.length_map] at h50
          refine comp_tm bedD (fun x => .int x.1) rs b _ (fun x hx Q hQ => ?_) (by omega) ?_
          · simp only [bedD, wpx1]
            exact hQ
          · have em : rs.map (fun x : Bed => PyData.int x.1) = (rs.map (·.1)).map PyData.int := by rw [List.map_map]; rfl
            rw [em]
            refine ascends_ok (by rw [List.length_map]; omega) (fun p hp => ?_) q
            obtain ⟨x, hx, rfl⟩ := List.mem_map.mp hp
            exact h1 x hx
    · rw [decide_eq_false h50, Bool.false_and] at q
      rw [if_pos (by omega)]
      simp only [S_are_rows_4, wpx1]
      exact q
  | _ =>
    simp only [isT, S_are_rows_4, wpx1]
    first | exact q | exact ⟨okD_rf h, q⟩
end Wp.K33

namespace Wp.K33
open PySem PySem.Spec PyProof.Rows L2 Evl Wp Pg
local macro_rules
  | `(tactic| simp only [$xs,*] $[$l]?) => do
    let ys := xs.getElems.filter fun x => x.raw[2].getId != `wpx1
    if ys.size == xs.getElems.size then Lean.Macro.throwUnsupported
    if ys.size == 0 then `(tactic| simp only [mV_e, mC_e, mO_e, mOp_e, mUn_e, mT_e, mNotT_e, mAndT_e, mOrT_e, mAnd_e, mOr_e, mNot_e, mIf_e, mChain_e, mNil_e, mCons_e, mTup_e, mLst_e, mLk_e, mCat_e, mCB_e, mCL_e, vD_e, vL_e, vM0_e, mSkip_e, mSeq_e, mAsg_e, mRet_e, mIfS_e, mDrop_e, vNil_e, vCons_e, mPar_e, bName_e, bTup_e, bNil_e, bCons_e, mUnp_e, mFor_e, mForR_e, mForR2_e, mApp_e, mYes_e, mLc_e, mLcR_e, mLcR2_e, mLcZ_e, gNo_e, gE_e, gO_e, mCall_e, mFn_e, mIsi_e, mSS_e, mNo_e, mPt_e, mSl_e, mDG_e, mDGd_e, mDIn_e, mPut_e, mSD_e, mRetO_e, vDof_e, mForZ_e, mNG_e, mNGd_e, mNPut_e, vN0_e, mLcN_e, mDGL_e, mForD_e, asN, mLc2_e, mForZT_e, mRep_e, mIfT_e, mExt_e, bUnl_e, mLcR3_e, mLZ_e, wipeE, pow6, pow7, pow9, pow15, pow18, pow39, asM, List.replicate, List.cons_append, List.nil_append, List.getElem?_cons_zero, List.getElem?_cons_succ, enAll, List.set_cons_zero, List.set_cons_succ, Nat.reduceSub, List.length_cons, List.length_nil, decide_eq_true_eq, Nat.reduceAdd, Nat.reduceLeDiff, true_and, Bool.not_true, Bool.not_false, if_true, if_false, Bool.false_eq_true, Bool.not_eq_true', decide_eq_false_iff_not, Int.reduceLE, Int.reduceLT, Int.reduceNeg, Int.reduceSub, Int.reduceAdd, and_true, PyData.int.injEq, Nat.zero_add, Int.zero_add, Int.sub_zero, addW_ii, addW_ib, addW_bi, addW_tt, addW_ll, subW_ii, subW_ib, subW_bi, mulW_ii, fdivW_ii, modW_ii, negW_i, eqW_ii, eqW_ss, eqW_t0, eqW_l0, neW_ii, neW_ss, neW_t0, neW_l0, ltW_ii, leW_ii, gtW_ii, geW_ii, isW_n, isntW_n, ixW_l, ixW_t, lenW_l, lenW_t, absW_i, intW_i, intW_b, tupW_l, tupW_t, lstW_l, lstW_t, sumW_l, allW_l, anyW_l, minW_2, maxW_2, slW_t, slW_l, revW_t, revW_l, reprW_1, strW_i, strW_b, sortW_l, sortW_t, Option.some.injEq, exists_eq_left', exists_eq_left, dKey, exists_and_left, exists_const, isRf_n, isRf_b, isRf_i, isRf_s, isRf_l, isRf_t, mTry_e, mRaise_e, mRaise0_e, eqS_ss, mPop_e, mAsgX_e, mRetX_e, mDropX_e, mCallX_e, mMk_e, mMeth_e, mMeth0_e, mGet_e, mSet_e, mFnX_e, mCalm_e, mIsiR_e, mXf_e, mXis_e, mCnt_e, mSpec_e, calmM_e, mNever_e, eqI_ii, List.getD_cons_zero, List.getD_cons_succ, ne_eq, Nat.reduceEqDiff, Nat.add_eq_zero_iff, Nat.reduceLT, and_false, not_false_eq_true, Sl.d.injEq, Sl.x.injEq, exists_eq', exists_eq, exists_and_right, exists_const, and_self, List.map_nil, List.map_cons] $[$l]?) else `(tactic| simp only [$ys,*, mV_e, mC_e, mO_e, mOp_e, mUn_e, mT_e, mNotT_e, mAndT_e, mOrT_e, mAnd_e, mOr_e, mNot_e, mIf_e, mChain_e, mNil_e, mCons_e, mTup_e, mLst_e, mLk_e, mCat_e, mCB_e, mCL_e, vD_e, vL_e, vM0_e, mSkip_e, mSeq_e, mAsg_e, mRet_e, mIfS_e, mDrop_e, vNil_e, vCons_e, mPar_e, bName_e, bTup_e, bNil_e, bCons_e, mUnp_e, mFor_e, mForR_e, mForR2_e, mApp_e, mYes_e, mLc_e, mLcR_e, mLcR2_e, mLcZ_e, gNo_e, gE_e, gO_e, mCall_e, mFn_e, mIsi_e, mSS_e, mNo_e, mPt_e, mSl_e, mDG_e, mDGd_e, mDIn_e, mPut_e, mSD_e, mRetO_e, vDof_e, mForZ_e, mNG_e, mNGd_e, mNPut_e, vN0_e, mLcN_e, mDGL_e, mForD_e, asN, mLc2_e, mForZT_e, mRep_e, mIfT_e, mExt_e, bUnl_e, mLcR3_e, mLZ_e, wipeE, pow6, pow7, pow9, pow15, pow18, pow39, asM, List.replicate, List.cons_append, List.nil_append, List.getElem?_cons_zero, List.getElem?_cons_succ, enAll, List.set_cons_zero, List.set_cons_succ, Nat.reduceSub, List.length_cons, List.length_nil, decide_eq_true_eq, Nat.reduceAdd, Nat.reduceLeDiff, true_and, Bool.not_true, Bool.not_false, if_true, if_false, Bool.false_eq_true, Bool.not_eq_true', decide_eq_false_iff_not, Int.reduceLE, Int.reduceLT, Int.reduceNeg, Int.reduceSub, Int.reduceAdd, and_true, PyData.int.injEq, Nat.zero_add, Int.zero_add, Int.sub_zero, addW_ii, addW_ib, addW_bi, addW_tt, addW_ll, subW_ii, subW_ib, subW_bi, mulW_ii, fdivW_ii, modW_ii, negW_i, eqW_ii, eqW_ss, eqW_t0, eqW_l0, neW_ii, neW_ss, neW_t0, neW_l0, ltW_ii, leW_ii, gtW_ii, geW_ii, isW_n, isntW_n, ixW_l, ixW_t, lenW_l, lenW_t, absW_i, intW_i, intW_b, tupW_l, tupW_t, lstW_l, lstW_t, sumW_l, allW_l, anyW_l, minW_2, maxW_2, slW_t, slW_l, revW_t, revW_l, reprW_1, strW_i, strW_b, sortW_l, sortW_t, Option.some.injEq, exists_eq_left', exists_eq_left, dKey, exists_and_left, exists_const, isRf_n, isRf_b, isRf_i, isRf_s, isRf_l, isRf_t, mTry_e, mRaise_e, mRaise0_e, eqS_ss, mPop_e, mAsgX_e, mRetX_e, mDropX_e, mCallX_e, mMk_e, mMeth_e, mMeth0_e, mGet_e, mSet_e, mFnX_e, mCalm_e, mIsiR_e, mXf_e, mXis_e, mCnt_e, mSpec_e, calmM_e, mNever_e, eqI_ii, List.getD_cons_zero, List.getD_cons_succ, ne_eq, Nat.reduceEqDiff, Nat.add_eq_zero_iff, Nat.reduceLT, and_false, not_false_eq_true, Sl.d.injEq, Sl.x.injEq, exists_eq', exists_eq, exists_and_right, exists_const, and_self, List.map_nil, List.map_cons] $[$l]?)
variable {ad : Nat → Addr} {b : Bt} {a : Addr} {R : PyData → Bt → Prop} {Z : Nat → Sl → Bt → Prop} {rs : List Bed}
def sumR (rs : List Bed) : Int := (rs.map (·.2)).sum
def loadF (rs : List Bed) : List (Str × PyData) := [("rows", rowsD rs), ("total", .int (sumR rs))]
theorem init_bad {d : PyData} (h : okD d) (hr : rowsB d = false) (z : Z 1 (.d d) b) : M_Load_init ad [.d (refD a), .d d] b R Z := by
  simp only [M_Load_init, B_Load_init, S_Load_init_4, wpx1]
  refine are_rows_any h ?_
  rw [hr]
  simp only [Bool.not_false, if_true, S_Load_init_3, mRaise_e, wpx1]
  exact z
theorem init_ok (h : okD (rowsD rs)) (g : Rw rs) (hb : b.os a = some (ad 5, [])) (q : R .none (b.put a (ad 5) (loadF rs))) : M_Load_init ad [.d (refD a), .d (rowsD rs)] b R Z := by
  simp only [M_Load_init, B_Load_init, S_Load_init_4, wpx1]
  refine are_rows_any h ?_
  rw [rw_rowsB g]
  simp only [Bool.true_eq_false, if_false, S_Load_init_2, wpx1]
  refine ⟨a, rfl, _, _, hb, rfl, (by decide), ?_⟩
  have few := g.few
  simp only [S_Load_init_1, rowsD, wpx1]
  refine comp_tm bedD (fun x => .int x.2) rs _ _ (fun x hx Q hQ => ?_) (by omega) ?_
  · simp only [bedD, wpx1]
    exact hQ
  · refine ⟨rs.map (·.2), by rw [List.map_map]; rfl, a, rfl, _, _, put_at, rfl, (by show 1 < 1000; decide), ?_⟩
    rw [put_put]
    exact q
def at_ (rs : List Bed) (p : Int) : Int := ((rs.filter fun x => decide (x.1 = p)).map (·.2)).sum
theorem get_ok {p : Int} (few : rs.length ≤ 50) (hp : -1000000 ≤ p ∧ p ≤ 1000000) (hb : b.os a = some (ad 5, loadF rs)) (q : R (.int (at_ rs p)) b) : M_Load_getitem ad [.d (refD a), .d (.int p)] b R Z := by
  simp only [M_Load_getitem, B_Load_getitem, S_Load_getitem_3, wpx1]
  refine place_ex ?_
  rw [decide_eq_true hp]
  simp only [Bool.true_eq_false, if_false, S_Load_getitem_1, wpx1]
  refine ⟨a, rfl, _, _, hb, rfl, rowsD rs, rfl, ?_⟩
  simp only [rowsD, wpx1]
  refine comp_ty bedD (fun x => .int x.2) (fun x : Bed => decide (x.1 = p)) rs [] b _ (fun x hx C hC => ?_) (by simp; omega) ?_
  · simp only [bedD, wpx1]
    by_cases h : x.1 = p
    · rw [if_pos h]
      simpa [h] using hC
    · rw [if_neg h]
      simpa [h] using hC
  · refine ⟨(rs.filter fun x : Bed => decide (x.1 = p)).map fun x : Bed => x.2, by rw [List.nil_append, List.map_map]; rfl, q⟩
/-- what was there before stands -/
def Kx (b b' : Bt) : Prop := b'.n = b.n ∧ ∀ a x, b.os a = some x → b'.os a = some x
theorem kx_put {C : Addr} {f : List (Str × PyData)} (na : b.os a = none) : Kx b (b.put a C f) := ⟨rfl, fun p x h => by
  have : p ≠ a := fun e => by rw [e, na] at h; cases h
  show (if p = a then _ else b.os p) = _
  rw [if_neg this]
  exact h⟩
end Wp.K33

namespace Wp.K33
open PySem PySem.Spec PyProof.Rows L2 Evl Wp Pg
local macro_rules
  | `(tactic| simp only [$xs,*] $[$l]?) => do
    let ys := xs.getElems.filter fun x => x.raw[2].getId != `wpx1
    if ys.size == xs.getElems.size then Lean.Macro.throwUnsupported
    if ys.size == 0 then `(tactic| simp only [mV_e, mC_e, mO_e, mOp_e, mUn_e, mT_e, mNotT_e, mAndT_e, mOrT_e, mAnd_e, mOr_e, mNot_e, mIf_e, mChain_e, mNil_e, mCons_e, mTup_e, mLst_e, mLk_e, mCat_e, mCB_e, mCL_e, vD_e, vL_e, vM0_e, mSkip_e, mSeq_e, mAsg_e, mRet_e, mIfS_e, mDrop_e, vNil_e, vCons_e, mPar_e, bName_e, bTup_e, bNil_e, bCons_e, mUnp_e, mFor_e, mForR_e, mForR2_e, mApp_e, mYes_e, mLc_e, mLcR_e, mLcR2_e, mLcZ_e, gNo_e, gE_e, gO_e, mCall_e, mFn_e, mIsi_e, mSS_e, mNo_e, mPt_e, mSl_e, mDG_e, mDGd_e, mDIn_e, mPut_e, mSD_e, mRetO_e, vDof_e, mForZ_e, mNG_e, mNGd_e, mNPut_e, vN0_e, mLcN_e, mDGL_e, mForD_e, asN, mLc2_e, mForZT_e, mRep_e, mIfT_e, mExt_e, bUnl_e, mLcR3_e, mLZ_e, wipeE, pow6, pow7, pow9, pow15, pow18, pow39, asM, List.replicate, List.cons_append, List.nil_append, List.getElem?_cons_zero, List.getElem?_cons_succ, enAll, List.set_cons_zero, List.set_cons_succ, Nat.reduceSub, List.length_cons, List.length_nil, decide_eq_true_eq, Nat.reduceAdd, Nat.reduceLeDiff, true_and, Bool.not_true, Bool.not_false, if_true, if_false, Bool.false_eq_true, Bool.not_eq_true', decide_eq_false_iff_not, Int.reduceLE, Int.reduceLT, Int.reduceNeg, Int.reduceSub, Int.reduceAdd, and_true, PyData.int.injEq, Nat.zero_add, Int.zero_add, Int.sub_zero, addW_ii, addW_ib, addW_bi, addW_tt, addW_ll, subW_ii, subW_ib, subW_bi, mulW_ii, fdivW_ii, modW_ii, negW_i, eqW_ii, eqW_ss, eqW_t0, eqW_l0, neW_ii, neW_ss, neW_t0, neW_l0, ltW_ii, leW_ii, gtW_ii, geW_ii, isW_n, isntW_n, ixW_l, ixW_t, lenW_l, lenW_t, absW_i, intW_i, intW_b, tupW_l, tupW_t, lstW_l, lstW_t, sumW_l, allW_l, anyW_l, minW_2, maxW_2, slW_t, slW_l, revW_t, revW_l, reprW_1, strW_i, strW_b, sortW_l, sortW_t, Option.some.injEq, exists_eq_left', exists_eq_left, dKey, exists_and_left, exists_const, isRf_n, isRf_b, isRf_i, isRf_s, isRf_l, isRf_t, mTry_e, mRaise_e, mRaise0_e, eqS_ss, mPop_e, mAsgX_e, mRetX_e, mDropX_e, mCallX_e, mMk_e, mMeth_e, mMeth0_e, mGet_e, mSet_e, mFnX_e, mCalm_e, mIsiR_e, mXf_e, mXis_e, mCnt_e, mSpec_e, calmM_e, mNever_e, eqI_ii, List.getD_cons_zero, List.getD_cons_succ, ne_eq, Nat.reduceEqDiff, Nat.add_eq_zero_iff, Nat.reduceLT, and_false, not_false_eq_true, Sl.d.injEq, Sl.x.injEq, exists_eq', exists_eq, exists_and_right, exists_const, and_self, List.map_nil, List.map_cons] $[$l]?) else `(tactic| simp only [$ys,*, mV_e, mC_e, mO_e, mOp_e, mUn_e, mT_e, mNotT_e, mAndT_e, mOrT_e, mAnd_e, mOr_e, mNot_e, mIf_e, mChain_e, mNil_e, mCons_e, mTup_e, mLst_e, mLk_e, mCat_e, mCB_e, mCL_e, vD_e, vL_e, vM0_e, mSkip_e, mSeq_e, mAsg_e, mRet_e, mIfS_e, mDrop_e, vNil_e, vCons_e, mPar_e, bName_e, bTup_e, bNil_e, bCons_e, mUnp_e, mFor_e, mForR_e, mForR2_e, mApp_e, mYes_e, mLc_e, mLcR_e, mLcR2_e, mLcZ_e, gNo_e, gE_e, gO_e, mCall_e, mFn_e, mIsi_e, mSS_e, mNo_e, mPt_e, mSl_e, mDG_e, mDGd_e, mDIn_e, mPut_e, mSD_e, mRetO_e, vDof_e, mForZ_e, mNG_e, mNGd_e, mNPut_e, vN0_e, mLcN_e, mDGL_e, mForD_e, asN, mLc2_e, mForZT_e, mRep_e, mIfT_e, mExt_e, bUnl_e, mLcR3_e, mLZ_e, wipeE, pow6, pow7, pow9, pow15, pow18, pow39, asM, List.replicate, List.cons_append, List.nil_append, List.getElem?_cons_zero, List.getElem?_cons_succ, enAll, List.set_cons_zero, List.set_cons_succ, Nat.reduceSub, List.length_cons, List.length_nil, decide_eq_true_eq, Nat.reduceAdd, Nat.reduceLeDiff, true_and, Bool.not_true, Bool.not_false, if_true, if_false, Bool.false_eq_true, Bool.not_eq_true', decide_eq_false_iff_not, Int.reduceLE, Int.reduceLT, Int.reduceNeg, Int.reduceSub, Int.reduceAdd, and_true, PyData.int.injEq, Nat.zero_add, Int.zero_add, Int.sub_zero, addW_ii, addW_ib, addW_bi, addW_tt, addW_ll, subW_ii, subW_ib, subW_bi, mulW_ii, fdivW_ii, modW_ii, negW_i, eqW_ii, eqW_ss, eqW_t0, eqW_l0, neW_ii, neW_ss, neW_t0, neW_l0, ltW_ii, leW_ii, gtW_ii, geW_ii, isW_n, isntW_n, ixW_l, ixW_t, lenW_l, lenW_t, absW_i, intW_i, intW_b, tupW_l, tupW_t, lstW_l, lstW_t, sumW_l, allW_l, anyW_l, minW_2, maxW_2, slW_t, slW_l, revW_t, revW_l, reprW_1, strW_i, strW_b, sortW_l, sortW_t, Option.some.injEq, exists_eq_left', exists_eq_left, dKey, exists_and_left, exists_const, isRf_n, isRf_b, isRf_i, isRf_s, isRf_l, isRf_t, mTry_e, mRaise_e, mRaise0_e, eqS_ss, mPop_e, mAsgX_e, mRetX_e, mDropX_e, mCallX_e, mMk_e, mMeth_e, mMeth0_e, mGet_e, mSet_e, mFnX_e, mCalm_e, mIsiR_e, mXf_e, mXis_e, mCnt_e, mSpec_e, calmM_e, mNever_e, eqI_ii, List.getD_cons_zero, List.getD_cons_succ, ne_eq, Nat.reduceEqDiff, Nat.add_eq_zero_iff, Nat.reduceLT, and_false, not_false_eq_true, Sl.d.injEq, Sl.x.injEq, exists_eq', exists_eq, exists_and_right, exists_const, and_self, List.map_nil, List.map_cons] $[$l]?)
theorem comp_rel {α : Type} {t : WG1} {ml : WE} {E : Wp.Env} (enc : α → PyData) (P : α → PyData → Prop) (c : Nat) : ∀ (xs : List α) (acc : List PyData) (b : Bt) (R : List PyData → Bt → Prop), (∀ x ∈ xs, ∀ b' Q, b'.n + c ≤ b.n + c * xs.length → b'.os = b.os → (∀ y b2, P x y → Dr b' b2 c → Q y b2) → t (enc x) E fun E1 => ml E1 b' Q) →
    acc.length + xs.length ≤ 100000 → (∀ ys b2, Paired P xs ys → Dr b b2 (c * xs.length) → R (acc ++ ys) b2) → mComp t mYes ml E (xs.map enc) acc b R
  | [], acc, b, R, _, _, q => by
    have := q [] b .nil Dr.refl
    simpa [mComp] using this
  | x :: xs, acc, b, R, h, few, q => by
    simp only [List.map_cons, mComp, mYes, if_true]
    refine h x (List.mem_cons_self ..) b _ (by simp only [List.length_cons, Nat.mul_add]; omega) rfl fun y b2 py hb2 => ⟨by simp at few; omega, ?_⟩
    refine comp_rel enc P c xs (acc ++ [y]) b2 R (fun x' hx' b' Q hb' ho k => h x' (List.mem_cons_of_mem _ hx') b' Q (by have := hb2.n; simp only [List.length_cons, Nat.mul_add]; omega) (ho.trans hb2.os) k) (by simp at few ⊢; omega) fun ys b3 hp hb3 => ?_
    have := q (y :: ys) b3 (.cons py hp) (hb2.trans hb3 (by simp only [List.length_cons, Nat.mul_add]; omega))
    simpa using this
variable {ad : Nat → Addr} {b : Bt} {a : Addr} {R : PyData → Bt → Prop} {Z : Nat → Sl → Bt → Prop} {rs : List Bed}
theorem tk {b : Bt} : b.tick.n = b.n + 1 := rfl
theorem beds_of {ps : List Int} {ys : List PyData} (h : Paired (fun p y => ∃ l, y = bedD (p, l) ∧ 1 ≤ l ∧ l ≤ 1000000000000000000) ps ys) : ∃ bs : List Bed, ys = bs.map bedD ∧ bs.map (·.1) = ps ∧ ∀ x ∈ bs, 1 ≤ x.2 ∧ x.2 ≤ 1000000000000000000 := by
  induction h with
  | nil => exact ⟨[], rfl, rfl, fun _ h => nomatch h⟩
  | cons r _ ih =>
    obtain ⟨l, rfl, l1, l2⟩ := r
    obtain ⟨bs, rfl, e, h⟩ := ih
    refine ⟨(_, l) :: bs, rfl, by rw [List.map_cons, e], fun x hx => ?_⟩
    rcases List.mem_cons.mp hx with rfl | hx
    · exact ⟨l1, l2⟩
    · exact h x hx
theorem plain_ints : ∀ ps : List Int, PyData.plainAll (ps.map PyData.int) = true
  | [] => rfl
  | p :: ps => by rw [List.map_cons, PyData.plainAll, plain_ints ps]; rfl
theorem depth_ints : ∀ ps : List Int, PyData.depthAll (ps.map PyData.int) = 0
  | [] => by simp [PyData.depthAll]
  | p :: ps => by rw [List.map_cons, PyData.depthAll, depth_ints ps]; simp [PyData.depth]
theorem any_ints (ps : List Int) (p : Int) : ((ps.map PyData.int).any fun y => PyData.eqv y (.int p)) = ps.contains p := by
  induction ps with
  | nil => rfl
  | cons x r ih =>
    rw [List.map_cons, List.any_cons, ih, List.contains_cons]
    congr 1
    simp [PyData.eqv, Bool.beq_comm]
theorem nin_ints {ps : List Int} {p : Int} {R : PyData → Prop} (q : R (.bool (!ps.contains p))) : ninW (.int p) (.list (ps.map PyData.int)) R :=
  ⟨⟨plain_ints ps, rfl, by rw [depth_ints]; omega⟩, by rw [any_ints]; exact q⟩
theorem rows_ok {most : Int} (hb : b.n ≤ 10000000) (hm : 0 ≤ most ∧ most ≤ 50) (q : ∀ rs b', Rw rs → (rs.length : Int) ≤ most → Dr b b' 200 → R (rowsD rs) b') : M_l_rows [.s 1, .d (.int most)] b R := by
  simp only [M_l_rows, B_l_rows, S_l_rows_6, wpx1]
  refine mDrawW_at (by omega) (by omega) (by omega) fun r1 a1 a2 => ?_
  simp only [wpx1]
  refine pick_int [5, 40, 1000000] rfl a1 a2 fun reach hr => ?_
  have rb : 1 ≤ reach ∧ reach ≤ 1000000 := by
    simp only [List.mem_cons, List.not_mem_nil, or_false] at hr
    rcases hr with rfl | rfl | rfl <;> omega
  simp only [S_l_rows_5, wpx1]
  refine mDrawW_at (by simp only [tk]; omega) (by omega) (by omega) fun r2 b1 b2 => ?_
  simp only [wpx1]
  refine ⟨⟨by omega, by omega⟩, ?_⟩
  refine turns_ind (fun xs E b' => (∃ (ps : List Int) (s2 s6 : Sl), E = [.s 1, .d (.int most), s2, .no, .d (.int reach), .d (.list (ps.map .int)), s6] ∧ ps.Nodup ∧ (∀ p ∈ ps, -1000000 ≤ p ∧ p ≤ 1000000) ∧ ((ps.length + xs.length : Nat) : Int) ≤ most) ∧ b'.os = b.os ∧ b'.n + xs.length ≤ b.n + 52) (fun x xs E b' F' h kn kc _ kr kx => ?_) (fun E b' h => ?_) _ _ _ ⟨⟨[], .no, .no, rfl, .nil, fun p hp => (nomatch hp), ?_⟩, rfl, ?_⟩
  · obtain ⟨⟨ps, s2, s6, rfl, nd, hp, le⟩, ho, hn⟩ := h
    rw [List.length_cons] at le hn
    rw [bName_e]
    simp only [S_l_rows_4, wpx1]
    refine ⟨.inl ⟨by decide, by decide⟩, ?_⟩
    refine mDrawW_at (by omega) (by omega) (by omega) fun r c1 c2 => ?_
    simp only [S_l_rows_3, wpx1]
    refine nin_ints ?_
    have pr : -1000000 ≤ r - reach ∧ r - reach ≤ 1000000 := by omega
    generalize r - reach = p at pr
    cases hc : ps.contains p with
    | true =>
      simp only [Bool.not_true, Bool.false_eq_true, if_false, wpx1]
      refine ⟨⟨by decide, by decide, by decide⟩, ?_⟩
      have e0 : (List.replicate (0 : Int).toNat [PyData.int p]).flatten = [] := rfl
      rw [e0, List.append_nil]
      refine ⟨by rw [List.length_map]; simp only [List.length_nil]; omega, ?_⟩
      exact kn _ _ ⟨⟨ps, _, _, rfl, nd, hp, by omega⟩, ho, by simp only [tk]; omega⟩
    | false =>
      simp only [Bool.not_false, if_true, wpx1]
      refine ⟨⟨by decide, by decide, by decide⟩, ?_⟩
      have e0 : (List.replicate (1 : Int).toNat [PyData.int p]).flatten = [p].map PyData.int := rfl
      rw [e0, ← List.map_append]
      refine ⟨by rw [List.length_map, List.length_map]; simp only [List.length_cons, List.length_nil]; omega, ?_⟩
      have np : p ∉ ps := fun h => by rw [List.contains_iff_mem.mpr h] at hc; cases hc
      refine kn _ _ ⟨⟨ps ++ [p], _, _, rfl, ?_, fun x hx => ?_, ?_⟩, ho, by simp only [tk]; omega⟩
      · exact List.nodup_append.mpr ⟨nd, by simp, fun x hx y hy e => by rw [List.mem_singleton.mp hy] at e; rw [e] at hx; exact np hx⟩
      · rcases List.mem_append.mp hx with h | h
        · exact hp x h
        · rw [List.mem_singleton.mp h]; exact pr
      · rw [List.length_append, List.length_singleton]; omega
  · obtain ⟨⟨ps, s2, s6, rfl, nd, hp, le⟩, ho, hn⟩ := h
    rw [List.length_nil] at le hn
    simp only [S_l_rows_2, wpx1]
    refine mDrawW_at (by omega) (by omega) (by omega) fun r c1 c2 => ?_
    simp only [wpx1]
    refine pick_int [3, 1000000000, 1000000000000000000] rfl c1 c2 fun top ht => ?_
    have tb : 1 ≤ top ∧ top ≤ 1000000000000000000 := by
      simp only [List.mem_cons, List.not_mem_nil, or_false] at ht
      rcases ht with rfl | rfl | rfl <;> omega
    simp only [S_l_rows_1, wpx1]
    refine ⟨okSrt_ints ps (by omega), ?_⟩
    rw [srt_ints]
    have pm := List.mergeSort_perm ps Pg.leI
    have so : (ps.mergeSort Pg.leI).Pairwise fun a b => a < b := by
      have h1 : (ps.mergeSort Pg.leI).Pairwise fun a b => Pg.leI a b = true := List.pairwise_mergeSort (fun a b c h1 h2 => by rw [leI_eq] at h1 h2 ⊢; have := of_decide_eq_true h1; have := of_decide_eq_true h2; exact decide_eq_true (by omega)) (fun a b => by rw [leI_eq, leI_eq, Bool.or_eq_true, decide_eq_true_eq, decide_eq_true_eq]; omega) ps
      have h2 : (ps.mergeSort Pg.leI).Nodup := pm.nodup_iff.mpr nd
      refine (h1.and h2).imp fun {a b} h => ?_
      have h3 := h.1
      rw [leI_eq] at h3
      have := of_decide_eq_true h3
      have := h.2
      omega
    have lq : (ps.mergeSort Pg.leI).length = ps.length := pm.length_eq
    have mq : ∀ p ∈ ps.mergeSort Pg.leI, -1000000 ≤ p ∧ p ≤ 1000000 := fun p h => hp p (pm.mem_iff.mp h)
    generalize ps.mergeSort Pg.leI = qs at so lq mq
    refine comp_rel PyData.int (fun p y => ∃ l, y = bedD (p, l) ∧ 1 ≤ l ∧ l ≤ 1000000000000000000) 1 qs [] _ _ (fun x hx b2 Q hb' ho' k => ?_) (by simp; omega) fun ys b3 hy d3 => ?_
    · simp only [wpx1]
      simp only [tk] at hb'
      refine mDrawW_at (by omega) (by omega) (by omega) fun r e1 e2 => ?_
      simp only [wpx1]
      exact k _ _ ⟨1 + r, rfl, by omega, by omega⟩ Dr.tick
    rw [List.nil_append]
    obtain ⟨rs, rfl, er, hl⟩ := beds_of hy
    have le2 : rs.length = qs.length := by rw [← er, List.length_map]
    have n3 := d3.n
    simp only [tk] at n3
    refine q rs b3 ⟨by omega, fun x hx => mq _ (by rw [← er]; exact List.mem_map_of_mem hx), hl, ?_⟩ (by omega) ⟨by omega, by rw [d3.os]; exact ho⟩
    rw [← er, List.pairwise_map] at so
    exact so
  · rw [rngD_len]; simp; omega
  · rw [rngD_len]
    show b.n + 2 + _ ≤ _
    omega
end Wp.K33

namespace Wp.K33
open PySem PySem.Spec PyProof.Rows L2 Evl Wp Pg
variable {ad : Nat → Addr} {b : Bt} {a : Addr} {R : PyData → Bt → Prop} {Z : Nat → Sl → Bt → Prop} {rs : List Bed}
structure Ls (w k : Nat) (l : List PyData) : Prop where
  ok : ∀ d ∈ l, okD d
  w : Cn.wvAll l ≤ w
  p : ∀ d ∈ l, Cn.dv d ≤ k
theorem wv_app : ∀ (l m : List PyData), Cn.wvAll (l ++ m) = Cn.wvAll l + Cn.wvAll m
  | [], m => by simp [Cn.wvAll]
  | x :: l, m => by
    have := wv_app l m
    simp only [List.cons_append, Cn.wvAll] at this ⊢
    omega
theorem wv_len : ∀ l : List PyData, 2 * l.length ≤ Cn.wvAll l
  | [] => by simp [Cn.wvAll]
  | x :: l => by
    have := wv_len l
    simp only [List.length_cons, Cn.wvAll]
    omega
theorem Ls.app {w w' k : Nat} {l m : List PyData} (h : Ls w k l) (h' : Ls w' k m) : Ls (w + w') k (l ++ m) := by
  refine ⟨fun d hd => ?_, by rw [wv_app]; have := h.w; have := h'.w; omega, fun d hd => ?_⟩
  · rcases List.mem_append.mp hd with hd | hd
    · exact h.ok d hd
    · exact h'.ok d hd
  · rcases List.mem_append.mp hd with hd | hd
    · exact h.p d hd
    · exact h'.p d hd
theorem Ls.mono {w w' k k' : Nat} {l : List PyData} (h : Ls w k l) (a : w ≤ w') (c : k ≤ k') : Ls w' k' l := ⟨h.ok, Nat.le_trans h.w a, fun d hd => Nat.le_trans (h.p d hd) c⟩
theorem Ls.one {w k : Nat} {d : PyData} (o : okD d) (a : Cn.wv d ≤ w) (c : Cn.dv d ≤ k) : Ls (w + 2) k [d] := by
  refine ⟨fun x hx => ?_, ?_, fun x hx => ?_⟩
  · rw [List.mem_singleton.mp hx]; exact o
  · simp only [Cn.wvAll]; omega
  · rw [List.mem_singleton.mp hx]; exact c
theorem Ls.tup {w k : Nat} {l : List PyData} (h : Ls w k l) : Cn.Sz (10 ^ 39) (w + 3) (k + 1) (.tuple l) := Cn.sz_tup h.ok (by have := h.w; omega) (fun d hd => by have := h.p d hd; omega) (by omega)
theorem Ls.lst {w k : Nat} {l : List PyData} (h : Ls w k l) : Cn.Sz (10 ^ 39) (w + 3) (k + 1) (.list l) := Cn.sz_lst h.ok (by have := h.w; omega) (fun d hd => by have := h.p d hd; omega) (by omega)
theorem Ls.few {w k : Nat} {l : List PyData} (h : Ls w k l) : 2 * l.length ≤ w := Nat.le_trans (wv_len l) h.w
theorem wv_rows : ∀ rs : List Bed, Cn.wvAll (rs.map bedD) = 209 * rs.length
  | [] => rfl
  | x :: rs => by
    have := wv_rows rs
    simp only [List.map_cons, Cn.wvAll, List.length_cons, bedD, Cn.wv] at this ⊢
    omega
theorem rows_ls {rs : List Bed} (h : ∀ x ∈ rs, x.1.natAbs ≤ 1000000000000000000 ∧ x.2.natAbs ≤ 1000000000000000000) : Ls (209 * rs.length) 1 (rs.map bedD) := by
  refine ⟨fun d hd => ?_, by rw [wv_rows]; exact Nat.le_refl _, fun d hd => ?_⟩
  · obtain ⟨x, hx, rfl⟩ := List.mem_map.mp hd
    have := h x hx
    unfold okD bedD
    rw [Cn.okV.eq_6]
    exact Cn.okVAll_iff.mpr (by
      simp only [List.forall_mem_cons, List.not_mem_nil, false_implies, implies_true, and_true]
      exact ⟨okI (by omega), okI (by omega)⟩)
  · obtain ⟨x, hx, rfl⟩ := List.mem_map.mp hd
    simp [bedD, Cn.dv, Cn.dvAll]
theorem Rw.ls (g : Rw rs) : Ls 10450 1 (rs.map bedD) :=
  (rows_ls fun x hx => by have := g.p x hx; have := g.l x hx; omega).mono (by have := g.few; omega) (Nat.le_refl _)
theorem Rw.sz (g : Rw rs) : Cn.Sz (10 ^ 39) 10453 2 (rowsD rs) := (Rw.ls g).tup
theorem Kx.refl : Kx b b := ⟨rfl, fun _ _ h => h⟩
theorem Kx.trans {b1 b2 : Bt} (h : Kx b b1) (k : Kx b1 b2) : Kx b b2 := ⟨k.1.trans h.1, fun a x e => k.2 a x (h.2 a x e)⟩
def dk (x : Bed) : Key × PyData := (.inl x.1, .int x.2)
end Wp.K33

namespace Wp.K33
open PySem PySem.Spec PyProof.Rows L2 Evl Wp Pg
variable {ad : Nat → Addr} {b : Bt} {a : Addr} {R : PyData → Bt → Prop} {Z : Nat → Sl → Bt → Prop} {rs ss : List Bed}
/-- the litres at a place of rows -/
theorem at_cons {x : Bed} {p : Int} : at_ (x :: rs) p = (if x.1 = p then x.2 else 0) + at_ rs p := by
  unfold at_
  rw [List.filter_cons]
  by_cases h : x.1 = p
  · rw [if_pos (decide_eq_true h), if_pos h]
    simp
  · rw [if_neg (by simpa using h), if_neg h]
    simp
theorem at_app {p : Int} : ∀ {rs : List Bed}, at_ (rs ++ ss) p = at_ rs p + at_ ss p
  | [] => by simp [at_]
  | x :: rs => by
    rw [List.cons_append, at_cons, at_cons, at_app (rs := rs)]
    omega
theorem at_pos {p : Int} : ∀ {rs : List Bed}, (∀ x ∈ rs, 1 ≤ x.2) → 0 ≤ at_ rs p ∧ (p ∈ rs.map (·.1) → 1 ≤ at_ rs p)
  | [], _ => by simp [at_]
  | x :: rs, h => by
    have ih := at_pos (p := p) (rs := rs) fun y hy => h y (List.mem_cons_of_mem _ hy)
    have hx := h x (List.mem_cons_self ..)
    rw [at_cons]
    refine ⟨by split <;> omega, fun hp => ?_⟩
    rw [List.map_cons, List.mem_cons] at hp
    by_cases e : x.1 = p
    · rw [if_pos e]; omega
    · rw [if_neg e]
      have := ih.2 (hp.resolve_left fun z => e z.symm)
      omega
theorem at_none {p : Int} : ∀ {rs : List Bed}, p ∉ rs.map (·.1) → at_ rs p = 0
  | [], _ => rfl
  | x :: rs, h => by
    rw [List.map_cons, List.mem_cons, not_or] at h
    rw [at_cons, if_neg fun z => h.1 z.symm, at_none h.2]
    rfl
theorem at_own : ∀ {rs : List Bed}, (rs.Pairwise fun a b => a.1 < b.1) → ∀ x ∈ rs, at_ rs x.1 = x.2
  | [], _, x, hx => (nomatch hx)
  | y :: rs, h, x, hx => by
    cases h with
    | cons h1 h2 =>
      rw [at_cons]
      rcases List.mem_cons.mp hx with rfl | hx
      · rw [if_pos rfl, at_none fun hm => ?_]
        · omega
        · obtain ⟨z, hz, e⟩ := List.mem_map.mp hm
          have := h1 z hz
          omega
      · have := h1 x hx
        rw [if_neg (by omega), at_own h2 x hx]
        omega
def keysU (rs ss : List Bed) : List Int := Cn.sortU (rs.map (·.1) ++ ss.map (·.1))
def sumU (rs ss : List Bed) : List Bed := (keysU rs ss).map fun p => (p, at_ rs p + at_ ss p)
def tooMuch (rs ss : List Bed) : Bool := decide (50 < (keysU rs ss).length) || (keysU rs ss).any fun p => decide (1000000000000000000 < at_ rs p + at_ ss p)
theorem mem_keysU {p : Int} : p ∈ keysU rs ss ↔ p ∈ rs.map (·.1) ∨ p ∈ ss.map (·.1) := by
  unfold keysU
  rw [Cn.mem_sortU, List.mem_append]
theorem len_keysU (g : Rw rs) (g2 : Rw ss) : (keysU rs ss).length ≤ 100 := by
  have := Cn.len_sortU (rs.map (·.1) ++ ss.map (·.1))
  have h1 := g.few
  have h2 := g2.few
  unfold keysU
  simp only [List.length_append, List.length_map] at this
  omega
theorem keysU_place (g : Rw rs) (g2 : Rw ss) {p : Int} (h : p ∈ keysU rs ss) : -1000000 ≤ p ∧ p ≤ 1000000 := by
  rcases mem_keysU.mp h with h | h
  · obtain ⟨x, hx, rfl⟩ := List.mem_map.mp h
    exact g.p x hx
  · obtain ⟨x, hx, rfl⟩ := List.mem_map.mp h
    exact g2.p x hx
theorem keysU_pos (g : Rw rs) (g2 : Rw ss) {p : Int} (h : p ∈ keysU rs ss) : 1 ≤ at_ rs p + at_ ss p := by
  have h1 := at_pos (p := p) fun x hx => (g.l x hx).1
  have h2 := at_pos (p := p) fun x hx => (g2.l x hx).1
  rcases mem_keysU.mp h with h | h
  · have := h1.2 h; omega
  · have := h2.2 h; omega
theorem rw_sumU (g : Rw rs) (g2 : Rw ss) (h : tooMuch rs ss = false) : Rw (sumU rs ss) := by
  unfold tooMuch at h
  rw [Bool.or_eq_false_iff, decide_eq_false_iff_not, List.any_eq_false] at h
  refine ⟨by unfold sumU; rw [List.length_map]; omega, fun x hx => ?_, fun x hx => ?_, ?_⟩
  · obtain ⟨p, hp, rfl⟩ := List.mem_map.mp hx
    exact keysU_place g g2 hp
  · obtain ⟨p, hp, rfl⟩ := List.mem_map.mp hx
    have h1 := keysU_pos g g2 hp
    have h2 := h.2 p hp
    simp only [decide_eq_true_eq] at h2
    exact ⟨h1, by show _ ≤ _; omega⟩
  · unfold sumU
    rw [List.pairwise_map]
    exact Cn.asc_sortU _
def diffU (rs ss : List Bed) : List Bed := (rs.filter fun x => decide (at_ ss x.1 < x.2)).map fun x => (x.1, x.2 - at_ ss x.1)
def lackL (rs ss : List Bed) : List Bed := ss.filter fun x => decide (at_ rs x.1 < x.2)
theorem rw_diffU (g : Rw rs) (g2 : Rw ss) : Rw (diffU rs ss) := by
  have few := g.few
  have hl := List.length_filter_le (fun x : Bed => decide (at_ ss x.1 < x.2)) rs
  refine ⟨by unfold diffU; rw [List.length_map]; omega, fun x hx => ?_, fun x hx => ?_, ?_⟩
  · obtain ⟨y, hy, rfl⟩ := List.mem_map.mp hx
    exact g.p y (List.mem_filter.mp hy).1
  · obtain ⟨y, hy, rfl⟩ := List.mem_map.mp hx
    obtain ⟨hy, hc⟩ := List.mem_filter.mp hy
    have h1 := of_decide_eq_true hc
    have h2 := (at_pos (p := y.1) fun x hx => (g2.l x hx).1).1
    have h3 := g.l y hy
    exact ⟨by show 1 ≤ y.2 - _; omega, by show y.2 - _ ≤ _; omega⟩
  · unfold diffU
    rw [List.pairwise_map]
    exact (g.asc.sublist List.filter_sublist)
/-! ### the dict of both -/
theorem any_keys {ds : List (Key × PyData)} {k : Key} : (ds.any fun kv => decide (kv.1 = k)) = true ↔ k ∈ ds.map (·.1) := by
  rw [List.any_eq_true, List.mem_map]
  constructor
  · rintro ⟨x, hx, e⟩
    exact ⟨x, hx, of_decide_eq_true e⟩
  · rintro ⟨x, hx, e⟩
    exact ⟨x, hx, decide_eq_true e⟩
theorem keys_old {ds : List (Key × PyData)} {k : Key} {v : PyData} (h : k ∈ ds.map (·.1)) : (putD ds k v).map (·.1) = ds.map (·.1) := by
  unfold putD
  rw [if_pos (any_keys.mpr h), List.map_map]
  refine List.map_congr_left fun x _ => ?_
  show (if x.1 = k then _ else _ : Key × PyData).1 = _
  split <;> rfl
theorem keys_new {ds : List (Key × PyData)} {k : Key} {v : PyData} (h : k ∉ ds.map (·.1)) : (putD ds k v).map (·.1) = ds.map (·.1) ++ [k] := by
  unfold putD
  rw [if_neg (fun z => h (any_keys.mp z)), List.map_append]
  rfl
theorem look_map {k k' : Key} {v : PyData} : ∀ {ds : List (Key × PyData)}, k ∈ ds.map (·.1) → lookD (ds.map fun kv => if kv.1 = k then (kv.1, v) else kv) k' = if k' = k then some v else lookD ds k'
  | [], h => by simp at h
  | x :: ds, h => by
    have ih := look_map (k := k) (k' := k') (v := v) (ds := ds)
    unfold lookD at ih ⊢
    rw [List.map_cons, List.find?_cons]
    by_cases e : x.1 = k
    · rw [if_pos e]
      by_cases e' : k' = k
      · rw [if_pos e']
        have : decide (x.1 = k') = true := decide_eq_true (by rw [e, e'])
        rw [this]
        rfl
      · rw [if_neg e', List.find?_cons]
        have : decide (x.1 = k') = false := decide_eq_false (by rw [e]; exact fun z => e' z.symm)
        rw [this]
        show Option.map _ (List.find? _ (List.map _ ds)) = Option.map _ (List.find? _ ds)
        by_cases h2 : k ∈ ds.map (·.1)
        · have := ih h2
          rw [if_neg e'] at this
          exact this
        · have em : ds.map (fun kv => if kv.1 = k then (kv.1, v) else kv) = ds := by
            conv => rhs; rw [← List.map_id ds]
            refine List.map_congr_left fun y hy => ?_
            rw [if_neg fun z => h2 (List.mem_map.mpr ⟨y, hy, z⟩)]
            rfl
          rw [em]
    · rw [if_neg e, List.find?_cons]
      have h2 : k ∈ ds.map (·.1) := by
        rw [List.map_cons, List.mem_cons] at h
        exact h.resolve_left fun z => e z.symm
      by_cases e2 : x.1 = k'
      · rw [decide_eq_true e2]
        rw [if_neg fun z => e (e2.trans z)]
      · rw [decide_eq_false e2]
        exact ih h2
theorem look_put {k k' : Key} {v : PyData} {ds : List (Key × PyData)} : lookD (putD ds k v) k' = if k' = k then some v else lookD ds k' := by
  unfold putD
  by_cases h : k ∈ ds.map (·.1)
  · rw [if_pos (any_keys.mpr h)]
    exact look_map h
  · rw [if_neg (fun z => h (any_keys.mp z))]
    unfold lookD
    rw [List.find?_append]
    by_cases e' : k' = k
    · rw [if_pos e', e']
      have : ds.find? (fun kv => decide (kv.1 = k)) = none := List.find?_eq_none.mpr fun x hx z => h (List.mem_map.mpr ⟨x, hx, of_decide_eq_true z⟩)
      rw [this]
      simp
    · rw [if_neg e']
      have : List.find? (fun kv : Key × PyData => decide (kv.1 = k')) [(k, v)] = none := by
        rw [List.find?_cons, decide_eq_false (fun z => e' z.symm)]
        rfl
      rw [this, Option.or_none]
/-- the dict while others are added -/
structure Both (rs pre : List Bed) (ds : List (Key × PyData)) (ks : List Int) : Prop where
  keys : ds.map (·.1) = ks.map Sum.inl
  nd : ks.Nodup
  mem : ∀ p, p ∈ ks ↔ p ∈ rs.map (·.1) ∨ p ∈ pre.map (·.1)
  val : ∀ p, (lookD ds (.inl p)).getD (.int 0) = .int (at_ rs p + at_ pre p)
  len : ks.length ≤ rs.length + pre.length
theorem Both.step {pre : List Bed} {ds : List (Key × PyData)} {ks : List Int} {x : Bed} (B : Both rs pre ds ks) : ∃ ks', Both rs (pre ++ [x]) (putD ds (.inl x.1) (.int (at_ rs x.1 + at_ pre x.1 + x.2))) ks' := by
  have hk : ((Sum.inl x.1 : Key) ∈ ds.map (·.1)) ↔ x.1 ∈ ks := by
    rw [B.keys, List.mem_map]
    constructor
    · rintro ⟨y, hy, e⟩
      cases e
      exact hy
    · exact fun h => ⟨_, h, rfl⟩
  refine ⟨if x.1 ∈ ks then ks else ks ++ [x.1], ⟨?_, ?_, fun p => ?_, fun p => ?_, ?_⟩⟩
  · by_cases h : x.1 ∈ ks
    · rw [if_pos h, keys_old (hk.mpr h)]
      exact B.keys
    · rw [if_neg h, keys_new fun z => h (hk.mp z), List.map_append, B.keys]
      rfl
  · split
    · exact B.nd
    · rename_i h
      rw [List.nodup_append]
      refine ⟨B.nd, by simp, fun y hy z hz => ?_⟩
      simp at hz
      subst hz
      exact fun e => h (e ▸ hy)
  · rw [List.map_append, List.mem_append]
    split
    · rename_i h
      rw [B.mem]
      constructor
      · rintro (h | h)
        · exact .inl h
        · exact .inr (.inl h)
      · rintro (h' | h' | h')
        · exact .inl h'
        · exact .inr h'
        · simp at h'
          subst h'
          exact (B.mem _).mp h
    · rw [List.mem_append, B.mem]
      simp only [List.map_cons, List.map_nil, List.mem_cons, List.not_mem_nil, or_false]
      exact or_assoc
  · rw [look_put, at_app]
    by_cases e : p = x.1
    · subst e
      rw [if_pos rfl]
      show PyData.int _ = _
      rw [at_cons, if_pos rfl]
      simp [at_, Int.add_assoc]
    · rw [if_neg fun z => e (Sum.inl.inj z), B.val, at_cons, if_neg fun z => e z.symm]
      simp [at_]
  · have := B.len
    rw [List.length_append]
    split
    · simp; omega
    · simp; omega
end Wp.K33

namespace Wp.K33
open PySem PySem.Spec PyProof.Rows L2 Evl Wp Pg
local macro_rules
  | `(tactic| simp only [$xs,*] $[$l]?) => do
    let ys := xs.getElems.filter fun x => x.raw[2].getId != `wpx1
    if ys.size == xs.getElems.size then Lean.Macro.throwUnsupported
    if ys.size == 0 then `(tactic| simp only [mV_e, mC_e, mO_e, mOp_e, mUn_e, mT_e, mNotT_e, mAndT_e, mOrT_e, mAnd_e, mOr_e, mNot_e, mIf_e, mChain_e, mNil_e, mCons_e, mTup_e, mLst_e, mLk_e, mCat_e, mCB_e, mCL_e, vD_e, vL_e, vM0_e, mSkip_e, mSeq_e, mAsg_e, mRet_e, mIfS_e, mDrop_e, vNil_e, vCons_e, mPar_e, bName_e, bTup_e, bNil_e, bCons_e, mUnp_e, mFor_e, mForR_e, mForR2_e, mApp_e, mYes_e, mLc_e, mLcR_e, mLcR2_e, mLcZ_e, gNo_e, gE_e, gO_e, mCall_e, mFn_e, mIsi_e, mSS_e, mNo_e, mPt_e, mSl_e, mDG_e, mDGd_e, mDIn_e, mPut_e, mSD_e, mRetO_e, vDof_e, mForZ_e, mNG_e, mNGd_e, mNPut_e, vN0_e, mLcN_e, mDGL_e, mForD_e, asN, mLc2_e, mForZT_e, mRep_e, mIfT_e, mExt_e, bUnl_e, mLcR3_e, mLZ_e, wipeE, pow6, pow7, pow9, pow15, pow18, pow39, asM, List.replicate, List.cons_append, List.nil_append, List.getElem?_cons_zero, List.getElem?_cons_succ, enAll, List.set_cons_zero, List.set_cons_succ, Nat.reduceSub, List.length_cons, List.length_nil, decide_eq_true_eq, Nat.reduceAdd, Nat.reduceLeDiff, true_and, Bool.not_true, Bool.not_false, if_true, if_false, Bool.false_eq_true, Bool.not_eq_true', decide_eq_false_iff_not, Int.reduceLE, Int.reduceLT, Int.reduceNeg, Int.reduceSub, Int.reduceAdd, and_true, PyData.int.injEq, Nat.zero_add, Int.zero_add, Int.sub_zero, addW_ii, addW_ib, addW_bi, addW_tt, addW_ll, subW_ii, subW_ib, subW_bi, mulW_ii, fdivW_ii, modW_ii, negW_i, eqW_ii, eqW_ss, eqW_t0, eqW_l0, neW_ii, neW_ss, neW_t0, neW_l0, ltW_ii, leW_ii, gtW_ii, geW_ii, isW_n, isntW_n, ixW_l, ixW_t, lenW_l, lenW_t, absW_i, intW_i, intW_b, tupW_l, tupW_t, lstW_l, lstW_t, sumW_l, allW_l, anyW_l, minW_2, maxW_2, slW_t, slW_l, revW_t, revW_l, reprW_1, strW_i, strW_b, sortW_l, sortW_t, Option.some.injEq, exists_eq_left', exists_eq_left, dKey, exists_and_left, exists_const, isRf_n, isRf_b, isRf_i, isRf_s, isRf_l, isRf_t, mTry_e, mRaise_e, mRaise0_e, eqS_ss, mPop_e, mAsgX_e, mRetX_e, mDropX_e, mCallX_e, mMk_e, mMeth_e, mMeth0_e, mGet_e, mSet_e, mFnX_e, mCalm_e, mIsiR_e, mXf_e, mXis_e, mCnt_e, mSpec_e, calmM_e, mNever_e, eqI_ii, List.getD_cons_zero, List.getD_cons_succ, ne_eq, Nat.reduceEqDiff, Nat.add_eq_zero_iff, Nat.reduceLT, and_false, not_false_eq_true, Sl.d.injEq, Sl.x.injEq, exists_eq', exists_eq, exists_and_right, exists_const, and_self, List.map_nil, List.map_cons] $[$l]?) else `(tactic| simp only [$ys,*, mV_e, mC_e, mO_e, mOp_e, mUn_e, mT_e, mNotT_e, mAndT_e, mOrT_e, mAnd_e, mOr_e, mNot_e, mIf_e, mChain_e, mNil_e, mCons_e, mTup_e, mLst_e, mLk_e, mCat_e, mCB_e, mCL_e, vD_e, vL_e, vM0_e, mSkip_e, mSeq_e, mAsg_e, mRet_e, mIfS_e, mDrop_e, vNil_e, vCons_e, mPar_e, bName_e, bTup_e, bNil_e, bCons_e, mUnp_e, mFor_e, mForR_e, mForR2_e, mApp_e, mYes_e, mLc_e, mLcR_e, mLcR2_e, mLcZ_e, gNo_e, gE_e, gO_e, mCall_e, mFn_e, mIsi_e, mSS_e, mNo_e, mPt_e, mSl_e, mDG_e, mDGd_e, mDIn_e, mPut_e, mSD_e, mRetO_e, vDof_e, mForZ_e, mNG_e, mNGd_e, mNPut_e, vN0_e, mLcN_e, mDGL_e, mForD_e, asN, mLc2_e, mForZT_e, mRep_e, mIfT_e, mExt_e, bUnl_e, mLcR3_e, mLZ_e, wipeE, pow6, pow7, pow9, pow15, pow18, pow39, asM, List.replicate, List.cons_append, List.nil_append, List.getElem?_cons_zero, List.getElem?_cons_succ, enAll, List.set_cons_zero, List.set_cons_succ, Nat.reduceSub, List.length_cons, List.length_nil, decide_eq_true_eq, Nat.reduceAdd, Nat.reduceLeDiff, true_and, Bool.not_true, Bool.not_false, if_true, if_false, Bool.false_eq_true, Bool.not_eq_true', decide_eq_false_iff_not, Int.reduceLE, Int.reduceLT, Int.reduceNeg, Int.reduceSub, Int.reduceAdd, and_true, PyData.int.injEq, Nat.zero_add, Int.zero_add, Int.sub_zero, addW_ii, addW_ib, addW_bi, addW_tt, addW_ll, subW_ii, subW_ib, subW_bi, mulW_ii, fdivW_ii, modW_ii, negW_i, eqW_ii, eqW_ss, eqW_t0, eqW_l0, neW_ii, neW_ss, neW_t0, neW_l0, ltW_ii, leW_ii, gtW_ii, geW_ii, isW_n, isntW_n, ixW_l, ixW_t, lenW_l, lenW_t, absW_i, intW_i, intW_b, tupW_l, tupW_t, lstW_l, lstW_t, sumW_l, allW_l, anyW_l, minW_2, maxW_2, slW_t, slW_l, revW_t, revW_l, reprW_1, strW_i, strW_b, sortW_l, sortW_t, Option.some.injEq, exists_eq_left', exists_eq_left, dKey, exists_and_left, exists_const, isRf_n, isRf_b, isRf_i, isRf_s, isRf_l, isRf_t, mTry_e, mRaise_e, mRaise0_e, eqS_ss, mPop_e, mAsgX_e, mRetX_e, mDropX_e, mCallX_e, mMk_e, mMeth_e, mMeth0_e, mGet_e, mSet_e, mFnX_e, mCalm_e, mIsiR_e, mXf_e, mXis_e, mCnt_e, mSpec_e, calmM_e, mNever_e, eqI_ii, List.getD_cons_zero, List.getD_cons_succ, ne_eq, Nat.reduceEqDiff, Nat.add_eq_zero_iff, Nat.reduceLT, and_false, not_false_eq_true, Sl.d.injEq, Sl.x.injEq, exists_eq', exists_eq, exists_and_right, exists_const, and_self, List.map_nil, List.map_cons] $[$l]?)
variable {ad : Nat → Addr} {b : Bt} {a a2 : Addr} {R : PyData → Bt → Prop} {Z : Nat → Sl → Bt → Prop} {rs ss : List Bed}
theorem any_gt {ps : List Bed} : (ps.map fun x => decide (1000000000000000000 < x.2)).any _root_.id = ps.any fun x => decide (1000000000000000000 < x.2) := by
  rw [List.any_map]
  rfl
theorem bed_bind {i j : Nat} {x : Bed} {E : Wp.Env} {Q : Wp.Env → Prop} (q : Q ((E.set i (.d (.int x.1))).set j (.d (.int x.2)))) : bTup 2 (bCons (bName i) (bCons (bName j) bNil)) (bedD x) E Q := by
  simp only [bedD, wpx1]
  exact q
theorem add_any (g : Rw rs) (g2 : Rw ss) (hb : b.os a = some (ad 5, loadF rs)) (hb2 : b.os a2 = some (ad 5, loadF ss))
    (qm : tooMuch rs ss = true → Z 4 (.d .none) b) (q : tooMuch rs ss = false → ∀ a3, b.os a3 = none → R (refD a3) (b.put a3 (ad 5) (loadF (sumU rs ss)))) : M_Load_add ad [.d (refD a), .d (refD a2)] b R Z := by
  have f1 := g.few
  have f2 := g2.few
  simp only [M_Load_add, B_Load_add, S_Load_add_7, mIsiO_e, wpx1]
  refine ⟨a2, rfl, _, ⟨_, hb2⟩, rfl, ?_⟩
  simp only [S_Load_add_5, mSSB_e, wpx1]
  refine ⟨a, rfl, _, _, hb, rfl, rowsD rs, rfl, a2, rfl, _, _, hb2, rfl, rowsD ss, rfl, ?_⟩
  simp only [rowsD, wpx1]
  rw [← List.map_append]
  refine ⟨by rw [List.length_map, List.length_map]; omega, ?_⟩
  refine comp_tm bedD (fun x => .int x.1) (rs ++ ss) b _ (fun x hx Q hQ => ?_) (by simp; omega) ?_
  · simp only [bedD, wpx1]
    exact hQ
  · refine ⟨rs.map (·.1) ++ ss.map (·.1), by rw [List.map_append, List.map_append, List.map_map, List.map_map]; rfl, by simp; omega, ?_⟩
    change S_Load_add_4 ad [Sl.d (refD a), Sl.d (refD a2), Sl.d (PyData.list ((keysU rs ss).map PyData.int)), Sl.no, Sl.no, Sl.no] b _
    have lk := len_keysU g g2
    simp only [S_Load_add_4, mSubX_e, wpx1]
    refine comp_tm (fun p : Int => .int p) (fun p : Int => bedD (p, at_ rs p + at_ ss p)) (keysU rs ss) b _ (fun p hp Q hQ => ?_) (by omega) ?_
    · have hp' := keysU_place g g2 hp
      simp only [mSubX_e, wpx1]
      refine ⟨a, rfl, _, ⟨_, hb⟩, rfl, get_ok f1 hp' hb ?_⟩
      refine ⟨a2, rfl, _, ⟨_, hb2⟩, rfl, get_ok f2 hp' hb2 ?_⟩
      simp only [wpx1]
      exact hQ
    · have el : ((keysU rs ss).map fun p => bedD (p, at_ rs p + at_ ss p)) = (sumU rs ss).map bedD := by
        unfold sumU
        rw [List.map_map]
        rfl
      have el2 : (sumU rs ss).length = (keysU rs ss).length := by unfold sumU; rw [List.length_map]
      rw [el]
      simp only [S_Load_add_3, wpx1]
      rw [List.length_map, el2]
      by_cases hl : 50 < (keysU rs ss).length
      · rw [if_pos (by omega)]
        simp only [S_Load_add_2, mRaise0_e]
        exact qm (by unfold tooMuch; rw [decide_eq_true hl]; rfl)
      · rw [if_neg (by omega)]
        refine comp_tm bedD (fun x => .bool (decide (1000000000000000000 < x.2))) (sumU rs ss) b _ (fun x hx Q hQ => ?_) (by omega) ?_
        · refine bed_bind ?_
          simp only [wpx1]
          exact hQ
        · refine ⟨(sumU rs ss).map fun x => decide (1000000000000000000 < x.2), by rw [List.map_map]; rfl, ?_⟩
          rw [any_gt]
          have et : tooMuch rs ss = (sumU rs ss).any fun x => decide (1000000000000000000 < x.2) := by
            unfold tooMuch sumU
            rw [decide_eq_false hl, Bool.false_or, List.any_map]
            rfl
          rw [← et]
          cases ht : tooMuch rs ss with
          | true =>
            rw [if_pos rfl]
            simp only [S_Load_add_2, mRaise0_e]
            exact qm ht
          | false =>
            rw [if_neg (by decide)]
            simp only [S_Load_add_1, wpx1]
            intro a3 n3
            refine init_ok (Rw.sz (rw_sumU g g2 ht)).ok (rw_sumU g g2 ht) put_at ?_
            rw [put_put]
            refine ⟨rfl, ?_⟩
            exact q ht a3 n3
end Wp.K33

namespace Wp.K33
open PySem PySem.Spec PyProof.Rows L2 Evl Wp Pg
local macro_rules
  | `(tactic| simp only [$xs,*] $[$l]?) => do
    let ys := xs.getElems.filter fun x => x.raw[2].getId != `wpx1
    if ys.size == xs.getElems.size then Lean.Macro.throwUnsupported
    if ys.size == 0 then `(tactic| simp only [mV_e, mC_e, mO_e, mOp_e, mUn_e, mT_e, mNotT_e, mAndT_e, mOrT_e, mAnd_e, mOr_e, mNot_e, mIf_e, mChain_e, mNil_e, mCons_e, mTup_e, mLst_e, mLk_e, mCat_e, mCB_e, mCL_e, vD_e, vL_e, vM0_e, mSkip_e, mSeq_e, mAsg_e, mRet_e, mIfS_e, mDrop_e, vNil_e, vCons_e, mPar_e, bName_e, bTup_e, bNil_e, bCons_e, mUnp_e, mFor_e, mForR_e, mForR2_e, mApp_e, mYes_e, mLc_e, mLcR_e, mLcR2_e, mLcZ_e, gNo_e, gE_e, gO_e, mCall_e, mFn_e, mIsi_e, mSS_e, mNo_e, mPt_e, mSl_e, mDG_e, mDGd_e, mDIn_e, mPut_e, mSD_e, mRetO_e, vDof_e, mForZ_e, mNG_e, mNGd_e, mNPut_e, vN0_e, mLcN_e, mDGL_e, mForD_e, asN, mLc2_e, mForZT_e, mRep_e, mIfT_e, mExt_e, bUnl_e, mLcR3_e, mLZ_e, wipeE, pow6, pow7, pow9, pow15, pow18, pow39, asM, List.replicate, List.cons_append, List.nil_append, List.getElem?_cons_zero, List.getElem?_cons_succ, enAll, List.set_cons_zero, List.set_cons_succ, Nat.reduceSub, List.length_cons, List.length_nil, decide_eq_true_eq, Nat.reduceAdd, Nat.reduceLeDiff, true_and, Bool.not_true, Bool.not_false, if_true, if_false, Bool.false_eq_true, Bool.not_eq_true', decide_eq_false_iff_not, Int.reduceLE, Int.reduceLT, Int.reduceNeg, Int.reduceSub, Int.reduceAdd, and_true, PyData.int.injEq, Nat.zero_add, Int.zero_add, Int.sub_zero, addW_ii, addW_ib, addW_bi, addW_tt, addW_ll, subW_ii, subW_ib, subW_bi, mulW_ii, fdivW_ii, modW_ii, negW_i, eqW_ii, eqW_ss, eqW_t0, eqW_l0, neW_ii, neW_ss, neW_t0, neW_l0, ltW_ii, leW_ii, gtW_ii, geW_ii, isW_n, isntW_n, ixW_l, ixW_t, lenW_l, lenW_t, absW_i, intW_i, intW_b, tupW_l, tupW_t, lstW_l, lstW_t, sumW_l, allW_l, anyW_l, minW_2, maxW_2, slW_t, slW_l, revW_t, revW_l, reprW_1, strW_i, strW_b, sortW_l, sortW_t, Option.some.injEq, exists_eq_left', exists_eq_left, dKey, exists_and_left, exists_const, isRf_n, isRf_b, isRf_i, isRf_s, isRf_l, isRf_t, mTry_e, mRaise_e, mRaise0_e, eqS_ss, mPop_e, mAsgX_e, mRetX_e, mDropX_e, mCallX_e, mMk_e, mMeth_e, mMeth0_e, mGet_e, mSet_e, mFnX_e, mCalm_e, mIsiR_e, mXf_e, mXis_e, mCnt_e, mSpec_e, calmM_e, mNever_e, eqI_ii, List.getD_cons_zero, List.getD_cons_succ, ne_eq, Nat.reduceEqDiff, Nat.add_eq_zero_iff, Nat.reduceLT, and_false, not_false_eq_true, Sl.d.injEq, Sl.x.injEq, exists_eq', exists_eq, exists_and_right, exists_const, and_self, List.map_nil, List.map_cons] $[$l]?) else `(tactic| simp only [$ys,*, mV_e, mC_e, mO_e, mOp_e, mUn_e, mT_e, mNotT_e, mAndT_e, mOrT_e, mAnd_e, mOr_e, mNot_e, mIf_e, mChain_e, mNil_e, mCons_e, mTup_e, mLst_e, mLk_e, mCat_e, mCB_e, mCL_e, vD_e, vL_e, vM0_e, mSkip_e, mSeq_e, mAsg_e, mRet_e, mIfS_e, mDrop_e, vNil_e, vCons_e, mPar_e, bName_e, bTup_e, bNil_e, bCons_e, mUnp_e, mFor_e, mForR_e, mForR2_e, mApp_e, mYes_e, mLc_e, mLcR_e, mLcR2_e, mLcZ_e, gNo_e, gE_e, gO_e, mCall_e, mFn_e, mIsi_e, mSS_e, mNo_e, mPt_e, mSl_e, mDG_e, mDGd_e, mDIn_e, mPut_e, mSD_e, mRetO_e, vDof_e, mForZ_e, mNG_e, mNGd_e, mNPut_e, vN0_e, mLcN_e, mDGL_e, mForD_e, asN, mLc2_e, mForZT_e, mRep_e, mIfT_e, mExt_e, bUnl_e, mLcR3_e, mLZ_e, wipeE, pow6, pow7, pow9, pow15, pow18, pow39, asM, List.replicate, List.cons_append, List.nil_append, List.getElem?_cons_zero, List.getElem?_cons_succ, enAll, List.set_cons_zero, List.set_cons_succ, Nat.reduceSub, List.length_cons, List.length_nil, decide_eq_true_eq, Nat.reduceAdd, Nat.reduceLeDiff, true_and, Bool.not_true, Bool.not_false, if_true, if_false, Bool.false_eq_true, Bool.not_eq_true', decide_eq_false_iff_not, Int.reduceLE, Int.reduceLT, Int.reduceNeg, Int.reduceSub, Int.reduceAdd, and_true, PyData.int.injEq, Nat.zero_add, Int.zero_add, Int.sub_zero, addW_ii, addW_ib, addW_bi, addW_tt, addW_ll, subW_ii, subW_ib, subW_bi, mulW_ii, fdivW_ii, modW_ii, negW_i, eqW_ii, eqW_ss, eqW_t0, eqW_l0, neW_ii, neW_ss, neW_t0, neW_l0, ltW_ii, leW_ii, gtW_ii, geW_ii, isW_n, isntW_n, ixW_l, ixW_t, lenW_l, lenW_t, absW_i, intW_i, intW_b, tupW_l, tupW_t, lstW_l, lstW_t, sumW_l, allW_l, anyW_l, minW_2, maxW_2, slW_t, slW_l, revW_t, revW_l, reprW_1, strW_i, strW_b, sortW_l, sortW_t, Option.some.injEq, exists_eq_left', exists_eq_left, dKey, exists_and_left, exists_const, isRf_n, isRf_b, isRf_i, isRf_s, isRf_l, isRf_t, mTry_e, mRaise_e, mRaise0_e, eqS_ss, mPop_e, mAsgX_e, mRetX_e, mDropX_e, mCallX_e, mMk_e, mMeth_e, mMeth0_e, mGet_e, mSet_e, mFnX_e, mCalm_e, mIsiR_e, mXf_e, mXis_e, mCnt_e, mSpec_e, calmM_e, mNever_e, eqI_ii, List.getD_cons_zero, List.getD_cons_succ, ne_eq, Nat.reduceEqDiff, Nat.add_eq_zero_iff, Nat.reduceLT, and_false, not_false_eq_true, Sl.d.injEq, Sl.x.injEq, exists_eq', exists_eq, exists_and_right, exists_const, and_self, List.map_nil, List.map_cons] $[$l]?)
variable {ad : Nat → Addr} {b : Bt} {a a2 : Addr} {R : PyData → Bt → Prop} {Z : Nat → Sl → Bt → Prop} {rs ss : List Bed}
theorem sub_any (g : Rw rs) (g2 : Rw ss) (hb : b.os a = some (ad 5, loadF rs)) (hb2 : b.os a2 = some (ad 5, loadF ss))
    (qz : ∀ x l, lackL rs ss = x :: l → Z 3 (.d (.int x.1)) b) (q : lackL rs ss = [] → ∀ a3, b.os a3 = none → R (refD a3) (b.put a3 (ad 5) (loadF (diffU rs ss)))) : M_Load_sub ad [.d (refD a), .d (refD a2)] b R Z := by
  have f1 := g.few
  have f2 := g2.few
  simp only [M_Load_sub, B_Load_sub, S_Load_sub_7, mIsiO_e, wpx1]
  refine ⟨a2, rfl, _, ⟨_, hb2⟩, rfl, ?_⟩
  simp only [S_Load_sub_5, wpx1]
  refine ⟨a2, rfl, _, _, hb2, rfl, rowsD ss, rfl, ?_⟩
  simp only [rowsD, wpx1]
  refine turns_ind (fun xs E b' => ∃ suf s3 s4, (∀ x ∈ suf, x ∈ ss) ∧ xs = suf.map bedD ∧ E = [.d (refD a), .d (refD a2), .no, s3, s4] ∧ lackL rs ss = suf.filter (fun x => decide (at_ rs x.1 < x.2)) ∧ b' = b) (fun x xs E b' F' h kn kc _ kr kx => ?_) (fun E b' h => ?_) _ _ _ ⟨ss, _, _, fun _ h => h, rfl, rfl, rfl, rfl⟩
  · obtain ⟨suf, s3, s4, hs, ex, rfl, hl, rfl⟩ := h
    cases suf with
    | nil => cases ex
    | cons y suf =>
      cases ex
      refine bed_bind ?_
      have hy := hs y (List.mem_cons_self ..)
      simp only [S_Load_sub_4, mSubX_e, wpx1]
      refine ⟨a, rfl, _, ⟨_, hb⟩, rfl, get_ok f1 (g2.p y hy) hb ?_⟩
      simp only [wpx1]
      rw [List.filter_cons] at hl
      by_cases h : at_ rs y.1 < y.2
      · rw [if_pos h]
        rw [if_pos (decide_eq_true h)] at hl
        simp only [S_Load_sub_3, mRaise_e, wpx1]
        rw [kx]
        exact qz y _ hl
      · rw [if_neg h]
        rw [if_neg (by simpa using h)] at hl
        exact kn _ _ ⟨suf, _, _, fun z hz => hs z (List.mem_cons_of_mem _ hz), rfl, rfl, hl, rfl⟩
  · obtain ⟨suf, s3, s4, hs, ex, rfl, hl, rfl⟩ := h
    cases suf with
    | cons y suf => cases ex
    | nil =>
      simp only [S_Load_sub_2, wpx1]
      refine ⟨a, rfl, _, _, hb, rfl, rowsD rs, rfl, ?_⟩
      simp only [rowsD, wpx1]
      refine comp_tm bedD (fun x : Bed => bedD (x.1, x.2 - at_ ss x.1)) rs _ _ (fun x hx Q hQ => ?_) (by omega) ?_
      · refine bed_bind ?_
        simp only [mSubX_e, wpx1]
        refine ⟨a2, rfl, _, ⟨_, hb2⟩, rfl, get_ok f2 (g.p x hx) hb2 ?_⟩
        simp only [wpx1]
        exact hQ
      · simp only [S_Load_sub_1, wpx1]
        have em : rs.map (fun x : Bed => bedD (x.1, x.2 - at_ ss x.1)) = (rs.map fun x : Bed => ((x.1, x.2 - at_ ss x.1) : Bed)).map bedD := by
          rw [List.map_map]
          rfl
        rw [em]
        refine comp_ty bedD bedD (fun x : Bed => decide (0 < x.2)) (rs.map fun x : Bed => ((x.1, x.2 - at_ ss x.1) : Bed)) [] _ _ (fun x hx C hC => ?_) (by simp; omega) ?_
        · refine bed_bind ?_
          simp only [wpx1]
          by_cases h : 0 < x.2
          · rw [if_pos h]
            simpa [h, bedD] using hC
          · rw [if_neg h]
            simpa [h, bedD] using hC
        · rw [List.nil_append]
          have ed : (rs.map fun x : Bed => ((x.1, x.2 - at_ ss x.1) : Bed)).filter (fun x : Bed => decide (0 < x.2)) = diffU rs ss := by
            unfold diffU
            rw [List.filter_map]
            congr 1
            refine List.filter_congr fun x _ => ?_
            show decide (0 < x.2 - at_ ss x.1) = _
            by_cases h : at_ ss x.1 < x.2
            · rw [decide_eq_true h, decide_eq_true (by omega)]
            · rw [decide_eq_false h, decide_eq_false (by omega)]
          rw [ed]
          intro a3 n3
          refine init_ok (Rw.sz (rw_diffU g g2)).ok (rw_diffU g g2) put_at ?_
          rw [put_put]
          refine ⟨rfl, ?_⟩
          exact q hl a3 n3
def sumD (rs ss : List Bed) : PyData := if tooMuch rs ss then .list [.str "much"] else .tuple [rowsD (sumU rs ss), .bool true]
def lessD (rs ss : List Bed) : PyData := match lackL rs ss with | [] => .tuple [rowsD (diffU rs ss), .bool true] | x :: _ => .list [.str "missing", .int x.1]
end Wp.K33

namespace Wp.K33
open PySem PySem.Spec PyProof.Rows L2 Evl Wp Pg
local macro_rules
  | `(tactic| simp only [$xs,*] $[$l]?) => do
    let ys := xs.getElems.filter fun x => x.raw[2].getId != `wpx1
    if ys.size == xs.getElems.size then Lean.Macro.throwUnsupported
    if ys.size == 0 then `(tactic| simp only [mV_e, mC_e, mO_e, mOp_e, mUn_e, mT_e, mNotT_e, mAndT_e, mOrT_e, mAnd_e, mOr_e, mNot_e, mIf_e, mChain_e, mNil_e, mCons_e, mTup_e, mLst_e, mLk_e, mCat_e, mCB_e, mCL_e, vD_e, vL_e, vM0_e, mSkip_e, mSeq_e, mAsg_e, mRet_e, mIfS_e, mDrop_e, vNil_e, vCons_e, mPar_e, bName_e, bTup_e, bNil_e, bCons_e, mUnp_e, mFor_e, mForR_e, mForR2_e, mApp_e, mYes_e, mLc_e, mLcR_e, mLcR2_e, mLcZ_e, gNo_e, gE_e, gO_e, mCall_e, mFn_e, mIsi_e, mSS_e, mNo_e, mPt_e, mSl_e, mDG_e, mDGd_e, mDIn_e, mPut_e, mSD_e, mRetO_e, vDof_e, mForZ_e, mNG_e, mNGd_e, mNPut_e, vN0_e, mLcN_e, mDGL_e, mForD_e, asN, mLc2_e, mForZT_e, mRep_e, mIfT_e, mExt_e, bUnl_e, mLcR3_e, mLZ_e, wipeE, pow6, pow7, pow9, pow15, pow18, pow39, asM, List.replicate, List.cons_append, List.nil_append, List.getElem?_cons_zero, List.getElem?_cons_succ, enAll, List.set_cons_zero, List.set_cons_succ, Nat.reduceSub, List.length_cons, List.length_nil, decide_eq_true_eq, Nat.reduceAdd, Nat.reduceLeDiff, true_and, Bool.not_true, Bool.not_false, if_true, if_false, Bool.false_eq_true, Bool.not_eq_true', decide_eq_false_iff_not, Int.reduceLE, Int.reduceLT, Int.reduceNeg, Int.reduceSub, Int.reduceAdd, and_true, PyData.int.injEq, Nat.zero_add, Int.zero_add, Int.sub_zero, addW_ii, addW_ib, addW_bi, addW_tt, addW_ll, subW_ii, subW_ib, subW_bi, mulW_ii, fdivW_ii, modW_ii, negW_i, eqW_ii, eqW_ss, eqW_t0, eqW_l0, neW_ii, neW_ss, neW_t0, neW_l0, ltW_ii, leW_ii, gtW_ii, geW_ii, isW_n, isntW_n, ixW_l, ixW_t, lenW_l, lenW_t, absW_i, intW_i, intW_b, tupW_l, tupW_t, lstW_l, lstW_t, sumW_l, allW_l, anyW_l, minW_2, maxW_2, slW_t, slW_l, revW_t, revW_l, reprW_1, strW_i, strW_b, sortW_l, sortW_t, Option.some.injEq, exists_eq_left', exists_eq_left, dKey, exists_and_left, exists_const, isRf_n, isRf_b, isRf_i, isRf_s, isRf_l, isRf_t, mTry_e, mRaise_e, mRaise0_e, eqS_ss, mPop_e, mAsgX_e, mRetX_e, mDropX_e, mCallX_e, mMk_e, mMeth_e, mMeth0_e, mGet_e, mSet_e, mFnX_e, mCalm_e, mIsiR_e, mXf_e, mXis_e, mCnt_e, mSpec_e, calmM_e, mNever_e, eqI_ii, List.getD_cons_zero, List.getD_cons_succ, ne_eq, Nat.reduceEqDiff, Nat.add_eq_zero_iff, Nat.reduceLT, and_false, not_false_eq_true, Sl.d.injEq, Sl.x.injEq, exists_eq', exists_eq, exists_and_right, exists_const, and_self, List.map_nil, List.map_cons] $[$l]?) else `(tactic| simp only [$ys,*, mV_e, mC_e, mO_e, mOp_e, mUn_e, mT_e, mNotT_e, mAndT_e, mOrT_e, mAnd_e, mOr_e, mNot_e, mIf_e, mChain_e, mNil_e, mCons_e, mTup_e, mLst_e, mLk_e, mCat_e, mCB_e, mCL_e, vD_e, vL_e, vM0_e, mSkip_e, mSeq_e, mAsg_e, mRet_e, mIfS_e, mDrop_e, vNil_e, vCons_e, mPar_e, bName_e, bTup_e, bNil_e, bCons_e, mUnp_e, mFor_e, mForR_e, mForR2_e, mApp_e, mYes_e, mLc_e, mLcR_e, mLcR2_e, mLcZ_e, gNo_e, gE_e, gO_e, mCall_e, mFn_e, mIsi_e, mSS_e, mNo_e, mPt_e, mSl_e, mDG_e, mDGd_e, mDIn_e, mPut_e, mSD_e, mRetO_e, vDof_e, mForZ_e, mNG_e, mNGd_e, mNPut_e, vN0_e, mLcN_e, mDGL_e, mForD_e, asN, mLc2_e, mForZT_e, mRep_e, mIfT_e, mExt_e, bUnl_e, mLcR3_e, mLZ_e, wipeE, pow6, pow7, pow9, pow15, pow18, pow39, asM, List.replicate, List.cons_append, List.nil_append, List.getElem?_cons_zero, List.getElem?_cons_succ, enAll, List.set_cons_zero, List.set_cons_succ, Nat.reduceSub, List.length_cons, List.length_nil, decide_eq_true_eq, Nat.reduceAdd, Nat.reduceLeDiff, true_and, Bool.not_true, Bool.not_false, if_true, if_false, Bool.false_eq_true, Bool.not_eq_true', decide_eq_false_iff_not, Int.reduceLE, Int.reduceLT, Int.reduceNeg, Int.reduceSub, Int.reduceAdd, and_true, PyData.int.injEq, Nat.zero_add, Int.zero_add, Int.sub_zero, addW_ii, addW_ib, addW_bi, addW_tt, addW_ll, subW_ii, subW_ib, subW_bi, mulW_ii, fdivW_ii, modW_ii, negW_i, eqW_ii, eqW_ss, eqW_t0, eqW_l0, neW_ii, neW_ss, neW_t0, neW_l0, ltW_ii, leW_ii, gtW_ii, geW_ii, isW_n, isntW_n, ixW_l, ixW_t, lenW_l, lenW_t, absW_i, intW_i, intW_b, tupW_l, tupW_t, lstW_l, lstW_t, sumW_l, allW_l, anyW_l, minW_2, maxW_2, slW_t, slW_l, revW_t, revW_l, reprW_1, strW_i, strW_b, sortW_l, sortW_t, Option.some.injEq, exists_eq_left', exists_eq_left, dKey, exists_and_left, exists_const, isRf_n, isRf_b, isRf_i, isRf_s, isRf_l, isRf_t, mTry_e, mRaise_e, mRaise0_e, eqS_ss, mPop_e, mAsgX_e, mRetX_e, mDropX_e, mCallX_e, mMk_e, mMeth_e, mMeth0_e, mGet_e, mSet_e, mFnX_e, mCalm_e, mIsiR_e, mXf_e, mXis_e, mCnt_e, mSpec_e, calmM_e, mNever_e, eqI_ii, List.getD_cons_zero, List.getD_cons_succ, ne_eq, Nat.reduceEqDiff, Nat.add_eq_zero_iff, Nat.reduceLT, and_false, not_false_eq_true, Sl.d.injEq, Sl.x.injEq, exists_eq', exists_eq, exists_and_right, exists_const, and_self, List.map_nil, List.map_cons] $[$l]?)
section
variable {ad : Nat → Addr} {b : Bt} {a a2 : Addr} {R : PyData → Bt → Prop} {Z : Nat → Sl → Bt → Prop} {rs ss : List Bed}
theorem plain_beds : ∀ T : List Bed, PyData.plainAll (T.map bedD) = true
  | [] => rfl
  | x :: T => by rw [List.map_cons, PyData.plainAll, plain_beds T]; rfl
theorem depth_bd : ∀ T : List Bed, PyData.depthAll (T.map bedD) ≤ 1
  | [] => by simp [PyData.depthAll]
  | x :: T => by
    have := depth_bd T
    rw [List.map_cons, PyData.depthAll]
    simp only [bedD, PyData.depth, PyData.depthAll]
    omega
theorem ok_rows {rs ss : List Bed} : okEq (rowsD rs) (rowsD ss) := by
  have h1 : (rowsD rs).plain = true := plain_beds _
  have h2 : (rowsD ss).plain = true := plain_beds _
  refine ⟨h1, h2, Nat.le_trans (Nat.min_le_left _ _) ?_⟩
  have := depth_bd rs
  simp only [rowsD, PyData.depth]
  omega
theorem eqv_bed (r s : Bed) : PyData.eqv (bedD r) (bedD s) = decide (r = s) := by
  obtain ⟨a, b⟩ := r
  obtain ⟨a', b'⟩ := s
  simp only [bedD, PyData.eqv, PyData.eqvAll, Bool.and_true, Prod.mk.injEq]
  by_cases h1 : a = a' <;> by_cases h2 : b = b' <;> simp [h1, h2]
theorem eqv_all : ∀ s t : List Bed, PyData.eqvAll (s.map bedD) (t.map bedD) = decide (s = t)
  | [], [] => by simp [PyData.eqvAll]
  | [], _ :: _ => by simp [PyData.eqvAll]
  | _ :: _, [] => by simp [PyData.eqvAll]
  | r :: s, q :: t => by
    rw [List.map_cons, List.map_cons, PyData.eqvAll, eqv_bed, eqv_all s t]
    by_cases h1 : r = q <;> by_cases h2 : s = t <;> simp [h1, h2]
theorem eqv_rows {rs ss : List Bed} : PyData.eqv (rowsD rs) (rowsD ss) = decide (rs = ss) := by
  simp only [rowsD, PyData.eqv]
  exact eqv_all rs ss
theorem eqW_rows {rs ss : List Bed} {K : PyData → Prop} (q : K (.bool (decide (rs = ss)))) : eqW (rowsD rs) (rowsD ss) K := by
  cases ss with
  | nil => cases rs <;> exact q
  | cons y ss =>
    have e : eqW (rowsD rs) (rowsD (y :: ss)) K = (okEq (rowsD rs) (rowsD (y :: ss)) ∧ K (.bool (PyData.eqv (rowsD rs) (rowsD (y :: ss))))) := rfl
    rw [e, eqv_rows]
    exact ⟨ok_rows, q⟩
theorem eq_ok (hb : b.os a = some (ad 5, loadF rs)) (hb2 : b.os a2 = some (ad 5, loadF ss)) (q : R (.bool (decide (rs = ss))) b) : M_Load_eq ad [.d (refD a), .d (refD a2)] b R Z := by
  simp only [M_Load_eq, B_Load_eq, S_Load_eq_1, mIsiO_e, mAnd_e, mOp_e, mGet_e, wpx1]
  refine ⟨a2, rfl, _, ⟨_, hb2⟩, rfl, ?_⟩
  try simp only [if_true]
  refine ⟨a, rfl, _, _, hb, rfl, rowsD rs, rfl, ?_⟩
  refine ⟨a2, rfl, _, _, hb2, rfl, rowsD ss, rfl, ?_⟩
  exact eqW_rows q
def within (rs ss : List Bed) : Bool := ss.all fun x => decide (x.2 ≤ at_ rs x.1)
theorem in_ok (g : Rw rs) (g2 : Rw ss) (hb : b.os a = some (ad 5, loadF rs)) (hb2 : b.os a2 = some (ad 5, loadF ss)) (q : R (.bool (within rs ss)) b) : M_Load_contains ad [.d (refD a), .d (refD a2)] b R Z := by
  have f2 := g2.few
  simp only [M_Load_contains, B_Load_contains, S_Load_contains_1, mIsiO_e, mAnd_e, mOp_e, mGet_e, wpx1]
  refine ⟨a2, rfl, _, ⟨_, hb2⟩, rfl, ?_⟩
  try simp only [if_true]
  refine ⟨a2, rfl, _, _, hb2, rfl, rowsD ss, rfl, ?_⟩
  simp only [rowsD]
  refine comp_tm bedD (fun x => .bool (decide (x.2 ≤ at_ rs x.1))) ss b _ (fun x hx Q hQ => ?_) (by omega) ?_
  · refine bed_bind ?_
    simp only [mSubX_e, wpx1]
    refine ⟨a, rfl, _, ⟨_, hb⟩, rfl, ?_⟩
    refine get_ok g.few (g2.p x hx) hb ?_
    simp only [wpx1]
    exact hQ
  · refine ⟨ss.map fun x => decide (x.2 ≤ at_ rs x.1), by rw [List.map_map]; rfl, ?_⟩
    have e : (ss.map fun x : Bed => decide (x.2 ≤ at_ rs x.1)).all _root_.id = within rs ss := by
      unfold within
      rw [List.all_map]
      rfl
    rw [e]
    exact q
theorem lack_within : (lackL rs ss).isEmpty = within rs ss := by
  unfold lackL within
  induction ss with
  | nil => rfl
  | cons x ss ih =>
    rw [List.filter_cons, List.all_cons, ← ih]
    by_cases h : at_ rs x.1 < x.2
    · rw [if_pos (decide_eq_true h), decide_eq_false (show ¬ x.2 ≤ at_ rs x.1 by omega)]
      rfl
    · rw [if_neg (by simpa using h), decide_eq_true (show x.2 ≤ at_ rs x.1 by omega)]
      rfl
theorem len_ok (hb : b.os a = some (ad 5, loadF rs)) (q : R (.int rs.length) b) : M_Load_len ad [.d (refD a)] b R Z := by
  simp only [M_Load_len, B_Load_len, S_Load_len_1, wpx1]
  refine ⟨a, rfl, _, _, hb, rfl, rowsD rs, rfl, ?_⟩
  simp only [rowsD, wpx1]
  rw [List.length_map]
  exact q
end
end Wp.K33

namespace Wp.K33
open PySem PySem.Spec PyProof.Rows L2 Evl Wp Pg SX
section
variable {ad : Nat → Addr} {b : Bt} {a a2 : Addr} {R : PyData → Bt → Prop} {Z : Nat → Sl → Bt → Prop} {rs ss : List Bed}
def numT (i : Int) : List Nat := if i < 0 then 45 :: TL.numL i.natAbs else TL.numL i.natAbs
/-! ### columns -/
theorem grp_step {m : Nat} {D out : List Nat} {room : Int} (hD : D ≠ []) (hr : room ≤ 0) : groupsFromRight' 3 44 (m + 1) D room out =
    if (D.drop 3).isEmpty then D.reverse ++ out else groupsFromRight' 3 44 m (D.drop 3) (room - 4) (44 :: ((D.take 3).reverse ++ out)) := by
  have hl : 1 ≤ D.length := by
    cases D with
    | nil => exact absurd rfl hD
    | cons _ _ => simp
  rw [groupsFromRight']
  have hn : min 3 (max (max (D.length : Int) room) 1).toNat = min 3 D.length := by omega
  simp only [hn]
  by_cases h3 : D.length ≤ 3
  · have e1 : min 3 D.length = D.length := by omega
    have e2 : D.drop 3 = [] := List.drop_eq_nil_of_le h3
    rw [e1, e2, List.drop_length, List.take_length, if_pos (by simp; omega), if_pos (by rfl)]
    simp
  · have e1 : min 3 D.length = 3 := by omega
    rw [e1]
    have e2 : (D.drop 3).isEmpty = false := by
      cases h : D.drop 3 with
      | nil =>
        have := congrArg List.length h
        simp at this
        omega
      | cons _ _ => rfl
    rw [e2, Bool.false_and, if_neg (by decide), if_neg (by decide)]
    have e3 : 3 - D.length = 0 := by omega
    rw [e3]
    show groupsFromRight' 3 44 m (D.drop 3) (room - 3 - 1) _ = _
    rw [show room - 3 - 1 = room - 4 by omega]
    simp
/-- digits with commas between groups of three -/
def cm : List Nat → List Nat
  | [] => []
  | d :: r => d :: ((if r.length % 3 = 0 ∧ r ≠ [] then [44] else []) ++ cm r)
theorem cm_few : ∀ l : List Nat, l.length ≤ 3 → cm l = l
  | [], _ => rfl
  | [a], _ => by simp [cm]
  | [a, b], _ => by simp [cm]
  | [a, b, c], _ => by simp [cm]
  | a :: b :: c :: d :: r, h => by simp only [List.length_cons] at h; omega
theorem cm_app {B : List Nat} (hB : B.length % 3 = 0) (hne : B ≠ []) : ∀ A : List Nat, A ≠ [] → cm (A ++ B) = cm A ++ 44 :: cm B
  | [], h => absurd rfl h
  | [a], _ => by simp [cm, hB, hne]
  | a :: a2 :: A, _ => by
    have ih := cm_app hB hne (a2 :: A) (by simp)
    rw [List.cons_append, cm, cm, ih]
    have e : ((a2 :: A ++ B).length % 3 = 0 ∧ a2 :: A ++ B ≠ []) ↔ ((a2 :: A).length % 3 = 0 ∧ a2 :: A ≠ []) := by
      simp only [List.cons_append, ne_eq, reduceCtorEq, not_false_eq_true, and_true, List.length_cons, List.length_append]
      omega
    by_cases h : (a2 :: A).length % 3 = 0 ∧ a2 :: A ≠ []
    · rw [if_pos h, if_pos (e.mpr h)]
      simp
    · rw [if_neg h, if_neg fun z => h (e.mp z)]
      simp
theorem grp_cm : ∀ (m : Nat) (D : List Nat) (room : Int) (out : List Nat), D ≠ [] → D.length ≤ m → room ≤ 0 → groupsFromRight' 3 44 m D room out = cm D.reverse ++ out
  | 0, D, room, out, h, hm, _ => absurd (List.eq_nil_of_length_eq_zero (by omega)) h
  | m + 1, D, room, out, h, hm, hr => by
    rw [grp_step h hr]
    by_cases h3 : (D.drop 3).isEmpty = true
    · rw [if_pos h3, cm_few]
      have := List.isEmpty_iff.mp h3
      have := congrArg List.length this
      rw [List.length_drop, List.length_nil] at this
      rw [List.length_reverse]
      omega
    · rw [if_neg h3]
      have hd : D.drop 3 ≠ [] := fun e => h3 (by rw [e]; rfl)
      have hl : 3 < D.length := by
        rcases Nat.lt_or_ge 3 D.length with z | z
        · exact z
        · exact absurd (List.drop_eq_nil_of_le z) hd
      rw [grp_cm m (D.drop 3) (room - 4) _ hd (by rw [List.length_drop]; omega) (by omega)]
      have e : D.reverse = (D.drop 3).reverse ++ (D.take 3).reverse := by rw [← List.reverse_append, List.take_append_drop]
      rw [e, cm_app (by rw [List.length_reverse, List.length_take]; omega) (fun z => by
        have := congrArg List.length z
        rw [List.length_reverse, List.length_take, List.length_nil] at this
        omega) _ (by simpa using hd), cm_few (D.take 3).reverse (by rw [List.length_reverse, List.length_take]; omega)]
      simp
def sg (i : Int) : List Nat := if i < 0 then [45] else []
def colT (i : Int) : List Nat := List.replicate (10 - ((sg i ++ cm (TL.numL i.natAbs)).length : Int)).toNat 32 ++ (sg i ++ cm (TL.numL i.natAbs))
theorem col_eq (i : Int) : Fm.colS i = S (colT i) := by
  have hne := TL.numL_ne i.natAbs
  have g1 := grp_cm ((TL.numL i.natAbs).length + (0 : Int).toNat + 1) (TL.numL i.natAbs).reverse 0 [] (by simpa using hne) (by simp) (by omega)
  rw [List.reverse_reverse, List.append_nil] at g1
  have he : ((TL.numL i.natAbs).isEmpty) = false := by
    cases h : TL.numL i.natAbs with
    | nil => exact absurd h hne
    | cons _ _ => rfl
  have ed : ((Nat.toDigits 10 i.natAbs).map fun c => c.toNat) = TL.numL i.natAbs := rfl
  unfold Fm.colS Fm.colF Fm.fC intField' colT sg
  rw [ed, he]
  have key : ∀ (u G : List Nat), List.replicate (10 - ((u.length : Int) + 0 + 0) - (G.length : Int)).toNat 32 ++ u ++ [] ++ List.replicate 0 32 ++ G ++ [] ++ List.replicate 0 32 = List.replicate (10 - ((u ++ G).length : Int)).toNat 32 ++ (u ++ G) := fun u G => by
    rw [List.length_append, show (10 - ((u.length : Int) + 0 + 0) - (G.length : Int)) = 10 - ((u.length + G.length : Nat) : Int) by omega]
    simp
  rw [← g1]
  by_cases hi : i < 0
  · rw [if_pos hi, decide_eq_true hi]
    exact congrArg S (key [45] (groupsFromRight' 3 44 ((TL.numL i.natAbs).length + (0 : Int).toNat + 1) (TL.numL i.natAbs).reverse 0 []))
  · rw [if_neg hi, decide_eq_false hi]
    exact congrArg S (key [] (groupsFromRight' 3 44 ((TL.numL i.natAbs).length + (0 : Int).toNat + 1) (TL.numL i.natAbs).reverse 0 []))
end
end Wp.K33

namespace Wp.K33
open PySem PySem.Spec PyProof.Rows L2 Evl Wp Pg SX
local macro_rules
  | `(tactic| simp only [$xs,*] $[$l]?) => do
    let ys := xs.getElems.filter fun x => x.raw[2].getId != `wpx1
    if ys.size == xs.getElems.size then Lean.Macro.throwUnsupported
    if ys.size == 0 then `(tactic| simp only [mV_e, mC_e, mO_e, mOp_e, mUn_e, mT_e, mNotT_e, mAndT_e, mOrT_e, mAnd_e, mOr_e, mNot_e, mIf_e, mChain_e, mNil_e, mCons_e, mTup_e, mLst_e, mLk_e, mCat_e, mCB_e, mCL_e, vD_e, vL_e, vM0_e, mSkip_e, mSeq_e, mAsg_e, mRet_e, mIfS_e, mDrop_e, vNil_e, vCons_e, mPar_e, bName_e, bTup_e, bNil_e, bCons_e, mUnp_e, mFor_e, mForR_e, mForR2_e, mApp_e, mYes_e, mLc_e, mLcR_e, mLcR2_e, mLcZ_e, gNo_e, gE_e, gO_e, mCall_e, mFn_e, mIsi_e, mSS_e, mNo_e, mPt_e, mSl_e, mDG_e, mDGd_e, mDIn_e, mPut_e, mSD_e, mRetO_e, vDof_e, mForZ_e, mNG_e, mNGd_e, mNPut_e, vN0_e, mLcN_e, mDGL_e, mForD_e, asN, mLc2_e, mForZT_e, mRep_e, mIfT_e, mExt_e, bUnl_e, mLcR3_e, mLZ_e, wipeE, pow6, pow7, pow9, pow15, pow18, pow39, asM, List.replicate, List.cons_append, List.nil_append, List.getElem?_cons_zero, List.getElem?_cons_succ, enAll, List.set_cons_zero, List.set_cons_succ, Nat.reduceSub, List.length_cons, List.length_nil, decide_eq_true_eq, Nat.reduceAdd, Nat.reduceLeDiff, true_and, Bool.not_true, Bool.not_false, if_true, if_false, Bool.false_eq_true, Bool.not_eq_true', decide_eq_false_iff_not, Int.reduceLE, Int.reduceLT, Int.reduceNeg, Int.reduceSub, Int.reduceAdd, and_true, PyData.int.injEq, Nat.zero_add, Int.zero_add, Int.sub_zero, addW_ii, addW_ib, addW_bi, addW_tt, addW_ll, subW_ii, subW_ib, subW_bi, mulW_ii, fdivW_ii, modW_ii, negW_i, eqW_ii, eqW_ss, eqW_t0, eqW_l0, neW_ii, neW_ss, neW_t0, neW_l0, ltW_ii, leW_ii, gtW_ii, geW_ii, isW_n, isntW_n, ixW_l, ixW_t, lenW_l, lenW_t, absW_i, intW_i, intW_b, tupW_l, tupW_t, lstW_l, lstW_t, sumW_l, allW_l, anyW_l, minW_2, maxW_2, slW_t, slW_l, revW_t, revW_l, reprW_1, strW_i, strW_b, sortW_l, sortW_t, Option.some.injEq, exists_eq_left', exists_eq_left, dKey, exists_and_left, exists_const, isRf_n, isRf_b, isRf_i, isRf_s, isRf_l, isRf_t, mTry_e, mRaise_e, mRaise0_e, eqS_ss, mPop_e, mAsgX_e, mRetX_e, mDropX_e, mCallX_e, mMk_e, mMeth_e, mMeth0_e, mGet_e, mSet_e, mFnX_e, mCalm_e, mIsiR_e, mXf_e, mXis_e, mCnt_e, mSpec_e, calmM_e, mNever_e, eqI_ii, List.getD_cons_zero, List.getD_cons_succ, ne_eq, Nat.reduceEqDiff, Nat.add_eq_zero_iff, Nat.reduceLT, and_false, not_false_eq_true, Sl.d.injEq, Sl.x.injEq, exists_eq', exists_eq, exists_and_right, exists_const, and_self, List.map_nil, List.map_cons] $[$l]?) else `(tactic| simp only [$ys,*, mV_e, mC_e, mO_e, mOp_e, mUn_e, mT_e, mNotT_e, mAndT_e, mOrT_e, mAnd_e, mOr_e, mNot_e, mIf_e, mChain_e, mNil_e, mCons_e, mTup_e, mLst_e, mLk_e, mCat_e, mCB_e, mCL_e, vD_e, vL_e, vM0_e, mSkip_e, mSeq_e, mAsg_e, mRet_e, mIfS_e, mDrop_e, vNil_e, vCons_e, mPar_e, bName_e, bTup_e, bNil_e, bCons_e, mUnp_e, mFor_e, mForR_e, mForR2_e, mApp_e, mYes_e, mLc_e, mLcR_e, mLcR2_e, mLcZ_e, gNo_e, gE_e, gO_e, mCall_e, mFn_e, mIsi_e, mSS_e, mNo_e, mPt_e, mSl_e, mDG_e, mDGd_e, mDIn_e, mPut_e, mSD_e, mRetO_e, vDof_e, mForZ_e, mNG_e, mNGd_e, mNPut_e, vN0_e, mLcN_e, mDGL_e, mForD_e, asN, mLc2_e, mForZT_e, mRep_e, mIfT_e, mExt_e, bUnl_e, mLcR3_e, mLZ_e, wipeE, pow6, pow7, pow9, pow15, pow18, pow39, asM, List.replicate, List.cons_append, List.nil_append, List.getElem?_cons_zero, List.getElem?_cons_succ, enAll, List.set_cons_zero, List.set_cons_succ, Nat.reduceSub, List.length_cons, List.length_nil, decide_eq_true_eq, Nat.reduceAdd, Nat.reduceLeDiff, true_and, Bool.not_true, Bool.not_false, if_true, if_false, Bool.false_eq_true, Bool.not_eq_true', decide_eq_false_iff_not, Int.reduceLE, Int.reduceLT, Int.reduceNeg, Int.reduceSub, Int.reduceAdd, and_true, PyData.int.injEq, Nat.zero_add, Int.zero_add, Int.sub_zero, addW_ii, addW_ib, addW_bi, addW_tt, addW_ll, subW_ii, subW_ib, subW_bi, mulW_ii, fdivW_ii, modW_ii, negW_i, eqW_ii, eqW_ss, eqW_t0, eqW_l0, neW_ii, neW_ss, neW_t0, neW_l0, ltW_ii, leW_ii, gtW_ii, geW_ii, isW_n, isntW_n, ixW_l, ixW_t, lenW_l, lenW_t, absW_i, intW_i, intW_b, tupW_l, tupW_t, lstW_l, lstW_t, sumW_l, allW_l, anyW_l, minW_2, maxW_2, slW_t, slW_l, revW_t, revW_l, reprW_1, strW_i, strW_b, sortW_l, sortW_t, Option.some.injEq, exists_eq_left', exists_eq_left, dKey, exists_and_left, exists_const, isRf_n, isRf_b, isRf_i, isRf_s, isRf_l, isRf_t, mTry_e, mRaise_e, mRaise0_e, eqS_ss, mPop_e, mAsgX_e, mRetX_e, mDropX_e, mCallX_e, mMk_e, mMeth_e, mMeth0_e, mGet_e, mSet_e, mFnX_e, mCalm_e, mIsiR_e, mXf_e, mXis_e, mCnt_e, mSpec_e, calmM_e, mNever_e, eqI_ii, List.getD_cons_zero, List.getD_cons_succ, ne_eq, Nat.reduceEqDiff, Nat.add_eq_zero_iff, Nat.reduceLT, and_false, not_false_eq_true, Sl.d.injEq, Sl.x.injEq, exists_eq', exists_eq, exists_and_right, exists_const, and_self, List.map_nil, List.map_cons] $[$l]?)
section
variable {ad : Nat → Addr} {b : Bt} {a a2 : Addr} {R : PyData → Bt → Prop} {Z : Nat → Sl → Bt → Prop} {rs ss : List Bed}
theorem e58 : Str.ofString ":" = S [58] := by decide +kernel
theorem e10 : Str.ofString "\n" = S [10] := by decide +kernel
theorem cm_len : ∀ l : List Nat, (cm l).length ≤ 2 * l.length
  | [] => by simp [cm]
  | d :: r => by
    have := cm_len r
    rw [cm, List.length_cons, List.length_append, List.length_cons]
    split <;> simp <;> omega
theorem comp_sub {α : Type} {t : WG1} {mt : WT} {ml : WE} {E : Wp.Env} (enc : α → PyData) : ∀ (xs : List α) (acc : List PyData) (b : Bt) (R : List PyData → Bt → Prop), (∀ x ∈ xs, ∀ b' (C : Option PyData → Bt → Prop), b'.n + 1 ≤ b.n + xs.length → b'.os = b.os → (∀ o b2, (o = none ∨ o = some (enc x)) → Dr b' b2 1 → C o b2) → t (enc x) E fun E1 => mt E1 b' fun c b1 => if c = true then ml E1 b1 (fun y b2 => C (some y) b2) else C none b1) →
    acc.length + xs.length ≤ 100000 → (∀ (ys : List α) b2, ys.Sublist xs → Dr b b2 xs.length → R (acc ++ ys.map enc) b2) → mComp t mt ml E (xs.map enc) acc b R
  | [], acc, b, R, _, _, q => by
    have := q [] b (List.Sublist.refl _) Dr.refl
    simpa [mComp] using this
  | x :: xs, acc, b, R, h, few, q => by
    rw [List.map_cons]
    show t (enc x) E fun E1 => mt E1 b fun c b1 => if c = true then ml E1 b1 fun y b2 => acc.length < 100000 ∧ mComp t mt ml E (xs.map enc) (acc ++ [y]) b2 R else mComp t mt ml E (xs.map enc) acc b1 R
    refine h x (List.mem_cons_self ..) b (fun o b' => match o with | some y => acc.length < 100000 ∧ mComp t mt ml E (xs.map enc) (acc ++ [y]) b' R | none => mComp t mt ml E (xs.map enc) acc b' R) (by simp only [List.length_cons]; omega) rfl fun o b2 ho hd => ?_
    simp only [List.length_cons] at few
    rcases ho with rfl | rfl
    · refine comp_sub enc xs acc b2 R (fun x' hx' b' C hb' hos k => h x' (List.mem_cons_of_mem _ hx') b' C (by have := hd.n; simp only [List.length_cons]; omega) (hos.trans hd.os) k) (by omega) fun ys b3 hs h3 => q ys b3 (hs.cons x) (hd.trans h3 (by simp only [List.length_cons]; omega))
    · refine ⟨by omega, comp_sub enc xs (acc ++ [enc x]) b2 R (fun x' hx' b' C hb' hos k => h x' (List.mem_cons_of_mem _ hx') b' C (by have := hd.n; simp only [List.length_cons]; omega) (hos.trans hd.os) k) (by simp; omega) fun ys b3 hs h3 => ?_⟩
      have := q (x :: ys) b3 (hs.cons₂ x) (hd.trans h3 (by simp only [List.length_cons]; omega))
      simpa using this
theorem Rw.sub {ys : List Bed} (g : Rw rs) (h : ys.Sublist rs) : Rw ys := ⟨by have := h.length_le; have := g.few; omega, fun x hx => g.p x (h.subset hx), fun x hx => g.l x (h.subset hx), g.asc.sublist h⟩
theorem Rw.nil : Rw [] := ⟨by simp, by simp, by simp, by simp⟩
def szV (V : List (List Nat)) : Nat := (V.map fun w => w.length + 1).sum
theorem sum_len (V : List (List Nat)) : (V.map fun w => w.length).sum + V.length = szV V := by
  induction V with
  | nil => rfl
  | cons w V ih =>
    have : szV (w :: V) = w.length + 1 + szV V := by simp [szV]
    rw [List.map_cons, List.sum_cons, List.length_cons]
    omega
theorem szV_le {n : Nat} : ∀ {V : List (List Nat)}, (∀ w ∈ V, w.length ≤ n) → szV V ≤ V.length * (n + 1)
  | [], _ => by simp [szV]
  | w :: V, h => by
    have ih := szV_le (n := n) (V := V) fun z hz => h z (List.mem_cons_of_mem _ hz)
    have hw := h w (List.mem_cons_self ..)
    have : szV (w :: V) = w.length + 1 + szV V := by simp [szV]
    rw [List.length_cons, Nat.succ_mul]
    omega
theorem sj_g {k : Nat} {V : List (List Nat)} {K : PyData → Prop} (hs : szV V ≤ 1000000) (q : K (.str (S (TL.joinL [k] V)))) : ∃ ys : List Str, V.map (PyData.str ∘ S) = ys.map PyData.str ∧ (ys.map (·.length)).sum + ys.length * (S [k]).length ≤ 16777216 ∧ K (.str (Txt.join (S [k]) ys)) := by
  refine ⟨V.map S, by rw [List.map_map], ?_, ?_⟩
  · have e : (V.map S).map (·.length) = V.map fun w => w.length := by
      rw [List.map_map]
      exact List.map_congr_left fun w _ => S_len w
    rw [e, S_len, List.length_map]
    have := sum_len V
    simp
    omega
  · rw [join_S [k]]
    exact q
def lnT (x : Bed) : List Nat := colT x.1 ++ [58] ++ colT x.2
theorem colT_len {i : Int} (hi : i.natAbs < 10 ^ 19) : (colT i).length ≤ 49 := by
  have hl := TL.numL_len (n := i.natAbs) (k := 19) (by decide) hi
  have hc := cm_len (TL.numL i.natAbs)
  have hs : (sg i).length ≤ 1 := by unfold sg; split <;> simp
  unfold colT
  rw [List.length_append, List.length_append, List.length_replicate]
  omega
theorem lnT_len (g : Rw rs) : ∀ x ∈ rs, (lnT x).length ≤ 99 := fun x hx => by
  have := g.p x hx
  have := g.l x hx
  have h1 := colT_len (i := x.1) (by omega)
  have h2 := colT_len (i := x.2) (by omega)
  unfold lnT
  simp
  omega
theorem sz_ln (g : Rw rs) : szV (rs.map lnT) ≤ 5000 := by
  have hs := szV_le (n := 99) (V := rs.map lnT) fun w hw => by
    obtain ⟨x, hx, rfl⟩ := List.mem_map.mp hw
    exact lnT_len g x hx
  rw [List.length_map] at hs
  have := g.few
  exact Nat.le_trans hs (by omega)
def strT (rs : List Bed) : List Nat := TL.joinL [10] (rs.map lnT)
theorem str_ok (g : Rw rs) (hb : b.os a = some (ad 5, loadF rs)) (q : R (.str (S (strT rs))) b) : M_Load_str ad [.d (refD a)] b R Z := by
  have few := g.few
  have hz := sizeLine_eq
  simp only [M_Load_str, B_Load_str, S_Load_str_1, mSJ_e, wpx1]
  refine ⟨a, rfl, _, _, hb, rfl, rowsD rs, rfl, ?_⟩
  simp only [rowsD]
  refine comp_tm bedD (fun x => PyData.str (S (lnT x))) rs b _ (fun x hx Q hQ => ?_) (by omega) ?_
  · have hp := g.p x hx
    have hl := g.l x hx
    have h1 := colT_len (i := x.1) (by omega)
    have h2 := colT_len (i := x.2) (by omega)
    unfold lnT at hQ
    simp only [bedD, mJs_c, mJs_n, mFmtC_e, wpx1]
    rw [col_eq, col_eq, e58]
    have c1 : Str.empty ++ S (colT x.1) = S (colT x.1) := S_cat [] (colT x.1)
    have c2 : S (colT x.1) ++ S [58] = S (colT x.1 ++ [58]) := S_cat (colT x.1) [58]
    have c3 : S (colT x.1 ++ [58]) ++ S (colT x.2) = S (colT x.1 ++ [58] ++ colT x.2) := S_cat (colT x.1 ++ [58]) (colT x.2)
    refine ⟨⟨log_i (by omega), by rw [S_len]; omega⟩, ?_⟩
    show (Str.empty ++ S (colT x.1)).length ≤ sizeLine ∧ _
    rw [c1]
    refine ⟨by rw [S_len]; omega, ?_⟩
    show (S (colT x.1) ++ S [58]).length ≤ sizeLine ∧ _
    rw [c2]
    refine ⟨by rw [S_len]; simp; omega, ?_⟩
    refine ⟨⟨log_i (by omega), by rw [S_len]; omega⟩, ?_⟩
    show (S (colT x.1 ++ [58]) ++ S (colT x.2)).length ≤ sizeLine ∧ _
    rw [c3]
    exact ⟨by rw [S_len]; simp; omega, hQ⟩
  · have em : (rs.map fun x => PyData.str (S (lnT x))) = (rs.map lnT).map (PyData.str ∘ S) := by rw [List.map_map]; rfl
    rw [em, e10]
    exact sj_g (k := 10) (K := fun z => R z b) (Nat.le_trans (sz_ln g) (by omega)) q
end
end Wp.K33

namespace Wp.K33
open PySem PySem.Spec PyProof.Rows L2 Evl Wp Pg
section
variable {ad : Nat → Addr} {b : Bt} {a a2 : Addr} {R : PyData → Bt → Prop} {Z : Nat → Sl → Bt → Prop} {rs ss : List Bed}
/-! ### sums and differences of loads, litre by litre -/
theorem at_sum {p : Int} (g : Rw rs) (g2 : Rw ss) (tm : tooMuch rs ss = false) : at_ (sumU rs ss) p = at_ rs p + at_ ss p := by
  have gs := rw_sumU g g2 tm
  by_cases hp : p ∈ keysU rs ss
  · have hm : ((p, at_ rs p + at_ ss p) : Bed) ∈ sumU rs ss := List.mem_map.mpr ⟨p, hp, rfl⟩
    exact at_own gs.asc _ hm
  · rw [at_none fun hm => ?_, at_none fun hm => hp (mem_keysU.mpr (.inl hm)), at_none fun hm => hp (mem_keysU.mpr (.inr hm))]
    · rfl
    · obtain ⟨z, hz, e⟩ := List.mem_map.mp hm
      obtain ⟨q, hq, rfl⟩ := List.mem_map.mp hz
      exact hp (e ▸ hq)
theorem at_nn {p : Int} (g : Rw rs) : 0 ≤ at_ rs p := (at_pos (p := p) fun x hx => (g.l x hx).1).1
theorem at_diff {p : Int} (g : Rw rs) (g2 : Rw ss) : at_ (diffU rs ss) p = if at_ ss p < at_ rs p then at_ rs p - at_ ss p else 0 := by
  have gd := rw_diffU g g2
  by_cases hp : p ∈ (diffU rs ss).map (·.1)
  · obtain ⟨z, hz, rfl⟩ := List.mem_map.mp hp
    rw [at_own gd.asc z hz]
    obtain ⟨x, hx, rfl⟩ := List.mem_map.mp hz
    obtain ⟨hx, h⟩ := List.mem_filter.mp hx
    have h := of_decide_eq_true h
    show x.2 - at_ ss x.1 = if at_ ss x.1 < at_ rs x.1 then at_ rs x.1 - at_ ss x.1 else 0
    rw [at_own g.asc x hx, if_pos h]
  · rw [at_none hp]
    split
    · rename_i h
      exfalso
      have hn := at_nn (p := p) g2
      by_cases hm : p ∈ rs.map (·.1)
      · obtain ⟨x, hx, rfl⟩ := List.mem_map.mp hm
        rw [at_own g.asc x hx] at h
        exact hp (List.mem_map.mpr ⟨(x.1, x.2 - at_ ss x.1), List.mem_map.mpr ⟨x, List.mem_filter.mpr ⟨hx, decide_eq_true h⟩, rfl⟩, rfl⟩)
      · rw [at_none hm] at h
        omega
    · rfl
theorem within_at (g : Rw rs) (g2 : Rw ss) : within rs ss = true ↔ ∀ p, at_ ss p ≤ at_ rs p := by
  unfold within
  rw [List.all_eq_true]
  constructor
  · intro h p
    by_cases hm : p ∈ ss.map (·.1)
    · obtain ⟨x, hx, rfl⟩ := List.mem_map.mp hm
      rw [at_own g2.asc x hx]
      exact of_decide_eq_true (h x hx)
    · rw [at_none hm]
      exact at_nn g
  · intro h x hx
    have := h x.1
    rw [at_own g2.asc x hx] at this
    exact decide_eq_true this
theorem ext_mem : ∀ {rs ss : List Bed}, (rs.Pairwise fun a b => a.1 < b.1) → (ss.Pairwise fun a b => a.1 < b.1) → (∀ z, z ∈ rs ↔ z ∈ ss) → rs = ss
  | [], [], _, _, _ => rfl
  | [], y :: s, _, _, h => by have := (h y).mpr (List.mem_cons_self ..); cases this
  | x :: r, [], _, _, h => by have := (h x).mp (List.mem_cons_self ..); cases this
  | x :: r, y :: s, h1, h2, h => by
    have exy : x = y := by
      rcases List.mem_cons.mp ((h x).mp (List.mem_cons_self ..)) with e | hx
      · exact e
      · rcases List.mem_cons.mp ((h y).mpr (List.mem_cons_self ..)) with e | hy
        · exact e.symm
        · have a1 := (List.pairwise_cons.mp h2).1 x hx
          have a2 := (List.pairwise_cons.mp h1).1 y hy
          omega
    subst exy
    rw [ext_mem (List.pairwise_cons.mp h1).2 (List.pairwise_cons.mp h2).2 fun z => ⟨fun hz => ?_, fun hz => ?_⟩]
    · rcases List.mem_cons.mp ((h z).mp (List.mem_cons_of_mem _ hz)) with e | hz'
      · have := (List.pairwise_cons.mp h1).1 z hz
        rw [e] at this
        omega
      · exact hz'
    · rcases List.mem_cons.mp ((h z).mpr (List.mem_cons_of_mem _ hz)) with e | hz'
      · have := (List.pairwise_cons.mp h2).1 z hz
        rw [e] at this
        omega
      · exact hz'
theorem mem_of_at (g : Rw rs) (g2 : Rw ss) (h : ∀ q, at_ rs q = at_ ss q) {z : Bed} (hz : z ∈ rs) : z ∈ ss := by
  have h1 := at_own g.asc z hz
  have h2 := (g.l z hz).1
  have hp : z.1 ∈ ss.map (·.1) := by
    by_cases hp : z.1 ∈ ss.map (·.1)
    · exact hp
    · have := at_none hp
      rw [← h] at this
      omega
  obtain ⟨y, hy, e⟩ := List.mem_map.mp hp
  have h3 := at_own g2.asc y hy
  rw [← h, e, h1] at h3
  have : z = y := Prod.ext e.symm h3
  rw [this]
  exact hy
theorem ext_at (g : Rw rs) (g2 : Rw ss) (h : ∀ q, at_ rs q = at_ ss q) : rs = ss := ext_mem g.asc g2.asc fun z => ⟨mem_of_at g g2 h, mem_of_at g2 g fun q => (h q).symm⟩
theorem at_nil {p : Int} : at_ [] p = 0 := rfl
/-- loads with few litres -/
structure Fw (n : Nat) (rs : List Bed) : Prop where
  rw_ : Rw rs
  len : rs.length ≤ 16 * n
  lit : ∀ x ∈ rs, x.2 ≤ 1000000000 * n
theorem Fw.at_le {n : Nat} {p : Int} (h : Fw n rs) : at_ rs p ≤ 1000000000 * n := by
  by_cases hm : p ∈ rs.map (·.1)
  · obtain ⟨x, hx, rfl⟩ := List.mem_map.mp hm
    rw [at_own h.rw_.asc x hx]
    exact h.lit x hx
  · rw [at_none hm]
    omega
theorem len_keys : (keysU rs ss).length ≤ rs.length + ss.length := by
  have := Cn.len_sortU (rs.map (·.1) ++ ss.map (·.1))
  unfold keysU
  simp only [List.length_append, List.length_map] at this
  omega
theorem tm_of (hl : rs.length + ss.length ≤ 50) (h : ∀ p, at_ rs p + at_ ss p ≤ 1000000000000000000) : tooMuch rs ss = false := by
  have := len_keys (rs := rs) (ss := ss)
  unfold tooMuch
  rw [Bool.or_eq_false_iff, decide_eq_false_iff_not, List.any_eq_false]
  exact ⟨by omega, fun p _ => by have := h p; simp; omega⟩
theorem Fw.tm {n m : Nat} (h : Fw n rs) (k : Fw m ss) (hn : n + m ≤ 3) : tooMuch rs ss = false := by
  have h1 := h.len
  have h2 := k.len
  refine tm_of (by omega) fun p => ?_
  have h3 := h.at_le (p := p)
  have h4 := k.at_le (p := p)
  have : (1000000000 * (n : Int)) + 1000000000 * (m : Int) ≤ 3000000000 := by omega
  omega
theorem len_sumU : (sumU rs ss).length ≤ rs.length + ss.length := by
  unfold sumU
  rw [List.length_map]
  exact len_keys
theorem Fw.sum {n m : Nat} (h : Fw n rs) (k : Fw m ss) (hn : n + m ≤ 3) : Fw (n + m) (sumU rs ss) := by
  have h1 := h.len
  have h2 := k.len
  refine ⟨rw_sumU h.rw_ k.rw_ (h.tm k hn), by have := len_sumU (rs := rs) (ss := ss); omega, fun x hx => ?_⟩
  obtain ⟨p, _, rfl⟩ := List.mem_map.mp hx
  have h3 := h.at_le (p := p)
  have h4 := k.at_le (p := p)
  show at_ rs p + at_ ss p ≤ 1000000000 * ((n + m : Nat) : Int)
  omega
theorem Fw.nil : Fw 0 [] := ⟨Rw.nil, by simp, by simp⟩
theorem sum_map_add {f h : Int → Int} (K : List Int) : (K.map fun p => f p + h p).sum = (K.map f).sum + (K.map h).sum := by
  induction K with
  | nil => rfl
  | cons x K ih => simp only [List.map_cons, List.sum_cons]; omega
theorem sum_zero (K : List Int) : (K.map fun _ => (0 : Int)).sum = 0 := by
  induction K with
  | nil => rfl
  | cons x K ih => simp only [List.map_cons, List.sum_cons]; omega
theorem sum_ite_no {c v : Int} : ∀ {K : List Int}, c ∉ K → (K.map fun p => if c = p then v else 0).sum = 0
  | [], _ => rfl
  | x :: K, h => by
    rw [List.mem_cons, not_or] at h
    rw [List.map_cons, List.sum_cons, if_neg h.1, sum_ite_no h.2]
    rfl
theorem sum_ite {c v : Int} : ∀ {K : List Int}, K.Nodup → c ∈ K → (K.map fun p => if c = p then v else 0).sum = v
  | [], _, h => nomatch h
  | x :: K, nd, h => by
    rw [List.nodup_cons] at nd
    rw [List.map_cons, List.sum_cons]
    by_cases e : c = x
    · subst e
      rw [if_pos rfl, sum_ite_no nd.1]
      omega
    · rw [if_neg e, sum_ite nd.2 (by rcases List.mem_cons.mp h with h | h; exact absurd h e; exact h)]
      omega
theorem sum_at {K : List Int} (nd : K.Nodup) : ∀ {rs : List Bed}, (∀ x ∈ rs, x.1 ∈ K) → (K.map fun p => at_ rs p).sum = sumR rs
  | [], _ => by
    rw [show (fun p => at_ [] p) = fun _ => (0 : Int) from rfl, sum_zero]
    rfl
  | x :: rs, h => by
    have ih := sum_at nd (rs := rs) fun y hy => h y (List.mem_cons_of_mem _ hy)
    rw [show (fun p => at_ (x :: rs) p) = fun p => (if x.1 = p then x.2 else 0) + at_ rs p from funext fun p => at_cons, sum_map_add, ih, sum_ite nd (h x (List.mem_cons_self ..))]
    simp only [sumR, List.map_cons, List.sum_cons]
theorem keys_nd : (keysU rs ss).Nodup := by
  unfold keysU
  exact List.Pairwise.imp (fun {a b} (h : a < b) => by omega) (Cn.asc_sortU _)
theorem sum_sumU : sumR (sumU rs ss) = sumR rs + sumR ss := by
  have e : sumR (sumU rs ss) = ((keysU rs ss).map fun p => at_ rs p + at_ ss p).sum := by
    unfold sumR sumU
    rw [List.map_map]
    rfl
  rw [e, sum_map_add, sum_at keys_nd fun x hx => mem_keysU.mpr (.inl (List.mem_map.mpr ⟨x, hx, rfl⟩)), sum_at keys_nd fun x hx => mem_keysU.mpr (.inr (List.mem_map.mpr ⟨x, hx, rfl⟩))]
/-- one load and what it has more than another -/
theorem sub_add (g : Rw rs) (g2 : Rw ss) (hw : within rs ss = true) (tm : tooMuch ss (diffU rs ss) = false) : sumU ss (diffU rs ss) = rs := by
  have gd := rw_diffU g g2
  refine ext_at (rw_sumU g2 gd tm) g fun p => ?_
  have h := (within_at g g2).mp hw p
  rw [at_sum g2 gd tm, at_diff g g2]
  split <;> omega
theorem len_diffU : (diffU rs ss).length ≤ rs.length := by
  unfold diffU
  rw [List.length_map]
  exact List.length_filter_le _ _
theorem Fw.diff {n : Nat} (h : Fw n rs) (g2 : Rw ss) : Fw n (diffU rs ss) := by
  refine ⟨rw_diffU h.rw_ g2, Nat.le_trans len_diffU h.len, fun x hx => ?_⟩
  obtain ⟨y, hy, rfl⟩ := List.mem_map.mp hx
  have h1 := h.lit y (List.mem_filter.mp hy).1
  have h2 := at_nn (p := y.1) g2
  show y.2 - at_ ss y.1 ≤ _
  omega
theorem sum_comm (g : Rw rs) (g2 : Rw ss) (t1 : tooMuch rs ss = false) (t2 : tooMuch ss rs = false) : sumU rs ss = sumU ss rs :=
  ext_at (rw_sumU g g2 t1) (rw_sumU g2 g t2) fun p => by rw [at_sum g g2 t1, at_sum g2 g t2]; omega
theorem sum_take_r (g : Rw rs) (g2 : Rw ss) (tm : tooMuch rs ss = false) : diffU (sumU rs ss) ss = rs :=
  ext_at (rw_diffU (rw_sumU g g2 tm) g2) g fun p => by
    have h1 := at_nn (p := p) g
    rw [at_diff (rw_sumU g g2 tm) g2, at_sum g g2 tm]
    split <;> omega
theorem sum_take_l (g : Rw rs) (g2 : Rw ss) (tm : tooMuch rs ss = false) : diffU (sumU rs ss) rs = ss :=
  ext_at (rw_diffU (rw_sumU g g2 tm) g) g2 fun p => by
    have h1 := at_nn (p := p) g2
    rw [at_diff (rw_sumU g g2 tm) g, at_sum g g2 tm]
    split <;> omega
theorem diff_self (g : Rw rs) : diffU rs rs = [] :=
  ext_at (rw_diffU g g) Rw.nil fun p => by
    rw [at_diff g g, at_nil]
    split <;> omega
theorem lack_nil (hw : within rs ss = true) : lackL rs ss = [] := by
  rw [← lack_within] at hw
  exact List.isEmpty_iff.mp hw
theorem within_self (g : Rw rs) : within rs rs = true := (within_at g g).mpr fun p => Int.le_refl _
theorem within_nil (g : Rw rs) : within rs [] = true := (within_at g Rw.nil).mpr fun p => by rw [at_nil]; exact at_nn g
theorem within_both (g : Rw rs) (g2 : Rw ss) : (within ss rs && within rs ss) = decide (rs = ss) := by
  by_cases e : rs = ss
  · subst e
    rw [within_self g, decide_eq_true rfl]
    rfl
  · rw [decide_eq_false e]
    cases h1 : within ss rs with
    | false => rfl
    | true =>
      cases h2 : within rs ss with
      | false => rfl
      | true =>
        exact absurd (ext_at g g2 fun p => by
          have a1 := (within_at g2 g).mp h1 p
          have a2 := (within_at g g2).mp h2 p
          omega) e
theorem within_sum (g : Rw rs) (g2 : Rw ss) (tm : tooMuch rs ss = false) : within (sumU rs ss) rs = true ∧ within (sumU rs ss) ss = true := by
  have gs := rw_sumU g g2 tm
  refine ⟨(within_at gs g).mpr fun p => ?_, (within_at gs g2).mpr fun p => ?_⟩
  · have := at_nn (p := p) g2
    rw [at_sum g g2 tm]
    omega
  · have := at_nn (p := p) g
    rw [at_sum g g2 tm]
    omega
theorem sum_within (g : Rw rs) (g2 : Rw ss) (tm : tooMuch rs ss = false) : within rs (sumU rs ss) = decide (((ss.length : Int)) = 0) := by
  have gs := rw_sumU g g2 tm
  cases ss with
  | nil =>
    rw [decide_eq_true (by rfl)]
    refine (within_at g gs).mpr fun p => ?_
    rw [at_sum g g2 tm, at_nil]
    omega
  | cons x r =>
    rw [decide_eq_false (by simp only [List.length_cons]; omega)]
    cases h : within rs (sumU rs (x :: r)) with
    | false => rfl
    | true =>
      exfalso
      have h1 := (within_at g gs).mp h x.1
      rw [at_sum g g2 tm] at h1
      have h2 := (g2.l x (List.mem_cons_self ..)).1
      rw [at_own g2.asc x (List.mem_cons_self ..)] at h1
      omega
theorem Rw.app1 {pre : List Bed} {x : Bed} {post : List Bed} (g : Rw (pre ++ x :: post)) : Rw (pre ++ [x]) ∧ Rw pre ∧ Rw [x] ∧ Rw (x :: post) ∧ Rw post := by
  have h1 : (pre ++ [x]).Sublist (pre ++ x :: post) := (List.Sublist.refl pre).append (List.singleton_sublist.mpr (List.mem_cons_self ..))
  exact ⟨g.sub h1, g.sub (List.sublist_append_left _ _), g.sub ((List.singleton_sublist.mpr (List.mem_append_right _ (List.mem_cons_self ..)))), g.sub (List.sublist_append_right _ _), g.sub ((List.sublist_cons_self _ _).trans (List.sublist_append_right _ _))⟩
theorem sum_snoc {pre : List Bed} {x : Bed} {post : List Bed} (g : Rw (pre ++ x :: post)) : tooMuch pre [x] = false ∧ sumU pre [x] = pre ++ [x] := by
  obtain ⟨g1, g2, g3, _, _⟩ := g.app1
  have hat : ∀ p, at_ pre p + at_ [x] p = at_ (pre ++ [x]) p := fun p => at_app.symm
  have hle : ∀ p, at_ pre p + at_ [x] p ≤ 1000000000000000000 := fun p => by
    rw [hat]
    by_cases hm : p ∈ (pre ++ [x]).map (·.1)
    · obtain ⟨z, hz, rfl⟩ := List.mem_map.mp hm
      rw [at_own g1.asc z hz]
      exact (g1.l z hz).2
    · rw [at_none hm]
      omega
  have tm : tooMuch pre [x] = false := tm_of (by have := g1.few; rw [List.length_append] at this; exact this) hle
  exact ⟨tm, ext_at (rw_sumU g2 g3 tm) g1 fun p => by rw [at_sum g2 g3 tm, hat]⟩
theorem sum_front {pre : List Bed} {x : Bed} {post : List Bed} (g : Rw (pre ++ x :: post)) : tooMuch [x] post = false ∧ sumU [x] post = x :: post := by
  obtain ⟨_, _, g3, g1, g2⟩ := g.app1
  have hat : ∀ p, at_ [x] p + at_ post p = at_ (x :: post) p := fun p => (at_app (rs := [x]) (ss := post) (p := p)).symm
  have hle : ∀ p, at_ [x] p + at_ post p ≤ 1000000000000000000 := fun p => by
    rw [hat]
    by_cases hm : p ∈ (x :: post).map (·.1)
    · obtain ⟨z, hz, rfl⟩ := List.mem_map.mp hm
      rw [at_own g1.asc z hz]
      exact (g1.l z hz).2
    · rw [at_none hm]
      omega
  have tm : tooMuch [x] post = false := tm_of (by have := g1.few; rw [List.length_cons] at this; simp only [List.length_cons, List.length_nil]; omega) hle
  exact ⟨tm, ext_at (rw_sumU g3 g2 tm) g1 fun p => by rw [at_sum g3 g2 tm, hat]⟩
end
end Wp.K33

namespace Wp.K33
open PySem PySem.Spec PyProof.Rows L2 Evl Wp Pg SX
local macro_rules
  | `(tactic| simp only [$xs,*] $[$l]?) => do
    let ys := xs.getElems.filter fun x => x.raw[2].getId != `wpx1
    if ys.size == xs.getElems.size then Lean.Macro.throwUnsupported
    if ys.size == 0 then `(tactic| simp only [mV_e, mC_e, mO_e, mOp_e, mUn_e, mT_e, mNotT_e, mAndT_e, mOrT_e, mAnd_e, mOr_e, mNot_e, mIf_e, mChain_e, mNil_e, mCons_e, mTup_e, mLst_e, mLk_e, mCat_e, mCB_e, mCL_e, vD_e, vL_e, vM0_e, mSkip_e, mSeq_e, mAsg_e, mRet_e, mIfS_e, mDrop_e, vNil_e, vCons_e, mPar_e, bName_e, bTup_e, bNil_e, bCons_e, mUnp_e, mFor_e, mForR_e, mForR2_e, mApp_e, mYes_e, mLc_e, mLcR_e, mLcR2_e, mLcZ_e, gNo_e, gE_e, gO_e, mCall_e, mFn_e, mIsi_e, mSS_e, mNo_e, mPt_e, mSl_e, mDG_e, mDGd_e, mDIn_e, mPut_e, mSD_e, mRetO_e, vDof_e, mForZ_e, mNG_e, mNGd_e, mNPut_e, vN0_e, mLcN_e, mDGL_e, mForD_e, asN, mLc2_e, mForZT_e, mRep_e, mIfT_e, mExt_e, bUnl_e, mLcR3_e, mLZ_e, wipeE, pow6, pow7, pow9, pow15, pow18, pow39, asM, List.replicate, List.cons_append, List.nil_append, List.getElem?_cons_zero, List.getElem?_cons_succ, enAll, List.set_cons_zero, List.set_cons_succ, Nat.reduceSub, List.length_cons, List.length_nil, decide_eq_true_eq, Nat.reduceAdd, Nat.reduceLeDiff, true_and, Bool.not_true, Bool.not_false, if_true, if_false, Bool.false_eq_true, Bool.not_eq_true', decide_eq_false_iff_not, Int.reduceLE, Int.reduceLT, Int.reduceNeg, Int.reduceSub, Int.reduceAdd, and_true, PyData.int.injEq, Nat.zero_add, Int.zero_add, Int.sub_zero, addW_ii, addW_ib, addW_bi, addW_tt, addW_ll, subW_ii, subW_ib, subW_bi, mulW_ii, fdivW_ii, modW_ii, negW_i, eqW_ii, eqW_ss, eqW_t0, eqW_l0, neW_ii, neW_ss, neW_t0, neW_l0, ltW_ii, leW_ii, gtW_ii, geW_ii, isW_n, isntW_n, ixW_l, ixW_t, lenW_l, lenW_t, absW_i, intW_i, intW_b, tupW_l, tupW_t, lstW_l, lstW_t, sumW_l, allW_l, anyW_l, minW_2, maxW_2, slW_t, slW_l, revW_t, revW_l, reprW_1, strW_i, strW_b, sortW_l, sortW_t, Option.some.injEq, exists_eq_left', exists_eq_left, dKey, exists_and_left, exists_const, isRf_n, isRf_b, isRf_i, isRf_s, isRf_l, isRf_t, mTry_e, mRaise_e, mRaise0_e, eqS_ss, mPop_e, mAsgX_e, mRetX_e, mDropX_e, mCallX_e, mMk_e, mMeth_e, mMeth0_e, mGet_e, mSet_e, mFnX_e, mCalm_e, mIsiR_e, mXf_e, mXis_e, mCnt_e, mSpec_e, calmM_e, mNever_e, eqI_ii, List.getD_cons_zero, List.getD_cons_succ, ne_eq, Nat.reduceEqDiff, Nat.add_eq_zero_iff, Nat.reduceLT, and_false, not_false_eq_true, Sl.d.injEq, Sl.x.injEq, exists_eq', exists_eq, exists_and_right, exists_const, and_self, List.map_nil, List.map_cons] $[$l]?) else `(tactic| simp only [$ys,*, mV_e, mC_e, mO_e, mOp_e, mUn_e, mT_e, mNotT_e, mAndT_e, mOrT_e, mAnd_e, mOr_e, mNot_e, mIf_e, mChain_e, mNil_e, mCons_e, mTup_e, mLst_e, mLk_e, mCat_e, mCB_e, mCL_e, vD_e, vL_e, vM0_e, mSkip_e, mSeq_e, mAsg_e, mRet_e, mIfS_e, mDrop_e, vNil_e, vCons_e, mPar_e, bName_e, bTup_e, bNil_e, bCons_e, mUnp_e, mFor_e, mForR_e, mForR2_e, mApp_e, mYes_e, mLc_e, mLcR_e, mLcR2_e, mLcZ_e, gNo_e, gE_e, gO_e, mCall_e, mFn_e, mIsi_e, mSS_e, mNo_e, mPt_e, mSl_e, mDG_e, mDGd_e, mDIn_e, mPut_e, mSD_e, mRetO_e, vDof_e, mForZ_e, mNG_e, mNGd_e, mNPut_e, vN0_e, mLcN_e, mDGL_e, mForD_e, asN, mLc2_e, mForZT_e, mRep_e, mIfT_e, mExt_e, bUnl_e, mLcR3_e, mLZ_e, wipeE, pow6, pow7, pow9, pow15, pow18, pow39, asM, List.replicate, List.cons_append, List.nil_append, List.getElem?_cons_zero, List.getElem?_cons_succ, enAll, List.set_cons_zero, List.set_cons_succ, Nat.reduceSub, List.length_cons, List.length_nil, decide_eq_true_eq, Nat.reduceAdd, Nat.reduceLeDiff, true_and, Bool.not_true, Bool.not_false, if_true, if_false, Bool.false_eq_true, Bool.not_eq_true', decide_eq_false_iff_not, Int.reduceLE, Int.reduceLT, Int.reduceNeg, Int.reduceSub, Int.reduceAdd, and_true, PyData.int.injEq, Nat.zero_add, Int.zero_add, Int.sub_zero, addW_ii, addW_ib, addW_bi, addW_tt, addW_ll, subW_ii, subW_ib, subW_bi, mulW_ii, fdivW_ii, modW_ii, negW_i, eqW_ii, eqW_ss, eqW_t0, eqW_l0, neW_ii, neW_ss, neW_t0, neW_l0, ltW_ii, leW_ii, gtW_ii, geW_ii, isW_n, isntW_n, ixW_l, ixW_t, lenW_l, lenW_t, absW_i, intW_i, intW_b, tupW_l, tupW_t, lstW_l, lstW_t, sumW_l, allW_l, anyW_l, minW_2, maxW_2, slW_t, slW_l, revW_t, revW_l, reprW_1, strW_i, strW_b, sortW_l, sortW_t, Option.some.injEq, exists_eq_left', exists_eq_left, dKey, exists_and_left, exists_const, isRf_n, isRf_b, isRf_i, isRf_s, isRf_l, isRf_t, mTry_e, mRaise_e, mRaise0_e, eqS_ss, mPop_e, mAsgX_e, mRetX_e, mDropX_e, mCallX_e, mMk_e, mMeth_e, mMeth0_e, mGet_e, mSet_e, mFnX_e, mCalm_e, mIsiR_e, mXf_e, mXis_e, mCnt_e, mSpec_e, calmM_e, mNever_e, eqI_ii, List.getD_cons_zero, List.getD_cons_succ, ne_eq, Nat.reduceEqDiff, Nat.add_eq_zero_iff, Nat.reduceLT, and_false, not_false_eq_true, Sl.d.injEq, Sl.x.injEq, exists_eq', exists_eq, exists_and_right, exists_const, and_self, List.map_nil, List.map_cons] $[$l]?)
section
variable {ad : Nat → Addr} {b : Bt} {a a2 : Addr} {R : PyData → Bt → Prop} {Z : Nat → Sl → Bt → Prop} {rs ss : List Bed}
/-- both loads put together; one taken away from another -/
theorem add_o (g : Rw rs) (g2 : Rw ss) (hb : b.os a = some (ad 5, loadF rs)) (hb2 : b.os a2 = some (ad 5, loadF ss)) (tm : tooMuch rs ss = false)
    (q : ∀ a3 b', Kx b b' → b'.os a3 = some (ad 5, loadF (sumU rs ss)) → R (refD a3) b') : M_Load_add ad [.d (refD a), .d (refD a2)] b R Z :=
  add_any g g2 hb hb2 (fun h => by rw [tm] at h; cases h) fun _ a3 n3 => q a3 _ (kx_put n3) put_at
theorem sub_o (g : Rw rs) (g2 : Rw ss) (hb : b.os a = some (ad 5, loadF rs)) (hb2 : b.os a2 = some (ad 5, loadF ss)) (hw : within rs ss = true)
    (q : ∀ a3 b', Kx b b' → b'.os a3 = some (ad 5, loadF (diffU rs ss)) → R (refD a3) b') : M_Load_sub ad [.d (refD a), .d (refD a2)] b R Z :=
  sub_any g g2 hb hb2 (fun x l h => by rw [lack_nil hw] at h; cases h) fun _ a3 n3 => q a3 _ (kx_put n3) put_at
theorem leI_ii {i j : Int} {K : PyData → Prop} (q : K (.bool (decide (i ≤ j)))) : Wp.leI (.int i) (.int j) K := ⟨i, j, rfl, rfl, q⟩
theorem geI_ii {i j : Int} {K : PyData → Prop} (q : K (.bool (decide (j ≤ i)))) : Wp.geI (.int i) (.int j) K := ⟨i, j, rfl, rfl, q⟩
theorem hget_ok {p : Int} (few : rs.length ≤ 50) (hp : -1000000 ≤ p ∧ p ≤ 1000000) (hb : b.os a = some (ad 5, loadF rs)) (q : R (.int (at_ rs p)) b) : HM_Load_getitem ad [.d (refD a), .d (.int p)] b R := by
  simp only [HM_Load_getitem, HB_Load_getitem, HM_is_place, HB_is_place, HM_is_number_within, HB_is_number_within, M_is_number, B_is_number, S_is_number_1, isI, isB, mChain, wpx1]
  refine leI_ii ?_
  rw [decide_eq_true hp.1]
  simp only [wpx1]
  refine leI_ii ?_
  rw [decide_eq_true hp.2]
  simp only [Bool.true_eq_false, if_false, wpx1]
  refine ⟨a, rfl, _, _, hb, rfl, rowsD rs, rfl, ?_⟩
  simp only [rowsD, wpx1]
  refine comp_ty bedD (fun x => .int x.2) (fun x : Bed => decide (x.1 = p)) rs [] b _ (fun x hx C hC => ?_) (by simp; omega) ?_
  · simp only [bedD, wpx1]
    by_cases h : x.1 = p
    · rw [if_pos h]
      simpa [h] using hC
    · rw [if_neg h]
      simpa [h] using hC
  · refine ⟨(rs.filter fun x : Bed => decide (x.1 = p)).map fun x : Bed => x.2, by rw [List.nil_append, List.map_map]; rfl, q⟩
theorem can_ok (h : Fw 1 rs) (k : Fw 1 ss) (hb : b.os a = some (ad 5, loadF rs)) (hb2 : b.os a2 = some (ad 5, loadF ss)) (q : ∀ b', Kx b b' → R (.bool (within rs ss)) b') :
    M_l_can_take ad [.d (refD a), .d (refD a2)] b R Z := by
  have z2 : ((xcL ad 2).2 = "") = False := by simp only [xcL, List.getD_cons_succ, List.getD_cons_zero]; decide
  simp only [M_l_can_take, B_l_can_take, S_l_can_take_4, S_l_can_take_1, mBinX_e, mBinXR_e, mEqOX_e, calmM_e, wpx1]
  refine ⟨a, rfl, _, _, a2, rfl, hb, ⟨_, hb2⟩, rfl, sub_any h.rw_ k.rw_ hb hb2 (fun x l hl => ?_) fun hl a3 n3 => ?_⟩
  · refine ⟨by decide, by decide, ?_⟩
    show 2 < 4 ∧ _
    refine ⟨by decide, ?_⟩
    simp only [List.getD_cons_zero, List.getD_cons_succ, if_true, z2, if_false]
    refine ⟨_, rfl, fun a0 dd => ?_⟩
    have hx : x ∈ ss ∧ at_ rs x.1 < x.2 := by
      have : x ∈ lackL rs ss := by rw [hl]; exact List.mem_cons_self ..
      obtain ⟨h1, h2⟩ := List.mem_filter.mp this
      exact ⟨h1, of_decide_eq_true h2⟩
    have hp := k.rw_.p x hx.1
    have hw : within rs ss = false := by
      rw [← lack_within, hl]
      rfl
    simp only [U_l_can_take_3, S_l_can_take_2, mSubW_e, mXf, z2, if_false, wpx1]
    have e0 : (xcL ad 2).2 = "place" := rfl
    refine ⟨_, ⟨e0, rfl⟩, ?_⟩
    refine ⟨a, rfl, _, ⟨_, hb⟩, rfl, hget_ok h.rw_.few hp hb ⟨_, ⟨e0, rfl⟩, a2, rfl, _, ⟨_, hb2⟩, rfl, hget_ok k.rw_.few hp hb2 (geI_ii ?_)⟩⟩
    have e1 := at_own k.rw_.asc x hx.1
    rw [e1, decide_eq_false (by omega)]
    have := q b Kx.refl
    rw [hw] at this
    exact this
  · have kx : Kx b (b.put a3 (ad 5) (loadF (diffU rs ss))) := kx_put n3
    have gd := rw_diffU h.rw_ k.rw_
    have hw : within rs ss = true := by
      rw [← lack_within, hl]
      rfl
    have tm : tooMuch ss (diffU rs ss) = false := k.tm (h.diff k.rw_) (by omega)
    refine ⟨⟨a3, rfl⟩, a2, rfl, _, _, a3, rfl, kx.2 _ _ hb2, ⟨_, put_at⟩, rfl, ?_⟩
    refine add_o k.rw_ gd (kx.2 _ _ hb2) put_at tm fun a4 b4 k4 h4 => ?_
    rw [sub_add h.rw_ k.rw_ hw tm] at h4
    have hb4 := (kx.trans k4).2 _ _ hb
    refine ⟨⟨a4, rfl⟩, a4, rfl, _, _, a, rfl, h4, _, ⟨_, hb4⟩, rfl, rfl, eq_ok h4 hb4 ⟨_, rfl, ?_⟩⟩
    have := q b4 (kx.trans k4)
    rw [hw] at this
    rw [decide_eq_true rfl]
    exact this
end
end Wp.K33

namespace Wp.K33
open PySem PySem.Spec PyProof.Rows L2 Evl Wp Pg SX
local macro_rules
  | `(tactic| simp only [$xs,*] $[$l]?) => do
    let ys := xs.getElems.filter fun x => x.raw[2].getId != `wpx1
    if ys.size == xs.getElems.size then Lean.Macro.throwUnsupported
    if ys.size == 0 then `(tactic| simp only [mV_e, mC_e, mO_e, mOp_e, mUn_e, mT_e, mNotT_e, mAndT_e, mOrT_e, mAnd_e, mOr_e, mNot_e, mIf_e, mChain_e, mNil_e, mCons_e, mTup_e, mLst_e, mLk_e, mCat_e, mCB_e, mCL_e, vD_e, vL_e, vM0_e, mSkip_e, mSeq_e, mAsg_e, mRet_e, mIfS_e, mDrop_e, vNil_e, vCons_e, mPar_e, bName_e, bTup_e, bNil_e, bCons_e, mUnp_e, mFor_e, mForR_e, mForR2_e, mApp_e, mYes_e, mLc_e, mLcR_e, mLcR2_e, mLcZ_e, gNo_e, gE_e, gO_e, mCall_e, mFn_e, mIsi_e, mSS_e, mNo_e, mPt_e, mSl_e, mDG_e, mDGd_e, mDIn_e, mPut_e, mSD_e, mRetO_e, vDof_e, mForZ_e, mNG_e, mNGd_e, mNPut_e, vN0_e, mLcN_e, mDGL_e, mForD_e, asN, mLc2_e, mForZT_e, mRep_e, mIfT_e, mExt_e, bUnl_e, mLcR3_e, mLZ_e, wipeE, pow6, pow7, pow9, pow15, pow18, pow39, asM, List.replicate, List.cons_append, List.nil_append, List.getElem?_cons_zero, List.getElem?_cons_succ, enAll, List.set_cons_zero, List.set_cons_succ, Nat.reduceSub, List.length_cons, List.length_nil, decide_eq_true_eq, Nat.reduceAdd, Nat.reduceLeDiff, true_and, Bool.not_true, Bool.not_false, if_true, if_false, Bool.false_eq_true, Bool.not_eq_true', decide_eq_false_iff_not, Int.reduceLE, Int.reduceLT, Int.reduceNeg, Int.reduceSub, Int.reduceAdd, and_true, PyData.int.injEq, Nat.zero_add, Int.zero_add, Int.sub_zero, addW_ii, addW_ib, addW_bi, addW_tt, addW_ll, subW_ii, subW_ib, subW_bi, mulW_ii, fdivW_ii, modW_ii, negW_i, eqW_ii, eqW_ss, eqW_t0, eqW_l0, neW_ii, neW_ss, neW_t0, neW_l0, ltW_ii, leW_ii, gtW_ii, geW_ii, isW_n, isntW_n, ixW_l, ixW_t, lenW_l, lenW_t, absW_i, intW_i, intW_b, tupW_l, tupW_t, lstW_l, lstW_t, sumW_l, allW_l, anyW_l, minW_2, maxW_2, slW_t, slW_l, revW_t, revW_l, reprW_1, strW_i, strW_b, sortW_l, sortW_t, Option.some.injEq, exists_eq_left', exists_eq_left, dKey, exists_and_left, exists_const, isRf_n, isRf_b, isRf_i, isRf_s, isRf_l, isRf_t, mTry_e, mRaise_e, mRaise0_e, eqS_ss, mPop_e, mAsgX_e, mRetX_e, mDropX_e, mCallX_e, mMk_e, mMeth_e, mMeth0_e, mGet_e, mSet_e, mFnX_e, mCalm_e, mIsiR_e, mXf_e, mXis_e, mCnt_e, mSpec_e, calmM_e, mNever_e, eqI_ii, List.getD_cons_zero, List.getD_cons_succ, ne_eq, Nat.reduceEqDiff, Nat.add_eq_zero_iff, Nat.reduceLT, and_false, not_false_eq_true, Sl.d.injEq, Sl.x.injEq, exists_eq', exists_eq, exists_and_right, exists_const, and_self, List.map_nil, List.map_cons] $[$l]?) else `(tactic| simp only [$ys,*, mV_e, mC_e, mO_e, mOp_e, mUn_e, mT_e, mNotT_e, mAndT_e, mOrT_e, mAnd_e, mOr_e, mNot_e, mIf_e, mChain_e, mNil_e, mCons_e, mTup_e, mLst_e, mLk_e, mCat_e, mCB_e, mCL_e, vD_e, vL_e, vM0_e, mSkip_e, mSeq_e, mAsg_e, mRet_e, mIfS_e, mDrop_e, vNil_e, vCons_e, mPar_e, bName_e, bTup_e, bNil_e, bCons_e, mUnp_e, mFor_e, mForR_e, mForR2_e, mApp_e, mYes_e, mLc_e, mLcR_e, mLcR2_e, mLcZ_e, gNo_e, gE_e, gO_e, mCall_e, mFn_e, mIsi_e, mSS_e, mNo_e, mPt_e, mSl_e, mDG_e, mDGd_e, mDIn_e, mPut_e, mSD_e, mRetO_e, vDof_e, mForZ_e, mNG_e, mNGd_e, mNPut_e, vN0_e, mLcN_e, mDGL_e, mForD_e, asN, mLc2_e, mForZT_e, mRep_e, mIfT_e, mExt_e, bUnl_e, mLcR3_e, mLZ_e, wipeE, pow6, pow7, pow9, pow15, pow18, pow39, asM, List.replicate, List.cons_append, List.nil_append, List.getElem?_cons_zero, List.getElem?_cons_succ, enAll, List.set_cons_zero, List.set_cons_succ, Nat.reduceSub, List.length_cons, List.length_nil, decide_eq_true_eq, Nat.reduceAdd, Nat.reduceLeDiff, true_and, Bool.not_true, Bool.not_false, if_true, if_false, Bool.false_eq_true, Bool.not_eq_true', decide_eq_false_iff_not, Int.reduceLE, Int.reduceLT, Int.reduceNeg, Int.reduceSub, Int.reduceAdd, and_true, PyData.int.injEq, Nat.zero_add, Int.zero_add, Int.sub_zero, addW_ii, addW_ib, addW_bi, addW_tt, addW_ll, subW_ii, subW_ib, subW_bi, mulW_ii, fdivW_ii, modW_ii, negW_i, eqW_ii, eqW_ss, eqW_t0, eqW_l0, neW_ii, neW_ss, neW_t0, neW_l0, ltW_ii, leW_ii, gtW_ii, geW_ii, isW_n, isntW_n, ixW_l, ixW_t, lenW_l, lenW_t, absW_i, intW_i, intW_b, tupW_l, tupW_t, lstW_l, lstW_t, sumW_l, allW_l, anyW_l, minW_2, maxW_2, slW_t, slW_l, revW_t, revW_l, reprW_1, strW_i, strW_b, sortW_l, sortW_t, Option.some.injEq, exists_eq_left', exists_eq_left, dKey, exists_and_left, exists_const, isRf_n, isRf_b, isRf_i, isRf_s, isRf_l, isRf_t, mTry_e, mRaise_e, mRaise0_e, eqS_ss, mPop_e, mAsgX_e, mRetX_e, mDropX_e, mCallX_e, mMk_e, mMeth_e, mMeth0_e, mGet_e, mSet_e, mFnX_e, mCalm_e, mIsiR_e, mXf_e, mXis_e, mCnt_e, mSpec_e, calmM_e, mNever_e, eqI_ii, List.getD_cons_zero, List.getD_cons_succ, ne_eq, Nat.reduceEqDiff, Nat.add_eq_zero_iff, Nat.reduceLT, and_false, not_false_eq_true, Sl.d.injEq, Sl.x.injEq, exists_eq', exists_eq, exists_and_right, exists_const, and_self, List.map_nil, List.map_cons] $[$l]?)
section
variable {ad : Nat → Addr} {b : Bt} {a a2 : Addr} {R : PyData → Bt → Prop} {Z : Nat → Sl → Bt → Prop} {rs ss : List Bed}
theorem ok_bb {c d : Bool} : okEq (.bool c) (.bool d) := ⟨by simp [PyData.plain], by simp [PyData.plain], by simp [PyData.depth]⟩
theorem eqv_bb {c d : Bool} : PyData.eqv (.bool c) (.bool d) = decide (c = d) := by cases c <;> cases d <;> rfl
theorem neW_cd {c d : Bool} {K : PyData → Prop} (q : K (.bool (!decide (c = d)))) : neW (.bool c) (.bool d) K := by
  have e : neW (.bool c) (.bool d) K = (okEq (.bool c) (.bool d) ∧ K (.bool (!PyData.eqv (.bool c) (.bool d)))) := rfl
  rw [e, eqv_bb]
  exact ⟨ok_bb, q⟩
theorem eqW_cd {c d : Bool} {K : PyData → Prop} (q : K (.bool (decide (c = d)))) : eqW (.bool c) (.bool d) K := by
  have e : eqW (.bool c) (.bool d) K = (okEq (.bool c) (.bool d) ∧ K (.bool (PyData.eqv (.bool c) (.bool d)))) := rfl
  rw [e, eqv_bb]
  exact ⟨ok_bb, q⟩
theorem bne_false' (c : Bool) : (c != false) = c := by cases c <;> rfl
theorem bne_true' (c : Bool) : (c != true) = !c := by cases c <;> rfl
theorem parts_end {F : WEnds} (h : Fw 1 rs) (k : Fw 1 ss) (hb : b.os a = some (ad 5, loadF rs)) (hb2 : b.os a2 = some (ad 5, loadF ss)) (q : ∀ b', Kx b b' → F.rt (.bool true) b') :
    S_l_parts_right_1 ad [.d (refD a), .d (refD a2)] b F := by
  simp only [S_l_parts_right_1, mInO_e, mBinX_e, calmM_e, wpx1]
  refine ⟨a, rfl, _, ⟨_, hb⟩, rfl, in_ok h.rw_ k.rw_ hb hb2 ⟨_, rfl, ?_⟩⟩
  rw [bne_true']
  cases hw : within rs ss with
  | false => exact q b Kx.refl
  | true =>
    simp only [Bool.not_true]
    refine ⟨a, rfl, _, _, a2, rfl, hb, ⟨_, hb2⟩, rfl, sub_o h.rw_ k.rw_ hb hb2 hw fun a3 b' k' h3 => ?_⟩
    refine ⟨⟨a3, rfl⟩, a3, rfl, _, _, h3, rfl, .int (sumR (diffU rs ss)), rfl, a, rfl, _, _, k'.2 _ _ hb, rfl, .int (sumR rs), rfl, a2, rfl, _, _, k'.2 _ _ hb2, rfl, .int (sumR ss), rfl, ?_⟩
    have tm : tooMuch ss (diffU rs ss) = false := k.tm (h.diff k.rw_) (by omega)
    have e := sum_sumU (rs := ss) (ss := diffU rs ss)
    rw [sub_add h.rw_ k.rw_ hw tm] at e
    try simp only [wpx1]
    rw [decide_eq_true (by omega)]
    exact q b' k'
theorem parts_ok (h : Fw 1 rs) (k : Fw 1 ss) (hb : b.os a = some (ad 5, loadF rs)) (hb2 : b.os a2 = some (ad 5, loadF ss)) (q : ∀ b', Kx b b' → R (.bool true) b') :
    M_l_parts_right ad [.d (refD a), .d (refD a2)] b R := by
  simp only [M_l_parts_right, B_l_parts_right, S_l_parts_right_5, mInO_e, calmM_e, wpx1]
  refine can_ok h k hb hb2 fun b1 k1 => ?_
  have hb1 := k1.2 _ _ hb
  have hb21 := k1.2 _ _ hb2
  refine ⟨a, rfl, _, ⟨_, hb1⟩, rfl, in_ok h.rw_ k.rw_ hb1 hb21 ⟨_, rfl, ?_⟩⟩
  rw [bne_false']
  refine neW_cd ?_
  rw [decide_eq_true rfl]
  simp only [Bool.not_true, Bool.false_eq_true, if_false]
  simp only [S_l_parts_right_3, mInO_e, mEqO_e, calmM_e, wpx1]
  have hw1 := within_both h.rw_ k.rw_
  have eq1 : ∀ (K : PyData → Bt → Prop) (Z : Nat → Sl → Bt → Prop), K (.bool (decide (rs = ss))) b1 → M_Load_eq ad [.d (refD a), .d (refD a2)] b1 K Z := fun K Z hK => eq_ok hb1 hb21 hK
  have in1 : ∀ (K : PyData → Bt → Prop) (Z : Nat → Sl → Bt → Prop), K (.bool (within ss rs)) b1 → M_Load_contains ad [.d (refD a2), .d (refD a)] b1 K Z := fun K Z hK => in_ok k.rw_ h.rw_ hb21 hb1 hK
  have in2 : ∀ (K : PyData → Bt → Prop) (Z : Nat → Sl → Bt → Prop), K (.bool (within rs ss)) b1 → M_Load_contains ad [.d (refD a), .d (refD a2)] b1 K Z := fun K Z hK => in_ok h.rw_ k.rw_ hb1 hb21 hK
  refine ⟨a2, rfl, _, ⟨_, hb21⟩, rfl, in1 _ _ ⟨_, rfl, ?_⟩⟩
  rw [bne_false']
  cases hA : within ss rs with
  | false =>
    have e0 : false = decide (rs = ss) := by rw [← hw1, hA]; rfl
    simp only []
    refine ⟨a, rfl, _, _, a2, rfl, hb1, _, ⟨_, hb21⟩, rfl, rfl, eq1 _ _ ⟨_, rfl, ?_⟩⟩
    refine neW_cd ?_
    rw [decide_eq_true e0]
    simp only [Bool.not_true, Bool.false_eq_true, if_false]
    refine ⟨a, rfl, _, _, a2, rfl, hb1, _, ⟨_, hb21⟩, rfl, rfl, eq1 _ _ ⟨_, rfl, ?_⟩⟩
    rw [← e0]
    simp only [Bool.false_eq_true, if_false]
    exact parts_end h k hb1 hb21 fun b' k' => q b' (k1.trans k')
  | true =>
    have e0 : within rs ss = decide (rs = ss) := by rw [← hw1, hA]; rfl
    simp only []
    refine ⟨a, rfl, _, ⟨_, hb1⟩, rfl, in2 _ _ ⟨_, rfl, ?_⟩⟩
    rw [bne_false']
    refine ⟨a, rfl, _, _, a2, rfl, hb1, _, ⟨_, hb21⟩, rfl, rfl, eq1 _ _ ⟨_, rfl, ?_⟩⟩
    refine neW_cd ?_
    rw [decide_eq_true e0]
    simp only [Bool.not_true, Bool.false_eq_true, if_false]
    refine ⟨a, rfl, _, _, a2, rfl, hb1, _, ⟨_, hb21⟩, rfl, rfl, eq1 _ _ ⟨_, rfl, ?_⟩⟩
    by_cases hE : rs = ss
    · rw [if_pos (decide_eq_true hE)]
      subst hE
      refine ⟨a, rfl, _, ⟨_, hb1⟩, rfl, str_ok h.rw_ hb1 ⟨⟨_, rfl⟩, a2, rfl, _, ⟨_, hb21⟩, rfl, str_ok k.rw_ hb21 ⟨⟨_, rfl⟩, ?_⟩⟩⟩
      simp only [neW_ss, decide_true, Bool.not_true, Bool.false_eq_true, if_false]
      exact parts_end h k hb1 hb21 fun b' k' => q b' (k1.trans k')
    · rw [if_neg (by rw [decide_eq_false hE]; decide)]
      exact parts_end h k hb1 hb21 fun b' k' => q b' (k1.trans k')
/-- loads that stand in a state -/
def At (ad : Nat → Addr) (b : Bt) (l : List (Addr × List Bed)) : Prop := ∀ x ∈ l, b.os x.1 = some (ad 5, loadF x.2)
theorem At.kx {l : List (Addr × List Bed)} {b' : Bt} (h : At ad b l) (k : Kx b b') : At ad b' l := fun x hx => k.2 _ _ (h x hx)
theorem sum_assoc {ts : List Bed} (h : Fw 1 rs) (k : Fw 1 ss) (l : Fw 1 ts) : sumU (sumU rs ss) ts = sumU rs (sumU ss ts) := by
  have f12 := h.sum k (by omega)
  have f20 := k.sum l (by omega)
  have t120 := f12.tm l (by omega)
  have t1_20 := h.tm f20 (by omega)
  refine ext_at (rw_sumU f12.rw_ l.rw_ t120) (rw_sumU h.rw_ f20.rw_ t1_20) fun p => ?_
  rw [at_sum f12.rw_ l.rw_ t120, at_sum h.rw_ f20.rw_ t1_20, at_sum h.rw_ k.rw_ (h.tm k (by omega)), at_sum k.rw_ l.rw_ (k.tm l (by omega))]
  omega
theorem len_P (g : Rw rs) : lenP (.int rs.length) := ⟨_, rfl, by omega, by have := g.few; omega⟩
theorem sums_places {a0 c : Addr} {ts : List Bed} {F : WEnds} (h : Fw 1 rs) (k : Fw 1 ss) (A : At ad b [(a, rs), (a2, ss), (a0, ts), (c, sumU rs ss)]) (q : ∀ s4 s5, F.nx [.d (refD a), .d (refD a2), .d (refD a0), .d (refD c), s4, s5] b) :
    S_l_sums_right_4 ad [.d (refD a), .d (refD a2), .d (refD a0), .d (refD c), .no, .no] b F := by
  have ha := A _ (List.mem_cons_self ..)
  have ha2 := A _ (List.mem_cons_of_mem _ (List.mem_cons_self ..))
  have hc := A _ (List.mem_cons_of_mem _ (List.mem_cons_of_mem _ (List.mem_cons_of_mem _ (List.mem_cons_self ..))))
  have t12 := h.tm k (by omega)
  have g12 := rw_sumU h.rw_ k.rw_ t12
  have few := g12.few
  simp only [S_l_sums_right_4, wpx1]
  refine ⟨c, rfl, _, _, hc, rfl, rowsD (sumU rs ss), rfl, ?_⟩
  simp only [rowsD, wpx1]
  refine comp_tm bedD (fun x => .int x.1) (sumU rs ss) b _ (fun x hx Q hQ => bed_bind (by simp only [wpx1]; exact hQ)) (by omega) ?_
  refine ⟨by rw [List.length_map]; omega, ?_⟩
  have hr : ∀ y ∈ (sumU rs ss).map (fun x => PyData.int x.1) ++ [PyData.int 0, .int 1000000, .int (-1000000)], ∃ p : Int, y = .int p ∧ -1000000 ≤ p ∧ p ≤ 1000000 := fun y hy => by
    rcases List.mem_append.mp hy with hy | hy
    · obtain ⟨x, hx, rfl⟩ := List.mem_map.mp hy
      exact ⟨x.1, rfl, g12.p x hx⟩
    · simp only [List.mem_cons, List.not_mem_nil, or_false] at hy
      rcases hy with rfl | rfl | rfl
      · exact ⟨0, rfl, by omega, by omega⟩
      · exact ⟨1000000, rfl, by omega, by omega⟩
      · exact ⟨-1000000, rfl, by omega, by omega⟩
  refine turns_ind (fun xs E b' => b' = b ∧ (∀ y ∈ xs, ∃ p : Int, y = .int p ∧ -1000000 ≤ p ∧ p ≤ 1000000) ∧ ∃ s4 s5, E = [.d (refD a), .d (refD a2), .d (refD a0), .d (refD c), s4, s5]) (fun x xs E b' F' hh kn kc _ kr kx => ?_) (fun E b' hh => ?_) _ _ _ ⟨rfl, hr, _, _, rfl⟩
  · obtain ⟨rfl, hx, s4, s5, rfl⟩ := hh
    obtain ⟨p, rfl, hp⟩ := hx x (List.mem_cons_self ..)
    rw [bName_e]
    simp only [S_l_sums_right_3, mSubX_e, wpx1]
    refine ⟨c, rfl, _, ⟨_, hc⟩, rfl, get_ok few hp hc ?_⟩
    refine ⟨a, rfl, _, ⟨_, ha⟩, rfl, get_ok h.rw_.few hp ha ?_⟩
    refine ⟨a2, rfl, _, ⟨_, ha2⟩, rfl, get_ok k.rw_.few hp ha2 ?_⟩
    simp only [wpx1]
    rw [at_sum h.rw_ k.rw_ t12]
    simp only [decide_true, Bool.not_true, Bool.false_eq_true, if_false]
    first | rw [if_neg (by simp)] | skip
    exact kn _ _ ⟨rfl, fun y hy => hx y (List.mem_cons_of_mem _ hy), _, _, rfl⟩
  · obtain ⟨rfl, _, s4, s5, rfl⟩ := hh
    exact q s4 s5
theorem sums_ok {a0 : Addr} {ts : List Bed} (h : Fw 1 rs) (k : Fw 1 ss) (l : Fw 1 ts) (hb : b.os a = some (ad 5, loadF rs)) (hb2 : b.os a2 = some (ad 5, loadF ss)) (hb0 : b.os a0 = some (ad 5, loadF ts)) (q : ∀ b', Kx b b' → R (.bool true) b') :
    M_l_sums_right ad [.d (refD a), .d (refD a2), .d (refD a0)] b R := by
  have g1 := h.rw_
  have g2 := k.rw_
  have g0 := l.rw_
  have t12 := h.tm k (by omega)
  have t21 := k.tm h (by omega)
  have f12 := h.sum k (by omega)
  have f20 := k.sum l (by omega)
  have g12 := f12.rw_
  have g20 := f20.rw_
  have t120 := f12.tm l (by omega)
  have t20 := k.tm l (by omega)
  have t1_20 := h.tm f20 (by omega)
  simp only [M_l_sums_right, B_l_sums_right, S_l_sums_right_9, mBinX_e, wpx1]
  refine ⟨a, rfl, _, _, a2, rfl, hb, ⟨_, hb2⟩, rfl, add_o g1 g2 hb hb2 t12 fun c b1 k1 hc => ?_⟩
  refine ⟨⟨c, rfl⟩, ?_⟩
  simp only [S_l_sums_right_8, mBinX_e, mNeO_e, calmM_e, wpx1]
  have ha1 := k1.2 _ _ hb
  have hb1 := k1.2 _ _ hb2
  have h01 := k1.2 _ _ hb0
  refine ⟨a2, rfl, _, _, a, rfl, hb1, ⟨_, ha1⟩, rfl, add_o g2 g1 hb1 ha1 t21 fun c2 b2 k2 hc2 => ?_⟩
  rw [← sum_comm g1 g2 t12 t21] at hc2
  refine ⟨⟨c2, rfl⟩, c, rfl, _, _, c2, rfl, k2.2 _ _ hc, _, ⟨_, hc2⟩, rfl, rfl, eq_ok (k2.2 _ _ hc) hc2 ⟨_, rfl, ?_⟩⟩
  simp only [decide_true, Bool.not_true, Bool.false_eq_true, if_false]
  rw [if_neg (by decide)]
  have A2 : At ad b2 [(a, rs), (a2, ss), (a0, ts), (c, sumU rs ss)] := fun x hx => by
    simp only [List.mem_cons, List.not_mem_nil, or_false] at hx
    rcases hx with rfl | rfl | rfl | rfl
    · exact k2.2 _ _ ha1
    · exact k2.2 _ _ hb1
    · exact k2.2 _ _ h01
    · exact k2.2 _ _ hc
  have m1 : ∀ {b : Bt}, At ad b [(a, rs), (a2, ss), (a0, ts), (c, sumU rs ss)] → b.os a = some (ad 5, loadF rs) ∧ b.os a2 = some (ad 5, loadF ss) ∧ b.os a0 = some (ad 5, loadF ts) ∧ b.os c = some (ad 5, loadF (sumU rs ss)) := fun h =>
    ⟨h _ (List.mem_cons_self ..), h _ (List.mem_cons_of_mem _ (List.mem_cons_self ..)), h _ (List.mem_cons_of_mem _ (List.mem_cons_of_mem _ (List.mem_cons_self ..))), h _ (List.mem_cons_of_mem _ (List.mem_cons_of_mem _ (List.mem_cons_of_mem _ (List.mem_cons_self ..))))⟩
  refine ⟨c, rfl, _, _, a0, rfl, (m1 A2).2.2.2, ⟨_, (m1 A2).2.2.1⟩, rfl, add_o g12 g0 (m1 A2).2.2.2 (m1 A2).2.2.1 t120 fun c3 b3 k3 hc3 => ?_⟩
  have A3 := A2.kx k3
  refine ⟨⟨c3, rfl⟩, a2, rfl, _, _, a0, rfl, (m1 A3).2.1, ⟨_, (m1 A3).2.2.1⟩, rfl, add_o g2 g0 (m1 A3).2.1 (m1 A3).2.2.1 t20 fun c4 b4 k4 hc4 => ?_⟩
  have A4 := A3.kx k4
  refine ⟨⟨c4, rfl⟩, a, rfl, _, _, c4, rfl, (m1 A4).1, ⟨_, hc4⟩, rfl, add_o g1 g20 (m1 A4).1 hc4 t1_20 fun c5 b5 k5 hc5 => ?_⟩
  have A5 := A4.kx k5
  have hc35 := k5.2 _ _ (k4.2 _ _ hc3)
  rw [← sum_assoc h k l] at hc5
  refine ⟨⟨c5, rfl⟩, c3, rfl, _, _, c5, rfl, hc35, _, ⟨_, hc5⟩, rfl, rfl, eq_ok hc35 hc5 ⟨_, rfl, ?_⟩⟩
  simp only [decide_true, Bool.not_true, Bool.false_eq_true, if_false]
  rw [if_neg (by decide)]
  refine ⟨c, rfl, _, _, a2, rfl, (m1 A5).2.2.2, ⟨_, (m1 A5).2.1⟩, rfl, sub_o g12 g2 (m1 A5).2.2.2 (m1 A5).2.1 (within_sum g1 g2 t12).2 fun c6 b6 k6 hc6 => ?_⟩
  have A6 := A5.kx k6
  rw [sum_take_r g1 g2 t12] at hc6
  refine ⟨⟨c6, rfl⟩, c6, rfl, _, _, a, rfl, hc6, _, ⟨_, (m1 A6).1⟩, rfl, rfl, eq_ok hc6 (m1 A6).1 ⟨_, rfl, ?_⟩⟩
  simp only [decide_true, Bool.not_true, Bool.false_eq_true, if_false]
  rw [if_neg (by decide)]
  refine ⟨c, rfl, _, _, a, rfl, (m1 A6).2.2.2, ⟨_, (m1 A6).1⟩, rfl, sub_o g12 g1 (m1 A6).2.2.2 (m1 A6).1 (within_sum g1 g2 t12).1 fun c7 b7 k7 hc7 => ?_⟩
  have A7 := A6.kx k7
  rw [sum_take_l g1 g2 t12] at hc7
  refine ⟨⟨c7, rfl⟩, c7, rfl, _, _, a2, rfl, hc7, _, ⟨_, (m1 A7).2.1⟩, rfl, rfl, eq_ok hc7 (m1 A7).2.1 ⟨_, rfl, ?_⟩⟩
  simp only [decide_true, Bool.not_true, Bool.false_eq_true, if_false]
  have kk : Kx b b7 := k1.trans (k2.trans (k3.trans (k4.trans (k5.trans (k6.trans k7)))))
  simp only [S_l_sums_right_6, mBinX_e, mNeO_e, calmM_e, wpx1]
  rw [if_neg (by decide)]
  refine ⟨c, rfl, _, _, (m1 A7).2.2.2, rfl, .int (sumR (sumU rs ss)), rfl, a, rfl, _, _, (m1 A7).1, rfl, .int (sumR rs), rfl, a2, rfl, _, _, (m1 A7).2.1, rfl, .int (sumR ss), rfl, ?_⟩
  simp only [wpx1]
  rw [sum_sumU]
  rw [if_neg (by simp)]
  refine ⟨c, rfl, _, ⟨_, (m1 A7).2.2.2⟩, rfl, len_ok (m1 A7).2.2.2 ⟨len_P g12, a, rfl, _, ⟨_, (m1 A7).1⟩, rfl, len_ok (m1 A7).1 ⟨len_P g1, a2, rfl, _, ⟨_, (m1 A7).2.1⟩, rfl, len_ok (m1 A7).2.1 ⟨len_P g2, ?_⟩⟩⟩⟩
  have le := len_sumU (rs := rs) (ss := ss)
  simp only [wpx1]
  rw [if_neg (by omega)]
  refine ⟨a, rfl, _, _, a, rfl, (m1 A7).1, ⟨_, (m1 A7).1⟩, rfl, sub_o g1 g1 (m1 A7).1 (m1 A7).1 (within_self g1) fun c8 b8 k8 hc8 => ?_⟩
  have A8 := A7.kx k8
  rw [diff_self g1] at hc8
  refine ⟨⟨c8, rfl⟩, fun c9 n9 => init_ok (rs := []) (Rw.sz Rw.nil).ok Rw.nil put_at ?_⟩
  rw [put_put]
  have k9 : Kx b8 (b8.put c9 (ad 5) (loadF [])) := kx_put n9
  refine ⟨rfl, c8, rfl, _, _, c9, rfl, k9.2 _ _ hc8, _, ⟨_, put_at⟩, rfl, rfl, eq_ok (k9.2 _ _ hc8) put_at ⟨_, rfl, ?_⟩⟩
  have A9 := A8.kx k9
  have kk9 := kk.trans (k8.trans k9)
  generalize b8.put c9 (ad 5) (loadF []) = b9 at A9 kk9
  simp only [decide_true, Bool.not_true, Bool.false_eq_true, if_false]
  rw [if_neg (by decide)]
  refine sums_places h k A9 fun s4 s5 => ?_
  simp only [S_l_sums_right_1, mInO_e, calmM_e, wpx1]
  refine ⟨c, rfl, _, ⟨_, (m1 A9).2.2.2⟩, rfl, in_ok g12 g1 (m1 A9).2.2.2 (m1 A9).1 ⟨_, rfl, ?_⟩⟩
  rw [bne_false', (within_sum g1 g2 t12).1]
  simp only []
  refine ⟨c, rfl, _, ⟨_, (m1 A9).2.2.2⟩, rfl, in_ok g12 g2 (m1 A9).2.2.2 (m1 A9).2.1 ⟨_, rfl, ?_⟩⟩
  rw [bne_false', (within_sum g1 g2 t12).2]
  simp only []
  refine fun c10 n10 => init_ok (rs := []) (Rw.sz Rw.nil).ok Rw.nil put_at ?_
  rw [put_put]
  have k10 : Kx b9 (b9.put c10 (ad 5) (loadF [])) := kx_put n10
  have A10 := A9.kx k10
  have kk10 := kk9.trans k10
  have hc10 : (b9.put c10 (ad 5) (loadF [])).os c10 = some (ad 5, loadF []) := put_at
  refine ⟨rfl, a, rfl, _, ⟨_, (m1 A10).1⟩, rfl, in_ok g1 Rw.nil (m1 A10).1 hc10 ⟨_, rfl, ?_⟩⟩
  rw [bne_false', within_nil g1]
  simp only []
  refine ⟨a, rfl, _, ⟨_, (m1 A10).1⟩, rfl, in_ok g1 g12 (m1 A10).1 (m1 A10).2.2.2 ⟨_, rfl, ?_⟩⟩
  rw [bne_false', sum_within g1 g2 t12]
  refine ⟨a2, rfl, _, ⟨_, (m1 A10).2.1⟩, rfl, len_ok (m1 A10).2.1 ⟨len_P g2, ?_⟩⟩
  simp only [wpx1]
  refine eqW_cd ?_
  simp only [decide_true]
  exact q _ kk10
end
end Wp.K33

namespace Wp.K33
open PySem PySem.Spec PyProof.Rows L2 Evl Wp Pg SX
section
variable {ad : Nat → Addr} {b : Bt} {a a2 : Addr} {R : PyData → Bt → Prop} {Z : Nat → Sl → Bt → Prop} {rs ss : List Bed}
def sp (c : Nat) : List Nat → List Nat → List (List Nat)
  | acc, [] => [acc]
  | acc, x :: r => if x = c then acc :: sp c [] r else sp c (acc ++ [x]) r
theorem pre1 (c x : Nat) (r : List Nat) : TL.pre [c] (x :: r) = decide (x = c) := by
  unfold TL.pre
  by_cases h : x = c <;> simp [h]
theorem spl_sp (c : Nat) : ∀ (l acc : List Nat), TL.spl [c] 0 acc l = sp c acc l
  | [], acc => TL.spl_nil _ _ _
  | x :: r, acc => by
    unfold sp
    by_cases h : x = c
    · rw [if_pos h, TL.spl_hit (by rw [pre1]; exact decide_eq_true h)]
      congr 1
      exact spl_sp c r []
    · rw [if_neg h, TL.spl_miss (by rw [pre1]; exact decide_eq_false h)]
      exact spl_sp c r _
theorem split_sp {c : Nat} (hc : c < 256) (a : List Nat) : Txt.split (S a) (S [c]) = (sp c [] a).map S := by
  rw [split_S (by simp) (by simpa using hc), spl_sp]
theorem eq_lst {d : PyData} {ds : List PyData} {K : PyData → Prop} (hp : (PyData.list (d :: ds)).plain = true) (hd : (PyData.list (d :: ds)).depth ≤ 50) (q : K (.bool true)) : eqW (.list (d :: ds)) (.list (d :: ds)) K := by
  refine ⟨⟨hp, hp, by omega⟩, ?_⟩
  rw [PySem.SeqAt.eqv_refl_plain _ hp]
  exact q
theorem mem_cm {x : Nat} : ∀ {l : List Nat}, x ∈ cm l → x = 44 ∨ x ∈ l
  | [], h => .inr h
  | y :: l, h => by
    have ih := mem_cm (x := x) (l := l)
    rw [cm] at h
    rcases List.mem_cons.mp h with rfl | h
    · exact .inr (List.mem_cons_self ..)
    · rcases List.mem_append.mp h with h | h
      · split at h
        · exact .inl (List.mem_singleton.mp h)
        · cases h
      · exact (ih h).imp_right (List.mem_cons_of_mem _)
theorem col_no10 (i : Int) : 10 ∉ colT i := fun h => by
  unfold colT at h
  rcases List.mem_append.mp h with h | h
  · have := (List.mem_replicate.mp h).2
    omega
  · rcases List.mem_append.mp h with h | h
    · unfold sg at h
      split at h
      · have := List.mem_singleton.mp h
        omega
      · cases h
    · rcases mem_cm h with h | h
      · omega
      · have := TL.numL_digits i.natAbs 10 h
        omega
theorem ln_no10 (x : Bed) : 10 ∉ lnT x := fun h => by
  unfold lnT at h
  rcases List.mem_append.mp h with h | h
  · rcases List.mem_append.mp h with h | h
    · exact col_no10 _ h
    · have := List.mem_singleton.mp h
      omega
  · exact col_no10 _ h
theorem sp_no {c : Nat} : ∀ (w acc r : List Nat), c ∉ w → sp c acc (w ++ r) = sp c (acc ++ w) r
  | [], acc, r, _ => by rw [List.append_nil]; rfl
  | y :: w, acc, r, h => by
    rw [List.mem_cons, not_or] at h
    rw [List.cons_append]
    show (if y = c then acc :: sp c [] (w ++ r) else sp c (acc ++ [y]) (w ++ r)) = _
    rw [if_neg (fun z => h.1 z.symm), sp_no w (acc ++ [y]) r h.2, List.append_assoc]
    rfl
theorem sp_joinL : ∀ (V : List (List Nat)), V ≠ [] → (∀ w ∈ V, 10 ∉ w) → sp 10 [] (TL.joinL [10] V) = V
  | [], h, _ => absurd rfl h
  | [w], _, h => by
    have e := sp_no w [] [] (h w (List.mem_cons_self ..))
    rw [List.append_nil, List.nil_append] at e
    show sp 10 [] w = [w]
    rw [e]
    rfl
  | w :: v :: V, _, h => by
    have ih := sp_joinL (v :: V) (by simp) fun z hz => h z (List.mem_cons_of_mem _ hz)
    have ej : TL.joinL [10] (w :: v :: V) = w ++ 10 :: TL.joinL [10] (v :: V) := rfl
    rw [ej, sp_no w [] _ (h w (List.mem_cons_self ..)), List.nil_append]
    show (if 10 = 10 then w :: sp 10 [] (TL.joinL [10] (v :: V)) else _) = _
    rw [if_pos rfl, ih]
theorem plain_strs : ∀ V : List (List Nat), PyData.plainAll (V.map (PyData.str ∘ S)) = true
  | [] => rfl
  | w :: V => by rw [List.map_cons, PyData.plainAll, plain_strs V]; rfl
theorem depth_strs : ∀ V : List (List Nat), PyData.depthAll (V.map (PyData.str ∘ S)) = 0
  | [] => by simp [PyData.depthAll]
  | w :: V => by rw [List.map_cons, PyData.depthAll, depth_strs V]; simp [PyData.depth]
theorem eq_strs {V : List (List Nat)} {K : PyData → Prop} (q : K (.bool true)) : eqW (.list (V.map (PyData.str ∘ S))) (.list (V.map (PyData.str ∘ S))) K := by
  cases V with
  | nil => exact q
  | cons w V =>
    have h1 := plain_strs (w :: V)
    have h2 := depth_strs (w :: V)
    rw [List.map_cons] at h1 h2
    rw [List.map_cons]
    exact eq_lst (by rw [PyData.plain]; exact h1) (by rw [PyData.depth, h2]; decide) q
end
end Wp.K33

namespace Wp.K33
open PySem PySem.Spec PyProof.Rows L2 Evl Wp Pg SX
local macro_rules
  | `(tactic| simp only [$xs,*] $[$l]?) => do
    let ys := xs.getElems.filter fun x => x.raw[2].getId != `wpx1
    if ys.size == xs.getElems.size then Lean.Macro.throwUnsupported
    if ys.size == 0 then `(tactic| simp only [mV_e, mC_e, mO_e, mOp_e, mUn_e, mT_e, mNotT_e, mAndT_e, mOrT_e, mAnd_e, mOr_e, mNot_e, mIf_e, mChain_e, mNil_e, mCons_e, mTup_e, mLst_e, mLk_e, mCat_e, mCB_e, mCL_e, vD_e, vL_e, vM0_e, mSkip_e, mSeq_e, mAsg_e, mRet_e, mIfS_e, mDrop_e, vNil_e, vCons_e, mPar_e, bName_e, bTup_e, bNil_e, bCons_e, mUnp_e, mFor_e, mForR_e, mForR2_e, mApp_e, mYes_e, mLc_e, mLcR_e, mLcR2_e, mLcZ_e, gNo_e, gE_e, gO_e, mCall_e, mFn_e, mIsi_e, mSS_e, mNo_e, mPt_e, mSl_e, mDG_e, mDGd_e, mDIn_e, mPut_e, mSD_e, mRetO_e, vDof_e, mForZ_e, mNG_e, mNGd_e, mNPut_e, vN0_e, mLcN_e, mDGL_e, mForD_e, asN, mLc2_e, mForZT_e, mRep_e, mIfT_e, mExt_e, bUnl_e, mLcR3_e, mLZ_e, wipeE, pow6, pow7, pow9, pow15, pow18, pow39, asM, List.replicate, List.cons_append, List.nil_append, List.getElem?_cons_zero, List.getElem?_cons_succ, enAll, List.set_cons_zero, List.set_cons_succ, Nat.reduceSub, List.length_cons, List.length_nil, decide_eq_true_eq, Nat.reduceAdd, Nat.reduceLeDiff, true_and, Bool.not_true, Bool.not_false, if_true, if_false, Bool.false_eq_true, Bool.not_eq_true', decide_eq_false_iff_not, Int.reduceLE, Int.reduceLT, Int.reduceNeg, Int.reduceSub, Int.reduceAdd, and_true, PyData.int.injEq, Nat.zero_add, Int.zero_add, Int.sub_zero, addW_ii, addW_ib, addW_bi, addW_tt, addW_ll, subW_ii, subW_ib, subW_bi, mulW_ii, fdivW_ii, modW_ii, negW_i, eqW_ii, eqW_ss, eqW_t0, eqW_l0, neW_ii, neW_ss, neW_t0, neW_l0, ltW_ii, leW_ii, gtW_ii, geW_ii, isW_n, isntW_n, ixW_l, ixW_t, lenW_l, lenW_t, absW_i, intW_i, intW_b, tupW_l, tupW_t, lstW_l, lstW_t, sumW_l, allW_l, anyW_l, minW_2, maxW_2, slW_t, slW_l, revW_t, revW_l, reprW_1, strW_i, strW_b, sortW_l, sortW_t, Option.some.injEq, exists_eq_left', exists_eq_left, dKey, exists_and_left, exists_const, isRf_n, isRf_b, isRf_i, isRf_s, isRf_l, isRf_t, mTry_e, mRaise_e, mRaise0_e, eqS_ss, mPop_e, mAsgX_e, mRetX_e, mDropX_e, mCallX_e, mMk_e, mMeth_e, mMeth0_e, mGet_e, mSet_e, mFnX_e, mCalm_e, mIsiR_e, mXf_e, mXis_e, mCnt_e, mSpec_e, calmM_e, mNever_e, eqI_ii, List.getD_cons_zero, List.getD_cons_succ, ne_eq, Nat.reduceEqDiff, Nat.add_eq_zero_iff, Nat.reduceLT, and_false, not_false_eq_true, Sl.d.injEq, Sl.x.injEq, exists_eq', exists_eq, exists_and_right, exists_const, and_self, List.map_nil, List.map_cons] $[$l]?) else `(tactic| simp only [$ys,*, mV_e, mC_e, mO_e, mOp_e, mUn_e, mT_e, mNotT_e, mAndT_e, mOrT_e, mAnd_e, mOr_e, mNot_e, mIf_e, mChain_e, mNil_e, mCons_e, mTup_e, mLst_e, mLk_e, mCat_e, mCB_e, mCL_e, vD_e, vL_e, vM0_e, mSkip_e, mSeq_e, mAsg_e, mRet_e, mIfS_e, mDrop_e, vNil_e, vCons_e, mPar_e, bName_e, bTup_e, bNil_e, bCons_e, mUnp_e, mFor_e, mForR_e, mForR2_e, mApp_e, mYes_e, mLc_e, mLcR_e, mLcR2_e, mLcZ_e, gNo_e, gE_e, gO_e, mCall_e, mFn_e, mIsi_e, mSS_e, mNo_e, mPt_e, mSl_e, mDG_e, mDGd_e, mDIn_e, mPut_e, mSD_e, mRetO_e, vDof_e, mForZ_e, mNG_e, mNGd_e, mNPut_e, vN0_e, mLcN_e, mDGL_e, mForD_e, asN, mLc2_e, mForZT_e, mRep_e, mIfT_e, mExt_e, bUnl_e, mLcR3_e, mLZ_e, wipeE, pow6, pow7, pow9, pow15, pow18, pow39, asM, List.replicate, List.cons_append, List.nil_append, List.getElem?_cons_zero, List.getElem?_cons_succ, enAll, List.set_cons_zero, List.set_cons_succ, Nat.reduceSub, List.length_cons, List.length_nil, decide_eq_true_eq, Nat.reduceAdd, Nat.reduceLeDiff, true_and, Bool.not_true, Bool.not_false, if_true, if_false, Bool.false_eq_true, Bool.not_eq_true', decide_eq_false_iff_not, Int.reduceLE, Int.reduceLT, Int.reduceNeg, Int.reduceSub, Int.reduceAdd, and_true, PyData.int.injEq, Nat.zero_add, Int.zero_add, Int.sub_zero, addW_ii, addW_ib, addW_bi, addW_tt, addW_ll, subW_ii, subW_ib, subW_bi, mulW_ii, fdivW_ii, modW_ii, negW_i, eqW_ii, eqW_ss, eqW_t0, eqW_l0, neW_ii, neW_ss, neW_t0, neW_l0, ltW_ii, leW_ii, gtW_ii, geW_ii, isW_n, isntW_n, ixW_l, ixW_t, lenW_l, lenW_t, absW_i, intW_i, intW_b, tupW_l, tupW_t, lstW_l, lstW_t, sumW_l, allW_l, anyW_l, minW_2, maxW_2, slW_t, slW_l, revW_t, revW_l, reprW_1, strW_i, strW_b, sortW_l, sortW_t, Option.some.injEq, exists_eq_left', exists_eq_left, dKey, exists_and_left, exists_const, isRf_n, isRf_b, isRf_i, isRf_s, isRf_l, isRf_t, mTry_e, mRaise_e, mRaise0_e, eqS_ss, mPop_e, mAsgX_e, mRetX_e, mDropX_e, mCallX_e, mMk_e, mMeth_e, mMeth0_e, mGet_e, mSet_e, mFnX_e, mCalm_e, mIsiR_e, mXf_e, mXis_e, mCnt_e, mSpec_e, calmM_e, mNever_e, eqI_ii, List.getD_cons_zero, List.getD_cons_succ, ne_eq, Nat.reduceEqDiff, Nat.add_eq_zero_iff, Nat.reduceLT, and_false, not_false_eq_true, Sl.d.injEq, Sl.x.injEq, exists_eq', exists_eq, exists_and_right, exists_const, and_self, List.map_nil, List.map_cons] $[$l]?)
section
variable {ad : Nat → Addr} {b : Bt} {a a2 : Addr} {R : PyData → Bt → Prop} {Z : Nat → Sl → Bt → Prop} {rs ss : List Bed}
theorem comp_kx {α : Type} {t : WG1} {ml : WE} {E : Wp.Env} (enc f : α → PyData) : ∀ (xs : List α) (acc : List PyData) (b : Bt) (R : List PyData → Bt → Prop), (∀ x ∈ xs, ∀ b', Kx b b' → ∀ Q : PyData → Bt → Prop, (∀ b2, Kx b' b2 → Q (f x) b2) → t (enc x) E fun E1 => ml E1 b' Q) →
    acc.length + xs.length ≤ 100000 → (∀ b2, Kx b b2 → R (acc ++ xs.map f) b2) → mComp t mYes ml E (xs.map enc) acc b R
  | [], acc, b, R, _, _, q => by
    have := q b Kx.refl
    simpa [mComp] using this
  | x :: xs, acc, b, R, h, few, q => by
    simp only [List.map_cons, mComp, mYes, if_true]
    refine h x (List.mem_cons_self ..) b Kx.refl _ fun b2 k2 => ⟨by simp at few; omega, ?_⟩
    refine comp_kx enc f xs (acc ++ [f x]) b2 R (fun x' hx' b' k' Q hQ => h x' (List.mem_cons_of_mem _ hx') b' (k2.trans k') Q hQ) (by simp at few ⊢; omega) fun b3 k3 => ?_
    have := q b3 (k2.trans k3)
    simpa using this
theorem join_len : ∀ V : List (List Nat), (TL.joinL [10] V).length ≤ szV V
  | [] => by simp [TL.joinL]
  | [w] => by simp [TL.joinL, szV]
  | w :: v :: V => by
    have ih := join_len (v :: V)
    have e : TL.joinL [10] (w :: v :: V) = w ++ 10 :: TL.joinL [10] (v :: V) := rfl
    have e2 : szV (w :: v :: V) = w.length + 1 + szV (v :: V) := by simp [szV]
    rw [e, List.length_append, List.length_cons, e2]
    omega
theorem found_ok {s1 s2 s4 : Sl} {c : Addr} {F : WEnds} (g : Rw rs) (hb : b.os a = some (ad 5, loadF rs)) (hc : b.os c = some (ad 5, loadF [])) (q : ∀ s1 c b', Kx b b' → b'.os c = some (ad 5, loadF rs) → F.nx [.d (refD a), s1, s2, .d (refD c), s4] b') :
    S_l_built_right_6 ad [.d (refD a), s1, s2, .d (refD c), s4] b F := by
  have few := g.few
  simp only [S_l_built_right_6, wpx1]
  refine ⟨a, rfl, _, _, hb, rfl, rowsD rs, rfl, ?_⟩
  simp only [rowsD, wpx1]
  refine turns_ind (fun xs E b' => Kx b b' ∧ ∃ pre post c s1, rs = pre ++ post ∧ xs = post.map bedD ∧ b'.os c = some (ad 5, loadF pre) ∧ E = [.d (refD a), s1, s2, .d (refD c), s4]) (fun x xs E b' F' hh kn kc _ kr kx => ?_) (fun E b' hh => ?_) _ _ _ ⟨Kx.refl, [], rs, c, s1, rfl, rfl, hc, rfl⟩
  · obtain ⟨k1, pre, post, c, s1, er, ex, hc, rfl⟩ := hh
    cases post with
    | nil => cases ex
    | cons y post =>
      cases ex
      have g2 : Rw (pre ++ y :: post) := er ▸ g
      obtain ⟨gp1, gp, g1, _, _⟩ := g2.app1
      obtain ⟨tm, es⟩ := sum_snoc g2
      rw [bName_e]
      simp only [S_l_built_right_5, mBinX_e, calmM_e, wpx1]
      refine fun o no => init_ok (rs := [y]) (Rw.sz g1).ok g1 put_at ?_
      rw [put_put]
      have k2 : Kx b' (b'.put o (ad 5) (loadF [y])) := kx_put no
      refine ⟨rfl, c, rfl, _, _, o, rfl, k2.2 _ _ hc, ⟨_, put_at⟩, rfl, add_o gp g1 (k2.2 _ _ hc) put_at tm fun c3 b3 k3 hc3 => ?_⟩
      rw [es] at hc3
      refine ⟨⟨c3, rfl⟩, ?_⟩
      exact kn _ _ ⟨k1.trans (k2.trans k3), pre ++ [y], post, c3, _, by rw [er, List.append_assoc]; rfl, rfl, hc3, rfl⟩
  · obtain ⟨k1, pre, post, c, s1, er, ex, hc, rfl⟩ := hh
    cases post with
    | cons y post => cases ex
    | nil =>
      rw [List.append_nil] at er
      subst er
      exact q s1 c b' k1 hc
theorem back_ok {s1 s2 s3 : Sl} {c : Addr} {F : WEnds} (g : Rw rs) (hb : b.os a = some (ad 5, loadF rs)) (hc : b.os c = some (ad 5, loadF [])) (q : ∀ s1 c b', Kx b b' → b'.os c = some (ad 5, loadF rs) → F.nx [.d (refD a), s1, s2, s3, .d (refD c)] b') :
    S_l_built_right_4 ad [.d (refD a), s1, s2, s3, .d (refD c)] b F := by
  have few := g.few
  simp only [S_l_built_right_4, wpx1]
  refine ⟨a, rfl, _, _, hb, rfl, rowsD rs, rfl, ?_⟩
  simp only [rowsD, wpx1]
  rw [← List.map_reverse]
  refine turns_ind (fun xs E b' => Kx b b' ∧ ∃ pre post c s1, rs = pre ++ post ∧ xs = pre.reverse.map bedD ∧ b'.os c = some (ad 5, loadF post) ∧ E = [.d (refD a), s1, s2, s3, .d (refD c)]) (fun x xs E b' F' hh kn kc _ kr kx => ?_) (fun E b' hh => ?_) _ _ _ ⟨Kx.refl, rs, [], c, s1, by rw [List.append_nil], rfl, hc, rfl⟩
  · obtain ⟨k1, pre, post, c, s1, er, ex, hc, rfl⟩ := hh
    rcases List.eq_nil_or_concat pre with rfl | ⟨pre, y, rfl⟩
    · cases ex
    · rw [List.concat_eq_append, List.reverse_append] at ex
      cases ex
      have er : rs = pre ++ y :: post := by rw [er, List.concat_eq_append, List.append_assoc]; rfl
      have g2 : Rw (pre ++ y :: post) := er ▸ g
      obtain ⟨_, gp, g1, _, gq⟩ := g2.app1
      obtain ⟨tm, es⟩ := sum_front g2
      rw [bName_e]
      simp only [S_l_built_right_3, mBinX_e, calmM_e, wpx1]
      refine fun o no => init_ok (rs := [y]) (Rw.sz g1).ok g1 put_at ?_
      rw [put_put]
      have k2 : Kx b' (b'.put o (ad 5) (loadF [y])) := kx_put no
      refine ⟨rfl, o, rfl, _, _, c, rfl, put_at, ⟨_, k2.2 _ _ hc⟩, rfl, add_o g1 gq put_at (k2.2 _ _ hc) tm fun c3 b3 k3 hc3 => ?_⟩
      rw [es] at hc3
      refine ⟨⟨c3, rfl⟩, ?_⟩
      exact kn _ _ ⟨k1.trans (k2.trans k3), pre, y :: post, c3, _, er, rfl, hc3, rfl⟩
  · obtain ⟨k1, pre, post, c, s1, er, ex, hc, rfl⟩ := hh
    rcases List.eq_nil_or_concat pre with rfl | ⟨pre, y, rfl⟩
    · rw [List.nil_append] at er
      subst er
      exact q s1 c b' k1 hc
    · rw [List.concat_eq_append, List.reverse_append] at ex
      cases ex
theorem built_ok (g : Rw rs) (hb : b.os a = some (ad 5, loadF rs)) (q : ∀ b', Kx b b' → R (.bool true) b') :
    M_l_built_right ad [.d (refD a)] b R := by
  simp only [M_l_built_right, B_l_built_right, S_l_built_right_7, wpx1]
  refine fun o no => init_ok (rs := []) (Rw.sz Rw.nil).ok Rw.nil put_at ?_
  rw [put_put]
  have k1 : Kx b (b.put o (ad 5) (loadF [])) := kx_put no
  have ho : (b.put o (ad 5) (loadF [])).os o = some (ad 5, loadF []) := put_at
  generalize b.put o (ad 5) (loadF []) = b1 at k1 ho
  refine ⟨rfl, fun o2 no2 => init_ok (rs := []) (Rw.sz Rw.nil).ok Rw.nil put_at ?_⟩
  rw [put_put]
  have k2 : Kx b1 (b1.put o2 (ad 5) (loadF [])) := kx_put no2
  have ho2 : (b1.put o2 (ad 5) (loadF [])).os o2 = some (ad 5, loadF []) := put_at
  generalize b1.put o2 (ad 5) (loadF []) = b2 at k2 ho2
  refine ⟨rfl, ?_⟩
  have hb2 := k2.2 _ _ (k1.2 _ _ hb)
  have ho' := k2.2 _ _ ho
  refine found_ok g hb2 ho' fun s1 c b3 k3 hc => ?_
  refine back_ok g (k3.2 _ _ hb2) (k3.2 _ _ ho2) fun s1 c2 b4 k4 hc2 => ?_
  have hb4 := k4.2 _ _ (k3.2 _ _ hb2)
  have hc4 := k4.2 _ _ hc
  have kk : Kx b b4 := k1.trans (k2.trans (k3.trans k4))
  simp only [S_l_built_right_2, mSp_e, wpx1]
  have lines : ∀ (K : List PyData → Prop), K (rs.map fun x => PyData.str (S (lnT x))) → rs ≠ [] → K ((Txt.split (S (strT rs)) (Str.ofString "\n")).map PyData.str) := fun K hK hne => by
    have e : Txt.split (S (strT rs)) (Str.ofString "\n") = (rs.map lnT).map S := by
      rw [e10, split_sp (by decide)]
      unfold strT
      rw [sp_joinL _ (fun z => hne (List.map_eq_nil_iff.mp z)) fun w hw => by
        obtain ⟨x, _, rfl⟩ := List.mem_map.mp hw
        exact ln_no10 x]
    rw [e, List.map_map, List.map_map]
    exact hK
  have tail : S_l_built_right_1 ad [Sl.d (refD a), s1, .d (.list (rs.map fun x => PyData.str (S (lnT x)))), .d (refD c), .d (refD c2)] b4 { nx := fun x b' => R PyData.none b', rt := R } := by
    simp only [S_l_built_right_1, mEqO_e, calmM_e, wpx1]
    refine ⟨c, rfl, _, _, a, rfl, hc4, _, ⟨_, hb4⟩, rfl, rfl, eq_ok hc4 hb4 ⟨_, rfl, ?_⟩⟩
    rw [decide_eq_true rfl]
    simp only []
    refine ⟨c2, rfl, _, _, a, rfl, hc2, _, ⟨_, hb4⟩, rfl, rfl, eq_ok hc2 hb4 ⟨_, rfl, ?_⟩⟩
    rw [decide_eq_true rfl]
    simp only []
    refine ⟨a, rfl, _, _, hb4, rfl, rowsD rs, rfl, ?_⟩
    simp only [rowsD]
    have few := g.few
    refine comp_kx bedD (fun x => PyData.str (S (lnT x))) rs [] b4 _ (fun x hx b5 k5 Q hQ => ?_) (by simp; omega) fun b5 k5 => ?_
    · have g1 : Rw [x] := g.sub (List.singleton_sublist.mpr hx)
      rw [bName_e]
      simp only [wpx1]
      refine fun o no => init_ok (rs := [x]) (Rw.sz g1).ok g1 put_at ?_
      rw [put_put]
      have e : strT [x] = lnT x := rfl
      refine ⟨rfl, o, rfl, _, ⟨_, put_at⟩, rfl, str_ok g1 put_at ⟨⟨_, rfl⟩, ?_⟩⟩
      rw [e]
      exact hQ _ (kx_put no)
    · rw [List.nil_append]
      have em : (rs.map fun x => PyData.str (S (lnT x))) = (rs.map lnT).map (PyData.str ∘ S) := by rw [List.map_map]; rfl
      rw [em]
      exact eq_strs (q b5 (kk.trans k5))
  refine ⟨a, rfl, _, ⟨_, hb4⟩, rfl, len_ok hb4 ⟨len_P g, ?_⟩⟩
  simp only [wpx1]
  by_cases hne : rs = []
  · subst hne
    rw [if_neg (by simp)]
    exact tail
  · rw [if_pos (by
      cases rs with
      | nil => exact absurd rfl hne
      | cons x r => simp only [List.length_cons]; omega)]
    refine ⟨a, rfl, _, ⟨_, hb4⟩, rfl, str_ok g hb4 ⟨⟨_, rfl⟩, ?_⟩⟩
    have hz := sizeLine_eq
    refine ⟨by decide +kernel, ?_, lines (fun L => S_l_built_right_1 ad [Sl.d (refD a), s1, .d (.list L), .d (refD c), .d (refD c2)] b4 { nx := fun x b' => R PyData.none b', rt := R }) tail hne⟩
    rw [S_len]
    have h1 := join_len (rs.map lnT)
    have h2 := sz_ln g
    unfold strT
    omega
end
end Wp.K33

namespace Wp.K33
open PySem PySem.Spec PyProof.Rows L2 Evl Wp Pg SX
local macro_rules
  | `(tactic| simp only [$xs,*] $[$l]?) => do
    let ys := xs.getElems.filter fun x => x.raw[2].getId != `wpx1
    if ys.size == xs.getElems.size then Lean.Macro.throwUnsupported
    if ys.size == 0 then `(tactic| simp only [mV_e, mC_e, mO_e, mOp_e, mUn_e, mT_e, mNotT_e, mAndT_e, mOrT_e, mAnd_e, mOr_e, mNot_e, mIf_e, mChain_e, mNil_e, mCons_e, mTup_e, mLst_e, mLk_e, mCat_e, mCB_e, mCL_e, vD_e, vL_e, vM0_e, mSkip_e, mSeq_e, mAsg_e, mRet_e, mIfS_e, mDrop_e, vNil_e, vCons_e, mPar_e, bName_e, bTup_e, bNil_e, bCons_e, mUnp_e, mFor_e, mForR_e, mForR2_e, mApp_e, mYes_e, mLc_e, mLcR_e, mLcR2_e, mLcZ_e, gNo_e, gE_e, gO_e, mCall_e, mFn_e, mIsi_e, mSS_e, mNo_e, mPt_e, mSl_e, mDG_e, mDGd_e, mDIn_e, mPut_e, mSD_e, mRetO_e, vDof_e, mForZ_e, mNG_e, mNGd_e, mNPut_e, vN0_e, mLcN_e, mDGL_e, mForD_e, asN, mLc2_e, mForZT_e, mRep_e, mIfT_e, mExt_e, bUnl_e, mLcR3_e, mLZ_e, wipeE, pow6, pow7, pow9, pow15, pow18, pow39, asM, List.replicate, List.cons_append, List.nil_append, List.getElem?_cons_zero, List.getElem?_cons_succ, enAll, List.set_cons_zero, List.set_cons_succ, Nat.reduceSub, List.length_cons, List.length_nil, decide_eq_true_eq, Nat.reduceAdd, Nat.reduceLeDiff, true_and, Bool.not_true, Bool.not_false, if_true, if_false, Bool.false_eq_true, Bool.not_eq_true', decide_eq_false_iff_not, Int.reduceLE, Int.reduceLT, Int.reduceNeg, Int.reduceSub, Int.reduceAdd, and_true, PyData.int.injEq, Nat.zero_add, Int.zero_add, Int.sub_zero, addW_ii, addW_ib, addW_bi, addW_tt, addW_ll, subW_ii, subW_ib, subW_bi, mulW_ii, fdivW_ii, modW_ii, negW_i, eqW_ii, eqW_ss, eqW_t0, eqW_l0, neW_ii, neW_ss, neW_t0, neW_l0, ltW_ii, leW_ii, gtW_ii, geW_ii, isW_n, isntW_n, ixW_l, ixW_t, lenW_l, lenW_t, absW_i, intW_i, intW_b, tupW_l, tupW_t, lstW_l, lstW_t, sumW_l, allW_l, anyW_l, minW_2, maxW_2, slW_t, slW_l, revW_t, revW_l, reprW_1, strW_i, strW_b, sortW_l, sortW_t, Option.some.injEq, exists_eq_left', exists_eq_left, dKey, exists_and_left, exists_const, isRf_n, isRf_b, isRf_i, isRf_s, isRf_l, isRf_t, mTry_e, mRaise_e, mRaise0_e, eqS_ss, mPop_e, mAsgX_e, mRetX_e, mDropX_e, mCallX_e, mMk_e, mMeth_e, mMeth0_e, mGet_e, mSet_e, mFnX_e, mCalm_e, mIsiR_e, mXf_e, mXis_e, mCnt_e, mSpec_e, calmM_e, mNever_e, eqI_ii, List.getD_cons_zero, List.getD_cons_succ, ne_eq, Nat.reduceEqDiff, Nat.add_eq_zero_iff, Nat.reduceLT, and_false, not_false_eq_true, Sl.d.injEq, Sl.x.injEq, exists_eq', exists_eq, exists_and_right, exists_const, and_self, List.map_nil, List.map_cons] $[$l]?) else `(tactic| simp only [$ys,*, mV_e, mC_e, mO_e, mOp_e, mUn_e, mT_e, mNotT_e, mAndT_e, mOrT_e, mAnd_e, mOr_e, mNot_e, mIf_e, mChain_e, mNil_e, mCons_e, mTup_e, mLst_e, mLk_e, mCat_e, mCB_e, mCL_e, vD_e, vL_e, vM0_e, mSkip_e, mSeq_e, mAsg_e, mRet_e, mIfS_e, mDrop_e, vNil_e, vCons_e, mPar_e, bName_e, bTup_e, bNil_e, bCons_e, mUnp_e, mFor_e, mForR_e, mForR2_e, mApp_e, mYes_e, mLc_e, mLcR_e, mLcR2_e, mLcZ_e, gNo_e, gE_e, gO_e, mCall_e, mFn_e, mIsi_e, mSS_e, mNo_e, mPt_e, mSl_e, mDG_e, mDGd_e, mDIn_e, mPut_e, mSD_e, mRetO_e, vDof_e, mForZ_e, mNG_e, mNGd_e, mNPut_e, vN0_e, mLcN_e, mDGL_e, mForD_e, asN, mLc2_e, mForZT_e, mRep_e, mIfT_e, mExt_e, bUnl_e, mLcR3_e, mLZ_e, wipeE, pow6, pow7, pow9, pow15, pow18, pow39, asM, List.replicate, List.cons_append, List.nil_append, List.getElem?_cons_zero, List.getElem?_cons_succ, enAll, List.set_cons_zero, List.set_cons_succ, Nat.reduceSub, List.length_cons, List.length_nil, decide_eq_true_eq, Nat.reduceAdd, Nat.reduceLeDiff, true_and, Bool.not_true, Bool.not_false, if_true, if_false, Bool.false_eq_true, Bool.not_eq_true', decide_eq_false_iff_not, Int.reduceLE, Int.reduceLT, Int.reduceNeg, Int.reduceSub, Int.reduceAdd, and_true, PyData.int.injEq, Nat.zero_add, Int.zero_add, Int.sub_zero, addW_ii, addW_ib, addW_bi, addW_tt, addW_ll, subW_ii, subW_ib, subW_bi, mulW_ii, fdivW_ii, modW_ii, negW_i, eqW_ii, eqW_ss, eqW_t0, eqW_l0, neW_ii, neW_ss, neW_t0, neW_l0, ltW_ii, leW_ii, gtW_ii, geW_ii, isW_n, isntW_n, ixW_l, ixW_t, lenW_l, lenW_t, absW_i, intW_i, intW_b, tupW_l, tupW_t, lstW_l, lstW_t, sumW_l, allW_l, anyW_l, minW_2, maxW_2, slW_t, slW_l, revW_t, revW_l, reprW_1, strW_i, strW_b, sortW_l, sortW_t, Option.some.injEq, exists_eq_left', exists_eq_left, dKey, exists_and_left, exists_const, isRf_n, isRf_b, isRf_i, isRf_s, isRf_l, isRf_t, mTry_e, mRaise_e, mRaise0_e, eqS_ss, mPop_e, mAsgX_e, mRetX_e, mDropX_e, mCallX_e, mMk_e, mMeth_e, mMeth0_e, mGet_e, mSet_e, mFnX_e, mCalm_e, mIsiR_e, mXf_e, mXis_e, mCnt_e, mSpec_e, calmM_e, mNever_e, eqI_ii, List.getD_cons_zero, List.getD_cons_succ, ne_eq, Nat.reduceEqDiff, Nat.add_eq_zero_iff, Nat.reduceLT, and_false, not_false_eq_true, Sl.d.injEq, Sl.x.injEq, exists_eq', exists_eq, exists_and_right, exists_const, and_self, List.map_nil, List.map_cons] $[$l]?)
section
variable {ad : Nat → Addr} {b : Bt} {a a2 : Addr} {R : PyData → Bt → Prop} {Z : Nat → Sl → Bt → Prop} {rs ss : List Bed}
/-- what was there before stands; and at most c numbers were drawn -/
def Kn (c : Nat) (b b' : Bt) : Prop := b'.n ≤ b.n + c ∧ ∀ a x, b.os a = some x → b'.os a = some x
theorem Kn.of {b' : Bt} (h : Kx b b') {c : Nat} : Kn c b b' := ⟨by have := h.1; omega, h.2⟩
theorem Kn.dr {b' : Bt} {c : Nat} (h : Dr b b' c) : Kn c b b' := ⟨h.n, fun a x e => by rw [h.os]; exact e⟩
theorem Kn.trans {b1 b2 : Bt} {c d e : Nat} (h : Kn c b b1) (k : Kn d b1 b2) (l : c + d ≤ e := by omega) : Kn e b b2 := ⟨by have := h.1; have := k.1; omega, fun a x z => k.2 a x (h.2 a x z)⟩
def smallL (rs : List Bed) : List Bed := rs.map fun x => (x.1, 1 + x.2 % 1000000000)
theorem small_fw (g : Rw rs) (h : rs.length ≤ 16) : Fw 1 (smallL rs) := by
  unfold smallL
  refine ⟨⟨by rw [List.length_map]; exact g.few, fun x hx => ?_, fun x hx => ?_, ?_⟩, by rw [List.length_map]; omega, fun x hx => ?_⟩
  · obtain ⟨y, hy, rfl⟩ := List.mem_map.mp hx
    exact g.p y hy
  · obtain ⟨y, hy, rfl⟩ := List.mem_map.mp hx
    show 1 ≤ 1 + y.2 % 1000000000 ∧ 1 + y.2 % 1000000000 ≤ _
    omega
  · rw [List.pairwise_map]
    exact g.asc
  · obtain ⟨y, hy, rfl⟩ := List.mem_map.mp hx
    show 1 + y.2 % 1000000000 ≤ _
    omega
theorem few_ok (hb : b.n ≤ 1000000) (q : ∀ a rs b', Fw 1 rs → b'.os a = some (ad 5, loadF rs) → Kn 200 b b' → R (refD a) b') : M_l_few ad [.s 1] b R := by
  simp only [M_l_few, B_l_few, S_l_few_2, wpx1]
  refine rows_ok (by omega) (by omega) fun rs b1 g hl d1 => ?_
  have few := g.few
  simp only [S_l_few_1, rowsD, wpx1]
  refine comp_tm bedD (fun x : Bed => bedD (x.1, 1 + x.2 % 1000000000)) rs b1 _ (fun x hx Q hQ => bed_bind ?_) (by omega) ?_
  · simp only [wpx1]
    exact hQ
  · have e : PyData.tuple (rs.map fun x : Bed => bedD (x.1, 1 + x.2 % 1000000000)) = rowsD (smallL rs) := by
      unfold rowsD smallL
      rw [List.map_map]
      rfl
    rw [e]
    have f := small_fw g (by omega)
    refine fun o no => init_ok (Rw.sz f.rw_).ok f.rw_ put_at ?_
    rw [put_put]
    exact ⟨rfl, q o _ _ f put_at ((Kn.dr d1).trans (Kn.of (kx_put no) (c := 0)))⟩
abbrev lE (s2 s3 s4 s5 s6 s7 s8 s9 s10 s11 s12 s13 s14 s15 s16 : Sl) : Wp.Env := [.no, .s 1, s2, s3, s4, s5, s6, s7, s8, s9, s10, s11, s12, s13, s14, s15, s16]
theorem At.kn {l : List (Addr × List Bed)} {b' : Bt} {c : Nat} (h : At ad b l) (k : Kn c b b') : At ad b' l := fun x hx => k.2 _ _ (h x hx)
section
variable {s2 s3 s4 s5 s6 s7 s8 s9 s10 s11 s12 s13 s14 s15 s16 : Sl} {F : WEnds}
theorem some_ok (hb : b.n ≤ 900000) (q : ∀ a0 a1 a2 r0 r1 r2 b', Fw 1 r0 → Fw 1 r1 → Fw 1 r2 → At ad b' [(a0, r0), (a1, r1), (a2, r2)] → Kn 600 b b' → F.nx (lE s2 (.d (.list [refD a0, refD a1, refD a2])) s4 s5 s6 s7 s8 s9 s10 s11 s12 s13 s14 s15 s16) b') :
    S_law_14 ad (lE s2 s3 s4 s5 s6 s7 s8 s9 s10 s11 s12 s13 s14 s15 s16) b F := by
  simp only [S_law_14, lE, wpx1]
  refine ⟨by omega, ?_⟩
  have e : rngD 0 (Int.toNat 3) = [PyData.int 0, .int 1, .int 2] := rfl
  rw [e]
  simp only [mComp, mYes, if_true, bName_e, wpx1]
  refine few_ok (by omega) fun a0 r0 b0 f0 h0 k0 => ?_
  have n0 := k0.1
  refine few_ok (by omega) fun a1 r1 b1 f1 h1 k1 => ?_
  have n1 := k1.1
  refine few_ok (by omega) fun a2 r2 b2 f2 h2 k2 => ?_
  refine q a0 a1 a2 r0 r1 r2 b2 f0 f1 f2 (fun x hx => ?_) ((k0.trans k1 (e := 400)).trans k2)
  simp only [List.mem_cons, List.not_mem_nil, or_false] at hx
  rcases hx with rfl | rfl | rfl
  · exact k2.2 _ _ (k1.2 _ _ h0)
  · exact k2.2 _ _ h1
  · exact h2
theorem Fw.sub {ys : List Bed} {n : Nat} (f : Fw n rs) (h : ys.Sublist rs) : Fw n ys := ⟨f.rw_.sub h, Nat.le_trans h.length_le f.len, fun x hx => f.lit x (h.subset hx)⟩
theorem within_sub {ys : List Bed} (g : Rw rs) (h : ys.Sublist rs) : within rs ys = true := by
  unfold within
  rw [List.all_eq_true]
  intro x hx
  rw [at_own g.asc x (h.subset hx)]
  exact decide_eq_true (Int.le_refl _)
theorem part_ok {l : List PyData} (f : Fw 1 rs) (ha : b.os a = some (ad 5, loadF rs)) (hb : b.n ≤ 900000) (q : ∀ o ps b', Fw 1 ps → within rs ps = true → b'.os o = some (ad 5, loadF ps) → Kn 100 b b' → F.nx (lE s2 (.d (.list (refD a :: l))) (.d (refD o)) s5 s6 s7 s8 s9 s10 s11 s12 s13 s14 s15 s16) b') :
    S_law_13 ad (lE s2 (.d (.list (refD a :: l))) s4 s5 s6 s7 s8 s9 s10 s11 s12 s13 s14 s15 s16) b F := by
  have few := f.len
  simp only [S_law_13, lE, wpx1]
  refine ⟨_, L2.atI_nat (j := 0) rfl, a, rfl, _, _, ha, rfl, rowsD rs, rfl, ?_⟩
  simp only [rowsD, wpx1]
  refine comp_sub bedD rs [] b _ (fun x hx b' C h1 h2 hC => ?_) (by simp; omega) fun ys b1 hs d1 => ?_
  · rw [bName_e]
    simp only [bedD, wpx1]
    refine mDrawW_at (by omega) (by omega) (by omega) fun r r0 r1 => ?_
    simp only [wpx1]
    by_cases h : r > 0
    · rw [if_pos h]
      exact hC _ _ (.inr rfl) Dr.tick
    · rw [if_neg h]
      exact hC _ _ (.inl rfl) Dr.tick
  have fy := f.sub hs
  rw [List.nil_append]
  refine fun o no => init_ok (rs := ys) (Rw.sz fy.rw_).ok fy.rw_ put_at ?_
  rw [put_put]
  exact ⟨rfl, q o ys _ fy (within_sub f.rw_ hs) put_at ((Kn.dr (d1.mono (e := 100) (by omega))).trans (Kn.of (kx_put no) (c := 0)))⟩
theorem beds_less {ps : List Bed} {ys : List PyData} (h : Paired (fun (x : Bed) y => ∃ l : Int, y = bedD (x.1, l) ∧ 1 ≤ l ∧ l ≤ x.2) ps ys) : ∃ ms : List Bed, ys = ms.map bedD ∧ ms.map (·.1) = ps.map (·.1) ∧ ∀ x ∈ ms, ∃ y ∈ ps, x.1 = y.1 ∧ 1 ≤ x.2 ∧ x.2 ≤ y.2 := by
  induction h with
  | nil => exact ⟨[], rfl, rfl, fun _ h => nomatch h⟩
  | @cons x y ps ys r _ ih =>
    obtain ⟨l, rfl, l1, l2⟩ := r
    obtain ⟨bs, rfl, e, h⟩ := ih
    refine ⟨(x.1, l) :: bs, rfl, by rw [List.map_cons, List.map_cons, e], fun z hz => ?_⟩
    rcases List.mem_cons.mp hz with rfl | hz
    · exact ⟨x, List.mem_cons_self .., rfl, l1, l2⟩
    · obtain ⟨y, hy, r⟩ := h z hz
      exact ⟨y, List.mem_cons_of_mem _ hy, r⟩
theorem less_ok {ps : List Bed} (f : Fw 1 ps) (ha : b.os a = some (ad 5, loadF ps)) (hb : b.n ≤ 900000) (q : ∀ o ms b', Fw 1 ms → within ps ms = true → b'.os o = some (ad 5, loadF ms) → Kn 100 b b' → F.nx (lE s2 s3 (.d (refD a)) (.d (refD o)) s6 s7 s8 s9 s10 s11 s12 s13 s14 s15 s16) b') :
    S_law_12 ad (lE s2 s3 (.d (refD a)) s5 s6 s7 s8 s9 s10 s11 s12 s13 s14 s15 s16) b F := by
  have few := f.len
  simp only [S_law_12, lE, wpx1]
  refine ⟨a, rfl, _, _, ha, rfl, rowsD ps, rfl, ?_⟩
  simp only [rowsD, wpx1]
  refine comp_rel bedD (fun (x : Bed) y => ∃ l : Int, y = bedD (x.1, l) ∧ 1 ≤ l ∧ l ≤ x.2) 1 ps [] b _ (fun x hx b2 Q hb' ho' k => bed_bind ?_) (by simp; omega) fun ys b3 hy d3 => ?_
  · have hl := f.rw_.l x hx
    simp only [wpx1]
    refine mDrawW_at (by omega) (by omega) (by omega) fun r e1 e2 => ?_
    simp only [wpx1]
    exact k _ _ ⟨1 + r, rfl, by omega, by omega⟩ Dr.tick
  rw [List.nil_append]
  obtain ⟨ms, rfl, er, hl⟩ := beds_less hy
  have le : ms.length = ps.length := by have := congrArg List.length er; simpa using this
  have g : Rw ms := by
    refine ⟨by have := f.rw_.few; omega, fun x hx => ?_, fun x hx => ?_, ?_⟩
    · obtain ⟨y, hy, e, _⟩ := hl x hx
      rw [e]
      exact f.rw_.p y hy
    · obtain ⟨y, hy, _, h1, h2⟩ := hl x hx
      have := f.rw_.l y hy
      omega
    · have h1 := List.pairwise_map.mpr f.rw_.asc
      rw [← er] at h1
      exact List.pairwise_map.mp h1
  have fm : Fw 1 ms := ⟨g, by omega, fun x hx => by
    obtain ⟨y, hy, _, h1, h2⟩ := hl x hx
    have := f.lit y hy
    omega⟩
  have hw : within ps ms = true := by
    unfold within
    rw [List.all_eq_true]
    intro x hx
    obtain ⟨y, hy, e, h1, h2⟩ := hl x hx
    rw [e, at_own f.rw_.asc y hy]
    exact decide_eq_true h2
  refine fun o no => init_ok (rs := ms) (Rw.sz g).ok g put_at ?_
  rw [put_put]
  exact ⟨rfl, q o ms _ fm hw put_at ((Kn.dr (d3.mono (e := 100) (by omega))).trans (Kn.of (kx_put no) (c := 0)))⟩
def refsD (l : List (Addr × List Bed)) : List PyData := l.map fun e => refD e.1
/-- the six loads, two looks at three of them -/
theorem pair_ok {l : List (Addr × List Bed)} (h6 : l.length = 6) (hf : ∀ x ∈ l, Fw 1 x.2) (A : At ad b l) (hb : b.n ≤ 900000) (q : ∀ s10 s11 s12 b', Kn 3 b b' → F.nx (lE s2 s3 s4 s5 (.d (.list (refsD l))) s7 s8 s9 s10 s11 s12 s13 s14 s15 s16) b') :
    (mSeq (S_law_8 ad) (S_law_7 ad)) (lE s2 s3 s4 s5 (.d (.list (refsD l))) s7 s8 s9 s10 s11 s12 s13 s14 s15 s16) b F := by
  have pick : ∀ (r : Int) (Q : PyData → Prop), 0 ≤ r → r < 6 → (∀ x ∈ l, Q (refD x.1)) → ∃ z, L2.atI (refsD l) r = some z ∧ Q z := fun r Q r0 r1 hQ => by
    have hl : r.toNat < l.length := by omega
    refine ⟨refD (l[r.toNat]'hl).1, ?_, hQ _ (List.getElem_mem hl)⟩
    have e : L2.atI (refsD l) ((r.toNat : Nat) : Int) = some (refD (l[r.toNat]'hl).1) := L2.atI_nat (by
      unfold refsD
      rw [List.getElem?_map, List.getElem?_eq_getElem hl]
      rfl)
    rw [show ((r.toNat : Nat) : Int) = r by omega] at e
    exact e
  simp only [mSeq_e, S_law_8, lE, wpx1]
  refine ⟨by omega, ?_⟩
  have e : rngD 0 (Int.toNat 3) = [PyData.int 0, .int 1, .int 2] := rfl
  rw [e]
  simp only [mComp, mYes, if_true, bName_e, wpx1]
  refine mDrawW_at (by omega) (by omega) (by omega) fun x x0 x1 => ?_
  refine pick x _ x0 x1 fun w1 h1 => ?_
  refine mDrawW_at (by show b.n + 1 ≤ _; omega) (by omega) (by omega) fun x x0 x1 => ?_
  refine pick x _ x0 x1 fun w2 h2 => ?_
  refine mDrawW_at (by show b.n + 1 + 1 ≤ _; omega) (by omega) (by omega) fun x x0 x1 => ?_
  refine pick x _ x0 x1 fun w3 h3 => ?_
  have kt : Kn 3 b b.tick.tick.tick := ⟨Nat.le_refl _, fun a x e => e⟩
  have A3 := A.kn kt
  simp only [S_law_7, wpx1]
  refine sums_ok (hf _ h1) (hf _ h2) (hf _ h3) (A3 _ h1) (A3 _ h2) (A3 _ h3) fun b4 k4 => ?_
  have A4 := A3.kx k4
  simp only [Bool.not_true, Bool.false_eq_true, if_false, wpx1]
  refine parts_ok (hf _ h1) (hf _ h2) (A4 _ h1) (A4 _ h2) fun b5 k5 => ?_
  simp only [Bool.not_true, Bool.false_eq_true, if_false, wpx1]
  rw [if_neg (by decide)]
  exact q _ _ _ b5 ((kt.trans (Kn.of k4 (c := 0)) (e := 3)).trans (Kn.of k5 (c := 0)))
end
end
end Wp.K33

namespace Wp.K33
open PySem PySem.Spec PyProof.Rows L2 Evl Wp Pg SX
local macro_rules
  | `(tactic| simp only [$xs,*] $[$l]?) => do
    let ys := xs.getElems.filter fun x => x.raw[2].getId != `wpx1
    if ys.size == xs.getElems.size then Lean.Macro.throwUnsupported
    if ys.size == 0 then `(tactic| simp only [mV_e, mC_e, mO_e, mOp_e, mUn_e, mT_e, mNotT_e, mAndT_e, mOrT_e, mAnd_e, mOr_e, mNot_e, mIf_e, mChain_e, mNil_e, mCons_e, mTup_e, mLst_e, mLk_e, mCat_e, mCB_e, mCL_e, vD_e, vL_e, vM0_e, mSkip_e, mSeq_e, mAsg_e, mRet_e, mIfS_e, mDrop_e, vNil_e, vCons_e, mPar_e, bName_e, bTup_e, bNil_e, bCons_e, mUnp_e, mFor_e, mForR_e, mForR2_e, mApp_e, mYes_e, mLc_e, mLcR_e, mLcR2_e, mLcZ_e, gNo_e, gE_e, gO_e, mCall_e, mFn_e, mIsi_e, mSS_e, mNo_e, mPt_e, mSl_e, mDG_e, mDGd_e, mDIn_e, mPut_e, mSD_e, mRetO_e, vDof_e, mForZ_e, mNG_e, mNGd_e, mNPut_e, vN0_e, mLcN_e, mDGL_e, mForD_e, asN, mLc2_e, mForZT_e, mRep_e, mIfT_e, mExt_e, bUnl_e, mLcR3_e, mLZ_e, wipeE, pow6, pow7, pow9, pow15, pow18, pow39, asM, List.replicate, List.cons_append, List.nil_append, List.getElem?_cons_zero, List.getElem?_cons_succ, enAll, List.set_cons_zero, List.set_cons_succ, Nat.reduceSub, List.length_cons, List.length_nil, decide_eq_true_eq, Nat.reduceAdd, Nat.reduceLeDiff, true_and, Bool.not_true, Bool.not_false, if_true, if_false, Bool.false_eq_true, Bool.not_eq_true', decide_eq_false_iff_not, Int.reduceLE, Int.reduceLT, Int.reduceNeg, Int.reduceSub, Int.reduceAdd, and_true, PyData.int.injEq, Nat.zero_add, Int.zero_add, Int.sub_zero, addW_ii, addW_ib, addW_bi, addW_tt, addW_ll, subW_ii, subW_ib, subW_bi, mulW_ii, fdivW_ii, modW_ii, negW_i, eqW_ii, eqW_ss, eqW_t0, eqW_l0, neW_ii, neW_ss, neW_t0, neW_l0, ltW_ii, leW_ii, gtW_ii, geW_ii, isW_n, isntW_n, ixW_l, ixW_t, lenW_l, lenW_t, absW_i, intW_i, intW_b, tupW_l, tupW_t, lstW_l, lstW_t, sumW_l, allW_l, anyW_l, minW_2, maxW_2, slW_t, slW_l, revW_t, revW_l, reprW_1, strW_i, strW_b, sortW_l, sortW_t, Option.some.injEq, exists_eq_left', exists_eq_left, dKey, exists_and_left, exists_const, isRf_n, isRf_b, isRf_i, isRf_s, isRf_l, isRf_t, mTry_e, mRaise_e, mRaise0_e, eqS_ss, mPop_e, mAsgX_e, mRetX_e, mDropX_e, mCallX_e, mMk_e, mMeth_e, mMeth0_e, mGet_e, mSet_e, mFnX_e, mCalm_e, mIsiR_e, mXf_e, mXis_e, mCnt_e, mSpec_e, calmM_e, mNever_e, eqI_ii, List.getD_cons_zero, List.getD_cons_succ, ne_eq, Nat.reduceEqDiff, Nat.add_eq_zero_iff, Nat.reduceLT, and_false, not_false_eq_true, Sl.d.injEq, Sl.x.injEq, exists_eq', exists_eq, exists_and_right, exists_const, and_self, List.map_nil, List.map_cons] $[$l]?) else `(tactic| simp only [$ys,*, mV_e, mC_e, mO_e, mOp_e, mUn_e, mT_e, mNotT_e, mAndT_e, mOrT_e, mAnd_e, mOr_e, mNot_e, mIf_e, mChain_e, mNil_e, mCons_e, mTup_e, mLst_e, mLk_e, mCat_e, mCB_e, mCL_e, vD_e, vL_e, vM0_e, mSkip_e, mSeq_e, mAsg_e, mRet_e, mIfS_e, mDrop_e, vNil_e, vCons_e, mPar_e, bName_e, bTup_e, bNil_e, bCons_e, mUnp_e, mFor_e, mForR_e, mForR2_e, mApp_e, mYes_e, mLc_e, mLcR_e, mLcR2_e, mLcZ_e, gNo_e, gE_e, gO_e, mCall_e, mFn_e, mIsi_e, mSS_e, mNo_e, mPt_e, mSl_e, mDG_e, mDGd_e, mDIn_e, mPut_e, mSD_e, mRetO_e, vDof_e, mForZ_e, mNG_e, mNGd_e, mNPut_e, vN0_e, mLcN_e, mDGL_e, mForD_e, asN, mLc2_e, mForZT_e, mRep_e, mIfT_e, mExt_e, bUnl_e, mLcR3_e, mLZ_e, wipeE, pow6, pow7, pow9, pow15, pow18, pow39, asM, List.replicate, List.cons_append, List.nil_append, List.getElem?_cons_zero, List.getElem?_cons_succ, enAll, List.set_cons_zero, List.set_cons_succ, Nat.reduceSub, List.length_cons, List.length_nil, decide_eq_true_eq, Nat.reduceAdd, Nat.reduceLeDiff, true_and, Bool.not_true, Bool.not_false, if_true, if_false, Bool.false_eq_true, Bool.not_eq_true', decide_eq_false_iff_not, Int.reduceLE, Int.reduceLT, Int.reduceNeg, Int.reduceSub, Int.reduceAdd, and_true, PyData.int.injEq, Nat.zero_add, Int.zero_add, Int.sub_zero, addW_ii, addW_ib, addW_bi, addW_tt, addW_ll, subW_ii, subW_ib, subW_bi, mulW_ii, fdivW_ii, modW_ii, negW_i, eqW_ii, eqW_ss, eqW_t0, eqW_l0, neW_ii, neW_ss, neW_t0, neW_l0, ltW_ii, leW_ii, gtW_ii, geW_ii, isW_n, isntW_n, ixW_l, ixW_t, lenW_l, lenW_t, absW_i, intW_i, intW_b, tupW_l, tupW_t, lstW_l, lstW_t, sumW_l, allW_l, anyW_l, minW_2, maxW_2, slW_t, slW_l, revW_t, revW_l, reprW_1, strW_i, strW_b, sortW_l, sortW_t, Option.some.injEq, exists_eq_left', exists_eq_left, dKey, exists_and_left, exists_const, isRf_n, isRf_b, isRf_i, isRf_s, isRf_l, isRf_t, mTry_e, mRaise_e, mRaise0_e, eqS_ss, mPop_e, mAsgX_e, mRetX_e, mDropX_e, mCallX_e, mMk_e, mMeth_e, mMeth0_e, mGet_e, mSet_e, mFnX_e, mCalm_e, mIsiR_e, mXf_e, mXis_e, mCnt_e, mSpec_e, calmM_e, mNever_e, eqI_ii, List.getD_cons_zero, List.getD_cons_succ, ne_eq, Nat.reduceEqDiff, Nat.add_eq_zero_iff, Nat.reduceLT, and_false, not_false_eq_true, Sl.d.injEq, Sl.x.injEq, exists_eq', exists_eq, exists_and_right, exists_const, and_self, List.map_nil, List.map_cons] $[$l]?)
section
variable {ad : Nat → Addr} {b : Bt} {a a2 : Addr} {R : PyData → Bt → Prop} {Z : Nat → Sl → Bt → Prop} {rs ss : List Bed}
theorem rows_plain : ∀ rs : List Bed, (rowsD rs).plain = true := by
  have : ∀ l : List Bed, PyData.plainAll (l.map bedD) = true := by
    intro l
    induction l with
    | nil => rfl
    | cons x l ih => rw [List.map_cons, PyData.plainAll, ih]; rfl
  exact this
theorem all_plain : ∀ ls : List (List Bed), PyData.plainAll (ls.map rowsD) = true
  | [] => rfl
  | l :: ls => by rw [List.map_cons, PyData.plainAll, rows_plain l, all_plain ls]; rfl
theorem all_wv : ∀ ls : List (List Bed), (∀ e ∈ ls, Rw e) → Cn.wvAll (ls.map rowsD) ≤ 10455 * ls.length
  | [], _ => by simp [Cn.wvAll]
  | l :: ls, h => by
    have h1 := (Rw.sz (h l (List.mem_cons_self ..))).w
    have h2 := all_wv ls fun e he => h e (List.mem_cons_of_mem _ he)
    rw [List.map_cons, List.length_cons]
    simp only [Cn.wvAll]
    omega
theorem ne_all {ls : List (List Bed)} {Q : PyData → Prop} (h : ∀ e ∈ ls, Rw e) (few : ls.length ≤ 8) (q : Q (.bool false)) : neW (.list (ls.map rowsD)) (.list (ls.map rowsD)) Q := by
  have sz : Cn.Sz (10 ^ 39) 90000 3 (.list (ls.map rowsD)) := Cn.Sz.mono (k := 83643) (n := 3) (Cn.sz_lst (fun d hd => by
    obtain ⟨l, hl, rfl⟩ := List.mem_map.mp hd
    exact (Rw.sz (h l hl)).ok) (by have := all_wv ls h; omega) (fun d hd => by
    obtain ⟨l, hl, rfl⟩ := List.mem_map.mp hd
    have := (Rw.sz (h l hl)).p
    omega) (by omega)) (by omega) (by omega) (by omega)
  have sh := shows sz (by omega) (by omega)
  have pl : (PyData.list (ls.map rowsD)).plain = true := all_plain ls
  cases ls with
  | nil => exact q
  | cons x ls =>
    show okEq (.list ((x :: ls).map rowsD)) (.list ((x :: ls).map rowsD)) ∧ Q (.bool (!PyData.eqv (.list ((x :: ls).map rowsD)) (.list ((x :: ls).map rowsD))))
    rw [PySem.SeqAt.eqv_refl_plain _ pl]
    exact ⟨⟨pl, pl, by have := sh.2.2; omega⟩, q⟩
def rowsL (l : List (Addr × List Bed)) : List PyData := l.map fun e => rowsD e.2
theorem rows_comp {l : List (Addr × List Bed)} {s2 s3 s4 s5 s6 s7 s8 s10 s11 s12 s13 s14 s15 s16 : Sl} {K : List PyData → Bt → Prop} (h6 : l.length ≤ 1000) (A : At ad b l) (hK : K (rowsL l) b) : mComp (bName 9) mYes (mGet (fun C => C = ad 5) "rows" (mV 9)) (lE s2 s3 s4 s5 s6 s7 s8 .no s10 s11 s12 s13 s14 s15 s16) (refsD l) [] b K := by
  have go : ∀ (l : List (Addr × List Bed)) (acc : List PyData) (K : List PyData → Bt → Prop), acc.length + l.length ≤ 1000 → At ad b l → K (acc ++ rowsL l) b → mComp (bName 9) mYes (mGet (fun C => C = ad 5) "rows" (mV 9)) (lE s2 s3 s4 s5 s6 s7 s8 .no s10 s11 s12 s13 s14 s15 s16) (refsD l) acc b K := by
    intro l
    induction l with
    | nil =>
      intro acc K _ _ hK
      simpa [mComp, refsD, rowsL] using hK
    | cons x l ih =>
      intro acc K hl A hK
      rw [List.length_cons] at hl
      show mComp (bName 9) mYes (mGet (fun C => C = ad 5) "rows" (mV 9)) (lE s2 s3 s4 s5 s6 s7 s8 .no s10 s11 s12 s13 s14 s15 s16) (refD x.1 :: refsD l) acc b K
      simp only [mComp, mYes, if_true, bName_e, mGet_e, mV_e, lE, List.set_cons_zero, List.set_cons_succ, List.getElem?_cons_zero, List.getElem?_cons_succ]
      refine ⟨x.1, _, _, rowsD x.2, rfl, A _ (List.mem_cons_self ..), rfl, rfl, by omega, ?_⟩
      refine ih (acc ++ [rowsD x.2]) K (by rw [List.length_append]; simp; omega) (fun y hy => A y (List.mem_cons_of_mem _ hy)) ?_
      rw [List.append_assoc]
      exact hK
  exact go l [] K (by simpa using h6) A (by rw [List.nil_append]; exact hK)
theorem law_ok : B_law ad (.no :: .s 1 :: List.replicate (N_law.length - 2) .no) Bt.zero lawF := by
  show B_law ad (lE .no .no .no .no .no .no .no .no .no .no .no .no .no .no .no) Bt.zero lawF
  simp only [B_law, S_law_15, wpx1]
  refine ⟨by omega, ?_⟩
  refine turns_ind (fun xs E b' => b'.n + 1000 * xs.length ≤ 6000 ∧ ∃ s2 s3 s4 s5 s6 s7 s8 s9 s10 s11 s12 s13 s14 s15 s16, E = lE s2 s3 s4 s5 s6 s7 s8 s9 s10 s11 s12 s13 s14 s15 s16) (fun x xs E b' F' h kn kc _ kr kx => ?_) (fun E b' h => ?_) _ _ _ ⟨?_, .no, .no, .no, .no, .no, .no, .no, .no, .no, .no, .no, .no, .no, .no, .no, rfl⟩
  · obtain ⟨hn, s2, s3, s4, s5, s6, s7, s8, s9, s10, s11, s12, s13, s14, s15, s16, rfl⟩ := h
    rw [List.length_cons] at hn
    rw [bName_e]
    refine some_ok (by omega) fun a0 a1 a2 r0 r1 r2 b1 f0 f1 f2 A1 k1 => ?_
    have n1 := k1.1
    refine part_ok f0 (A1 _ (List.mem_cons_self ..)) (by omega) fun a3 r3 b2 f3 w3 h3 k2 => ?_
    have n2 := k2.1
    refine less_ok f3 h3 (by omega) fun a4 r4 b3 f4 w4 h4 k3 => ?_
    have n3 := k3.1
    have A3 := (A1.kn k2).kn k3
    have h33 := k3.2 _ _ h3
    simp only [S_law_11, lE, wpx1]
    refine ⟨_, L2.atI_nat (j := 0) rfl, a0, rfl, _, _, A3 _ (List.mem_cons_self ..), rfl, rowsD r0, rfl, fun o no => init_ok (Rw.sz f0.rw_).ok f0.rw_ put_at ?_⟩
    rw [put_put]
    have k5 : Kx b3 (b3.put o (ad 5) (loadF r0)) := kx_put no
    have ho : (b3.put o (ad 5) (loadF r0)).os o = some (ad 5, loadF r0) := put_at
    generalize b3.put o (ad 5) (loadF r0) = b5 at k5 ho
    refine ⟨rfl, ?_⟩
    have A5 := A3.kx k5
    have n5 := k5.1
    have A : At ad b5 [(a0, r0), (a1, r1), (a2, r2), (a3, r3), (a4, r4), (o, r0)] := fun x hx => by
      simp only [List.mem_cons, List.not_mem_nil, or_false] at hx
      rcases hx with rfl | rfl | rfl | rfl | rfl | rfl
      · exact A5 _ (List.mem_cons_self ..)
      · exact A5 _ (List.mem_cons_of_mem _ (List.mem_cons_self ..))
      · exact A5 _ (List.mem_cons_of_mem _ (List.mem_cons_of_mem _ (List.mem_cons_self ..)))
      · exact k5.2 _ _ h33
      · exact k5.2 _ _ h4
      · exact ho
    have hf : ∀ x ∈ [(a0, r0), (a1, r1), (a2, r2), (a3, r3), (a4, r4), (o, r0)], Fw 1 (x : Addr × List Bed).2 := fun x hx => by
      simp only [List.mem_cons, List.not_mem_nil, or_false] at hx
      rcases hx with rfl | rfl | rfl | rfl | rfl | rfl
      · exact f0
      · exact f1
      · exact f2
      · exact f3
      · exact f4
      · exact f0
    have e6 : PyData.list [refD a0, refD a1, refD a2, refD a3, refD a4, refD o] = .list (refsD [(a0, r0), (a1, r1), (a2, r2), (a3, r3), (a4, r4), (o, r0)]) := rfl
    have a00 : [refD a0, refD a1, refD a2] = refD a0 :: [refD a1, refD a2] := rfl
    have hp3 : ∀ {b : Bt}, At ad b [(a0, r0), (a1, r1), (a2, r2), (a3, r3), (a4, r4), (o, r0)] → b.os a0 = some (ad 5, loadF r0) ∧ b.os a3 = some (ad 5, loadF r3) ∧ b.os a4 = some (ad 5, loadF r4) := fun h =>
      ⟨h _ (List.mem_cons_self ..), h _ (List.mem_cons_of_mem _ (List.mem_cons_of_mem _ (List.mem_cons_of_mem _ (List.mem_cons_self ..)))), h _ (List.mem_cons_of_mem _ (List.mem_cons_of_mem _ (List.mem_cons_of_mem _ (List.mem_cons_of_mem _ (List.mem_cons_self ..)))))⟩
    have l6 : [(a0, r0), (a1, r1), (a2, r2), (a3, r3), (a4, r4), (o, r0)].length = 6 := rfl
    rw [e6]
    generalize hl : [(a0, r0), (a1, r1), (a2, r2), (a3, r3), (a4, r4), (o, r0)] = l at A hf l6 hp3
    simp only [S_law_10, wpx1]
    refine rows_comp (by omega) A ?_
    simp only [S_law_9, wpx1]
    refine ⟨by omega, ?_⟩
    refine turns_ind (fun xs E b' => b'.n + 3 * xs.length ≤ b5.n + 30 ∧ Kn 30 b5 b' ∧ ∃ s8 s9 s10 s11 s12 s13 s14 s15 s16, E = lE (.d x) (.d (.list [refD a0, refD a1, refD a2])) (.d (refD a3)) (.d (refD a4)) (.d (.list (refsD l))) (.d (.list (rowsL l))) s8 s9 s10 s11 s12 s13 s14 s15 s16) (fun y ys E b' F2 hh kn2 kc2 _ kr2 kx2 => ?_) (fun E b' hh => ?_) _ _ _ ⟨?_, ⟨by omega, fun a x e => e⟩, _, _, _, _, _, _, _, _, _, rfl⟩
    · obtain ⟨m1, k6, s8, s9, s10, s11, s12, s13, s14, s15, s16, rfl⟩ := hh
      rw [List.length_cons] at m1
      rw [bName_e]
      refine pair_ok l6 hf (A.kn k6) (by omega) fun s10 s11 s12 b7 k7 => ?_
      have n7 := k7.1
      exact kn2 _ _ ⟨by omega, ⟨by omega, fun a x e => k7.2 _ _ (k6.2 _ _ e)⟩, _, _, _, _, _, _, _, _, _, rfl⟩
    · obtain ⟨m1, k6, s8, s9, s10, s11, s12, s13, s14, s15, s16, rfl⟩ := hh
      have A6 := A.kn k6
      have n6 := k6.1
      simp only [S_law_5, mInO_e, calmM_e, lE, wpx1]
      refine ⟨_, L2.atI_nat (j := 0) rfl, built_ok f0.rw_ (hp3 A6).1 fun b8 k8 => ?_⟩
      have A8 := A6.kx k8
      have n8 := k8.1
      simp only [Bool.not_true, Bool.false_eq_true, if_false, wpx1]
      rw [if_neg (by decide)]
      refine ⟨_, L2.atI_nat (j := 0) rfl, a0, rfl, _, ⟨_, (hp3 A8).1⟩, rfl, in_ok f0.rw_ f3.rw_ (hp3 A8).1 (hp3 A8).2.1 ⟨_, rfl, ?_⟩⟩
      rw [w3, if_neg (by decide)]
      refine ⟨a3, rfl, _, ⟨_, (hp3 A8).2.1⟩, rfl, in_ok f3.rw_ f4.rw_ (hp3 A8).2.1 (hp3 A8).2.2 ⟨_, rfl, ?_⟩⟩
      rw [w4, if_neg (by decide)]
      simp only [S_law_3, wpx1]
      refine rows_comp (by omega) A8 ?_
      have er : rowsL l = (l.map (·.2)).map rowsD := by unfold rowsL; rw [List.map_map]; rfl
      rw [er]
      refine ne_all (fun e he => ?_) (by rw [List.length_map]; omega) ?_
      · obtain ⟨z, hz, rfl⟩ := List.mem_map.mp he
        exact (hf z hz).rw_
      simp only [Bool.false_eq_true, if_false, wpx1]
      exact kn _ _ ⟨by omega, _, _, _, _, _, _, _, _, _, _, _, _, _, _, _, rfl⟩
    · rw [rngD_len]
      show b5.n + 3 * 10 ≤ _
      omega
  · obtain ⟨hn, s2, s3, s4, s5, s6, s7, s8, s9, s10, s11, s12, s13, s14, s15, s16, rfl⟩ := h
    simp only [S_law_1, lE, wpx1]
    rfl
  · rw [rngD_len]
    show 0 + 1000 * 6 ≤ 6000
    omega
end
end Wp.K33

namespace WpK33h
open PySem PySem.Spec PyProof.Rows L2 Evl
open Wp.K33
section
open Cn
variable {P : Program} {w : World} {K : PySem.W.Frag} {mg : Str → Option Value} {base : Heap}
theorem ok_l_deck {f : Addr} {fd : FuncData} (F : Fun K "_law_deck" "_law_deck" s_l_deck f fd) (m_abs : mg "abs" = none) : FnOk P w K mg base CX0 1 f fd ["_law_script"] (spDeck K) := by
  refine F.ok sc_l_deck (fun vs H Q E h => ?_) (fun cdv A outer s H vs Q E hr h => ?_)
  · obtain ⟨a, ns, rfl, _⟩ := h
    rfl
  · obtain ⟨a, ns, rfl, hs, few, q⟩ := h
    refine ⟨_, (pss_one (ps_ret (pe_lst (pa_cons (pe_lc (own := [("_law_cell", 1)]) (g := (gName 1)) rfl sc_l_deck.nd (pi_listK (K := K) rfl (pe_slice (sl_listK (K := K) rfl) (pv 0) po_none (po_some pe_int))) (blkOk_by (N := N_l_deck) (sc := defScope s_l_deck) (by decide +kernel)) (fun _ _ _ _ _ => (pg_name (i := 1) sc_l_deck.nd rfl (.inl rfl))) (fun _ _ _ _ _ => pts_nil) (fun _ _ _ _ _ => (pe_callB call_abs (by rfl) m_abs (by decide +kernel) (pa_cons (pv 1) pa_nil)))) (pa_cons pe_int pa_nil))))), ?_⟩
    have hL := el_sl (K := K) (te := tVar 0) (σ := start N_l_deck [.ref a]) (H := H) (a := a) (ev_var rfl) eo_none (eo_some (te := tC (.int 63)) (i := 63) ev_c) hs
    rw [show ((63 : Int) = ((63 : Nat) : Int)) from rfl, cutTo _ 63 (by rw [List.length_map]; exact few)] at hL
    have hC := el_lcNL (K := K) (t := tYes) (te := tCB (fun xs H Q => ∃ i, xs = [V.int i] ∧ Q (.int (if i < 0 then -i else i)) H) (tCons (tVar 1) tNil)) (j := 1) (vs := [1]) (fun _ => true) (fun i => .int (if ns.getD i 0 < 0 then -ns.getD i 0 else ns.getD i 0)) hL (by rw [List.length_map]; omega) (fun _ => rfl) (fun _ _ _ _ _ => et_yes) (by
      intro i x H1 e1 hx _ H2 e2 Q2 k
      have hi : i < ns.length := by
        have := (List.getElem?_eq_some_iff.mp hx).1
        rw [List.length_map] at this
        exact this
      rw [List.getElem?_map, List.getElem?_eq_getElem hi] at hx
      cases hx
      refine ⟨_, rfl, _, rfl, ?_⟩
      have e : ns.getD i 0 = ns[i] := by simp [List.getD, List.getElem?_eq_getElem hi]
      rw [e] at k
      exact k H2 (Ex.refl H2))
    rw [List.length_map, given_map ns (fun z => .int (if z < 0 then -z else z)) _ (fun i z e => by simp [List.getD, e])] at hC
    dsimp only [tRet, tLst, tCons, tC, tNil]
    refine hC H (Ex.refl H) _ ?_
    refine fun p H1 np e1 h1 => ⟨by show 2 ≤ sizeLine; decide, fun D nD => ?_⟩
    have eN := Ex.new (o := .lst [.ref p, .int 0]) nD
    refine q D p _ (fresh_back e1 nD) np (e1.trans eN) ⟨0, ns.map fun z => if z < 0 then -z else z, ⟨upd_same, ?_⟩, by omega, by omega, by rw [List.length_map]; exact few, ?_⟩
    · rw [List.map_map]
      exact eN p _ h1
    · intro x hx
      obtain ⟨z, _, rfl⟩ := List.mem_map.mp hx
      split <;> omega
theorem ok_l_draw {f : Addr} {fd : FuncData} (F : Fun K "_law_draw" "_law_draw" s_l_draw f fd) (m_len : mg "len" = none) : FnOk P w K mg base CX0 1 f fd ["_law_deck_here", "_law_many"] spDrawW := by
  refine F.ok sc_l_draw (fun vs H Q E h => ?_) (fun cdv A outer s H vs Q E hr h => ?_)
  · obtain ⟨D, C, m, k, rfl, _⟩ := h
    rfl
  · obtain ⟨D, C, m, k, rfl, ⟨n, cs, dk, n0, nm, cl, cpos⟩, mb, k1, k2, q⟩ := h
    refine ⟨_, (pss_cons (ps_asg (pe_op op_add (pe_ix (ix_listK (K := K) rfl) (pv 0) pe_int (fun _ _ => rfl)) pe_int) (pg_sub (pv 0) pe_int set_list))
    (pss_cons (ps_set (i := 2) sc_l_draw.nd rfl (.inl rfl) pe_int)
    (pss_cons (ps_set (i := 3) sc_l_draw.nd rfl (.inl rfl) (pe_un un_neg pe_int))
    (pss_cut (ps_if (pt_cmpR op_gt (pe_callB (call_lenK (K := K) rfl) (by rfl) m_len PySem.boot_len (pa_cons (pe_ix (ix_listK (K := K) rfl) (pv 0) pe_int (fun _ _ => rfl)) pa_nil)) pe_int (nomark _)) (pss_cons (ps_set (i := 3) sc_l_draw.nd rfl (.inl rfl) (pe_op op_mod (pe_ix (ix_listK (K := K) rfl) (pv 0) pe_int (fun _ _ => rfl)) (pe_callB (call_lenK (K := K) rfl) (by rfl) m_len PySem.boot_len (pa_cons (pe_ix (ix_listK (K := K) rfl) (pv 0) pe_int (fun _ _ => rfl)) pa_nil))))
    (pss_one (ps_set (i := 2) sc_l_draw.nd rfl (.inl rfl) (pe_ix (ix_listK (K := K) rfl) (pe_ix (ix_listK (K := K) rfl) (pv 0) pe_int (fun _ _ => rfl)) (pv 3) (fun _ _ => rfl))))) pss_nil)
    (pss_cons (ps_if (pt_cmpR op_ge (pv 2) (pe_op op_pow pe_int pe_int) (nomark _)) (pss_cons (ps_asg (pe_op Cb.op_fdivB (pv 2) (pv 1)) (pg_sub (pe_ix (ix_listK (K := K) rfl) (pv 0) pe_int (fun _ _ => rfl)) (pv 3) set_list))
    (pss_one (ps_ret (pe_op op_mod (pv 2) (pv 1))))) pss_nil)
    (pss_one (ps_ret (pe_op op_mod (pe_op op_mod (pe_op op_pow (pe_op op_add (pe_op op_add (pe_op op_mod (pv 2) pe_int) (pe_op op_mul pe_int (pe_ix (ix_listK (K := K) rfl) (pv 0) pe_int (fun _ _ => rfl)))) pe_int) pe_int) pe_int) (pv 1))))))))), ?_⟩
    have hDC := dk.ne
    refine q_setL (l := D) (xs := [.ref C, .int n]) (j := 1) (v := .int (n + 1)) dk.hD ?_ (ev_var rfl) ev_c (by simp) ?_
    · exact ev_op (ev_op (ev_var rfl) ev_c (rv_ixL (sq_of dk.hD) rfl)) ev_c rv_I0
    intro H1 e1
    have d1 : DeckN D C (n + 1) cs (upd H1 D (.lst [.ref C, .int (n + 1)])) := ⟨upd_same, by rw [upd_ne hDC.symm]; exact e1 _ _ dk.hC⟩
    have k1' : Kp D C H (upd H1 D (.lst [.ref C, .int (n + 1)])) := (Kp.ex e1).trans Kp.setD
    show tSeq _ _ _ _ (upd H1 D (.lst [.ref C, .int (n + 1)]))
    generalize upd H1 D (.lst [.ref C, .int (n + 1)]) = H2 at d1 k1'
    refine q_asg (v := .int 0) ev_c ?_
    intro H2a e2a
    refine q_asg (v := .int (-1)) (ev_un ev_c ru_neg) ?_
    intro H3 e3a
    have d2 := d1.ex (e2a.trans e3a)
    have k2' := k1'.trans (Kp.ex (e2a.trans e3a))
    refine q_cut (M := fun σ' H' => ∃ cell idx, σ' = [some (.ref D), some (.int k), some (.int cell), some (.int idx)] ∧ Kp D C H H' ∧ DeckN D C (n + 1) cs H' ∧ 0 ≤ cell ∧ (cell < 1000000000000000000 ∨ ∃ j : Nat, j < cs.length ∧ idx = (j : Int))) ?_ ?_
    · refine s_when (b := decide ((0 : Int) < (cs.map V.int).length)) ?_ ?_ ?_
      · exact et_test (ev_op (ev_len (ev_op (ev_var rfl) ev_c (rv_ixL (sq_of d2.hD) rfl)) (sq_of d2.hC)) ev_c rv_I0)
      · intro hc H4 e4
        have hc := of_decide_eq_true hc
        rw [List.length_map] at hc
        have d4 := d2.ex e4
        have i0 : 0 ≤ (n + 1) % (cs.length : Int) := Int.emod_nonneg _ (by omega)
        have i1 : (n + 1) % (cs.length : Int) < cs.length := Int.emod_lt_of_pos _ hc
        obtain ⟨j, hj⟩ : ∃ j : Nat, (n + 1) % (cs.length : Int) = j := ⟨((n + 1) % (cs.length : Int)).toNat, by omega⟩
        have jl : j < cs.length := by omega
        refine q_asg (v := .int j) ?_ ?_
        · refine ev_is (ev_op (ev_op (ev_var rfl) ev_c (rv_ixL (sq_of d4.hD) rfl)) (ev_len (ev_op (ev_var rfl) ev_c (rv_ixL (sq_of d4.hD) rfl)) (sq_of d4.hC)) (rv_I (by rw [List.length_map]; exact hc))) ?_
          rw [List.length_map, hj]
        intro H5 e5
        have d5 := d4.ex e5
        refine s_asg (v := .int cs[j]) ?_ ?_
        · exact ev_op (ev_op (ev_var rfl) ev_c (rv_ixL (sq_of d5.hD) rfl)) (ev_var rfl) (rv_ixL (sq_of d5.hC) (atI_nat (by rw [List.getElem?_map, List.getElem?_eq_getElem jl]; rfl)))
        intro H6 e6
        exact ⟨cs[j], j, rfl, k2'.trans (Kp.ex ((e4.trans e5).trans e6)), d5.ex e6, cpos _ (List.getElem_mem jl), .inr ⟨j, jl, rfl⟩⟩
      · intro hc H4 e4
        exact ⟨0, -1, rfl, k2'.trans (Kp.ex e4), d2.ex e4, by omega, .inl (by omega)⟩
    · rintro σ' H' ⟨cell, idx, rfl, kp, d, c0, hx⟩
      refine q_when (b := decide ((1000000000000000000 : Int) ≤ cell)) ?_ ?_ ?_
      · refine et_is (et_ge (ev_var rfl) (ev_op ev_c ev_c (rv_I (by refine ⟨by decide, by decide, by decide⟩)))) ?_
        rw [pow18]
      · intro hc H4 e4
        have hc := of_decide_eq_true hc
        have d4 := d.ex e4
        rcases hx with hx | ⟨j, jl, rfl⟩
        · omega
        refine q_setL (l := C) (xs := cs.map V.int) (j := j) (v := .int (cell / k)) d4.hC ?_ ?_ (ev_var rfl) (by rw [List.length_map]; exact jl) ?_
        · exact ev_op (ev_var rfl) (ev_var rfl) (rv_I ⟨by omega, by omega⟩)
        · exact ev_op (ev_var rfl) ev_c (rv_ixL (sq_of d4.hD) rfl)
        intro H5 e5
        refine s_ret (v := .int (cell % k)) ?_ ?_
        · exact ev_op (ev_var rfl) (ev_var rfl) (rv_I (by omega))
        intro H6 e6
        have d5 := d4.ex e5
        refine q _ _ (Int.emod_nonneg _ (by omega)) (Int.emod_lt_of_pos _ (by omega)) (((kp.trans (Kp.ex (e4.trans e5))).trans Kp.setC).trans (Kp.ex e6)) (Deck.ex e6 ⟨n + 1, cs.set j (cell / k), ⟨?_, ?_⟩, by omega, by omega, by rw [List.length_set]; exact cl, ?_⟩)
        · rw [upd_ne hDC]; exact d5.hD
        · rw [upd_same, List.map_set]
        · intro x hx
          rcases List.mem_or_eq_of_mem_set hx with h | h
          · exact cpos x h
          · rw [h]; exact Int.ediv_nonneg c0 (by omega)
      · intro hc H4 e4
        have d4 := d.ex e4
        have b0 : 0 ≤ cell % 2147483587 := Int.emod_nonneg _ (by decide)
        have b1 : cell % 2147483587 < 2147483587 := Int.emod_lt_of_pos _ (by decide)
        refine s_ret (v := .int (((cell % 2147483587 + 7919 * (n + 1) + 1) ^ (5 : Int).toNat) % 2147483647 % k)) ?_ ?_
        · refine ev_op (ev_op (ev_op (ev_op (ev_op (ev_op (ev_var rfl) ev_c (rv_I ?_)) (ev_op ev_c (ev_op (ev_var rfl) ev_c (rv_ixL (sq_of d4.hD) rfl)) (rv_I ?_)) rv_I0) ev_c rv_I0) ev_c (rv_I ?_)) ev_c (rv_I ?_)) (ev_var rfl) (rv_I ?_)
          · decide
          · exact .inl ⟨by decide, by decide⟩
          · refine ⟨by decide, by decide, ?_⟩
            have : (2 : Nat) ^ 64 = 18446744073709551616 := by decide
            omega
          · decide
          · omega
        intro H5 e5
        exact q _ _ (Int.emod_nonneg _ (by omega)) (Int.emod_lt_of_pos _ (by omega)) (kp.trans (Kp.ex (e4.trans e5))) (Deck.ex e5 ⟨n + 1, cs, d4, by omega, by omega, cl, cpos⟩)
end
end WpK33h
namespace Wp.K33
open PySem PySem.Spec PyProof.Rows L2 Evl Wp Pg WpK33h
theorem all_mk {l : PySem.W.OpenLaw} {w : World} {K : PySem.W.Frag} {h : Heap} {mg : Str → Option Value} {fa : Addr} (X : K.In h) (G : h.Ns mainGlobals mg) (hfa : mg "law" = some (.ref fa))
    {c_BadLoad : Addr}
    (a_BadLoad : PySem.W.nsIn K mainGlobals "BadLoad" = some (some (.ref c_BadLoad)))
    {c_NoPlace : Addr}
    (a_NoPlace : PySem.W.nsIn K mainGlobals "NoPlace" = some (some (.ref c_NoPlace)))
    {c_Missing : Addr}
    (a_Missing : PySem.W.nsIn K mainGlobals "Missing" = some (some (.ref c_Missing)))
    {c_TooMuch : Addr}
    (a_TooMuch : PySem.W.nsIn K mainGlobals "TooMuch" = some (some (.ref c_TooMuch)))
    {c_PathError : Addr}
    (a_PathError : PySem.W.nsIn K mainGlobals "PathError" = some (some (.ref c_PathError)))
    {c_Load : Addr}
    (a_Load : PySem.W.nsIn K mainGlobals "Load" = some (some (.ref c_Load)))
    {nm_BadLoad q_BadLoad : Str} {N_BadLoad : Addr} {bs_BadLoad bm_BadLoad : List Value} {sn_BadLoad : List Str} {sub_BadLoad : List Value} {ab_BadLoad : Bool} {col_BadLoad : Option Bool} {dd_BadLoad : Option Addr} {k0_BadLoad k1_BadLoad k2_BadLoad k3_BadLoad k5_BadLoad : Option Value}
    (w_BadLoad : K.lookup c_BadLoad = some (excClassObj nm_BadLoad q_BadLoad c_BadLoad N_BadLoad bs_BadLoad bm_BadLoad true sn_BadLoad sub_BadLoad ab_BadLoad col_BadLoad dd_BadLoad k0_BadLoad k1_BadLoad k2_BadLoad k3_BadLoad k5_BadLoad "ValueError.__new__"))
    (v_BadLoad : PySem.HandSPX.refsVE bm_BadLoad = true)
    (sa_BadLoad : PySem.W.findIn K (.ref c_BadLoad) "__setattr__" = some (some (.builtin "object.__setattr__")))
    (be_BadLoad : PySem.W.subIn K (.ref c_BadLoad) (.type "BaseException") = some true)
    (ty_BadLoad : PySem.W.typeIn K (.ref c_BadLoad) = some (.type "type"))
    (kc_BadLoad : PySem.W.keepIn K (.ref c_BadLoad) = true)
    {f_BadLoad_init : Addr}
    (a_BadLoad_init : PySem.W.findIn K (.ref c_BadLoad) "__init__" = some (some (.ref f_BadLoad_init)))
    (t_BadLoad_init : PySem.W.typeIn K (.ref f_BadLoad_init) = some (.type "function"))
    {od_BadLoad_init an_BadLoad_init : Option Addr} {sl_BadLoad_init : Array (Option Value)} {oc_BadLoad_init kV_BadLoad_init dc_BadLoad_init pm_BadLoad_init cd_BadLoad_init ct_BadLoad_init : Value}
    (l_BadLoad_init : K.lookup f_BadLoad_init = some ⟨oc_BadLoad_init, od_BadLoad_init, .func (PySem.W.fnOf "__init__" "BadLoad.__init__" (defArgs s_BadLoad_init) (defBody s_BadLoad_init) (defScope s_BadLoad_init) .none kV_BadLoad_init dc_BadLoad_init pm_BadLoad_init an_BadLoad_init cd_BadLoad_init ct_BadLoad_init), sl_BadLoad_init⟩)
    (c_BadLoad_init : PySem.W.codeIn K cd_BadLoad_init "BadLoad.__init__" = true)
    (k_BadLoad_init : PySem.W.keepIn K (.ref f_BadLoad_init) = true)
    (nf_value_BadLoad : PySem.W.findIn K (.ref c_BadLoad) "value" = some none)
    (q1_NoPlace : PySem.W.excInitIn K c_NoPlace [.type "LookupError", .type "Exception", .type "BaseException", .type "object"] "LookupError.__new__" = true)
    (q2_NoPlace : PySem.W.excOver K c_NoPlace [.type "LookupError", .type "Exception", .type "BaseException", .type "object"] = true)
    (hd_NoPlace : PySem.W.hasDictIn K c_NoPlace = true)
    (sa_NoPlace : PySem.W.findIn K (.ref c_NoPlace) "__setattr__" = some (some (.builtin "object.__setattr__")))
    (be_NoPlace : PySem.W.subIn K (.ref c_NoPlace) (.type "BaseException") = some true)
    (ty_NoPlace : PySem.W.typeIn K (.ref c_NoPlace) = some (.type "type"))
    (kc_NoPlace : PySem.W.keepIn K (.ref c_NoPlace) = true)
    {f_NoPlace_init : Addr}
    (a_NoPlace_init : PySem.W.findIn K (.ref c_NoPlace) "__init__" = some (some (.ref f_NoPlace_init)))
    (t_NoPlace_init : PySem.W.typeIn K (.ref f_NoPlace_init) = some (.type "function"))
    {od_NoPlace_init an_NoPlace_init : Option Addr} {sl_NoPlace_init : Array (Option Value)} {oc_NoPlace_init kV_NoPlace_init dc_NoPlace_init pm_NoPlace_init cd_NoPlace_init ct_NoPlace_init : Value}
    (l_NoPlace_init : K.lookup f_NoPlace_init = some ⟨oc_NoPlace_init, od_NoPlace_init, .func (PySem.W.fnOf "__init__" "NoPlace.__init__" (defArgs s_NoPlace_init) (defBody s_NoPlace_init) (defScope s_NoPlace_init) .none kV_NoPlace_init dc_NoPlace_init pm_NoPlace_init an_NoPlace_init cd_NoPlace_init ct_NoPlace_init), sl_NoPlace_init⟩)
    (c_NoPlace_init : PySem.W.codeIn K cd_NoPlace_init "NoPlace.__init__" = true)
    (k_NoPlace_init : PySem.W.keepIn K (.ref f_NoPlace_init) = true)
    (nf_value_NoPlace : PySem.W.findIn K (.ref c_NoPlace) "value" = some none)
    {nm_Missing q_Missing : Str} {N_Missing : Addr} {bs_Missing bm_Missing : List Value} {sn_Missing : List Str} {sub_Missing : List Value} {ab_Missing : Bool} {col_Missing : Option Bool} {dd_Missing : Option Addr} {k0_Missing k1_Missing k2_Missing k3_Missing k5_Missing : Option Value}
    (w_Missing : K.lookup c_Missing = some (excClassObj nm_Missing q_Missing c_Missing N_Missing bs_Missing bm_Missing true sn_Missing sub_Missing ab_Missing col_Missing dd_Missing k0_Missing k1_Missing k2_Missing k3_Missing k5_Missing "ValueError.__new__"))
    (v_Missing : PySem.HandSPX.refsVE bm_Missing = true)
    (sa_Missing : PySem.W.findIn K (.ref c_Missing) "__setattr__" = some (some (.builtin "object.__setattr__")))
    (be_Missing : PySem.W.subIn K (.ref c_Missing) (.type "BaseException") = some true)
    (ty_Missing : PySem.W.typeIn K (.ref c_Missing) = some (.type "type"))
    (kc_Missing : PySem.W.keepIn K (.ref c_Missing) = true)
    {f_Missing_init : Addr}
    (a_Missing_init : PySem.W.findIn K (.ref c_Missing) "__init__" = some (some (.ref f_Missing_init)))
    (t_Missing_init : PySem.W.typeIn K (.ref f_Missing_init) = some (.type "function"))
    {od_Missing_init an_Missing_init : Option Addr} {sl_Missing_init : Array (Option Value)} {oc_Missing_init kV_Missing_init dc_Missing_init pm_Missing_init cd_Missing_init ct_Missing_init : Value}
    (l_Missing_init : K.lookup f_Missing_init = some ⟨oc_Missing_init, od_Missing_init, .func (PySem.W.fnOf "__init__" "Missing.__init__" (defArgs s_Missing_init) (defBody s_Missing_init) (defScope s_Missing_init) .none kV_Missing_init dc_Missing_init pm_Missing_init an_Missing_init cd_Missing_init ct_Missing_init), sl_Missing_init⟩)
    (c_Missing_init : PySem.W.codeIn K cd_Missing_init "Missing.__init__" = true)
    (k_Missing_init : PySem.W.keepIn K (.ref f_Missing_init) = true)
    (nf_place_Missing : PySem.W.findIn K (.ref c_Missing) "place" = some none)
    (be_TooMuch : PySem.W.subIn K (.ref c_TooMuch) (.type "BaseException") = some true)
    (ty_TooMuch : PySem.W.typeIn K (.ref c_TooMuch) = some (.type "type"))
    (kc_TooMuch : PySem.W.keepIn K (.ref c_TooMuch) = true)
    (q1_TooMuch : PySem.W.excIn K c_TooMuch [.type "ValueError", .type "Exception", .type "BaseException", .type "object"] "ValueError.__new__" = true)
    {f_l_deck : Addr}
    (a_l_deck : PySem.W.nsIn K mainGlobals "_law_deck" = some (some (.ref f_l_deck)))
    {od_l_deck an_l_deck : Option Addr} {sl_l_deck : Array (Option Value)} {oc_l_deck kV_l_deck dc_l_deck pm_l_deck cd_l_deck ct_l_deck : Value}
    (l_l_deck : K.lookup f_l_deck = some ⟨oc_l_deck, od_l_deck, .func (PySem.W.fnOf "_law_deck" "_law_deck" (defArgs s_l_deck) (defBody s_l_deck) (defScope s_l_deck) .none kV_l_deck dc_l_deck pm_l_deck an_l_deck cd_l_deck ct_l_deck), sl_l_deck⟩)
    (c_l_deck : PySem.W.codeIn K cd_l_deck "_law_deck" = true)
    (k_l_deck : PySem.W.keepIn K (.ref f_l_deck) = true)
    {f_l_draw : Addr}
    (a_l_draw : PySem.W.nsIn K mainGlobals "_law_draw" = some (some (.ref f_l_draw)))
    {od_l_draw an_l_draw : Option Addr} {sl_l_draw : Array (Option Value)} {oc_l_draw kV_l_draw dc_l_draw pm_l_draw cd_l_draw ct_l_draw : Value}
    (l_l_draw : K.lookup f_l_draw = some ⟨oc_l_draw, od_l_draw, .func (PySem.W.fnOf "_law_draw" "_law_draw" (defArgs s_l_draw) (defBody s_l_draw) (defScope s_l_draw) .none kV_l_draw dc_l_draw pm_l_draw an_l_draw cd_l_draw ct_l_draw), sl_l_draw⟩)
    (c_l_draw : PySem.W.codeIn K cd_l_draw "_law_draw" = true)
    (k_l_draw : PySem.W.keepIn K (.ref f_l_draw) = true)
    {f_is_number : Addr}
    (a_is_number : PySem.W.nsIn K mainGlobals "is_number" = some (some (.ref f_is_number)))
    {od_is_number an_is_number : Option Addr} {sl_is_number : Array (Option Value)} {oc_is_number kV_is_number dc_is_number pm_is_number cd_is_number ct_is_number : Value}
    (l_is_number : K.lookup f_is_number = some ⟨oc_is_number, od_is_number, .func (PySem.W.fnOf "is_number" "is_number" (defArgs s_is_number) (defBody s_is_number) (defScope s_is_number) .none kV_is_number dc_is_number pm_is_number an_is_number cd_is_number ct_is_number), sl_is_number⟩)
    (c_is_number : PySem.W.codeIn K cd_is_number "is_number" = true)
    (k_is_number : PySem.W.keepIn K (.ref f_is_number) = true)
    {f_is_number_within : Addr}
    (a_is_number_within : PySem.W.nsIn K mainGlobals "is_number_within" = some (some (.ref f_is_number_within)))
    {od_is_number_within an_is_number_within : Option Addr} {sl_is_number_within : Array (Option Value)} {oc_is_number_within kV_is_number_within dc_is_number_within pm_is_number_within cd_is_number_within ct_is_number_within : Value}
    (l_is_number_within : K.lookup f_is_number_within = some ⟨oc_is_number_within, od_is_number_within, .func (PySem.W.fnOf "is_number_within" "is_number_within" (defArgs s_is_number_within) (defBody s_is_number_within) (defScope s_is_number_within) .none kV_is_number_within dc_is_number_within pm_is_number_within an_is_number_within cd_is_number_within ct_is_number_within), sl_is_number_within⟩)
    (c_is_number_within : PySem.W.codeIn K cd_is_number_within "is_number_within" = true)
    (k_is_number_within : PySem.W.keepIn K (.ref f_is_number_within) = true)
    {f_is_place : Addr}
    (a_is_place : PySem.W.nsIn K mainGlobals "is_place" = some (some (.ref f_is_place)))
    {od_is_place an_is_place : Option Addr} {sl_is_place : Array (Option Value)} {oc_is_place kV_is_place dc_is_place pm_is_place cd_is_place ct_is_place : Value}
    (l_is_place : K.lookup f_is_place = some ⟨oc_is_place, od_is_place, .func (PySem.W.fnOf "is_place" "is_place" (defArgs s_is_place) (defBody s_is_place) (defScope s_is_place) .none kV_is_place dc_is_place pm_is_place an_is_place cd_is_place ct_is_place), sl_is_place⟩)
    (c_is_place : PySem.W.codeIn K cd_is_place "is_place" = true)
    (k_is_place : PySem.W.keepIn K (.ref f_is_place) = true)
    {f_Load_getitem : Addr}
    (a_Load_getitem : PySem.W.findIn K (.ref c_Load) "__getitem__" = some (some (.ref f_Load_getitem)))
    (fn_Load_getitem : PySem.W.isFn K (.ref f_Load_getitem) = true)
    {od_Load_getitem an_Load_getitem : Option Addr} {sl_Load_getitem : Array (Option Value)} {oc_Load_getitem kV_Load_getitem dc_Load_getitem pm_Load_getitem cd_Load_getitem ct_Load_getitem : Value}
    (l_Load_getitem : K.lookup f_Load_getitem = some ⟨oc_Load_getitem, od_Load_getitem, .func (PySem.W.fnOf "__getitem__" "Load.__getitem__" (defArgs s_Load_getitem) (defBody s_Load_getitem) (defScope s_Load_getitem) .none kV_Load_getitem dc_Load_getitem pm_Load_getitem an_Load_getitem cd_Load_getitem ct_Load_getitem), sl_Load_getitem⟩)
    (c_Load_getitem : PySem.W.codeIn K cd_Load_getitem "Load.__getitem__" = true)
    (k_Load_getitem : PySem.W.keepIn K (.ref f_Load_getitem) = true)
    {f_Load_contains : Addr}
    (a_Load_contains : PySem.W.findIn K (.ref c_Load) "__contains__" = some (some (.ref f_Load_contains)))
    (fn_Load_contains : PySem.W.isFn K (.ref f_Load_contains) = true)
    {od_Load_contains an_Load_contains : Option Addr} {sl_Load_contains : Array (Option Value)} {oc_Load_contains kV_Load_contains dc_Load_contains pm_Load_contains cd_Load_contains ct_Load_contains : Value}
    (l_Load_contains : K.lookup f_Load_contains = some ⟨oc_Load_contains, od_Load_contains, .func (PySem.W.fnOf "__contains__" "Load.__contains__" (defArgs s_Load_contains) (defBody s_Load_contains) (defScope s_Load_contains) .none kV_Load_contains dc_Load_contains pm_Load_contains an_Load_contains cd_Load_contains ct_Load_contains), sl_Load_contains⟩)
    (c_Load_contains : PySem.W.codeIn K cd_Load_contains "Load.__contains__" = true)
    (k_Load_contains : PySem.W.keepIn K (.ref f_Load_contains) = true)
    {f_ascends : Addr}
    (a_ascends : PySem.W.nsIn K mainGlobals "ascends" = some (some (.ref f_ascends)))
    {od_ascends an_ascends : Option Addr} {sl_ascends : Array (Option Value)} {oc_ascends kV_ascends dc_ascends pm_ascends cd_ascends ct_ascends : Value}
    (l_ascends : K.lookup f_ascends = some ⟨oc_ascends, od_ascends, .func (PySem.W.fnOf "ascends" "ascends" (defArgs s_ascends) (defBody s_ascends) (defScope s_ascends) .none kV_ascends dc_ascends pm_ascends an_ascends cd_ascends ct_ascends), sl_ascends⟩)
    (c_ascends : PySem.W.codeIn K cd_ascends "ascends" = true)
    (k_ascends : PySem.W.keepIn K (.ref f_ascends) = true)
    {f_is_tuple_of : Addr}
    (a_is_tuple_of : PySem.W.nsIn K mainGlobals "is_tuple_of" = some (some (.ref f_is_tuple_of)))
    {od_is_tuple_of an_is_tuple_of : Option Addr} {sl_is_tuple_of : Array (Option Value)} {oc_is_tuple_of kV_is_tuple_of dc_is_tuple_of pm_is_tuple_of cd_is_tuple_of ct_is_tuple_of : Value}
    (l_is_tuple_of : K.lookup f_is_tuple_of = some ⟨oc_is_tuple_of, od_is_tuple_of, .func (PySem.W.fnOf "is_tuple_of" "is_tuple_of" (defArgs s_is_tuple_of) (defBody s_is_tuple_of) (defScope s_is_tuple_of) .none kV_is_tuple_of dc_is_tuple_of pm_is_tuple_of an_is_tuple_of cd_is_tuple_of ct_is_tuple_of), sl_is_tuple_of⟩)
    (c_is_tuple_of : PySem.W.codeIn K cd_is_tuple_of "is_tuple_of" = true)
    (k_is_tuple_of : PySem.W.keepIn K (.ref f_is_tuple_of) = true)
    {f_is_load_row : Addr}
    (a_is_load_row : PySem.W.nsIn K mainGlobals "is_load_row" = some (some (.ref f_is_load_row)))
    {od_is_load_row an_is_load_row : Option Addr} {sl_is_load_row : Array (Option Value)} {oc_is_load_row kV_is_load_row dc_is_load_row pm_is_load_row cd_is_load_row ct_is_load_row : Value}
    (l_is_load_row : K.lookup f_is_load_row = some ⟨oc_is_load_row, od_is_load_row, .func (PySem.W.fnOf "is_load_row" "is_load_row" (defArgs s_is_load_row) (defBody s_is_load_row) (defScope s_is_load_row) .none kV_is_load_row dc_is_load_row pm_is_load_row an_is_load_row cd_is_load_row ct_is_load_row), sl_is_load_row⟩)
    (c_is_load_row : PySem.W.codeIn K cd_is_load_row "is_load_row" = true)
    (k_is_load_row : PySem.W.keepIn K (.ref f_is_load_row) = true)
    {f_are_rows : Addr}
    (a_are_rows : PySem.W.nsIn K mainGlobals "are_rows" = some (some (.ref f_are_rows)))
    {od_are_rows an_are_rows : Option Addr} {sl_are_rows : Array (Option Value)} {oc_are_rows kV_are_rows dc_are_rows pm_are_rows cd_are_rows ct_are_rows : Value}
    (l_are_rows : K.lookup f_are_rows = some ⟨oc_are_rows, od_are_rows, .func (PySem.W.fnOf "are_rows" "are_rows" (defArgs s_are_rows) (defBody s_are_rows) (defScope s_are_rows) .none kV_are_rows dc_are_rows pm_are_rows an_are_rows cd_are_rows ct_are_rows), sl_are_rows⟩)
    (c_are_rows : PySem.W.codeIn K cd_are_rows "are_rows" = true)
    (k_are_rows : PySem.W.keepIn K (.ref f_are_rows) = true)
    {f_Load_init : Addr}
    (a_Load_init : PySem.W.findIn K (.ref c_Load) "__init__" = some (some (.ref f_Load_init)))
    (fn_Load_init : PySem.W.isFn K (.ref f_Load_init) = true)
    {od_Load_init an_Load_init : Option Addr} {sl_Load_init : Array (Option Value)} {oc_Load_init kV_Load_init dc_Load_init pm_Load_init cd_Load_init ct_Load_init : Value}
    (l_Load_init : K.lookup f_Load_init = some ⟨oc_Load_init, od_Load_init, .func (PySem.W.fnOf "__init__" "Load.__init__" (defArgs s_Load_init) (defBody s_Load_init) (defScope s_Load_init) .none kV_Load_init dc_Load_init pm_Load_init an_Load_init cd_Load_init ct_Load_init), sl_Load_init⟩)
    (c_Load_init : PySem.W.codeIn K cd_Load_init "Load.__init__" = true)
    (k_Load_init : PySem.W.keepIn K (.ref f_Load_init) = true)
    {f_Load_add : Addr}
    (a_Load_add : PySem.W.findIn K (.ref c_Load) "__add__" = some (some (.ref f_Load_add)))
    (fn_Load_add : PySem.W.isFn K (.ref f_Load_add) = true)
    {od_Load_add an_Load_add : Option Addr} {sl_Load_add : Array (Option Value)} {oc_Load_add kV_Load_add dc_Load_add pm_Load_add cd_Load_add ct_Load_add : Value}
    (l_Load_add : K.lookup f_Load_add = some ⟨oc_Load_add, od_Load_add, .func (PySem.W.fnOf "__add__" "Load.__add__" (defArgs s_Load_add) (defBody s_Load_add) (defScope s_Load_add) .none kV_Load_add dc_Load_add pm_Load_add an_Load_add cd_Load_add ct_Load_add), sl_Load_add⟩)
    (c_Load_add : PySem.W.codeIn K cd_Load_add "Load.__add__" = true)
    (k_Load_add : PySem.W.keepIn K (.ref f_Load_add) = true)
    {f_Load_eq : Addr}
    (a_Load_eq : PySem.W.findIn K (.ref c_Load) "__eq__" = some (some (.ref f_Load_eq)))
    (fn_Load_eq : PySem.W.isFn K (.ref f_Load_eq) = true)
    {od_Load_eq an_Load_eq : Option Addr} {sl_Load_eq : Array (Option Value)} {oc_Load_eq kV_Load_eq dc_Load_eq pm_Load_eq cd_Load_eq ct_Load_eq : Value}
    (l_Load_eq : K.lookup f_Load_eq = some ⟨oc_Load_eq, od_Load_eq, .func (PySem.W.fnOf "__eq__" "Load.__eq__" (defArgs s_Load_eq) (defBody s_Load_eq) (defScope s_Load_eq) .none kV_Load_eq dc_Load_eq pm_Load_eq an_Load_eq cd_Load_eq ct_Load_eq), sl_Load_eq⟩)
    (c_Load_eq : PySem.W.codeIn K cd_Load_eq "Load.__eq__" = true)
    (k_Load_eq : PySem.W.keepIn K (.ref f_Load_eq) = true)
    {f_Load_len : Addr}
    (a_Load_len : PySem.W.findIn K (.ref c_Load) "__len__" = some (some (.ref f_Load_len)))
    (fn_Load_len : PySem.W.isFn K (.ref f_Load_len) = true)
    {od_Load_len an_Load_len : Option Addr} {sl_Load_len : Array (Option Value)} {oc_Load_len kV_Load_len dc_Load_len pm_Load_len cd_Load_len ct_Load_len : Value}
    (l_Load_len : K.lookup f_Load_len = some ⟨oc_Load_len, od_Load_len, .func (PySem.W.fnOf "__len__" "Load.__len__" (defArgs s_Load_len) (defBody s_Load_len) (defScope s_Load_len) .none kV_Load_len dc_Load_len pm_Load_len an_Load_len cd_Load_len ct_Load_len), sl_Load_len⟩)
    (c_Load_len : PySem.W.codeIn K cd_Load_len "Load.__len__" = true)
    (k_Load_len : PySem.W.keepIn K (.ref f_Load_len) = true)
    {f_Load_str : Addr}
    (a_Load_str : PySem.W.findIn K (.ref c_Load) "__str__" = some (some (.ref f_Load_str)))
    (fn_Load_str : PySem.W.isFn K (.ref f_Load_str) = true)
    {od_Load_str an_Load_str : Option Addr} {sl_Load_str : Array (Option Value)} {oc_Load_str kV_Load_str dc_Load_str pm_Load_str cd_Load_str ct_Load_str : Value}
    (l_Load_str : K.lookup f_Load_str = some ⟨oc_Load_str, od_Load_str, .func (PySem.W.fnOf "__str__" "Load.__str__" (defArgs s_Load_str) (defBody s_Load_str) (defScope s_Load_str) .none kV_Load_str dc_Load_str pm_Load_str an_Load_str cd_Load_str ct_Load_str), sl_Load_str⟩)
    (c_Load_str : PySem.W.codeIn K cd_Load_str "Load.__str__" = true)
    (k_Load_str : PySem.W.keepIn K (.ref f_Load_str) = true)
    {f_l_built_right : Addr}
    (a_l_built_right : PySem.W.nsIn K mainGlobals "_law_built_right" = some (some (.ref f_l_built_right)))
    {od_l_built_right an_l_built_right : Option Addr} {sl_l_built_right : Array (Option Value)} {oc_l_built_right kV_l_built_right dc_l_built_right pm_l_built_right cd_l_built_right ct_l_built_right : Value}
    (l_l_built_right : K.lookup f_l_built_right = some ⟨oc_l_built_right, od_l_built_right, .func (PySem.W.fnOf "_law_built_right" "_law_built_right" (defArgs s_l_built_right) (defBody s_l_built_right) (defScope s_l_built_right) .none kV_l_built_right dc_l_built_right pm_l_built_right an_l_built_right cd_l_built_right ct_l_built_right), sl_l_built_right⟩)
    (c_l_built_right : PySem.W.codeIn K cd_l_built_right "_law_built_right" = true)
    (k_l_built_right : PySem.W.keepIn K (.ref f_l_built_right) = true)
    {f_l_rows : Addr}
    (a_l_rows : PySem.W.nsIn K mainGlobals "_law_rows" = some (some (.ref f_l_rows)))
    {od_l_rows an_l_rows : Option Addr} {sl_l_rows : Array (Option Value)} {oc_l_rows kV_l_rows dc_l_rows pm_l_rows cd_l_rows ct_l_rows : Value}
    (l_l_rows : K.lookup f_l_rows = some ⟨oc_l_rows, od_l_rows, .func (PySem.W.fnOf "_law_rows" "_law_rows" (defArgs s_l_rows) (defBody s_l_rows) (defScope s_l_rows) .none kV_l_rows dc_l_rows pm_l_rows an_l_rows cd_l_rows ct_l_rows), sl_l_rows⟩)
    (c_l_rows : PySem.W.codeIn K cd_l_rows "_law_rows" = true)
    (k_l_rows : PySem.W.keepIn K (.ref f_l_rows) = true)
    {f_l_few : Addr}
    (a_l_few : PySem.W.nsIn K mainGlobals "_law_few" = some (some (.ref f_l_few)))
    {od_l_few an_l_few : Option Addr} {sl_l_few : Array (Option Value)} {oc_l_few kV_l_few dc_l_few pm_l_few cd_l_few ct_l_few : Value}
    (l_l_few : K.lookup f_l_few = some ⟨oc_l_few, od_l_few, .func (PySem.W.fnOf "_law_few" "_law_few" (defArgs s_l_few) (defBody s_l_few) (defScope s_l_few) .none kV_l_few dc_l_few pm_l_few an_l_few cd_l_few ct_l_few), sl_l_few⟩)
    (c_l_few : PySem.W.codeIn K cd_l_few "_law_few" = true)
    (k_l_few : PySem.W.keepIn K (.ref f_l_few) = true)
    {f_Load_sub : Addr}
    (a_Load_sub : PySem.W.findIn K (.ref c_Load) "__sub__" = some (some (.ref f_Load_sub)))
    (fn_Load_sub : PySem.W.isFn K (.ref f_Load_sub) = true)
    {od_Load_sub an_Load_sub : Option Addr} {sl_Load_sub : Array (Option Value)} {oc_Load_sub kV_Load_sub dc_Load_sub pm_Load_sub cd_Load_sub ct_Load_sub : Value}
    (l_Load_sub : K.lookup f_Load_sub = some ⟨oc_Load_sub, od_Load_sub, .func (PySem.W.fnOf "__sub__" "Load.__sub__" (defArgs s_Load_sub) (defBody s_Load_sub) (defScope s_Load_sub) .none kV_Load_sub dc_Load_sub pm_Load_sub an_Load_sub cd_Load_sub ct_Load_sub), sl_Load_sub⟩)
    (c_Load_sub : PySem.W.codeIn K cd_Load_sub "Load.__sub__" = true)
    (k_Load_sub : PySem.W.keepIn K (.ref f_Load_sub) = true)
    {f_l_can_take : Addr}
    (a_l_can_take : PySem.W.nsIn K mainGlobals "_law_can_take" = some (some (.ref f_l_can_take)))
    {od_l_can_take an_l_can_take : Option Addr} {sl_l_can_take : Array (Option Value)} {oc_l_can_take kV_l_can_take dc_l_can_take pm_l_can_take cd_l_can_take ct_l_can_take : Value}
    (l_l_can_take : K.lookup f_l_can_take = some ⟨oc_l_can_take, od_l_can_take, .func (PySem.W.fnOf "_law_can_take" "_law_can_take" (defArgs s_l_can_take) (defBody s_l_can_take) (defScope s_l_can_take) .none kV_l_can_take dc_l_can_take pm_l_can_take an_l_can_take cd_l_can_take ct_l_can_take), sl_l_can_take⟩)
    (c_l_can_take : PySem.W.codeIn K cd_l_can_take "_law_can_take" = true)
    (k_l_can_take : PySem.W.keepIn K (.ref f_l_can_take) = true)
    {f_l_parts_right : Addr}
    (a_l_parts_right : PySem.W.nsIn K mainGlobals "_law_parts_right" = some (some (.ref f_l_parts_right)))
    {od_l_parts_right an_l_parts_right : Option Addr} {sl_l_parts_right : Array (Option Value)} {oc_l_parts_right kV_l_parts_right dc_l_parts_right pm_l_parts_right cd_l_parts_right ct_l_parts_right : Value}
    (l_l_parts_right : K.lookup f_l_parts_right = some ⟨oc_l_parts_right, od_l_parts_right, .func (PySem.W.fnOf "_law_parts_right" "_law_parts_right" (defArgs s_l_parts_right) (defBody s_l_parts_right) (defScope s_l_parts_right) .none kV_l_parts_right dc_l_parts_right pm_l_parts_right an_l_parts_right cd_l_parts_right ct_l_parts_right), sl_l_parts_right⟩)
    (c_l_parts_right : PySem.W.codeIn K cd_l_parts_right "_law_parts_right" = true)
    (k_l_parts_right : PySem.W.keepIn K (.ref f_l_parts_right) = true)
    {f_l_sums_right : Addr}
    (a_l_sums_right : PySem.W.nsIn K mainGlobals "_law_sums_right" = some (some (.ref f_l_sums_right)))
    {od_l_sums_right an_l_sums_right : Option Addr} {sl_l_sums_right : Array (Option Value)} {oc_l_sums_right kV_l_sums_right dc_l_sums_right pm_l_sums_right cd_l_sums_right ct_l_sums_right : Value}
    (l_l_sums_right : K.lookup f_l_sums_right = some ⟨oc_l_sums_right, od_l_sums_right, .func (PySem.W.fnOf "_law_sums_right" "_law_sums_right" (defArgs s_l_sums_right) (defBody s_l_sums_right) (defScope s_l_sums_right) .none kV_l_sums_right dc_l_sums_right pm_l_sums_right an_l_sums_right cd_l_sums_right ct_l_sums_right), sl_l_sums_right⟩)
    (c_l_sums_right : PySem.W.codeIn K cd_l_sums_right "_law_sums_right" = true)
    (k_l_sums_right : PySem.W.keepIn K (.ref f_l_sums_right) = true)
    {f_law : Addr}
    (a_law : PySem.W.nsIn K mainGlobals "law" = some (some (.ref f_law)))
    {od_law an_law : Option Addr} {sl_law : Array (Option Value)} {oc_law kV_law dc_law pm_law cd_law ct_law : Value}
    (l_law : K.lookup f_law = some ⟨oc_law, od_law, .func (PySem.W.fnOf "law" "law" (defArgs s_law) (defBody s_law) (defScope s_law) .none kV_law dc_law pm_law an_law cd_law ct_law), sl_law⟩)
    (c_law : PySem.W.codeIn K cd_law "law" = true)
    (k_law : PySem.W.keepIn K (.ref f_law) = true)
    (z_abs : PySem.W.nsIn K mainGlobals "abs" = some none)
    (z_all : PySem.W.nsIn K mainGlobals "all" = some none)
    (z_any : PySem.W.nsIn K mainGlobals "any" = some none)
    (z_bool : PySem.W.nsIn K mainGlobals "bool" = some none)
    (z_int : PySem.W.nsIn K mainGlobals "int" = some none)
    (z_isinstance : PySem.W.nsIn K mainGlobals "isinstance" = some none)
    (z_len : PySem.W.nsIn K mainGlobals "len" = some none)
    (z_range : PySem.W.nsIn K mainGlobals "range" = some none)
    (z_set : PySem.W.nsIn K mainGlobals "set" = some none)
    (z_sorted : PySem.W.nsIn K mainGlobals "sorted" = some none)
    (z_str : PySem.W.nsIn K mainGlobals "str" = some none)
    (z_sum : PySem.W.nsIn K mainGlobals "sum" = some none)
    (z_tuple : PySem.W.nsIn K mainGlobals "tuple" = some none)
    (z_zip : PySem.W.nsIn K mainGlobals "zip" = some none)
    {t_LIMIT : Tok}
    (z_LIMIT : PySem.W.nsIn K mainGlobals "LIMIT" = some (some (.int 1000000000000000000 t_LIMIT)))
    {t_MAX_PLACE : Tok}
    (z_MAX_PLACE : PySem.W.nsIn K mainGlobals "MAX_PLACE" = some (some (.int 1000000 t_MAX_PLACE)))
    {t_MAX_ROWS : Tok}
    (z_MAX_ROWS : PySem.W.nsIn K mainGlobals "MAX_ROWS" = some (some (.int 50 t_MAX_ROWS)))
    (na_Load_rows : PySem.W.findIn K (.ref c_Load) "rows" = some none)
    (pg_Load : PySem.W.plainGet K c_Load Str.empty = true)
    (hd_Load : PySem.W.hasDictIn K c_Load = true)
    (po_Load : PySem.W.plainOver K c_Load = true)
    (sa_Load : PySem.W.findIn K (.ref c_Load) "__setattr__" = some (some (.builtin "object.__setattr__")))
    (mks_Load : PySem.W.makesIn K c_Load = true)
    (kc_Load : PySem.W.keepIn K (.ref c_Load) = true)
    (fi_Load_getitem : PySem.W.fnIn K f_Load_getitem = true)
    (hc_Load : PySem.W.findIn K (.ref c_Load) "__class__" = some (some (.builtin "object.__class__")))
    (mo_Load : PySem.W.mroIn K c_Load (.type "object") = some true)
    (hn_cls : PySem.W.specialIn K (.builtin "object.__class__") "__get__" = some (some (.builtin "getset_descriptor.__get__")))
    (ht_cls : PySem.W.takesIn K (.builtin "object.__class__") = some true)
    (io_Load_Load : PySem.W.kitOne K (.ref c_Load) (.ref c_Load) = some true)
    (na_Load_total : PySem.W.findIn K (.ref c_Load) "total" = some none)
    (nf_Load : PySem.W.notFirst K c_Load (.ref c_Load) = true)
    (sf_Load : PySem.W.selfFirst K c_Load = true)
    (ex_Missing_BadLoad : PySem.W.exmOne K (.ref c_BadLoad) (.ref c_Missing) = some false)
    (ex_Missing_NoPlace : PySem.W.exmOne K (.ref c_NoPlace) (.ref c_Missing) = some false)
    (ex_Missing_Missing : PySem.W.exmOne K (.ref c_Missing) (.ref c_Missing) = some true)
    (ex_Missing_TooMuch : PySem.W.exmOne K (.ref c_TooMuch) (.ref c_Missing) = some false)
    (ga_BadLoad : PySem.W.findIn K (.ref c_BadLoad) "__getattribute__" = some (some (.builtin "BaseException.__getattribute__")))
    (gg_BadLoad : PySem.W.findIn K (.ref c_BadLoad) "__getattr__" = some none)
    (hd_BadLoad : PySem.W.hasDictIn K c_BadLoad = true)
    (ga_NoPlace : PySem.W.findIn K (.ref c_NoPlace) "__getattribute__" = some (some (.builtin "BaseException.__getattribute__")))
    (gg_NoPlace : PySem.W.findIn K (.ref c_NoPlace) "__getattr__" = some none)
    (ga_Missing : PySem.W.findIn K (.ref c_Missing) "__getattribute__" = some (some (.builtin "BaseException.__getattribute__")))
    (gg_Missing : PySem.W.findIn K (.ref c_Missing) "__getattr__" = some none)
    (hd_Missing : PySem.W.hasDictIn K c_Missing = true)
    (ga_TooMuch : PySem.W.findIn K (.ref c_TooMuch) "__getattribute__" = some (some (.builtin "BaseException.__getattribute__")))
    (gg_TooMuch : PySem.W.findIn K (.ref c_TooMuch) "__getattr__" = some none)
    (hd_TooMuch : PySem.W.hasDictIn K c_TooMuch = true)
    (nf_place_BadLoad : PySem.W.findIn K (.ref c_BadLoad) "place" = some none)
    (nf_place_NoPlace : PySem.W.findIn K (.ref c_NoPlace) "place" = some none)
    (nf_place_TooMuch : PySem.W.findIn K (.ref c_TooMuch) "place" = some none)
    (nn_Load : PySem.W.findIn K (.ref c_Load) "__ne__" = some (some (.builtin "object.__ne__")))
    : ∃ fd : FuncData, (∀ (s : Shared) (v : Value), BindsTo s fd ⟨[v], []⟩ [("_law_script", v)]) ∧ ∀ base : Heap, K.In base → base.Ns mainGlobals mg → (∃ o, base.get? sysModules = some o) → Cn.FnG l.prog w K mg base 11 fa fd ["_law_script"] (spLaw K) := by
  have e := hfa.symm.trans (PySem.W.mg_of X G a_law)
  cases e
  have k_LIMIT := PySem.W.mg_of X G z_LIMIT
  have k_MAX_PLACE := PySem.W.mg_of X G z_MAX_PLACE
  have k_MAX_ROWS := PySem.W.mg_of X G z_MAX_ROWS
  have m_abs : mg "abs" = none := PySem.W.mg_none_of X G z_abs
  have m_all : mg "all" = none := PySem.W.mg_none_of X G z_all
  have m_any : mg "any" = none := PySem.W.mg_none_of X G z_any
  have m_bool : mg "bool" = none := PySem.W.mg_none_of X G z_bool
  have m_int : mg "int" = none := PySem.W.mg_none_of X G z_int
  have m_isinstance : mg "isinstance" = none := PySem.W.mg_none_of X G z_isinstance
  have m_len : mg "len" = none := PySem.W.mg_none_of X G z_len
  have m_range : mg "range" = none := PySem.W.mg_none_of X G z_range
  have m_set : mg "set" = none := PySem.W.mg_none_of X G z_set
  have m_sorted : mg "sorted" = none := PySem.W.mg_none_of X G z_sorted
  have m_str : mg "str" = none := PySem.W.mg_none_of X G z_str
  have m_sum : mg "sum" = none := PySem.W.mg_none_of X G z_sum
  have m_tuple : mg "tuple" = none := PySem.W.mg_none_of X G z_tuple
  have m_zip : mg "zip" = none := PySem.W.mg_none_of X G z_zip
  have g_BadLoad := PySem.W.mg_of X G a_BadLoad
  have g_NoPlace := PySem.W.mg_of X G a_NoPlace
  have g_Missing := PySem.W.mg_of X G a_Missing
  have g_TooMuch := PySem.W.mg_of X G a_TooMuch
  have g_PathError := PySem.W.mg_of X G a_PathError
  have g_Load := PySem.W.mg_of X G a_Load
  have O_BadLoad : OexC K c_BadLoad := ⟨⟨_, _, _, _, _, _, _, _, _, _, _, _, _, _, _, w_BadLoad, v_BadLoad⟩, sa_BadLoad, be_BadLoad, ty_BadLoad, kc_BadLoad⟩
  have F_BadLoad_init := fun_mk (st := s_BadLoad_init) l_BadLoad_init c_BadLoad_init k_BadLoad_init
  have b_BadLoad_init := F_BadLoad_init.binds (ps := ["self", "value"]) fun _ _ _ _ _ _ us hl => match us, hl with | [_, _], _ => rfl
  have O_NoPlace : Cn.OexB K c_NoPlace := oexB_LE q1_NoPlace q2_NoPlace hd_NoPlace sa_NoPlace be_NoPlace ty_NoPlace kc_NoPlace
  have F_NoPlace_init := fun_mk (st := s_NoPlace_init) l_NoPlace_init c_NoPlace_init k_NoPlace_init
  have b_NoPlace_init := F_NoPlace_init.binds (ps := ["self", "value"]) fun _ _ _ _ _ _ us hl => match us, hl with | [_, _], _ => rfl
  have O_Missing : OexC K c_Missing := ⟨⟨_, _, _, _, _, _, _, _, _, _, _, _, _, _, _, w_Missing, v_Missing⟩, sa_Missing, be_Missing, ty_Missing, kc_Missing⟩
  have F_Missing_init := fun_mk (st := s_Missing_init) l_Missing_init c_Missing_init k_Missing_init
  have b_Missing_init := F_Missing_init.binds (ps := ["self", "place"]) fun _ _ _ _ _ _ us hl => match us, hl with | [_, _], _ => rfl
  have F_l_deck := fun_mk (st := s_l_deck) l_l_deck c_l_deck k_l_deck
  have b_l_deck := F_l_deck.binds (ps := ["_law_script"]) fun _ _ _ _ _ _ us hl => match us, hl with | [_], _ => rfl
  have g_l_deck := PySem.W.mg_of X G a_l_deck
  have F_l_draw := fun_mk (st := s_l_draw) l_l_draw c_l_draw k_l_draw
  have b_l_draw := F_l_draw.binds (ps := ["_law_deck_here", "_law_many"]) fun _ _ _ _ _ _ us hl => match us, hl with | [_, _], _ => rfl
  have g_l_draw := PySem.W.mg_of X G a_l_draw
  have F_is_number := fun_mk (st := s_is_number) l_is_number c_is_number k_is_number
  have b_is_number := F_is_number.binds (ps := ["value"]) fun _ _ _ _ _ _ us hl => match us, hl with | [_], _ => rfl
  have g_is_number := PySem.W.mg_of X G a_is_number
  have F_is_number_within := fun_mk (st := s_is_number_within) l_is_number_within c_is_number_within k_is_number_within
  have b_is_number_within := F_is_number_within.binds (ps := ["value", "low", "high"]) fun _ _ _ _ _ _ us hl => match us, hl with | [_, _, _], _ => rfl
  have g_is_number_within := PySem.W.mg_of X G a_is_number_within
  have F_is_place := fun_mk (st := s_is_place) l_is_place c_is_place k_is_place
  have b_is_place := F_is_place.binds (ps := ["value"]) fun _ _ _ _ _ _ us hl => match us, hl with | [_], _ => rfl
  have g_is_place := PySem.W.mg_of X G a_is_place
  have F_Load_getitem := fun_mk (st := s_Load_getitem) l_Load_getitem c_Load_getitem k_Load_getitem
  have b_Load_getitem := F_Load_getitem.binds (ps := ["self", "at"]) fun _ _ _ _ _ _ us hl => match us, hl with | [_, _], _ => rfl
  have F_Load_contains := fun_mk (st := s_Load_contains) l_Load_contains c_Load_contains k_Load_contains
  have b_Load_contains := F_Load_contains.binds (ps := ["self", "x"]) fun _ _ _ _ _ _ us hl => match us, hl with | [_, _], _ => rfl
  have F_ascends := fun_mk (st := s_ascends) l_ascends c_ascends k_ascends
  have b_ascends := F_ascends.binds (ps := ["items"]) fun _ _ _ _ _ _ us hl => match us, hl with | [_], _ => rfl
  have g_ascends := PySem.W.mg_of X G a_ascends
  have F_is_tuple_of := fun_mk (st := s_is_tuple_of) l_is_tuple_of c_is_tuple_of k_is_tuple_of
  have b_is_tuple_of := F_is_tuple_of.binds (ps := ["value", "many"]) fun _ _ _ _ _ _ us hl => match us, hl with | [_, _], _ => rfl
  have g_is_tuple_of := PySem.W.mg_of X G a_is_tuple_of
  have F_is_load_row := fun_mk (st := s_is_load_row) l_is_load_row c_is_load_row k_is_load_row
  have b_is_load_row := F_is_load_row.binds (ps := ["value"]) fun _ _ _ _ _ _ us hl => match us, hl with | [_], _ => rfl
  have g_is_load_row := PySem.W.mg_of X G a_is_load_row
  have F_are_rows := fun_mk (st := s_are_rows) l_are_rows c_are_rows k_are_rows
  have b_are_rows := F_are_rows.binds (ps := ["value"]) fun _ _ _ _ _ _ us hl => match us, hl with | [_], _ => rfl
  have g_are_rows := PySem.W.mg_of X G a_are_rows
  have F_Load_init := fun_mk (st := s_Load_init) l_Load_init c_Load_init k_Load_init
  have b_Load_init := F_Load_init.binds (ps := ["self", "rows"]) fun _ _ _ _ _ _ us hl => match us, hl with | [_, _], _ => rfl
  have F_Load_add := fun_mk (st := s_Load_add) l_Load_add c_Load_add k_Load_add
  have b_Load_add := F_Load_add.binds (ps := ["self", "other"]) fun _ _ _ _ _ _ us hl => match us, hl with | [_, _], _ => rfl
  have F_Load_eq := fun_mk (st := s_Load_eq) l_Load_eq c_Load_eq k_Load_eq
  have b_Load_eq := F_Load_eq.binds (ps := ["self", "other"]) fun _ _ _ _ _ _ us hl => match us, hl with | [_, _], _ => rfl
  have F_Load_len := fun_mk (st := s_Load_len) l_Load_len c_Load_len k_Load_len
  have b_Load_len := F_Load_len.binds (ps := ["self"]) fun _ _ _ _ _ _ us hl => match us, hl with | [_], _ => rfl
  have F_Load_str := fun_mk (st := s_Load_str) l_Load_str c_Load_str k_Load_str
  have b_Load_str := F_Load_str.binds (ps := ["self"]) fun _ _ _ _ _ _ us hl => match us, hl with | [_], _ => rfl
  have F_l_built_right := fun_mk (st := s_l_built_right) l_l_built_right c_l_built_right k_l_built_right
  have b_l_built_right := F_l_built_right.binds (ps := ["_law_load"]) fun _ _ _ _ _ _ us hl => match us, hl with | [_], _ => rfl
  have g_l_built_right := PySem.W.mg_of X G a_l_built_right
  have F_l_rows := fun_mk (st := s_l_rows) l_l_rows c_l_rows k_l_rows
  have b_l_rows := F_l_rows.binds (ps := ["_law_deck_here", "_law_most"]) fun _ _ _ _ _ _ us hl => match us, hl with | [_, _], _ => rfl
  have g_l_rows := PySem.W.mg_of X G a_l_rows
  have F_l_few := fun_mk (st := s_l_few) l_l_few c_l_few k_l_few
  have b_l_few := F_l_few.binds (ps := ["_law_deck_here"]) fun _ _ _ _ _ _ us hl => match us, hl with | [_], _ => rfl
  have g_l_few := PySem.W.mg_of X G a_l_few
  have F_Load_sub := fun_mk (st := s_Load_sub) l_Load_sub c_Load_sub k_Load_sub
  have b_Load_sub := F_Load_sub.binds (ps := ["self", "other"]) fun _ _ _ _ _ _ us hl => match us, hl with | [_, _], _ => rfl
  have F_l_can_take := fun_mk (st := s_l_can_take) l_l_can_take c_l_can_take k_l_can_take
  have b_l_can_take := F_l_can_take.binds (ps := ["_law_one", "_law_other"]) fun _ _ _ _ _ _ us hl => match us, hl with | [_, _], _ => rfl
  have g_l_can_take := PySem.W.mg_of X G a_l_can_take
  have F_l_parts_right := fun_mk (st := s_l_parts_right) l_l_parts_right c_l_parts_right k_l_parts_right
  have b_l_parts_right := F_l_parts_right.binds (ps := ["_law_one", "_law_other"]) fun _ _ _ _ _ _ us hl => match us, hl with | [_, _], _ => rfl
  have g_l_parts_right := PySem.W.mg_of X G a_l_parts_right
  have F_l_sums_right := fun_mk (st := s_l_sums_right) l_l_sums_right c_l_sums_right k_l_sums_right
  have b_l_sums_right := F_l_sums_right.binds (ps := ["_law_one", "_law_other", "_law_third"]) fun _ _ _ _ _ _ us hl => match us, hl with | [_, _, _], _ => rfl
  have g_l_sums_right := PySem.W.mg_of X G a_l_sums_right
  have F_law := fun_mk (st := s_law) l_law c_law k_law
  refine ⟨PySem.W.fnOf "law" "law" (defArgs s_law) (defBody s_law) (defScope s_law) .none kV_law dc_law pm_law an_law cd_law ct_law, fun s v => .of_eq rfl, fun base inB glB sm => ?_⟩
  have L : Lc l.prog w K mg base (fun i => [c_BadLoad, c_NoPlace, c_Missing, c_TooMuch, c_PathError, c_Load, 0, f_Load_add, f_Load_contains, f_Load_eq, f_Load_getitem, f_Load_init, 0, f_Load_len, f_Load_str, f_Load_sub, 0, 0].getD i 0) := {
    ga_Load_rows := by rintro C rfl; exact ⟨⟨pg_Load, hd_Load, po_Load, sa_Load⟩, na_Load_rows⟩,
    ct_Load_Load_contains := by rintro C rfl; exact ⟨a_Load_contains, fn_Load_contains⟩,
    mk_Load := ⟨mks_Load, a_Load_init, fn_Load_init, kc_Load⟩,
    g_Load := g_Load,
    su_Load_Load_getitem := by rintro C rfl; exact ⟨a_Load_getitem, fi_Load_getitem, fn_Load_getitem⟩,
    io_Load_Load := by rintro C rfl; exact ⟨⟨⟨pg_Load, hd_Load, po_Load, sa_Load⟩, hc_Load, hn_cls, ht_cls, mo_Load⟩, io_Load_Load⟩,
    e_NoPlace := ⟨f_NoPlace_init, _, "value", ⟨O_NoPlace, a_NoPlace_init, t_NoPlace_init, ok_NoPlace_init F_NoPlace_init O_NoPlace nf_value_NoPlace, b_NoPlace_init, g_NoPlace⟩⟩,
    ga_Load_total := by rintro C rfl; exact ⟨⟨pg_Load, hd_Load, po_Load, sa_Load⟩, na_Load_total⟩,
    e_BadLoad := ⟨f_BadLoad_init, _, "value", ⟨O_BadLoad, a_BadLoad_init, t_BadLoad_init, ok_BadLoad_init F_BadLoad_init O_BadLoad nf_value_BadLoad, b_BadLoad_init, g_BadLoad⟩⟩,
    sp_Load_Load_str := by rintro C rfl; exact ⟨a_Load_str, fn_Load_str⟩,
    eq_Load_Load_eq := by rintro C D rfl rfl; exact ⟨nf_Load, a_Load_eq, fn_Load_eq⟩,
    sp_Load_Load_len := by rintro C rfl; exact ⟨a_Load_len, fn_Load_len⟩,
    bi_Load_Load_add := by rintro C rfl; exact ⟨sf_Load, (show PySem.dunder (Operator.info .Add).2 = "__add__" by decide) ▸ a_Load_add, fn_Load_add⟩,
    z_TooMuch := ⟨q1_TooMuch, g_TooMuch, kc_TooMuch, be_TooMuch, ty_TooMuch⟩,
    bi_Load_Load_sub := by rintro C rfl; exact ⟨sf_Load, (show PySem.dunder (Operator.info .Sub).2 = "__sub__" by decide) ▸ a_Load_sub, fn_Load_sub⟩,
    e_Missing := ⟨f_Missing_init, _, "place", ⟨O_Missing, a_Missing_init, t_Missing_init, ok_Missing_init F_Missing_init O_Missing nf_place_Missing, b_Missing_init, g_Missing⟩⟩,
    ex_Missing := fun c hc => match c, hc with | 0, _ => ex_Missing_BadLoad | 1, _ => ex_Missing_NoPlace | 2, _ => ex_Missing_Missing | 3, _ => ex_Missing_TooMuch | n + 4, hc => absurd hc (by omega),
    X := fun c hc => match c, hc with | 0, _ => ⟨ga_BadLoad, gg_BadLoad, be_BadLoad, hd_BadLoad⟩ | 1, _ => ⟨ga_NoPlace, gg_NoPlace, be_NoPlace, hd_NoPlace⟩ | 2, _ => ⟨ga_Missing, gg_Missing, be_Missing, hd_Missing⟩ | 3, _ => ⟨ga_TooMuch, gg_TooMuch, be_TooMuch, hd_TooMuch⟩ | n + 4, hc => absurd hc (by omega),
    nf_place := fun c hc => match c, hc with | 0, _ => nf_place_BadLoad | 1, _ => nf_place_NoPlace | 2, _ => nf_place_Missing | 3, _ => nf_place_TooMuch | n + 4, hc => absurd hc (by omega),
    g_Missing := g_Missing,
    ne_Load_Load_eq := by rintro C D rfl rfl; exact ⟨nf_Load, a_Load_eq, fn_Load_eq, nn_Load, mo_Load⟩,
    hw_Load_getitem := ⟨_, okH_Load_getitem sm F_Load_getitem (by rintro C rfl; exact ⟨⟨pg_Load, hd_Load, po_Load, sa_Load⟩, na_Load_rows⟩) m_sum (okH_is_place F_is_place k_MAX_PLACE (okH_is_number_within F_is_number_within (okH_is_number F_is_number m_bool m_int m_isinstance) g_is_number F_is_number b_is_number) g_is_number_within F_is_number_within b_is_number_within) g_is_place F_is_place b_is_place, b_Load_getitem⟩ }
  have G_l_deck := ok_l_deck (P := l.prog) (w := w) (base := base) F_l_deck m_abs
  have G_l_draw := FnG.weak (Cn.FnG.of (ok_l_draw (P := l.prog) (w := w) (base := base) F_l_draw m_len)) fun vs H Q E h => drawW_of h
  have G_is_number := ok_is_number (P := l.prog) (w := w) (mg := mg) (base := base) sm F_is_number m_bool m_int m_isinstance
  have G_is_number_within := ok_is_number_within (P := l.prog) (w := w) (mg := mg) (base := base) sm F_is_number_within G_is_number g_is_number F_is_number b_is_number
  have G_is_place := ok_is_place (P := l.prog) (w := w) (mg := mg) (base := base) sm F_is_place k_MAX_PLACE G_is_number_within g_is_number_within F_is_number_within b_is_number_within
  have G_Load_getitem := ok_Load_getitem (P := l.prog) (w := w) (mg := mg) (base := base) (ad := fun i => [c_BadLoad, c_NoPlace, c_Missing, c_TooMuch, c_PathError, c_Load, 0, f_Load_add, f_Load_contains, f_Load_eq, f_Load_getitem, f_Load_init, 0, f_Load_len, f_Load_str, f_Load_sub, 0, 0].getD i 0) sm F_Load_getitem L m_sum G_is_place g_is_place F_is_place b_is_place
  have G_Load_contains := ok_Load_contains (P := l.prog) (w := w) (mg := mg) (base := base) (ad := fun i => [c_BadLoad, c_NoPlace, c_Missing, c_TooMuch, c_PathError, c_Load, 0, f_Load_add, f_Load_contains, f_Load_eq, f_Load_getitem, f_Load_init, 0, f_Load_len, f_Load_str, f_Load_sub, 0, 0].getD i 0) sm F_Load_contains L m_all m_isinstance G_Load_getitem b_Load_getitem
  have G_ascends := ok_ascends (P := l.prog) (w := w) (mg := mg) (base := base) sm F_ascends m_all m_zip
  have G_is_tuple_of := ok_is_tuple_of (P := l.prog) (w := w) (mg := mg) (base := base) sm F_is_tuple_of m_isinstance m_len m_tuple
  have G_is_load_row := ok_is_load_row (P := l.prog) (w := w) (mg := mg) (base := base) sm F_is_load_row k_LIMIT G_is_number_within g_is_number_within F_is_number_within b_is_number_within G_is_place g_is_place F_is_place b_is_place G_is_tuple_of g_is_tuple_of F_is_tuple_of b_is_tuple_of
  have G_are_rows := ok_are_rows (P := l.prog) (w := w) (mg := mg) (base := base) sm F_are_rows k_MAX_ROWS m_all m_isinstance m_len m_tuple G_ascends g_ascends F_ascends b_ascends G_is_load_row g_is_load_row F_is_load_row b_is_load_row
  have G_Load_init := ok_Load_init (P := l.prog) (w := w) (mg := mg) (base := base) (ad := fun i => [c_BadLoad, c_NoPlace, c_Missing, c_TooMuch, c_PathError, c_Load, 0, f_Load_add, f_Load_contains, f_Load_eq, f_Load_getitem, f_Load_init, 0, f_Load_len, f_Load_str, f_Load_sub, 0, 0].getD i 0) sm F_Load_init L m_sum G_are_rows g_are_rows F_are_rows b_are_rows
  have G_Load_add := ok_Load_add (P := l.prog) (w := w) (mg := mg) (base := base) (ad := fun i => [c_BadLoad, c_NoPlace, c_Missing, c_TooMuch, c_PathError, c_Load, 0, f_Load_add, f_Load_contains, f_Load_eq, f_Load_getitem, f_Load_init, 0, f_Load_len, f_Load_str, f_Load_sub, 0, 0].getD i 0) sm F_Load_add L k_LIMIT k_MAX_ROWS m_any m_isinstance m_len m_set m_sorted m_tuple G_Load_getitem b_Load_getitem G_Load_init b_Load_init
  have G_Load_eq := ok_Load_eq (P := l.prog) (w := w) (mg := mg) (base := base) (ad := fun i => [c_BadLoad, c_NoPlace, c_Missing, c_TooMuch, c_PathError, c_Load, 0, f_Load_add, f_Load_contains, f_Load_eq, f_Load_getitem, f_Load_init, 0, f_Load_len, f_Load_str, f_Load_sub, 0, 0].getD i 0) sm F_Load_eq L m_isinstance
  have G_Load_len := ok_Load_len (P := l.prog) (w := w) (mg := mg) (base := base) (ad := fun i => [c_BadLoad, c_NoPlace, c_Missing, c_TooMuch, c_PathError, c_Load, 0, f_Load_add, f_Load_contains, f_Load_eq, f_Load_getitem, f_Load_init, 0, f_Load_len, f_Load_str, f_Load_sub, 0, 0].getD i 0) sm F_Load_len L m_len
  have G_Load_str := ok_Load_str (P := l.prog) (w := w) (mg := mg) (base := base) (ad := fun i => [c_BadLoad, c_NoPlace, c_Missing, c_TooMuch, c_PathError, c_Load, 0, f_Load_add, f_Load_contains, f_Load_eq, f_Load_getitem, f_Load_init, 0, f_Load_len, f_Load_str, f_Load_sub, 0, 0].getD i 0) sm F_Load_str L
  have G_l_built_right := ok_l_built_right (P := l.prog) (w := w) (mg := mg) (base := base) (ad := fun i => [c_BadLoad, c_NoPlace, c_Missing, c_TooMuch, c_PathError, c_Load, 0, f_Load_add, f_Load_contains, f_Load_eq, f_Load_getitem, f_Load_init, 0, f_Load_len, f_Load_str, f_Load_sub, 0, 0].getD i 0) sm F_l_built_right L m_len m_str G_Load_add b_Load_add G_Load_eq b_Load_eq G_Load_init b_Load_init G_Load_len b_Load_len G_Load_str b_Load_str
  have G_l_rows := ok_l_rows (P := l.prog) (w := w) (mg := mg) (base := base) sm F_l_rows m_int m_range m_sorted m_tuple G_l_draw g_l_draw F_l_draw b_l_draw
  have G_l_few := ok_l_few (P := l.prog) (w := w) (mg := mg) (base := base) (ad := fun i => [c_BadLoad, c_NoPlace, c_Missing, c_TooMuch, c_PathError, c_Load, 0, f_Load_add, f_Load_contains, f_Load_eq, f_Load_getitem, f_Load_init, 0, f_Load_len, f_Load_str, f_Load_sub, 0, 0].getD i 0) sm F_l_few L m_tuple G_Load_init b_Load_init G_l_rows g_l_rows F_l_rows b_l_rows
  have G_Load_sub := ok_Load_sub (P := l.prog) (w := w) (mg := mg) (base := base) (ad := fun i => [c_BadLoad, c_NoPlace, c_Missing, c_TooMuch, c_PathError, c_Load, 0, f_Load_add, f_Load_contains, f_Load_eq, f_Load_getitem, f_Load_init, 0, f_Load_len, f_Load_str, f_Load_sub, 0, 0].getD i 0) sm F_Load_sub L m_isinstance m_tuple G_Load_getitem b_Load_getitem G_Load_init b_Load_init
  have G_l_can_take := ok_l_can_take (P := l.prog) (w := w) (mg := mg) (base := base) (ad := fun i => [c_BadLoad, c_NoPlace, c_Missing, c_TooMuch, c_PathError, c_Load, 0, f_Load_add, f_Load_contains, f_Load_eq, f_Load_getitem, f_Load_init, 0, f_Load_len, f_Load_str, f_Load_sub, 0, 0].getD i 0) sm F_l_can_take L G_Load_add b_Load_add G_Load_eq b_Load_eq G_Load_getitem b_Load_getitem G_Load_sub b_Load_sub
  have G_l_parts_right := ok_l_parts_right (P := l.prog) (w := w) (mg := mg) (base := base) (ad := fun i => [c_BadLoad, c_NoPlace, c_Missing, c_TooMuch, c_PathError, c_Load, 0, f_Load_add, f_Load_contains, f_Load_eq, f_Load_getitem, f_Load_init, 0, f_Load_len, f_Load_str, f_Load_sub, 0, 0].getD i 0) sm F_l_parts_right L m_str G_Load_contains b_Load_contains G_Load_eq b_Load_eq G_Load_str b_Load_str G_Load_sub b_Load_sub G_l_can_take g_l_can_take F_l_can_take b_l_can_take
  have G_l_sums_right := ok_l_sums_right (P := l.prog) (w := w) (mg := mg) (base := base) (ad := fun i => [c_BadLoad, c_NoPlace, c_Missing, c_TooMuch, c_PathError, c_Load, 0, f_Load_add, f_Load_contains, f_Load_eq, f_Load_getitem, f_Load_init, 0, f_Load_len, f_Load_str, f_Load_sub, 0, 0].getD i 0) sm F_l_sums_right L m_len G_Load_add b_Load_add G_Load_contains b_Load_contains G_Load_eq b_Load_eq G_Load_getitem b_Load_getitem G_Load_init b_Load_init G_Load_len b_Load_len G_Load_sub b_Load_sub
  exact ok_law (ad := fun i => [c_BadLoad, c_NoPlace, c_Missing, c_TooMuch, c_PathError, c_Load, 0, f_Load_add, f_Load_contains, f_Load_eq, f_Load_getitem, f_Load_init, 0, f_Load_len, f_Load_str, f_Load_sub, 0, 0].getD i 0) sm F_law L m_range m_tuple G_Load_contains b_Load_contains G_Load_init b_Load_init G_l_built_right g_l_built_right F_l_built_right b_l_built_right G_l_draw g_l_draw F_l_draw b_l_draw G_l_few g_l_few F_l_few b_l_few G_l_parts_right g_l_parts_right F_l_parts_right b_l_parts_right G_l_sums_right g_l_sums_right F_l_sums_right b_l_sums_right G_l_deck g_l_deck F_l_deck b_l_deck law_ok
end Wp.K33
namespace Wp.Hd
open PySem PySem.W
/-- the names that the top binds, the law apart -/
def names : List PySem.Str := ((["LIMIT", "MAX_PLACE", "MAX_ROWS", "__name__", "is_number", "is_number_within", "is_place", "is_tuple_of", "ascends", "PathError", "BadLoad", "TooMuch", "Missing", "NoPlace", "Load", "are_rows", "is_load_row", "_law_deck", "_law_draw", "_law_rows", "_law_few", "_law_can_take", "_law_sums_right", "_law_parts_right", "_law_built_right"] : List PySem.Str))
abbrev R : OpenRow := OpenLaw.row PySem.Challenge.rw_canpath_k33_whole_loads
abbrev qv : Program := view R.prog [28]
end Wp.Hd
open PySem PySem.W PyProof.Rows
local macro_rules
  | `(tactic| o_head $H:term) => `(tactic| exact (fun _ : Hook => by assumption) $H)
set_option maxHeartbeats 0 in
/-- makes the constant of the frag: Wp.Hd.mk.heap_1 -/
theorem Wp.Hd.mk : Wp.Hd.R.Holds → Wp.Hd.R.Holds := by
  intro h
  k_head
namespace Wp.Hd
open PySem PySem.W PySem.Calls PyProof.Rows
def as : List Addr := ([2, 3, 15, 17, 18, 20, 21, 22, 24, 25, 27, 28, 29, 31, 32, 34, 35, 36, 38, 39, 41, 42, 43, 46, 47, 48, 55, 56, 57, 58, 61, 68, 70, 71, 73, 74, 75, 76, 77, 80, 87, 88, 89, 92, 99, 101, 102, 104, 105, 106, 107, 108, 111, 118, 120, 121, 123, 124, 125, 126] : List Addr) ++ ([127, 128, 138, 141, 142, 143, 146, 147, 148, 150, 151, 153, 154, 155, 158, 159, 160, 163, 164, 165, 168, 169, 170, 172, 173, 175, 176, 177, 180, 181, 182, 184, 185, 187, 188, 189, 190, 191, 192, 193, 196, 199, 200, 201, 203, 204, 206, 207, 208, 211, 212, 213, 215, 216, 218, 219, 220, 223, 224, 225] : List Addr) ++ ([228, 229, 230, 232, 233, 235, 236, 237, 240, 241, 242, 244, 245, 247, 248, 249, 252, 253, 254, 257, 258] : List Addr)
theorem ase : ∀ P : Params, as = (mk.heap_1 P).map (·.1) := fun _ => by kernel_rfl
set_option maxHeartbeats 0 in
theorem run_1 (w : World) : Wp.RunK R qv mk.heap_1 as ase 7400 names w := by intro os; kernel_rfl
end Wp.Hd
set_option maxHeartbeats 0 in
theorem PySem.Challenge.cw_canpath_k33_whole_loads_holds : PySem.Challenge.rw_canpath_k33_whole_loads.Holds := by
  w_on; o_law
  refine Wp.head_k (r := Wp.Hd.R) (q := Wp.Hd.qv) (H := kHook Wp.Hd.mk.heap_1 Wp.Hd.as Wp.Hd.ase) (d := HandSHeadRun.topDef Wp.Hd.R.prog 28) (kwd := []) 7400 Wp.Hd.names rfl (by kernel_rfl) (fun s => by kernel_rfl) Wp.Hd.run_1 (by kernel_rfl) (by kernel_rfl) (by kernel_rfl) (by rfl) (by first | assumption | decide +kernel) (by decide +kernel) ⟨rfl, rfl, rfl, rfl, rfl, by decide +kernel⟩ ?_ ?_
  · w_witness2
  k_fill
  refine Wp.walkM (l := PySem.Challenge.rw_canpath_k33_whole_loads) (n := 63) (k := 11) (x := "_law_script") (sp := Wp.spLaw) rfl (by decide) rfl rfl ⟨rfl, by decide, by decide⟩ (fun w h Y => PySem.W.kIn_of Y) ?F (fun K H a ns hl hS => ⟨a, ns, rfl, hS, hl, fun _ => rfl⟩)
  case F =>
    intro w mg fa h KX G hmg
    refine' Wp.K33.all_mk KX G hmg ?a_BadLoad ?a_NoPlace ?a_Missing ?a_TooMuch ?a_PathError ?a_Load ?w_BadLoad ?v_BadLoad ?sa_BadLoad ?be_BadLoad ?ty_BadLoad ?kc_BadLoad ?a_BadLoad_init ?t_BadLoad_init ?l_BadLoad_init ?c_BadLoad_init ?k_BadLoad_init ?nf_value_BadLoad ?q1_NoPlace ?q2_NoPlace ?hd_NoPlace ?sa_NoPlace ?be_NoPlace ?ty_NoPlace ?kc_NoPlace ?a_NoPlace_init ?t_NoPlace_init ?l_NoPlace_init ?c_NoPlace_init ?k_NoPlace_init ?nf_value_NoPlace ?w_Missing ?v_Missing ?sa_Missing ?be_Missing ?ty_Missing ?kc_Missing ?a_Missing_init ?t_Missing_init ?l_Missing_init ?c_Missing_init ?k_Missing_init ?nf_place_Missing ?be_TooMuch ?ty_TooMuch ?kc_TooMuch ?q1_TooMuch ?a_l_deck ?l_l_deck ?c_l_deck ?k_l_deck ?a_l_draw ?l_l_draw ?c_l_draw ?k_l_draw ?a_is_number ?l_is_number ?c_is_number ?k_is_number ?a_is_number_within ?l_is_number_within ?c_is_number_within ?k_is_number_within ?a_is_place ?l_is_place ?c_is_place ?k_is_place ?a_Load_getitem ?fn_Load_getitem ?l_Load_getitem ?c_Load_getitem ?k_Load_getitem ?a_Load_contains ?fn_Load_contains ?l_Load_contains ?c_Load_contains ?k_Load_contains ?a_ascends ?l_ascends ?c_ascends ?k_ascends ?a_is_tuple_of ?l_is_tuple_of ?c_is_tuple_of ?k_is_tuple_of ?a_is_load_row ?l_is_load_row ?c_is_load_row ?k_is_load_row ?a_are_rows ?l_are_rows ?c_are_rows ?k_are_rows ?a_Load_init ?fn_Load_init ?l_Load_init ?c_Load_init ?k_Load_init ?a_Load_add ?fn_Load_add ?l_Load_add ?c_Load_add ?k_Load_add ?a_Load_eq ?fn_Load_eq ?l_Load_eq ?c_Load_eq ?k_Load_eq ?a_Load_len ?fn_Load_len ?l_Load_len ?c_Load_len ?k_Load_len ?a_Load_str ?fn_Load_str ?l_Load_str ?c_Load_str ?k_Load_str ?a_l_built_right ?l_l_built_right ?c_l_built_right ?k_l_built_right ?a_l_rows ?l_l_rows ?c_l_rows ?k_l_rows ?a_l_few ?l_l_few ?c_l_few ?k_l_few ?a_Load_sub ?fn_Load_sub ?l_Load_sub ?c_Load_sub ?k_Load_sub ?a_l_can_take ?l_l_can_take ?c_l_can_take ?k_l_can_take ?a_l_parts_right ?l_l_parts_right ?c_l_parts_right ?k_l_parts_right ?a_l_sums_right ?l_l_sums_right ?c_l_sums_right ?k_l_sums_right ?a_law ?l_law ?c_law ?k_law ?z_abs ?z_all ?z_any ?z_bool ?z_int ?z_isinstance ?z_len ?z_range ?z_set ?z_sorted ?z_str ?z_sum ?z_tuple ?z_zip ?z_LIMIT ?z_MAX_PLACE ?z_MAX_ROWS ?na_Load_rows ?pg_Load ?hd_Load ?po_Load ?sa_Load ?mks_Load ?kc_Load ?fi_Load_getitem ?hc_Load ?mo_Load ?hn_cls ?ht_cls ?io_Load_Load ?na_Load_total ?nf_Load ?sf_Load ?ex_Missing_BadLoad ?ex_Missing_NoPlace ?ex_Missing_Missing ?ex_Missing_TooMuch ?ga_BadLoad ?gg_BadLoad ?hd_BadLoad ?ga_NoPlace ?gg_NoPlace ?ga_Missing ?gg_Missing ?hd_Missing ?ga_TooMuch ?gg_TooMuch ?hd_TooMuch ?nf_place_BadLoad ?nf_place_NoPlace ?nf_place_TooMuch ?nn_Load
    (case a_BadLoad => k_is)
    (case a_NoPlace => k_is)
    (case a_Missing => k_is)
    (case a_TooMuch => k_is)
    (case a_PathError => k_is)
    (case a_Load => k_is)
    (case w_BadLoad => k_is)
    (case v_BadLoad => rfl)
    (case sa_BadLoad => k_is)
    (case be_BadLoad => k_is)
    (case ty_BadLoad => k_is)
    (case kc_BadLoad => k_is)
    (case a_BadLoad_init => k_is)
    (case t_BadLoad_init => k_is)
    (case l_BadLoad_init => k_is)
    (case c_BadLoad_init => k_is)
    (case k_BadLoad_init => k_is)
    (case nf_value_BadLoad => k_is)
    (case q1_NoPlace => kx_is)
    (case q2_NoPlace => kx_is)
    (case hd_NoPlace => k_is)
    (case sa_NoPlace => k_is)
    (case be_NoPlace => k_is)
    (case ty_NoPlace => k_is)
    (case kc_NoPlace => k_is)
    (case a_NoPlace_init => k_is)
    (case t_NoPlace_init => k_is)
    (case l_NoPlace_init => k_is)
    (case c_NoPlace_init => k_is)
    (case k_NoPlace_init => k_is)
    (case nf_value_NoPlace => k_is)
    (case w_Missing => k_is)
    (case v_Missing => rfl)
    (case sa_Missing => k_is)
    (case be_Missing => k_is)
    (case ty_Missing => k_is)
    (case kc_Missing => k_is)
    (case a_Missing_init => k_is)
    (case t_Missing_init => k_is)
    (case l_Missing_init => k_is)
    (case c_Missing_init => k_is)
    (case k_Missing_init => k_is)
    (case nf_place_Missing => k_is)
    (case be_TooMuch => k_is)
    (case ty_TooMuch => k_is)
    (case kc_TooMuch => k_is)
    (case q1_TooMuch => k_exc)
    (case a_l_deck => k_is)
    (case l_l_deck => k_is)
    (case c_l_deck => k_is)
    (case k_l_deck => k_is)
    (case a_l_draw => k_is)
    (case l_l_draw => k_is)
    (case c_l_draw => k_is)
    (case k_l_draw => k_is)
    (case a_is_number => k_is)
    (case l_is_number => k_is)
    (case c_is_number => k_is)
    (case k_is_number => k_is)
    (case a_is_number_within => k_is)
    (case l_is_number_within => k_is)
    (case c_is_number_within => k_is)
    (case k_is_number_within => k_is)
    (case a_is_place => k_is)
    (case l_is_place => k_is)
    (case c_is_place => k_is)
    (case k_is_place => k_is)
    (case a_Load_getitem => k_is)
    (case fn_Load_getitem => k_is)
    (case l_Load_getitem => k_is)
    (case c_Load_getitem => k_is)
    (case k_Load_getitem => k_is)
    (case a_Load_contains => k_is)
    (case fn_Load_contains => k_is)
    (case l_Load_contains => k_is)
    (case c_Load_contains => k_is)
    (case k_Load_contains => k_is)
    (case a_ascends => k_is)
    (case l_ascends => k_is)
    (case c_ascends => k_is)
    (case k_ascends => k_is)
    (case a_is_tuple_of => k_is)
    (case l_is_tuple_of => k_is)
    (case c_is_tuple_of => k_is)
    (case k_is_tuple_of => k_is)
    (case a_is_load_row => k_is)
    (case l_is_load_row => k_is)
    (case c_is_load_row => k_is)
    (case k_is_load_row => k_is)
    (case a_are_rows => k_is)
    (case l_are_rows => k_is)
    (case c_are_rows => k_is)
    (case k_are_rows => k_is)
    (case a_Load_init => k_is)
    (case fn_Load_init => k_is)
    (case l_Load_init => k_is)
    (case c_Load_init => k_is)
    (case k_Load_init => k_is)
    (case a_Load_add => k_is)
    (case fn_Load_add => k_is)
    (case l_Load_add => k_is)
    (case c_Load_add => k_is)
    (case k_Load_add => k_is)
    (case a_Load_eq => k_is)
    (case fn_Load_eq => k_is)
    (case l_Load_eq => k_is)
    (case c_Load_eq => k_is)
    (case k_Load_eq => k_is)
    (case a_Load_len => k_is)
    (case fn_Load_len => k_is)
    (case l_Load_len => k_is)
    (case c_Load_len => k_is)
    (case k_Load_len => k_is)
    (case a_Load_str => k_is)
    (case fn_Load_str => k_is)
    (case l_Load_str => k_is)
    (case c_Load_str => k_is)
    (case k_Load_str => k_is)
    (case a_l_built_right => k_is)
    (case l_l_built_right => k_is)
    (case c_l_built_right => k_is)
    (case k_l_built_right => k_is)
    (case a_l_rows => k_is)
    (case l_l_rows => k_is)
    (case c_l_rows => k_is)
    (case k_l_rows => k_is)
    (case a_l_few => k_is)
    (case l_l_few => k_is)
    (case c_l_few => k_is)
    (case k_l_few => k_is)
    (case a_Load_sub => k_is)
    (case fn_Load_sub => k_is)
    (case l_Load_sub => k_is)
    (case c_Load_sub => k_is)
    (case k_Load_sub => k_is)
    (case a_l_can_take => k_is)
    (case l_l_can_take => k_is)
    (case c_l_can_take => k_is)
    (case k_l_can_take => k_is)
    (case a_l_parts_right => k_is)
    (case l_l_parts_right => k_is)
    (case c_l_parts_right => k_is)
    (case k_l_parts_right => k_is)
    (case a_l_sums_right => k_is)
    (case l_l_sums_right => k_is)
    (case c_l_sums_right => k_is)
    (case k_l_sums_right => k_is)
    (case a_law => k_is)
    (case l_law => k_is)
    (case c_law => k_is)
    (case k_law => k_is)
    (case z_abs => k_is)
    (case z_all => k_is)
    (case z_any => k_is)
    (case z_bool => k_is)
    (case z_int => k_is)
    (case z_isinstance => k_is)
    (case z_len => k_is)
    (case z_range => k_is)
    (case z_set => k_is)
    (case z_sorted => k_is)
    (case z_str => k_is)
    (case z_sum => k_is)
    (case z_tuple => k_is)
    (case z_zip => k_is)
    (case z_LIMIT => k_is)
    (case z_MAX_PLACE => k_is)
    (case z_MAX_ROWS => k_is)
    (case na_Load_rows => k_is)
    (case pg_Load => k_is)
    (case hd_Load => k_is)
    (case po_Load => k_is)
    (case sa_Load => k_is)
    (case mks_Load => k_is)
    (case kc_Load => k_is)
    (case fi_Load_getitem => k_is)
    (case hc_Load => k_is)
    (case mo_Load => k_is)
    (case hn_cls => k_is)
    (case ht_cls => k_is)
    (case io_Load_Load => kit_is)
    (case na_Load_total => k_is)
    (case nf_Load => k_is)
    (case sf_Load => k_is)
    (case ex_Missing_BadLoad => kts_exm)
    (case ex_Missing_NoPlace => kts_exm)
    (case ex_Missing_Missing => kts_exm)
    (case ex_Missing_TooMuch => kts_exm)
    (case ga_BadLoad => k_is)
    (case gg_BadLoad => k_is)
    (case hd_BadLoad => k_is)
    (case ga_NoPlace => k_is)
    (case gg_NoPlace => k_is)
    (case ga_Missing => k_is)
    (case gg_Missing => k_is)
    (case hd_Missing => k_is)
    (case ga_TooMuch => k_is)
    (case gg_TooMuch => k_is)
    (case hd_TooMuch => k_is)
    (case nf_place_BadLoad => k_is)
    (case nf_place_NoPlace => k_is)
    (case nf_place_TooMuch => k_is)
    (case nn_Load => k_is)
