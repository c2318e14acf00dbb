import PyProof.Rows.All
import Wide.All
import OpenK.AllK
import Wide.FinOn
import HandS.ForMost
import HandS.Strs
import HandS.SetFor
import HandS.More
import PyProof.ReprRoads
import HandS.TupAny
import HandS.Walk
import HandS.Evl
import KE.KDictPairs
import HandS.IsInst
import HandS.Flt
import KE.KRevSl
import HandS.Style
import KE.GoesEnum
import PyProof.Rows.IntBool
import PyProof.StrLawsRepr
import PyProof.Rows.ReprOcc
import KE.KDictKeyed
import KE.SortData
import KE.DataCmp
import KE.DataEq
import HandS.SortInts
import HandS.Zip
import HandS.NoneIn
import KE.KDictZip
import KE.KItemsList
import HandS.ListItems
import HandS.FStr
import HandS.Text
import HandS.Codes
import HandS.ExcInit
import HandS.ExcField
import HandS.ExcOwn
import HandS.WordsExc
import KE.KExcIs
import HandS.ExcIs
import KE.DataFind
import KE.RegKIsAll
import KE.RegKTryMore
import PySem.Challenge.RW_canpath_k46_bounds
set_option Elab.async false
set_option linter.all false
set_option maxRecDepth 100000
set_option maxHeartbeats 8000000
namespace Cn
open PySem PySem.Spec PyProof.Rows L2

/-! ### the length of what repr shows -/
mutual
/-- small data: numbers below 10^40, short plain texts, no dicts -/
def sm : PyData → Bool
  | .none => true
  | .bool _ => true
  | .int i => decide (i.natAbs < 10 ^ 40)
  | .str x => decide ((reprText x).length ≤ 100)
  | .list xs => smAll xs
  | .tuple xs => smAll xs
  | .dict _ => false
def smAll : List PyData → Bool
  | [] => true
  | x :: xs => sm x && smAll xs
end
mutual
def wt : PyData → Nat
  | .none => 100
  | .bool _ => 100
  | .int _ => 100
  | .str _ => 100
  | .list xs => wtAll xs + 3
  | .tuple xs => wtAll xs + 3
  | .dict _ => 0
def wtAll : List PyData → Nat
  | [] => 0
  | x :: xs => (wt x + 2) + wtAll xs
end
mutual
def dp : PyData → Nat
  | .list xs => dpAll xs + 1
  | .tuple xs => dpAll xs + 1
  | _ => 0
def dpAll : List PyData → Nat
  | [] => 0
  | x :: xs => max (dp x) (dpAll xs)
end
theorem listText_le (ts : List Str) : (listText ts).length ≤ piled ts + 3 := by
  cases ts with
  | nil => decide
  | cons t r =>
    have h := textFrom_length_pos r 1 (("[" : Str) ++ (if (0 : Nat) > 0 then ", " else "" : String) ++ t) (Nat.succ_pos 0)
    have e1 : (listText (t :: r)).length = (textFrom 1 (("[" : Str) ++ (if (0 : Nat) > 0 then ", " else "" : String) ++ t) r).length + 1 := by
      show (textFrom 1 _ r ++ "]").length = _
      rw [strLen_append]; rfl
    have e2 : ((("[" : Str) ++ (if (0 : Nat) > 0 then ", " else "" : String) ++ t)).length = 1 + t.length := by
      rw [strLen_append, strLen_append]; rfl
    rw [e1, h, e2, piled_cons]; omega
theorem tupleText_le (ts : List Str) : (tupleText ts).length ≤ piled ts + 3 := by
  unfold tupleText
  rw [strLen_append, strLen_append]
  have cl : (((if ts.length == 1 then ",)" else ")" : String) : Str)).length ≤ 2 := by split <;> decide
  rw [show (("(" : String) : Str).length = 1 from rfl]
  by_cases h : ts = []
  · subst h
    show 1 + 0 + _ ≤ _
    omega
  · have := join_length_add ts h
    omega
mutual
theorem sm_show : ∀ d : PyData, sm d = true → d.showable = true ∧ d.hasDict = false ∧ d.shown.length ≤ wt d
  | .none, _ => ⟨rfl, rfl, by simp only [PyData.shown, wt]; decide⟩
  | .bool b, _ => ⟨rfl, rfl, by simp only [PyData.shown, wt]; cases b <;> decide⟩
  | .int i, h => by
    have h1 : i.natAbs < 10 ^ 40 := by simpa only [sm, decide_eq_true_eq] using h
    have h2 : i.natAbs < 2 ^ 1920 := Nat.lt_of_lt_of_le h1 (by decide +kernel)
    refine ⟨?_, rfl, ?_⟩
    · simp only [PyData.showable, decide_eq_true_eq]
      by_cases h0 : i.natAbs = 0
      · rw [h0]; decide
      · exact (Nat.log2_lt h0).2 h2
    · have := int_text_length_le10 (a := i) (k := 40) (by decide) h1
      simp only [PyData.shown, wt]
      rw [PySem.ofString_length]
      omega
  | .str x, h => by
    have h1 : (reprText x).length ≤ 100 := by simpa only [sm, decide_eq_true_eq] using h
    exact ⟨rfl, rfl, by simp only [PyData.shown, wt]; exact h1⟩
  | .list xs, h => by
    obtain ⟨a, b, c⟩ := sm_showAll xs (by simpa only [sm] using h)
    refine ⟨by simpa only [PyData.showable] using a, by simpa only [PyData.hasDict] using b, ?_⟩
    have := listText_le (PyData.shownAll xs)
    simp only [PyData.shown, wt]
    omega
  | .tuple xs, h => by
    obtain ⟨a, b, c⟩ := sm_showAll xs (by simpa only [sm] using h)
    refine ⟨by simpa only [PyData.showable] using a, by simpa only [PyData.hasDict] using b, ?_⟩
    have := tupleText_le (PyData.shownAll xs)
    simp only [PyData.shown, wt]
    omega
  | .dict _, h => by simp [sm] at h
theorem sm_showAll : ∀ ds : List PyData, smAll ds = true → PyData.showableAll ds = true ∧ PyData.hasDictAll ds = false ∧ piled (PyData.shownAll ds) ≤ wtAll ds
  | [], _ => ⟨rfl, rfl, by simp only [PyData.shownAll, wtAll]; exact Nat.le_refl _⟩
  | x :: xs, h => by
    simp only [smAll, Bool.and_eq_true] at h
    obtain ⟨a, b, c⟩ := sm_show x h.1
    obtain ⟨a', b', c'⟩ := sm_showAll xs h.2
    refine ⟨by simp only [PyData.showableAll, a, a', Bool.and_self], by simp only [PyData.hasDictAll, b, b', Bool.or_self], ?_⟩
    simp only [PyData.shownAll, wtAll]
    rw [piled_cons]; omega
end
mutual
theorem dp_depth : ∀ d : PyData, sm d = true → d.depth = dp d
  | .none, _ => by simp only [PyData.depth, dp]
  | .bool _, _ => by simp only [PyData.depth, dp]
  | .int _, _ => by simp only [PyData.depth, dp]
  | .str _, _ => by simp only [PyData.depth, dp]
  | .list xs, h => by
    have := dp_depthAll xs (by simpa only [sm] using h)
    simp only [PyData.depth, dp]; omega
  | .tuple xs, h => by
    have := dp_depthAll xs (by simpa only [sm] using h)
    simp only [PyData.depth, dp]; omega
  | .dict _, h => by simp [sm] at h
theorem dp_depthAll : ∀ ds : List PyData, smAll ds = true → PyData.depthAll ds = dpAll ds
  | [], _ => by simp only [PyData.depthAll, dpAll]
  | x :: xs, h => by
    simp only [smAll, Bool.and_eq_true] at h
    have h1 := dp_depth x h.1
    have h2 := dp_depthAll xs h.2
    simp only [PyData.depthAll, dpAll, h1, h2]
end

/-! ### repr of data -/
section
variable {X : Cx}
def rRepr (K : PySem.W.Frag) : List V → Hp → VK → Prop := fun xs H Q => ∃ v d, xs = [v] ∧ Dp K H v d ∧ sm d = true ∧ wt d ≤ 1000000 ∧ dp d ≤ 50 ∧ Q (.str d.shown) H
theorem call_repr (hg : X.A.guards = some []) (hu : X.A.units + 64 < cLine) : CallR X (.builtin "repr") (rRepr X.K) := by
  intro pins s σ H xs us Q I r h
  obtain ⟨v, d, rfl, hd, hs, hw, hp, q⟩ := h
  obtain ⟨u, rfl, ru⟩ := vals1 r
  obtain ⟨as, rd⟩ := Dp.reads I d v u hd ru
  obtain ⟨s1, s2, s3⟩ := sm_show d hs
  have hz : d.shown.length ≤ sizeLine := Nat.le_trans (Nat.le_trans s3 hw) (by decide)
  have hdd : d.depth ≤ 50 := by rw [dp_depth d hs]; exact hp
  have leaf : ∀ {h' : Heap} {t u : Nat}, (∀ b o, s.heap.get? b = some o → h'.get? b = some o) → EP X pins σ Q (.str d.shown u) { s with heap := h', toks := t } :=
    fun k => ⟨.str _, H, I.kept k, ⟨_, rfl⟩, q⟩
  cases hd with
  | non =>
    cases ru
    simp only [PyData.shown] at leaf
    exact PySem.P.repr_of_none (leaf fun _ _ e => e)
  | bl b =>
    cases ru
    simp only [PyData.shown] at leaf
    exact PySem.P.repr_of_bool (leaf fun _ _ e => e)
  | int i =>
    obtain ⟨t, rfl⟩ := ru
    simp only [PyData.shown] at leaf
    exact PySem.P.repr_of_int (by simpa only [PyData.showable, decide_eq_true_eq] using s1) (leaf fun _ _ e => e)
  | str x =>
    obtain ⟨t, rfl⟩ := ru
    simp only [PyData.shown] at leaf hz
    exact PySem.P.repr_of_str (leaf fun _ _ e => e) hz
  | lst a b =>
    cases ru
    exact repr_of_reads' rd s1 (fun e => by rw [s2] at e; cases e) hg (by omega) (fun _ _ e => e) (fun h' u tk k => leaf k) hz
  | tup a b =>
    cases ru
    exact repr_of_reads' rd s1 (fun e => by rw [s2] at e; cases e) hg (by omega) (fun _ _ e => e) (fun h' u tk k => leaf k) hz
end
end Cn

namespace Cn
open PySem PySem.Spec PyProof.Rows L2

/-! ### defs that are called where no repr is under way -/
structure FnG (P : Program) (w : World) (K : PySem.W.Frag) (mg : Str → Option Value) (base : Heap) (k : Nat) (f : Addr) (fd : FuncData) (ps : List Str) (sp : Sp) : Prop where
  len : ∀ vs H Q E, sp vs H Q E → vs.length = ps.length
  run : ∀ (A : Around) (out : List Env) (s : Shared) (H : Hp) (args : Args) (us : List Value) (vs : List V) (Q : VK) (E : XK), A.guards = some [] → Room k A → Env0 P w K mg base A out s H →
    BindsTo s fd args (ps.zip us) → Vals vs us → sp vs H Q E → codeAny (model P w) A (.call (.ref f) args) (CR CX0 out P w H s Q E) s
section
variable {P : Program} {w : World} {K : PySem.W.Frag} {mg : Str → Option Value} {base : Heap}
theorem FnG.of {k : Nat} {f : Addr} {fd : FuncData} {ps : List Str} {sp : Sp} (F : FnOk P w K mg base CX0 k f fd ps sp) : FnG P w K mg base k f fd ps sp :=
  ⟨F.len, fun A out s H args us vs Q E _ => F.run A out s H args us vs Q E⟩
theorem okG {x qual : Str} {st : Stmt} {f : Addr} {fd : FuncData} {N ps : List Str} {k : Nat} {sp : Sp} (F : Fun K x qual st f fd) (S : FnScope N ps (defScope st)) (len : ∀ vs H Q E, sp vs H Q E → vs.length = ps.length)
    (body : ∀ (cdv : Value) (A : Around) (out : List Env) (s : Shared) (H : Hp) (vs : List V) (Q : VK) (E : XK), A.guards = some [] → Room k (A.deeper (envOfC qual (defScope st) s.heap.objs.size f cdv)) → sp vs H Q E →
      ∃ t, PSs (cxOf CX0 P w K mg base N qual (defScope st) f cdv A out s H E).nox (defBody st) t ∧ t { nx := fun _ H' => Q .non H', rt := Q } (start N vs) H) : FnG P w K mg base (k + 1) f fd ps sp := by
  obtain ⟨oc, od, kV, doc, pm, an, cdv, ct, osl, rfl, lk, code⟩ := F.ex
  refine ⟨len, fun A out s H args us vs Q E gd room e0 bd rel pr => ?_⟩
  have inK : K.In s.heap := e0.mod.kin.keeps fun b o e => (e0.bs b o e).1
  have par : ∀ y ∈ ps.zip us, (defScope st).names.lookup y.1 = some .local ∨ ((defScope st).names.lookup y.1 = some .cell ∧ ((cellsFrom (s.heap.objs.size + 1) (defScope st).names []).lookup y.1).isSome = true) := by
    intro y hy
    refine (S.par y.1 (List.of_mem_zip (show (y.1, y.2) ∈ ps.zip us from hy)).1).imp id fun c => ⟨c, PySem.W.cellsFrom_some _ _ _ (.inl c)⟩
  refine codeAny_call_function room.depth (inK _ _ lk) rfl S.co S.gen rfl (PySem.W.codeRec_of inK code) (bd _ _ _ _ (wpAny_newFunctionEnv_cells S.kind par ?_))
  rintro _ rfl s1 new
  refine ⟨(e0.mod.nolimit.keeps fun b o e => (e0.bs b o e).1).keeps new.toInCall.keep, codeAny_func ?_⟩
  obtain ⟨t, ht, q⟩ := body cdv A out s H vs Q E gd (room.deeper _) pr
  refine wpAny_mono (ht.nox.run [] s1 (start N vs) H _ (inv_start S room.hd e0 (len _ _ _ _ pr) rel new) q) ?_ fun _ _ z => z
  rintro (_ | _ | _ | u) s' z
  case next =>
    obtain ⟨_, H', J, z⟩ := z
    exact ⟨V.non, H', J.os, J.bare, J.base, J.hok, rfl, z⟩
  case ret =>
    obtain ⟨v, _, H', J, rv, z⟩ := z
    exact ⟨v, H', J.os, J.bare, J.base, J.hok, rv, z⟩
  all_goals
    obtain ⟨_, _, _, z⟩ := z
    exact z.elim
end
section
variable {X : Cx} {k : Nat} {f : Addr} {fd : FuncData} {ps : List Str} {sp : Sp} {x : Str} {p pos : Pos} {e : Expr} {es : List Expr} {t : TA}
theorem pe_callG (F : FnG X.prog X.w X.K X.mg X.base k f fd ps sp) (gd : X.A.guards = some []) (room : Room k X.A) (gl : Gl X x) (hm : X.mg x = some (.ref f)) (kp : PySem.W.keepIn X.K (.ref f) = true) (bd : Binds X.K fd ps [])
    (ha : PA X (e :: es) t) (hdb : (x == ("__debug__" : Str)) = false := by decide) (he : starEach (e :: es) X.env = (false, eval e X.env) :: starEach es X.env := by rfl) (hpl : (backTo pos (starEach es X.env)).any (·.1) = false := by rfl) :
    PE X (.Call (.Name x p) (e :: es) [] pos) (tCall sp [] E0 t) := by
  refine ⟨fun pins s σ H Q I h => wpAny_Call_Name_kw (ld_glob I gl hm ?_ hdb)⟩
  refine PySem.W.callWith_K (h₀ := X.base) I.ok.mod.kin kp (thn (ha.run pos pins s σ H _ I h) ?_) he hpl
  rintro us s1 ⟨vs, H1, I1, rel, q⟩
  refine ⟨I1.kIn, ?_⟩
  have q0 : sp (vs ++ []) H1 Q E0 := q
  have rel0 : Vals (vs ++ []) (us ++ []) := rel.append .nil
  have l0 : (us ++ []).length = ps.length := rel0.length.symm.trans (F.len _ _ _ _ q0)
  refine wpAny_call (codeAny_mono (F.run X.A X.stack s1 H1 ⟨us, []⟩ (us ++ []) (vs ++ []) Q E0 gd room I1.env0 (bd s1 us I1.kIn l0) rel0 q0) ?_)
  rintro (_ | _ | _ | _ | u) s' z
  case ok.ret => exact I1.after z
  all_goals exact z.elim
end
end Cn

namespace Cn
open PySem PySem.Spec PyProof.Rows L2
theorem lawG {P : Program} {w : World} {K : PySem.W.Frag} {mg mb : Str → Option Value} {k : Nat} {fa a : Addr} {fd : FuncData} {x : Str} {sp : Sp} {s : Shared} {vs : List Value} {ns : List Int}
    (inK : K.In s.heap) (gl : s.heap.Ns mainGlobals mg) (bt : s.heap.Ns builtinsNs mb) (boot : ∀ x : Str, x ≠ "__name__" → mb x = bootBuiltins x) (lim : s.heap.NoLimit) (gens : s.gens = #[])
    (at_a : s.heap.get? a = some { cls := .type "list", data := .seq vs.toArray }) (nums : IntsAre vs ns) (few : ns.length ≤ sizeLine) (room : Room k callerA)
    (F : ∀ base : Heap, K.In base → base.Ns mainGlobals mg → FnG P w K mg base k fa fd [x] sp) (binds : ∀ (s : Shared) (u : Value), BindsTo s fd ⟨[u], []⟩ [(x, u)])
    (pr : ∀ H : Hp, Only H → SqL K H a (ns.map V.int) → sp [.ref a] H (fun v _ => v = .bl true) fun _ _ _ => False) :
    codeAny (model P w) callerA (.call (.ref fa) ⟨[.ref a], []⟩) (fun r s' => r = .ok (.ret (.bool true)) ∧ OldK s.heap s'.heap ∧ s'.os = s.os ∧ AllBare s'.gens) s := by
  have rel := vals_ints nums
  have main : ∀ H : Hp, Only H → SqL K H a (ns.map V.int) → HOk P w H s.heap → (∀ b, H b ≠ none → b = a ∧ K.lookup a = none) →
      codeAny (model P w) callerA (.call (.ref fa) ⟨[.ref a], []⟩) (fun r s' => r = .ok (.ret (.bool true)) ∧ OldK s.heap s'.heap ∧ s'.os = s.os ∧ AllBare s'.gens) s := by
    intro H only sq hok tr
    have names : ∀ {b : Addr} {m : Str → Option Value}, s.heap.Ns b m → (hidT s.heap H).Ns b m := by
      rintro b m ⟨o, es, ep, e, d, r⟩
      refine ⟨o, es, ep, hidT_get e (Classical.byContradiction fun n => ?_), d, r⟩
      obtain ⟨rfl, _⟩ := tr b n
      have z := at_a.symm.trans e
      injection z with z
      subst z
      exact Data.noConfusion d
    have inB : K.In (hidT s.heap H) := fun b o e => hidT_get (inK b o e) (Classical.byContradiction fun n => by
      obtain ⟨rfl, z⟩ := tr b n
      rw [z] at e
      cases e)
    have e0 : Env0 P w K mg (hidT s.heap H) callerA [] s H := by
      refine ⟨rfl, ⟨inB, names gl, ⟨mb, names bt, boot⟩, ?_⟩, fun b o e => of_hidT e, Nat.le_of_eq (hidT_size _ _), trivial, fun b z => ?_, hok, .of_eq gens⟩
      · obtain ⟨mc, h1, h2⟩ := lim
        exact ⟨mc, names h1, h2⟩
      · simp [frs] at z
    refine codeAny_mono ((F _ inB (names gl)).run callerA [] s H ⟨[.ref a], []⟩ [.ref a] [.ref a] _ _ rfl room e0 (binds s (.ref a)) (.cons rfl .nil) (pr H only sq)) ?_
    rintro (_ | _ | _ | _ | u) s' z
    case ok.ret =>
      obtain ⟨v, H', os, bare, un, hok', ru, rfl⟩ := z
      cases ru
      refine ⟨rfl, OldK.of_keep fun b o e => ?_, os, bare⟩
      rcases only b with n | ⟨ob, xs, fz⟩
      · exact un.keep b o e n (by simp [frs]) (by simp)
      · have o1 : s.heap.get? b = some ob := (hok b _ fz).1
        have o2 : s'.heap.get? b = some ob := (hok' b _ (un.frzs b ob _ fz)).1
        rw [o2, ← o1, e]
    all_goals exact z.elim
  cases lk : K.lookup a with
  | some o =>
    have e := (inK a o lk).symm.trans at_a
    injection e with e
    subst e
    exact main (fun _ => none) (fun _ => .inl rfl) (.inr ⟨_, vs.toArray, _, lk, rfl, rfl, rfl, by rw [List.size_toArray, nums.length]; exact few, by simpa using rel⟩) (fun b u z => nomatch z) (fun b z => absurd rfl z)
  | none =>
    let o : HO := .frz { cls := .type "list", data := .seq vs.toArray } (.lst (ns.map V.int))
    have off : ∀ b, b ≠ a → (upd (fun _ => none) a o) b = none := fun b n => upd_ne n
    refine main (upd (fun _ => none) a o) (fun b => ?_) (.inl (.inr ⟨_, upd_same⟩)) (fun b u z => ?_) (fun b z => ?_)
    · by_cases n : b = a
      · subst n; exact .inr ⟨_, _, upd_same⟩
      · exact .inl (off b n)
    · by_cases n : b = a
      · subst n
        rw [upd_same] at z
        injection z with z
        subst z
        exact ⟨at_a, by rw [List.length_map]; exact few, vs, _, rel, at_a⟩
      · rw [off b n] at z; cases z
    · by_cases n : b = a
      · exact ⟨n, lk⟩
      · exact absurd (off b n) z
/-- the end of a law's proof; the law's def is called with no repr under way -/
theorem walkG {l : PySem.W.OpenLaw} {n k : Nat} {q : Program} {loose : List Str} {XP : (Str → Option Value) → Heap → Prop} {YP : World → Heap → Prop} {d : DefRec} {K : Params → PySem.W.Frag} {sp : PySem.W.Frag → Sp} {x : Str}
    (most : l.most = some n) (few : n ≤ sizeLine) (nodef : d.params.defaults = []) (room : Room k callerA) (hY : ∀ (w : World) (h : Heap), YP w h → (K w.params).In h)
    (F : ∀ (w : World) (mg : Str → Option Value) (fa : Addr) (h : Heap), (K w.params).In h → h.Ns mainGlobals mg → mg d.name = some (.ref fa) →
      ∃ fd : FuncData, (∀ (s : Shared) (u : Value), BindsTo s fd ⟨[u], []⟩ [(x, u)]) ∧ ∀ base : Heap, (K w.params).In base → base.Ns mainGlobals mg → FnG l.prog w (K w.params) mg base k fa fd [x] (sp (K w.params)))
    (pr : ∀ (K : PySem.W.Frag) (H : Hp) (a : Addr) (ns : List Int), ns.length ≤ n → SqL K H a (ns.map V.int) → sp K [.ref a] H (fun v _ => v = .bl true) fun _ _ _ => False) :
    PySem.W.WalkO q loose XP YP l.row.toRowW d [] (fun f vs => PySem.call f vs) := by
  refine Att.attach_call most nodef ?_
  intro w s₀ s mg mb fa o pm cd doc a vs ns G Y _ _ _ named at_a nums len gens
  obtain ⟨fd, bd, go⟩ := F w mg fa _ (hY w _ Y) G.T.g named
  exact lawG (hY w _ Y) G.T.g G.T.b G.T.builtins G.T.nolimit gens at_a nums (Nat.le_trans len few) room go bd fun H _ sq => pr _ H a ns len sq
end Cn

namespace Cn
open PySem PySem.Spec PyProof.Rows L2
/-! ### set(list of ints) -/
abbrev set0 (w : World) : Obj := { cls := .type "set", dict := none, data := .set #[] 0 (.fresh 0 0 (!w.params.followText "set-order")) }
section
variable {P : Program} {w : World} {A : Around} {E : Value → Shared → Prop} {s : Shared}
set_option maxHeartbeats 8000000 in
theorem set_of_list {l : Addr} {items : Array Value} (ns : List Int) {Q : Value → Shared → Prop} (calm : A.handled = none) (isl : s.heap.IsList l items) (nums : IntsAre items.toList ns) (few : ns.length + 1 < scanBound)
    (fin : ∀ (h' : Heap) (tk c : Nat), SetR w h' s.heap.objs.size (fun j => decide (j ∈ ns)) c → c ≤ ns.length → (∀ b o, s.heap.get? b = some o → h'.get? b = some o) → Q (.ref s.heap.objs.size) { s with heap := h', toks := tk }) :
    wpAny (model P w) A (call (.type "set") [.ref l]) Q E s := by
  have size : items.size = ns.length := by rw [← Array.length_toList]; exact nums.length
  obtain ⟨c, tl, mro⟩ := F.called_set.mro
  have m1 := F.called_set.made
  have m2 := F.called_set.sub
  have m3 := F.called_set.notType
  have m4 := F.called_set.canCreate
  have m5 := F.typeCall_set_1 (.ref l)
  refine wpAny_call (codeAny_of_tree (show wpAny _ _ (callAny (.type "set") _) _ _ _ from wpAny_pure ⟨Code.quiet_builtin _ (by decide +kernel), codeAny_builtin F.entry_type_call ?_⟩))
  rw [Around.under_plain (weight_type_call_type "set" [.ref l] []) rfl]
  repeat (any_goals (first | assumption | wp_step))
  refine codeAny_mono (code_set_led1 (.ref l) (E := E) (Q₁ := fun obj t => obj = .ref s.heap.objs.size ∧ t = { s with heap := s.heap.push (set0 w) }) ⟨rfl, rfl⟩) ?_
  rintro (e | fl) s1 z
  · exact z
  cases fl with
  | ret obj =>
    obtain ⟨rfl, rfl⟩ := z
    have here : (s.heap.push (set0 w)).get? s.heap.objs.size = some (set0 w) := Heap.get?_push_size _ rfl
    have typ : Shared.TypeIs { s with heap := s.heap.push (set0 w) } (.ref s.heap.objs.size) "set" := ⟨_, here, rfl⟩
    have i1 := F.called_set.init.lookup
    have i2 := F.called_set.init.bind (.ref s.heap.objs.size)
    repeat (any_goals (first | assumption | wp_step))
    refine codeAny_mono (codeAny_call_builtin (R := wants (fun r t => r = .none ∧ ∃ h' tk c, t = { s with heap := h', toks := tk } ∧ SetR w h' s.heap.objs.size (fun j => decide (j ∈ ns)) c ∧ c ≤ ns.length ∧
      ∀ b o, s.heap.get? b = some o → h'.get? b = some o) E) F.called_set.init.plain F.entry_set_init (check_set_init_1 typ ?_)) ?_
    · obtain ⟨⟨cl, dc, dt, sl⟩, ol, hcl, n, hdt⟩ := isl
      simp only at hcl hdt
      subst hcl; subst hdt
      have ol1 : (s.heap.push (set0 w)).get? l = some { cls := .type "list", dict := dc, data := .seq items n, slots := sl } := Heap.get?_push_of_some _ ol
      have b1 := F.sub_list_set
      have b2 := F.sub_list_frozenset
      have b3 : (Value.type "list" == Value.type "dict") = false := by decide
      have isl1 : (s.heap.push (set0 w)).IsList l items := ⟨_, ol1, rfl, n, rfl⟩
      unfold Builtin.«set.__init__» noKeywords Builtin.Frozenset.updateFrom
      generalize kept : pyIter = PI
      wp_walk
      subst kept
      refine wpAny_pyIter_list isl1 (wpAny_bind (wpAny_runValue ?_))
      have low : l < s.heap.objs.size := Heap.lt_size ol
      have calm3 : A.in1.in1.in1.handled = none := by simp [calm]
      have sz1 : (s.heap.push (set0 w)).objs.size = s.heap.objs.size + 1 := Heap.size_push ..
      have ne1 : l ≠ (s.heap.push (set0 w)).objs.size := by rw [sz1]; exact Nat.ne_of_lt (Nat.lt_succ_of_lt low)
      have out : s.heap.objs.size ∉ [(s.heap.push (set0 w)).objs.size, l] := by
        rw [sz1]
        simp only [List.mem_cons, List.not_mem_nil, or_false, not_or]
        exact ⟨Nat.ne_of_lt (Nat.lt_succ_self _), Nat.ne_of_gt low⟩
      have val : ∀ (i : Nat) (v : Value), items[i]? = some v → ∃ k t, ns[i]? = some k ∧ v = .int k t := by
        intro i v hv
        have hi : i < ns.length := by rw [← size]; exact (Array.getElem?_eq_some_iff.mp hv).1
        obtain ⟨t, e⟩ := nums.int_at i v (by rw [Array.getElem?_toList]; exact hv)
        refine ⟨ns[i], t, List.getElem?_eq_getElem hi, ?_⟩
        rw [e, List.getD_eq_getElem?_getD, List.getElem?_eq_getElem hi] <;> rfl
      refine set_update_ints ((Walks.list calm3 _ l ne1 items).toS) s.heap.objs.size out ns size few val (items.size - 0) 0 _ (by omega) (Nat.zero_le _) ⟨⟨_, Heap.get?_push_size _ rfl, rfl, rfl⟩, (isl1.push _)⟩ ⟨0, Nat.le_refl 0, setR_new_at (Heap.get?_push_of_some _ here)⟩ ?_
      rintro ⟨h', g', d', tk', os'⟩ c' mv le R
      obtain rfl : g' = s.gens := mv.gens
      obtain rfl : d' = s.drawn := mv.drawn
      obtain rfl : os' = s.os := mv.os
      show wpAny _ _ _ _ _ _
      refine wpAny_pure (show wpAny _ _ (ret Value.none) _ _ _ from wpAny_pure ⟨rfl, h', tk', c', rfl, R, by omega, fun b o e => ?_⟩)
      have lb : b < s.heap.objs.size := Heap.lt_size e
      refine mv.heap b o ?_ (Heap.get?_push_of_some _ (Heap.get?_push_of_some _ e))
      rw [sz1]
      simp only [List.mem_cons, List.not_mem_nil, or_false, not_or]
      exact ⟨Nat.ne_of_lt lb, Nat.ne_of_lt (Nat.lt_succ_of_lt lb)⟩
    · rintro (e | fl) t z
      · exact z
      cases fl with
      | ret r =>
        obtain ⟨rfl, h', tk, c', rfl, R, le, k⟩ := z
        repeat (any_goals (first | assumption | wp_step))
        exact fin _ _ _ R le k
      | _ => exact z.elim
  | _ => exact z.elim
end
section
variable {X : Cx}
def rSetL (K : PySem.W.Frag) (w : World) : List V → Hp → VK → Prop := fun xs H Q => ∃ (l : Addr) (ns : List Int), xs = [.ref l] ∧ SqL K H l (ns.map V.int) ∧ ns.length ≤ 1000 ∧
  ∀ p n, H p = none → n ≤ ns.length → Q (.ref p) (upd H p (SetO w p (fun j => decide (j ∈ ns)) n))
theorem cr_setL (hc : X.calm = true) : CallR X (.type "set") (rSetL X.K X.w) := by
  intro pins s σ H xs us Q I r h
  obtain ⟨l, ns, rfl, sq, few, q⟩ := h
  rw [Vals.ref1 r]
  obtain ⟨its, rv, pl, _⟩ := I.list sq
  refine set_of_list ns (I.ok.hd hc) pl.isList (by simpa using ints_of_vals rv) (by unfold scanBound; omega) fun h' tk c R le k => ?_
  exact ⟨.ref _, upd H s.heap.objs.size (SetO X.w s.heap.objs.size (fun j => decide (j ∈ ns)) c), I.laid (t' := tk) k (Nat.le_refl _) (setO_new R), rfl, q _ c (I.hok.fresh (Nat.le_refl _)) le⟩
/-- sorted(set(e)) as one -/
def rSortSet (K : PySem.W.Frag) : List V → Hp → VK → Prop := fun xs H Q => ∃ (l : Addr) (ns : List Int), xs = [.ref l] ∧ SqL K H l (ns.map V.int) ∧ ns.length < 64 ∧
  ∀ (ms : List Int) (p : Addr) (H' : Hp), ms.Pairwise (· < ·) → (∀ k : Int, k ∈ ms ↔ k ∈ ns) → H p = none → (∀ b o, H b = some o → H' b = some o) → H' p = some (.lst (ms.map V.int)) → Q (.ref p) H'
theorem sortset {K : PySem.W.Frag} {w : World} {vs : List V} {H1 : Hp} {Q : VK} (h : rSortSet K vs H1 Q) : rSetL K w vs H1 fun x H2 => rSortedSet w [x] H2 Q := by
  obtain ⟨l, ns, rfl, sq, few, q⟩ := h
  refine ⟨l, ns, rfl, sq, by omega, fun p n np le => ⟨p, _, n, rfl, upd_same, by omega, fun ms p' asc mem len np' => ?_⟩⟩
  have n1 : p' ≠ p := fun z => by rw [z, upd_same] at np'; cases np'
  have np0 := np'
  rw [upd_ne n1] at np0
  refine q ms p' _ asc (fun k => by rw [mem k, decide_eq_true_eq]) np0 (fun b o e => ?_) upd_same
  rw [upd_ne (ne_of_none e np0), upd_ne (ne_of_none e np)]
  exact e
end
end Cn

namespace Cn
open PySem PySem.Spec PyProof.Rows L2 Evl
/-! ### data made of tuples, of lists that are locked, and two dicts -/
def OdD (kvs : List (Key × V)) (ds : List (PyData × PyData)) : Prop := (kvs = [] ∧ ds = []) ∨ (kvs = [(.inr "a", .int 1)] ∧ ds = [(.str "a", .int 1)])
mutual
inductive Tp (H : Hp) : V → PyData → Prop
  | non : Tp H .non .none
  | bl (b : Bool) : Tp H (.bl b) (.bool b)
  | int (i : Int) : Tp H (.int i) (.int i)
  | str (x : Str) : Tp H (.str x) (.str x)
  | tup {a : Addr} {xs : List V} {ds : List PyData} : Rd H a (.tup xs) → TpAll H xs ds → Tp H (.ref a) (.tuple ds)
  | lst {a : Addr} {o : Obj} {xs : List V} {ds : List PyData} : H a = some (.frz o (.lst xs)) → a ≠ sysModules → TpAll H xs ds → Tp H (.ref a) (.list ds)
  | dic {a : Addr} {o : Obj} {kvs : List (Key × V)} {ds : List (PyData × PyData)} : H a = some (.frz o (.dK kvs)) → OdD kvs ds → Tp H (.ref a) (.dict ds)
inductive TpAll (H : Hp) : List V → List PyData → Prop
  | nil : TpAll H [] []
  | cons {v : V} {vs : List V} {d : PyData} {ds : List PyData} : Tp H v d → TpAll H vs ds → TpAll H (v :: vs) (d :: ds)
end
/-- the tuples stay, and what is locked -/
def Tk (H H' : Hp) : Prop := (∀ a xs, Rd H a (.tup xs) → Rd H' a (.tup xs)) ∧ ∀ a o u, H a = some (.frz o u) → H' a = some (.frz o u)
theorem sr {K : PySem.W.Frag} {H : Hp} {a : Addr} {xs : List V} (h : Rd H a (.tup xs)) : SqT K H a xs := .inl h
theorem rd_upd {H : Hp} {a p : Addr} {u o : HO} (h : Rd H a u) (n : a ≠ p) : Rd (upd H p o) a u := by
  rcases h with h | ⟨z, h⟩
  · exact .inl (by rw [upd_ne n]; exact h)
  · exact .inr ⟨z, by rw [upd_ne n]; exact h⟩
theorem rd_ne {H : Hp} {a p : Addr} {xs ys : List V} (h : Rd H a (.tup xs)) (hp : H p = some (.lst ys)) : a ≠ p := by
  rcases h with h | ⟨z, h⟩
  · exact ne_of h hp (by intro z; cases z)
  · exact ne_of h hp (by intro z; cases z)
theorem Tk.refl (H : Hp) : Tk H H := ⟨fun _ _ h => h, fun _ _ _ h => h⟩
theorem Tk.trans {H H1 H2 : Hp} (a : Tk H H1) (b : Tk H1 H2) : Tk H H2 := ⟨fun p xs h => b.1 p xs (a.1 p xs h), fun p o u h => b.2 p o u (a.2 p o u h)⟩
theorem Tk.ex {H H' : Hp} (e : Ex H H') : Tk H H' := ⟨fun a _ h => ex_rd e h, fun a _ _ h => e a _ h⟩
theorem Tk.lst {H : Hp} {p : Addr} {xs ys : List V} (h : H p = some (.lst xs)) : Tk H (upd H p (.lst ys)) :=
  ⟨fun a zs e => rd_upd e (rd_ne e h), fun a o u e => by rw [upd_ne (ne_of e h (by intro z; cases z))]; exact e⟩
mutual
theorem Tp.mono {H H' : Hp} (k : Tk H H') : ∀ {d : PyData} {v : V}, Tp H v d → Tp H' v d
  | _, _, .non => .non
  | _, _, .bl b => .bl b
  | _, _, .int i => .int i
  | _, _, .str x => .str x
  | _, _, .tup h a => .tup (k.1 _ _ h) (TpAll.mono k a)
  | _, _, .lst h n a => .lst (k.2 _ _ _ h) n (TpAll.mono k a)
  | _, _, .dic h r => .dic (k.2 _ _ _ h) r
theorem TpAll.mono {H H' : Hp} (k : Tk H H') : ∀ {ds : List PyData} {vs : List V}, TpAll H vs ds → TpAll H' vs ds
  | _, _, .nil => .nil
  | _, _, .cons a b => .cons (Tp.mono k a) (TpAll.mono k b)
end
mutual
theorem Tp.dp {K : PySem.W.Frag} {H : Hp} : ∀ {d : PyData} {v : V}, Tp H v d → d.hasDict = false → Dp K H v d
  | _, _, .non, _ => .non
  | _, _, .bl b, _ => .bl b
  | _, _, .int i, _ => .int i
  | _, _, .str x, _ => .str x
  | _, _, .tup h a, n => .tup (sr h) (TpAll.dp a (by simpa only [PyData.hasDict] using n))
  | _, _, .lst h _ a, n => .lst (.inl (.inr ⟨_, h⟩)) (TpAll.dp a (by simpa only [PyData.hasDict] using n))
  | _, _, .dic _ _, n => by simp [PyData.hasDict] at n
theorem TpAll.dp {K : PySem.W.Frag} {H : Hp} : ∀ {ds : List PyData} {vs : List V}, TpAll H vs ds → PyData.hasDictAll ds = false → DpAll K H vs ds
  | _, _, .nil, _ => .nil
  | _, _, .cons a b, n => by
    simp only [PyData.hasDictAll, Bool.or_eq_false_iff] at n
    exact .cons (Tp.dp a n.1) (TpAll.dp b n.2)
end
theorem nd_sm {d : PyData} (h : sm d = true) : d.hasDict = false := (sm_show d h).2.1
theorem nd_smAll {ds : List PyData} (h : sm (.list ds) = true) : PyData.hasDictAll ds = false := by
  have := nd_sm h
  simpa only [PyData.hasDict] using this
theorem nd_shaped {d : PyData} (h : SeqAt.shaped d = true) : d.hasDict = false := PyData.hasDict_of_canLay d (SeqAt.canLay_of_shaped h)
theorem nd_shapedL {ds : List PyData} (h : SeqAt.shaped (.list ds) = true) : PyData.hasDictAll ds = false := by
  have := nd_shaped h
  simpa only [PyData.hasDict] using this
section
variable {H H' : Hp}
theorem Tp.int_inv {v : V} {i : Int} (h : Tp H v (.int i)) : v = .int i := by cases h; rfl
theorem Tp.tup_inv {v : V} {ds : List PyData} (h : Tp H v (.tuple ds)) : ∃ a xs, v = .ref a ∧ Rd H a (.tup xs) ∧ TpAll H xs ds := by
  cases h with
  | tup a b => exact ⟨_, _, rfl, a, b⟩
theorem TpAll.length : ∀ {xs : List V} {ds : List PyData}, TpAll H xs ds → xs.length = ds.length
  | _, _, .nil => rfl
  | _, _, .cons _ b => by simp [b.length]
theorem TpAll.get : ∀ {xs : List V} {ds : List PyData} {i : Nat} {d : PyData}, TpAll H xs ds → ds[i]? = some d → ∃ v, xs[i]? = some v ∧ Tp H v d
  | _, _, _, _, .nil, e => by simp at e
  | _, _, 0, _, .cons a _, e => by simp at e; subst e; exact ⟨_, rfl, a⟩
  | _, _, i + 1, _, .cons _ b, e => by
    obtain ⟨v, h1, h2⟩ := b.get (i := i) (by simpa using e)
    exact ⟨v, by simpa using h1, h2⟩
theorem TpAll.append : ∀ {xs ys : List V} {ds es : List PyData}, TpAll H xs ds → TpAll H ys es → TpAll H (xs ++ ys) (ds ++ es)
  | _, _, _, _, .nil, b => b
  | _, _, _, _, .cons a r, b => .cons a (r.append b)
theorem TpAll.take : ∀ {xs : List V} {ds : List PyData} (n : Nat), TpAll H xs ds → TpAll H (xs.take n) (ds.take n)
  | _, _, 0, _ => .nil
  | _, _, _ + 1, .nil => .nil
  | _, _, n + 1, .cons a b => .cons a (b.take n)
theorem TpAll.nums : ∀ {ns : List Int} {xs : List V}, TpAll H xs (ns.map PyData.int) → xs = ns.map V.int
  | [], _, h => by cases h; rfl
  | n :: ns, _, h => by
    cases h with
    | cons a b => rw [List.map_cons, a.int_inv, b.nums]
theorem TpAll.of_nums : ∀ ns : List Int, TpAll H (ns.map V.int) (ns.map PyData.int)
  | [] => .nil
  | n :: ns => .cons (.int n) (TpAll.of_nums ns)
end
/-! ### gardens -/
abbrev Bed := Int × Int
def bedD (b : Bed) : PyData := .tuple [.int b.1, .int b.2]
def bedsD (bs : List Bed) : PyData := .tuple (bs.map bedD)
def gardenD (t c : Int) (bs : List Bed) : PyData := .tuple [.int t, .int c, bedsD bs]
theorem bed_inv {H : Hp} {v : V} {b : Bed} (h : Tp H v (bedD b)) : ∃ a, v = .ref a ∧ Rd H a (.tup [.int b.1, .int b.2]) := by
  obtain ⟨a, xs, rfl, ha, r⟩ := Tp.tup_inv h
  cases r with
  | cons p r =>
    cases r with
    | cons q r =>
      cases r
      rw [p.int_inv, q.int_inv] at ha
      exact ⟨a, rfl, ha⟩
theorem garden_inv {H : Hp} {v : V} {t c : Int} {bs : List Bed} (h : Tp H v (gardenD t c bs)) : ∃ g b xs, v = .ref g ∧ Rd H g (.tup [.int t, .int c, .ref b]) ∧ Rd H b (.tup xs) ∧ TpAll H xs (bs.map bedD) := by
  obtain ⟨g, xs, rfl, hg, r⟩ := Tp.tup_inv h
  cases r with
  | cons p r =>
    cases r with
    | cons q r =>
      cases r with
      | cons z r =>
        cases r
        obtain ⟨b, ys, rfl, hb, r⟩ := Tp.tup_inv z
        rw [p.int_inv, q.int_inv] at hg
        exact ⟨g, b, ys, rfl, hg, hb, r⟩
theorem garden_of {H : Hp} {g b : Addr} {t c : Int} {xs : List V} {bs : List Bed} (hg : Rd H g (.tup [.int t, .int c, .ref b])) (hb : Rd H b (.tup xs)) (r : TpAll H xs (bs.map bedD)) : Tp H (.ref g) (gardenD t c bs) :=
  .tup hg (.cons (.int t) (.cons (.int c) (.cons (.tup hb r) .nil)))
theorem bed_of {H : Hp} {a : Addr} {b : Bed} (h : Rd H a (.tup [.int b.1, .int b.2])) : Tp H (.ref a) (bedD b) := .tup h (.cons (.int _) (.cons (.int _) .nil))

/-! ### evaluation to data -/
def EvD (te : TE) (σ : L2.St) (H : Hp) (d : PyData) : Prop := ∀ H1, Ex H H1 → ∀ Q : VK, (∀ v H2, Ex H1 H2 → Tp H2 v d → Q v H2) → te σ H1 Q
def EvLd (te : TE) (σ : L2.St) (H : Hp) (ds : List PyData) : Prop := ∀ H1, Ex H H1 → ∀ Q : VK, (∀ p xs H2, H1 p = none → Ex H1 H2 → H2 p = some (.lst xs) → TpAll H2 xs ds → Q (.ref p) H2) → te σ H1 Q
def EvAd (ta : TA) (σ : L2.St) (H : Hp) (ds : List PyData) : Prop := ∀ H1, Ex H H1 → ∀ Q : List V → Hp → Prop, (∀ vs H2, Ex H1 H2 → TpAll H2 vs ds → Q vs H2) → ta σ H1 Q
section
variable {K : PySem.W.Frag} {σ : L2.St} {H H' : Hp} {ta tb te tx : TE} {t u : TT} {x y z v : V} {d : PyData} {ds : List PyData}
theorem EvD.mono (e : Ex H H') (h : EvD te σ H d) : EvD te σ H' d := fun H1 a Q q => h H1 (e.trans a) Q q
theorem ed_int {i : Int} (h : Ev te σ H (.int i)) : EvD te σ H (.int i) := fun H1 e Q q => h H1 e Q fun H2 e2 => q _ H2 e2 (.int i)
theorem ev_of {i : Int} (h : EvD te σ H (.int i)) : Ev te σ H (.int i) := fun H1 e Q q => h H1 e Q fun v H2 e2 t => by
  rw [t.int_inv]
  exact q H2 e2
theorem ed_val (h : Ev te σ H v) (t : Tp H v d) : EvD te σ H d := fun H1 e Q q => h H1 e Q fun H2 e2 => q _ H2 e2 (t.mono (Tk.ex (e.trans e2)))
theorem ead_nil : EvAd tNil σ H [] := fun H1 _ _ q => q [] H1 (Ex.refl H1) .nil
theorem ead_cons {tr : TA} (h : EvD ta σ H d) (hr : EvAd tr σ H ds) : EvAd (tCons ta tr) σ H (d :: ds) := fun H1 e Q q =>
  h H1 e _ fun v H2 e2 t2 => hr H2 (e.trans e2) _ fun vs H3 e3 t3 => q _ H3 (e2.trans e3) (.cons (t2.mono (Tk.ex e3)) t3)
theorem ed_tup {tr : TA} (h : EvAd tr σ H ds) (hl : ds.length ≤ 100000) : EvD (tTup tr) σ H (.tuple ds) := fun H1 e Q q =>
  h H1 e _ fun vs H2 e2 t2 => ⟨sz_of (by rw [t2.length]; exact hl), fun p hp => q _ _ (e2.trans (Ex.new hp)) (.tup (.inl upd_same) (t2.mono (Tk.ex (Ex.new hp))))⟩
theorem eld_lst {tr : TA} (h : EvAd tr σ H ds) (hl : ds.length ≤ 100000) : EvLd (tLst tr) σ H ds := fun H1 e Q q =>
  h H1 e _ fun vs H2 e2 t2 => ⟨sz_of (by rw [t2.length]; exact hl), fun p hp => q p vs _ (fresh_back e2 hp) (e2.trans (Ex.new hp)) upd_same (t2.mono (Tk.ex (Ex.new hp)))⟩
theorem el_nums {ns : List Int} (h : EvLd te σ H (ns.map PyData.int)) : EvL te σ H (ns.map V.int) := fun H1 e Q q => h H1 e Q fun p xs H2 hp e2 h2 t => q p H2 hp e2 (by rw [h2, t.nums])
theorem eld_nums {ns : List Int} (h : EvL te σ H (ns.map V.int)) : EvLd te σ H (ns.map PyData.int) := fun H1 e Q q => h H1 e Q fun p H2 hp e2 h2 => q p _ H2 hp e2 h2 (TpAll.of_nums ns)
/-- new list + new list -/
theorem el_cat {xs ys : List V} (ha : EvL ta σ H xs) (hb : EvL tb σ H ys) (hl : xs.length + ys.length ≤ 100000) : EvL (tOp rCat ta tb) σ H (xs ++ ys) := fun H1 e Q q =>
  ha H1 e _ fun p H2 hp e2 h2 => hb H2 (e.trans e2) _ fun p' H3 hp' e3 h3 => ⟨p, p', xs, ys, rfl, rfl, e3 p _ h2, h3, sz_of hl, fun r hr => q r _ (fresh_back (e2.trans e3) hr) ((e2.trans e3).trans (Ex.new hr)) upd_same⟩
/-- a list by its name + a new list -/
theorem el_catV {p : Addr} {xs ys : List V} (ha : Ev ta σ H (.ref p)) (hp : H p = some (.lst xs)) (hb : EvL tb σ H ys) (hl : xs.length + ys.length ≤ 100000) : EvL (tOp rCat ta tb) σ H (xs ++ ys) := fun H1 e Q q =>
  ha H1 e _ fun H2 e2 => hb H2 (e.trans e2) _ fun p' H3 hp' e3 h3 => ⟨p, p', xs, ys, rfl, rfl, ((e.trans e2).trans e3) p _ hp, h3, sz_of hl, fun r hr => q r _ (fresh_back (e2.trans e3) hr) ((e2.trans e3).trans (Ex.new hr)) upd_same⟩
theorem et_yes : EvT tYes σ H true := fun H1 _ _ q => q H1 (Ex.refl H1)
theorem ed_call {sp : Sp} {E : XK} {tr : TA} {vs : List V} (h : EvA tr σ H vs) (hs : ∀ H1, Ex H H1 → ∀ Q : VK, (∀ v H2, Ex H1 H2 → Tp H2 v d → Q v H2) → ∀ E : XK, sp vs H1 Q E) : EvD (tCall sp [] E tr) σ H d := fun H1 e Q q =>
  h H1 e _ fun H2 e2 => by
    show sp (vs ++ []) H2 Q E
    rw [List.append_nil]
    exact hs H2 (e.trans e2) Q (fun v H3 e3 t3 => q v H3 (e2.trans e3) t3) E
/-- which turns give, and what -/
def givD (n : Nat) (f : Nat → Bool) (dd : Nat → PyData) : List PyData := ((List.range n).filter f).map dd
theorem givD_yes {n : Nat} {f : Nat → Bool} {dd : Nat → PyData} (h : f n = true) : givD (n + 1) f dd = givD n f dd ++ [dd n] := by
  simp [givD, List.range_succ, h]
theorem givD_no {n : Nat} {f : Nat → Bool} {dd : Nat → PyData} (h : f n = false) : givD (n + 1) f dd = givD n f dd := by
  simp [givD, List.range_succ, h]
theorem givD_len (n : Nat) (f : Nat → Bool) (dd : Nat → PyData) : (givD n f dd).length ≤ n := by
  have := List.length_filter_le f (List.range n)
  simp only [givD, List.length_map, List.length_range] at this ⊢
  exact this
/-- a comprehension that changes nothing, over any walk -/
theorem lc_pure {J : It} {n : Nat} {G : Hp → Prop} {Y : Nat → Hp → V → Hp → Prop} (w : Walk J n G Y) (few : n ≤ 50000) {g : TG} {vs : List Nat} {Q : VK} (f : Nat → Bool) (dd : Nat → PyData) (hG : ∀ H', Ex H H' → G H')
    (hs : ∀ i x H1 H2, i < n → Ex H H1 → Y i H1 x H2 → Ex H1 H2 ∧ ∃ σ2, (∀ R : L2.St → Hp → Prop, R σ2 H2 → g x (wipe σ vs) H2 R) ∧ wipe σ2 vs = wipe σ vs ∧ EvT t σ2 H2 (f i) ∧ (f i = true → EvD te σ2 H2 (dd i)))
    (q : ∀ p xs H', H p = none → Ex H H' → H' p = some (.lst xs) → TpAll H' xs (givD n f dd) → Q (.ref p) H') :
    ∀ D, H D = none → ∃ W : Nat → Nat → Hp → Prop, (∃ m, W 0 m (upd H D (.lst []))) ∧ ∀ i m H', W i m H' →
      (J.stop i H' ∧ Q (.ref D) H') ∨ (J.go i H' ∧ ∃ Nx : Hp → Prop, (∀ H2, Nx H2 → ∃ m', m' < m ∧ W (i + 1) m' H2) ∧ ∀ x H2, J.yld i H' x H2 → g x (wipe σ vs) H2 fun σ2 H2 => wipe σ2 vs = wipe σ vs ∧ t σ2 H2 fun b H3 =>
        if b = true then te σ2 H3 fun y H4 => ∃ acc, H4 D = some (.lst acc) ∧ acc.length < sizeLine ∧ Nx (upd H4 D (.lst (acc ++ [y]))) else Nx H3) := by
  intro D hD
  refine lc_it w (Qd := fun H' => Q (.ref D) H') (fun i H' => Ex H H' ∧ ∃ xs, H' D = some (.lst xs) ∧ TpAll H' xs (givD i f dd)) ⟨Ex.new hD, [], upd_same, .nil⟩ (fun i H' _ p => hG H' p.1) ?_ (fun H' p => by
    obtain ⟨e, xs, h1, h2⟩ := p
    exact q D xs H' hD e h1 h2)
  rintro i x H1 H2 hi ⟨e1, xs, h1, t1⟩ hy
  obtain ⟨e2, σ2, bind, hw, ht, he⟩ := hs i x H1 H2 hi e1 hy
  refine bind _ ⟨hw, ht H2 (Ex.refl H2) _ fun H3 e3 => ?_⟩
  have e03 : Ex H H3 := (e1.trans e2).trans e3
  have h3 : H3 D = some (.lst xs) := (e2.trans e3) D _ h1
  have t3 : TpAll H3 xs (givD i f dd) := t1.mono (Tk.ex (e2.trans e3))
  cases hf : f i with
  | false =>
    show Ex H H3 ∧ _
    rw [givD_no hf]
    exact ⟨e03, xs, h3, t3⟩
  | true =>
    show te σ2 H3 _
    refine he hf H3 e3 _ fun v H4 e4 t4 => ⟨xs, e4 D _ h3, sz_lt ?_, Ex.mut (e03.trans e4) hD, xs ++ [v], upd_same, ?_⟩
    · have := givD_len i f dd
      rw [t3.length]; omega
    · rw [givD_yes hf]
      exact ((t3.mono (Tk.ex e4)).append (.cons t4 .nil)).mono (Tk.lst (e4 D _ h3))
theorem giv_list {α : Type} (l : List α) (f : α → Bool) (dd : α → PyData) (f' : Nat → Bool) (dd' : Nat → PyData) (h : ∀ i a, l[i]? = some a → f' i = f a ∧ dd' i = dd a) : givD l.length f' dd' = (l.filter f).map dd := by
  have key : ∀ n, n ≤ l.length → givD n f' dd' = ((l.take n).filter f).map dd := by
    intro n
    induction n with
    | zero => intro _; simp [givD]
    | succ n ih =>
      intro hn
      have hl : l[n]? = some l[n] := List.getElem?_eq_getElem hn
      obtain ⟨h1, h2⟩ := h n _ hl
      rw [List.take_add_one, hl]
      simp only [Option.toList_some, List.filter_append, List.map_append]
      cases hf : f l[n] with
      | true => rw [givD_yes (h1.trans hf), ih (by omega), h2]; simp [hf]
      | false => rw [givD_no (h1.trans hf), ih (by omega)]; simp [hf]
  rw [key _ (Nat.le_refl _), List.take_length]
abbrev gPair (K : PySem.W.Frag) (i j : Nat) : TG := gTup K 2 (gCons (gName i) (gCons (gName j) gNil))
theorem pair_bind {H : Hp} {a : Addr} {p l : V} {i j : Nat} {σ : L2.St} (h : Rd H a (.tup [p, l])) (R : L2.St → Hp → Prop) (r : R ((σ.set i (some p)).set j (some l)) H) : gPair K i j (.ref a) σ H R :=
  ⟨a, _, rfl, sr h, rfl, p, [l], rfl, l, [], rfl, rfl, r⟩
/-- [.. for place, litres in beds if ..] -/
theorem eld_beds {tl : TE} {a : Addr} {xs : List V} {bs : List Bed} {i j : Nat} {vs : List Nat} (f : Bed → Bool) (dd : Bed → PyData) (h : Ev tl σ H (.ref a)) (ha : Rd H a (.tup xs)) (hb : TpAll H xs (bs.map bedD)) (few : bs.length ≤ 50000)
    (hw : ∀ p l, wipe (((wipe σ vs).set i (some p)).set j (some l)) vs = wipe σ vs)
    (ht : ∀ b ∈ bs, EvT t (((wipe σ vs).set i (some (.int b.1))).set j (some (.int b.2))) H (f b)) (he : ∀ b ∈ bs, f b = true → EvD te (((wipe σ vs).set i (some (.int b.1))).set j (some (.int b.2))) H (dd b)) :
    EvLd (tLc (iTup K tl) (gPair K i j) t te vs) σ H ((bs.filter f).map dd) := fun H0 e0 Q q => h H0 e0 _ fun H1 e1 => by
  have eq : xs.length = bs.length := by rw [hb.length, List.length_map]
  have e01 := e0.trans e1
  refine ⟨a, rfl, ⟨xs, sr (ex_rd e01 ha)⟩, ?_⟩
  have gl := giv_list bs f dd (fun i => match bs[i]? with | some b => f b | none => false) (fun i => match bs[i]? with | some b => dd b | none => .none) (fun i a e => by simp [e])
  refine lc_pure (walk_tup (K := K) (a := a) (xs := xs)) (by omega) (fun i => match bs[i]? with | some b => f b | none => false) (fun i => match bs[i]? with | some b => dd b | none => .none) (fun H' e => sr (ex_rd e (ex_rd e01 ha))) ?_ ?_
  · rintro k x H2 _ hk e2 ⟨rfl, hx⟩
    have hk' : k < bs.length := by omega
    have hbk : bs[k]? = some bs[k] := List.getElem?_eq_getElem hk'
    obtain ⟨v, hv, tv⟩ := hb.get (i := k) (d := bedD bs[k]) (by rw [List.getElem?_map, hbk]; rfl)
    rw [hx] at hv
    cases hv
    obtain ⟨c, rfl, hc⟩ := bed_inv (tv.mono (Tk.ex (e01.trans e2)))
    have hm : bs[k] ∈ bs := List.getElem_mem hk'
    refine ⟨Ex.refl _, _, fun R r => pair_bind hc R r, hw _ _, ?_, ?_⟩
    · simp only [hbk]
      exact (ht _ hm).mono (e01.trans e2)
    · simp only [hbk]
      exact fun hf => (he _ hm hf).mono (e01.trans e2)
  · intro p ys H2 hp e2 h2 t2
    refine q p ys H2 (fresh_back e1 hp) (e1.trans e2) h2 ?_
    rw [← gl, ← eq]
    exact t2
/-- the same over a list of tuples -/
theorem eld_bedsL {tl : TE} {a : Addr} {xs : List V} {bs : List Bed} {i j : Nat} {vs : List Nat} (f : Bed → Bool) (dd : Bed → PyData) (h : Ev tl σ H (.ref a)) (ha : H a = some (.lst xs)) (hb : TpAll H xs (bs.map bedD)) (few : bs.length ≤ 50000)
    (hw : ∀ p l, wipe (((wipe σ vs).set i (some p)).set j (some l)) vs = wipe σ vs)
    (ht : ∀ b ∈ bs, EvT t (((wipe σ vs).set i (some (.int b.1))).set j (some (.int b.2))) H (f b)) (he : ∀ b ∈ bs, f b = true → EvD te (((wipe σ vs).set i (some (.int b.1))).set j (some (.int b.2))) H (dd b)) :
    EvLd (tLc (iList K tl) (gPair K i j) t te vs) σ H ((bs.filter f).map dd) := fun H0 e0 Q q => h H0 e0 _ fun H1 e1 => by
  have eq : xs.length = bs.length := by rw [hb.length, List.length_map]
  have e01 := e0.trans e1
  refine ⟨a, rfl, ⟨xs, sq_of (e01 a _ ha)⟩, ?_⟩
  have gl := giv_list bs f dd (fun i => match bs[i]? with | some b => f b | none => false) (fun i => match bs[i]? with | some b => dd b | none => .none) (fun i a e => by simp [e])
  refine lc_pure (walk_list (K := K) (a := a) (xs := xs)) (by omega) (fun i => match bs[i]? with | some b => f b | none => false) (fun i => match bs[i]? with | some b => dd b | none => .none) (fun H' e => sq_of (e a _ (e01 a _ ha))) ?_ ?_
  · rintro k x H2 _ hk e2 ⟨rfl, hx⟩
    have hk' : k < bs.length := by omega
    have hbk : bs[k]? = some bs[k] := List.getElem?_eq_getElem hk'
    obtain ⟨v, hv, tv⟩ := hb.get (i := k) (d := bedD bs[k]) (by rw [List.getElem?_map, hbk]; rfl)
    rw [hx] at hv
    cases hv
    obtain ⟨c, rfl, hc⟩ := bed_inv (tv.mono (Tk.ex (e01.trans e2)))
    have hm : bs[k] ∈ bs := List.getElem_mem hk'
    refine ⟨Ex.refl _, _, fun R r => pair_bind hc R r, hw _ _, ?_, ?_⟩
    · simp only [hbk]
      exact (ht _ hm).mono (e01.trans e2)
    · simp only [hbk]
      exact fun hf => (he _ hm hf).mono (e01.trans e2)
  · intro p ys H2 hp e2 h2 t2
    refine q p ys H2 (fresh_back e1 hp) (e1.trans e2) h2 ?_
    rw [← gl, ← eq]
    exact t2
end
end Cn

namespace Cn
open PySem PySem.Spec PyProof.Rows L2 Evl
/-! ### marks -/
abbrev Asc (l : List Int) : Prop := l.Pairwise (· < ·)
theorem asc_unique : ∀ {a b : List Int}, Asc a → Asc b → (∀ k, k ∈ a ↔ k ∈ b) → a = b
  | [], [], _, _, _ => rfl
  | [], y :: b, _, _, h => absurd ((h y).2 (List.mem_cons_self ..)) (by simp)
  | x :: a, [], _, _, h => absurd ((h x).1 (List.mem_cons_self ..)) (by simp)
  | x :: a, y :: b, ha, hb, h => by
    have ha' := List.pairwise_cons.mp ha
    have hb' := List.pairwise_cons.mp hb
    have hx : x = y := by
      have h1 := (h x).1 (List.mem_cons_self ..)
      have h2 := (h y).2 (List.mem_cons_self ..)
      rcases List.mem_cons.mp h1 with e | e
      · exact e
      · rcases List.mem_cons.mp h2 with e2 | e2
        · exact e2.symm
        · have := hb'.1 x e
          have := ha'.1 y e2
          omega
    subst hx
    congr 1
    refine asc_unique ha'.2 hb'.2 fun k => ⟨fun m => ?_, fun m => ?_⟩
    · have lt := ha'.1 k m
      rcases List.mem_cons.mp ((h k).1 (List.mem_cons_of_mem _ m)) with e | e
      · omega
      · exact e
    · have lt := hb'.1 k m
      rcases List.mem_cons.mp ((h k).2 (List.mem_cons_of_mem _ m)) with e | e
      · omega
      · exact e
def ins (x : Int) : List Int → List Int
  | [] => [x]
  | y :: r => if x < y then x :: y :: r else if x = y then y :: r else y :: ins x r
theorem mem_ins {x k : Int} : ∀ {l : List Int}, k ∈ ins x l ↔ k = x ∨ k ∈ l
  | [] => by simp [ins]
  | y :: r => by
    unfold ins
    split
    · simp
    · split
      · rename_i e; subst e; simp
      · simp only [List.mem_cons, mem_ins (l := r)]
        constructor
        · rintro (h | h | h) <;> simp [h]
        · rintro (h | h | h) <;> simp [h]
theorem asc_ins {x : Int} : ∀ {l : List Int}, Asc l → Asc (ins x l)
  | [], _ => by simp [ins, Asc]
  | y :: r, h => by
    have h' := List.pairwise_cons.mp h
    unfold ins
    split
    · rename_i lt
      refine List.pairwise_cons.mpr ⟨fun k m => ?_, h⟩
      rcases List.mem_cons.mp m with e | e
      · omega
      · have := h'.1 k e; omega
    · split
      · exact h
      · rename_i n1 n2
        refine List.pairwise_cons.mpr ⟨fun k m => ?_, asc_ins h'.2⟩
        rcases mem_ins.mp m with e | e
        · omega
        · exact h'.1 k e
def sortU (l : List Int) : List Int := l.foldr ins []
theorem mem_sortU {k : Int} : ∀ {l : List Int}, k ∈ sortU l ↔ k ∈ l
  | [] => by simp [sortU]
  | x :: r => by
    show k ∈ ins x (sortU r) ↔ _
    rw [mem_ins, mem_sortU, List.mem_cons]
theorem asc_sortU : ∀ l : List Int, Asc (sortU l)
  | [] => .nil
  | x :: r => asc_ins (asc_sortU r)
theorem len_ins {x : Int} : ∀ {l : List Int}, (ins x l).length ≤ l.length + 1
  | [] => by simp [ins]
  | y :: r => by
    unfold ins
    split
    · simp
    · split
      · simp
      · have := len_ins (x := x) (l := r)
        simp only [List.length_cons]; omega
theorem len_sortU : ∀ l : List Int, (sortU l).length ≤ l.length
  | [] => by simp [sortU]
  | x :: r => by
    have h := len_ins (x := x) (l := sortU r)
    have h2 := len_sortU r
    show (ins x (sortU r)).length ≤ r.length + 1
    omega
def marks (t : Int) (bs : List Bed) : List Int := sortU (t :: bs.map (·.1))
theorem sortU_eq {l ms : List Int} (a : Asc ms) (h : ∀ k, k ∈ ms ↔ k ∈ l) : ms = sortU l := asc_unique a (asc_sortU l) fun k => (h k).trans mem_sortU.symm

/-! ### stretches -/
def pairs : List Int → List (Int × Int)
  | x :: y :: r => (x, y) :: pairs (y :: r)
  | _ => []
theorem pairs_len : ∀ l : List Int, (pairs l).length = l.length - 1
  | [] => rfl
  | [_] => rfl
  | x :: y :: r => by
    show (pairs (y :: r)).length + 1 = _
    rw [pairs_len (y :: r)]
    simp
theorem pairs_get : ∀ {l : List Int} {i : Nat} {x y : Int}, l[i]? = some x → l[i + 1]? = some y → (pairs l)[i]? = some (x, y)
  | [], _, _, _, h, _ => by simp at h
  | [_], i, _, _, _, h2 => by simp at h2
  | a :: b :: r, 0, x, y, h, h2 => by
    simp at h h2
    subst h h2
    rfl
  | a :: b :: r, i + 1, x, y, h, h2 => by
    have := pairs_get (l := b :: r) (i := i) (x := x) (y := y) (by simpa using h) (by simpa using h2)
    simpa [pairs] using this
def litres (t : Int) (bs : List Bed) (lo hi : Int) : Int :=
  if t ≤ lo then ((bs.filter fun b => decide (hi ≤ b.1)).map (·.2)).sum else ((bs.filter fun b => decide (b.1 ≤ lo)).map (·.2)).sum
def strD (t : Int) (bs : List Bed) (p : Int × Int) : PyData := .tuple [.int p.1, .int p.2, .int (litres t bs p.1 p.2)]
def stretchesD (t : Int) (bs : List Bed) : PyData := .tuple ((pairs (marks t bs)).map (strD t bs))
/-- the law's own count -/
def total (t lo hi : Int) (bs : List Bed) : Int := ((bs.filter fun b => (decide (t ≤ lo) && decide (lo < b.1)) || (decide (b.1 < hi) && decide (hi ≤ t))).map (·.2)).sum
theorem gap {l : List Int} {i : Nat} {x y k : Int} (a : Asc l) (hx : l[i]? = some x) (hy : l[i + 1]? = some y) (hk : k ∈ l) : k ≤ x ∨ y ≤ k := by
  obtain ⟨j, hj, e⟩ := List.getElem_of_mem hk
  obtain ⟨h1, e1⟩ := List.getElem?_eq_some_iff.mp hx
  obtain ⟨h2, e2⟩ := List.getElem?_eq_some_iff.mp hy
  have mono : ∀ p q (hp : p < l.length) (hq : q < l.length), p < q → l[p] < l[q] := fun p q hp hq hpq => List.pairwise_iff_getElem.mp a p q hp hq hpq
  rcases Nat.lt_trichotomy j i with h | h | h
  · have := mono j i hj h1 h; omega
  · subst h; omega
  · by_cases h3 : j = i + 1
    · subst h3; omega
    · have := mono (i + 1) j h2 hj (by omega); omega
theorem asc_at {l : List Int} {i : Nat} {x y : Int} (a : Asc l) (hx : l[i]? = some x) (hy : l[i + 1]? = some y) : x < y := by
  obtain ⟨h1, e1⟩ := List.getElem?_eq_some_iff.mp hx
  obtain ⟨h2, e2⟩ := List.getElem?_eq_some_iff.mp hy
  have := List.pairwise_iff_getElem.mp a i (i + 1) h1 h2 (by omega)
  omega
theorem total_eq {t : Int} {bs : List Bed} {i : Nat} {lo hi : Int} (h1 : (marks t bs)[i]? = some lo) (h2 : (marks t bs)[i + 1]? = some hi) : total t lo hi bs = litres t bs lo hi := by
  have a : Asc (marks t bs) := asc_sortU _
  have lt := asc_at a h1 h2
  have ht := gap a h1 h2 (mem_sortU.mpr (List.mem_cons_self ..) : t ∈ marks t bs)
  have hb : ∀ b ∈ bs, b.1 ≤ lo ∨ hi ≤ b.1 := fun b m => gap a h1 h2 (mem_sortU.mpr (List.mem_cons_of_mem _ (List.mem_map_of_mem m)) : b.1 ∈ marks t bs)
  unfold total litres
  split
  · rename_i c
    congr 2
    refine List.filter_congr fun b m => ?_
    have := hb b m
    rw [Bool.eq_iff_iff]
    simp only [Bool.or_eq_true, Bool.and_eq_true, decide_eq_true_eq]
    omega
  · rename_i c
    congr 2
    refine List.filter_congr fun b m => ?_
    have := hb b m
    rw [Bool.eq_iff_iff]
    simp only [Bool.or_eq_true, Bool.and_eq_true, decide_eq_true_eq]
    omega
end Cn

namespace Cn
open PySem PySem.Spec PyProof.Rows L2 Evl
section
variable {K : PySem.W.Frag} {w : World} {σ : L2.St} {H H' : Hp} {ta tb te tx : TE} {t u : TT} {x y z v : V} {d : PyData} {ds : List PyData}
/-- sorted(set(new list of ints)) -/
theorem el_sortset {ns : List Int} (h : EvL te σ H (ns.map V.int)) (few : ns.length < 64) : EvL (tCB (rSortedSet w) (tCons (tCB (rSetL K w) (tCons te tNil)) tNil)) σ H ((sortU ns).map V.int) := fun H1 e Q q =>
  h H1 e _ fun p H2 hp e2 h2 => sortset ⟨p, ns, rfl, sq_of h2, few, fun ms r H3 asc mem hr e3 h3 => q r H3 (fresh_back e2 hr) (e2.trans e3) (by rw [h3, sortU_eq asc mem])⟩
/-- sum(new list of ints) -/
theorem ev_sum {ns : List Int} (h : EvL te σ H (ns.map V.int)) : Ev (tCB (rSum K) (tCons te tNil)) σ H (.int ns.sum) := fun H1 e Q q =>
  h H1 e _ fun p H2 _ e2 h2 => ⟨p, ns, rfl, sq_of h2, q H2 e2⟩
/-- [x] of ints -/
theorem el_nums1 {i : Int} (h : Ev te σ H (.int i)) : EvL (tLst (tCons te tNil)) σ H ([i].map V.int) := el_lst (ea_cons h ea_nil) (by simp)
theorem el_is {xs ys : List V} (h : EvL te σ H xs) (e : xs = ys) : EvL te σ H ys := e ▸ h
theorem eld_is {es : List PyData} (h : EvLd te σ H ds) (e : ds = es) : EvLd te σ H es := e ▸ h
/-- one comparison of ints as a test -/
theorem et_le {i j : Int} (ha : Ev ta σ H (.int i)) (hb : Ev tb σ H (.int j)) : EvT (tTest (tOp (rI0 fun i j => .bl (decide (i ≤ j))) ta tb)) σ H (decide (i ≤ j)) := et_test (ev_op ha hb rv_I0)
theorem et_ge {i j : Int} (ha : Ev ta σ H (.int i)) (hb : Ev tb σ H (.int j)) : EvT (tTest (tOp (rI0 fun i j => .bl (decide (j ≤ i))) ta tb)) σ H (decide (j ≤ i)) := et_test (ev_op ha hb rv_I0)
theorem et_lt {i j : Int} (ha : Ev ta σ H (.int i)) (hb : Ev tb σ H (.int j)) : EvT (tTest (tOp (rI0 fun i j => .bl (decide (i < j))) ta tb)) σ H (decide (i < j)) := et_test (ev_op ha hb rv_I0)
theorem given_map {α : Type} (l : List α) (f : α → V) (v : Nat → V) (h : ∀ i a, l[i]? = some a → v i = f a) : given l.length (fun _ => true) v = l.map f := by
  refine List.ext_getElem? fun i => ?_
  unfold given
  rw [List.filter_eq_self.mpr (fun _ _ => rfl), List.getElem?_map, List.getElem?_map]
  by_cases hi : i < l.length
  · rw [List.getElem?_range hi, List.getElem?_eq_getElem hi]
    simp only [Option.map_some]
    rw [h i _ (List.getElem?_eq_getElem hi)]
  · rw [List.getElem?_eq_none (by simpa using hi), List.getElem?_eq_none (by simpa using hi)]
    rfl
theorem cutTo (xs : List V) (k : Nat) (h : xs.length ≤ k) : cutV xs none (some k) = xs := by
  unfold cutV
  rw [show HT.sIx xs.length xs.length (some (k : Int)) = min k xs.length from HT.sIx_nat xs.length xs.length k, HT.sIx_none, Nat.min_eq_right h]
  simp
/-- sorted(set([tap] + [place for place, litres in beds])) -/
theorem el_marks {tl : TE} {a : Addr} {xs : List V} {bs : List Bed} {i j : Nat} {vs : List Nat} {tp : Int} (ht : Ev ta σ H (.int tp)) (h : Ev tl σ H (.ref a)) (ha : Rd H a (.tup xs)) (hb : TpAll H xs (bs.map bedD)) (few : bs.length ≤ 40)
    (hw : ∀ p l, wipe (((wipe σ vs).set i (some p)).set j (some l)) vs = wipe σ vs) (he : ∀ b ∈ bs, Ev te (((wipe σ vs).set i (some (.int b.1))).set j (some (.int b.2))) H (.int b.1)) :
    EvL (tCB (rSortedSet w) (tCons (tCB (rSetL K w) (tCons (tOp rCat (tLst (tCons ta tNil)) (tLc (iTup K tl) (gPair K i j) tYes te vs)) tNil)) tNil)) σ H ((marks tp bs).map V.int) := by
  refine el_sortset (ns := tp :: bs.map (·.1)) ?_ (by simp; omega)
  refine el_is (el_cat (el_nums1 ht) (el_nums (ns := bs.map (·.1)) (eld_is (eld_beds (fun _ => true) (fun b => .int b.1) h ha hb (by omega) hw (fun _ _ => et_yes) (fun b m _ => ed_int (he b m))) ?_)) (by simp; omega)) rfl
  rw [List.filter_eq_self.mpr (fun _ _ => rfl)]
  exact (List.map_map ..).symm
theorem et_chain {f g : Int → Int → Bool} {tc : TE} {i j k : Int} (ha : Ev ta σ H (.int i)) (hb : Ev tb σ H (.int j)) (hc : Ev tc σ H (.int k)) : EvT (tTest (tChain (rI0 fun i j => .bl (f i j)) (rI0 fun i j => .bl (g i j)) ta tb tc)) σ H (f i j && g j k) := by
  intro H1 e Q q
  refine ha H1 e _ fun H2 e2 => hb H2 (e.trans e2) _ fun H3 e3 => ⟨i, j, rfl, rfl, f i j, rfl, ?_⟩
  have e123 := e2.trans e3
  cases hf : f i j with
  | true =>
    rw [hf] at q
    exact hc H3 (e.trans e123) _ fun H4 e4 => ⟨j, k, rfl, rfl, g j k, rfl, q H4 (e123.trans e4)⟩
  | false =>
    rw [hf] at q
    exact ⟨false, rfl, q H3 e123⟩
/-- a for over a list that comes out of an expression with effects -/
theorem q_forS {D : Ends} {g : TG} {tl : TE} {tu tz : TS} (P : Addr → List V → Hp → Prop) (src : ∀ Q : VK, (∀ p xs H', P p xs H' → Q (.ref p) H') → tl σ H Q) (hP : ∀ p xs H', P p xs H' → SqL K H' p xs) (Pv : Addr → List V → Nat → L2.St → Hp → Prop)
    (h0 : ∀ p xs H', P p xs H' → Pv p xs 0 σ H') (hl : ∀ p xs i σ' H', i ≤ xs.length → Pv p xs i σ' H' → SqL K H' p xs)
    (hs : ∀ p xs i x σ' H', xs[i]? = some x → Pv p xs i σ' H' → g x σ' H' fun σ2 H2 => tu { D with nx := Pv p xs (i + 1), ct := Pv p xs (i + 1), bk := tz D } σ2 H2) (hd : ∀ p xs σ' H', Pv p xs xs.length σ' H' → tz D σ' H') : tSeq (tFor (iList K tl) g tu) tz D σ H :=
  src _ fun p xs H1 h => ⟨p, rfl, ⟨xs, hP p xs H1 h⟩, for_list (D := { D with nx := tz D }) (Pv p xs) (h0 p xs H1 h) (hl p xs) (hs p xs) (hd p xs)⟩
theorem s_retD {D : Ends} (h : EvD te σ H d) (k : ∀ v H1, Ex H H1 → Tp H1 v d → D.rt v H1) : tRet te D σ H := h H (Ex.refl H) _ k
theorem s_asgD {D : Ends} {i : Nat} (h : EvD te σ H d) (k : ∀ v H1, Ex H H1 → Tp H1 v d → D.nx (σ.set i (some v)) H1) : tAsg te (gName i) D σ H := h H (Ex.refl H) _ k
theorem q_asgD {D : Ends} {tz : TS} {i : Nat} (h : EvD te σ H d) (k : ∀ v H1, Ex H H1 → Tp H1 v d → tz D (σ.set i (some v)) H1) : tSeq (tAsg te (gName i)) tz D σ H := h H (Ex.refl H) _ k
theorem cut1 (xs : List V) : cutV xs (some 1) none = xs.drop 1 := by
  unfold cutV
  rw [show HT.sIx xs.length 0 (some 1) = min 1 xs.length from HT.sIx_nat xs.length 0 1, HT.sIx_none]
  cases xs with
  | nil => rfl
  | cons x r =>
    have e : min 1 (x :: r).length = 1 := by simp
    rw [e]
    show r.take ((x :: r).length - 1) = r
    simp
theorem pairs_at : ∀ {l : List Int} {i : Nat} {p : Int × Int}, (pairs l)[i]? = some p → l[i]? = some p.1 ∧ l[i + 1]? = some p.2
  | [], i, p, h => by simp [pairs] at h
  | [_], i, p, h => by simp [pairs] at h
  | a :: b :: r, 0, p, h => by
    simp [pairs] at h
    subst h
    exact ⟨rfl, rfl⟩
  | a :: b :: r, i + 1, p, h => by
    have := pairs_at (l := b :: r) (i := i) (p := p) (by simpa [pairs] using h)
    simpa using this
/-- [.. for low, high in zip(ms, ms[1:])] -/
theorem eld_pairs {tz : TA} {i j : Nat} {vs : List Nat} (ms : List Int) (few : ms.length ≤ 50000) (dd : Int × Int → PyData)
    (ha : ∀ H1, Ex H H1 → ∀ Q : List V → Hp → Prop, (∀ a b H2, Ex H1 H2 → SqL K H2 a (ms.map V.int) → SqL K H2 b ((ms.drop 1).map V.int) → Q [.ref a, .ref b] H2) → tz σ H1 Q)
    (hw : ∀ p l, wipe (((wipe σ vs).set i (some p)).set j (some l)) vs = wipe σ vs)
    (he : ∀ p ∈ pairs ms, EvD te (((wipe σ vs).set i (some (.int p.1))).set j (some (.int p.2))) H (dd p)) :
    EvLd (tLc (iZip K tz) (gPair K i j) tYes te vs) σ H ((pairs ms).map dd) := fun H0 e0 Q q => ha H0 e0 _ fun a b H1 e1 sa sb => by
  have e01 := e0.trans e1
  refine ⟨a, b, _, _, rfl, sa, sb, ?_⟩
  have gl := giv_list (pairs ms) (fun _ => true) dd (fun _ => true) (fun i => match (pairs ms)[i]? with | some b => dd b | none => .none) (fun i a e => by simp [e])
  rw [List.filter_eq_self.mpr (fun _ _ => rfl)] at gl
  refine lc_pure (walk_zip (K := K) (a := a) (b := b) (xs := ms.map V.int) (ys := (ms.drop 1).map V.int) (n := (pairs ms).length) (by rw [pairs_len, List.length_map, List.length_map, List.length_drop]; omega)) (by rw [pairs_len]; omega) (fun _ => true) (fun i => match (pairs ms)[i]? with | some b => dd b | none => .none) (fun H' e => ⟨ex_l e sa, ex_l e sb⟩) ?_ ?_
  · rintro k x H2 _ hk e2 ⟨T, u, v, rfl, nT, rfl, hu, hv⟩
    have hpk : (pairs ms)[k]? = some (pairs ms)[k] := List.getElem?_eq_getElem hk
    obtain ⟨g1, g2⟩ := pairs_at hpk
    have hm : (pairs ms)[k] ∈ pairs ms := List.getElem_mem hk
    have hu' : u = .int (pairs ms)[k].1 := by
      have hu : (ms.map V.int)[k]? = some u := hu
      rw [List.getElem?_map, g1] at hu
      exact (Option.some.inj hu).symm
    have hv' : v = .int (pairs ms)[k].2 := by
      have hv : ((ms.drop 1).map V.int)[k]? = some v := hv
      rw [List.getElem?_map, List.getElem?_drop, Nat.add_comm 1 k, g2] at hv
      exact (Option.some.inj hv).symm
    subst hu' hv'
    have eN : Ex H2 (upd H2 T (.tup [.int (pairs ms)[k].1, .int (pairs ms)[k].2])) := Ex.new nT
    refine ⟨eN, _, fun R r => pair_bind (.inl upd_same) R r, hw _ _, et_yes, fun _ => ?_⟩
    simp only [hpk]
    exact (he _ hm).mono ((e01.trans e2).trans eN)
  · intro p ys H2 hp e2 h2 t2
    refine q p ys H2 (fresh_back e1 hp) (e1.trans e2) h2 ?_
    rw [← gl]
    exact t2
end
end Cn

namespace Cn
open PySem PySem.Spec PyProof.Rows L2 Evl
/-! ### the deck -/
/-- all but the deck's two lists stay -/
def Kp (D C : Addr) (H H' : Hp) : Prop := ∀ a o, a ≠ D → a ≠ C → H a = some o → H' a = some o
section
variable {D C : Addr} {H H1 H2 : Hp}
theorem Kp.refl : Kp D C H H := fun _ _ _ _ h => h
theorem Kp.trans (a : Kp D C H H1) (b : Kp D C H1 H2) : Kp D C H H2 := fun p o n1 n2 h => b p o n1 n2 (a p o n1 n2 h)
theorem Kp.ex (e : Ex H H1) : Kp D C H H1 := fun p o _ _ h => e p o h
theorem Kp.setD {o : HO} : Kp D C H (upd H D o) := fun p _ n1 _ h => by rw [upd_ne n1]; exact h
theorem Kp.setC {o : HO} : Kp D C H (upd H C o) := fun p _ _ n2 h => by rw [upd_ne n2]; exact h
theorem Kp.mut {p : Addr} {o : HO} (k : Kp D C H H1) (h : H p = none) : Kp D C H (upd H1 p o) := fun a u n1 n2 e => by
  rw [upd_ne (ne_of_none e h)]
  exact k a u n1 n2 e
theorem Kp.back (k : Kp D C H H1) {p : Addr} (n1 : p ≠ D) (n2 : p ≠ C) (h : H1 p = none) : H p = none := by
  cases e : H p with
  | none => rfl
  | some o => rw [k p o n1 n2 e] at h; cases h
/-- the deck at D, its cells at C, at most m draws so far -/
structure DeckN (D C : Addr) (n : Int) (cs : List Int) (H : Hp) : Prop where
  hD : H D = some (.lst [.ref C, .int n])
  hC : H C = some (.lst (cs.map V.int))
theorem DeckN.ne {n : Int} {cs : List Int} (d : DeckN D C n cs H) : D ≠ C := ne_of d.hD d.hC (by
  intro z
  cases cs with
  | nil => cases z
  | cons x r => cases z)
theorem DeckN.ex {n : Int} {cs : List Int} (e : Ex H H1) (d : DeckN D C n cs H) : DeckN D C n cs H1 := ⟨e _ _ d.hD, e _ _ d.hC⟩
def Deck (D C : Addr) (m : Int) (H : Hp) : Prop := ∃ n cs, DeckN D C n cs H ∧ 0 ≤ n ∧ n ≤ m ∧ cs.length ≤ 63 ∧ ∀ x ∈ cs, 0 ≤ x
theorem Deck.ex {m : Int} (e : Ex H H1) (d : Deck D C m H) : Deck D C m H1 := by
  obtain ⟨n, cs, d, r⟩ := d
  exact ⟨n, cs, d.ex e, r⟩
theorem Deck.mut {m : Int} {p : Addr} {o : HO} (d : Deck D C m H) (n1 : p ≠ D) (n2 : p ≠ C) : Deck D C m (upd H p o) := by
  obtain ⟨n, cs, d, r⟩ := d
  exact ⟨n, cs, ⟨by rw [upd_ne n1.symm]; exact d.hD, by rw [upd_ne n2.symm]; exact d.hC⟩, r⟩
theorem Deck.mono {m m' : Int} (h : m ≤ m') (d : Deck D C m H) : Deck D C m' H := by
  obtain ⟨n, cs, d, a, b, r⟩ := d
  exact ⟨n, cs, d, a, by omega, r⟩
/-- tuples stay -/
theorem Kp.tk {m : Int} (d : Deck D C m H) (k : Kp D C H H1) : Tk H H1 := by
  obtain ⟨n, cs, d, _⟩ := d
  refine ⟨fun a xs h => ?_, fun a o u h => k a _ (ne_of h d.hD (by intro z; cases z)) (ne_of h d.hC (by intro z; cases z)) h⟩
  have n1 := rd_ne h d.hD
  have n2 := rd_ne h d.hC
  rcases h with h | ⟨z, h⟩
  · exact .inl (k a _ n1 n2 h)
  · exact .inr ⟨z, k a _ n1 n2 h⟩
/-- what is not the deck -/
theorem Kp.free {p : Addr} {m : Int} (d : Deck D C m H) (hp : H p = none) : p ≠ D ∧ p ≠ C := by
  obtain ⟨n, cs, d, _⟩ := d
  exact ⟨fun z => (by rw [z, d.hD] at hp; cases hp), fun z => (by rw [z, d.hC] at hp; cases hp)⟩
end
/-- _law_draw -/
def spDraw : Sp := fun vs H Q _ => ∃ D C m k, vs = [.ref D, .int k] ∧ Deck D C m H ∧ m ≤ 1000000000 ∧ 1 ≤ k ∧ k ≤ 1000000001 ∧ ∀ r H', 0 ≤ r → r < k → Kp D C H H' → Deck D C (m + 1) H' → Q (.int r) H'
/-- _law_deck -/
def spDeck (K : PySem.W.Frag) : Sp := fun vs H Q _ => ∃ (a : Addr) (ns : List Int), vs = [.ref a] ∧ SqL K H a (ns.map V.int) ∧ ns.length ≤ 63 ∧ ∀ D C H', H D = none → H C = none → Ex H H' → Deck D C 0 H' → Q (.ref D) H'
/-! ### evaluation that draws -/
def DrI (D C : Addr) (te : TE) (σ : L2.St) (m m' : Int) (R : Int → Prop) : Prop := ∀ H1, Deck D C m H1 → ∀ Q : VK, (∀ i H2, Kp D C H1 H2 → Deck D C m' H2 → R i → Q (.int i) H2) → te σ H1 Q
def DrA (D C : Addr) (ta : TA) (σ : L2.St) (m m' : Int) (n : Nat) (R : Int → Prop) : Prop := ∀ H1, Deck D C m H1 → ∀ Q : List V → Hp → Prop, (∀ (is : List Int) H2, Kp D C H1 H2 → Deck D C m' H2 → is.length = n → (∀ i ∈ is, R i) → Q (is.map V.int) H2) → ta σ H1 Q
section
variable {D C : Addr} {K : PySem.W.Frag} {σ : L2.St} {m m1 m2 : Int} {R R1 R2 : Int → Prop} {ta tb te : TE} {n : Nat}
theorem dr_pure {i : Int} (h : ∀ H, Ev te σ H (.int i)) (r : R i) : DrI D C te σ m m R := fun H1 d Q q => h H1 H1 (Ex.refl H1) Q fun H2 e2 => q i H2 (Kp.ex e2) (d.ex e2) r
theorem dr_imp (h : DrI D C te σ m m1 R1) (k : ∀ i, R1 i → R i) : DrI D C te σ m m1 R := fun H1 d Q q => h H1 d Q fun i H2 k2 d2 r => q i H2 k2 d2 (k i r)
theorem dr_draw {tk : TE} {E : XK} {k : Int} (h0 : σ[0]? = some (some (.ref D))) (hk : ∀ H, Ev tk σ H (.int k)) (mb : m ≤ 1000000000) (k1 : 1 ≤ k) (k2 : k ≤ 1000000001) (hm : m1 = m + 1 := by omega) : DrI D C (tCall spDraw [] E (tCons (tVar 0) (tCons tk tNil))) σ m m1 (fun r => 0 ≤ r ∧ r < k) := hm ▸ fun H1 d Q q =>
  ⟨.ref D, h0, hk H1 H1 (Ex.refl H1) _ fun H2 e2 => ⟨D, C, m, k, rfl, d.ex e2, mb, k1, k2, fun r H3 r0 r1 kp d3 => q r H3 ((Kp.ex e2).trans kp) d3 ⟨r0, r1⟩⟩⟩
theorem dr_op {f : Int → Int → Int} (ha : DrI D C ta σ m m1 R1) (hb : DrI D C tb σ m1 m2 R2) (k : ∀ i j, R1 i → R2 j → R (f i j)) : DrI D C (tOp (rI0 fun i j => .int (f i j)) ta tb) σ m m2 R := fun H1 d Q q =>
  ha H1 d _ fun i H2 kp2 d2 r1 => hb H2 d2 _ fun j H3 kp3 d3 r2 => ⟨i, j, rfl, rfl, q _ H3 (kp2.trans kp3) d3 (k i j r1 r2)⟩
theorem da_nil : DrA D C tNil σ m m 0 R := fun H1 d Q q => q [] H1 Kp.refl d rfl (fun _ h => nomatch h)
theorem da_cons {tr : TA} (ha : DrI D C ta σ m m1 R) (hr : DrA D C tr σ m1 m2 n R) : DrA D C (tCons ta tr) σ m m2 (n + 1) R := fun H1 d Q q =>
  ha H1 d _ fun i H2 kp2 d2 r1 => hr H2 d2 _ fun is H3 kp3 d3 len rs => q (i :: is) H3 (kp2.trans kp3) d3 (by simp [len]) (fun j hj => by
    rcases List.mem_cons.mp hj with e | e
    · rw [e]; exact r1
    · exact rs j e)
/-- [a, b, ..][drawn] -/
theorem dr_pick {tr : TA} (hr : DrA D C tr σ m m1 n R) (hi : DrI D C te σ m1 m2 (fun r => 0 ≤ r ∧ r < (n : Int))) (few : n ≤ 100000) : DrI D C (tOp (rIxL K) (tLst tr) te) σ m m2 R := fun H1 d Q q =>
  hr H1 d _ fun is H2 kp2 d2 len rs => ⟨sz_of (by rw [List.length_map, len]; exact few), fun p np => by
    have eN := Ex.new (o := .lst (is.map V.int)) np
    have dN := d2.ex eN
    obtain ⟨n1, n2⟩ := Kp.free d2 np
    refine hi _ dN _ fun r H3 kp3 d3 r01 => ?_
    obtain ⟨j, rfl⟩ : ∃ j : Nat, r = j := ⟨r.toNat, by omega⟩
    have jl : j < is.length := by omega
    have at3 : H3 p = some (.lst (is.map V.int)) := kp3 p _ n1 n2 upd_same
    exact ⟨p, _, (j : Int), .int is[j], rfl, rfl, sq_of at3, atI_nat (by rw [List.getElem?_map, List.getElem?_eq_getElem jl]; rfl), q _ H3 ((kp2.trans (Kp.ex eN)).trans kp3) d3 (rs _ (List.getElem_mem jl))⟩⟩
end
/-! ### gardens that are drawn -/
structure GOk (most top : Int) (t c : Int) (bs : List Bed) : Prop where
  t0 : -1000000 ≤ t
  t1 : t ≤ 1000000
  c0 : 1 ≤ c
  c1 : c ≤ 1000000
  asc : Asc (bs.map (·.1))
  p0 : ∀ b ∈ bs, -1000000 ≤ b.1
  p1 : ∀ b ∈ bs, b.1 ≤ 1000000
  l0 : ∀ b ∈ bs, 1 ≤ b.2
  l1 : ∀ b ∈ bs, b.2 ≤ 12 ∨ b.2 ≤ top
  few : (bs.length : Int) ≤ most
/-- the garden at v; its beds are a tuple of no further attributes -/
def GAt (H : Hp) (v : V) (t c : Int) (bs : List Bed) : Prop := ∃ g b xs o, v = .ref g ∧ Rd H g (.tup [.int t, .int c, .ref b]) ∧ H b = some (.frz o (.tup xs)) ∧ o.dict = none ∧ TpAll H xs (bs.map bedD)
theorem GAt.tp {H : Hp} {v : V} {t c : Int} {bs : List Bed} (h : GAt H v t c bs) : Tp H v (gardenD t c bs) := by
  obtain ⟨g, b, xs, o, rfl, hg, hb, _, hx⟩ := h
  exact garden_of hg (.inr ⟨o, hb⟩) hx
theorem GAt.ex {H H' : Hp} {v : V} {t c : Int} {bs : List Bed} (e : Ex H H') (h : GAt H v t c bs) : GAt H' v t c bs := by
  obtain ⟨g, b, xs, o, rfl, hg, hb, hd, hx⟩ := h
  exact ⟨g, b, xs, o, rfl, ex_rd e hg, e _ _ hb, hd, hx.mono (Tk.ex e)⟩
theorem GAt.kp {D C : Addr} {m : Int} {H H' : Hp} {v : V} {t c : Int} {bs : List Bed} (d : Deck D C m H) (k : Kp D C H H') (h : GAt H v t c bs) : GAt H' v t c bs := by
  obtain ⟨g, b, xs, o, rfl, hg, hb, hd, hx⟩ := h
  have tk := Kp.tk d k
  refine ⟨g, b, xs, o, rfl, tk.1 _ _ hg, k b _ ?_ ?_ hb, hd, hx.mono tk⟩
  · obtain ⟨n, cs, d, _⟩ := d
    exact ne_of hb d.hD (by intro z; cases z)
  · obtain ⟨n, cs, d, _⟩ := d
    exact ne_of hb d.hC (by intro z; cases z)
def spGarden : Sp := fun vs H Q _ => ∃ D C m most top, vs = [.ref D, .int most, .int top] ∧ Deck D C m H ∧ m ≤ 900000000 ∧ 1 ≤ most ∧ most ≤ 12 ∧ 1 ≤ top ∧ top ≤ 1000000000 ∧
  ∀ v t c bs H', GOk most top t c bs → GAt H' v t c bs → Kp D C H H' → Deck D C (m + 100) H' → Q v H'
theorem pow6 : (10 : Int) ^ (6 : Int).toNat = 1000000 := by decide
theorem pow9 : (10 : Int) ^ (9 : Int).toNat = 1000000000 := by decide
theorem pow18 : (10 : Int) ^ (18 : Int).toNat = 1000000000000000000 := by decide
end Cn

namespace Cn
open PySem PySem.Spec PyProof.Rows L2 Evl
/-! ### sizes of data -/
theorem smI {i : Int} (h0 : -(10 ^ 39) ≤ i) (h1 : i ≤ 10 ^ 39) : sm (.int i) = true := by
  simp only [sm, decide_eq_true_eq]
  have : (10 : Int) ^ 39 < 10 ^ 40 := by decide
  omega
theorem smAll_of : ∀ {ds : List PyData}, (∀ d ∈ ds, sm d = true) → smAll ds = true
  | [], _ => rfl
  | d :: ds, h => by
    simp only [smAll, Bool.and_eq_true]
    exact ⟨h d (List.mem_cons_self ..), smAll_of fun e he => h e (List.mem_cons_of_mem _ he)⟩
theorem wtAll_le {k : Nat} : ∀ {ds : List PyData}, (∀ d ∈ ds, wt d ≤ k) → wtAll ds ≤ (k + 2) * ds.length
  | [], _ => by simp [wtAll]
  | d :: ds, h => by
    have h1 := h d (List.mem_cons_self ..)
    have h2 := wtAll_le (ds := ds) fun e he => h e (List.mem_cons_of_mem _ he)
    simp only [wtAll, List.length_cons, Nat.mul_add, Nat.mul_one]
    omega
theorem dpAll_le {k : Nat} : ∀ {ds : List PyData}, (∀ d ∈ ds, dp d ≤ k) → dpAll ds ≤ k
  | [], _ => by simp [dpAll]
  | d :: ds, h => by
    have h1 := h d (List.mem_cons_self ..)
    have h2 := dpAll_le (ds := ds) fun e he => h e (List.mem_cons_of_mem _ he)
    simp only [dpAll]
    omega
/-- data that repr shows: small, at most k signs, at most n deep -/
def Sh (d : PyData) (k n : Nat) : Prop := sm d = true ∧ wt d ≤ k ∧ dp d ≤ n
theorem Sh.mono {d : PyData} {k k' n n' : Nat} (h : Sh d k n) (a : k ≤ k') (b : n ≤ n') : Sh d k' n' := ⟨h.1, Nat.le_trans h.2.1 a, Nat.le_trans h.2.2 b⟩
theorem sh_int {i : Int} (h0 : -(10 ^ 39) ≤ i) (h1 : i ≤ 10 ^ 39) : Sh (.int i) 100 0 := ⟨smI h0 h1, Nat.le_refl _, Nat.le_refl _⟩
theorem sh_tup {ds : List PyData} {k n m : Nat} (h : ∀ d ∈ ds, Sh d k n) (hm : (k + 2) * ds.length + 3 ≤ m) : Sh (.tuple ds) m (n + 1) := by
  have h2 := wtAll_le fun d hd => (h d hd).2.1
  have h3 := dpAll_le fun d hd => (h d hd).2.2
  refine ⟨by simp only [sm]; exact smAll_of fun d hd => (h d hd).1, by simp only [wt]; omega, by simp only [dp]; omega⟩
theorem sh_lst {ds : List PyData} {k n m : Nat} (h : ∀ d ∈ ds, Sh d k n) (hm : (k + 2) * ds.length + 3 ≤ m) : Sh (.list ds) m (n + 1) := by
  have h2 := wtAll_le fun d hd => (h d hd).2.1
  have h3 := dpAll_le fun d hd => (h d hd).2.2
  refine ⟨by simp only [sm]; exact smAll_of fun d hd => (h d hd).1, by simp only [wt]; omega, by simp only [dp]; omega⟩
theorem sh_bed {b : Bed} (h0 : -(10 ^ 39) ≤ b.1) (h1 : b.1 ≤ 10 ^ 39) (h2 : -(10 ^ 39) ≤ b.2) (h3 : b.2 ≤ 10 ^ 39) : Sh (bedD b) 207 1 := by
  refine sh_tup (k := 100) (n := 0) (fun d hd => ?_) (by simp)
  simp only [List.mem_cons, List.not_mem_nil, or_false] at hd
  rcases hd with rfl | rfl
  · exact sh_int h0 h1
  · exact sh_int h2 h3
theorem sh_garden {t c : Int} {bs : List Bed} (t0 : -(10 ^ 39) ≤ t) (t1 : t ≤ 10 ^ 39) (c0 : -(10 ^ 39) ≤ c) (c1 : c ≤ 10 ^ 39) (hb : ∀ b ∈ bs, -(10 ^ 39) ≤ b.1 ∧ b.1 ≤ 10 ^ 39 ∧ -(10 ^ 39) ≤ b.2 ∧ b.2 ≤ 10 ^ 39) (few : bs.length ≤ 40) : Sh (gardenD t c bs) 30000 3 := by
  have hbs : Sh (bedsD bs) 8400 2 := by
    refine sh_tup (k := 207) (n := 1) (fun d hd => ?_) (by rw [List.length_map]; omega)
    obtain ⟨b, m, rfl⟩ := List.mem_map.mp hd
    obtain ⟨a1, a2, a3, a4⟩ := hb b m
    exact sh_bed a1 a2 a3 a4
  refine sh_tup (k := 8400) (n := 2) (fun d hd => ?_) (by simp)
  simp only [List.mem_cons, List.not_mem_nil, or_false] at hd
  rcases hd with rfl | rfl | rfl
  · exact (sh_int t0 t1).mono (by omega) (by omega)
  · exact (sh_int c0 c1).mono (by omega) (by omega)
  · exact hbs
theorem sum_le {B : Int} (hB : 0 ≤ B) : ∀ {l : List Int}, (∀ x ∈ l, 0 ≤ x ∧ x ≤ B) → 0 ≤ l.sum ∧ l.sum ≤ B * l.length
  | [], _ => by simp
  | x :: r, h => by
    have h1 := h x (List.mem_cons_self ..)
    have h2 := sum_le hB (l := r) fun y hy => h y (List.mem_cons_of_mem _ hy)
    simp only [List.sum_cons, List.length_cons]
    have : B * ((r.length + 1 : Nat) : Int) = B * r.length + B := by
      rw [show ((r.length + 1 : Nat) : Int) = (r.length : Int) + 1 by omega, Int.mul_add, Int.mul_one]
    omega
section
variable {K : PySem.W.Frag} {w : World} {σ : L2.St} {H H' : Hp} {ta tb te tx : TE} {t u : TT} {x y z v : V} {d e : PyData} {ds es : List PyData}
/-! ### more evaluation -/
/-- a call with one argument that is data -/
theorem ed_call1 {sp : Sp} {E : XK} {d1 : PyData} (h : EvD ta σ H d1) (hs : ∀ v H1, Ex H H1 → Tp H1 v d1 → ∀ Q : VK, (∀ z H2, Ex H1 H2 → Tp H2 z d → Q z H2) → ∀ E : XK, sp [v] H1 Q E) : EvD (tCall sp [] E (tCons ta tNil)) σ H d := fun H1 e Q q =>
  h H1 e _ fun v H2 e2 t2 => hs v H2 (e.trans e2) t2 Q (fun z H3 e3 t3 => q z H3 (e2.trans e3) t3) E
/-- a == b of data -/
theorem ev_eqD (ha : EvD ta σ H d) (hb : EvD tb σ H e) (sd : SeqAt.shaped d = true) (se : SeqAt.shaped e = true) : Ev (tOp (rEqD K) ta tb) σ H (.bl (PyData.eqv d e)) := fun H1 e1 Q q =>
  ha H1 e1 _ fun v H2 e2 t2 => hb H2 (e1.trans e2) _ fun v' H3 e3 t3 => ⟨d, e, (t2.mono (Tk.ex e3)).dp (nd_shaped sd), t3.dp (nd_shaped se), sd, se, q H3 (e2.trans e3)⟩
/-- the walk over a tuple of beds that comes out of an expression -/
theorem eld_bedsD {tl : TE} {bs : List Bed} {i j : Nat} {vs : List Nat} (f : Bed → Bool) (dd : Bed → PyData) (h : EvD tl σ H (bedsD bs)) (few : bs.length ≤ 50000)
    (hw : ∀ p l, wipe (((wipe σ vs).set i (some p)).set j (some l)) vs = wipe σ vs)
    (ht : ∀ b ∈ bs, EvT t (((wipe σ vs).set i (some (.int b.1))).set j (some (.int b.2))) H (f b)) (he : ∀ b ∈ bs, f b = true → EvD te (((wipe σ vs).set i (some (.int b.1))).set j (some (.int b.2))) H (dd b)) :
    EvLd (tLc (iTup K tl) (gPair K i j) t te vs) σ H ((bs.filter f).map dd) := fun H0 e0 Q q => h H0 e0 _ fun v H1 e1 tv => by
  obtain ⟨a, xs, rfl, ha, hb⟩ := tv.tup_inv
  exact eld_beds (K := K) (tl := tC (.ref a)) f dd ev_c ha hb few hw (fun b m => (ht b m).mono (e0.trans e1)) (fun b m hf => (he b m hf).mono (e0.trans e1)) H1 (Ex.refl H1) Q fun p ys H2 hp e2 h2 t2 => q p ys H2 (fresh_back e1 hp) (e1.trans e2) h2 t2
theorem cutInit (xs : List V) : cutV xs none (some (-1)) = xs.dropLast := by
  have e : HT.sIx xs.length xs.length (some (-1)) = xs.length - 1 := by
    show (if (-1 : Int) < 0 then ((-1 : Int) + (xs.length : Int)).toNat else min (-1 : Int).toNat xs.length) = _
    rw [if_pos (by decide)]
    omega
  unfold cutV
  rw [e, HT.sIx_none, List.dropLast_eq_take]
  simp
theorem TpAll.init {xs : List V} (h : TpAll H xs ds) : TpAll H xs.dropLast ds.dropLast := by
  rw [List.dropLast_eq_take, List.dropLast_eq_take, h.length]
  exact h.take _
/-- t[:-1] -/
theorem ed_init {to1 : TO} {tn : TE} (h : EvD te σ H (.tuple ds)) (hn : Ev tn σ H (.int (-1))) : EvD (tSl (rSlA K) te tNoPart (tPart tn)) σ H (.tuple ds.dropLast) := fun H1 e1 Q q =>
  h H1 e1 _ fun v H2 e2 tv => hn H2 (e1.trans e2) _ fun H3 e3 => by
    obtain ⟨a, xs, rfl, ha, hb⟩ := (tv.mono (Tk.ex e3)).tup_inv
    have ti := hb.init
    refine ⟨-1, rfl, a, xs, rfl, sr ha, fun hw => ?_, fun _ p hp => ?_⟩
    · have e : HT.sIx xs.length xs.length (some (-1)) = xs.length - 1 := by
        show (if (-1 : Int) < 0 then ((-1 : Int) + (xs.length : Int)).toNat else min (-1 : Int).toNat xs.length) = _
        rw [if_pos (by decide)]
        omega
      have l0 : xs.length = 0 := by
        have := hw.2
        rw [e] at this
        omega
      have x0 : xs = [] := List.length_eq_zero_iff.mp l0
      subst x0
      refine q _ H3 (e2.trans e3) (.tup ha ?_)
      exact ti
    · refine q _ _ ((e2.trans e3).trans (Ex.new hp)) (.tup (.inl upd_same) ?_)
      rw [cutInit]
      exact ti.mono (Tk.ex (Ex.new hp))
/-- [.. for k in range(n)], each turn the same -/
theorem eld_range {ta : TA} {j : Nat} {vs : List Nat} {n : Nat} (h : EvA ta σ H [.int n]) (few : n ≤ 50000) (dd : Nat → PyData) (hw : ∀ x, wipe ((wipe σ vs).set j (some x)) vs = wipe σ vs)
    (he : ∀ i : Nat, i < n → EvD te ((wipe σ vs).set j (some (.int (i : Int)))) H (dd i)) : EvLd (tLc (iRng1 ta) (gName j) tYes te vs) σ H ((List.range n).map dd) := fun H0 e0 Q q => h H0 e0 _ fun H1 e1 => by
  refine ⟨(n : Int), rfl, by omega, by omega, ?_⟩
  have eN : ((n : Int)).toNat = n := by omega
  rw [eN]
  refine lc_pure (walk_range (lo := 0) (n := n)) few (fun _ => true) dd (fun _ _ => trivial) ?_ ?_
  · rintro i x H2 _ hi e2 ⟨rfl, rfl⟩
    refine ⟨Ex.refl _, _, fun R r => r, hw _, et_yes, fun _ => ?_⟩
    dsimp only
    rw [show (0 : Int) + (i : Int) = i by omega]
    exact (he i hi).mono ((e0.trans e1).trans e2)
  · intro p xs H2 hp e2 h2 t2
    have : givD n (fun _ => true) dd = (List.range n).map dd := by
      unfold givD
      rw [List.filter_eq_self.mpr (fun _ _ => rfl)]
    rw [this] at t2
    exact q p xs H2 (fresh_back e1 hp) (e1.trans e2) h2 t2
/-- _law_same -/
def spSame (K : PySem.W.Frag) : Sp := fun vs H Q _ => ∃ a b d, vs = [a, b] ∧ Dp K H a d ∧ Dp K H b d ∧ sm d = true ∧ wt d ≤ 1000000 ∧ dp d ≤ 50 ∧ Q (.bl true) H
theorem ev_same {E : XK} (h1 : EvLd ta σ H ds) (h2 : EvLd tb σ H ds) (sh : Sh (.list ds) 1000000 50) : Ev (tCall (spSame K) [] E (tCons ta (tCons tb tNil))) σ H (.bl true) := fun H1 e1 Q q =>
  h1 H1 e1 _ fun p xs H2 hp e2 hx t2 => h2 H2 (e1.trans e2) _ fun p' ys H3 hp' e3 hy t3 => ⟨.ref p, .ref p', .list ds, rfl, .lst (sq_of (e3 p _ hx)) ((t2.mono (Tk.ex e3)).dp (nd_smAll sh.1)), .lst (sq_of hy) (t3.dp (nd_smAll sh.1)), sh.1, sh.2.1, sh.2.2, q H3 (e2.trans e3)⟩
/-- repr(x) of data in a name -/
theorem ev_repr (h : EvD te σ H d) (sh : Sh d 1000000 50) : Ev (tCB (rRepr K) (tCons te tNil)) σ H (.str d.shown) := fun H1 e1 Q q =>
  h H1 e1 _ fun v H2 e2 t2 => ⟨v, d, rfl, t2.dp (nd_sm sh.1), sh.1, sh.2.1, sh.2.2, q H2 e2⟩
end
end Cn

namespace Cn
open PySem PySem.Spec PyProof.Rows L2 Evl
section
variable {X : Cx}
/-- tuple(list): a tuple of no further attributes -/
def rTupF (K : PySem.W.Frag) : List V → Hp → VK → Prop := fun xs H Q => ∃ p ys, xs = [.ref p] ∧ SqL K H p ys ∧ ∀ l o, H l = none → o.dict = none → Q (.ref l) (upd H l (.frz o (.tup ys)))
theorem call_tupleF : CallR X (.type "tuple") (rTupF X.K) := by
  rintro pins s σ H _ us Q I rel ⟨p, ys, rfl, sq, q⟩
  obtain ⟨_, rfl, rp⟩ := vals1 rel
  cases rp
  obtain ⟨its, rv, pl, size⟩ := I.list sq
  have len := rv.length
  refine call_tuple_list pl.isList (fun h' kp => ?_) (by simp only [List.size_toArray]; omega)
  have I1 := I.kept (h' := h') (t' := s.toks) kp
  have here : (h'.push { cls := .type "tuple", data := .seq its.toArray }).get? h'.objs.size = some { cls := .type "tuple", data := .seq its.toArray } := Heap.get?_push_size _ rfl
  exact ⟨.ref h'.objs.size, _, I1.laid (o := .frz { cls := .type "tuple", data := .seq its.toArray } (.tup ys)) (t' := s.toks) (fun b o e => Heap.get?_push_of_some _ e) (Nat.le_refl _) ⟨here, size, its, rv, ⟨_, here, rfl, _, rfl⟩⟩, rfl, q _ _ (I1.hok.fresh (Nat.le_refl _)) rfl⟩
/-- the pairs of a tuple, as the machine has them -/
theorem pairs_vals {pins : List (Addr × Obj)} {σ : L2.St} {H : Hp} {s : Shared} (I : Inv X pins σ H s) : ∀ {ps : List Addr} {kvs : List (Key × V)}, Paired (fun p kv => SqT X.K H p [kV kv.1, kv.2]) ps kvs →
    ∃ (prs : List (Key × Value)) (us : List Value), KV kvs prs ∧ prs.length = ps.length ∧ us.length = ps.length ∧ ∀ (j : Nat) (q : Key × Value) (u : Value), prs[j]? = some q → us[j]? = some u → ∃ b, ps[j]? = some b ∧ IsTup s.heap b #[u, q.2] ∧ keyIs q.1 u = true
  | _, _, .nil => ⟨[], [], .nil, rfl, rfl, fun j q u e => by simp at e⟩
  | _, _, .cons (a := p) (b := kv) h t => by
    obtain ⟨prs, us, r, l1, l2, hp⟩ := pairs_vals I t
    obtain ⟨its, rv, ht, _⟩ := I.tuple h
    obtain ⟨u, y, rfl, ru, ry⟩ := vals2 rv
    refine ⟨(kv.1, y) :: prs, u :: us, .cons ⟨rfl, ry⟩ r, by simp [l1], by simp [l2], fun j q w e1 e2 => ?_⟩
    cases j with
    | zero =>
      simp only [List.getElem?_cons_zero, Option.some.injEq] at e1 e2
      subst e1 e2
      exact ⟨p, rfl, ht, kV_is (P := X.prog) (w := X.w) ru⟩
    | succ j => simpa using hp j q w (by simpa using e1) (by simpa using e2)
/-- dict(tuple of pairs) -/
def rDictT (K : PySem.W.Frag) : List V → Hp → VK → Prop := fun xs H Q => ∃ (a : Addr) (o : Obj) (ps : List Addr) (kvs : List (Key × V)), xs = [.ref a] ∧ H a = some (.frz o (.tup (ps.map V.ref))) ∧ o.dict = none ∧ Paired (fun p kv => SqT K H p [kV kv.1, kv.2]) ps kvs ∧
  ∀ p, H p = none → Q (.ref p) (upd H p (.dK (mergeK [] kvs)))
theorem call_dictT (calm : X.calm = true) : CallR X (.type "dict") (rDictT X.K) := by
  rintro pins s σ H _ us Q I rel ⟨a, o, ps, kvs, rfl, ha, nod, hp, q⟩
  obtain ⟨_, rfl, rp⟩ := vals1 rel
  cases rp
  obtain ⟨at_a, size, its, rv, ob, ho, hc, n, hd⟩ := I.hok a _ ha
  obtain rfl : o = ob := Option.some.inj (at_a.symm.trans ho)
  obtain rfl := refs_at rv
  rw [List.length_map] at size
  obtain ⟨prs, us, r, l1, l2, key⟩ := pairs_vals I hp
  have val : ∀ j (hj : j < ps.length), ∃ k v u, prs[j]? = some (k, v) ∧ us[j]? = some u ∧ IsTup s.heap ps[j] #[u, v] ∧ keyIs k u = true := by
    intro j hj
    have e1 : prs[j]? = some prs[j] := List.getElem?_eq_getElem (by omega)
    have e2 : us[j]? = some us[j] := List.getElem?_eq_getElem (by omega)
    obtain ⟨b, eb, tb, kb⟩ := key j _ _ e1 e2
    rw [List.getElem?_eq_getElem hj] at eb
    cases eb
    exact ⟨_, _, _, e1, e2, tb, kb⟩
  let pv : List (Value × Value) := us.zip (prs.map (·.2))
  have lpv : pv.length = ps.length := by simp [pv, l1, l2]
  have pvAt : ∀ j k v, pv[j]? = some (k, v) → us[j]? = some k ∧ (prs.map (·.2))[j]? = some v := fun j k v e => List.getElem?_zip_eq_some.mp e
  refine PySem.call_dict_pairs (knd := mixKind X.prog X.w) (kvs := prs) (PairArg.tuple a (ps.map Value.ref).toArray (fun j => ps.getD j 0) pv) (I.ok.hd calm) ⟨⟨o, n, ho, hc, nod, hd⟩, by simp [lpv], fun j k v e => ?_⟩ ⟨by omega, fun i key' v e => ?_⟩ (by omega) fun h' tk hd' k => ?_
  · obtain ⟨e1, e2⟩ := pvAt j k v e
    have hj : j < ps.length := by
      have := (List.getElem?_eq_some_iff.mp e1).1
      omega
    obtain ⟨k0, v0, u0, p1, p2, p3, p4⟩ := val j hj
    rw [p2] at e1
    cases e1
    rw [List.getElem?_map, p1] at e2
    cases e2
    have ej : ps.getD j 0 = ps[j] := by simp [List.getD, List.getElem?_eq_getElem hj]
    dsimp only
    rw [ej]
    exact ⟨by simp [hj], .inl p3⟩
  · obtain ⟨e1, e2⟩ := pvAt i key' v e
    have hj : i < ps.length := by
      have := (List.getElem?_eq_some_iff.mp e1).1
      omega
    obtain ⟨k0, v0, u0, p1, p2, p3, p4⟩ := val i hj
    rw [p2] at e1
    cases e1
    rw [List.getElem?_map, p1] at e2
    cases e2
    exact ⟨k0, p1, p4⟩
  · have big : (s.heap.objs.size == sysModules) = false := beq_eq_false_iff_ne.mpr (Nat.ne_of_gt I.big)
    have few : (mergeK [] kvs).length ≤ sizeLine := by
      have h1 := length_mergeK kvs []
      have h2 := r.length
      simp only [List.length_nil, Nat.zero_add] at h1
      omega
    exact ⟨.ref s.heap.objs.size, upd H s.heap.objs.size (.dK (mergeK [] kvs)), I.laid (t' := tk) (fun b u e => k b u (by simp) e) (Nat.le_refl _) ⟨few, big, merged [] prs, KV.merge r .nil, hd'⟩, rfl, q _ (I.hok.fresh (Nat.le_refl _))⟩
end
section
variable {K : PySem.W.Frag} {σ : L2.St} {H : Hp} {te : TE} {ds : List PyData}
/-- tuple(new list) -/
theorem ed_tupleOf (h : EvLd te σ H ds) : EvD (tCB (rTupF K) (tCons te tNil)) σ H (.tuple ds) := fun H1 e Q q =>
  h H1 e _ fun p xs H2 hp e2 h2 t2 => ⟨p, xs, rfl, sq_of h2, fun l o hl _ => q _ _ (e2.trans (Ex.new hl)) (.tup (.inr ⟨o, upd_same⟩) (t2.mono (Tk.ex (Ex.new hl))))⟩
end
end Cn

namespace Cn
open PySem PySem.Spec PyProof.Rows L2 Evl
/-! ### rules that name the written part -/
section
variable {X : Cx} {K : PySem.W.Frag}
theorem ix_tupK (h : X.K = K) : IxR X (rIxT K) := h ▸ ix_tup
theorem ix_listK (h : X.K = K) : IxR X (rIxL K) := h ▸ ix_list
theorem sl_listK (h : X.K = K) : SlR X (rSlL K) := h ▸ sl_list
theorem sl_tupK (h : X.K = K) : SlR X (rSlA K) := h ▸ sl_tupA
theorem op_catK (h : X.K = K) : OpR X (binaryOp .Add) (rCatA K) := h ▸ op_catA
theorem call_dictK (h : X.K = K) (c : X.calm = true) : CallR X (.type "dict") (rDictT K) := h ▸ call_dictT c
theorem call_tupleK (h : X.K = K) : CallR X (.type "tuple") (rTupF K) := h ▸ call_tupleF
def rLen (K : PySem.W.Frag) : List V → Hp → VK → Prop := fun xs H Q => ∃ p ys, xs = [.ref p] ∧ (SqL K H p ys ∨ SqT K H p ys) ∧ Q (.int ys.length) H
theorem call_lenK (h : X.K = K) : CallR X (.builtin "len") (rLen K) := h ▸ call_len_seq
theorem cr_sumK (h : X.K = K) (c : X.calm = true) : CallR X (.builtin "sum") (rSum K) := h ▸ cr_sum c
theorem cr_setK (h : X.K = K) (c : X.calm = true) : CallR X (.type "set") (rSetL K X.w) := h ▸ cr_setL c
theorem op_eqK (h : X.K = K) (u : X.A.units + 64 < cLine) : OpR X (compareOp .Eq) (rEqD K) := h ▸ op_eqD u
theorem op_neK (h : X.K = K) (u : X.A.units + 64 < cLine) : OpR X (compareOp .NotEq) (rNeD K) := h ▸ op_neD u
theorem call_reprK (h : X.K = K) (g : X.A.guards = some []) (u : X.A.units + 64 < cLine) : CallR X (.builtin "repr") (rRepr K) := h ▸ call_repr g u
theorem pi_tupK {tg l : Expr} {tl : TE} (h : X.K = K) (hl : PE X l tl) : PI X tg l (iTup K tl) := h ▸ pi_tup hl
theorem pi_listK {tg l : Expr} {tl : TE} (h : X.K = K) (hl : PE X l tl) : PI X tg l (iList K tl) := h ▸ pi_list hl
end
/-! ### dicts of ints -/
def dictOf (ws : List Bed) : List (Key × V) := ws.map fun b => (Sum.inl b.1, V.int b.2)
theorem valV_dictOf {p w : Int} : ∀ {ws : List Bed}, (ws.map (·.1)).Nodup → (p, w) ∈ ws → valV (dictOf ws) (.inl p) = some (.int w)
  | [], _, h => nomatch h
  | b :: ws, nd, h => by
    have nd' := List.nodup_cons.mp (show (b.1 :: ws.map (·.1)).Nodup from nd)
    rcases List.mem_cons.mp h with e | e
    · subst e
      exact valV_pos (p := (Sum.inl p, V.int w)) rfl
    · have ne : b.1 ≠ p := fun z => nd'.1 (z ▸ List.mem_map_of_mem e)
      show valV ((Sum.inl b.1, V.int b.2) :: dictOf ws) (.inl p) = _
      rw [valV_neg (fun z => ne (Sum.inl.inj z))]
      exact valV_dictOf nd'.2 e
theorem valV_dictOf_none {p : Int} : ∀ {ws : List Bed}, p ∉ ws.map (·.1) → valV (dictOf ws) (.inl p) = none
  | [], _ => rfl
  | b :: ws, h => by
    have h' : p ≠ b.1 ∧ p ∉ ws.map (·.1) := by simpa using h
    show valV ((Sum.inl b.1, V.int b.2) :: dictOf ws) (.inl p) = _
    rw [valV_neg (fun z => h'.1 (Sum.inl.inj z).symm)]
    exact valV_dictOf_none h'.2
theorem putK_new {ws : List Bed} {p w : Int} (h : p ∉ ws.map (·.1)) : putK (dictOf ws) (.inl p) (.int w) = dictOf (ws ++ [(p, w)]) := by
  unfold putK
  rw [valV_any, valV_dictOf_none h, if_neg (by simp)]
  simp [dictOf]
theorem mergeK_new : ∀ {bs ws : List Bed}, ((ws ++ bs).map (·.1)).Nodup → mergeK (dictOf ws) (dictOf bs) = dictOf (ws ++ bs)
  | [], ws, _ => by simp [mergeK, dictOf]
  | b :: bs, ws, nd => by
    have hn : b.1 ∉ ws.map (·.1) := by
      rw [List.map_append, List.nodup_append] at nd
      intro z
      exact nd.2.2 _ z _ (List.mem_cons_self ..) rfl
    show mergeK (putK (dictOf ws) (.inl b.1) (.int b.2)) (dictOf bs) = _
    rw [putK_new hn, mergeK_new (by simpa using nd)]
    simp
section
variable {K : PySem.W.Frag} {σ : L2.St} {H : Hp} {ta tb te td ty tl : TE} {t u : TT} {v : V}
theorem ev_dget {W : Addr} {kvs : List (Key × V)} {p : Int} (hd : Ev td σ H (.ref W)) (hy : Ev ty σ H (.int p)) (h : H W = some (.dK kvs)) (hv : valV kvs (.inl p) = some v) : Ev (tDGet td ty) σ H v := fun H1 e Q q =>
  hd H1 e _ fun H2 e2 => hy H2 (e.trans e2) _ fun H3 e3 => ⟨W, v, rfl, .inl ⟨kvs, .inl p, .inl (((e.trans e2).trans e3) W _ h), rfl, hv.symm⟩, q H3 (e2.trans e3)⟩
theorem ev_min2 {i j : Int} (ha : Ev ta σ H (.int i)) (hb : Ev tb σ H (.int j)) : Ev (tCB (fun xs H Q => ∃ i j, xs = [V.int i, V.int j] ∧ Q (.int (if j < i then j else i)) H) (tCons ta (tCons tb tNil))) σ H (.int (if j < i then j else i)) := fun H1 e Q q =>
  ha H1 e _ fun H2 e2 => hb H2 (e.trans e2) _ fun H3 e3 => ⟨i, j, rfl, q H3 (e2.trans e3)⟩
def rSortDI : List V → Hp → VK → Prop := fun xs H Q => ∃ (a : Addr) (kvs : List (Key × V)) (ks : List Int), xs = [.ref a] ∧ Rd H a (.dK kvs) ∧ kvs.map (·.1) = ks.map Sum.inl ∧ ks.length < 64 ∧ ∀ (ys : List Int) (p : Addr), ys.Perm ks → ys.Pairwise (· ≤ ·) → H p = none → Q (.ref p) (upd H p (.lst (ys.map V.int)))
theorem asc_of {ys ks : List Int} (p : ys.Perm ks) (s : ys.Pairwise (· ≤ ·)) (nd : ks.Nodup) : ys = sortU ks := by
  have nd' : ys.Nodup := p.nodup_iff.mpr nd
  refine sortU_eq (List.Pairwise.imp₂ (fun a b h1 h2 => by omega) s nd') fun k => p.mem_iff
/-- sorted(dict) -/
theorem el_sortD {W : Addr} {ws : List Bed} (hd : Ev td σ H (.ref W)) (h : H W = some (.dK (dictOf ws))) (nd : (ws.map (·.1)).Nodup) (few : ws.length < 64) : EvL (tCB rSortDI (tCons td tNil)) σ H ((sortU (ws.map (·.1))).map V.int) := fun H1 e Q q =>
  hd H1 e _ fun H2 e2 => ⟨W, dictOf ws, ws.map (·.1), rfl, .inl ((e.trans e2) W _ h), by simp [dictOf, Function.comp_def], by simpa using few, fun ys p pm srt hp => q p _ (fresh_back e2 hp) (e2.trans (Ex.new hp)) (by rw [upd_same, asc_of pm srt nd])⟩
/-- [.. for x in new list of ints if ..] -/
theorem eld_ints {j : Nat} {vs : List Nat} (ns : List Int) (h : EvL tl σ H (ns.map V.int)) (few : ns.length ≤ 50000) (f : Int → Bool) (dd : Int → PyData) (hw : ∀ x, wipe ((wipe σ vs).set j (some x)) vs = wipe σ vs)
    (ht : ∀ x ∈ ns, EvT t ((wipe σ vs).set j (some (.int x))) H (f x)) (he : ∀ x ∈ ns, f x = true → EvD te ((wipe σ vs).set j (some (.int x))) H (dd x)) : EvLd (tLc (iList K tl) (gName j) t te vs) σ H ((ns.filter f).map dd) := fun H0 e0 Q q => h H0 e0 _ fun a H1 na e1 ha => by
  have e01 := e0.trans e1
  refine ⟨a, rfl, ⟨_, sq_of ha⟩, ?_⟩
  have gl := giv_list ns f dd (fun i => match ns[i]? with | some b => f b | none => false) (fun i => match ns[i]? with | some b => dd b | none => .none) (fun i a e => by simp [e])
  refine lc_pure (walk_list (K := K) (a := a) (xs := ns.map V.int)) (by rw [List.length_map]; exact few) (fun i => match ns[i]? with | some b => f b | none => false) (fun i => match ns[i]? with | some b => dd b | none => .none) (fun H' e => sq_of (e a _ ha)) ?_ ?_
  · rintro k x H2 _ hk e2 ⟨rfl, hx⟩
    rw [List.length_map] at hk
    have hbk : ns[k]? = some ns[k] := List.getElem?_eq_getElem hk
    rw [List.getElem?_map, hbk] at hx
    cases hx
    have hm : ns[k] ∈ ns := List.getElem_mem hk
    refine ⟨Ex.refl _, _, fun R r => r, hw _, ?_, ?_⟩
    · simp only [hbk]
      exact (ht _ hm).mono (e01.trans e2)
    · simp only [hbk]
      exact fun hf => (he _ hm hf).mono (e01.trans e2)
  · intro p ys H2 hp e2 h2 t2
    rw [List.length_map, gl] at t2
    exact q p ys H2 (fresh_back e1 hp) (e1.trans e2) h2 t2
/-- new list[:1] -/
theorem el_take1 {xs : List V} {tn : TE} (h : EvL te σ H xs) (hn : Ev tn σ H (.int 1)) : EvL (tSl (rSlL K) te tNoPart (tPart tn)) σ H (xs.take 1) := fun H1 e1 Q q =>
  h H1 e1 _ fun p H2 hp e2 h2 => hn H2 (e1.trans e2) _ fun H3 e3 => ⟨1, rfl, p, xs, rfl, sq_of (e3 p _ h2), fun r hr => by
    refine q r _ (fresh_back (e2.trans e3) hr) ((e2.trans e3).trans (Ex.new hr)) ?_
    rw [upd_same]
    unfold cutV
    rw [show HT.sIx xs.length xs.length (some 1) = min 1 xs.length from HT.sIx_nat xs.length xs.length 1, HT.sIx_none, List.drop_zero, Nat.sub_zero]
    congr 2
    cases xs with
    | nil => rfl
    | cons a r => simp⟩
end
/-! ### drawing where some things are known of the heap -/
def DrJ (D C : Addr) (J : Hp → Prop) (te : TE) (σ : L2.St) (m m' : Int) (R : Int → Prop) : Prop := ∀ H1, Deck D C m H1 → J H1 → ∀ Q : VK, (∀ i H2, Kp D C H1 H2 → Deck D C m' H2 → J H2 → R i → Q (.int i) H2) → te σ H1 Q
def St (D C : Addr) (J : Hp → Prop) : Prop := ∀ H H', J H → Kp D C H H' → J H'
def DrK (D C : Addr) (J : Hp → Prop) (ta : TA) (σ : L2.St) (m m' : Int) (n : Nat) (R : Int → Prop) : Prop := ∀ H1, Deck D C m H1 → J H1 → ∀ Q : List V → Hp → Prop, (∀ (is : List Int) H2, Kp D C H1 H2 → Deck D C m' H2 → J H2 → is.length = n → (∀ i ∈ is, R i) → Q (is.map V.int) H2) → ta σ H1 Q
section
variable {D C : Addr} {K : PySem.W.Frag} {J : Hp → Prop} {σ : L2.St} {m m1 m2 : Int} {R R1 R2 : Int → Prop} {ta tb te : TE} {n : Nat}
theorem dj_pure {i : Int} (st : St D C J) (h : ∀ H, J H → Ev te σ H (.int i)) (r : R i) : DrJ D C J te σ m m R := fun H1 d j Q q => h H1 j H1 (Ex.refl H1) Q fun H2 e2 => q i H2 (Kp.ex e2) (d.ex e2) (st _ _ j (Kp.ex e2)) r
theorem dj_imp (h : DrJ D C J te σ m m1 R1) (k : ∀ i, R1 i → R i) : DrJ D C J te σ m m1 R := fun H1 d j Q q => h H1 d j Q fun i H2 k2 d2 j2 r => q i H2 k2 d2 j2 (k i r)
theorem dj_draw {tk : TE} {E : XK} {k : Int} (st : St D C J) (h0 : σ[0]? = some (some (.ref D))) (hk : ∀ H, J H → Ev tk σ H (.int k)) (mb : m ≤ 1000000000) (k1 : 1 ≤ k) (k2 : k ≤ 1000000001) (hm : m1 = m + 1 := by omega) : DrJ D C J (tCall spDraw [] E (tCons (tVar 0) (tCons tk tNil))) σ m m1 (fun r => 0 ≤ r ∧ r < k) := hm ▸ fun H1 d j Q q =>
  ⟨.ref D, h0, hk H1 j H1 (Ex.refl H1) _ fun H2 e2 => ⟨D, C, m, k, rfl, d.ex e2, mb, k1, k2, fun r H3 r0 r1 kp d3 => q r H3 ((Kp.ex e2).trans kp) d3 (st _ _ j ((Kp.ex e2).trans kp)) ⟨r0, r1⟩⟩⟩
theorem dj_op {f : Int → Int → Int} (ha : DrJ D C J ta σ m m1 R1) (hb : DrJ D C J tb σ m1 m2 R2) (k : ∀ i j, R1 i → R2 j → R (f i j)) : DrJ D C J (tOp (rI0 fun i j => .int (f i j)) ta tb) σ m m2 R := fun H1 d j Q q =>
  ha H1 d j _ fun i H2 kp2 d2 j2 r1 => hb H2 d2 j2 _ fun i' H3 kp3 d3 j3 r2 => ⟨i, i', rfl, rfl, q _ H3 (kp2.trans kp3) d3 j3 (k i i' r1 r2)⟩
theorem dk_nil : DrK D C J tNil σ m m 0 R := fun H1 d j Q q => q [] H1 Kp.refl d j rfl (fun _ h => nomatch h)
theorem dk_cons {tr : TA} (ha : DrJ D C J ta σ m m1 R) (hr : DrK D C J tr σ m1 m2 n R) : DrK D C J (tCons ta tr) σ m m2 (n + 1) R := fun H1 d j Q q =>
  ha H1 d j _ fun i H2 kp2 d2 j2 r1 => hr H2 d2 j2 _ fun is H3 kp3 d3 j3 len rs => q (i :: is) H3 (kp2.trans kp3) d3 j3 (by simp [len]) (fun k hk => by
    rcases List.mem_cons.mp hk with e | e
    · rw [e]; exact r1
    · exact rs k e)
theorem dj_pick {tr : TA} (st : St D C J) (hr : DrK D C J tr σ m m1 n R) (hi : DrJ D C J te σ m1 m2 (fun r => 0 ≤ r ∧ r < (n : Int))) (few : n ≤ 100000) : DrJ D C J (tOp (rIxL K) (tLst tr) te) σ m m2 R := fun H1 d j0 Q q =>
  hr H1 d j0 _ fun is H2 kp2 d2 j2 len rs => ⟨sz_of (by rw [List.length_map, len]; exact few), fun p np => by
    have eN := Ex.new (o := .lst (is.map V.int)) np
    obtain ⟨n1, n2⟩ := Kp.free d2 np
    refine hi _ (d2.ex eN) (st _ _ j2 (Kp.ex eN)) _ fun r H3 kp3 d3 j3 r01 => ?_
    obtain ⟨j, rfl⟩ : ∃ j : Nat, r = j := ⟨r.toNat, by omega⟩
    have jl : j < is.length := by omega
    have at3 : H3 p = some (.lst (is.map V.int)) := kp3 p _ n1 n2 upd_same
    exact ⟨p, _, (j : Int), .int is[j], rfl, rfl, sq_of at3, atI_nat (by rw [List.getElem?_map, List.getElem?_eq_getElem jl]; rfl), q _ H3 ((kp2.trans (Kp.ex eN)).trans kp3) d3 j3 (rs _ (List.getElem_mem jl))⟩⟩
end
section
variable {σ : L2.St} {H : Hp} {t u : TT} {Q : Bool → Hp → Prop}
theorem t_and {a : Bool} (h : EvT t σ H a) (hT : a = true → ∀ H1, Ex H H1 → u σ H1 Q) (hF : a = false → ∀ H1, Ex H H1 → Q false H1) : tAnd t u σ H Q := h H (Ex.refl H) _ fun H1 e => by
  cases a with
  | true => exact hT rfl H1 e
  | false => exact hF rfl H1 e
end
/-! ### trips that are drawn -/
structure TripOk (c : Int) (ws rs : List Bed) : Prop where
  asc : Asc (rs.map (·.1))
  row : ∀ r ∈ rs, ∃ w, (r.1, w) ∈ ws ∧ 1 ≤ r.2 ∧ r.2 ≤ w
  sum : (rs.map (·.2)).sum ≤ c
  non : rs = [] → ∀ b ∈ ws, b.2 ≤ 0
  len : rs.length ≤ 40
def spTrip : Sp := fun vs H Q _ => ∃ D C m g t c bs W ws, vs = [.ref D, g, .ref W] ∧ Deck D C m H ∧ m ≤ 800000000 ∧ Tp H g (gardenD t c bs) ∧ 1 ≤ c ∧ c ≤ 1000000 ∧ H W = some (.dK (dictOf ws)) ∧ (ws.map (·.1)).Nodup ∧ ws.length ≤ 40 ∧
  ∀ v rs H', TripOk c ws rs → Tp H' v (bedsD rs) → Kp D C H H' → Deck D C (m + 200) H' → Q v H'
theorem Kp.dict {D C W : Addr} {m : Int} {H : Hp} {kvs : List (Key × V)} (d : Deck D C m H) (h : H W = some (.dK kvs)) : W ≠ D ∧ W ≠ C := by
  obtain ⟨n, cs, d, _⟩ := d
  exact ⟨ne_of h d.hD (by intro z; cases z), ne_of h d.hC (by intro z; cases z)⟩
theorem eqv_nil (ds : List PyData) : PyData.eqv (.list ds) (.list []) = ds.isEmpty := by
  cases ds with
  | nil => simp [PyData.eqv, PyData.eqvAll]
  | cons d r => simp [PyData.eqv, PyData.eqvAll]
end Cn

namespace Cn
open PySem PySem.Spec PyProof.Rows L2 Evl
section
variable {K : PySem.W.Frag} {σ : L2.St} {H : Hp} {ta tb te td ty tl : TE} {t u : TT} {v : V} {d : PyData} {ds es : List PyData}
/-- new list[:k] -/
theorem el_take {xs : List V} {tn : TE} {k : Nat} (h : EvL te σ H xs) (hn : Ev tn σ H (.int k)) : EvL (tSl (rSlL K) te tNoPart (tPart tn)) σ H (xs.take k) := fun H1 e1 Q q =>
  h H1 e1 _ fun p H2 hp e2 h2 => hn H2 (e1.trans e2) _ fun H3 e3 => ⟨k, rfl, p, xs, rfl, sq_of (e3 p _ h2), fun r hr => by
    refine q r _ (fresh_back (e2.trans e3) hr) ((e2.trans e3).trans (Ex.new hr)) ?_
    rw [upd_same]
    unfold cutV
    rw [show HT.sIx xs.length xs.length (some (k : Int)) = min k xs.length from HT.sIx_nat xs.length xs.length k, HT.sIx_none, List.drop_zero, Nat.sub_zero, ← List.take_eq_take_min]⟩
/-- repr of a new list -/
theorem ev_reprL (h : EvLd te σ H ds) (sh : Sh (.list ds) 1000000 50) : Ev (tCB (rRepr K) (tCons te tNil)) σ H (.str (PyData.list ds).shown) := fun H1 e1 Q q =>
  h H1 e1 _ fun p xs H2 hp e2 h2 t2 => ⟨.ref p, .list ds, rfl, .lst (sq_of h2) (t2.dp (nd_smAll sh.1)), sh.1, sh.2.1, sh.2.2, q H2 e2⟩
/-- new list == new list -/
theorem ev_eqL (ha : EvLd ta σ H ds) (hb : EvLd tb σ H es) (sd : SeqAt.shaped (.list ds) = true) (se : SeqAt.shaped (.list es) = true) : Ev (tOp (rEqD K) ta tb) σ H (.bl (PyData.eqv (.list ds) (.list es))) := fun H1 e1 Q q =>
  ha H1 e1 _ fun p xs H2 hp e2 h2 t2 => hb H2 (e1.trans e2) _ fun p' ys H3 hp' e3 h3 t3 => ⟨.list ds, .list es, .lst (sq_of (e3 p _ h2)) ((t2.mono (Tk.ex e3)).dp (nd_shapedL sd)), .lst (sq_of h3) (t3.dp (nd_shapedL se)), sd, se, q H3 (e2.trans e3)⟩
/-- a != b of data -/
theorem ev_neD {e : PyData} (ha : EvD ta σ H d) (hb : EvD tb σ H e) (sd : SeqAt.shaped d = true) (se : SeqAt.shaped e = true) : Ev (tOp (rNeD K) ta tb) σ H (.bl (!PyData.eqv d e)) := fun H1 e1 Q q =>
  ha H1 e1 _ fun v H2 e2 t2 => hb H2 (e1.trans e2) _ fun v' H3 e3 t3 => ⟨d, e, (t2.mono (Tk.ex e3)).dp (nd_shaped sd), t3.dp (nd_shaped se), sd, se, q H3 (e2.trans e3)⟩
/-- [.. for x in a list by its name, if ..] -/
theorem eld_data {α : Type} {a : Addr} {xs : List V} {j : Nat} {vs : List Nat} (l : List α) (rep : α → PyData) (h : Ev tl σ H (.ref a)) (ha : H a = some (.lst xs)) (hx : TpAll H xs (l.map rep)) (few : l.length ≤ 50000) (f : α → Bool) (dd : α → PyData)
    (hw : ∀ x, wipe ((wipe σ vs).set j (some x)) vs = wipe σ vs) (ht : ∀ y ∈ l, ∀ v, Tp H v (rep y) → EvT t ((wipe σ vs).set j (some v)) H (f y)) (he : ∀ y ∈ l, ∀ v, Tp H v (rep y) → f y = true → EvD te ((wipe σ vs).set j (some v)) H (dd y)) :
    EvLd (tLc (iList K tl) (gName j) t te vs) σ H ((l.filter f).map dd) := fun H0 e0 Q q => h H0 e0 _ fun H1 e1 => by
  have e01 := e0.trans e1
  have lx : xs.length = l.length := by rw [hx.length, List.length_map]
  refine ⟨a, rfl, ⟨_, sq_of (e01 a _ ha)⟩, ?_⟩
  have gl := giv_list l f dd (fun i => match l[i]? with | some b => f b | none => false) (fun i => match l[i]? with | some b => dd b | none => .none) (fun i a e => by simp [e])
  refine lc_pure (walk_list (K := K) (a := a) (xs := xs)) (by omega) (fun i => match l[i]? with | some b => f b | none => false) (fun i => match l[i]? with | some b => dd b | none => .none) (fun H' e => sq_of (e a _ (e01 a _ ha))) ?_ ?_
  · rintro k x H2 _ hk e2 ⟨rfl, hxk⟩
    have hk' : k < l.length := by omega
    have hbk : l[k]? = some l[k] := List.getElem?_eq_getElem hk'
    obtain ⟨v, hv, tv⟩ := hx.get (i := k) (d := rep l[k]) (by rw [List.getElem?_map, hbk]; rfl)
    rw [hxk] at hv
    cases hv
    have hm : l[k] ∈ l := List.getElem_mem hk'
    refine ⟨Ex.refl _, _, fun R r => r, hw _, ?_, ?_⟩
    · simp only [hbk]
      exact (ht _ hm _ tv).mono (e01.trans e2)
    · simp only [hbk]
      exact fun hf => (he _ hm _ tv hf).mono (e01.trans e2)
  · intro p ys H2 hp e2 h2 t2
    refine q p ys H2 (fresh_back e1 hp) (e1.trans e2) h2 ?_
    rw [← gl, ← lx]
    exact t2
/-- a list by its name + a new list, of data -/
theorem eld_catV {p : Addr} {xs : List V} (ha : Ev ta σ H (.ref p)) (hp : H p = some (.lst xs)) (hx : TpAll H xs ds) (hb : EvLd tb σ H es) (hl : ds.length + es.length ≤ 100000) : EvLd (tOp rCat ta tb) σ H (ds ++ es) := fun H1 e Q q =>
  ha H1 e _ fun H2 e2 => hb H2 (e.trans e2) _ fun p' ys H3 hp' e3 h3 t3 => ⟨p, p', xs, ys, rfl, rfl, ((e.trans e2).trans e3) p _ hp, h3, sz_of (by rw [hx.length, t3.length]; exact hl), fun r hr => q r _ _ (fresh_back (e2.trans e3) hr) ((e2.trans e3).trans (Ex.new hr)) upd_same
    (((hx.mono (Tk.ex ((e.trans e2).trans e3))).append t3).mono (Tk.ex (Ex.new hr)))⟩
/-- new list + new list, of data -/
theorem eld_cat (ha : EvLd ta σ H ds) (hb : EvLd tb σ H es) (hl : ds.length + es.length ≤ 100000) : EvLd (tOp rCat ta tb) σ H (ds ++ es) := fun H1 e Q q =>
  ha H1 e _ fun p xs H2 hp e2 h2 t2 => hb H2 (e.trans e2) _ fun p' ys H3 hp' e3 h3 t3 => ⟨p, p', xs, ys, rfl, rfl, e3 p _ h2, h3, sz_of (by rw [t2.length, t3.length]; exact hl), fun r hr => q r _ _ (fresh_back (e2.trans e3) hr) ((e2.trans e3).trans (Ex.new hr)) upd_same
    (((t2.mono (Tk.ex e3)).append t3).mono (Tk.ex (Ex.new hr)))⟩
end
theorem ed_call2 {σ : L2.St} {H : Hp} {ta tb : TE} {sp : Sp} {E : XK} {v1 : V} {d d2 : PyData} (h1 : Ev ta σ H v1) (h2 : EvD tb σ H d2) (hs : ∀ v2 H1, Ex H H1 → Tp H1 v2 d2 → ∀ Q : VK, (∀ z H2, Ex H1 H2 → Tp H2 z d → Q z H2) → ∀ E : XK, sp [v1, v2] H1 Q E) : EvD (tCall sp [] E (tCons ta (tCons tb tNil))) σ H d := fun H1 e Q q =>
  h1 H1 e _ fun H2 e2 => h2 H2 (e.trans e2) _ fun v H3 e3 t3 => hs v H3 ((e.trans e2).trans e3) t3 Q (fun z H4 e4 t4 => q z H4 ((e2.trans e3).trans e4) t4) E
theorem q_asgLd {σ : L2.St} {H : Hp} {te : TE} {ds : List PyData} {D : Ends} {tz : TS} {i : Nat} (h : EvLd te σ H ds) (k : ∀ p xs H1, H p = none → Ex H H1 → H1 p = some (.lst xs) → TpAll H1 xs ds → tz D (σ.set i (some (.ref p))) H1) : tSeq (tAsg te (gName i)) tz D σ H := h H (Ex.refl H) _ k
theorem seq_asg {te : TE} {g : TG} {tz : TS} {D : Ends} {σ : L2.St} {H : Hp} : tSeq (tAsg te g) tz D σ H = te σ H fun x H1 => g x σ H1 (tz D) := rfl
theorem op_eq' {r : R2} {ta tb : TE} {σ : L2.St} {H : Hp} {Q : VK} : tOp r ta tb σ H Q = ta σ H fun x H1 => tb σ H1 fun y H2 => r x y H2 Q := rfl
/-- the pairs of a tuple of beds, for dict() -/
theorem beds_refs {K : PySem.W.Frag} {H : Hp} : ∀ {bs : List Bed} {xs : List V}, TpAll H xs (bs.map bedD) → ∃ ps : List Addr, xs = ps.map V.ref ∧ Paired (fun p kv => SqT K H p [kV kv.1, kv.2]) ps (dictOf bs)
  | [], _, h => by
    cases h
    exact ⟨[], rfl, .nil⟩
  | b :: bs, _, h => by
    cases h with
    | cons h1 h2 =>
      obtain ⟨a, rfl, ha⟩ := bed_inv h1
      obtain ⟨ps, rfl, pr⟩ := beds_refs (K := K) h2
      exact ⟨a :: ps, rfl, .cons (sr ha) pr⟩
/-! ### comprehensions that draw -/
theorem da_list {K : PySem.W.Frag} {D C : Addr} {ta : TA} {te : TE} {σ : L2.St} {H : Hp} {j : Nat} {vs : List Nat} {n : Nat} {Q : VK} (M st : Int) (Pd : PyData → Prop) (h : EvA ta σ H [.int n]) (few : n ≤ 50000) (hs : 0 ≤ st) (dk : Deck D C M H) (hw : ∀ x, wipe ((wipe σ vs).set j (some x)) vs = wipe σ vs)
    (he : ∀ (i : Nat) H', i < n → Kp D C H H' → Deck D C (M + st * i) H' → ∀ Q : VK, (∀ v d H2, Pd d → Tp H2 v d → Kp D C H' H2 → Deck D C (M + st * i + st) H2 → Q v H2) → te ((wipe σ vs).set j (some (.int (i : Int)))) H' Q)
    (q : ∀ p xs ds H', H p = none → Kp D C H H' → Deck D C (M + st * n) H' → H' p = some (.lst xs) → TpAll H' xs ds → ds.length = n → (∀ d ∈ ds, Pd d) → Q (.ref p) H') : tLc (iRng1 ta) (gName j) tYes te vs σ H Q :=
  h H (Ex.refl H) _ fun H1 e1 => ⟨(n : Int), rfl, by omega, by omega, fun N nN => by
    have dk1 := dk.ex e1
    obtain ⟨nD, nC⟩ := Kp.free dk1 nN
    have nH : H N = none := fresh_back e1 nN
    refine lc_range (lo := 0) (n := ((n : Int)).toNat) (fun i H' => Kp D C H H' ∧ Deck D C (M + st * i) H' ∧ ∃ xs ds, H' N = some (.lst xs) ∧ TpAll H' xs ds ∧ ds.length = i ∧ ∀ d ∈ ds, Pd d) ?_ ?_ ?_
    · exact ⟨(Kp.ex e1).mut nH, (dk1.mut nD nC).mono (by simp), [], [], upd_same, .nil, rfl, fun _ h => nomatch h⟩
    · rintro i H2 hi ⟨kp2, dk2, xs, ds, h2, t2, len, ok⟩
      refine ⟨hw _, ?_⟩
      dsimp only [tYes]
      rw [if_pos rfl, show (0 : Int) + (i : Int) = i by omega]
      refine he i H2 (by omega) kp2 dk2 _ fun v d H3 pd tv kp3 dk3 => ?_
      have h3 := kp3 N _ nD nC h2
      refine ⟨xs, h3, sz_lt (by rw [t2.length]; omega), (kp2.trans kp3).mut nH, (dk3.mut nD nC).mono (by rw [show ((i + 1 : Nat) : Int) = (i : Int) + 1 by omega, Int.mul_add]; omega), xs ++ [v], ds ++ [d], upd_same, ?_, by simp [len], fun e he' => ?_⟩
      · exact ((t2.mono (Kp.tk dk2 kp3)).append (.cons tv .nil)).mono (Tk.lst h3)
      · rcases List.mem_append.mp he' with z | z
        · exact ok e z
        · rw [List.mem_singleton.mp z]; exact pd
    · rintro H2 ⟨kp2, dk2, xs, ds, h2, t2, len, ok⟩
      rw [show ((n : Int)).toNat = n by omega] at dk2 len
      exact q N xs ds H2 nH kp2 dk2 h2 t2 len ok⟩
theorem all_trips {P : List Bed → Prop} : ∀ {ds : List PyData}, (∀ d ∈ ds, ∃ rs, d = bedsD rs ∧ P rs) → ∃ trs : List (List Bed), ds = trs.map bedsD ∧ ∀ rs ∈ trs, P rs
  | [], _ => ⟨[], rfl, fun _ h => nomatch h⟩
  | d :: ds, h => by
    obtain ⟨rs, rfl, hp⟩ := h d (List.mem_cons_self ..)
    obtain ⟨trs, rfl, ht⟩ := all_trips (P := P) (ds := ds) fun e he => h e (List.mem_cons_of_mem _ he)
    exact ⟨rs :: trs, rfl, fun x hx => by
      rcases List.mem_cons.mp hx with z | z
      · rw [z]; exact hp
      · exact ht x z⟩
theorem Tk.dict {H : Hp} {W : Addr} {kvs : List (Key × V)} {o : HO} (h : H W = some (.dK kvs)) : Tk H (upd H W o) := ⟨fun a zs e => rd_upd e (by
  rcases e with e | ⟨z, e⟩
  · exact ne_of e h (by intro z; cases z)
  · exact ne_of e h (by intro z; cases z)), fun a z u e => by rw [upd_ne (ne_of e h (by intro z; cases z))]; exact e⟩
theorem GAt.dict {H : Hp} {v : V} {t c : Int} {bs : List Bed} {W : Addr} {kvs : List (Key × V)} {o : HO} (h : GAt H v t c bs) (hW : H W = some (.dK kvs)) : GAt (upd H W o) v t c bs := by
  obtain ⟨g, b, xs, ob, rfl, hg, hb, hd, hx⟩ := h
  have tk : Tk H (upd H W o) := Tk.dict hW
  exact ⟨g, b, xs, ob, rfl, tk.1 _ _ hg, by rw [upd_ne (ne_of hb hW (by intro z; cases z))]; exact hb, hd, hx.mono tk⟩
structure TrOk (rs : List Bed) : Prop where
  asc : Asc (rs.map (·.1))
  len : rs.length ≤ 40
  p0 : ∀ r ∈ rs, -1000000 ≤ r.1
  p1 : ∀ r ∈ rs, r.1 ≤ 1000000
  l0 : ∀ r ∈ rs, 1 ≤ r.2
  l1 : ∀ r ∈ rs, r.2 ≤ 10000000000
theorem TrOk.sh {rs : List Bed} (h : TrOk rs) : Sh (bedsD rs) 9000 2 := by
  have big : (10 : Int) ^ 39 = 1000000000000000000000000000000000000000 := by decide
  refine sh_tup (k := 207) (n := 1) (fun d hd => ?_) (by rw [List.length_map]; have := h.len; omega)
  obtain ⟨b, m, rfl⟩ := List.mem_map.mp hd
  have := h.p0 b m
  have := h.p1 b m
  have := h.l0 b m
  have := h.l1 b m
  exact sh_bed (by omega) (by omega) (by omega) (by omega)
theorem eqv_tup0 (rs : List Bed) : PyData.eqv (bedsD rs) (.tuple []) = rs.isEmpty := by
  cases rs with
  | nil => simp [bedsD, PyData.eqv, PyData.eqvAll]
  | cons d r => simp [bedsD, PyData.eqv, PyData.eqvAll]
/-! ### the way of a trip -/
def wstep (t : Int) (a : Int × Int) (r : Bed) : Int × Int := if r.1 < t then (max a.1 (t - r.1), a.2) else (a.1, max a.2 (r.1 - t))
def wayOf (t : Int) (rs : List Bed) : Int := 2 * (rs.foldl (wstep t) (0, 0)).1 + 2 * (rs.foldl (wstep t) (0, 0)).2
theorem wfold_asc {t : Int} : ∀ {rs : List Bed} {a b : Int} {r0 r1 : Bed}, 0 ≤ a → 0 ≤ b → Asc (rs.map (·.1)) → rs.head? = some r0 → rs.getLast? = some r1 → rs.foldl (wstep t) (a, b) = (max a (max 0 (t - r0.1)), max b (max 0 (r1.1 - t)))
  | [], _, _, _, _, _, _, _, h, _ => by simp at h
  | [r], a, b, r0, r1, ha, hb, _, h0, h1 => by
    simp at h0 h1
    subst h0 h1
    simp only [List.foldl_cons, List.foldl_nil, wstep]
    split
    · congr 1 <;> omega
    · congr 1 <;> omega
  | r :: s :: rs, a, b, r0, r1, ha, hb, asc, h0, h1 => by
    simp at h0
    subst h0
    have asc' := List.pairwise_cons.mp (show Asc (r.1 :: (s :: rs).map (·.1)) from asc)
    have hs : r.1 < s.1 := asc'.1 _ (by simp)
    have h1' : (s :: rs).getLast? = some r1 := by rw [List.getLast?_cons_cons] at h1; exact h1
    have hr1 : r.1 < r1.1 := asc'.1 _ (List.mem_map_of_mem (List.mem_of_getLast? h1'))
    rw [List.foldl_cons]
    by_cases c : r.1 < t
    · have e : wstep t (a, b) r = (max a (t - r.1), b) := by simp [wstep, c]
      rw [e, wfold_asc (t := t) (rs := s :: rs) (a := max a (t - r.1)) (b := b) (r0 := s) (by omega) hb asc'.2 rfl h1']
      congr 1 <;> omega
    · have e : wstep t (a, b) r = (a, max b (r.1 - t)) := by simp [wstep, c]
      rw [e, wfold_asc (t := t) (rs := s :: rs) (a := a) (b := max b (r.1 - t)) (r0 := s) ha (by omega) asc'.2 rfl h1']
      congr 1 <;> omega
theorem way_ends {t : Int} {rs : List Bed} {r0 r1 : Bed} (asc : Asc (rs.map (·.1))) (h0 : rs.head? = some r0) (h1 : rs.getLast? = some r1) : wayOf t rs = 2 * (max 0 (t - r0.1) + max 0 (r1.1 - t)) := by
  unfold wayOf
  rw [wfold_asc (Int.le_refl 0) (Int.le_refl 0) asc h0 h1]
  simp only
  omega
end Cn

namespace Cn
open PySem PySem.Spec PyProof.Rows L2 Evl
/-! ### sizes of values of any kind -/
def odKv : List (PyData × PyData) → Bool
  | [] => true
  | [(.str x, .int i)] => decide (x = "a") && decide (i = 1)
  | _ => false
mutual
def okV (B : Nat) : PyData → Bool
  | .none => true
  | .bool _ => true
  | .int i => decide (i.natAbs ≤ B)
  | .str x => decide ((reprText x).length ≤ 1000)
  | .list xs => okVAll B xs
  | .tuple xs => okVAll B xs
  | .dict kvs => odKv kvs
def okVAll (B : Nat) : List PyData → Bool
  | [] => true
  | x :: xs => okV B x && okVAll B xs
end
mutual
def wv : PyData → Nat
  | .none => 10
  | .bool _ => 10
  | .int _ => 100
  | .str _ => 1000
  | .list xs => wvAll xs + 3
  | .tuple xs => wvAll xs + 3
  | .dict _ => 20
def wvAll : List PyData → Nat
  | [] => 0
  | x :: xs => (wv x + 2) + wvAll xs
end
mutual
def dv : PyData → Nat
  | .list xs => dvAll xs + 1
  | .tuple xs => dvAll xs + 1
  | .dict _ => 1
  | _ => 0
def dvAll : List PyData → Nat
  | [] => 0
  | x :: xs => max (dv x) (dvAll xs)
end
theorem odKv_inv : ∀ {kvs : List (PyData × PyData)}, odKv kvs = true → kvs = [] ∨ kvs = [(.str "a", .int 1)]
  | [], _ => .inl rfl
  | [(.str x, .int i)], h => by
    simp only [odKv, Bool.and_eq_true, decide_eq_true_eq] at h
    rw [h.1, h.2]
    exact .inr rfl
  | [(.none, _)], h => by simp [odKv] at h
  | [(.bool _, _)], h => by simp [odKv] at h
  | [(.int _, _)], h => by simp [odKv] at h
  | [(.list _, _)], h => by simp [odKv] at h
  | [(.tuple _, _)], h => by simp [odKv] at h
  | [(.dict _, _)], h => by simp [odKv] at h
  | [(.str _, .none)], h => by simp [odKv] at h
  | [(.str _, .bool _)], h => by simp [odKv] at h
  | [(.str _, .str _)], h => by simp [odKv] at h
  | [(.str _, .list _)], h => by simp [odKv] at h
  | [(.str _, .tuple _)], h => by simp [odKv] at h
  | [(.str _, .dict _)], h => by simp [odKv] at h
  | _ :: _ :: _, h => by simp [odKv] at h
mutual
theorem okV_show {B : Nat} (hB : B < 10 ^ 40) : ∀ d : PyData, okV B d = true → d.showable = true ∧ d.shown.length ≤ wv d ∧ d.depth ≤ dv d
  | .none, _ => ⟨rfl, by simp only [PyData.shown, wv]; decide, by simp only [PyData.depth]; omega⟩
  | .bool b, _ => ⟨rfl, by simp only [PyData.shown, wv]; cases b <;> decide, by simp only [PyData.depth]; omega⟩
  | .int i, h => by
    have h1 : i.natAbs < 10 ^ 40 := by
      simp only [okV, decide_eq_true_eq] at h
      omega
    have h2 : i.natAbs < 2 ^ 1920 := Nat.lt_of_lt_of_le h1 (by decide +kernel)
    refine ⟨?_, ?_, by simp only [PyData.depth]; omega⟩
    · simp only [PyData.showable, decide_eq_true_eq]
      by_cases h0 : i.natAbs = 0
      · rw [h0]; decide
      · exact (Nat.log2_lt h0).2 h2
    · have := int_text_length_le10 (a := i) (k := 40) (by decide) h1
      simp only [PyData.shown, wv]
      rw [PySem.ofString_length]
      omega
  | .str x, h => by
    have h1 : (reprText x).length ≤ 1000 := by simpa only [okV, decide_eq_true_eq] using h
    exact ⟨rfl, by simp only [PyData.shown, wv]; exact h1, by simp only [PyData.depth]; omega⟩
  | .list xs, h => by
    obtain ⟨a, b, c⟩ := okV_showAll hB xs (by simpa only [okV] using h)
    have := listText_le (PyData.shownAll xs)
    refine ⟨by simpa only [PyData.showable] using a, by simp only [PyData.shown, wv]; omega, by simp only [PyData.depth, dv]; omega⟩
  | .tuple xs, h => by
    obtain ⟨a, b, c⟩ := okV_showAll hB xs (by simpa only [okV] using h)
    have := tupleText_le (PyData.shownAll xs)
    refine ⟨by simpa only [PyData.showable] using a, by simp only [PyData.shown, wv]; omega, by simp only [PyData.depth, dv]; omega⟩
  | .dict kvs, h => by
    rcases odKv_inv (by simpa only [okV] using h) with rfl | rfl
    · exact ⟨rfl, by simp only [PyData.shown, PyData.shownKv, wv]; decide, by simp only [PyData.depth, PyData.depthKv, dv]; omega⟩
    · exact ⟨rfl, by simp only [PyData.shown, PyData.shownKv, wv]; decide +kernel, by simp only [PyData.depth, PyData.depthKv, dv]; decide⟩
theorem okV_showAll {B : Nat} (hB : B < 10 ^ 40) : ∀ ds : List PyData, okVAll B ds = true → PyData.showableAll ds = true ∧ piled (PyData.shownAll ds) ≤ wvAll ds ∧ PyData.depthAll ds ≤ dvAll ds
  | [], _ => ⟨rfl, by simp only [PyData.shownAll, wvAll]; exact Nat.le_refl _, by simp only [PyData.depthAll]; omega⟩
  | x :: xs, h => by
    simp only [okVAll, Bool.and_eq_true] at h
    obtain ⟨a, b, c⟩ := okV_show hB x h.1
    obtain ⟨a', b', c'⟩ := okV_showAll hB xs h.2
    refine ⟨by simp only [PyData.showableAll, a, a', Bool.and_self], ?_, by simp only [PyData.depthAll, dvAll]; omega⟩
    simp only [PyData.shownAll, wvAll]
    rw [piled_cons]; omega
end
theorem okVAll_iff {B : Nat} : ∀ {ds : List PyData}, okVAll B ds = true ↔ ∀ d ∈ ds, okV B d = true
  | [] => by simp [okVAll]
  | x :: xs => by simp [okVAll, okVAll_iff (ds := xs)]
theorem dvAll_iff {k : Nat} : ∀ {ds : List PyData}, dvAll ds ≤ k ↔ ∀ d ∈ ds, dv d ≤ k
  | [] => by simp [dvAll]
  | x :: xs => by
    have := dvAll_iff (k := k) (ds := xs)
    simp only [dvAll, List.mem_cons, forall_eq_or_imp, ← this]
    omega
theorem wvAll_append : ∀ (a b : List PyData), wvAll (a ++ b) = wvAll a + wvAll b
  | [], b => by simp [wvAll]
  | x :: a, b => by simp only [List.cons_append, wvAll, wvAll_append a b]; omega
theorem wvAll_take : ∀ (n : Nat) (a : List PyData), wvAll (a.take n) ≤ wvAll a
  | 0, a => by simp [wvAll]
  | n + 1, [] => by simp [wvAll]
  | n + 1, x :: a => by have := wvAll_take n a; simp only [List.take_succ_cons, wvAll]; omega
theorem wvAll_drop : ∀ (n : Nat) (a : List PyData), wvAll (a.drop n) ≤ wvAll a
  | 0, a => by simp [wvAll]
  | n + 1, [] => by simp [wvAll]
  | n + 1, x :: a => by have := wvAll_drop n a; simp only [List.drop_succ_cons, wvAll]; omega
theorem wvAll_reverse : ∀ (a : List PyData), wvAll a.reverse = wvAll a
  | [] => rfl
  | x :: a => by simp only [List.reverse_cons, wvAll_append, wvAll, wvAll_reverse a]; omega
theorem wv_mem : ∀ {ds : List PyData} {d : PyData}, d ∈ ds → wv d + 2 ≤ wvAll ds
  | [], _, h => nomatch h
  | x :: xs, d, h => by
    rcases List.mem_cons.mp h with rfl | h
    · simp only [wvAll]; omega
    · have := wv_mem h; simp only [wvAll]; omega
theorem len_wv : ∀ (ds : List PyData), 2 * ds.length ≤ wvAll ds
  | [] => by simp
  | x :: xs => by have := len_wv xs; simp only [List.length_cons, wvAll]; omega
/-- a value of at most k signs, at most n deep, whole numbers up to B -/
structure Sz (B k n : Nat) (d : PyData) : Prop where
  ok : okV B d = true
  w : wv d ≤ k
  p : dv d ≤ n
theorem Sz.mono {B B' k k' n n' : Nat} {d : PyData} (h : Sz B k n d) (b : B ≤ B') (a : k ≤ k') (c : n ≤ n') : Sz B' k' n' d := by
  have key : (∀ d : PyData, okV B d = true → okV B' d = true) := by
    intro d
    refine PyData.rec (motive_1 := fun d => okV B d = true → okV B' d = true) (motive_2 := fun ds => okVAll B ds = true → okVAll B' ds = true) (motive_3 := fun _ => True) (motive_4 := fun _ => True) ?_ ?_ ?_ ?_ ?_ ?_ ?_ ?_ ?_ ?_ ?_ ?_ d
    all_goals first
      | (intros; trivial)
      | (intro i h; simp only [okV, decide_eq_true_eq] at h ⊢; omega)
      | (intro x y h1 h2 h; simp only [okVAll, Bool.and_eq_true] at h ⊢; exact ⟨h1 h.1, h2 h.2⟩)
      | (intro x h1 h; simp only [okV] at h ⊢; exact h1 h)
      | (intros; simpa only [okV] using ‹_›)
  exact ⟨key d h.ok, Nat.le_trans h.w a, Nat.le_trans h.p c⟩
theorem sz_tup {B k n : Nat} {ds : List PyData} (h : ∀ d ∈ ds, okV B d = true) (hw : wvAll ds + 3 ≤ k) (hp : ∀ d ∈ ds, dv d + 1 ≤ n) (hn : 1 ≤ n) : Sz B k n (.tuple ds) := by
  refine ⟨by simp only [okV]; exact okVAll_iff.mpr h, by simp only [wv]; exact hw, ?_⟩
  have : dvAll ds ≤ n - 1 := dvAll_iff.mpr fun d hd => by have := hp d hd; omega
  simp only [dv]; omega
theorem sz_lst {B k n : Nat} {ds : List PyData} (h : ∀ d ∈ ds, okV B d = true) (hw : wvAll ds + 3 ≤ k) (hp : ∀ d ∈ ds, dv d + 1 ≤ n) (hn : 1 ≤ n) : Sz B k n (.list ds) := by
  refine ⟨by simp only [okV]; exact okVAll_iff.mpr h, by simp only [wv]; exact hw, ?_⟩
  have : dvAll ds ≤ n - 1 := dvAll_iff.mpr fun d hd => by have := hp d hd; omega
  simp only [dv]; omega
theorem Sz.items {B k n : Nat} {ds : List PyData} (h : Sz B k n (.tuple ds)) : (∀ d ∈ ds, okV B d = true) ∧ wvAll ds + 3 ≤ k ∧ (∀ d ∈ ds, dv d + 1 ≤ n) ∧ 1 ≤ n := by
  obtain ⟨a, b, c⟩ := h
  simp only [okV] at a
  simp only [wv] at b
  simp only [dv] at c
  have : dvAll ds ≤ n - 1 := by omega
  exact ⟨okVAll_iff.mp a, b, fun d hd => by have := dvAll_iff.mp this d hd; omega, by omega⟩
/-! ### reading -/
section
variable {X : Cx} {pins : List (Addr × Obj)} {σ : L2.St} {H : Hp} {s : Shared}
mutual
theorem Tp.reads (I : Inv X pins σ H s) : ∀ (d : PyData) (v : V) (u : Value), Tp H v d → RelV v u → ∃ as, Reads s.heap u d as ∧ sysModules ∉ as
  | .none, _, _, h, r => by
    cases h
    cases r
    exact ⟨_, Reads.none, by simp⟩
  | .bool b, _, _, h, r => by
    cases h
    cases r
    exact ⟨_, Reads.bool b, by simp⟩
  | .int i, _, _, h, r => by
    cases h
    obtain ⟨t, rfl⟩ := r
    exact ⟨_, Reads.int i t, by simp⟩
  | .str x, _, _, h, r => by
    cases h
    obtain ⟨t, rfl⟩ := r
    exact ⟨_, Reads.str x t, by simp⟩
  | .list ds, _, _, h, r => by
    cases h with
    | lst hs hn ha =>
      cases r
      obtain ⟨its, rv, ⟨o, n, ho, hc, _, hd⟩, _⟩ := I.list (xs := _) (show SqL X.K H _ _ from .inl (.inr ⟨_, hs⟩))
      obtain ⟨as, hr, na⟩ := Tp.readsAll I ds _ its ha rv
      exact ⟨_, Reads.list ho hc hd hr, by simp [na]; exact fun z => hn z.symm⟩
  | .tuple ds, _, _, h, r => by
    cases h with
    | tup hs ha =>
      cases r
      obtain ⟨its, rv, ⟨o, ho, hc, n, hd⟩, _⟩ := I.tuple (sr (K := X.K) hs)
      obtain ⟨as, hr, na⟩ := Tp.readsAll I ds _ its ha rv
      exact ⟨_, Reads.tuple ho hc hd hr, na⟩
  | .dict ds, _, _, h, r => by
    cases h with
    | dic hs od =>
      cases r
      obtain ⟨_, hsm, vs, kv, o, es, ep, ho, hx, hd, _, hp, _⟩ := dk_rd I.hok (.inr ⟨_, hs⟩)
      have nsm := (beq_eq_false_iff_ne.mp hsm).symm
      rcases od with ⟨rfl, rfl⟩ | ⟨rfl, rfl⟩
      · cases kv
        have e0 : es.toList = [] := by cases h : es.toList with | nil => rfl | cons e r => rw [h] at hp; cases hp
        refine ⟨_, Reads.dict (kvs := []) (as := []) (bs := []) ho hx.1 hd (by rw [e0]; exact .nil) (by rw [e0]; exact .nil), by simp [nsm]⟩
      · cases kv with
        | @cons _ q _ _ h1 h2 =>
          cases h2
          obtain ⟨qk, qv⟩ := q
          obtain ⟨e1, t, e2⟩ := h1
          dsimp only at e1 e2
          subst e1 e2
          cases h : es.toList with
          | nil => rw [h] at hp; cases hp
          | cons e r =>
            rw [h] at hp
            cases hp with
            | cons k1 k2 k3 =>
              cases k3
              rcases keyIs_shape (k := .inr "a") (v := e.key) k1 with ⟨i, t', z, _⟩ | ⟨x, t', z, ek⟩
              · cases z
              · cases z
                refine ⟨_, Reads.dict (kvs := [(.str "a", .int 1)]) ho hx.1 hd (as := [] ++ []) (bs := [] ++ []) (by rw [h]; simp only [List.map_cons, List.map_nil, ek]; exact .cons (.str _ _) .nil) (by rw [h]; simp only [List.map_cons, List.map_nil, k2]; exact .cons (.int _ _) .nil), by simp [nsm]⟩
theorem Tp.readsAll (I : Inv X pins σ H s) : ∀ (ds : List PyData) (vs : List V) (us : List Value), TpAll H vs ds → Vals vs us → ∃ as, ReadsAll s.heap us ds as ∧ sysModules ∉ as
  | [], _, _, h, r => by
    cases h
    cases r
    exact ⟨_, ReadsAll.nil, by simp⟩
  | d :: ds, _, _, h, r => by
    cases h with
    | cons h1 h2 =>
      cases r with
      | cons r1 r2 =>
        obtain ⟨as, q1, n1⟩ := Tp.reads I d _ _ h1 r1
        obtain ⟨bs, q2, n2⟩ := Tp.readsAll I ds _ _ h2 r2
        exact ⟨_, ReadsAll.cons q1 q2, by simp [n1, n2]⟩
end
end
/-! ### repr -/
/-- what repr is asked of: a value, or a list of values that was just made -/
def Tq (H : Hp) (v : V) (d : PyData) : Prop := Tp H v d ∨ ∃ a xs ds, v = .ref a ∧ d = .list ds ∧ H a = some (.lst xs) ∧ a ≠ sysModules ∧ TpAll H xs ds
section
variable {X : Cx}
theorem Tq.reads {pins : List (Addr × Obj)} {σ : L2.St} {H : Hp} {s : Shared} (I : Inv X pins σ H s) {d : PyData} {v : V} {u : Value} (h : Tq H v d) (r : RelV v u) : ∃ as, Reads s.heap u d as ∧ sysModules ∉ as := by
  rcases h with h | ⟨a, xs, ds, rfl, rfl, ha, hn, hx⟩
  · exact Tp.reads I d v u h r
  · cases r
    obtain ⟨its, rv, ⟨o, n, ho, hc, _, hd⟩, _⟩ := I.list (show SqL X.K H a xs from sq_of ha)
    obtain ⟨as, hr, na⟩ := Tp.readsAll I ds _ its hx rv
    exact ⟨_, Reads.list ho hc hd hr, by simp [na]; exact fun z => hn z.symm⟩
def rReprV : List V → Hp → VK → Prop := fun xs H Q => ∃ v d, xs = [v] ∧ Tq H v d ∧ Sz (10 ^ 39 + 10) 1000000 50 d ∧ Q (.str d.shown) H
theorem call_reprV (hg : X.A.guards = some []) (hu : X.A.units + 64 < cLine) : CallR X (.builtin "repr") rReprV := by
  intro pins s σ H xs us Q I r h
  obtain ⟨v, d, rfl, hd, hs, q⟩ := h
  obtain ⟨u, rfl, ru⟩ := vals1 r
  obtain ⟨as, rd, na⟩ := hd.reads I ru
  obtain ⟨s1, s3, s4⟩ := okV_show (by decide) d hs.ok
  have hw := hs.w
  have hp := hs.p
  have hz : d.shown.length ≤ sizeLine := Nat.le_trans (Nat.le_trans s3 hw) (by decide)
  have leaf : ∀ {h' : Heap} {t u : Nat}, (∀ b o, s.heap.get? b = some o → h'.get? b = some o) → EP X pins σ Q (.str d.shown u) { s with heap := h', toks := t } :=
    fun k => ⟨.str _, H, I.kept k, ⟨_, rfl⟩, q⟩
  have big : ∀ {a : Addr} (rd : Reads s.heap (.ref a) d as), wpAny (model X.prog X.w) X.A (call (.builtin "repr") [.ref a]) (EP X pins σ Q) X.xe s := fun rd =>
    repr_of_reads' rd s1 (fun _ => na) hg (by omega) (fun _ _ e => e) (fun h' u tk k => leaf k) hz
  cases rd with
  | none =>
    simp only [PyData.shown] at leaf
    exact PySem.P.repr_of_none (leaf fun _ _ e => e)
  | bool b =>
    simp only [PyData.shown] at leaf
    exact PySem.P.repr_of_bool (leaf fun _ _ e => e)
  | int i t =>
    simp only [PyData.shown] at leaf
    exact PySem.P.repr_of_int (by simpa only [PyData.showable, decide_eq_true_eq] using s1) (leaf fun _ _ e => e)
  | str x t =>
    simp only [PyData.shown] at leaf hz
    exact PySem.P.repr_of_str (leaf fun _ _ e => e) hz
  | list a b c e => exact big (.list a b c e)
  | tuple a b c e => exact big (.tuple a b c e)
  | dict a b c e f => exact big (.dict a b c e f)
/-! ### lists, dicts that are locked at once -/
def tLstZ (t : TA) : TE := fun σ H Q => t σ H fun xs H1 => xs.length ≤ sizeLine ∧ ∀ p o, H1 p = none → p ≠ sysModules → Q (.ref p) (upd H1 p (.frz o (.lst xs)))
def tLstN (t : TA) : TE := fun σ H Q => t σ H fun xs H1 => xs.length ≤ sizeLine ∧ ∀ p, H1 p = none → p ≠ sysModules → Q (.ref p) (upd H1 p (.lst xs))
theorem pe_lstZ {es : List Expr} {t : TA} {pos : Pos} (h : PA X es t) : PE X (.List es pos) (tLstZ t) := by
  refine ⟨fun pins s σ H Q I hq => ?_⟩
  refine wpAny_List_spliced (thn (h.run pos pins s σ H _ I hq) fun us s1 ⟨xs, H1, I1, r, z, q⟩ => ⟨by rw [← r.length]; exact z, ?_⟩)
  have hf : H1 s1.heap.objs.size = none := I1.hok.fresh (Nat.le_refl _)
  have e : (s1.heap.push { cls := .type "list", data := .seq us.toArray }).get? s1.heap.objs.size = some { cls := .type "list", data := .seq us.toArray } := Heap.get?_push_size _ rfl
  exact ⟨.ref s1.heap.objs.size, upd H1 s1.heap.objs.size (.frz { cls := .type "list", data := .seq us.toArray } (.lst xs)), I1.laid (t' := s1.toks) (fun b u e => Heap.get?_push_of_some _ e) (Nat.le_refl _) ⟨e, z, us, 0, r, e⟩, rfl, q _ _ hf (Nat.ne_of_gt I1.big)⟩
theorem pe_lstN {es : List Expr} {t : TA} {pos : Pos} (h : PA X es t) : PE X (.List es pos) (tLstN t) := by
  refine ⟨fun pins s σ H Q I hq => ?_⟩
  refine wpAny_List_spliced (thn (h.run pos pins s σ H _ I hq) fun us s1 ⟨xs, H1, I1, r, z, q⟩ => ⟨by rw [← r.length]; exact z, ?_⟩)
  have hf : H1 s1.heap.objs.size = none := I1.hok.fresh (Nat.le_refl _)
  exact ⟨.ref s1.heap.objs.size, upd H1 s1.heap.objs.size (.lst xs), I1.laid (t' := s1.toks) (fun b u e => Heap.get?_push_of_some _ e) (Nat.le_refl _) ⟨z, us, 0, r, Heap.get?_push_size _ rfl⟩, rfl, q _ hf (Nat.ne_of_gt I1.big)⟩
/-- an expression that gives a new dict: it is locked -/
def tDz (t : TE) : TE := fun σ H Q => t σ H fun v H1 => ∃ a kvs, v = .ref a ∧ H1 a = some (.dK kvs) ∧ ∀ o, Q (.ref a) (upd H1 a (.frz o (.dK kvs)))
theorem pe_dz {e : Expr} {t : TE} (h : PE X e t) : PE X e (tDz t) := by
  refine ⟨fun pins s σ H Q I hq => thn (h.run pins s σ H _ I hq) fun u s1 ⟨v, H1, I1, r, a, kvs, ev, ha, q⟩ => ?_⟩
  subst ev
  obtain ⟨z, hd, vs, kv, o, es, ep, ho, rest⟩ := dk_of I1.hok ha
  refine ⟨.ref a, upd H1 a (.frz o (.dK kvs)), ?_, r, q o⟩
  exact I1.write (t' := s1.toks) (h' := s1.heap) (by rw [ha]; exact True.intro) (.inl rfl) (fun b u _ e => e) ⟨o, ho⟩ ⟨ho, z, hd, vs, kv, o, es, ep, ho, rest⟩
/-- list(tuple), locked -/
def rListZ (K : PySem.W.Frag) : List V → Hp → VK → Prop := fun xs H Q => ∃ p ys, xs = [.ref p] ∧ SqT K H p ys ∧ ∀ l o, H l = none → l ≠ sysModules → Q (.ref l) (upd H l (.frz o (.lst ys)))
theorem call_listZ : CallR X (.type "list") (rListZ X.K) := by
  intro pins s σ H xs us Q I r h
  obtain ⟨p, ys, rfl, hq, q⟩ := h
  obtain ⟨u, rfl, rx⟩ := vals1 r
  cases rx
  obtain ⟨its, r', pl, hz⟩ := I.tuple hq
  have hlen := r'.length
  obtain ⟨o, ho, hc, n, hd⟩ := pl
  exact call_list_seq p (.inr rfl) ho hc hd (fun h' c' kp e => ⟨.ref s.heap.objs.size, _, I.laid (t' := s.toks) (o := .frz _ (.lst ys)) kp (Nat.le_refl _) ⟨e, hz, its, c', r', e⟩, rfl, q _ _ (I.hok.fresh (Nat.le_refl _)) (Nat.ne_of_gt I.big)⟩) (by simp only [List.size_toArray] <;> omega)
end
end Cn

namespace HT
open PySem PySem.Spec PyProof.Rows
section
variable {prog : Program} {w : World} {A : Around} {E : Value → Shared → Prop} {s : Shared}
theorem places_back (n : Nat) : Builtin.Slice.slicePlaces ((n : Int) - 1) (-1) (-1) = n := by
  unfold Builtin.Slice.slicePlaces
  have h1 : ¬ ((-1 : Int) > 0) := by omega
  simp only [h1, if_false]
  split
  · simp
  · omega
theorem adjust_back (n : Nat) : Builtin.Slice.sliceAdjust none none (-1) (n : Int) = ((n : Int) - 1, -1) := by
  unfold Builtin.Slice.sliceAdjust
  simp
theorem sliceApplied_back {sl : Addr} {vl vu vs : Value} {n : Nat} {Q : Int × Int × Nat → Shared → Prop} (hs : s.heap.IsSliceOf sl vl vu vs) (pl : IsPart vl none) (pu : IsPart vu none) (ps : IsPart vs (some (-1)))
    (h : Q ((n : Int) - 1, -1, n) s) : wpAny (model prog w) A (Builtin.Slice.sliceApplied (.ref sl) (pure (n : Int))) Q E s := by
  obtain ⟨os, hos, hcs, hds⟩ := id hs
  unfold Builtin.Slice.sliceApplied Builtin.Slice.sliceFields
  refine wpAny_bind (wpAny_bind (wpAny_field hos hds (x := vl) rfl (wpAny_bind (wpAny_field hos hds (x := vu) rfl (wpAny_bind (wpAny_field hos hds (x := vs) rfl (wpAny_pure ?_)))))))
  refine wpAny_bind (slicePart_ ps ?_)
  show wpAny _ _ (if ((-1 : Int) == 0) = true then _ else _) _ _ s
  rw [if_neg (by decide)]
  refine wpAny_bind (slicePart_ pl (wpAny_bind (slicePart_ pu (wpAny_bind (wpAny_pure ?_)))))
  show wpAny _ _ (match Builtin.Slice.sliceAdjust none none (-1) (n : Int) with | (lo, hi) => pure (lo, (-1 : Int), Builtin.Slice.slicePlaces lo hi (-1))) _ _ s
  rw [adjust_back n]
  show wpAny _ _ (pure ((n : Int) - 1, (-1 : Int), Builtin.Slice.slicePlaces ((n : Int) - 1) (-1) (-1))) _ _ s
  rw [places_back]
  exact wpAny_pure h
theorem fm_congr {α β : Type} {f g : α → Option β} : ∀ l : List α, (∀ x ∈ l, f x = g x) → l.filterMap f = l.filterMap g
  | [], _ => rfl
  | x :: l, h => by
    rw [List.filterMap_cons, List.filterMap_cons, h x (List.mem_cons_self ..), fm_congr l fun y hy => h y (List.mem_cons_of_mem _ hy)]
theorem pick_back (xs : Array Value) : ((List.range xs.size).filterMap fun (m : Nat) => xs[(((xs.size : Int) - 1) + (m : Int) * (-1)).toNat]?).toArray = xs.toList.reverse.toArray := by
  have h := PySem.W.krv_range xs.size
  have e : ((List.range xs.size).filterMap fun (m : Nat) => xs[(((xs.size : Int) - 1) + (m : Int) * (-1)).toNat]?) = (((List.range xs.size).map fun k => xs.size - 1 - k).filterMap (xs[·]?)) := by
    rw [List.filterMap_map]
    refine fm_congr _ fun m hm => ?_
    have : (((xs.size : Int) - 1) + (m : Int) * (-1)).toNat = xs.size - 1 - m := by omega
    rw [this]
    all_goals rfl
  rw [e, h, List.filterMap_reverse, PySem.W.krv_all]
theorem getItem_tuple_back {t sl : Addr} {items : Array Value} {vl vu vs : Value} {Q : Value → Shared → Prop} (ht : IsTup s.heap t items) (hs : s.heap.IsSliceOf sl vl vu vs) (pl : IsPart vl none) (pu : IsPart vu none) (ps : IsPart vs (some (-1)))
    (h : Q (.ref s.heap.objs.size) { s with heap := s.heap.push { cls := .type "tuple", data := .seq items.toList.reverse.toArray } })
    (hsz : items.size ≤ sizeLine) : wpAny (model prog w) A (getItem (.ref t) (.ref sl)) Q E s := by
  have htake : sizeOk (.seq items.toList.reverse.toArray) := by
    show items.toList.reverse.toArray.size ≤ sizeLine
    rw [List.size_toArray, List.length_reverse, Array.length_toList]
    exact hsz
  obtain ⟨os, hos, hcs, hds⟩ := id hs
  have hTs : s.TypeIs (.ref sl) "slice" := ⟨os, hos, hcs⟩
  unfold getItem
  try with_reducible refine wpAny_holding ?_
  first | refine wpAny_bind (wpAny_pure ?_) | skip
  refine wpAny_bind (wpAny_sequenceKey ht.typeIs (by decide) ?_)
  refine wpAny_bind (wpAny_callSpecial?_slot (name := Str.ofString "__getitem__") ht.typeIs PyProof.Rows.slot_tuple_getitem
    (wpAny_call_entry PyProof.Rows.slot_tuple_getitem ht.typeIs entry_tuple_getitem ?_ (args_tuple_getitem _ _)))
  show wpAny _ _ (Builtin.Tuple.tupleItemsOf (.ref t) >>= _) _ _ s
  refine wpAny_bind (tupleItemsOf_ ht ?_)
  refine wpAny_bind (wpAny_typeOf hTs ?_)
  rw [if_pos (by decide)]
  refine wpAny_bind (sliceApplied_back hs pl pu ps ?_)
  show wpAny _ _ (if ((((items.size : Int) - 1)) == 0 && (-1 : Int) == 1 && items.size == items.size) = true then _ else _) _ _ s
  rw [if_neg (by simp), pick_back]
  first
    | exact wpAny_bind (m := Builtin.Tuple.tupleExact _) (wpAny_newObj_type (wpAny_pure ⟨_, rfl, wpAny_pure h⟩) htake)
    | exact wpAny_bind (m := Builtin.Tuple.tupleExact _) (wpAny_newObj_type (wpAny_bind (wpAny_pure (wpAny_pure ⟨_, rfl, wpAny_pure h⟩))) htake)
    | exact wpAny_bind (wpAny_bind (m := Builtin.Tuple.tupleExact _) (wpAny_newObj_type (wpAny_pure (wpAny_pure ⟨_, rfl, wpAny_pure h⟩)) htake))
    | exact wpAny_bind (wpAny_bind (m := Builtin.Tuple.tupleExact _) (wpAny_newObj_type (wpAny_pure ⟨_, rfl, wpAny_pure h⟩) htake))
end
end HT
namespace Cn
open PySem PySem.Spec PyProof.Rows L2 Evl
section
variable {X : Cx}
/-- t[::-1] -/
def tRevT (K : PySem.W.Frag) (te : TE) : TE := fun σ H Q => te σ H fun x H1 => ∃ a xs, x = .ref a ∧ SqT K H1 a xs ∧ ∀ p, H1 p = none → Q (.ref p) (upd H1 p (.tup xs.reverse))
theorem vals_rev : ∀ {xs : List V} {us : List Value}, Vals xs us → Vals xs.reverse us.reverse
  | _, _, .nil => .nil
  | _, _, .cons r t => by
    rw [List.reverse_cons, List.reverse_cons]
    exact Vals.append (vals_rev t) (.cons r .nil)
theorem pe_revT {e : Expr} {te : TE} {k : Nat} {p1 p2 p3 pos : Pos} (he : PE X e te) : PE X (.Subscript e (.Slice none none (some (.UnaryOp .USub (.Constant (.int 1) k p1) p2)) p3) pos) (tRevT X.K te) := by
  refine ⟨fun pins s σ H Q I h => ?_⟩
  refine Subscript_ (thn (he.run pins s σ H _ I h) fun v s1 ⟨x, H1, I1, r1, q1⟩ => ?_)
  obtain ⟨a, xs, ex, hx, q⟩ := q1
  subst ex
  cases r1
  have hst : PO X (some (.UnaryOp .USub (.Constant (.int 1) k p1) p2)) (tPart (tUn (rU fun i => .int (-i)) (tC (.int 1)))) := po_some (pe_un un_neg pe_int)
  refine wpAny_Slice (thn (po_none.run pins s1 σ H1 (fun o H2 => o = none ∧ H2 = H1) I1 ⟨rfl, rfl⟩) fun vl s2 ⟨l, H2, I2, pl, el, e2⟩ => ?_)
  subst el e2
  refine thn (po_none.run pins s2 σ H2 (fun o H3 => o = none ∧ H3 = H2) I2 ⟨rfl, rfl⟩) fun vu s3 ⟨u, H3, I3, pu, eu, e3⟩ => ?_
  subst eu e3
  refine thn (hst.run pins s3 σ H3 (fun o H4 => o = some (-1) ∧ H4 = H3) I3 ⟨1, rfl, -1, rfl, rfl, rfl⟩) fun vs s4 ⟨o, H4, I4, ps, eo, e4⟩ => ?_
  subst eo e4
  have I5 : Inv X pins σ H4 { s4 with heap := s4.heap.push { cls := .type "slice", data := .fields #[vl, vu, vs] } } := I4.kept (t' := s4.toks) fun b ob q => Heap.get?_push_of_some _ q
  obtain ⟨its, r, ht, hz⟩ := I5.tuple hx
  have hlen := r.length
  show wpAny (model X.prog X.w) X.A (subscriptTail e (.Slice none none (some (.UnaryOp .USub (.Constant (.int 1) k p1) p2)) p3) (.ref a) (.ref s4.heap.objs.size)) (EP X pins σ Q) X.xe { s4 with heap := s4.heap.push { cls := .type "slice", data := .fields #[vl, vu, vs] } }
  refine tail_any (ops := [.ref a, .ref s4.heap.objs.size]) ht.typeIs (PyProof.Rows.slot_tuple_getitem.lookup) ?_ (by with_unfolding_all rfl)
  refine HT.getItem_tuple_back ht (Heap.IsSliceOf.new _ vl vu vs) pl pu ps ?_ (by rw [List.size_toArray]; omega)
  refine ⟨.ref _, _, I5.laid (t' := s4.toks) (o := .tup xs.reverse) (fun b ob q => Heap.get?_push_of_some _ q) (Nat.le_refl _) ?_, rfl, q _ (I5.hok.fresh (Nat.le_refl _))⟩
  exact ⟨by rw [List.length_reverse]; exact hz, its.reverse, vals_rev r, ⟨_, Heap.get?_push_size _ rfl, rfl, _, rfl⟩⟩
/-- str(int), str(bool) -/
def rStrV : List V → Hp → VK → Prop := fun xs H Q => (∃ i, xs = [.int i] ∧ i.natAbs.log2 < 1920 ∧ Q (.str (toString i)) H) ∨ ∃ b, xs = [.bl b] ∧ Q (.str (if b then "True" else "False")) H
theorem call_strV : CallR X (.type "str") rStrV := by
  intro pins s σ H xs us Q I r h
  rcases h with ⟨i, rfl, hz, q⟩ | ⟨b, rfl, q⟩
  · obtain ⟨u, rfl, t, rfl⟩ := vals1 r
    exact PySem.P.str_of_int hz ⟨.str _, H, I.tok _, ⟨_, rfl⟩, q⟩
  · obtain ⟨u, rfl, ru⟩ := vals1 r
    cases ru
    exact PySem.P.str_of_bool ⟨.str _, H, I.tok _, ⟨_, rfl⟩, q⟩
end
end Cn

namespace Cn
open PySem PySem.Spec PyProof.Rows L2 Evl
/-! ### enumerate(tuple) -/
theorem meets_enum1 {v : Value} {o : Obj} {H : Heap → Prop} (B : Begins v o H) :
    Meets (Builtin.«enumerate.__new__» ⟨[.type "enumerate", v], []⟩) (fun _ R s => H s.heap ∧
      R (.ok (.ret (.ref (s.heap.push o).objs.size))) { s with heap := (s.heap.push o).push { cls := .type "enumerate", data := .fields #[.none, .bool false, .ref s.heap.objs.size, rawInt 0, .none, .none] } }) :=
  .of_wp fun prog w A R s h => by
    obtain ⟨hp, g, d, tk, os⟩ := s; obtain ⟨h1, h⟩ := h
    have hsub := sub_enumerate
    have q1 : ∀ {A' : Around} {E : Value → Shared → Prop} {Q : Value → Shared → Prop}, Q (.ref hp.objs.size) ⟨hp.push o, g, d, tk, os⟩ → wpAny (model prog w) A' (pyIter v) Q E ⟨hp, g, d, tk, os⟩ :=
      fun q => B.iter prog w _ _ ⟨hp, g, d, tk, os⟩ _ h1 q
    wp_walk using q1
    refine wpAny_stack_any fun st => wpAny_pure ?_
    split
    · rename_i c _ _ _ _ _
      cases (c == Value.type "enumerate")
      · wp_walk using q1
        exact ⟨_, rfl, h⟩
      · wp_walk using q1
        exact ⟨_, rfl, h⟩
    · wp_walk using q1
      exact ⟨_, rfl, h⟩
theorem call_enum_tuple {prog : Program} {w : World} {A : Around} {E : Value → Shared → Prop} {s : Shared} {t : Addr} {items : Array Value} {Q : Value → Shared → Prop} (hT : s.heap.IsTuple t items)
    (h : ∀ h', IsEnum h' (s.heap.objs.size + 1) s.heap.objs.size 0 .none → h'.IsTupleIter s.heap.objs.size t 0 → h'.objs.size = s.heap.objs.size + 2 →
      (∀ b o, s.heap.get? b = some o → h'.get? b = some o) → Q (.ref (s.heap.objs.size + 1)) { s with heap := h' }) :
    wpAny (model prog w) A (call (.type "enumerate") [.ref t]) Q E s := by
  refine callType_new F.called_enumerate (by decide) (F.typeCall_enumerate_1 _) (F.newCall_enumerate_1 _) (fun obj => F.args_object_init_2 obj _) F.entry_enumerate_new
    (meets_enum1 (begins_tuple t items)) ⟨hT, ?_⟩
  have hz : (s.heap.push { cls := .type "tuple_iterator", data := .fields #[.ref t, .int 0 0] }).objs.size = s.heap.objs.size + 1 := Heap.size_push ..
  show _ ∧ _
  rw [hz]
  have he : IsEnum ((s.heap.push { cls := .type "tuple_iterator", data := .fields #[.ref t, .int 0 0] }).push
      { cls := .type "enumerate", data := .fields #[.none, .bool false, .ref s.heap.objs.size, rawInt 0, .none, .none] }) (s.heap.objs.size + 1) s.heap.objs.size 0 .none := by
    have := Heap.get?_push_size (s.heap.push { cls := .type "tuple_iterator", data := .fields #[.ref t, .int 0 0] })
      (o := { cls := .type "enumerate", data := .fields #[.none, .bool false, .ref s.heap.objs.size, rawInt 0, .none, .none] }) rfl
    rw [hz] at this; exact this
  refine ⟨⟨_, he, rfl⟩, h _ he ⟨_, Heap.get?_push_of_some _ (Heap.get?_push_size _ rfl), rfl, rfl⟩ (by rw [Heap.size_push, hz]) fun b o x => Heap.get?_push_of_some _ (Heap.get?_push_of_some _ x)⟩
theorem enum_tuple_end {prog : Program} {w : World} {A : Around} {E : Value → Shared → Prop} {s : Shared} {e it l : Addr} {i : Nat} {items : Array Value} {old : Value} {Q : Option Value → Shared → Prop} (hh : A.handled = none)
    (he : IsEnum s.heap e it i old) (hit : s.heap.IsTupleIter it l i) (hl : s.heap.IsTuple l items) (hx : items[i]? = none)
    (hQ : ∀ h', Heap.ExtBut it s.heap h' → Q none { s with heap := h' }) : wpAny (model prog w) A (pyNext (.ref e)) Q E s := by
  have hT : s.TypeIs (.ref e) "enumerate" := ⟨_, he, rfl⟩
  unfold pyNext
  refine wpAny_bind (wpAny_attempt (wpAny_callSpecial?_slot (name := Str.ofString "__next__") hT F.slot_enumerate_next
    (wpAny_call_entry F.slot_enumerate_next hT F.entry_enumerate_next ?_ (F.args_enumerate_next_1 _))))
  show wpAny _ _ (field (.ref e) 2 >>= _) _ _ _
  refine wpAny_bind (wpAny_field he rfl (x := .ref it) rfl ?_)
  refine wpAny_bind (wpAny_nextOf_tuple_end hh hit hl hx fun h' x he' hx' => ?_)
  obtain ⟨o, ho, hc⟩ := hx'
  refine wpAny_bind (wpAny_isInstance (T := "StopIteration") (b := true) ⟨o, ho, hc⟩ isSubtype_stop ?_)
  exact wpAny_pure (hQ _ he')
def IteT (K : PySem.W.Frag) (a : Addr) : It :=
  ⟨fun i H => ∃ (xs : List V) (x : V), SqT K H a xs ∧ xs[i]? = some x, fun i H v H' => ∃ T x, v = .ref T ∧ H T = none ∧ H' = upd H T (.tup [.int (i : Nat), x]) ∧ ∀ xs, SqT K H a xs → xs[i]? = some x, fun i H => ∃ xs : List V, SqT K H a xs ∧ xs.length ≤ i⟩
theorem turn_enumT {P : Program} {w : World} {K : PySem.W.Frag} {elts : List Expr} {kk : Nat} {tpos : Pos} (a e it : Addr) :
    Turn P w K (.Tuple elts kk tpos) (IteT K a) [e, it] e (fun i h => (∃ old, IsEnum h e it ((i : Nat) : Int) old) ∧ h.IsTupleIter it a i ∧ e ≠ it ∧ a ≠ it ∧ a ≠ e) where
  mem := by simp
  obj := fun i h st b hb => by
    obtain ⟨⟨old, he⟩, ⟨o, ho, hc, hd⟩, _⟩ := st
    have e' : b = e ∨ b = it := by simpa using hb
    rcases e' with z | z
    · rw [z]; exact ⟨_, he, fun v q => nomatch q⟩
    · rw [z]; exact ⟨o, ho, fun v q => by rw [hd] at q; cases q⟩
  keep := fun i h h' st k => let ⟨⟨old, he⟩, hi, hne⟩ := st; ⟨⟨old, k e (by simp) _ he⟩, hi.at fun o q => k it (by simp) o q, hne⟩
  item := by
    intro X hP hw hK hc i pins s σ H E I hf st hg
    subst hP hw hK
    obtain ⟨⟨old, he⟩, hit, hne, ha1, ha2⟩ := st
    obtain ⟨xs, x, hq, hx⟩ := hg
    obtain ⟨its, rv, p, hz⟩ := I.tuple hq
    obtain ⟨u, hu, ru⟩ := rv.get hx
    have hel : e < s.heap.objs.size := Heap.lt_size he
    have hil : it < s.heap.objs.size := by obtain ⟨_, q, _⟩ := hit; exact Heap.lt_size q
    have hlt : i < its.toArray.size := by rw [List.size_toArray]; exact (List.getElem?_eq_some_iff.mp hu).1
    refine wpAny_pyNext_enum_itemC (Draws.tuple (A := X.A.in1) (show X.A.in1.handled = none from I.ok.hd hc) it a ha1 its.toArray) he ⟨hit, p⟩ hlt hne (by simp [hne]; exact fun z => ha2 z.symm) fun y h' tk hP ho hst hT hsz hk => ?_
    have ey : y = u := by
      have hP' : its.toArray[i]? = some y := hP
      rw [List.getElem?_toArray, hu] at hP'
      exact (Option.some.inj hP').symm
    subst ey
    refine ⟨_, rfl, wpAny_letOwnedTupleGo_enum (s := { s with heap := h', toks := tk + 1 }) ho fun h'' he' sb => ?_⟩
    have hT2 : h''.get? s.heap.objs.size = some { cls := .type "tuple", data := .seq #[.int i tk, y] } := (sb.2 _ (Nat.ne_of_gt hel)).trans hT
    have new : ObjOk X.prog X.w (upd H s.heap.objs.size (.tup [.int (i : Nat), x])) h'' s.heap.objs.size (.tup [.int (i : Nat), x]) :=
      ⟨by show 2 ≤ sizeLine; decide, [.int i tk, y], .cons ⟨_, rfl⟩ (.cons ru .nil), ⟨_, hT2, rfl, _, rfl⟩⟩
    have I1 : Inv X pins σ (upd H s.heap.objs.size (.tup [.int (i : Nat), x])) { s with heap := h'', toks := tk + 1 } :=
      I.turnedNew (ch := [e, it]) (fun b ob hb q => (sb.2 b (fun z => hb (by simp [z]))).trans (hk b ob (fun z => hb (by simp [z])) (fun z => hb (by simp [z])) q)) hf (Nat.le_refl _) new
    refine ⟨.ref s.heap.objs.size, _, I1, rfl, ⟨_, x, rfl, I.hok.fresh (Nat.le_refl _), rfl, fun ys hy => by rw [I.tuple_inj hy hq]; exact hx⟩, ⟨⟨y, ?_⟩, hst.1.at fun o q => (sb.2 it (Ne.symm hne)).trans q, hne, ha1, ha2⟩, fun b hb => ?_⟩
    · have e1 : ((i + 1 : Nat) : Int) = (i : Int) + 1 := by omega
      rw [e1]; exact he'
    · have hb' : b < s.heap.objs.size := by
        have e' : b = e ∨ b = it := by simpa using hb
        rcases e' with z | z
        · rw [z]; exact hel
        · rw [z]; exact hil
      rw [upd_ne (Nat.ne_of_lt hb')]
      exact (hf b hb).1
  done := by
    intro X hP hw hK hc i pins s σ H E I hf st hg
    subst hP hw hK
    obtain ⟨⟨old, he⟩, hit, hne, ha1, ha2⟩ := st
    obtain ⟨xs, hq, hx⟩ := hg
    obtain ⟨its, rv, p, hz⟩ := I.tuple hq
    obtain ⟨f0, f1, f2, f3, f4, f5⟩ := hf it (by simp)
    have hl := rv.length
    exact enum_tuple_end (I.ok.hd hc) he hit p (by simp; omega) fun h' eb => ⟨rfl, I.turned (t' := s.toks) (fun b o hb q => eb b o hb q) f0 f1 f3 f4 f5⟩
  self := fun A i s Q E st h => let ⟨⟨_, he⟩, _⟩ := st; wpAny_pyIter_enum he h
def iEnumT (K : PySem.W.Frag) (ta : TA) : TI := fun σ H R => ta σ H fun vs H1 => ∃ a xs, vs = [.ref a] ∧ SqT K H1 a xs ∧ R (IteT K a) H1
theorem pi_enumT {X : Cx} {e : Expr} {ta : TA} {p pos tpos : Pos} {elts : List Expr} {kk : Nat} (hg : Gl X "enumerate") (hm : X.mg "enumerate" = none) (ha : PA X [e] ta) (hs : starEach [e] X.env = [(false, eval e X.env)] := by rfl) :
    PI X (.Tuple elts kk tpos) (.Call (.Name "enumerate" p) [e] [] pos) (iEnumT X.K ta) := by
  refine ⟨fun pins s σ H R I h => ?_⟩
  refine Call_ (ld_blt I hg hm boot_enumerate (PyProof.Rows.callWith_type1 (thn (ha.run pos pins s σ H _ I h) fun us s1 ⟨vs, H1, I1, r1, q1⟩ => ?_) hs rfl))
  obtain ⟨a, xs, ex, hq, q⟩ := q1
  subst ex
  cases r1 with
  | cons r rr =>
    cases rr
    cases r
    obtain ⟨its, rv, p', hz⟩ := I1.tuple hq
    have hal : a < s1.heap.objs.size := p'.lt
    refine call_enum_tuple p' fun h' he hit hsz hk => wpAny_pyIter_enum he ?_
    have I2 : Inv X pins σ H1 { s1 with heap := h' } := I1.kept (t' := s1.toks) hk
    refine ⟨s1.heap.objs.size + 1, [s1.heap.objs.size + 1, s1.heap.objs.size], _, _, H1, rfl, I2, turn_enumT a (s1.heap.objs.size + 1) s1.heap.objs.size, ⟨⟨.none, he⟩, hit, Nat.succ_ne_self _, Nat.ne_of_lt hal, Nat.ne_of_lt (Nat.lt_succ_of_lt hal)⟩, fun b hb => ?_, q⟩
    have e' : b = s1.heap.objs.size + 1 ∨ b = s1.heap.objs.size := by simpa using hb
    have hle : s1.heap.objs.size ≤ b := by
      rcases e' with z | z
      · rw [z]; exact Nat.le_add_right _ _
      · rw [z]; exact Nat.le_refl _
    exact I1.fpOk hle (I1.hok.fresh hle)
theorem walk_enumT {K : PySem.W.Frag} {a : Addr} {xs : List V} : Walk (IteT K a) xs.length (fun H => SqT K H a xs) (YPair (fun i => some (.int (i : Nat))) (fun i => xs[i]?)) := by
  refine ⟨fun i _ hi q => ⟨xs, xs[i], q, by simp [hi]⟩, fun _ q => ⟨xs, q, Nat.le_refl _⟩, fun i H v H' _ q y => ?_⟩
  obtain ⟨T, x, h1, h2, h3, h4⟩ := y
  exact ⟨T, .int (i : Nat), x, h1, h2, h3, rfl, h4 xs q⟩
end Cn

namespace Cn
open PySem PySem.Spec PyProof.Rows L2 Evl
/-! ### rules that name K, and arithmetic of bools -/
section
variable {X : Cx} {K : PySem.W.Frag}
theorem pe_gi {x : Str} {pos : Pos} {i : Int} {t : Tok} (hg : Gl X x) (hm : X.mg x = some (.int i t)) (hd : (x == ("__debug__" : Str)) = false := by decide) : PE X (.Name x pos) (tC (.int i)) := pe_glob (v := .int i) hg hm ⟨t, rfl⟩ hd
theorem call_isiN (h : X.K = K) : CallR X (.builtin "isinstance") (rIsi K) := h ▸ call_isi
theorem call_listZK (h : X.K = K) : CallR X (.type "list") (rListZ K) := h ▸ call_listZ
theorem pe_revTK {e : Expr} {te : TE} {k : Nat} {p1 p2 p3 pos : Pos} (h : X.K = K) (he : PE X e te) : PE X (.Subscript e (.Slice none none (some (.UnaryOp .USub (.Constant (.int 1) k p1) p2)) p3) pos) (tRevT K te) := h ▸ pe_revT he
theorem pi_enumTK {e : Expr} {ta : TA} {p pos tpos : Pos} {elts : List Expr} {kk : Nat} (h : X.K = K) (hg : Gl X "enumerate") (hm : X.mg "enumerate" = none) (ha : PA X [e] ta) (hs : starEach [e] X.env = [(false, eval e X.env)] := by rfl) :
    PI X (.Tuple elts kk tpos) (.Call (.Name "enumerate" p) [e] [] pos) (iEnumT K ta) := h ▸ pi_enumT hg hm ha hs
/-- a tuple and the empty one -/
def rNe0 (K : PySem.W.Frag) (neg : Bool) : R2 := fun x y H Q => ∃ a b xs, x = .ref a ∧ y = .ref b ∧ SqT K H a xs ∧ SqT K H b [] ∧ Q (.bl (neg != xs.isEmpty)) H
theorem op_ne0 (h : X.K = K) (hu : X.A.units + 64 < cLine) : OpR X (compareOp .NotEq) (rNe0 K true) := by
  subst h
  intro pins s σ H x y v u Q I rx ry h
  obtain ⟨a, b, xs, rfl, rfl, ha, hb, q⟩ := h
  cases rx
  cases ry
  obtain ⟨its, rv, ta, _⟩ := I.tuple ha
  obtain ⟨its2, rv2, tb, _⟩ := I.tuple hb
  cases rv2
  have l := rv.length
  refine SeqAt.RcNeAt.tuples (e := fun _ => true) ta tb (by omega) (fun j h1 h2 => by simp at h2) X.prog X.w X.xe _ ⟨.bl _, H, I, ?_, q⟩
  show _ = _
  congr 1
  cases its <;> cases xs <;> simp_all
theorem op_eq0 (h : X.K = K) (hu : X.A.units + 64 < cLine) : OpR X (compareOp .Eq) (rNe0 K false) := by
  subst h
  intro pins s σ H x y v u Q I rx ry h
  obtain ⟨a, b, xs, rfl, rfl, ha, hb, q⟩ := h
  cases rx
  cases ry
  obtain ⟨its, rv, ta, _⟩ := I.tuple ha
  obtain ⟨its2, rv2, tb, _⟩ := I.tuple hb
  cases rv2
  have l := rv.length
  refine SeqAt.RcAt.tuples (e := fun _ => true) ta tb (by omega) (fun j h1 h2 => by simp at h2) X.prog X.w X.xe _ ⟨.bl _, H, I, ?_, q⟩
  show _ = _
  congr 1
  cases its <;> cases xs <;> simp_all
/-- an int or a bool, as a number -/
def nbV : V → Option Int
  | .int i => some i
  | .bl b => some (if b = true then 1 else 0)
  | _ => none
def rNb (f : Int → Int → Int) : R2 := fun x y H Q => ∃ i j, nbV x = some i ∧ nbV y = some j ∧ ((∃ k, x = .int k) ∨ ∃ k, y = .int k) ∧ Q (.int (f i j)) H
theorem op_addB : OpR X (binaryOp .Add) (rNb (· + ·)) := by
  intro pins s σ H x y v u Q I rx ry h
  obtain ⟨i, j, hx, hy, hor, q⟩ := h
  cases x <;> simp only [nbV, reduceCtorEq, Option.some.injEq] at hx <;> cases y <;> simp only [nbV, reduceCtorEq, Option.some.injEq] at hy <;> subst hx hy
  · cases rx; cases ry; simp at hor
  · cases rx; obtain ⟨t, rfl⟩ := ry
    exact PySem.IntBool.add_bool_int ⟨.int _, H, I.tok _, ⟨_, rfl⟩, q⟩
  · obtain ⟨t, rfl⟩ := rx; cases ry
    exact add_int_bool ⟨.int _, H, I.tok _, ⟨_, rfl⟩, q⟩
  · obtain ⟨t, rfl⟩ := rx; obtain ⟨t, rfl⟩ := ry
    exact add_int ⟨.int _, H, I.tok _, ⟨_, rfl⟩, q⟩
theorem op_subB : OpR X (binaryOp .Sub) (rNb (· - ·)) := by
  intro pins s σ H x y v u Q I rx ry h
  obtain ⟨i, j, hx, hy, hor, q⟩ := h
  cases x <;> simp only [nbV, reduceCtorEq, Option.some.injEq] at hx <;> cases y <;> simp only [nbV, reduceCtorEq, Option.some.injEq] at hy <;> subst hx hy
  · cases rx; cases ry; simp at hor
  · cases rx; obtain ⟨t, rfl⟩ := ry
    exact PySem.IntBool.sub_bool_int ⟨.int _, H, I.tok _, ⟨_, rfl⟩, q⟩
  · obtain ⟨t, rfl⟩ := rx; cases ry
    exact PySem.IntBool.sub_int_bool ⟨.int _, H, I.tok _, ⟨_, rfl⟩, q⟩
  · obtain ⟨t, rfl⟩ := rx; obtain ⟨t, rfl⟩ := ry
    exact sub_int ⟨.int _, H, I.tok _, ⟨_, rfl⟩, q⟩
end
/-! ### kinds -/
def tyN : PyData → String
  | .none => "NoneType"
  | .bool _ => "bool"
  | .int _ => "int"
  | .str _ => "str"
  | .list _ => "list"
  | .tuple _ => "tuple"
  | .dict _ => "dict"
def isI : PyData → Bool
  | .int _ => true
  | .bool _ => true
  | _ => false
def isB : PyData → Bool
  | .bool _ => true
  | _ => false
def isT : PyData → Bool
  | .tuple _ => true
  | _ => false
theorem kit_int (d : PyData) : kitB (tyN d) "int" = some (isI d) := by cases d <;> simp only [tyN, isI] <;> decide +kernel
theorem kit_bool (d : PyData) : kitB (tyN d) "bool" = some (isB d) := by cases d <;> simp only [tyN, isB] <;> decide +kernel
theorem kit_tuple (d : PyData) : kitB (tyN d) "tuple" = some (isT d) := by cases d <;> simp only [tyN, isT] <;> decide +kernel
theorem Tp.tyx {K : PySem.W.Frag} {H : Hp} {v : V} {d : PyData} (h : Tp H v d) : TyX K H v (.type (tyN d)) := by
  cases h with
  | non => exact .base .non
  | bl b => exact .base (.bl b)
  | int i => exact .base (.int i)
  | str x => exact .base (.str x)
  | tup h _ =>
    rcases h with h | ⟨o, h⟩
    · exact .base (.tup h)
    · exact .fTuple h
  | lst h _ _ => exact .base (.frz h)
  | dic h _ => exact .fDict h
def nbD : PyData → Int
  | .int i => i
  | .bool b => if b = true then 1 else 0
  | _ => 0
theorem Tp.nb {H : Hp} {v : V} {d : PyData} (h : Tp H v d) (i : isI d = true) : nbV v = some (nbD d) := by
  cases h <;> simp [isI] at i <;> rfl
section
variable {K : PySem.W.Frag} {σ : L2.St} {H H' : Hp} {ta tb te tc : TE} {v : V} {d e : PyData} {ds es : List PyData}
/-- isinstance(x, c) -/
theorem ev_isi {c : String} {b : PyData → Bool} (hk : ∀ d, kitB (tyN d) c = some (b d)) (h : EvD te σ H d) : Ev (tCB (rIsi K) (tCons te (tCons (tC (.ty c)) tNil))) σ H (.bl (b d)) := fun H1 e1 Q q =>
  h H1 e1 _ fun v H2 e2 t2 => ⟨v, .ty c, .type (tyN d), .type c, b d, rfl, .ty c, t2.tyx, kit_ty (hk d), q H2 e2⟩
/-- a name that holds data -/
theorem ed_var {i : Nat} (h : σ[i]? = some (some v)) (t : Tp H v d) : EvD (tVar i) σ H d := ed_val (ev_var h) t
theorem ed_non : EvD (tC .non) σ H .none := fun H1 _ Q q => q _ H1 (Ex.refl H1) .non
theorem ed_bl {b : Bool} : EvD (tC (.bl b)) σ H (.bool b) := fun H1 _ Q q => q _ H1 (Ex.refl H1) (.bl b)
theorem ed_i {i : Int} : EvD (tC (.int i)) σ H (.int i) := fun H1 _ Q q => q _ H1 (Ex.refl H1) (.int i)
theorem ed_str {x : Str} : EvD (tC (.str x)) σ H (.str x) := fun H1 _ Q q => q _ H1 (Ex.refl H1) (.str x)
theorem ed_bv {b : Bool} (h : Ev te σ H (.bl b)) : EvD te σ H (.bool b) := fun H1 e Q q => h H1 e Q fun H2 e2 => q _ H2 e2 (.bl b)
/-- [..] that is locked -/
theorem ed_lstZ {tr : TA} (h : EvAd tr σ H ds) (hl : ds.length ≤ 100000) : EvD (tLstZ tr) σ H (.list ds) := fun H1 e Q q =>
  h H1 e _ fun vs H2 e2 t2 => ⟨sz_of (by rw [t2.length]; exact hl), fun p o hp hn => q _ _ (e2.trans (Ex.new hp)) (.lst upd_same hn (t2.mono (Tk.ex (Ex.new hp))))⟩
theorem ed_d0 : EvD (tDz tDNewK) σ H (.dict []) := fun H1 e Q q p hp => ⟨p, [], rfl, upd_same, fun o => q _ _ (fun a u ha => by
  rw [upd_upd, upd_ne (ne_of_none ha hp)]
  exact ha) (.dic upd_same (.inl ⟨rfl, rfl⟩))⟩
theorem ed_d1 : EvD (tDz (tDisp [(tC (.str "a"), tC (.int 1))])) σ H (.dict [(.str "a", .int 1)]) := fun H1 e Q q p hp =>
  ⟨upd_same, [(.inr "a", .int 1)], rfl, by decide, p, _, rfl, upd_same, fun o => q _ _ (fun a u ha => by
    rw [upd_upd, upd_upd, upd_ne (ne_of_none ha hp)]
    exact ha) (.dic upd_same (.inr ⟨rfl, rfl⟩))⟩
/-- list(tuple) that is locked -/
theorem ed_listZ (h : EvD te σ H (.tuple ds)) : EvD (tCB (rListZ K) (tCons te tNil)) σ H (.list ds) := fun H1 e Q q =>
  h H1 e _ fun v H2 e2 t2 => by
    obtain ⟨a, xs, rfl, ha, hx⟩ := t2.tup_inv
    exact ⟨a, xs, rfl, sr ha, fun l o hl hn => q _ _ (e2.trans (Ex.new hl)) (.lst upd_same hn (hx.mono (Tk.ex (Ex.new hl))))⟩
theorem TpAll.drop : ∀ {xs : List V} {ds : List PyData} (n : Nat), TpAll H xs ds → TpAll H (xs.drop n) (ds.drop n)
  | _, _, 0, h => h
  | _, _, _ + 1, .nil => .nil
  | _, _, n + 1, .cons _ b => b.drop n
theorem TpAll.reverse : ∀ {xs : List V} {ds : List PyData}, TpAll H xs ds → TpAll H xs.reverse ds.reverse
  | _, _, .nil => .nil
  | _, _, .cons a b => by
    rw [List.reverse_cons, List.reverse_cons]
    exact (TpAll.reverse b).append (.cons a .nil)
def cutD (ds : List PyData) (lo hi : Option Int) : List PyData := (ds.drop (HT.sIx ds.length 0 lo)).take (HT.sIx ds.length ds.length hi - HT.sIx ds.length 0 lo)
theorem cutD_mem {lo hi : Option Int} {d : PyData} (h : d ∈ cutD ds lo hi) : d ∈ ds := List.mem_of_mem_drop (List.mem_of_mem_take h)
theorem cutD_wv {lo hi : Option Int} : wvAll (cutD ds lo hi) ≤ wvAll ds := Nat.le_trans (wvAll_take _ _) (wvAll_drop _ _)
/-- t[lo:hi] -/
theorem ed_cut {tl th : TO} {lo hi : Option Int} (h : EvD te σ H (.tuple ds)) (hl : EvO tl σ H lo) (hh : EvO th σ H hi) : EvD (tSl (rSlA K) te tl th) σ H (.tuple (cutD ds lo hi)) := fun H1 e1 Q q =>
  h H1 e1 _ fun v H2 e2 tv => hl H2 (e1.trans e2) _ fun H3 e3 => hh H3 ((e1.trans e2).trans e3) _ fun H4 e4 => by
    obtain ⟨a, xs, rfl, ha, hb⟩ := (tv.mono (Tk.ex (e3.trans e4))).tup_inv
    have le := hb.length
    have e24 : Ex H1 H4 := e2.trans (e3.trans e4)
    refine ⟨a, xs, rfl, sr ha, fun hw => ?_, fun _ p hp => ?_⟩
    · refine q _ H4 e24 (.tup ha ?_)
      rw [le] at hw
      unfold cutD
      rw [hw.1, hw.2]
      simpa using hb
    · refine q _ _ (e24.trans (Ex.new hp)) (.tup (.inl upd_same) ?_)
      unfold cutD cutV
      rw [le]
      exact ((hb.drop _).take _).mono (Tk.ex (Ex.new hp))
/-- t + u -/
theorem ed_cat (ha : EvD ta σ H (.tuple ds)) (hb : EvD tb σ H (.tuple es)) (few : ds.length + es.length ≤ 100000) : EvD (tOp (rCatA K) ta tb) σ H (.tuple (ds ++ es)) := fun H1 e1 Q q =>
  ha H1 e1 _ fun v H2 e2 tv => hb H2 (e1.trans e2) _ fun u H3 e3 tu => by
    obtain ⟨a, xs, rfl, ha, hx⟩ := (tv.mono (Tk.ex e3)).tup_inv
    obtain ⟨b, ys, rfl, hb, hy⟩ := tu.tup_inv
    have lx := hx.length
    have ly := hy.length
    have e23 : Ex H1 H3 := e2.trans e3
    refine ⟨a, b, xs, ys, rfl, rfl, sr ha, sr hb, sz_of (by omega), fun hn => ?_, fun _ hn => ?_, fun _ _ p hp => ?_⟩
    · subst hn
      cases hx
      exact q _ H3 e23 (.tup hb hy)
    · subst hn
      cases hy
      refine q _ H3 e23 (.tup ha ?_)
      rw [List.append_nil]
      exact hx
    · exact q _ _ (e23.trans (Ex.new hp)) (.tup (.inl upd_same) ((hx.append hy).mono (Tk.ex (Ex.new hp))))
theorem cat_val {u : V} {Q : VK} (tv : Tp H v (.tuple ds)) (tu : Tp H u (.tuple es)) (few : ds.length + es.length ≤ 100000) (q : ∀ z H', Ex H H' → Tp H' z (.tuple (ds ++ es)) → Q z H') : rCatA K v u H Q :=
  ed_cat (σ := []) (ta := tC v) (tb := tC u) (ed_val ev_c tv) (ed_val ev_c tu) few H (Ex.refl H) Q q
/-- t[::-1] -/
theorem ed_rev (h : EvD te σ H (.tuple ds)) : EvD (tRevT K te) σ H (.tuple ds.reverse) := fun H1 e Q q =>
  h H1 e _ fun v H2 e2 t2 => by
    obtain ⟨a, xs, rfl, ha, hx⟩ := t2.tup_inv
    exact ⟨a, xs, rfl, sr ha, fun p hp => q _ _ (e2.trans (Ex.new hp)) (.tup (.inl upd_same) (hx.reverse.mono (Tk.ex (Ex.new hp))))⟩
/-- t[i], [..][i] -/
theorem ed_ixT {i : Nat} (h : EvD te σ H (.tuple ds)) (hi : Ev ta σ H (.int i)) (hd : ds[i]? = some d) : EvD (tOp (rIxT K) te ta) σ H d := fun H1 e Q q =>
  h H1 e _ fun v H2 e2 t2 => hi H2 (e.trans e2) _ fun H3 e3 => by
    obtain ⟨a, xs, rfl, ha, hx⟩ := (t2.mono (Tk.ex e3)).tup_inv
    obtain ⟨x, h1, h2⟩ := hx.get hd
    exact ⟨a, xs, (i : Int), x, rfl, rfl, sr ha, atI_nat h1, q _ H3 (e2.trans e3) h2⟩
theorem ed_ixL {i : Nat} (h : EvLd te σ H ds) (hi : Ev ta σ H (.int i)) (hd : ds[i]? = some d) : EvD (tOp (rIxL K) te ta) σ H d := fun H1 e Q q =>
  h H1 e _ fun p xs H2 hp e2 h2 t2 => hi H2 (e.trans e2) _ fun H3 e3 => by
    obtain ⟨x, h3, h4⟩ := (t2.mono (Tk.ex e3)).get hd
    exact ⟨p, xs, (i : Int), x, rfl, rfl, sq_of (e3 p _ h2), atI_nat h3, q _ H3 (e2.trans e3) h4⟩
/-- x + y, x - y of ints and bools -/
theorem ed_nb {f : Int → Int → Int} (ha : EvD ta σ H d) (hb : EvD tb σ H e) (id : isI d = true) (ie : isI e = true) (hor : (∃ k, d = .int k) ∨ ∃ k, e = .int k) : EvD (tOp (rNb f) ta tb) σ H (.int (f (nbD d) (nbD e))) := fun H1 e1 Q q =>
  ha H1 e1 _ fun v H2 e2 tv => hb H2 (e1.trans e2) _ fun u H3 e3 tu => by
    refine ⟨_, _, tv.nb id, tu.nb ie, ?_, q _ H3 (e2.trans e3) (.int _)⟩
    rcases hor with ⟨k, rfl⟩ | ⟨k, rfl⟩
    · exact .inl ⟨k, tv.int_inv⟩
    · exact .inr ⟨k, tu.int_inv⟩
/-- str(int), str(bool) -/
def sxD : PyData → Str
  | .int i => toString i
  | .bool b => if b then "True" else "False"
  | _ => ""
theorem ed_strV (h : EvD te σ H d) (id : isI d = true) (hb : (nbD d).natAbs < 10 ^ 40) : EvD (tCB rStrV (tCons te tNil)) σ H (.str (sxD d)) := fun H1 e1 Q q =>
  h H1 e1 _ fun v H2 e2 tv => by
    cases tv <;> simp [isI] at id
    · exact .inr ⟨_, rfl, q _ H2 e2 (.str _)⟩
    · rename_i i
      refine .inl ⟨i, rfl, ?_, q _ H2 e2 (.str _)⟩
      have h1 : i.natAbs < 10 ^ 40 := hb
      have h2 : i.natAbs < 2 ^ 1920 := Nat.lt_of_lt_of_le h1 (by decide +kernel)
      by_cases h0 : i.natAbs = 0
      · rw [h0]; decide
      · exact (Nat.log2_lt h0).2 h2
/-- tuple != (), tuple == () -/
theorem ev_ne0 {neg : Bool} (ha : EvD ta σ H (.tuple ds)) (hb : EvD tb σ H (.tuple [])) : Ev (tOp (rNe0 K neg) ta tb) σ H (.bl (neg != ds.isEmpty)) := fun H1 e1 Q q =>
  ha H1 e1 _ fun v H2 e2 tv => hb H2 (e1.trans e2) _ fun u H3 e3 tu => by
    obtain ⟨a, xs, rfl, ha, hx⟩ := (tv.mono (Tk.ex e3)).tup_inv
    obtain ⟨b, ys, rfl, hb, hy⟩ := tu.tup_inv
    cases hy
    refine ⟨a, b, xs, rfl, rfl, sr ha, sr hb, ?_⟩
    have e : xs.isEmpty = ds.isEmpty := by
      have := hx.length
      cases xs <;> cases ds <;> simp_all
    rw [e]
    exact q H3 (e2.trans e3)
/-- len(tuple) -/
theorem ev_lenT (h : EvD te σ H (.tuple ds)) : Ev (tCB (rLen K) (tCons te tNil)) σ H (.int (ds.length : Int)) := fun H1 e Q q =>
  h H1 e _ fun v H2 e2 t2 => by
    obtain ⟨a, xs, rfl, ha, hx⟩ := t2.tup_inv
    refine ⟨a, xs, rfl, .inr (sr ha), ?_⟩
    rw [hx.length]
    exact q H2 e2
/-- repr(x) -/
theorem ev_reprV (h : EvD te σ H d) (sz : Sz (10 ^ 39 + 10) 1000000 50 d) : Ev (tCB rReprV (tCons te tNil)) σ H (.str d.shown) := fun H1 e1 Q q =>
  h H1 e1 _ fun v H2 e2 t2 => ⟨v, d, rfl, .inl t2, sz, q H2 e2⟩
/-- and, or, not of values -/
theorem ev_and {a b : Bool} (h1 : Ev ta σ H (.bl a)) (h2 : a = true → Ev tb σ H (.bl b)) : Ev (tAndV ta tb) σ H (.bl (a && b)) := fun H1 e Q q => h1 H1 e _ fun H2 e2 => by
  refine ⟨a, rfl, ?_⟩
  cases a with
  | true => exact h2 rfl H2 (e.trans e2) Q fun H3 e3 => q H3 (e2.trans e3)
  | false => exact q H2 e2
theorem ev_not {a : Bool} (h1 : Ev ta σ H (.bl a)) : Ev (tNotV ta) σ H (.bl (!a)) := fun H1 e Q q => h1 H1 e _ fun H2 e2 => ⟨a, rfl, q H2 e2⟩
theorem ev_chain {f g : Int → Int → Bool} {i j k : Int} (ha : Ev ta σ H (.int i)) (hb : Ev tb σ H (.int j)) (hc : Ev tc σ H (.int k)) : Ev (tChain (rI0 fun i j => .bl (f i j)) (rI0 fun i j => .bl (g i j)) ta tb tc) σ H (.bl (f i j && g j k)) := by
  intro H1 e Q q
  refine ha H1 e _ fun H2 e2 => hb H2 (e.trans e2) _ fun H3 e3 => ⟨i, j, rfl, rfl, f i j, rfl, ?_⟩
  have e123 := e2.trans e3
  cases hf : f i j with
  | true =>
    rw [hf] at q
    exact hc H3 (e.trans e123) _ fun H4 e4 => ⟨j, k, rfl, rfl, q H4 (e123.trans e4)⟩
  | false =>
    rw [hf] at q
    exact q H3 e123
/-- a call whose promise is a value of the arguments -/
theorem ev_callV {sp : Sp} {E : XK} {tr : TA} {z : V} (h : EvAd tr σ H ds) (hs : ∀ vs H1, Ex H H1 → TpAll H1 vs ds → ∀ Q : VK, (∀ H2, Ex H1 H2 → Q z H2) → ∀ E : XK, sp vs H1 Q E) : Ev (tCall sp [] E tr) σ H z := fun H1 e Q q =>
  h H1 e _ fun vs H2 e2 t2 => by
    show sp (vs ++ []) H2 Q E
    rw [List.append_nil]
    exact hs vs H2 (e.trans e2) t2 Q (fun H3 e3 => q H3 (e2.trans e3)) E
theorem ed_callV {sp : Sp} {E : XK} {tr : TA} (h : EvAd tr σ H ds) (hs : ∀ vs H1, Ex H H1 → TpAll H1 vs ds → ∀ Q : VK, (∀ z H2, Ex H1 H2 → Tp H2 z d → Q z H2) → ∀ E : XK, sp vs H1 Q E) : EvD (tCall sp [] E tr) σ H d := fun H1 e Q q =>
  h H1 e _ fun vs H2 e2 t2 => by
    show sp (vs ++ []) H2 Q E
    rw [List.append_nil]
    exact hs vs H2 (e.trans e2) t2 Q (fun z H3 e3 t3 => q z H3 (e2.trans e3) t3) E
end
end Cn

namespace Cn
open PySem PySem.Spec PyProof.Rows L2 Evl
/-! ### gardens and their errors, as functions of any value -/
def isN (d : PyData) : Bool := isI d && !isB d
def inI (lo hi : Int) : PyData → Bool
  | .int i => decide (lo ≤ i) && decide (i ≤ hi)
  | _ => false
def fromI (lo : Int) : PyData → Bool
  | .int i => decide (lo ≤ i)
  | _ => false
def tupN (n : Int) : PyData → Bool
  | .tuple ds => decide ((ds.length : Int) = n)
  | _ => false
def bedOk : PyData → Bool
  | .tuple [p, l] => inI (-1000000) 1000000 p && inI 1 1000000000 l
  | _ => false
def placeOf : PyData → Int
  | .tuple (.int p :: _) => p
  | _ => 0
def bedErr (i : Nat) : PyData := .tuple [.int i, .str "bed"]
def berr : Nat → Int → List PyData → PyData
  | _, _, [] => .none
  | i, b, d :: ds => if bedOk d = true ∧ b < placeOf d then berr (i + 1) (placeOf d) ds else bedErr i
def firstOf : PyData → PyData
  | .tuple (p :: _) => p
  | _ => .none
def gErr (x : Str) : PyData := .tuple [.none, .str x]
def gerr : PyData → PyData
  | .tuple [t, c, b] => if inI (-1000000) 1000000 t = true then if inI 1 1000000 c = true then match b with
      | .tuple ds => if ds.length ≤ 12 then berr 0 (-1000001) ds else gErr "beds"
      | _ => gErr "beds"
    else gErr "can" else gErr "tap"
  | _ => gErr "garden"
def isNone : PyData → Bool
  | .none => true
  | _ => false
theorem isN_int {d : PyData} (h : isN d = true) : ∃ i, d = .int i := by
  cases d <;> simp [isN, isI, isB] at h
  exact ⟨_, rfl⟩
theorem isT_inv {d : PyData} (h : isT d = true) : ∃ ds, d = .tuple ds := by
  cases d <;> simp [isT] at h
  exact ⟨_, rfl⟩
theorem inI_isN {lo hi : Int} {d : PyData} (h : isN d = false) : inI lo hi d = false := by
  cases d <;> simp_all [isN, isI, isB, inI]
theorem fromI_isN {lo : Int} {d : PyData} (h : isN d = false) : fromI lo d = false := by
  cases d <;> simp_all [isN, isI, isB, fromI]
theorem tupN_inv {n : Nat} {d : PyData} (h : tupN n d = true) : ∃ ds, d = .tuple ds ∧ ds.length = n := by
  cases d <;> simp [tupN] at h
  exact ⟨_, rfl, by omega⟩
theorem tup2 {d : PyData} (h : tupN 2 d = true) : ∃ p l, d = .tuple [p, l] := by
  obtain ⟨ds, rfl, h⟩ := tupN_inv (n := 2) h
  match ds, h with
  | [p, l], _ => exact ⟨p, l, rfl⟩
theorem tup3 {d : PyData} (h : tupN 3 d = true) : ∃ a b c, d = .tuple [a, b, c] := by
  obtain ⟨ds, rfl, h⟩ := tupN_inv (n := 3) h
  match ds, h with
  | [p, l, c], _ => exact ⟨p, l, c, rfl⟩
theorem tup3_no {d : PyData} (h : tupN 3 d = false) : gerr d = gErr "garden" := by
  unfold gerr
  split
  · simp [tupN] at h
  · rfl
theorem tup2_no {d : PyData} (h : tupN 2 d = false) : bedOk d = false := by
  unfold bedOk
  split
  · simp [tupN] at h
  · rfl
theorem inI_int {lo hi : Int} {d : PyData} (h : inI lo hi d = true) : ∃ i, d = .int i ∧ lo ≤ i ∧ i ≤ hi := by
  cases d <;> simp [inI] at h
  exact ⟨_, rfl, h⟩
theorem bedOk_inv {d : PyData} (h : bedOk d = true) : ∃ p l : Int, d = .tuple [.int p, .int l] ∧ -1000000 ≤ p ∧ p ≤ 1000000 ∧ 1 ≤ l ∧ l ≤ 1000000000 := by
  unfold bedOk at h
  split at h
  · rw [Bool.and_eq_true] at h
    obtain ⟨p, rfl, h1, h2⟩ := inI_int h.1
    obtain ⟨l, rfl, h3, h4⟩ := inI_int h.2
    exact ⟨p, l, rfl, h1, h2, h3, h4⟩
  · cases h
section
variable {t c b : PyData}
theorem gerr_tap (h : inI (-1000000) 1000000 t = false) : gerr (.tuple [t, c, b]) = gErr "tap" := by cases b <;> simp [gerr, h]
theorem gerr_can (h : inI (-1000000) 1000000 t = true) (h2 : inI 1 1000000 c = false) : gerr (.tuple [t, c, b]) = gErr "can" := by cases b <;> simp [gerr, h, h2]
theorem gerr_beds (h : inI (-1000000) 1000000 t = true) (h2 : inI 1 1000000 c = true) (h3 : isT b = false) : gerr (.tuple [t, c, b]) = gErr "beds" := by cases b <;> simp [isT] at h3 <;> simp [gerr, h, h2]
theorem gerr_many {ds : List PyData} (h : inI (-1000000) 1000000 t = true) (h2 : inI 1 1000000 c = true) (h3 : ¬ ds.length ≤ 12) : gerr (.tuple [t, c, .tuple ds]) = gErr "beds" := by simp only [gerr, h, h2, if_true, if_neg h3]
theorem gerr_ok {ds : List PyData} (h : inI (-1000000) 1000000 t = true) (h2 : inI 1 1000000 c = true) (h3 : ds.length ≤ 12) : gerr (.tuple [t, c, .tuple ds]) = berr 0 (-1000001) ds := by simp only [gerr, h, h2, if_true, if_pos h3]
end
/-- the place ahead of the k-th bed -/
def befP (ds : List PyData) : Nat → Int
  | 0 => -1000001
  | k + 1 => match ds[k]? with | some d => placeOf d | none => 0
/-- the first k beds are right -/
def Fine (ds : List PyData) (k : Nat) : Prop := berr 0 (-1000001) ds = berr k (befP ds k) (ds.drop k) ∧ ∀ j, j < k → ∃ d, ds[j]? = some d ∧ bedOk d = true
theorem fine_0 (ds : List PyData) : Fine ds 0 := ⟨rfl, fun j h => absurd h (Nat.not_lt_zero _)⟩
theorem Fine.bef {ds : List PyData} {k : Nat} (h : Fine ds k) : -1000001 ≤ befP ds k := by
  cases k with
  | zero => exact Int.le_refl _
  | succ k =>
    obtain ⟨d, e, hd⟩ := h.2 k (Nat.lt_succ_self k)
    obtain ⟨p, l, rfl, h1, _⟩ := bedOk_inv hd
    simp only [befP, e, placeOf]
    omega
theorem Fine.next {ds : List PyData} {k : Nat} {d : PyData} (h : Fine ds k) (hd : ds[k]? = some d) (ok : bedOk d = true) (lt : befP ds k < placeOf d) : Fine ds (k + 1) := by
  have hk : k < ds.length := (List.getElem?_eq_some_iff.mp hd).1
  have e : ds.drop k = d :: ds.drop (k + 1) := by
    rw [List.drop_eq_getElem_cons hk, (List.getElem?_eq_some_iff.mp hd).2]
  refine ⟨?_, fun j hj => ?_⟩
  · rw [h.1, e, berr, if_pos ⟨ok, lt⟩]
    simp only [befP, hd]
  · by_cases hjk : j = k
    · subst hjk
      exact ⟨d, hd, ok⟩
    · exact h.2 j (by omega)
theorem Fine.bad {ds : List PyData} {k : Nat} {d : PyData} (h : Fine ds k) (hd : ds[k]? = some d) (no : ¬ (bedOk d = true ∧ befP ds k < placeOf d)) : berr 0 (-1000001) ds = bedErr k := by
  have hk : k < ds.length := (List.getElem?_eq_some_iff.mp hd).1
  have e : ds.drop k = d :: ds.drop (k + 1) := by
    rw [List.drop_eq_getElem_cons hk, (List.getElem?_eq_some_iff.mp hd).2]
  rw [h.1, e, berr, if_neg no]
theorem Fine.last {ds : List PyData} {k : Nat} (h : Fine ds k) (hk : ds.length ≤ k) : berr 0 (-1000001) ds = .none := by
  rw [h.1, List.drop_eq_nil_iff.mpr hk, berr]
theorem isNone_gerr_val {v : V} {H : Hp} {d : PyData} (h : Tp H v d) : decide (v = .non) = isNone d := by
  cases h <;> simp [isNone]
theorem befP_at {ds : List PyData} {k : Nat} {d : PyData} (h : ds[k]? = some d) : befP ds (k + 1) = placeOf d := by
  simp only [befP, h]
end Cn

namespace Cn
open PySem PySem.Spec PyProof.Rows L2 Evl
section
variable {σ : L2.St} {H : Hp}
theorem ev_p6 : Ev (tOp (rI CPow fun i j => .int (i ^ j.toNat)) (tC (.int 10)) (tC (.int 6))) σ H (.int 1000000) := ev_is (ev_op ev_c ev_c (rv_I (by refine ⟨by decide, by decide, by decide⟩))) (by rw [pow6])
theorem ev_p9 : Ev (tOp (rI CPow fun i j => .int (i ^ j.toNat)) (tC (.int 10)) (tC (.int 9))) σ H (.int 1000000000) := ev_is (ev_op ev_c ev_c (rv_I (by refine ⟨by decide, by decide, by decide⟩))) (by rw [pow9])
theorem pow39 : (10 : Int) ^ (39 : Int).toNat = 1000000000000000000000000000000000000000 := by decide
theorem ev_p39 : Ev (tOp (rI CPow fun i j => .int (i ^ j.toNat)) (tC (.int 10)) (tC (.int 39))) σ H (.int 1000000000000000000000000000000000000000) := ev_is (ev_op ev_c ev_c (rv_I (by refine ⟨by decide, by decide, by decide⟩))) (by rw [pow39])
theorem ev_m6 : Ev (tUn (rU fun i => .int (-i)) (tOp (rI CPow fun i j => .int (i ^ j.toNat)) (tC (.int 10)) (tC (.int 6)))) σ H (.int (-1000000)) := ev_un ev_p6 ru_neg
theorem ev_m1 : Ev (tUn (rU fun i => .int (-i)) (tC (.int 1))) σ H (.int (-1)) := ev_un ev_c ru_neg
end
/-! ### values of other kinds that are drawn -/
def oddA : List PyData := [.none, .bool true, .bool false, .int (-1), .int 0, .int 1, .int 1000000, .int 1000001, .int 1000000000000000000000000000000000000000, .str "", .str "1", .tuple [], .list [], .dict [], .tuple [.int 0], .list [.int 1], .tuple [.bool true]]
def oddB : List PyData := [.tuple [.int 0, .int 1], .tuple [.tuple [.int 0, .int 1]], .tuple [.int 0, .int 1, .tuple []], .tuple [.tuple [.tuple [.int 0, .int 1]], .int 1], .tuple [.tuple []], .dict [(.str "a", .int 1)], .int (-1000000)]
def oddL : List PyData := oddA ++ oddB
theorem odd_sz : ∀ d ∈ oddL, Sz (10 ^ 39) 2000 3 d := by
  have h : oddL.all (fun d => okV (10 ^ 39) d && decide (wv d ≤ 2000) && decide (dv d ≤ 3)) = true := by decide +kernel
  intro d hd
  have := List.all_eq_true.mp h d hd
  simp only [Bool.and_eq_true, decide_eq_true_eq] at this
  exact ⟨this.1.1, this.1.2, this.2⟩
def spOdd : Sp := fun vs H Q _ => ∃ D C m, vs = [.ref D] ∧ Deck D C m H ∧ m ≤ 900000000 ∧ ∀ v d H', d ∈ oddL → Tp H' v d → Kp D C H H' → Deck D C (m + 1) H' → Q v H'
def spPart (n : Nat) : Sp := fun vs H Q _ => ∃ D C m v d, ∃ k B kk nn : Nat, vs = [.ref D, v, .int k] ∧ k ≤ n ∧ Deck D C m H ∧ m + 2 * k ≤ 800000000 ∧ Tp H v d ∧ 10 ^ 39 ≤ B ∧ B ≤ 10 ^ 39 + 5 ∧ Sz B kk nn d ∧ kk ≤ 100000 ∧
  ∀ v' d' H', Sz (B + 1) (2 * kk + 2000) (nn + 4) d' → Tp H' v' d' → Kp D C H H' → Deck D C (m + 2 * k + 3) H' → Q v' H'
/-! ### what a changed part may be -/
section
variable {B k n : Nat} {d : PyData} {ds : List PyData}
theorem okV_mono {B B' : Nat} (b : B ≤ B') {d : PyData} (h : okV B d = true) : okV B' d = true := (Sz.mono (k := wv d) (n := dv d) ⟨h, Nat.le_refl _, Nat.le_refl _⟩ b (Nat.le_refl _) (Nat.le_refl _)).ok
theorem reprDigits {i : Int} (h : i.natAbs < 10 ^ 40) : (reprText (toString i)).length ≤ 1000 := by
  have h1 := int_text_length_le10 (a := i) (k := 40) (by decide) h
  have h2 : ((Str.ofString (toString i))).length ≤ 42 := by rw [PySem.ofString_length]; omega
  have h3 := PySem.StrLaws.reprText_len (Str.ofString (toString i)) (fun c hc => by
    have hc' : c ∈ ((toString i).toList.map Char.toNat) := by
      rw [← signs_ofString]
      exact hc
    obtain ⟨ch, _, rfl⟩ := List.mem_map.mp hc'
    have := ch.valid
    have hlt : ch.toNat < 0x110000 := by
      rcases ch.valid with z | z
      · have : ch.toNat < 0xd800 := z
        omega
      · exact z.2
    exact Nat.lt_of_lt_of_le hlt (by decide))
  have h4 : (reprText (Str.ofString (toString i))).length ≤ 10 * 42 + 2 := Nat.le_trans h3 (by omega)
  exact Nat.le_trans h4 (by decide)
/-- the seven things that become of an int (or a bool) -/
def intVar (d : PyData) : List PyData := [.int (nbD d + 1), .int (nbD d - 1), .int (0 - nbD d), .bool (PyData.eqv d (.int 1)), .str (sxD d), .tuple [d], .int 0]
theorem okV_nb (h : okV B d = true) (i : isI d = true) (hB : 1 ≤ B) : (nbD d).natAbs ≤ B := by
  cases d <;> simp [isI] at i
  · rename_i b
    cases b <;> simp [nbD] <;> omega
  · simp only [okV, decide_eq_true_eq] at h
    exact h
theorem intVar_sz (h : Sz B k n d) (i : isI d = true) (b1 : 10 ^ 39 ≤ B) (b2 : B ≤ 10 ^ 39 + 5) : ∀ e ∈ intVar d, Sz (B + 1) (2 * k + 2000) (n + 4) e := by
  have hn := okV_nb h.ok i (Nat.le_trans (by decide) b1)
  have hp := h.p
  have hw := h.w
  have num : ∀ z : Int, z.natAbs ≤ B + 1 → Sz (B + 1) (2 * k + 2000) (n + 4) (.int z) := fun z hz => ⟨by simp only [okV, decide_eq_true_eq]; exact hz, by simp only [wv]; omega, by simp only [dv]; omega⟩
  intro e he
  simp only [intVar, List.mem_cons, List.not_mem_nil, or_false] at he
  rcases he with rfl | rfl | rfl | rfl | rfl | rfl | rfl
  · exact num _ (by omega)
  · exact num _ (by omega)
  · exact num _ (by omega)
  · exact ⟨rfl, by simp only [wv]; omega, by simp only [dv]; omega⟩
  · refine ⟨?_, by simp only [wv]; omega, by simp only [dv]; omega⟩
    simp only [okV, decide_eq_true_eq]
    cases d <;> simp [isI] at i
    · rename_i b
      cases b <;> simp only [sxD] <;> decide +kernel
    · refine reprDigits ?_
      have : (10 : Nat) ^ 40 = 10 * 10 ^ 39 := by decide
      simp only [nbD] at hn
      have : (1 : Nat) ≤ 10 ^ 39 := by decide
      omega
  · refine sz_tup (fun x hx => ?_) ?_ (fun x hx => ?_) (by omega)
    · rw [List.mem_singleton.mp hx]; exact okV_mono (by omega) h.ok
    · simp only [wvAll]; omega
    · rw [List.mem_singleton.mp hx]; omega
  · exact num 0 (by simp)
/-- the seven things that become of a tuple -/
def tupVar (ds : List PyData) : List PyData := [.tuple (cutD ds (some 1) none), .tuple (cutD ds none (some (-1))), .tuple (ds ++ cutD ds (some (-1)) none), .tuple ds.reverse, .list ds, .tuple (ds ++ [.int 0]), .tuple []]
theorem tupVar_sz (h : Sz B k n (.tuple ds)) : ∀ e ∈ tupVar ds, Sz (B + 1) (2 * k + 2000) (n + 4) e := by
  obtain ⟨ho, hw, hp, hn⟩ := h.items
  have ho' : ∀ d ∈ ds, okV (B + 1) d = true := fun d hd => okV_mono (by omega) (ho d hd)
  have cut : ∀ lo hi, Sz (B + 1) (2 * k + 2000) (n + 4) (.tuple (cutD ds lo hi)) := fun lo hi => by
    have := cutD_wv (ds := ds) (lo := lo) (hi := hi)
    exact sz_tup (fun d hd => ho' d (cutD_mem hd)) (by omega) (fun d hd => by have := hp d (cutD_mem hd); omega) (by omega)
  intro e he
  simp only [tupVar, List.mem_cons, List.not_mem_nil, or_false] at he
  rcases he with rfl | rfl | rfl | rfl | rfl | rfl | rfl
  · exact cut _ _
  · exact cut _ _
  · have := cutD_wv (ds := ds) (lo := some (-1)) (hi := none)
    refine sz_tup (fun d hd => ?_) (by rw [wvAll_append]; omega) (fun d hd => ?_) (by omega)
    · rcases List.mem_append.mp hd with z | z
      · exact ho' d z
      · exact ho' d (cutD_mem z)
    · rcases List.mem_append.mp hd with z | z
      · have := hp d z; omega
      · have := hp d (cutD_mem z); omega
  · exact sz_tup (fun d hd => ho' d (List.mem_reverse.mp hd)) (by rw [wvAll_reverse]; omega) (fun d hd => by have := hp d (List.mem_reverse.mp hd); omega) (by omega)
  · exact sz_lst ho' (by omega) (fun d hd => by have := hp d hd; omega) (by omega)
  · refine sz_tup (fun d hd => ?_) (by rw [wvAll_append]; simp only [wvAll, wv]; omega) (fun d hd => ?_) (by omega)
    · rcases List.mem_append.mp hd with z | z
      · exact ho' d z
      · rw [List.mem_singleton.mp z]; simp [okV]
    · rcases List.mem_append.mp hd with z | z
      · have := hp d z; omega
      · rw [List.mem_singleton.mp z]; simp only [dv]; omega
  · exact sz_tup (fun d hd => nomatch hd) (by simp [wvAll]) (fun d hd => nomatch hd) (by omega)
/-- a part of a part -/
theorem nest_sz {i : Nat} {x e : PyData} (h : Sz B k n (.tuple ds)) (hi : ds[i]? = some x) (he : Sz (B + 1) (2 * wv x + 2000) (dv x + 4) e) : Sz (B + 1) (2 * k + 2000) (n + 4) (.tuple ((cutD ds none (some (i : Int)) ++ [e]) ++ cutD ds (some ((i : Int) + 1)) none)) := by
  obtain ⟨ho, hw, hp, hn⟩ := h.items
  have hil : i < ds.length := (List.getElem?_eq_some_iff.mp hi).1
  have hx : x ∈ ds := List.mem_of_getElem? hi
  have e1 : cutD ds none (some (i : Int)) = ds.take i := by
    unfold cutD
    rw [HT.sIx_none, HT.sIx_nat, List.drop_zero, Nat.min_eq_left (by omega), Nat.sub_zero]
  have e2 : cutD ds (some ((i : Int) + 1)) none = ds.drop (i + 1) := by
    unfold cutD
    rw [HT.sIx_none, show ((i : Int) + 1) = ((i + 1 : Nat) : Int) by omega, HT.sIx_nat, Nat.min_eq_left (by omega)]
    exact List.take_of_length_le (by rw [List.length_drop]; omega)
  rw [e1, e2]
  have split : wvAll ds = wvAll (ds.take i) + ((wv x + 2) + wvAll (ds.drop (i + 1))) := by
    have e3 : ds = ds.take i ++ (x :: ds.drop (i + 1)) := by
      have := List.take_append_drop i ds
      rw [List.drop_eq_getElem_cons hil, (List.getElem?_eq_some_iff.mp hi).2] at this
      exact this.symm
    have e4 := congrArg wvAll e3
    rw [wvAll_append] at e4
    simpa only [wvAll] using e4
  have hex := he.w
  have hep := he.p
  have hxp := hp x hx
  refine sz_tup (fun d hd => ?_) ?_ (fun d hd => ?_) (by omega)
  · rcases List.mem_append.mp hd with z | z
    · rcases List.mem_append.mp z with z | z
      · exact okV_mono (by omega) (ho d (List.mem_of_mem_take z))
      · rw [List.mem_singleton.mp z]; exact he.ok
    · exact okV_mono (by omega) (ho d (List.mem_of_mem_drop z))
  · rw [wvAll_append, wvAll_append]
    simp only [wvAll]
    omega
  · rcases List.mem_append.mp hd with z | z
    · rcases List.mem_append.mp z with z | z
      · have := hp d (List.mem_of_mem_take z); omega
      · rw [List.mem_singleton.mp z]; omega
    · have := hp d (List.mem_of_mem_drop z); omega
end
end Cn

namespace Cb
open PySem PySem.Spec PyProof.Rows L2 Evl Cn
theorem cons_eq {ta : TE} {tr : TA} {σ : L2.St} {H : Hp} {Q : List V → Hp → Prop} : tCons ta tr σ H Q = ta σ H fun x H1 => tr σ H1 fun xs H2 => Q (x :: xs) H2 := rfl
theorem c_eq {v : V} {σ : L2.St} {H : Hp} {Q : VK} : tC v σ H Q = Q v H := rfl
theorem op_fdivB {X : Cx} : OpR X (binaryOp .FloorDiv) (rI (fun _ j => 0 < j ∧ j < 4611686018427387904) fun i j => .int (i / j)) := opI fun i j _ _ _ _ _ hc q => by
  have h1 : (0 : Int) < j := hc.1
  have h2 : j < 4611686018427387904 := hc.2
  have h62 : (2 : Nat) ^ 62 = 4611686018427387904 := by decide
  have h3 : j.natAbs.log2 < 62 := (Nat.log2_lt (by omega)).mpr (by omega)
  exact floordiv_int (by omega) (by rw [Int.fdiv_eq_ediv_of_nonneg i (by omega)]; exact q) (.inl (PyProof.noPylong_of_log2 (by omega)))
/-! ### any state that numbers are drawn from: M its own objects -/
def Kp (M : Addr → Prop) (H H' : Hp) : Prop := ∀ a o, ¬ M a → H a = some o → H' a = some o
section
variable {M : Addr → Prop} {H H1 H2 : Hp}
theorem Kp.refl : Kp M H H := fun _ _ _ h => h
theorem Kp.trans (a : Kp M H H1) (b : Kp M H1 H2) : Kp M H H2 := fun p o n h => b p o n (a p o n h)
theorem Kp.ex (e : Ex H H1) : Kp M H H1 := fun p o _ h => e p o h
theorem Kp.set {p : Addr} {o : HO} (h : M p) : Kp M H (upd H p o) := fun a u n e => by
  rw [upd_ne (fun z => n (by rw [z]; exact h))]
  exact e
theorem Kp.mut {p : Addr} {o : HO} (k : Kp M H H1) (h : H p = none) : Kp M H (upd H1 p o) := fun a u n e => by
  rw [upd_ne (ne_of_none e h)]
  exact k a u n e
theorem Kp.back (k : Kp M H H1) {p : Addr} (n : ¬ M p) (h : H1 p = none) : H p = none := by
  cases e : H p with
  | none => rfl
  | some o => rw [k p o n e] at h; cases h
end
structure Drw (M : Addr → Prop) (Dk : Int → Hp → Prop) : Prop where
  ex : ∀ {m H H1}, Ex H H1 → Dk m H → Dk m H1
  mono : ∀ {m m' H}, m ≤ m' → Dk m H → Dk m' H
  put : ∀ {m H p o}, ¬ M p → Dk m H → Dk m (upd H p o)
  lst : ∀ {m H a}, M a → Dk m H → ∃ xs, H a = some (.lst xs)
section
variable {M : Addr → Prop} {Dk : Int → Hp → Prop} {m : Int} {H H1 : Hp}
theorem Drw.free (w : Drw M Dk) (d : Dk m H) {p : Addr} (hp : H p = none) : ¬ M p := fun z => by
  obtain ⟨xs, h⟩ := w.lst z d
  rw [h] at hp
  cases hp
theorem Drw.tk (w : Drw M Dk) (d : Dk m H) (k : Kp M H H1) : Tk H H1 := by
  refine ⟨fun a xs h => ?_, fun a o u h => k a _ (fun z => by
    obtain ⟨ys, h'⟩ := w.lst z d
    exact ne_of h h' (by intro z; cases z) rfl) h⟩
  have n : ¬ M a := fun z => by
    obtain ⟨ys, h'⟩ := w.lst z d
    exact rd_ne h h' rfl
  rcases h with h | ⟨z, h⟩
  · exact .inl (k a _ n h)
  · exact .inr ⟨z, k a _ n h⟩
theorem Drw.gat (w : Drw M Dk) (d : Dk m H) (k : Kp M H H1) {v : V} {t c : Int} {bs : List Bed} (h : GAt H v t c bs) : GAt H1 v t c bs := by
  obtain ⟨g, b, xs, o, rfl, hg, hb, hd, hx⟩ := h
  have tk := w.tk d k
  refine ⟨g, b, xs, o, rfl, tk.1 _ _ hg, k b _ (fun z => ?_) hb, hd, hx.mono tk⟩
  obtain ⟨ys, h'⟩ := w.lst z d
  rw [hb] at h'
  cases h'
end
/-! ### evaluation that draws -/
def DrJ (M : Addr → Prop) (Dk : Int → Hp → Prop) (J : Hp → Prop) (te : TE) (σ : L2.St) (m m' : Int) (R : Int → Prop) : Prop := ∀ H1, Dk m H1 → J H1 → ∀ Q : VK, (∀ i H2, Kp M H1 H2 → Dk m' H2 → J H2 → R i → Q (.int i) H2) → te σ H1 Q
def DrK (M : Addr → Prop) (Dk : Int → Hp → Prop) (J : Hp → Prop) (ta : TA) (σ : L2.St) (m m' : Int) (n : Nat) (R : Int → Prop) : Prop := ∀ H1, Dk m H1 → J H1 → ∀ Q : List V → Hp → Prop, (∀ (is : List Int) H2, Kp M H1 H2 → Dk m' H2 → J H2 → is.length = n → (∀ i ∈ is, R i) → Q (is.map V.int) H2) → ta σ H1 Q
def Sta (M : Addr → Prop) (J : Hp → Prop) : Prop := ∀ H H', J H → Kp M H H' → J H'
theorem sta_true {M : Addr → Prop} : Sta M (fun _ => True) := fun _ _ _ _ => trivial
section
variable {M : Addr → Prop} {Dk : Int → Hp → Prop} {K : PySem.W.Frag} {J : Hp → Prop} {σ : L2.St} {m m1 m2 : Int} {R R1 R2 : Int → Prop} {ta tb te : TE} {n : Nat}
theorem dj_pure {i : Int} (w : Drw M Dk) (st : Sta M J) (h : ∀ H, J H → Ev te σ H (.int i)) (r : R i) : DrJ M Dk J te σ m m R := fun H1 d j Q q => h H1 j H1 (Ex.refl H1) Q fun H2 e2 => q i H2 (Kp.ex e2) (w.ex e2 d) (st _ _ j (Kp.ex e2)) r
theorem dj_imp (h : DrJ M Dk J te σ m m1 R1) (k : ∀ i, R1 i → R i) : DrJ M Dk J te σ m m1 R := fun H1 d j Q q => h H1 d j Q fun i H2 k2 d2 j2 r => q i H2 k2 d2 j2 (k i r)
theorem dj_op {f : Int → Int → Int} (ha : DrJ M Dk J ta σ m m1 R1) (hb : DrJ M Dk J tb σ m1 m2 R2) (k : ∀ i j, R1 i → R2 j → R (f i j)) : DrJ M Dk J (tOp (rI0 fun i j => .int (f i j)) ta tb) σ m m2 R := fun H1 d j Q q =>
  ha H1 d j _ fun i H2 kp2 d2 j2 r1 => hb H2 d2 j2 _ fun i' H3 kp3 d3 j3 r2 => ⟨i, i', rfl, rfl, q _ H3 (kp2.trans kp3) d3 j3 (k i i' r1 r2)⟩
theorem dk_nil : DrK M Dk J tNil σ m m 0 R := fun H1 d j Q q => q [] H1 Kp.refl d j rfl (fun _ h => nomatch h)
theorem dk_cons {tr : TA} (ha : DrJ M Dk J ta σ m m1 R) (hr : DrK M Dk J tr σ m1 m2 n R) : DrK M Dk J (tCons ta tr) σ m m2 (n + 1) R := fun H1 d j Q q =>
  ha H1 d j _ fun i H2 kp2 d2 j2 r1 => hr H2 d2 j2 _ fun is H3 kp3 d3 j3 len rs => q (i :: is) H3 (kp2.trans kp3) d3 j3 (by simp [len]) (fun k hk => by
    rcases List.mem_cons.mp hk with e | e
    · rw [e]; exact r1
    · exact rs k e)
theorem dj_pick {tr : TA} (w : Drw M Dk) (st : Sta M J) (hr : DrK M Dk J tr σ m m1 n R) (hi : DrJ M Dk J te σ m1 m2 (fun r => 0 ≤ r ∧ r < (n : Int))) (few : n ≤ 100000) : DrJ M Dk J (tOp (rIxL K) (tLst tr) te) σ m m2 R := fun H1 d j0 Q q =>
  hr H1 d j0 _ fun is H2 kp2 d2 j2 len rs => ⟨sz_of (by rw [List.length_map, len]; exact few), fun p np => by
    have eN := Ex.new (o := .lst (is.map V.int)) np
    have nM := w.free d2 np
    refine hi _ (w.ex eN d2) (st _ _ j2 (Kp.ex eN)) _ fun r H3 kp3 d3 j3 r01 => ?_
    obtain ⟨j, rfl⟩ : ∃ j : Nat, r = j := ⟨r.toNat, by omega⟩
    have jl : j < is.length := by omega
    have at3 : H3 p = some (.lst (is.map V.int)) := kp3 p _ nM upd_same
    exact ⟨p, _, (j : Int), .int is[j], rfl, rfl, sq_of at3, atI_nat (by rw [List.getElem?_map, List.getElem?_eq_getElem jl]; rfl), q _ H3 ((kp2.trans (Kp.ex eN)).trans kp3) d3 j3 (rs _ (List.getElem_mem jl))⟩⟩
/-- [a, b, c][j], j known -/
theorem dj_pick3 {m3 : Int} {tc : TE} {R0 R1 R2 : Int → Prop} {j : Nat} (w : Drw M Dk) (st : Sta M J) (h0 : DrJ M Dk J ta σ m m1 R0) (h1 : DrJ M Dk J tb σ m1 m2 R1) (h2 : DrJ M Dk J tc σ m2 m3 R2) (hi : ∀ H, J H → Ev te σ H (.int j)) (hj : j < 3) :
    DrJ M Dk J (tOp (rIxL K) (tLst (tCons ta (tCons tb (tCons tc tNil)))) te) σ m m3 (fun z => (j = 0 → R0 z) ∧ (j = 1 → R1 z) ∧ (j = 2 → R2 z)) := fun H1 d j0 Q q =>
  h0 H1 d j0 _ fun a H2 kp2 d2 j2 ra => h1 H2 d2 j2 _ fun b H3 kp3 d3 j3 rb => h2 H3 d3 j3 _ fun c H4 kp4 d4 j4 rc => ⟨sz_of (by simp), fun p np => by
    have eN := Ex.new (o := .lst [.int a, .int b, .int c]) np
    have d5 := w.ex eN d4
    have j5 := st _ _ j4 (Kp.ex eN)
    have k5 : Kp M H1 (upd H4 p (.lst [.int a, .int b, .int c])) := ((kp2.trans kp3).trans kp4).trans (Kp.ex eN)
    refine hi _ j5 _ (Ex.refl _) _ fun H6 e6 => ?_
    have at6 : H6 p = some (.lst [.int a, .int b, .int c]) := e6 p _ upd_same
    have fin : ∀ z : Int, ([V.int a, V.int b, V.int c])[j]? = some (.int z) → ((j = 0 → R0 z) ∧ (j = 1 → R1 z) ∧ (j = 2 → R2 z)) → rIxL K (.ref p) (.int j) H6 Q := fun z hz hr =>
      ⟨p, _, (j : Int), .int z, rfl, rfl, sq_of at6, atI_nat hz, q z H6 (k5.trans (Kp.ex e6)) (w.ex e6 d5) (st _ _ j5 (Kp.ex e6)) hr⟩
    match j, hj with
    | 0, _ => exact fin a rfl ⟨fun _ => ra, fun h => by omega, fun h => by omega⟩
    | 1, _ => exact fin b rfl ⟨fun h => by omega, fun _ => rb, fun h => by omega⟩
    | 2, _ => exact fin c rfl ⟨fun h => by omega, fun h => by omega, fun _ => rc⟩⟩
/-- [.. for k in range(n)], each turn draws and gives data -/
theorem da_list {ta : TA} {H : Hp} {j : Nat} {vs : List Nat} {Q : VK} (w : Drw M Dk) (B st : Int) (Pd : PyData → Prop) (h : EvA ta σ H [.int n]) (few : n ≤ 50000) (hs : 0 ≤ st) (dk : Dk B H) (hw : ∀ x, wipe ((wipe σ vs).set j (some x)) vs = wipe σ vs)
    (he : ∀ (i : Nat) H', i < n → Kp M H H' → Dk (B + st * i) H' → ∀ Q : VK, (∀ v d H2, Pd d → Tp H2 v d → Kp M H' H2 → Dk (B + st * i + st) H2 → Q v H2) → te ((wipe σ vs).set j (some (.int (i : Int)))) H' Q)
    (q : ∀ p xs ds H', H p = none → Kp M H H' → Dk (B + st * n) H' → H' p = some (.lst xs) → TpAll H' xs ds → ds.length = n → (∀ d ∈ ds, Pd d) → Q (.ref p) H') : tLc (iRng1 ta) (gName j) tYes te vs σ H Q :=
  h H (Ex.refl H) _ fun H1 e1 => ⟨(n : Int), rfl, by omega, by omega, fun N nN => by
    have dk1 := w.ex e1 dk
    have nM := w.free dk1 nN
    have nH : H N = none := fresh_back e1 nN
    refine lc_range (lo := 0) (n := ((n : Int)).toNat) (fun i H' => Kp M H H' ∧ Dk (B + st * i) H' ∧ ∃ xs ds, H' N = some (.lst xs) ∧ TpAll H' xs ds ∧ ds.length = i ∧ ∀ d ∈ ds, Pd d) ?_ ?_ ?_
    · exact ⟨(Kp.ex e1).mut nH, w.mono (by simp) (w.put nM dk1), [], [], upd_same, .nil, rfl, fun _ h => nomatch h⟩
    · rintro i H2 hi ⟨kp2, dk2, xs, ds, h2, t2, len, ok⟩
      refine ⟨hw _, ?_⟩
      dsimp only [tYes]
      rw [if_pos rfl, show (0 : Int) + (i : Int) = i by omega]
      refine he i H2 (by omega) kp2 dk2 _ fun v d H3 pd tv kp3 dk3 => ?_
      have h3 := kp3 N _ nM h2
      refine ⟨xs, h3, sz_lt (by rw [t2.length]; omega), (kp2.trans kp3).mut nH, w.mono (by rw [show ((i + 1 : Nat) : Int) = (i : Int) + 1 by omega, Int.mul_add]; omega) (w.put nM dk3), xs ++ [v], ds ++ [d], upd_same, ?_, by simp [len], fun e he' => ?_⟩
      · exact ((t2.mono (w.tk dk2 kp3)).append (.cons tv .nil)).mono (Tk.lst h3)
      · rcases List.mem_append.mp he' with z | z
        · exact ok e z
        · rw [List.mem_singleton.mp z]; exact pd
    · rintro H2 ⟨kp2, dk2, xs, ds, h2, t2, len, ok⟩
      rw [show ((n : Int)).toNat = n by omega] at dk2 len
      exact q N xs ds H2 nH kp2 dk2 h2 t2 len ok⟩
end
/-! ### the state of _law_draws: cells, count, rests -/
structure StN (S C R : Addr) (n : Int) (cs rs : List Int) (H : Hp) : Prop where
  hS : H S = some (.lst [.ref C, .int n, .ref R])
  hC : H C = some (.lst (cs.map V.int))
  hR : H R = some (.lst (rs.map V.int))
def MS (S C R : Addr) (a : Addr) : Prop := a = S ∨ a = C ∨ a = R
def SD (S C R : Addr) (m : Int) (H : Hp) : Prop := ∃ n cs rs, StN S C R n cs rs H ∧ S ≠ C ∧ S ≠ R ∧ C ≠ R ∧ 0 ≤ n ∧ n ≤ m ∧ cs.length = rs.length ∧ 1 ≤ cs.length ∧ cs.length ≤ 63 ∧ True ∧ ∀ x ∈ rs, 0 ≤ x
theorem StN.ex {S C R : Addr} {n : Int} {cs rs : List Int} {H H1 : Hp} (e : Ex H H1) (d : StN S C R n cs rs H) : StN S C R n cs rs H1 := ⟨e _ _ d.hS, e _ _ d.hC, e _ _ d.hR⟩
theorem drw {S C R : Addr} : Drw (MS S C R) (SD S C R) where
  ex := fun e ⟨n, cs, rs, d, r⟩ => ⟨n, cs, rs, d.ex e, r⟩
  mono := fun h ⟨n, cs, rs, d, a, b, c, n0, nm, r⟩ => ⟨n, cs, rs, d, a, b, c, n0, by omega, r⟩
  put := fun {m H p o} np ⟨n, cs, rs, d, r⟩ => ⟨n, cs, rs, ⟨by rw [upd_ne (fun z => np (.inl z.symm))]; exact d.hS, by rw [upd_ne (fun z => np (.inr (.inl z.symm)))]; exact d.hC, by rw [upd_ne (fun z => np (.inr (.inr z.symm)))]; exact d.hR⟩, r⟩
  lst := fun {m H a} ma ⟨n, cs, rs, d, r⟩ => by
    rcases ma with rfl | rfl | rfl
    · exact ⟨_, d.hS⟩
    · exact ⟨_, d.hC⟩
    · exact ⟨_, d.hR⟩
/-- _law_next -/
def spNext : Sp := fun vs H Q _ => ∃ S C R m k, vs = [.ref S, .int k] ∧ SD S C R m H ∧ m ≤ 10000000 ∧ 1 ≤ k ∧ k ≤ 1000000000000000001 ∧ ∀ r H', 0 ≤ r → r < k → Kp (MS S C R) H H' → SD S C R (m + 1) H' → Q (.int r) H'
/-- _law_draws -/
def spDraws (K : PySem.W.Frag) : Sp := fun vs H Q _ => ∃ (a : Addr) (ns : List Int), vs = [.ref a] ∧ SqL K H a (ns.map V.int) ∧ ns.length ≤ 63 ∧ ∀ S C R H', Ex H H' → SD S C R 0 H' → Q (.ref S) H'
/-- _law_one -/
def spOne : Sp := fun vs H Q _ => ∃ S C R m L xs, vs = [.ref S, .ref L] ∧ SD S C R m H ∧ m ≤ 9500000 ∧ H L = some (.lst xs) ∧ ¬ MS S C R L ∧ 1 ≤ xs.length ∧ xs.length ≤ 1000 ∧ ∀ v H', v ∈ xs → Kp (MS S C R) H H' → SD S C R (m + 1) H' → Q v H'
theorem dj_next {S C R : Addr} {J : Hp → Prop} {σ : L2.St} {m m1 : Int} {tk : TE} {E : XK} {k : Int} (st : Sta (MS S C R) J) (h0 : σ[0]? = some (some (.ref S))) (hk : ∀ H, J H → Ev tk σ H (.int k)) (mb : m ≤ 10000000) (k1 : 1 ≤ k) (k2 : k ≤ 1000000000000000001) (hm : m1 = m + 1 := by omega) : DrJ (MS S C R) (SD S C R) J (tCall spNext [] E (tCons (tVar 0) (tCons tk tNil))) σ m m1 (fun r => 0 ≤ r ∧ r < k) := hm ▸ fun H1 d j Q q =>
  ⟨.ref S, h0, hk H1 j H1 (Ex.refl H1) _ fun H2 e2 => ⟨S, C, R, m, k, rfl, drw.ex e2 d, mb, k1, k2, fun r H3 r0 r1 kp d3 => q r H3 ((Kp.ex e2).trans kp) d3 (st _ _ j ((Kp.ex e2).trans kp)) ⟨r0, r1⟩⟩⟩
/-- _law_garden of this kind -/
structure G2 (most : Int) (t c : Int) (bs : List Bed) : Prop where
  t0 : -1000000 ≤ t
  t1 : t ≤ 1000000
  c0 : 1 ≤ c
  c1 : c ≤ 1000000
  asc : Asc (bs.map (·.1))
  p0 : ∀ b ∈ bs, -1000000 ≤ b.1
  p1 : ∀ b ∈ bs, b.1 ≤ 1000000
  l0 : ∀ b ∈ bs, 1 ≤ b.2
  l1 : ∀ b ∈ bs, b.2 ≤ 1000000000
  few : (bs.length : Int) ≤ most
def spGarden2 : Sp := fun vs H Q _ => ∃ S C R m most way, vs = [.ref S, .int most, .int way] ∧ SD S C R m H ∧ m ≤ 9000000 ∧ 1 ≤ most ∧ most ≤ 12 ∧ 0 ≤ way ∧
  ∀ v t c bs H', G2 most t c bs → (way % 3 ≠ 2 → ∀ b ∈ bs, b.2 ≤ 27) → GAt H' v t c bs → Kp (MS S C R) H H' → SD S C R (m + 100) H' → Q v H'
end Cb

namespace Wp
open PySem PySem.Spec PyProof.Rows L2 Evl
/-! ### data: what never changes -/
def keyD : Key → PyData
  | .inl i => .int i
  | .inr x => .str x
mutual
inductive Dt (H : Hp) : V → PyData → Prop
  | non : Dt H .non .none
  | bl (b : Bool) : Dt H (.bl b) (.bool b)
  | int (i : Int) : Dt H (.int i) (.int i)
  | str (x : Str) : Dt H (.str x) (.str x)
  | tup {a : Addr} {o : Obj} {xs : List V} {ds : List PyData} : H a = some (.frz o (.tup xs)) → o.dict = none → DtAll H xs ds → Dt H (.ref a) (.tuple ds)
  | lst {a : Addr} {o : Obj} {xs : List V} {ds : List PyData} : H a = some (.frz o (.lst xs)) → DtAll H xs ds → Dt H (.ref a) (.list ds)
  | dic {a : Addr} {o : Obj} {kvs : List (Key × V)} {vs : List V} {ds : List PyData} : H a = some (.frz o (.dK kvs)) → vs = kvs.map (·.2) → DtAll H vs ds → Dt H (.ref a) (.dict ((kvs.map fun p => keyD p.1).zip ds))
inductive DtAll (H : Hp) : List V → List PyData → Prop
  | nil : DtAll H [] []
  | cons {v : V} {vs : List V} {d : PyData} {ds : List PyData} : Dt H v d → DtAll H vs ds → DtAll H (v :: vs) (d :: ds)
end
/-- what is locked stays -/
def Fk (H H' : Hp) : Prop := ∀ a o u, H a = some (.frz o u) → H' a = some (.frz o u)
theorem Fk.ex {H H' : Hp} (e : Ex H H') : Fk H H' := fun a _ _ h => e a _ h
theorem Fk.trans {H H1 H2 : Hp} (a : Fk H H1) (b : Fk H1 H2) : Fk H H2 := fun p o u h => b p o u (a p o u h)
mutual
theorem Dt.mono {H H' : Hp} (k : Fk H H') : ∀ {d : PyData} {v : V}, Dt H v d → Dt H' v d
  | _, _, .non => .non
  | _, _, .bl b => .bl b
  | _, _, .int i => .int i
  | _, _, .str x => .str x
  | _, _, .tup h n a => .tup (k _ _ _ h) n (DtAll.mono k a)
  | _, _, .lst h a => .lst (k _ _ _ h) (DtAll.mono k a)
  | _, _, .dic h e a => .dic (k _ _ _ h) e (DtAll.mono k a)
theorem DtAll.mono {H H' : Hp} (k : Fk H H') : ∀ {ds : List PyData} {vs : List V}, DtAll H vs ds → DtAll H' vs ds
  | _, _, .nil => .nil
  | _, _, .cons a b => .cons (Dt.mono k a) (DtAll.mono k b)
end
section
variable {H H' : Hp}
theorem Dt.tup_inv {v : V} {ds : List PyData} (h : Dt H v (.tuple ds)) : ∃ a o xs, v = .ref a ∧ H a = some (.frz o (.tup xs)) ∧ o.dict = none ∧ DtAll H xs ds := by
  cases h with
  | tup a n b => exact ⟨_, _, _, rfl, a, n, b⟩
theorem Dt.lst_inv {v : V} {ds : List PyData} (h : Dt H v (.list ds)) : ∃ a o xs, v = .ref a ∧ H a = some (.frz o (.lst xs)) ∧ DtAll H xs ds := by
  cases h with
  | lst a b => exact ⟨_, _, _, rfl, a, b⟩
theorem DtAll.length : ∀ {xs : List V} {ds : List PyData}, DtAll H xs ds → xs.length = ds.length
  | _, _, .nil => rfl
  | _, _, .cons _ b => by simp [b.length]
theorem DtAll.get : ∀ {xs : List V} {ds : List PyData} {i : Nat} {v : V}, DtAll H xs ds → xs[i]? = some v → ∃ d, ds[i]? = some d ∧ Dt H v d
  | _, _, _, _, .nil, e => by simp at e
  | _, _, 0, _, .cons a _, e => by simp at e; subst e; exact ⟨_, rfl, a⟩
  | _, _, i + 1, _, .cons _ b, e => by
    obtain ⟨v, h1, h2⟩ := b.get (i := i) (by simpa using e)
    exact ⟨v, by simpa using h1, h2⟩
theorem DtAll.getD : ∀ {xs : List V} {ds : List PyData} {i : Nat} {d : PyData}, DtAll H xs ds → ds[i]? = some d → ∃ v, xs[i]? = some v ∧ Dt H v d
  | _, _, _, _, .nil, e => by simp at e
  | _, _, 0, _, .cons a _, e => by simp at e; subst e; exact ⟨_, rfl, a⟩
  | _, _, i + 1, _, .cons _ b, e => by
    obtain ⟨v, h1, h2⟩ := b.getD (i := i) (by simpa using e)
    exact ⟨v, by simpa using h1, h2⟩
theorem DtAll.append : ∀ {xs ys : List V} {ds es : List PyData}, DtAll H xs ds → DtAll H ys es → DtAll H (xs ++ ys) (ds ++ es)
  | _, _, _, _, .nil, b => b
  | _, _, _, _, .cons a r, b => .cons a (r.append b)
theorem DtAll.take : ∀ {xs : List V} {ds : List PyData} (n : Nat), DtAll H xs ds → DtAll H (xs.take n) (ds.take n)
  | _, _, 0, _ => .nil
  | _, _, _ + 1, .nil => .nil
  | _, _, n + 1, .cons a b => .cons a (b.take n)
theorem DtAll.drop : ∀ {xs : List V} {ds : List PyData} (n : Nat), DtAll H xs ds → DtAll H (xs.drop n) (ds.drop n)
  | _, _, 0, h => h
  | _, _, _ + 1, .nil => .nil
  | _, _, n + 1, .cons _ b => b.drop n
theorem DtAll.reverse : ∀ {xs : List V} {ds : List PyData}, DtAll H xs ds → DtAll H xs.reverse ds.reverse
  | _, _, .nil => .nil
  | _, _, .cons a b => by
    rw [List.reverse_cons, List.reverse_cons]
    exact (DtAll.reverse b).append (.cons a .nil)
theorem DtAll.ints : ∀ ns : List Int, DtAll H (ns.map V.int) (ns.map PyData.int)
  | [] => .nil
  | n :: ns => .cons (.int n) (DtAll.ints ns)
theorem DtAll.ints_inv : ∀ {ns : List Int} {xs : List V}, DtAll H xs (ns.map PyData.int) → xs = ns.map V.int
  | [], _, h => by cases h; rfl
  | n :: ns, _, h => by
    cases h with
    | cons a b => cases a; rw [List.map_cons, b.ints_inv]
theorem DtAll.mem : ∀ {xs : List V} {ds : List PyData} {v : V}, DtAll H xs ds → v ∈ xs → ∃ d ∈ ds, Dt H v d
  | _, _, _, .nil, e => nomatch e
  | _, _, _, .cons a b, e => by
    rcases List.mem_cons.mp e with rfl | e
    · exact ⟨_, List.mem_cons_self .., a⟩
    · obtain ⟨d, h1, h2⟩ := b.mem e
      exact ⟨d, List.mem_cons_of_mem _ h1, h2⟩
end
/-! ### the state that numbers are drawn from -/
def Kp (M : Addr → Prop) (H H' : Hp) : Prop := ∀ a o, ¬ M a → H a = some o → H' a = some o
section
variable {M : Addr → Prop} {H H1 H2 : Hp}
theorem Kp.refl : Kp M H H := fun _ _ _ h => h
theorem Kp.trans (a : Kp M H H1) (b : Kp M H1 H2) : Kp M H H2 := fun p o n h => b p o n (a p o n h)
theorem Kp.ex (e : Ex H H1) : Kp M H H1 := fun p o _ h => e p o h
theorem Kp.mut {p : Addr} {o : HO} (k : Kp M H H1) (h : H p = none) : Kp M H (upd H1 p o) := fun a u n e => by
  rw [upd_ne (ne_of_none e h)]
  exact k a u n e
theorem Kp.back (k : Kp M H H1) {p : Addr} (n : ¬ M p) (h : H1 p = none) : H p = none := by
  cases e : H p with
  | none => rfl
  | some o => rw [k p o n e] at h; cases h
end
/-- the states that the laws draw from: 1, a deck; 2, cells, count and rests -/
def IsK : Nat → Addr → (Addr → Prop) → (Nat → Hp → Prop) → Prop
  | 1, r, M, Dk => ∃ C, (∀ a, M a ↔ (a = r ∨ a = C)) ∧ ∀ m H, Dk m H ↔ Cn.Deck r C m H
  | 2, r, M, Dk => ∃ C R, (∀ a, M a ↔ Cb.MS r C R a) ∧ ∀ m H, Dk m H ↔ Cb.SD r C R m H
  | _, _, _, _ => True
structure Wld where
  M : Addr → Prop
  root : Addr
  Dk : Nat → Hp → Prop
  kd : Nat
  isK : IsK kd root M Dk
  ex : ∀ {m : Nat} {H H1 : Hp}, Ex H H1 → Dk m H → Dk m H1
  put : ∀ {m : Nat} {H : Hp} {p : Addr} {o : HO}, ¬ M p → Dk m H → Dk m (upd H p o)
  lst : ∀ {m : Nat} {H : Hp} {a : Addr}, M a → Dk m H → ∃ xs, H a = some (.lst xs)
section
variable {W : Wld} {m : Nat} {H H1 : Hp}
theorem Wld.free (d : W.Dk m H) {p : Addr} (hp : H p = none) : ¬ W.M p := fun z => by
  obtain ⟨xs, h⟩ := W.lst z d
  rw [h] at hp
  cases hp
theorem Wld.frz (d : W.Dk m H) {p : Addr} {o : Obj} {u : HO} (hp : H p = some (.frz o u)) : ¬ W.M p := fun z => by
  obtain ⟨xs, h⟩ := W.lst z d
  rw [h] at hp
  cases hp
theorem Wld.fk (d : W.Dk m H) (k : Kp W.M H H1) : Fk H H1 := fun a o u h => k a _ (W.frz d h) h
end
/-- what a name holds: data; an own list; an own dict (int and text keys); the same of a caller; the state -/
inductive Sl where
  | no
  | d (d : PyData)
  | l (ds : List PyData)
  | m (kvs : List (Key × PyData))
  | n (kvs : List (NestedKey × PyData))
  | rl (ds : List PyData)
  | rm (kvs : List (Key × PyData))
  | rn (kvs : List (NestedKey × PyData))
  | s (k : Nat)
  | x (a dd : Addr) (f : Str) (d : PyData) (c : Nat)
  | o (C : Addr) (fs : List (Str × PyData))
  | r (a : Addr)
abbrev Env := List Sl
inductive DtK (H : Hp) : List (Key × V) → List (Key × PyData) → Prop
  | nil : DtK H [] []
  | cons {k : Key} {v : V} {d : PyData} {xs : List (Key × V)} {ds : List (Key × PyData)} : Dt H v d → DtK H xs ds → DtK H ((k, v) :: xs) ((k, d) :: ds)
theorem DtK.mono {H H' : Hp} (k : Fk H H') : ∀ {ds : List (Key × PyData)} {vs : List (Key × V)}, DtK H vs ds → DtK H' vs ds
  | _, _, .nil => .nil
  | _, _, .cons a b => .cons (Dt.mono k a) (DtK.mono k b)
/-- an own list at a, an own dict at a -/
def LsAt (W : Wld) (H : Hp) (a : Addr) (ds : List PyData) : Prop := ¬ W.M a ∧ ∃ xs, H a = some (.lst xs) ∧ DtAll H xs ds
def DcAt (W : Wld) (H : Hp) (a : Addr) (ds : List (Key × PyData)) : Prop := ¬ W.M a ∧ ∃ kvs, H a = some (.dK kvs) ∧ DtK H kvs ds
/-- a dict whose keys are tuples -/
def kOk (k : NestedKey) : Prop := (∀ w w' : World, k.hash w = k.hash w') ∧ k.depth ≤ 8
def NkR (H : Hp) (x : NestedKey × Addr × Value) (p : NestedKey × PyData) : Prop := x.1 = p.1 ∧ kOk p.1 ∧ Dt H (.ref x.2.1) p.1.data ∧ ∃ u, RelV u x.2.2 ∧ Dt H u p.2
theorem NkR.mono {H H' : Hp} (k : Fk H H') {x : NestedKey × Addr × Value} {p : NestedKey × PyData} (h : NkR H x p) : NkR H' x p := by
  obtain ⟨h1, h2, h3, u, h4, h5⟩ := h
  exact ⟨h1, h2, h3.mono k, u, h4, h5.mono k⟩
def NcO (a : Addr) (o : Obj) : HO := .ext fun h => h.get? a = some o
def NcAt (W : Wld) (H : Hp) (a : Addr) (ds : List (NestedKey × PyData)) : Prop := ¬ W.M a ∧ ∃ (o : Obj), H a = some (NcO a o) ∧ (a == sysModules) = false ∧ ∃ (xs : List (NestedKey × Addr × Value)) (es : Array DictEntry) (ep : Nat), o.ExactDict ∧ o.data = .dict es ep ∧ (∀ w : World, es.toList = xs.map fun x => ⟨x.1.hash w, .ref x.2.1, x.2.2⟩) ∧ (xs.map (·.1)).Nodup ∧ Paired (NkR H) xs ds
/-- the dict of a caught error; an object whose fields are data -/
def ExAt (W : Wld) (H : Hp) (dd : Addr) (f : Str) (d : PyData) : Prop := ¬ W.M dd ∧ ∃ u, H dd = some (.xd [(f, u)]) ∧ Dt H u d
def FdR (H : Hp) (x : Str × V) (p : Str × PyData) : Prop := x.1 = p.1 ∧ Dt H x.2 p.2
def ObAt (W : Wld) (H : Hp) (a C : Addr) (fs : List (Str × PyData)) : Prop := ¬ W.M a ∧ ∃ dx vs, H a = some (.ins C dx vs) ∧ Paired (FdR H) vs fs
def SlR (W : Wld) (H0 H : Hp) (v : Option V) : Sl → Prop
  | .no => True
  | .d d => ∃ x, v = some x ∧ Dt H x d
  | .l ds => ∃ a, v = some (.ref a) ∧ H0 a = none ∧ LsAt W H a ds
  | .m ds => ∃ a, v = some (.ref a) ∧ H0 a = none ∧ DcAt W H a ds
  | .n ds => ∃ a, v = some (.ref a) ∧ H0 a = none ∧ NcAt W H a ds
  | .rl ds => ∃ a, v = some (.ref a) ∧ H0 a ≠ none ∧ LsAt W H a ds
  | .rm ds => ∃ a, v = some (.ref a) ∧ H0 a ≠ none ∧ DcAt W H a ds
  | .rn ds => ∃ a, v = some (.ref a) ∧ H0 a ≠ none ∧ NcAt W H a ds
  | .s k => v = some (.ref W.root) ∧ W.kd = k
  | .x a dd f d _ => v = some (.ref a) ∧ ExAt W H dd f d
  | .o C fs => ∃ a, v = some (.ref a) ∧ ObAt W H a C fs
  | .r a => v = some (.ref a)
def isOwn : Sl → Bool
  | .l _ => true
  | .m _ => true
  | .n _ => true
  | _ => false
/-- the heap at the def's entry; a heap whose locked things stand still -/
structure Bs where
  h0 : Hp
  hf : Hp
structure Sit (W : Wld) (H0 : Bs) (σ : L2.St) (H : Hp) (E : Env) (b : Nat) : Prop where
  len : σ.length = E.length
  at_ : ∀ (i : Nat) (s : Sl), E[i]? = some s → ∃ v, σ[i]? = some v ∧ SlR W H0.h0 H v s
  apart : ∀ (i j : Nat) (s t : Sl) (a : Addr), i ≠ j → E[i]? = some s → isOwn s = true → E[j]? = some t → isOwn t = true → σ[i]? = some (some (.ref a)) → σ[j]? ≠ some (some (.ref a))
  kp : Kp W.M H0.h0 H
  dk : W.Dk b H
  fk : Fk H0.hf H
section
variable {W : Wld} {H0 H H1 : Hp} {B : Bs} {σ : L2.St} {E : Env} {b b1 : Nat}
theorem LsAt.step {a : Addr} {ds : List PyData} (d : W.Dk b H) (k : Kp W.M H H1) (h : LsAt W H a ds) : LsAt W H1 a ds := by
  obtain ⟨n, xs, h, t⟩ := h
  exact ⟨n, xs, k a _ n h, t.mono (W.fk d k)⟩
theorem DcAt.step {a : Addr} {ds : List (Key × PyData)} (d : W.Dk b H) (k : Kp W.M H H1) (h : DcAt W H a ds) : DcAt W H1 a ds := by
  obtain ⟨n, xs, h, t⟩ := h
  exact ⟨n, xs, k a _ n h, t.mono (W.fk d k)⟩
theorem NcAt.step {a : Addr} {ds : List (NestedKey × PyData)} (d : W.Dk b H) (k : Kp W.M H H1) (h : NcAt W H a ds) : NcAt W H1 a ds := by
  obtain ⟨n, o, h, sm, xs, es, ep, h1, h2, h3, h4, t⟩ := h
  exact ⟨n, o, k a _ n h, sm, xs, es, ep, h1, h2, h3, h4, Paired.mapP t fun x p r => r.mono (W.fk d k)⟩
theorem ExAt.step {dd : Addr} {f : Str} {x : PyData} (d : W.Dk b H) (k : Kp W.M H H1) (h : ExAt W H dd f x) : ExAt W H1 dd f x := by
  obtain ⟨n, u, h, t⟩ := h
  exact ⟨n, u, k _ _ n h, t.mono (W.fk d k)⟩
theorem ObAt.step {a C : Addr} {fs : List (Str × PyData)} (d : W.Dk b H) (k : Kp W.M H H1) (h : ObAt W H a C fs) : ObAt W H1 a C fs := by
  obtain ⟨n, dx, vs, h, t⟩ := h
  exact ⟨n, dx, vs, k _ _ n h, Paired.mapP t fun x p r => ⟨r.1, r.2.mono (W.fk d k)⟩⟩
theorem SlR.step {v : Option V} {s : Sl} (d : W.Dk b H) (k : Kp W.M H H1) (h : SlR W H0 H v s) : SlR W H0 H1 v s := by
  cases s with
  | no => trivial
  | d x => obtain ⟨u, e, t⟩ := h; exact ⟨u, e, t.mono (W.fk d k)⟩
  | l x => obtain ⟨u, e, n, t⟩ := h; exact ⟨u, e, n, t.step d k⟩
  | m x => obtain ⟨u, e, n, t⟩ := h; exact ⟨u, e, n, t.step d k⟩
  | n x => obtain ⟨u, e, n, t⟩ := h; exact ⟨u, e, n, t.step d k⟩
  | rl x => obtain ⟨u, e, n, t⟩ := h; exact ⟨u, e, n, t.step d k⟩
  | rm x => obtain ⟨u, e, n, t⟩ := h; exact ⟨u, e, n, t.step d k⟩
  | rn x => obtain ⟨u, e, n, t⟩ := h; exact ⟨u, e, n, t.step d k⟩
  | s _ => exact h
  | x a dd f y c => exact ⟨h.1, h.2.step d k⟩
  | o C fs => obtain ⟨a, e, t⟩ := h; exact ⟨a, e, t.step d k⟩
  | r a => exact h
theorem Sit.step (S : Sit W B σ H E b) (k : Kp W.M H H1) (d : W.Dk b1 H1) : Sit W B σ H1 E b1 :=
  ⟨S.len, fun i s e => by obtain ⟨v, h1, h2⟩ := S.at_ i s e; exact ⟨v, h1, h2.step S.dk k⟩, S.apart, S.kp.trans k, d, S.fk.trans (W.fk S.dk k)⟩
theorem Sit.ex (S : Sit W B σ H E b) (e : Ex H H1) : Sit W B σ H1 E b := S.step (Kp.ex e) (W.ex e S.dk)
/-- a name is set to data -/
theorem Sit.setD {i : Nat} {v : V} {d : PyData} (S : Sit W B σ H E b) (t : Dt H v d) : Sit W B (σ.set i (some v)) H (E.set i (.d d)) b := by
  refine ⟨by simp [S.len], fun j s e => ?_, fun p q s t a ne h1 o1 h2 o2 e => ?_, S.kp, S.dk, S.fk⟩
  · by_cases hj : i = j
    · subst hj
      have hl : i < E.length := by have := (List.getElem?_eq_some_iff.mp e).1; simpa using this
      rw [List.getElem?_set_self hl] at e
      cases e
      exact ⟨some v, List.getElem?_set_self (by rw [S.len]; exact hl), v, rfl, t⟩
    · rw [List.getElem?_set_ne hj] at e
      obtain ⟨u, h1, h2⟩ := S.at_ j s e
      exact ⟨u, by rw [List.getElem?_set_ne hj]; exact h1, h2⟩
  · have np : i ≠ p := fun z => by
      subst z
      have hl : i < E.length := by have := (List.getElem?_eq_some_iff.mp h1).1; simpa using this
      rw [List.getElem?_set_self hl] at h1
      cases h1; cases o1
    have nq : i ≠ q := fun z => by
      subst z
      have hl : i < E.length := by have := (List.getElem?_eq_some_iff.mp h2).1; simpa using this
      rw [List.getElem?_set_self hl] at h2
      cases h2; cases o2
    rw [List.getElem?_set_ne np] at h1 e
    rw [List.getElem?_set_ne nq] at h2 ⊢
    exact S.apart p q s t a ne h1 o1 h2 o2 e
end
/-! ### models -/
abbrev WE := Env → Nat → (PyData → Nat → Prop) → Prop
abbrev WL := Env → Nat → (List PyData → Nat → Prop) → Prop
abbrev WT := Env → Nat → (Bool → Nat → Prop) → Prop
abbrev WG := Env → Nat → (List Sl → Nat → Prop) → Prop
structure WEnds where
  nx : Env → Nat → Prop
  rt : PyData → Nat → Prop
  bk : Env → Nat → Prop := fun _ _ => False
  ct : Env → Nat → Prop := fun _ _ => False
  xx : Nat → Sl → Env → Nat → Prop := fun _ _ _ _ => False
abbrev WS := Env → Nat → WEnds → Prop
/-- data, or a list that is not locked -/
def Dq (W : Wld) (H : Hp) (v : V) (d : PyData) : Prop := Dt H v d ∨ ∃ a ds, v = .ref a ∧ d = .list ds ∧ LsAt W H a ds
theorem Dq.step {W : Wld} {H H1 : Hp} {b : Nat} {v : V} {d : PyData} (dk : W.Dk b H) (k : Kp W.M H H1) (h : Dq W H v d) : Dq W H1 v d := by
  rcases h with h | ⟨a, ds, h1, h2, h3⟩
  · exact .inl (h.mono (W.fk dk k))
  · exact .inr ⟨a, ds, h1, h2, h3.step dk k⟩
def tE (m : WE) : TE := fun σ H Q => ∃ W H0 E b R, Sit W H0 σ H E b ∧ m E b R ∧ ∀ d b' v H', R d b' → Kp W.M H H' → W.Dk b' H' → Dt H' v d → Q v H'
def tQ (m : WE) : TE := fun σ H Q => ∃ W H0 E b R, Sit W H0 σ H E b ∧ m E b R ∧ ∀ d b' v H', R d b' → Kp W.M H H' → W.Dk b' H' → Dq W H' v d → Q v H'
def tL (m : WL) : TE := fun σ H Q => ∃ W H0 E b R, Sit W H0 σ H E b ∧ m E b R ∧ ∀ ds b' a xs H', R ds b' → Kp W.M H H' → W.Dk b' H' → H a = none → H' a = some (.lst xs) → DtAll H' xs ds → Q (.ref a) H'
def tA (m : WL) : TA := fun σ H Q => ∃ W H0 E b R, Sit W H0 σ H E b ∧ m E b R ∧ ∀ ds b' vs H', R ds b' → Kp W.M H H' → W.Dk b' H' → DtAll H' vs ds → Q vs H'
def tT (m : WT) : TT := fun σ H Q => ∃ W H0 E b R, Sit W H0 σ H E b ∧ m E b R ∧ ∀ c b' H', R c b' → Kp W.M H H' → W.Dk b' H' → Q c H'
/-- an argument: the same of a caller -/
def ArR (W : Wld) (H : Hp) (v : V) : Sl → Prop
  | .d d => Dt H v d
  | .rl ds => ∃ a, v = .ref a ∧ LsAt W H a ds
  | .rm ds => ∃ a, v = .ref a ∧ DcAt W H a ds
  | .rn ds => ∃ a, v = .ref a ∧ NcAt W H a ds
  | .s k => v = .ref W.root ∧ W.kd = k
  | .o C fs => ∃ a, v = .ref a ∧ ObAt W H a C fs
  | .r a => v = .ref a
  | _ => False
abbrev ArsR (W : Wld) (H : Hp) : List V → List Sl → Prop := Paired (ArR W H)
def tG (m : WG) : TA := fun σ H Q => ∃ W H0 E b R, Sit W H0 σ H E b ∧ m E b R ∧ ∀ as b' vs H', R as b' → Kp W.M H H' → W.Dk b' H' → ArsR W H' vs as → Q vs H'
/-- what is wanted where an error is raised (or an object returned): what is wanted of a return, the class by number, its field, the slots, the heap -/
abbrev XW := VK → Nat → V → L2.St → Hp → Prop
def noX : XW := fun _ _ _ _ _ => False
structure Acc (xw : XW) (W : Wld) (H0 : Bs) (F : WEnds) (D : Ends) : Prop where
  nx : ∀ σ H E b, Sit W H0 σ H E b → F.nx E b → D.nx σ H
  bk : ∀ σ H E b, Sit W H0 σ H E b → F.bk E b → D.bk σ H
  ct : ∀ σ H E b, Sit W H0 σ H E b → F.ct E b → D.ct σ H
  rt : ∀ d b v H, F.rt d b → Kp W.M H0.h0 H → W.Dk b H → Dt H v d → D.rt v H
  xx : ∀ c d v σ H E b, F.xx c d E b → Sit W H0 σ H E b → ArR W H v d → xw D.rt c v σ H
def tS (xw : XW) (m : WS) : TS := fun D σ H => ∃ W H0 E b F, Sit W H0 σ H E b ∧ m E b F ∧ Acc xw W H0 F D
/-- a def by its model -/
abbrev WF := List Sl → Nat → (PyData → Nat → Prop) → Prop
def spOf (mf : WF) : Sp := fun vs H Q _ => ∃ W as b R, ArsR W H vs as ∧ W.Dk b H ∧ mf as b R ∧ ∀ d b' v H', R d b' → Kp W.M H H' → W.Dk b' H' → Dt H' v d → Q v H'
end Wp

namespace Wp
open PySem PySem.Spec PyProof.Rows L2 Evl
/-! ### reading -/
structure XO (X : Cx) : Prop where
  gd : X.A.guards = some []
  un : X.A.units + 64 < cLine
  calm : X.calm = true
  sm : ∃ o, X.base.get? sysModules = some o
theorem XO.free {X : Cx} (h : XO X) {pins : List (Addr × Obj)} {σ : L2.St} {H : Hp} {s : Shared} (I : Inv X pins σ H s) : H sysModules = none := by
  obtain ⟨o, e⟩ := h.sm
  exact (I.bs _ _ e).2
section
variable {X : Cx} {pins : List (Addr × Obj)} {σ : L2.St} {H : Hp} {s : Shared}
mutual
theorem Dt.reads (I : Inv X pins σ H s) : ∀ (d : PyData) (v : V) (u : Value), Dt H v d → RelV v u → ∃ as, Reads s.heap u d as ∧ (H sysModules = none → sysModules ∉ as)
  | .none, _, _, h, r => by
    cases h
    cases r
    exact ⟨_, Reads.none, by simp⟩
  | .bool b, _, _, h, r => by
    cases h
    cases r
    exact ⟨_, Reads.bool b, by simp⟩
  | .int i, _, _, h, r => by
    cases h
    obtain ⟨t, rfl⟩ := r
    exact ⟨_, Reads.int i t, by simp⟩
  | .str x, _, _, h, r => by
    cases h
    obtain ⟨t, rfl⟩ := r
    exact ⟨_, Reads.str x t, by simp⟩
  | .list ds, _, _, h, r => by
    cases h with
    | lst hs ha =>
      cases r
      obtain ⟨its, rv, ⟨o, n, ho, hc, _, hd⟩, _⟩ := I.list (xs := _) (show SqL X.K H _ _ from .inl (.inr ⟨_, hs⟩))
      obtain ⟨as, hr, na⟩ := DtAll.reads I ds _ its ha rv
      exact ⟨_, Reads.list ho hc hd hr, fun n => by simp [na n]; intro z; rw [← z, n] at hs; cases hs⟩
  | .tuple ds, _, _, h, r => by
    cases h with
    | tup hs _ ha =>
      cases r
      obtain ⟨its, rv, ⟨o, ho, hc, n, hd⟩, _⟩ := I.tuple (show SqT X.K H _ _ from .inl (.inr ⟨_, hs⟩))
      obtain ⟨as, hr, na⟩ := DtAll.reads I ds _ its ha rv
      exact ⟨_, Reads.tuple ho hc hd hr, na⟩
  | .dict ds, v, u, h, r => by
    generalize hd0 : PyData.dict ds = dd at h
    cases h with
    | non => cases hd0
    | bl _ => cases hd0
    | int _ => cases hd0
    | str _ => cases hd0
    | tup _ _ _ => cases hd0
    | lst _ _ => cases hd0
    | @dic a o kvs vs ds' hs ev ha =>
      cases r
      injection hd0 with e0
      obtain ⟨_, hsm, us, kv, o, es, ep, ho, hx, hd, _, hp, _⟩ := dk_rd I.hok (.inr ⟨_, hs⟩)
      have len : vs.length = ds'.length := ha.length
      have sz : ∀ d' ∈ ds', sizeOf d' < sizeOf ds := by
        intro d' hd'
        rw [e0]
        have key : ∀ (ks : List PyData) (es : List PyData), ks.length = es.length → d' ∈ es → sizeOf d' < sizeOf (ks.zip es) := by
          intro ks
          induction ks with
          | nil => intro es h1 h2; cases es with | nil => exact nomatch h2 | cons _ _ => simp at h1
          | cons k ks ih =>
            intro es h1 h2
            cases es with
            | nil => exact nomatch h2
            | cons e es =>
              rcases List.mem_cons.mp h2 with rfl | h2
              · simp only [List.zip_cons_cons, List.cons.sizeOf_spec, Prod.mk.sizeOf_spec]; omega
              · have := ih es (by simpa using h1) h2
                simp only [List.zip_cons_cons, List.cons.sizeOf_spec, Prod.mk.sizeOf_spec]; omega
        exact key _ _ (by rw [List.length_map, ← len, ev, List.length_map]) hd'
      have keys : ∀ {es : List DictEntry} {us : List (Key × Value)} {kvs : List (Key × V)}, Pairs (mixKind X.prog X.w) es us → KV kvs us → ReadsAll s.heap (es.map (·.key)) (kvs.map fun p => keyD p.1) [] := by
        intro es us kvs hp
        induction hp generalizing kvs with
        | nil => intro kv; cases kv; exact .nil
        | cons k1 k2 k3 ih =>
          intro kv
          cases kv with
          | cons q1 q2 =>
            have h2 := ih q2
            have k1' : keyIs _ _ = true := k1
            rw [← q1.1] at k1'
            rcases keyIs_shape k1' with ⟨i, t, ek, ev⟩ | ⟨x, t, ek, ev⟩
            · simp only [List.map_cons, ek, ev, keyD]; exact .cons (as := []) (bs := []) (.int i t) h2
            · simp only [List.map_cons, ek, ev, keyD]; exact .cons (as := []) (bs := []) (.str x t) h2
      have vals : ∀ {es : List DictEntry} {us : List (Key × Value)} {kvs : List (Key × V)}, Pairs (mixKind X.prog X.w) es us → KV kvs us → Vals (kvs.map (·.2)) (es.map (·.val)) := by
        intro es us kvs hp
        induction hp generalizing kvs with
        | nil => intro kv; cases kv; exact .nil
        | cons k1 k2 k3 ih =>
          intro kv
          cases kv with
          | cons q1 q2 =>
            refine .cons ?_ (ih q2)
            dsimp only
            rw [k2]
            exact q1.2
      have r1 := keys hp kv
      have all : ∀ (l : List PyData) (xs : List V) (ys : List Value), (∀ d' ∈ l, d' ∈ ds') → DtAll H xs l → Vals xs ys → ∃ bs, ReadsAll s.heap ys l bs ∧ (H sysModules = none → sysModules ∉ bs) := by
        intro l
        induction l with
        | nil => intro xs ys _ h1 h2; cases h1; cases h2; exact ⟨_, .nil, by simp⟩
        | cons d' l ih =>
          intro xs ys hm h1 h2
          cases h1 with
          | cons a1 a2 =>
            cases h2 with
            | cons b1 b2 =>
              have := sz d' (hm d' (List.mem_cons_self ..))
              obtain ⟨as1, q1, n1⟩ := Dt.reads I d' _ _ a1 b1
              obtain ⟨bs1, q2, n2⟩ := ih _ _ (fun e he => hm e (List.mem_cons_of_mem _ he)) a2 b2
              exact ⟨_, .cons q1 q2, fun n => by simp [n1 n, n2 n]⟩
      obtain ⟨bs, r2, nb⟩ := all ds' vs _ (fun _ h => h) ha (by rw [ev]; exact vals hp kv)
      have l1 : (kvs.map fun p => keyD p.1).length = ds'.length := by rw [List.length_map, ← len, ev, List.length_map]
      refine ⟨_, Reads.dict (kvs := (kvs.map fun p => keyD p.1).zip ds') ho hx.1 hd (as := []) (bs := bs) ?_ ?_, fun n => ?_⟩
      · rw [List.map_fst_zip (by omega)]; exact r1
      · rw [List.map_snd_zip (by omega)]; exact r2
      · simp [nb n]
        exact (beq_eq_false_iff_ne.mp hsm).symm
termination_by d => sizeOf d
theorem DtAll.reads (I : Inv X pins σ H s) : ∀ (ds : List PyData) (vs : List V) (us : List Value), DtAll H vs ds → Vals vs us → ∃ as, ReadsAll s.heap us ds as ∧ (H sysModules = none → sysModules ∉ as)
  | [], _, _, h, r => by
    cases h
    cases r
    exact ⟨_, ReadsAll.nil, by simp⟩
  | d :: ds, _, _, h, r => by
    cases h with
    | cons h1 h2 =>
      cases r with
      | cons r1 r2 =>
        obtain ⟨as, q1, n1⟩ := Dt.reads I d _ _ h1 r1
        obtain ⟨bs, q2, n2⟩ := DtAll.reads I ds _ _ h2 r2
        exact ⟨_, ReadsAll.cons q1 q2, fun n => by simp [n1 n, n2 n]⟩
termination_by ds => sizeOf ds
end
theorem Dq.reads {W : Wld} (I : Inv X pins σ H s) {d : PyData} {v : V} {u : Value} (h : Dq W H v d) (r : RelV v u) : ∃ as, Reads s.heap u d as ∧ (H sysModules = none → sysModules ∉ as) := by
  rcases h with h | ⟨a, ds, rfl, rfl, _, xs, ha, hx⟩
  · exact Dt.reads I d v u h r
  · cases r
    obtain ⟨its, rv, ⟨o, n, ho, hc, _, hd⟩, _⟩ := I.list (show SqL X.K H a xs from .inl (.inl ha))
    obtain ⟨as, hr, na⟩ := DtAll.reads I ds _ its hx rv
    exact ⟨_, Reads.list ho hc hd hr, fun n => by simp [na n]; intro z; rw [← z, n] at ha; cases ha⟩
end
theorem Dq.seqL {W : Wld} {K : PySem.W.Frag} {H : Hp} {v : V} {ds : List PyData} (h : Dq W H v (.list ds)) : ∃ a xs, v = .ref a ∧ SqL K H a xs ∧ DtAll H xs ds := by
  rcases h with h | ⟨a, ds', rfl, e, _, xs, ha, hx⟩
  · obtain ⟨a, o, xs, rfl, h1, h2⟩ := h.lst_inv
    exact ⟨a, xs, rfl, .inl (.inr ⟨o, h1⟩), h2⟩
  · cases e
    exact ⟨a, xs, rfl, .inl (.inl ha), hx⟩
theorem Dq.seqT {W : Wld} {K : PySem.W.Frag} {H : Hp} {v : V} {ds : List PyData} (h : Dq W H v (.tuple ds)) : ∃ a o xs, v = .ref a ∧ H a = some (.frz o (.tup xs)) ∧ o.dict = none ∧ SqT K H a xs ∧ DtAll H xs ds := by
  rcases h with h | ⟨a, ds', rfl, e, _⟩
  · obtain ⟨a, o, xs, rfl, h1, h2, h3⟩ := h.tup_inv
    exact ⟨a, o, xs, rfl, h1, h2, .inl (.inr ⟨o, h1⟩), h3⟩
  · cases e
theorem Dq.int {W : Wld} {H : Hp} {v : V} {i : Int} (h : Dq W H v (.int i)) : v = .int i := by
  rcases h with h | ⟨a, ds', rfl, e, _⟩
  · cases h; rfl
  · cases e
theorem Dq.bool {W : Wld} {H : Hp} {v : V} {i : Bool} (h : Dq W H v (.bool i)) : v = .bl i := by
  rcases h with h | ⟨a, ds', rfl, e, _⟩
  · cases h; rfl
  · cases e
theorem Dq.str {W : Wld} {H : Hp} {v : V} {i : Str} (h : Dq W H v (.str i)) : v = .str i := by
  rcases h with h | ⟨a, ds', rfl, e, _⟩
  · cases h; rfl
  · cases e
end Wp

namespace Wp
open PySem PySem.Spec PyProof.Rows L2 Evl
abbrev W1 := PyData → (PyData → Prop) → Prop
abbrev W2 := PyData → PyData → (PyData → Prop) → Prop
def rD (w : W2) : R2 := fun x y H Q => ∃ (W : Wld) (d e : PyData) (R : PyData → Prop), Dq W H x d ∧ Dq W H y e ∧ w d e R ∧ ∀ z v H', R z → Ex H H' → Dt H' v z → Q v H'
/-! ### expressions: weakening -/
section
variable {X : Cx} {e a b : Expr} {t t' : TE} {m ma mb : WE} {pos : Pos}
theorem _root_.L2.PE.weak (h : PE X e t) (k : ∀ σ H Q, t' σ H Q → t σ H Q) : PE X e t' := ⟨fun pins s σ H Q I q => h.run pins s σ H Q I (k σ H Q q)⟩
theorem _root_.L2.PT.weak {t t' : TT} (h : PT X e t) (k : ∀ σ H Q, t' σ H Q → t σ H Q) : PT X e t' := ⟨fun pins s σ H Q I q => h.run pins s σ H Q I (k σ H Q q)⟩
theorem _root_.L2.PA.weak {es : List Expr} {t t' : TA} (h : PA X es t) (k : ∀ σ H Q, t' σ H Q → t σ H Q) : PA X es t' := ⟨fun p pins s σ H Q I q => h.run p pins s σ H Q I (k σ H Q q)⟩
/-- data may be read as data or a list -/
theorem _root_.L2.PE.q (h : PE X e (tE m)) : PE X e (tQ m) := h.weak fun σ H Q ⟨W, H0, E, b, R, S, hm, k⟩ => ⟨W, H0, E, b, R, S, hm, fun d b' v H' r kp dk t => k d b' v H' r kp dk (.inl t)⟩
/-! names, constants -/
def mV (i : Nat) : WE := fun E b R => match E[i]? with
  | some (.d d) => R d b
  | _ => False
def mC (d : PyData) : WE := fun _ b R => R d b
theorem mV_some {i : Nat} {E : Env} {b : Nat} {R : PyData → Nat → Prop} (h : mV i E b R) : ∃ d, E[i]? = some (.d d) ∧ R d b := by
  unfold mV at h
  split at h
  · exact ⟨_, by assumption, h⟩
  · exact h.elim
theorem pm_var {i : Nat} {x : Str} (h : PE X (.Name x pos) (tVar i)) : PE X (.Name x pos) (tE (mV i)) := h.weak fun σ H Q ⟨W, H0, E, b, R, S, hm, k⟩ => by
  obtain ⟨d, he, hr⟩ := mV_some hm
  obtain ⟨v, h1, x, rfl, t⟩ := S.at_ i _ he
  exact ⟨x, h1, k d b x H hr Kp.refl S.dk t⟩
theorem pm_c {v : V} {d : PyData} (h : PE X e (tC v)) (t : ∀ H, Dt H v d) : PE X e (tE (mC d)) := h.weak fun σ H Q ⟨W, H0, E, b, R, S, hm, k⟩ => k d b v H hm Kp.refl S.dk (t H)
theorem pm_int {i : Int} {j : Nat} : PE X (.Constant (.int i) j pos) (tE (mC (.int i))) := pm_c pe_int fun _ => .int i
theorem pm_bl {i : Bool} {j : Nat} : PE X (.Constant (.bool i) j pos) (tE (mC (.bool i))) := pm_c pe_bl fun _ => .bl i
theorem pm_str {i : Str} {j : Nat} : PE X (.Constant (.str i) j pos) (tE (mC (.str i))) := pm_c pe_str fun _ => .str i
theorem pm_non {j : Nat} : PE X (.Constant .none j pos) (tE (mC .none)) := pm_c pe_non fun _ => .non
/-- a global constant -/
theorem pm_gi {x : Str} {i : Int} {t : Tok} (hg : Gl X x) (hm : X.mg x = some (.int i t)) (hd : (x == ("__debug__" : Str)) = false := by decide) : PE X (.Name x pos) (tE (mC (.int i))) := pm_c (pe_glob (v := .int i) hg hm ⟨t, rfl⟩ hd) fun _ => .int i
/-- a list of one's own, or of a caller's, read -/
def mO (i : Nat) : WE := fun E b R => match E[i]? with
  | some (.l ds) => R (.list ds) b
  | some (.rl ds) => R (.list ds) b
  | _ => False
theorem pm_own {i : Nat} {x : Str} (h : PE X (.Name x pos) (tVar i)) : PE X (.Name x pos) (tQ (mO i)) := h.weak fun σ H Q ⟨W, H0, E, b, R, S, hm, k⟩ => by
  unfold mO at hm
  split at hm
  · obtain ⟨v, h1, a, rfl, _, t⟩ := S.at_ i _ (by assumption)
    exact ⟨_, h1, k _ b _ H hm Kp.refl S.dk (.inr ⟨a, _, rfl, rfl, t⟩)⟩
  · obtain ⟨v, h1, a, rfl, _, t⟩ := S.at_ i _ (by assumption)
    exact ⟨_, h1, k _ b _ H hm Kp.refl S.dk (.inr ⟨a, _, rfl, rfl, t⟩)⟩
  · exact hm.elim
/-! operations -/
def mOp (w : W2) (ma mb : WE) : WE := fun E b R => ma E b fun x b1 => mb E b1 fun y b2 => w x y fun z => R z b2
def mUn (w : W1) (ma : WE) : WE := fun E b R => ma E b fun x b1 => w x fun z => R z b1
theorem tOp_of {w : W2} {σ : L2.St} {H : Hp} {Q : VK} (h : tE (mOp w ma mb) σ H Q) : tOp (rD w) (tQ ma) (tQ mb) σ H Q := by
  obtain ⟨W, H0, E, b, R, S, hm, k⟩ := h
  refine ⟨W, H0, E, b, _, S, hm, fun x b1 v H1 h1 k1 d1 t1 => ⟨W, H0, E, b1, _, S.step k1 d1, h1, fun y b2 u H2 h2 k2 d2 t2 => ?_⟩⟩
  exact ⟨W, x, y, _, t1.step d1 k2, t2, h2, fun z v' H3 hz e3 t3 => k z b2 v' H3 hz ((k1.trans k2).trans (Kp.ex e3)) (W.ex e3 d2) t3⟩
theorem pm_op {op : Operator} {w : W2} (ho : OpR X (binaryOp op) (rD w)) (ha : PE X a (tQ ma)) (hb : PE X b (tQ mb)) : PE X (.BinOp a op b pos) (tE (mOp w ma mb)) := (pe_op ho ha hb).weak fun _ _ _ => tOp_of
theorem pm_cmp {op : CmpOp} {w : W2} (ho : OpR X (compareOp op) (rD w)) (ha : PE X a (tQ ma)) (hb : PE X b (tQ mb)) (hm : behindInMarks op b = false) : PE X (.Compare a [op] [b] pos) (tE (mOp w ma mb)) := (pe_cmpR ho ha hb hm).weak fun _ _ _ => tOp_of
theorem pm_ix {w : W2} (ho : IxR X (rD w)) (ha : PE X a (tQ ma)) (hb : PE X b (tQ mb)) (hs : PlainIx b) : PE X (.Subscript a b pos) (tE (mOp w ma mb)) := (pe_ix ho ha hb hs).weak fun _ _ _ => tOp_of
/-- a test: an expression whose value is a bool -/
def mT (m : WE) : WT := fun E b R => m E b fun d b1 => match d with
  | .bool c => R c b1
  | _ => False
theorem tB_of {σ : L2.St} {H : Hp} {Q : Bool → Hp → Prop} (h : tT (mT m) σ H Q) : tE m σ H fun x H1 => ∃ c, x = .bl c ∧ Q c H1 := by
  obtain ⟨W, H0, E, b, R, S, hm, k⟩ := h
  refine ⟨W, H0, E, b, _, S, hm, fun x b1 v H1 h1 k1 d1 t1 => ?_⟩
  cases x <;> first | exact h1.elim | skip
  cases t1
  exact ⟨_, rfl, k _ b1 H1 h1 k1 d1⟩
theorem pm_tcmp {op : CmpOp} {w : W2} (ho : OpR X (compareOp op) (rD w)) (ha : PE X a (tQ ma)) (hb : PE X b (tQ mb)) (hm : behindInMarks op b = false) : PT X (.Compare a [op] [b] pos) (tT (mT (mOp w ma mb))) :=
  (pt_cmpR ho ha hb hm).weak fun σ H Q h => tOp_of (tB_of h)
theorem pm_tval (h : PE X e (tE m)) (he : ∀ whole, isTrue e X.env whole = (do let v ← whole; standAt e.pos; holding [v] (truthy v)) := by intro _; rfl) : PT X e (tT (mT m)) := (pt_val h he).weak fun σ H Q h => tB_of h
def mNotT (m : WT) : WT := fun E b R => m E b fun c b1 => R (!c) b1
def mAndT (m n : WT) : WT := fun E b R => m E b fun c b1 => if c = true then n E b1 R else R false b1
def mOrT (m n : WT) : WT := fun E b R => m E b fun c b1 => if c = true then R true b1 else n E b1 R
theorem pm_tnot {m : WT} (h : PT X e (tT m)) : PT X (.UnaryOp .Not e pos) (tT (mNotT m)) := (pt_not h).weak fun σ H Q ⟨W, H0, E, b, R, S, hm, k⟩ => ⟨W, H0, E, b, _, S, hm, fun c b' H' r kp dk => k _ b' H' r kp dk⟩
section
variable {rest : List Expr} {m n : WT}
theorem _root_.L2.PW.weak {t t' : TT} (h : PW X e t) (k : ∀ σ H Q, t' σ H Q → t σ H Q) : PW X e t' := ⟨fun w pins s σ H Q I q => h.run w pins s σ H Q I (k σ H Q q)⟩
theorem pm_wand1 (ha : PT X a (tT m)) : PW X (.BoolOp .And [a] pos) (tT m) := pw_and1 ha
theorem pm_wor1 (ha : PT X a (tT m)) : PW X (.BoolOp .Or [a] pos) (tT m) := pw_or1 ha
theorem pm_wand (ha : PT X a (tT m)) (hb : PW X (.BoolOp .And (b :: rest) pos) (tT n)) : PW X (.BoolOp .And (a :: b :: rest) pos) (tT (mAndT m n)) := (pw_and ha hb).weak fun σ H Q ⟨W, H0, E, b, R, S, hm, k⟩ => by
  refine ⟨W, H0, E, b, _, S, hm, fun c b1 H1 h1 k1 d1 => ?_⟩
  cases c with
  | true => exact ⟨W, H0, E, b1, _, S.step k1 d1, h1, fun c b2 H2 h2 k2 d2 => k c b2 H2 h2 (k1.trans k2) d2⟩
  | false => exact k false b1 H1 h1 k1 d1
theorem pm_wor (ha : PT X a (tT m)) (hb : PW X (.BoolOp .Or (b :: rest) pos) (tT n)) : PW X (.BoolOp .Or (a :: b :: rest) pos) (tT (mOrT m n)) := (pw_or ha hb).weak fun σ H Q ⟨W, H0, E, b, R, S, hm, k⟩ => by
  refine ⟨W, H0, E, b, _, S, hm, fun c b1 H1 h1 k1 d1 => ?_⟩
  cases c with
  | false => exact ⟨W, H0, E, b1, _, S.step k1 d1, h1, fun c b2 H2 h2 k2 d2 => k c b2 H2 h2 (k1.trans k2) d2⟩
  | true => exact k true b1 H1 h1 k1 d1
end
/-- and, or, not as values -/
def mAnd (m n : WE) : WE := fun E b R => m E b fun d b1 => match d with
  | .bool true => n E b1 R
  | .bool false => R (.bool false) b1
  | _ => False
def mOr (m n : WE) : WE := fun E b R => m E b fun d b1 => match d with
  | .bool true => R (.bool true) b1
  | .bool false => n E b1 R
  | _ => False
def mNot (m : WE) : WE := fun E b R => m E b fun d b1 => match d with
  | .bool c => R (.bool (!c)) b1
  | _ => False
section
variable {rest : List Expr} {n : WE}
theorem pm_and (ha : PE X a (tE m)) (hb : PE X (.BoolOp .And (b :: rest) pos) (tE n)) : PE X (.BoolOp .And (a :: b :: rest) pos) (tE (mAnd m n)) := (pe_and ha hb).weak fun σ H Q ⟨W, H0, E, b, R, S, hm, k⟩ => by
  refine ⟨W, H0, E, b, _, S, hm, fun c b1 v H1 h1 k1 d1 t1 => ?_⟩
  cases c <;> first | exact h1.elim | skip
  rename_i c
  cases t1
  refine ⟨c, rfl, ?_⟩
  cases c with
  | true => exact ⟨W, H0, E, b1, _, S.step k1 d1, h1, fun d b2 v H2 h2 k2 d2 t2 => k d b2 v H2 h2 (k1.trans k2) d2 t2⟩
  | false => exact k _ b1 _ H1 h1 k1 d1 (.bl false)
theorem pm_or (ha : PE X a (tE m)) (hb : PE X (.BoolOp .Or (b :: rest) pos) (tE n)) : PE X (.BoolOp .Or (a :: b :: rest) pos) (tE (mOr m n)) := (pe_or ha hb).weak fun σ H Q ⟨W, H0, E, b, R, S, hm, k⟩ => by
  refine ⟨W, H0, E, b, _, S, hm, fun c b1 v H1 h1 k1 d1 t1 => ?_⟩
  cases c <;> first | exact h1.elim | skip
  rename_i c
  cases t1
  refine ⟨c, rfl, ?_⟩
  cases c with
  | false => exact ⟨W, H0, E, b1, _, S.step k1 d1, h1, fun d b2 v H2 h2 k2 d2 t2 => k d b2 v H2 h2 (k1.trans k2) d2 t2⟩
  | true => exact k _ b1 _ H1 h1 k1 d1 (.bl true)
theorem pm_one {op} (h : PE X a (tE m)) : PE X (.BoolOp op [a] pos) (tE m) := pe_one h
theorem pm_not (ha : PE X a (tE m)) : PE X (.UnaryOp .Not a pos) (tE (mNot m)) := (pe_not ha).weak fun σ H Q ⟨W, H0, E, b, R, S, hm, k⟩ => by
  refine ⟨W, H0, E, b, _, S, hm, fun c b1 v H1 h1 k1 d1 t1 => ?_⟩
  cases c <;> first | exact h1.elim | skip
  rename_i c
  cases t1
  exact ⟨c, rfl, k _ b1 _ H1 h1 k1 d1 (.bl _)⟩
end
def mIf (c : WT) (m n : WE) : WE := fun E b R => c E b fun c b1 => if c = true then m E b1 R else n E b1 R
theorem pm_ifE {c : Expr} {mc : WT} (hc : PT X c (tT mc)) (ha : PE X a (tE ma)) (hb : PE X b (tE mb)) : PE X (.IfExp c a b pos) (tE (mIf mc ma mb)) := (pe_ifExp hc ha hb).weak fun σ H Q ⟨W, H0, E, b, R, S, hm, k⟩ => by
  refine ⟨W, H0, E, b, _, S, hm, fun c b1 H1 h1 k1 d1 => ?_⟩
  cases c with
  | true => exact ⟨W, H0, E, b1, _, S.step k1 d1, h1, fun d b2 v H2 h2 k2 d2 t2 => k d b2 v H2 h2 (k1.trans k2) d2 t2⟩
  | false => exact ⟨W, H0, E, b1, _, S.step k1 d1, h1, fun d b2 v H2 h2 k2 d2 t2 => k d b2 v H2 h2 (k1.trans k2) d2 t2⟩
/-- -x -/
def negW : W1 := fun d R => match d with
  | .int i => R (.int (-i))
  | _ => False
theorem pm_neg (ha : PE X a (tE ma)) : PE X (.UnaryOp .USub a pos) (tE (mUn negW ma)) := (pe_un un_neg ha).weak fun σ H Q ⟨W, H0, E, b, R, S, hm, k⟩ => by
  refine ⟨W, H0, E, b, _, S, hm, fun c b1 v H1 h1 k1 d1 t1 => ?_⟩
  cases c <;> first | exact h1.elim | skip
  cases t1
  exact ⟨_, rfl, k _ b1 _ H1 h1 k1 d1 (.int _)⟩
/-- a comparison of three -/
def mChain (w w' : W2) (ma mb mc : WE) : WE := fun E b R => ma E b fun x b1 => mb E b1 fun y b2 => w x y fun z => match z with
  | .bool true => mc E b2 fun u b3 => w' y u fun z => R z b3
  | .bool false => R (.bool false) b2
  | _ => False
theorem tChain_of {w w' : W2} {mc : WE} {σ : L2.St} {H : Hp} {Q : VK} (h : tE (mChain w w' ma mb mc) σ H Q) : tChain (rD w) (rD w') (tQ ma) (tQ mb) (tQ mc) σ H Q := by
  obtain ⟨W, H0, E, b, R, S, hm, k⟩ := h
  refine ⟨W, H0, E, b, _, S, hm, fun x b1 v H1 h1 k1 d1 t1 => ⟨W, H0, E, b1, _, S.step k1 d1, h1, fun y b2 u H2 h2 k2 d2 t2 => ?_⟩⟩
  refine ⟨W, x, y, _, t1.step d1 k2, t2, h2, fun z v' H3 hz e3 t3 => ?_⟩
  cases z <;> first | exact hz.elim | skip
  rename_i c
  cases t3
  refine ⟨c, rfl, ?_⟩
  have k13 := (k1.trans k2).trans (Kp.ex (M := W.M) e3)
  have d3 := W.ex e3 d2
  cases c with
  | false => exact k _ b2 _ H3 hz k13 d3 (.bl false)
  | true =>
    refine ⟨W, H0, E, b2, _, S.step k13 d3, hz, fun q b4 v4 H4 h4 k4 d4 t4 => ?_⟩
    exact ⟨W, y, q, _, (t2.step d2 (Kp.ex e3)).step d3 k4, t4, h4, fun z5 v5 H5 h5 e5 t5 => k z5 b4 v5 H5 h5 ((k13.trans k4).trans (Kp.ex e5)) (W.ex e5 d4) t5⟩
theorem pm_chain {c : Expr} {op op' : CmpOp} {w w' : W2} {mc : WE} (ho : OpR X (compareOp op) (rD w)) (ho' : OpR X (compareOp op') (rD w')) (ha : PE X a (tQ ma)) (hb : PE X b (tQ mb)) (hc : PE X c (tQ mc)) (hm : lastMarks [op, op'] [b, c] = false := by with_unfolding_all rfl) : PE X (.Compare a [op, op'] [b, c] pos) (tE (mChain w w' ma mb mc)) := (pe_chain ho ho' ha hb hc hm).weak fun _ _ _ => tChain_of
theorem pm_tchain {c : Expr} {op op' : CmpOp} {w w' : W2} {mc : WE} (ho : OpR X (compareOp op) (rD w)) (ho' : OpR X (compareOp op') (rD w')) (ha : PE X a (tQ ma)) (hb : PE X b (tQ mb)) (hc : PE X c (tQ mc)) (hm : lastMarks [op, op'] [b, c] = false := by with_unfolding_all rfl) : PT X (.Compare a [op, op'] [b, c] pos) (tT (mT (mChain w w' ma mb mc))) := (pt_chain ho ho' ha hb hc hm).weak fun σ H Q h => tChain_of (tB_of h)
end
end Wp

namespace Wp
open PySem PySem.Spec PyProof.Rows L2 Evl
/-! ### what the operations do to data -/
def b2z (b : Bool) : Int := if b = true then 1 else 0
def addW : W2 := fun d e R => match d, e with
  | .int i, .int j => R (.int (i + j))
  | .int i, .bool j => R (.int (i + b2z j))
  | .bool i, .int j => R (.int (b2z i + j))
  | .str x, .str y => x.length + y.length ≤ 100000 ∧ R (.str (x ++ y))
  | .tuple xs, .tuple ys => xs.length + ys.length ≤ 100000 ∧ R (.tuple (xs ++ ys))
  | .list xs, .list ys => xs.length + ys.length ≤ 100000 ∧ R (.list (xs ++ ys))
  | _, _ => False
def subW : W2 := fun d e R => match d, e with
  | .int i, .int j => R (.int (i - j))
  | .int i, .bool j => R (.int (i - b2z j))
  | .bool i, .int j => R (.int (b2z i - j))
  | _, _ => False
def mulW : W2 := fun d e R => match d, e with
  | .int i, .int j => CMul i j ∧ R (.int (i * j))
  | _, _ => False
def fdivW : W2 := fun d e R => match d, e with
  | .int i, .int j => (0 < j ∧ j < 4611686018427387904) ∧ R (.int (i / j))
  | _, _ => False
def modW : W2 := fun d e R => match d, e with
  | .int i, .int j => 0 < j ∧ R (.int (i % j))
  | _, _ => False
def powW : W2 := fun d e R => match d, e with
  | .int i, .int j => (0 ≤ j ∧ j ≤ 1000000 ∧ i.natAbs < 2 ^ 64) ∧ R (.int (i ^ j.toNat))
  | _, _ => False
/-- data that == is asked of -/
def okEq (d e : PyData) : Prop := d.plain = true ∧ e.plain = true ∧ min d.depth e.depth ≤ 50
def eqW : W2 := fun d e R => match d, e with
  | .int i, .int j => R (.bool (decide (i = j)))
  | .str i, .str j => R (.bool (decide (i = j)))
  | .tuple ds, .tuple [] => R (.bool ds.isEmpty)
  | .list ds, .list [] => R (.bool ds.isEmpty)
  | d, e => okEq d e ∧ R (.bool (PyData.eqv d e))
def neW : W2 := fun d e R => match d, e with
  | .int i, .int j => R (.bool (!decide (i = j)))
  | .str i, .str j => R (.bool (!decide (i = j)))
  | .tuple ds, .tuple [] => R (.bool (!ds.isEmpty))
  | .list ds, .list [] => R (.bool (!ds.isEmpty))
  | d, e => okEq d e ∧ R (.bool (!PyData.eqv d e))
def okLt (d e : PyData) : Prop := PySem.W.alike d e = true ∧ d ≠ .none ∧ min d.depth e.depth ≤ 50
def ltW : W2 := fun d e R => match d, e with
  | .int i, .int j => R (.bool (decide (i < j)))
  | d, e => okLt d e ∧ R (.bool (PySem.W.dataLt d e))
def leW : W2 := fun d e R => match d, e with
  | .int i, .int j => R (.bool (decide (i ≤ j)))
  | d, e => okLt d e ∧ R (.bool (!PySem.W.dataLt e d))
def gtW : W2 := fun d e R => match d, e with
  | .int i, .int j => R (.bool (decide (j < i)))
  | d, e => okLt d e ∧ R (.bool (PySem.W.dataLt e d))
def geW : W2 := fun d e R => match d, e with
  | .int i, .int j => R (.bool (decide (j ≤ i)))
  | d, e => okLt d e ∧ R (.bool (!PySem.W.dataLt d e))
def isNn : PyData → Bool
  | .none => true
  | _ => false
def isW : W2 := fun d e R => match e with
  | .none => R (.bool (isNn d))
  | _ => False
def isntW : W2 := fun d e R => match e with
  | .none => R (.bool (!isNn d))
  | _ => False
def inW : W2 := fun d e R => match e with
  | .list xs => (PyData.plainAll xs = true ∧ d.plain = true ∧ min (PyData.depthAll xs) d.depth ≤ 50) ∧ R (.bool (xs.any fun y => PyData.eqv y d))
  | .tuple xs => (PyData.plainAll xs = true ∧ d.plain = true ∧ min (PyData.depthAll xs) d.depth ≤ 50) ∧ R (.bool (xs.any fun y => PyData.eqv y d))
  | _ => False
def ninW : W2 := fun d e R => match e with
  | .list xs => (PyData.plainAll xs = true ∧ d.plain = true ∧ min (PyData.depthAll xs) d.depth ≤ 50) ∧ R (.bool (!xs.any fun y => PyData.eqv y d))
  | .tuple xs => (PyData.plainAll xs = true ∧ d.plain = true ∧ min (PyData.depthAll xs) d.depth ≤ 50) ∧ R (.bool (!xs.any fun y => PyData.eqv y d))
  | _ => False
/-- x[i] -/
def ixW : W2 := fun d e R => match d, e with
  | .list xs, .int i => ∃ z, atI xs i = some z ∧ R z
  | .tuple xs, .int i => ∃ z, atI xs i = some z ∧ R z
  | _, _ => False
section
variable {X : Cx}
theorem DtAll.atI {H : Hp} {xs : List V} {ds : List PyData} {i : Int} {z : PyData} (h : DtAll H xs ds) (e : L2.atI ds i = some z) : ∃ v, L2.atI xs i = some v ∧ Dt H v z := by
  unfold L2.atI at e ⊢
  rw [h.length]
  cases hj : ixN ds.length i with
  | none => rw [hj] at e; cases e
  | some j =>
    rw [hj] at e
    exact h.getD e
theorem ixr_W {K : PySem.W.Frag} (hK : X.K = K) : IxR X (rD ixW) := by
  intro value slice pins s σ H x y v u Q I rx ry h hs
  obtain ⟨W, d, e, R, h1, h2, hw, k⟩ := h
  cases d <;> cases e <;> first | exact hw.elim | skip
  · obtain ⟨z, hz, hr⟩ := hw
    obtain ⟨a, xs, rfl, sq, al⟩ := h1.seqL (K := X.K)
    obtain ⟨w, hw, t⟩ := al.atI hz
    exact ix_list value slice pins s σ H _ _ v u Q I rx ry ⟨a, xs, _, w, rfl, h2.int, sq, hw, k z w H hr (Ex.refl H) t⟩ hs
  · obtain ⟨z, hz, hr⟩ := hw
    obtain ⟨a, o, xs, rfl, _, _, sq, al⟩ := h1.seqT (K := X.K)
    obtain ⟨w, hw, t⟩ := al.atI hz
    exact ix_tup value slice pins s σ H _ _ v u Q I rx ry ⟨a, xs, _, w, rfl, h2.int, sq, hw, k z w H hr (Ex.refl H) t⟩ hs
theorem op_subW : OpR X (binaryOp .Sub) (rD subW) := by
  intro pins s σ H x y v u Q I rx ry h
  obtain ⟨W, d, e, R, h1, h2, hw, k⟩ := h
  cases d <;> cases e <;> first | exact hw.elim | skip
  · obtain rfl := h1.bool; obtain rfl := h2.int; cases rx; obtain ⟨t, rfl⟩ := ry
    exact PySem.IntBool.sub_bool_int ⟨.int _, H, I.tok _, ⟨_, rfl⟩, k _ _ H hw (Ex.refl H) (.int _)⟩
  · obtain rfl := h1.int; obtain rfl := h2.bool; cases ry; obtain ⟨t, rfl⟩ := rx
    exact PySem.IntBool.sub_int_bool ⟨.int _, H, I.tok _, ⟨_, rfl⟩, k _ _ H hw (Ex.refl H) (.int _)⟩
  · obtain rfl := h1.int; obtain rfl := h2.int
    exact op_sub pins s σ H _ _ v u Q I rx ry ⟨_, _, rfl, rfl, k _ _ H hw (Ex.refl H) (.int _)⟩
theorem op_mulW : OpR X (binaryOp .Mult) (rD mulW) := by
  intro pins s σ H x y v u Q I rx ry h
  obtain ⟨W, d, e, R, h1, h2, hw, k⟩ := h
  cases d <;> cases e <;> first | exact hw.elim | skip
  obtain rfl := h1.int; obtain rfl := h2.int
  exact op_mul pins s σ H _ _ v u Q I rx ry ⟨_, _, rfl, rfl, hw.1, k _ _ H hw.2 (Ex.refl H) (.int _)⟩
theorem op_fdivW : OpR X (binaryOp .FloorDiv) (rD fdivW) := by
  intro pins s σ H x y v u Q I rx ry h
  obtain ⟨W, d, e, R, h1, h2, hw, k⟩ := h
  cases d <;> cases e <;> first | exact hw.elim | skip
  obtain rfl := h1.int; obtain rfl := h2.int
  exact Cb.op_fdivB pins s σ H _ _ v u Q I rx ry ⟨_, _, rfl, rfl, hw.1, k _ _ H hw.2 (Ex.refl H) (.int _)⟩
theorem op_modW : OpR X (binaryOp .Mod) (rD modW) := by
  intro pins s σ H x y v u Q I rx ry h
  obtain ⟨W, d, e, R, h1, h2, hw, k⟩ := h
  cases d <;> cases e <;> first | exact hw.elim | skip
  obtain rfl := h1.int; obtain rfl := h2.int
  exact op_mod pins s σ H _ _ v u Q I rx ry ⟨_, _, rfl, rfl, hw.1, k _ _ H hw.2 (Ex.refl H) (.int _)⟩
theorem op_powW : OpR X (binaryOp .Pow) (rD powW) := by
  intro pins s σ H x y v u Q I rx ry h
  obtain ⟨W, d, e, R, h1, h2, hw, k⟩ := h
  cases d <;> cases e <;> first | exact hw.elim | skip
  obtain rfl := h1.int; obtain rfl := h2.int
  exact op_pow pins s σ H _ _ v u Q I rx ry ⟨_, _, rfl, rfl, hw.1, k _ _ H hw.2 (Ex.refl H) (.int _)⟩
/-! tuples -/
theorem op_catZ {pins : List (Addr × Obj)} {s : Shared} {σ : L2.St} {H : Hp} {Q : VK} {a b : Addr} {o o2 : Obj} {xs ys : List V} {ds es : List PyData} (I : Inv X pins σ H s) (ha : H a = some (.frz o (.tup xs))) (na : o.dict = none) (hx : DtAll H xs ds) (hb : H b = some (.frz o2 (.tup ys))) (nb : o2.dict = none) (hy : DtAll H ys es)
    (few : xs.length + ys.length ≤ 100000) (q : ∀ v H', Ex H H' → Dt H' v (.tuple (ds ++ es)) → Q v H') : wpAny (model X.prog X.w) X.A (binaryOp .Add (.ref a) (.ref b)) (EP X pins σ Q) X.xe s := by
  obtain ⟨its, r1, p1, _⟩ := I.tuple (show SqT X.K H a xs from .inl (.inr ⟨o, ha⟩))
  obtain ⟨its2, r2, p2, _⟩ := I.tuple (show SqT X.K H b ys from .inl (.inr ⟨o2, hb⟩))
  by_cases h0 : its = []
  · subst h0
    cases r1
    cases hx
    exact cat_tup0 p1 p2 ⟨.ref b, H, I, rfl, q _ H (Ex.refl H) (.tup hb nb hy)⟩
  · have l1 := r1.length
    have l2 := r2.length
    refine HT.cat_tup p1 p2 h0 (fun z => ?_) (fun z => ?_) (by rw [← l1, ← l2]; exact sz_of few)
    · subst z
      cases r2
      cases hy
      exact ⟨.ref a, H, I, rfl, q _ H (Ex.refl H) (by rw [List.append_nil]; exact .tup ha na hx)⟩
    · have nf : H s.heap.objs.size = none := I.hok.fresh (Nat.le_refl _)
      have here : (s.heap.push { cls := .type "tuple", data := .seq (its ++ its2).toArray }).get? s.heap.objs.size = some { cls := .type "tuple", data := .seq (its ++ its2).toArray } := Heap.get?_push_size _ rfl
      refine ⟨.ref s.heap.objs.size, _, I.laid (t' := s.toks) (o := .frz { cls := .type "tuple", data := .seq (its ++ its2).toArray } (.tup (xs ++ ys))) (fun b ob q => Heap.get?_push_of_some _ q) (Nat.le_refl _) ⟨here, ?_⟩, rfl, q _ _ (Ex.new nf) (.tup upd_same rfl ((hx.append hy).mono (Fk.ex (Ex.new nf))))⟩
      exact ⟨by rw [List.length_append]; exact sz_of few, _, r1.append r2, ⟨_, here, rfl, _, rfl⟩⟩
theorem Dq.lobj {W : Wld} {pins : List (Addr × Obj)} {s : Shared} {σ : L2.St} {H : Hp} {x : V} {v : Value} {ds : List PyData} (I : Inv X pins σ H s) (h : Dq W H x (.list ds)) (r : RelV x v) :
    ∃ a xs its n, v = .ref a ∧ DtAll H xs ds ∧ Vals xs its ∧ s.heap.get? a = some { cls := .type "list", data := .seq its.toArray n } := by
  rcases h with h | ⟨a, ds', rfl, e, _, xs, ha, hx⟩
  · obtain ⟨a, o, xs, rfl, h1, h2⟩ := h.lst_inv
    cases r
    obtain ⟨_, z, its, n, rv, ho⟩ := (show ObjOk X.prog X.w H s.heap a (.frz o (.lst xs)) from I.hok a _ h1)
    exact ⟨a, xs, its, n, rfl, h2, rv, ho⟩
  · cases e
    cases r
    obtain ⟨z, its, n, rv, ho⟩ := (show ObjOk X.prog X.w H s.heap a (.lst xs) from I.hok a _ ha)
    exact ⟨a, xs, its, n, rfl, hx, rv, ho⟩
/-- a new list, locked from the start -/
theorem Inv.lz {pins : List (Addr × Obj)} {s : Shared} {σ : L2.St} {H : Hp} {ys : List V} {its : List Value} (I : Inv X pins σ H s) (hv : Vals ys its) (hz : ys.length ≤ sizeLine) : Inv X pins σ (upd H s.heap.objs.size (.frz { cls := .type "list", data := .seq its.toArray } (.lst ys))) { s with heap := s.heap.push { cls := .type "list", data := .seq its.toArray } } := by
  have here : (s.heap.push { cls := .type "list", data := .seq its.toArray }).get? s.heap.objs.size = some { cls := .type "list", data := .seq its.toArray } := Heap.get?_push_size _ rfl
  exact I.laid (t' := s.toks) (fun _ _ q => Heap.get?_push_of_some _ q) (Nat.le_refl _) ⟨here, hz, its, 0, hv, here⟩
theorem op_addW : OpR X (binaryOp .Add) (rD addW) := by
  intro pins s σ H x y v u Q I rx ry h
  obtain ⟨W, d, e, R, h1, h2, hw, k⟩ := h
  cases d <;> cases e <;> first | exact hw.elim | skip
  · obtain rfl := h1.bool; obtain rfl := h2.int; cases rx; obtain ⟨t, rfl⟩ := ry
    exact PySem.IntBool.add_bool_int ⟨.int _, H, I.tok _, ⟨_, rfl⟩, k _ _ H hw (Ex.refl H) (.int _)⟩
  · obtain rfl := h1.int; obtain rfl := h2.bool; cases ry; obtain ⟨t, rfl⟩ := rx
    exact add_int_bool ⟨.int _, H, I.tok _, ⟨_, rfl⟩, k _ _ H hw (Ex.refl H) (.int _)⟩
  · obtain rfl := h1.int; obtain rfl := h2.int
    exact op_add pins s σ H _ _ v u Q I rx ry ⟨_, _, rfl, rfl, k _ _ H hw (Ex.refl H) (.int _)⟩
  · obtain rfl := h1.str; obtain rfl := h2.str
    exact op_add_str pins s σ H _ _ v u Q I rx ry ⟨_, _, rfl, rfl, sz_of hw.1, k _ _ H hw.2 (Ex.refl H) (.str _)⟩
  · obtain ⟨a, xs, its, n, rfl, t1, r1, e1⟩ := h1.lobj I rx
    obtain ⟨b, ys, its2, n2, rfl, t2, r2, e2⟩ := h2.lobj I ry
    have l1 := r1.length
    have l2 := r2.length
    have l3 := t1.length
    have l4 := t2.length
    have sz := sz_of hw.1
    refine PySem.P.add_list e1 e2 ?_ (by rw [List.size_toArray, List.size_toArray]; omega)
    have ea : its.toArray ++ its2.toArray = (its ++ its2).toArray := by simp
    rw [ea]
    have nf : H s.heap.objs.size = none := I.hok.fresh (Nat.le_refl _)
    exact ⟨.ref _, _, Inv.lz I (r1.append r2) (by rw [List.length_append]; omega), rfl, k _ _ _ hw.2 (Ex.new nf) (.lst upd_same ((t1.append t2).mono (Fk.ex (Ex.new nf))))⟩
  · obtain ⟨a, o, xs, rfl, ha, na, _, hx⟩ := h1.seqT (K := X.K)
    obtain ⟨b, o2, ys, rfl, hb, nb, _, hy⟩ := h2.seqT (K := X.K)
    cases rx
    cases ry
    exact op_catZ I ha na hx hb nb hy (by rw [hx.length, hy.length]; exact hw.1) fun v H' e t => k _ v H' hw.2 e t
/-! comparisons -/
theorem op_eq_gen (ho : XO X) {pins : List (Addr × Obj)} {s : Shared} {σ : L2.St} {H : Hp} {Q : VK} {W : Wld} {x y : V} {v u : Value} {d e : PyData} (I : Inv X pins σ H s) (h1 : Dq W H x d) (h2 : Dq W H y e) (rx : RelV x v) (ry : RelV y u) (ok : okEq d e) (q : Q (.bl (PyData.eqv d e)) H) :
    wpAny (model X.prog X.w) X.A (compareOp .Eq v u) (EP X pins σ Q) X.xe s := by
  obtain ⟨as, r1, _⟩ := h1.reads I rx
  obtain ⟨bs, r2, _⟩ := h2.reads I ry
  have := ho.un
  exact SeqAt.eq_plain r1 r2 ok.1 ok.2.1 (by have := ok.2.2; omega) ⟨.bl _, H, I, rfl, q⟩
theorem op_ne_gen (ho : XO X) {pins : List (Addr × Obj)} {s : Shared} {σ : L2.St} {H : Hp} {Q : VK} {W : Wld} {x y : V} {v u : Value} {d e : PyData} (I : Inv X pins σ H s) (h1 : Dq W H x d) (h2 : Dq W H y e) (rx : RelV x v) (ry : RelV y u) (ok : okEq d e) (q : Q (.bl (!PyData.eqv d e)) H) :
    wpAny (model X.prog X.w) X.A (compareOp .NotEq v u) (EP X pins σ Q) X.xe s := by
  obtain ⟨as, r1, _⟩ := h1.reads I rx
  obtain ⟨bs, r2, _⟩ := h2.reads I ry
  have := ho.un
  exact SeqAt.ne_plain r1 r2 ok.1 ok.2.1 (by have := ok.2.2; omega) ⟨.bl _, H, I, rfl, q⟩
theorem emptyL {W : Wld} {pins : List (Addr × Obj)} {s : Shared} {σ : L2.St} {H : Hp} {x : V} {v : Value} {ds : List PyData} (I : Inv X pins σ H s) (h : Dq W H x (.list ds)) (r : RelV x v) : ∃ a its, v = .ref a ∧ s.heap.IsList a its ∧ its.size = ds.length := by
  obtain ⟨a, xs, rfl, sq, al⟩ := h.seqL (K := X.K)
  cases r
  obtain ⟨its, rv, pl, _⟩ := I.list sq
  exact ⟨a, its.toArray, rfl, pl.isList, by rw [List.size_toArray, ← rv.length, al.length]⟩
theorem emptyT {W : Wld} {pins : List (Addr × Obj)} {s : Shared} {σ : L2.St} {H : Hp} {x : V} {v : Value} {ds : List PyData} (I : Inv X pins σ H s) (h : Dq W H x (.tuple ds)) (r : RelV x v) : ∃ a its, v = .ref a ∧ IsTup s.heap a its ∧ its.size = ds.length := by
  obtain ⟨a, o, xs, rfl, _, _, sq, al⟩ := h.seqT (K := X.K)
  cases r
  obtain ⟨its, rv, pl, _⟩ := I.tuple sq
  exact ⟨a, its.toArray, rfl, pl, by rw [List.size_toArray, ← rv.length, al.length]⟩
theorem op_eqW (ho : XO X) : OpR X (compareOp .Eq) (rD eqW) := by
  intro pins s σ H x y v u Q I rx ry h
  obtain ⟨W, d, e, R, h1, h2, hw, k⟩ := h
  have un := ho.un
  have fin : ∀ c, R (.bool c) → Q (.bl c) H := fun c r => k _ _ H r (Ex.refl H) (.bl c)
  unfold eqW at hw
  split at hw
  · obtain rfl := h1.int; obtain rfl := h2.int
    obtain ⟨t, rfl⟩ := rx; obtain ⟨t', rfl⟩ := ry
    exact eq_int (by rw [Bool.beq_eq_decide_eq]; exact ⟨.bl _, H, I, rfl, fin _ hw⟩)
  · obtain rfl := h1.str; obtain rfl := h2.str
    exact op_eq pins s σ H _ _ v u Q I rx ry ⟨rfl, by have := fin _ hw; simpa using this⟩
  · obtain ⟨a, its, rfl, ta, la⟩ := emptyT I h1 rx
    obtain ⟨b, its2, rfl, tb, lb⟩ := emptyT I h2 ry
    rename_i ds
    refine SeqAt.RcAt.tuples (e := fun _ => true) ta tb (by omega) (fun j h1 h2 => by simp [lb] at h2) X.prog X.w X.xe _ ⟨.bl ds.isEmpty, H, I, ?_, fin _ hw⟩
    show _ = _
    congr 1
    cases ds <;> simp_all
  · obtain ⟨a, its, rfl, ta, la⟩ := emptyL I h1 rx
    obtain ⟨b, its2, rfl, tb, lb⟩ := emptyL I h2 ry
    rename_i ds
    cases ds with
    | nil => exact SeqAt.RcAt.lists (e := fun _ => true) ta tb (by rw [la, lb]) (by omega) (fun j h1 h2 => by simp [lb] at h2) X.prog X.w X.xe _ ⟨.bl true, H, I, by show _ = _; congr 1; simp, fin _ hw⟩
    | cons d ds => exact SeqAt.RcAt.lists_lengths ta tb (by rw [la, lb]; simp) (by omega) X.prog X.w X.xe _ ⟨.bl false, H, I, rfl, fin _ hw⟩
  · exact op_eq_gen ho I h1 h2 rx ry hw.1 (fin _ hw.2)
theorem op_neW (ho : XO X) : OpR X (compareOp .NotEq) (rD neW) := by
  intro pins s σ H x y v u Q I rx ry h
  obtain ⟨W, d, e, R, h1, h2, hw, k⟩ := h
  have un := ho.un
  have fin : ∀ c, R (.bool c) → Q (.bl c) H := fun c r => k _ _ H r (Ex.refl H) (.bl c)
  unfold neW at hw
  split at hw
  · obtain rfl := h1.int; obtain rfl := h2.int
    obtain ⟨t, rfl⟩ := rx; obtain ⟨t', rfl⟩ := ry
    exact ne_int (by rw [bne, Bool.beq_eq_decide_eq]; exact ⟨.bl _, H, I, rfl, fin _ hw⟩)
  · obtain rfl := h1.str; obtain rfl := h2.str
    exact op_ne pins s σ H _ _ v u Q I rx ry ⟨rfl, by have := fin _ hw; simpa using this⟩
  · obtain ⟨a, its, rfl, ta, la⟩ := emptyT I h1 rx
    obtain ⟨b, its2, rfl, tb, lb⟩ := emptyT I h2 ry
    rename_i ds
    refine SeqAt.RcNeAt.tuples (e := fun _ => true) ta tb (by omega) (fun j h1 h2 => by simp [lb] at h2) X.prog X.w X.xe _ ⟨.bl (!ds.isEmpty), H, I, ?_, fin _ hw⟩
    show _ = _
    congr 1
    cases ds <;> simp_all
  · obtain ⟨a, its, rfl, ta, la⟩ := emptyL I h1 rx
    obtain ⟨b, its2, rfl, tb, lb⟩ := emptyL I h2 ry
    rename_i ds
    cases ds with
    | nil => exact SeqAt.RcNeAt.lists (e := fun _ => true) ta tb (by rw [la, lb]) (by omega) (fun j h1 h2 => by simp [lb] at h2) X.prog X.w X.xe _ ⟨.bl false, H, I, by show _ = _; congr 1; simp, fin _ hw⟩
    | cons d ds => exact SeqAt.RcNeAt.lists_lengths ta tb (by rw [la, lb]; simp) (by omega) X.prog X.w X.xe _ ⟨.bl true, H, I, rfl, fin _ hw⟩
  · exact op_ne_gen ho I h1 h2 rx ry hw.1 (fin _ hw.2)
theorem ord_gen (ho : XO X) {op : CmpOp} {w : W2} {f : PyData → PyData → Bool} {g : Int → Int → Bool} (rule : ∀ {A : Around} {s : Shared} {a b : Value} {da db : PyData} {as bs : List Addr} {Q : Value → Shared → Prop}, Reads s.heap a da as → Reads s.heap b db bs → PySem.W.alike da db = true → da ≠ .none → A.units + min da.depth db.depth < cLine → Q (.bool (f da db)) s → wpAny (model X.prog X.w) A (compareOp op a b) Q X.xe s)
    (hints : OpR X (compareOp op) (rI0 fun i j => .bl (g i j))) (hw : ∀ d e R, w d e R → (∃ i j, d = .int i ∧ e = .int j ∧ R (.bool (g i j))) ∨ (okLt d e ∧ R (.bool (f d e)))) : OpR X (compareOp op) (rD w) := by
  intro pins s σ H x y v u Q I rx ry h
  obtain ⟨W, d, e, R, h1, h2, hw', k⟩ := h
  have un := ho.un
  rcases hw d e R hw' with ⟨i, j, rfl, rfl, r⟩ | ⟨ok, r⟩
  · obtain rfl := h1.int; obtain rfl := h2.int
    exact hints pins s σ H _ _ v u Q I rx ry ⟨_, _, rfl, rfl, k _ _ H r (Ex.refl H) (.bl _)⟩
  · obtain ⟨as, r1, _⟩ := h1.reads I rx
    obtain ⟨bs, r2, _⟩ := h2.reads I ry
    exact rule r1 r2 ok.1 ok.2.1 (by have := ok.2.2; omega) ⟨.bl _, H, I, rfl, k _ _ H r (Ex.refl H) (.bl _)⟩
theorem op_ltW (ho : XO X) : OpR X (compareOp .Lt) (rD ltW) := ord_gen ho (f := fun d e => PySem.W.dataLt d e) (fun a b c d e f => PySem.W.lt_data a b c d e f) op_lt fun d e R h => by
  unfold ltW at h
  split at h
  · exact .inl ⟨_, _, rfl, rfl, h⟩
  · exact .inr h
theorem op_leW (ho : XO X) : OpR X (compareOp .LtE) (rD leW) := ord_gen ho (f := fun d e => !PySem.W.dataLt e d) (fun a b c d e f => PySem.W.le_data a b c d e f) op_le fun d e R h => by
  unfold leW at h
  split at h
  · exact .inl ⟨_, _, rfl, rfl, h⟩
  · exact .inr h
theorem op_gtW (ho : XO X) : OpR X (compareOp .Gt) (rD gtW) := ord_gen ho (f := fun d e => PySem.W.dataLt e d) (fun a b c d e f => PySem.W.gt_data a b c d e f) op_gt fun d e R h => by
  unfold gtW at h
  split at h
  · exact .inl ⟨_, _, rfl, rfl, h⟩
  · exact .inr h
theorem op_geW (ho : XO X) : OpR X (compareOp .GtE) (rD geW) := ord_gen ho (f := fun d e => !PySem.W.dataLt d e) (fun a b c d e f => PySem.W.ge_data a b c d e f) op_ge fun d e R h => by
  unfold geW at h
  split at h
  · exact .inl ⟨_, _, rfl, rfl, h⟩
  · exact .inr h
theorem Dq.isNn {W : Wld} {H : Hp} {v : V} {d : PyData} (h : Dq W H v d) : decide (v = .non) = isNn d := by
  rcases h with h | ⟨a, ds', rfl, rfl, _⟩
  · cases h <;> simp [Wp.isNn]
  · simp [Wp.isNn]
theorem op_isW : OpR X (compareOp .Is) (rD isW) := by
  intro pins s σ H x y v u Q I rx ry h
  obtain ⟨W, d, e, R, h1, h2, hw, k⟩ := h
  unfold isW at hw
  split at hw
  · have : y = .non := by rcases h2 with h2 | ⟨_, _, _, z, _⟩; cases h2; rfl; cases z
    exact op_isN pins s σ H _ _ v u Q I rx ry ⟨this, by rw [h1.isNn]; exact k _ _ H hw (Ex.refl H) (.bl _)⟩
  · exact hw.elim
theorem op_isntW : OpR X (compareOp .IsNot) (rD isntW) := by
  intro pins s σ H x y v u Q I rx ry h
  obtain ⟨W, d, e, R, h1, h2, hw, k⟩ := h
  unfold isntW at hw
  split at hw
  · have : y = .non := by rcases h2 with h2 | ⟨_, _, _, z, _⟩; cases h2; rfl; cases z
    exact op_notN pins s σ H _ _ v u Q I rx ry ⟨this, by rw [h1.isNn]; exact k _ _ H hw (Ex.refl H) (.bl _)⟩
  · exact hw.elim
theorem op_inW (ho : XO X) : OpR X (compareOp .In) (rD inW) := by
  intro pins s σ H x y v u Q I rx ry h
  obtain ⟨W, d, e, R, h1, h2, hw, k⟩ := h
  have un := ho.un
  obtain ⟨as, r1, _⟩ := h1.reads I rx
  obtain ⟨bs, r2, _⟩ := h2.reads I ry
  cases e <;> first | exact hw.elim | skip
  · obtain ⟨⟨a, b, c⟩, r⟩ := hw
    exact SeqAt.in_list_data r2 r1 a b (by omega) ⟨.bl _, H, I, rfl, k _ _ H r (Ex.refl H) (.bl _)⟩
  · obtain ⟨⟨a, b, c⟩, r⟩ := hw
    exact SeqAt.in_tuple_data r2 r1 a b (by omega) ⟨.bl _, H, I, rfl, k _ _ H r (Ex.refl H) (.bl _)⟩
theorem op_ninW (ho : XO X) : OpR X (compareOp .NotIn) (rD ninW) := by
  intro pins s σ H x y v u Q I rx ry h
  obtain ⟨W, d, e, R, h1, h2, hw, k⟩ := h
  have un := ho.un
  obtain ⟨as, r1, _⟩ := h1.reads I rx
  obtain ⟨bs, r2, _⟩ := h2.reads I ry
  cases e <;> first | exact hw.elim | skip
  · obtain ⟨⟨a, b, c⟩, r⟩ := hw
    exact SeqAt.notIn_list_data r2 r1 a b (by omega) ⟨.bl _, H, I, rfl, k _ _ H r (Ex.refl H) (.bl _)⟩
  · obtain ⟨⟨a, b, c⟩, r⟩ := hw
    exact SeqAt.notIn_tuple_data r2 r1 a b (by omega) ⟨.bl _, H, I, rfl, k _ _ H r (Ex.refl H) (.bl _)⟩
end
end Wp

namespace Wp
open PySem PySem.Spec PyProof.Rows L2 Evl
/-! ### displays -/
def mNil : WL := fun _ b R => R [] b
def mCons (m : WE) (ms : WL) : WL := fun E b R => m E b fun d b1 => ms E b1 fun ds b2 => R (d :: ds) b2
def mTup (ms : WL) : WE := fun E b R => ms E b fun ds b1 => ds.length ≤ 100000 ∧ R (.tuple ds) b1
def mLst (ms : WL) : WL := fun E b R => ms E b fun ds b1 => ds.length ≤ 100000 ∧ R ds b1
def mLk (m : WL) : WE := fun E b R => m E b fun ds b1 => R (.list ds) b1
section
variable {X : Cx} {e a b : Expr} {es : List Expr} {m ma mb : WE} {ms : WL} {pos : Pos}
theorem pm_anil : PA X [] (tA mNil) := pa_nil.weak fun σ H Q ⟨W, H0, E, b, R, S, hm, k⟩ => k [] b [] H hm Kp.refl S.dk .nil
theorem pm_acons (ha : PE X e (tE m)) (hr : PA X es (tA ms)) (hs : starEach (e :: es) X.env = (false, eval e X.env) :: starEach es X.env := by rfl) : PA X (e :: es) (tA (mCons m ms)) := (pa_cons ha hr hs).weak fun σ H Q ⟨W, H0, E, b, R, S, hm, k⟩ =>
  ⟨W, H0, E, b, _, S, hm, fun d b1 v H1 h1 k1 d1 t1 => ⟨W, H0, E, b1, _, S.step k1 d1, h1, fun ds b2 vs H2 h2 k2 d2 t2 => k _ b2 _ H2 h2 (k1.trans k2) d2 (.cons (t1.mono (W.fk d1 k2)) t2)⟩⟩
def tTupZ (t : TA) : TE := fun σ H Q => t σ H fun xs H1 => xs.length ≤ sizeLine ∧ ∀ p o, H1 p = none → o.dict = none → Q (.ref p) (upd H1 p (.frz o (.tup xs)))
theorem pe_tupZ {k : Nat} {t : TA} (h : PA X es t) : PE X (.Tuple es k pos) (tTupZ t) := by
  refine ⟨fun pins s σ H Q I hq => ?_⟩
  refine wpAny_Tuple_spliced (thn (h.run pos pins s σ H _ I hq) fun us s1 ⟨xs, H1, I1, r, z, q⟩ => ⟨by rw [← r.length]; exact z, ?_⟩)
  have nf : H1 s1.heap.objs.size = none := I1.hok.fresh (Nat.le_refl _)
  have here : (s1.heap.push { cls := .type "tuple", data := .seq us.toArray }).get? s1.heap.objs.size = some { cls := .type "tuple", data := .seq us.toArray } := Heap.get?_push_size _ rfl
  exact ⟨.ref s1.heap.objs.size, upd H1 s1.heap.objs.size (.frz { cls := .type "tuple", data := .seq us.toArray } (.tup xs)), I1.laid (t' := s1.toks) (fun b u e => Heap.get?_push_of_some _ e) (Nat.le_refl _) ⟨here, z, us, r, ⟨_, here, rfl, _, rfl⟩⟩, rfl, q _ _ nf rfl⟩
theorem pm_tup {k : Nat} (h : PA X es (tA ms)) : PE X (.Tuple es k pos) (tE (mTup ms)) := (pe_tupZ h).weak fun σ H Q ⟨W, H0, E, b, R, S, hm, k⟩ =>
  ⟨W, H0, E, b, _, S, hm, fun ds b1 vs H1 h1 k1 d1 t1 => ⟨sz_of (by rw [t1.length]; exact h1.1), fun p o np no => k _ b1 _ _ h1.2 (k1.trans (Kp.ex (Ex.new np))) (W.ex (Ex.new np) d1) (.tup upd_same no (t1.mono (Fk.ex (Ex.new np))))⟩⟩
theorem pm_lst (h : PA X es (tA ms)) : PE X (.List es pos) (tL (mLst ms)) := (pe_lst h).weak fun σ H Q ⟨W, H0, E, b, R, S, hm, k⟩ =>
  ⟨W, H0, E, b, _, S, hm, fun ds b1 vs H1 h1 k1 d1 t1 => ⟨sz_of (by rw [t1.length]; exact h1.1), fun p np => k _ b1 p vs _ h1.2 (k1.trans (Kp.ex (Ex.new np))) (W.ex (Ex.new np) d1) (k1.back (W.free d1 np) np) upd_same (t1.mono (Fk.ex (Ex.new np)))⟩⟩
/-- a new list is locked -/
def tLz (t : TE) : TE := fun σ H Q => t σ H fun v H1 => ∃ a xs, v = .ref a ∧ H1 a = some (.lst xs) ∧ ∀ o, Q (.ref a) (upd H1 a (.frz o (.lst xs)))
theorem pe_lz {t : TE} (h : PE X e t) : PE X e (tLz t) := by
  refine ⟨fun pins s σ H Q I hq => thn (h.run pins s σ H _ I hq) fun u s1 ⟨v, H1, I1, r, a, xs, ev, ha, q⟩ => ?_⟩
  subst ev
  obtain ⟨z, its, n, rv, ho⟩ := (show ObjOk X.prog X.w H1 s1.heap a (.lst xs) from I1.hok a _ ha)
  refine ⟨.ref a, upd H1 a (.frz { cls := .type "list", data := .seq its.toArray n } (.lst xs)), ?_, r, q _⟩
  exact I1.write (t' := s1.toks) (h' := s1.heap) (by rw [ha]; exact True.intro) (.inl rfl) (fun b u _ e => e) ⟨_, ho⟩ ⟨ho, z, its, n, rv, ho⟩
theorem lock_ex {H H1 : Hp} {M : Addr → Prop} {a : Addr} {o : HO} (k : Kp M H H1) (hn : H a = none) : Kp M H (upd H1 a o) := k.mut hn
theorem fk_lock {H : Hp} {a : Addr} {o : Obj} {xs : List V} (h : H a = some (.lst xs)) : Fk H (upd H a (.frz o (.lst xs))) := fun p o' u e => by
  rw [upd_ne (ne_of e h (by intro z; cases z))]
  exact e
theorem _root_.L2.PE.lk (h : PE X e (tL ms)) : PE X e (tE (mLk ms)) := (pe_lz h).weak fun σ H Q ⟨W, H0, E, b, R, S, hm, k⟩ =>
  ⟨W, H0, E, b, _, S, hm, fun ds b1 a xs H1 h1 k1 d1 na ha t1 => ⟨a, xs, rfl, ha, fun o => k _ b1 _ _ h1 (k1.mut na) (W.put (W.free S.dk na) d1) (.lst upd_same (t1.mono (fk_lock ha)))⟩⟩
theorem _root_.L2.PE.lq (h : PE X e (tL ms)) : PE X e (tQ (mLk ms)) := h.weak fun σ H Q ⟨W, H0, E, b, R, S, hm, k⟩ =>
  ⟨W, H0, E, b, _, S, hm, fun ds b1 a xs H1 h1 k1 d1 na ha t1 => k _ b1 _ _ h1 k1 d1 (.inr ⟨a, ds, rfl, rfl, W.free S.dk na, xs, ha, t1⟩)⟩
/-! ### list + list -/
def mCat (ma mb : WE) : WL := fun E b R => ma E b fun x b1 => mb E b1 fun y b2 => match x, y with
  | .list xs, .list ys => xs.length + ys.length ≤ 100000 ∧ R (xs ++ ys) b2
  | _, _ => False
def rCatD : R2 := fun x y H Q => ∃ (W : Wld) (ds es : List PyData), Dq W H x (.list ds) ∧ Dq W H y (.list es) ∧ ds.length + es.length ≤ 100000 ∧ ∀ a xs, H a = none → DtAll H xs (ds ++ es) → Q (.ref a) (upd H a (.lst xs))
theorem op_catD : OpR X (binaryOp .Add) rCatD := by
  intro pins s σ H x y v u Q I rx ry h
  obtain ⟨W, ds, es, h1, h2, few, q⟩ := h
  obtain ⟨a, xs, its, n, rfl, t1, r1, e1⟩ := h1.lobj I rx
  obtain ⟨b, ys, its2, n2, rfl, t2, r2, e2⟩ := h2.lobj I ry
  have l1 := r1.length
  have l2 := r2.length
  have l3 := t1.length
  have l4 := t2.length
  have sz := sz_of few
  refine PySem.P.add_list e1 e2 ?_ (by rw [List.size_toArray, List.size_toArray]; omega)
  have ea : its.toArray ++ its2.toArray = (its ++ its2).toArray := by simp
  rw [ea]
  exact ⟨.ref _, _, I.lnew (t' := s.toks) (r1.append r2) (by rw [List.length_append]; omega), rfl, q _ _ I.fresh (t1.append t2)⟩
theorem pm_cat (ha : PE X a (tQ ma)) (hb : PE X b (tQ mb)) : PE X (.BinOp a .Add b pos) (tL (mCat ma mb)) := (pe_op op_catD ha hb).weak fun σ H Q ⟨W, H0, E, b, R, S, hm, k⟩ => by
  refine ⟨W, H0, E, b, _, S, hm, fun x b1 v H1 h1 k1 d1 t1 => ⟨W, H0, E, b1, _, S.step k1 d1, h1, fun y b2 u H2 h2 k2 d2 t2 => ?_⟩⟩
  cases x <;> first | exact h2.elim | skip
  cases y <;> first | exact h2.elim | skip
  refine ⟨W, _, _, t1.step d1 k2, t2, h2.1, fun a xs na hx => ?_⟩
  exact k _ b2 a xs _ h2.2 ((k1.trans k2).trans (Kp.ex (Ex.new na))) (W.ex (Ex.new na) d2) (k1.back (W.free d1 (k2.back (W.free d2 na) na)) (k2.back (W.free d2 na) na)) upd_same (hx.mono (Fk.ex (Ex.new na)))
/-! ### builtins over data -/
abbrev WB := List PyData → (PyData → Prop) → Prop
abbrev WBL := List PyData → (List PyData → Prop) → Prop
abbrev DqAll (W : Wld) (H : Hp) : List V → List PyData → Prop := Paired (Dq W H)
theorem DqAll.step {W : Wld} {H H1 : Hp} {n : Nat} (dk : W.Dk n H) (k : Kp W.M H H1) : ∀ {vs : List V} {ds : List PyData}, DqAll W H vs ds → DqAll W H1 vs ds
  | _, _, .nil => .nil
  | _, _, .cons a r => .cons (a.step dk k) (DqAll.step dk k r)
def tAq (m : WL) : TA := fun σ H Q => ∃ W H0 E b R, Sit W H0 σ H E b ∧ m E b R ∧ ∀ ds b' vs H', R ds b' → Kp W.M H H' → W.Dk b' H' → DqAll W H' vs ds → Q vs H'
theorem pm_qnil : PA X [] (tAq mNil) := pa_nil.weak fun σ H Q ⟨W, H0, E, b, R, S, hm, k⟩ => k [] b [] H hm Kp.refl S.dk .nil
theorem pm_qcons (ha : PE X e (tQ m)) (hr : PA X es (tAq ms)) (hs : starEach (e :: es) X.env = (false, eval e X.env) :: starEach es X.env := by rfl) : PA X (e :: es) (tAq (mCons m ms)) := (pa_cons ha hr hs).weak fun σ H Q ⟨W, H0, E, b, R, S, hm, k⟩ =>
  ⟨W, H0, E, b, _, S, hm, fun d b1 v H1 h1 k1 d1 t1 => ⟨W, H0, E, b1, _, S.step k1 d1, h1, fun ds b2 vs H2 h2 k2 d2 t2 => k _ b2 _ H2 h2 (k1.trans k2) d2 (.cons (t1.step d1 k2) t2)⟩⟩
def rC (w : WB) : List V → Hp → VK → Prop := fun vs H Q => ∃ (W : Wld) (ds : List PyData) (R : PyData → Prop), DqAll W H vs ds ∧ w ds R ∧ ∀ z v H', R z → Ex H H' → Dt H' v z → Q v H'
def rCL (w : WBL) : List V → Hp → VK → Prop := fun vs H Q => ∃ (W : Wld) (ds : List PyData) (R : List PyData → Prop), DqAll W H vs ds ∧ w ds R ∧ ∀ zs a xs H', R zs → Ex H H' → H a = none → H' a = some (.lst xs) → DtAll H' xs zs → Q (.ref a) H'
def mCB (w : WB) (ms : WL) : WE := fun E b R => ms E b fun ds b1 => w ds fun z => R z b1
def mCL (w : WBL) (ms : WL) : WL := fun E b R => ms E b fun ds b1 => w ds fun z => R z b1
theorem tCB_of {w : WB} {σ : L2.St} {H : Hp} {Q : VK} (h : tE (mCB w ms) σ H Q) : tCB (rC w) (tAq ms) σ H Q := by
  obtain ⟨W, H0, E, b, R, S, hm, k⟩ := h
  exact ⟨W, H0, E, b, _, S, hm, fun ds b1 vs H1 h1 k1 d1 t1 => ⟨W, ds, _, t1, h1, fun z v H2 hz e2 t2 => k z b1 v H2 hz (k1.trans (Kp.ex e2)) (W.ex e2 d1) t2⟩⟩
theorem tCL_of {w : WBL} {σ : L2.St} {H : Hp} {Q : VK} (h : tL (mCL w ms) σ H Q) : tCB (rCL w) (tAq ms) σ H Q := by
  obtain ⟨W, H0, E, b, R, S, hm, k⟩ := h
  exact ⟨W, H0, E, b, _, S, hm, fun ds b1 vs H1 h1 k1 d1 t1 => ⟨W, ds, _, t1, h1, fun zs a xs H2 hz e2 na ha t2 => k zs b1 a xs H2 hz (k1.trans (Kp.ex e2)) (W.ex e2 d1) (k1.back (W.free d1 na) na) ha t2⟩⟩
variable {x : Str} {p : Pos} {id T : String}
theorem pm_callB {w : WB} (hc : CallR X (.builtin id) (rC w)) (hg : Gl X x) (hm : X.mg x = none) (hv : bootBuiltins x = some (.builtin id)) (ha : PA X (e :: es) (tAq ms)) (hn : x ≠ "__name__" := by decide) (hdb : (x == ("__debug__" : Str)) = false := by decide)
    (he : starEach (e :: es) X.env = (false, eval e X.env) :: starEach es X.env := by rfl) (hpl : (backTo pos (starEach es X.env)).any (·.1) = false := by rfl) : PE X (.Call (.Name x p) (e :: es) [] pos) (tE (mCB w ms)) := (pe_callB hc hg hm hv ha hn hdb he hpl).weak fun _ _ _ => tCB_of
theorem pm_callTy {w : WB} (hc : CallR X (.type T) (rC w)) (hg : Gl X x) (hm : X.mg x = none) (hv : bootBuiltins x = some (.type T)) (ha : PA X (e :: es) (tAq ms)) (hn : x ≠ "__name__" := by decide) (hdb : (x == ("__debug__" : Str)) = false := by decide)
    (he : starEach (e :: es) X.env = (false, eval e X.env) :: starEach es X.env := by rfl) (hpl : (backTo pos (starEach es X.env)).any (·.1) = false := by rfl) : PE X (.Call (.Name x p) (e :: es) [] pos) (tE (mCB w ms)) := (pe_callTy hc hg hm hv ha hn hdb he hpl).weak fun _ _ _ => tCB_of
theorem pm_callBL {w : WBL} (hc : CallR X (.builtin id) (rCL w)) (hg : Gl X x) (hm : X.mg x = none) (hv : bootBuiltins x = some (.builtin id)) (ha : PA X (e :: es) (tAq ms)) (hn : x ≠ "__name__" := by decide) (hdb : (x == ("__debug__" : Str)) = false := by decide)
    (he : starEach (e :: es) X.env = (false, eval e X.env) :: starEach es X.env := by rfl) (hpl : (backTo pos (starEach es X.env)).any (·.1) = false := by rfl) : PE X (.Call (.Name x p) (e :: es) [] pos) (tL (mCL w ms)) := (pe_callB hc hg hm hv ha hn hdb he hpl).weak fun _ _ _ => tCL_of
theorem pm_callTyL {w : WBL} (hc : CallR X (.type T) (rCL w)) (hg : Gl X x) (hm : X.mg x = none) (hv : bootBuiltins x = some (.type T)) (ha : PA X (e :: es) (tAq ms)) (hn : x ≠ "__name__" := by decide) (hdb : (x == ("__debug__" : Str)) = false := by decide)
    (he : starEach (e :: es) X.env = (false, eval e X.env) :: starEach es X.env := by rfl) (hpl : (backTo pos (starEach es X.env)).any (·.1) = false := by rfl) : PE X (.Call (.Name x p) (e :: es) [] pos) (tL (mCL w ms)) := (pe_callTy hc hg hm hv ha hn hdb he hpl).weak fun _ _ _ => tCL_of
/-! len, abs, sum, min, max, all, any, tuple, list, int -/
def lenW : WB := fun ds R => match ds with
  | [.list xs] => R (.int xs.length)
  | [.tuple xs] => R (.int xs.length)
  | _ => False
def absW : WB := fun ds R => match ds with
  | [.int i] => R (.int (if i < 0 then -i else i))
  | _ => False
def sumW : WB := fun ds R => match ds with
  | [.list xs] => ∃ ns : List Int, xs = ns.map PyData.int ∧ R (.int ns.sum)
  | _ => False
def minW : WB := fun ds R => match ds with
  | [.int i, .int j] => R (.int (if j < i then j else i))
  | [.list xs] => ∃ ns : List Int, xs = ns.map PyData.int ∧ 0 < ns.length ∧ ∀ m, m ∈ ns → (∀ y ∈ ns, m ≤ y) → R (.int m)
  | _ => False
def maxW : WB := fun ds R => match ds with
  | [.int i, .int j] => R (.int (if j > i then j else i))
  | [.list xs] => ∃ ns : List Int, xs = ns.map PyData.int ∧ 0 < ns.length ∧ ∀ m, m ∈ ns → (∀ y ∈ ns, y ≤ m) → R (.int m)
  | _ => False
def allW : WB := fun ds R => match ds with
  | [.list xs] => ∃ bs : List Bool, xs = bs.map PyData.bool ∧ R (.bool (bs.all _root_.id))
  | _ => False
def anyW : WB := fun ds R => match ds with
  | [.list xs] => ∃ bs : List Bool, xs = bs.map PyData.bool ∧ R (.bool (bs.any _root_.id))
  | _ => False
def tupW : WB := fun ds R => match ds with
  | [.list xs] => R (.tuple xs)
  | [.tuple xs] => R (.tuple xs)
  | _ => False
def lstW : WBL := fun ds R => match ds with
  | [.list xs] => R xs
  | [.tuple xs] => R xs
  | _ => False
def intW : WB := fun ds R => match ds with
  | [.int i] => R (.int i)
  | [.bool c] => R (.int (if c then 1 else 0))
  | _ => False
theorem dq1 {W : Wld} {H : Hp} {vs : List V} {d : PyData} (h : DqAll W H vs [d]) : ∃ v, vs = [v] ∧ Dq W H v d := by
  cases h with
  | cons a r => cases r; exact ⟨_, rfl, a⟩
theorem dq2 {W : Wld} {H : Hp} {vs : List V} {d e : PyData} (h : DqAll W H vs [d, e]) : ∃ v u, vs = [v, u] ∧ Dq W H v d ∧ Dq W H u e := by
  cases h with
  | cons a r => cases r with | cons b r => cases r; exact ⟨_, _, rfl, a, b⟩
theorem DtAll.bools_inv {H : Hp} : ∀ {ns : List Bool} {xs : List V}, DtAll H xs (ns.map PyData.bool) → xs = ns.map V.bl
  | [], _, h => by cases h; rfl
  | n :: ns, _, h => by
    cases h with
    | cons a b => cases a; rw [List.map_cons, b.bools_inv]
theorem Dq.ints {W : Wld} {K : PySem.W.Frag} {H : Hp} {v : V} {ns : List Int} (h : Dq W H v (.list (ns.map PyData.int))) : ∃ a, v = .ref a ∧ SqL K H a (ns.map V.int) := by
  obtain ⟨a, xs, rfl, sq, al⟩ := h.seqL (K := K)
  rw [al.ints_inv] at sq
  exact ⟨a, rfl, sq⟩
theorem Dq.bools {W : Wld} {K : PySem.W.Frag} {H : Hp} {v : V} {ns : List Bool} (h : Dq W H v (.list (ns.map PyData.bool))) : ∃ a, v = .ref a ∧ SqL K H a (ns.map V.bl) := by
  obtain ⟨a, xs, rfl, sq, al⟩ := h.seqL (K := K)
  rw [al.bools_inv] at sq
  exact ⟨a, rfl, sq⟩
theorem cr_lenW : CallR X (.builtin "len") (rC lenW) := by
  intro pins s σ H vs us Q I r h
  obtain ⟨W, ds, R, h1, hw, k⟩ := h
  unfold lenW at hw
  split at hw
  · obtain ⟨v, rfl, t⟩ := dq1 h1
    obtain ⟨a, xs, rfl, sq, al⟩ := t.seqL (K := X.K)
    exact call_len_seq pins s σ H _ us Q I r ⟨a, xs, rfl, .inl sq, k _ _ H (by rw [al.length]; exact hw) (Ex.refl H) (.int _)⟩
  · obtain ⟨v, rfl, t⟩ := dq1 h1
    obtain ⟨a, o, xs, rfl, _, _, sq, al⟩ := t.seqT (K := X.K)
    exact call_len_seq pins s σ H _ us Q I r ⟨a, xs, rfl, .inr sq, k _ _ H (by rw [al.length]; exact hw) (Ex.refl H) (.int _)⟩
  · exact hw.elim
theorem cr_absW : CallR X (.builtin "abs") (rC absW) := by
  intro pins s σ H vs us Q I r h
  obtain ⟨W, ds, R, h1, hw, k⟩ := h
  unfold absW at hw
  split at hw
  · obtain ⟨v, rfl, t⟩ := dq1 h1
    obtain rfl := t.int
    exact call_abs pins s σ H _ us Q I r ⟨_, rfl, k _ _ H hw (Ex.refl H) (.int _)⟩
  · exact hw.elim
theorem cr_sumW (ho : XO X) : CallR X (.builtin "sum") (rC sumW) := by
  intro pins s σ H vs us Q I r h
  obtain ⟨W, ds, R, h1, hw, k⟩ := h
  unfold sumW at hw
  split at hw
  · obtain ⟨ns, rfl, hr⟩ := hw
    obtain ⟨v, rfl, t⟩ := dq1 h1
    obtain ⟨a, rfl, sq⟩ := t.ints (K := X.K)
    exact cr_sum ho.calm pins s σ H _ us Q I r ⟨a, ns, rfl, sq, k _ _ H hr (Ex.refl H) (.int _)⟩
  · exact hw.elim
theorem cr_minW (ho : XO X) : CallR X (.builtin "min") (rC minW) := by
  intro pins s σ H vs us Q I r h
  obtain ⟨W, ds, R, h1, hw, k⟩ := h
  unfold minW at hw
  split at hw
  · obtain ⟨v, u, rfl, t, t'⟩ := dq2 h1
    obtain rfl := t.int
    obtain rfl := t'.int
    exact call_min2 ho.calm pins s σ H _ us Q I r ⟨_, _, rfl, k _ _ H hw (Ex.refl H) (.int _)⟩
  · obtain ⟨ns, rfl, h0, hr⟩ := hw
    obtain ⟨v, rfl, t⟩ := dq1 h1
    obtain ⟨a, rfl, sq⟩ := t.ints (K := X.K)
    exact cr_min ho.calm pins s σ H _ us Q I r ⟨a, ns, rfl, sq, h0, fun m m1 m2 => k _ _ H (hr m m1 m2) (Ex.refl H) (.int _)⟩
  · exact hw.elim
theorem cr_maxW (ho : XO X) : CallR X (.builtin "max") (rC maxW) := by
  intro pins s σ H vs us Q I r h
  obtain ⟨W, ds, R, h1, hw, k⟩ := h
  unfold maxW at hw
  split at hw
  · obtain ⟨v, u, rfl, t, t'⟩ := dq2 h1
    obtain rfl := t.int
    obtain rfl := t'.int
    exact call_max2 ho.calm pins s σ H _ us Q I r ⟨_, _, rfl, k _ _ H hw (Ex.refl H) (.int _)⟩
  · obtain ⟨ns, rfl, h0, hr⟩ := hw
    obtain ⟨v, rfl, t⟩ := dq1 h1
    obtain ⟨a, rfl, sq⟩ := t.ints (K := X.K)
    exact cr_max ho.calm pins s σ H _ us Q I r ⟨a, ns, rfl, sq, h0, fun m m1 m2 => k _ _ H (hr m m1 m2) (Ex.refl H) (.int _)⟩
  · exact hw.elim
theorem cr_allW (ho : XO X) : CallR X (.builtin "all") (rC allW) := by
  intro pins s σ H vs us Q I r h
  obtain ⟨W, ds, R, h1, hw, k⟩ := h
  unfold allW at hw
  split at hw
  · obtain ⟨ns, rfl, hr⟩ := hw
    obtain ⟨v, rfl, t⟩ := dq1 h1
    obtain ⟨a, rfl, sq⟩ := t.bools (K := X.K)
    exact cr_all ho.calm pins s σ H _ us Q I r ⟨a, ns, rfl, sq, k _ _ H hr (Ex.refl H) (.bl _)⟩
  · exact hw.elim
theorem cr_anyW (ho : XO X) : CallR X (.builtin "any") (rC anyW) := by
  intro pins s σ H vs us Q I r h
  obtain ⟨W, ds, R, h1, hw, k⟩ := h
  unfold anyW at hw
  split at hw
  · obtain ⟨ns, rfl, hr⟩ := hw
    obtain ⟨v, rfl, t⟩ := dq1 h1
    obtain ⟨a, rfl, sq⟩ := t.bools (K := X.K)
    exact cr_any ho.calm pins s σ H _ us Q I r ⟨a, ns, rfl, sq, k _ _ H hr (Ex.refl H) (.bl _)⟩
  · exact hw.elim
theorem cr_intW : CallR X (.type "int") (rC intW) := by
  intro pins s σ H vs us Q I r h
  obtain ⟨W, ds, R, h1, hw, k⟩ := h
  unfold intW at hw
  split at hw
  · obtain ⟨v, rfl, t⟩ := dq1 h1
    obtain rfl := t.int
    exact call_int1 pins s σ H _ us Q I r (.inl ⟨_, rfl, k _ _ H hw (Ex.refl H) (.int _)⟩)
  · obtain ⟨v, rfl, t⟩ := dq1 h1
    obtain rfl := t.bool
    exact call_int1 pins s σ H _ us Q I r (.inr ⟨_, rfl, k _ _ H hw (Ex.refl H) (.int _)⟩)
  · exact hw.elim
theorem cr_lstW : CallR X (.type "list") (rCL lstW) := by
  intro pins s σ H vs us Q I r h
  obtain ⟨W, ds, R, h1, hw, k⟩ := h
  unfold lstW at hw
  split at hw
  · obtain ⟨v, rfl, t⟩ := dq1 h1
    obtain ⟨a, xs, rfl, sq, al⟩ := t.seqL (K := X.K)
    exact call_list_of pins s σ H _ us Q I r ⟨a, xs, rfl, .inl sq, fun l hl => k _ l xs _ hw (Ex.new hl) hl upd_same (al.mono (Fk.ex (Ex.new hl)))⟩
  · obtain ⟨v, rfl, t⟩ := dq1 h1
    obtain ⟨a, o, xs, rfl, _, _, sq, al⟩ := t.seqT (K := X.K)
    exact call_list_of pins s σ H _ us Q I r ⟨a, xs, rfl, .inr sq, fun l hl => k _ l xs _ hw (Ex.new hl) hl upd_same (al.mono (Fk.ex (Ex.new hl)))⟩
  · exact hw.elim
theorem cr_tupW : CallR X (.type "tuple") (rC tupW) := by
  intro pins s σ H vs us Q I r h
  obtain ⟨W, ds, R, h1, hw, k⟩ := h
  unfold tupW at hw
  split at hw
  · obtain ⟨v, rfl, t⟩ := dq1 h1
    obtain ⟨a, ys, rfl, sq, al⟩ := t.seqL (K := X.K)
    obtain ⟨_, rfl, rp⟩ := vals1 r
    cases rp
    obtain ⟨its, rv, pl, size⟩ := I.list sq
    have len := rv.length
    refine call_tuple_list pl.isList (fun h' kp => ?_) (by simp only [List.size_toArray]; omega)
    have I1 := I.kept (h' := h') (t' := s.toks) kp
    have nf : H h'.objs.size = none := I1.hok.fresh (Nat.le_refl _)
    have here : (h'.push { cls := .type "tuple", data := .seq its.toArray }).get? h'.objs.size = some { cls := .type "tuple", data := .seq its.toArray } := Heap.get?_push_size _ rfl
    exact ⟨.ref h'.objs.size, _, I1.laid (o := .frz { cls := .type "tuple", data := .seq its.toArray } (.tup ys)) (t' := s.toks) (fun b o e => Heap.get?_push_of_some _ e) (Nat.le_refl _) ⟨here, size, its, rv, ⟨_, here, rfl, _, rfl⟩⟩, rfl,
      k _ _ _ hw (Ex.new nf) (.tup upd_same rfl (al.mono (Fk.ex (Ex.new nf))))⟩
  · obtain ⟨v, rfl, t⟩ := dq1 h1
    obtain ⟨a, o, xs, rfl, ha, na, sq, al⟩ := t.seqT (K := X.K)
    exact call_tupleT pins s σ H _ us Q I r ⟨a, xs, rfl, sq, k _ _ H hw (Ex.refl H) (.tup ha na al)⟩
  · exact hw.elim
end
end Wp

namespace Wp
open PySem PySem.Spec PyProof.Rows L2 Evl
/-! ### values that a name takes -/
abbrev WV := Env → Nat → (Sl → Nat → Prop) → Prop
def Own (H : Hp) (v : V) (s : Sl) : Prop := isOwn s = true → ∃ a, v = .ref a ∧ H a = none
def tV (m : WV) : TE := fun σ H Q => ∃ W H0 E b R, Sit W H0 σ H E b ∧ m E b R ∧ ∀ s b' v H', R s b' → Kp W.M H H' → W.Dk b' H' → SlR W H0.h0 H' (some v) s → Own H v s → Q v H'
def vD (m : WE) : WV := fun E b R => m E b fun d b1 => R (.d d) b1
def vL (m : WL) : WV := fun E b R => m E b fun ds b1 => R (.l ds) b1
section
variable {W : Wld} {H H1 : Hp} {H0 : Bs} {σ : L2.St} {E : Env} {b b1 : Nat}
/-- an own thing of the env stands in the heap -/
theorem Sit.there (S : Sit W H0 σ H E b) {j : Nat} {t : Sl} (e : E[j]? = some t) (o : isOwn t = true) : ∃ a, σ[j]? = some (some (.ref a)) ∧ H a ≠ none := by
  obtain ⟨u, h1, h2⟩ := S.at_ j t e
  cases t <;> simp [isOwn] at o
  · obtain ⟨a, rfl, _, _, xs, h', _⟩ := h2; exact ⟨a, h1, by rw [h']; simp⟩
  · obtain ⟨a, rfl, _, _, xs, h', _⟩ := h2; exact ⟨a, h1, by rw [h']; simp⟩
  · obtain ⟨a, rfl, _, _, ob, h', _⟩ := h2; exact ⟨a, h1, by rw [h']; simp⟩
theorem Sit.setV {i : Nat} {v : V} {s : Sl} (S : Sit W H0 σ H E b) (h : SlR W H0.h0 H (some v) s) (ap : isOwn s = true → ∀ (j : Nat) (t : Sl), j ≠ i → E[j]? = some t → isOwn t = true → σ[j]? ≠ some (some v)) : Sit W H0 (σ.set i (some v)) H (E.set i s) b := by
  refine ⟨by simp [S.len], fun j t e => ?_, fun p q s1 t a' ne h1 o1 h2 o2 e => ?_, S.kp, S.dk, S.fk⟩
  · by_cases hj : i = j
    · subst hj
      have hl : i < E.length := by have := (List.getElem?_eq_some_iff.mp e).1; simpa using this
      rw [List.getElem?_set_self hl] at e
      cases e
      exact ⟨_, List.getElem?_set_self (by rw [S.len]; exact hl), h⟩
    · rw [List.getElem?_set_ne hj] at e
      obtain ⟨u, h1, h2⟩ := S.at_ j t e
      exact ⟨u, by rw [List.getElem?_set_ne hj]; exact h1, h2⟩
  · by_cases hp : i = p
    · subst hp
      have hl : i < E.length := by have := (List.getElem?_eq_some_iff.mp h1).1; simpa using this
      rw [List.getElem?_set_self (by rw [S.len]; exact hl)] at e
      rw [List.getElem?_set_self hl] at h1
      cases e
      cases h1
      rw [List.getElem?_set_ne ne] at h2 ⊢
      exact ap o1 q t (Ne.symm ne) h2 o2
    · rw [List.getElem?_set_ne hp] at h1 e
      by_cases hq : i = q
      · subst hq
        intro z
        have hl : i < E.length := by have := (List.getElem?_eq_some_iff.mp h2).1; simpa using this
        rw [List.getElem?_set_self (by rw [S.len]; exact hl)] at z
        rw [List.getElem?_set_self hl] at h2
        cases z
        cases h2
        exact ap o2 p s1 ne h1 o1 e
      · rw [List.getElem?_set_ne hq] at h2 ⊢
        exact S.apart p q s1 t a' ne h1 o1 h2 o2 e
end
section
variable {X : Cx} {e a b : Expr} {es : List Expr} {m ma mb : WE} {ms : WL} {pos : Pos}
theorem _root_.L2.PE.vd (h : PE X e (tE m)) : PE X e (tV (vD m)) := h.weak fun σ H Q ⟨W, H0, E, b, R, S, hm, k⟩ =>
  ⟨W, H0, E, b, _, S, hm, fun d b1 v H1 h1 k1 d1 t1 => k _ b1 v H1 h1 k1 d1 ⟨v, rfl, t1⟩ (fun o => by cases o)⟩
theorem _root_.L2.PE.vl (h : PE X e (tL ms)) : PE X e (tV (vL ms)) := h.weak fun σ H Q ⟨W, H0, E, b, R, S, hm, k⟩ =>
  ⟨W, H0, E, b, _, S, hm, fun ds b1 a xs H1 h1 k1 d1 na ha t1 => k _ b1 _ H1 h1 k1 d1 ⟨a, rfl, S.kp.back (W.free S.dk na) na, W.free S.dk na, xs, ha, t1⟩ (fun _ => ⟨a, rfl, na⟩)⟩
/-- {} -/
def vM0 : WV := fun _ b R => R (.m []) b
theorem pm_d0 : PE X (.Dict [] [] pos) (tV vM0) := pe_dnewK.weak fun σ H Q ⟨W, H0, E, b, R, S, hm, k⟩ p np =>
  k _ b _ _ hm (Kp.ex (Ex.new np)) (W.ex (Ex.new np) S.dk) ⟨p, rfl, S.kp.back (W.free S.dk np) np, W.free S.dk np, [], upd_same, .nil⟩ (fun _ => ⟨p, rfl, np⟩)
/-! ### statements -/
theorem _root_.L2.PS.weak {st : Stmt} {t t' : TS} (h : PS X st t) (k : ∀ D σ H, t' D σ H → t D σ H) : PS X st t' := ⟨fun pins s σ H D I q => h.run pins s σ H D I (k D σ H q)⟩
theorem _root_.L2.PSs.weak {st : List Stmt} {t t' : TS} (h : PSs X st t) (k : ∀ D σ H, t' D σ H → t D σ H) : PSs X st t' := ⟨fun pins s σ H D I q => h.run pins s σ H D I (k D σ H q)⟩
def mSkip : WS := fun E b F => F.nx E b
def mSeq (m n : WS) : WS := fun E b F => m E b { F with nx := fun E' b' => n E' b' F }
def mAsg (i : Nat) (m : WV) : WS := fun E b F => m E b fun s b1 => F.nx (E.set i s) b1
def mRet (m : WE) : WS := fun E b F => m E b F.rt
def mIfS (c : WT) (m n : WS) : WS := fun E b F => c E b fun c b1 => if c = true then m E b1 F else n E b1 F
def mDrop (m : WE) : WS := fun E b F => m E b fun _ b1 => F.nx E b1
theorem pm_skip : PSs X [] (tS xw mSkip) := pss_nil.weak fun D σ H ⟨W, H0, E, b, F, S, hm, k⟩ => k.nx σ H E b S hm
theorem pm_one1 {st : Stmt} {n : WS} (h : PS X st (tS xw n)) : PSs X [st] (tS xw n) := pss_one h
theorem pm_seq {st : Stmt} {rest : List Stmt} {m n : WS} (h1 : PS X st (tS xw m)) (h2 : PSs X rest (tS xw n)) : PSs X (st :: rest) (tS xw (mSeq m n)) := (pss_cons h1 h2).weak fun D σ H ⟨W, H0, E, b, F, S, hm, k⟩ =>
  ⟨W, H0, E, b, _, S, hm, ⟨fun σ' H' E' b' S' h' => ⟨W, H0, E', b', F, S', h', k⟩, k.bk, k.ct, k.rt, k.xx⟩⟩
theorem pm_ret (he : PE X e (tE m)) : PS X (.Return (some e) pos) (tS xw (mRet m)) := (ps_ret he).weak fun D σ H ⟨W, H0, E, b, F, S, hm, k⟩ =>
  ⟨W, H0, E, b, _, S, hm, fun d b1 v H1 h1 k1 d1 t1 => k.rt d b1 v H1 h1 (S.kp.trans k1) d1 t1⟩
theorem pm_retN : PS X (.Return none pos) (tS xw (mRet (mC .none))) := ps_retN.weak fun D σ H ⟨W, H0, E, b, F, S, hm, k⟩ => k.rt _ b _ H hm S.kp S.dk .non
theorem pm_if {c : Expr} {p q : List Stmt} {mc : WT} {m n : WS} (hc : PT X c (tT mc)) (ha : PSs X p (tS xw m)) (hb : PSs X q (tS xw n)) : PS X (.If c p q pos) (tS xw (mIfS mc m n)) := (ps_if hc ha hb).weak fun D σ H ⟨W, H0, E, b, F, S, hm, k⟩ => by
  refine ⟨W, H0, E, b, _, S, hm, fun c b1 H1 h1 k1 d1 => ?_⟩
  cases c with
  | true => exact ⟨W, H0, E, b1, F, S.step k1 d1, h1, k⟩
  | false => exact ⟨W, H0, E, b1, F, S.step k1 d1, h1, k⟩
theorem pm_drop (he : PE X e (tE m)) (hs : swapsWith e none pos.line X.env = pure false := by rfl) : PS X (.Expr e pos) (tS xw (mDrop m)) := (ps_expr he hs).weak fun D σ H ⟨W, H0, E, b, F, S, hm, k⟩ =>
  ⟨W, H0, E, b, _, S, hm, fun d b1 v H1 h1 k1 d1 t1 => k.nx σ H1 E b1 (S.step k1 d1) h1⟩
theorem apart_new {W : Wld} {H H1 : Hp} {H0 : Bs} {σ : L2.St} {E : Env} {b : Nat} {v : V} {s : Sl} {i : Nat} (S : Sit W H0 σ H E b) (o : Own H v s) : isOwn s = true → ∀ (j : Nat) (t : Sl), j ≠ i → E[j]? = some t → isOwn t = true → σ[j]? ≠ some (some v) := fun os j t _ e ot z => by
  obtain ⟨a, rfl, na⟩ := o os
  obtain ⟨a', h1, h2⟩ := S.there e ot
  rw [h1] at z
  cases z
  exact h2 na
theorem pm_asg {i : Nat} {x : Str} {n : WV} {pos' : Pos} (hN : X.N.Nodup) (hi : X.N[i]? = some x) (hx : Loc X.env.scope x) (he : PE X e (tV n)) (hs : swapsWith e (some (.Name x pos')) pos.line X.env = pure false := by rfl) (hf : X.fn x = true ∨ X.env.scope.names.lookup x = some .local := by first | exact .inl rfl | exact .inr rfl | assumption) :
    PS X (.Assign [.Name x pos'] e pos) (tS xw (mAsg i n)) := (ps_set hN hi hx he hs hf).weak fun D σ H ⟨W, H0, E, b, F, S, hm, k⟩ =>
  ⟨W, H0, E, b, _, S, hm, fun s b1 v H1 h1 k1 d1 t1 o => k.nx _ H1 _ b1 ((S.step k1 d1).setV t1 (apart_new (H1 := H1) S o)) h1⟩
/-! several values at once -/
abbrev WVs := Env → Nat → (List Sl → Nat → Prop) → Prop
inductive Vs (W : Wld) (H0 H H' : Hp) : List V → List Sl → Prop
  | nil : Vs W H0 H H' [] []
  | cons {v : V} {vs : List V} {s : Sl} {ss : List Sl} : SlR W H0 H' (some v) s → Own H v s → (isOwn s = true → ∀ (j : Nat) (t : Sl), ss[j]? = some t → isOwn t = true → vs[j]? ≠ some v) → Vs W H0 H H' vs ss → Vs W H0 H H' (v :: vs) (s :: ss)
def tVs (m : WVs) : TA := fun σ H Q => ∃ W H0 E b R, Sit W H0 σ H E b ∧ m E b R ∧ ∀ ss b' vs H', R ss b' → Kp W.M H H' → W.Dk b' H' → Vs W H0.h0 H H' vs ss → Q vs H'
def vNil : WVs := fun _ b R => R [] b
def vCons (m : WV) (ms : WVs) : WVs := fun E b R => m E b fun s b1 => ms E b1 fun ss b2 => R (s :: ss) b2
theorem pm_vnil : PA X [] (tVs vNil) := pa_nil.weak fun σ H Q ⟨W, H0, E, b, R, S, hm, k⟩ => k [] b [] H hm Kp.refl S.dk .nil
theorem Vs.back {W : Wld} {H0 H H1 H2 : Hp} {n : Nat} (dk : W.Dk n H1) (k : Kp W.M H H1) : ∀ {vs : List V} {ss : List Sl}, (∀ a, H a ≠ none → H1 a ≠ none) → Vs W H0 H1 H2 vs ss → Vs W H0 H H2 vs ss
  | _, _, _, .nil => .nil
  | _, _, hk, .cons a o n r => .cons a (fun os => by
      obtain ⟨p, e, z⟩ := o os
      exact ⟨p, e, Classical.byContradiction fun w => hk p w z⟩) n (Vs.back dk k hk r)
theorem kp_some {W : Wld} {H H1 : Hp} {n n1 : Nat} (d : W.Dk n H) (d1 : W.Dk n1 H1) (k : Kp W.M H H1) (a : Addr) (h : H a ≠ none) : H1 a ≠ none := by
  by_cases z : W.M a
  · obtain ⟨xs, e⟩ := W.lst z d1
    rw [e]; simp
  · cases e : H a with
    | none => exact absurd e h
    | some o => rw [k a o z e]; simp
theorem Vs.notin {W : Wld} {H0 H H' : Hp} {a : Addr} (h : H a ≠ none) : ∀ {vs : List V} {ss : List Sl}, Vs W H0 H H' vs ss → ∀ (j : Nat) (t : Sl), ss[j]? = some t → isOwn t = true → vs[j]? ≠ some (.ref a)
  | _, _, .nil, j, t, e, _ => by simp at e
  | _, _, .cons q o n r, 0, t, e, ot => by
    simp at e
    subst e
    obtain ⟨p, rfl, z⟩ := o ot
    simp
    intro w
    subst w
    exact h z
  | _, _, .cons q o n r, j + 1, t, e, ot => by
    simpa using Vs.notin h r j t (by simpa using e) ot
theorem pm_vcons {n : WV} {ns : WVs} (ha : PE X e (tV n)) (hr : PA X es (tVs ns)) (hs : starEach (e :: es) X.env = (false, eval e X.env) :: starEach es X.env := by rfl) : PA X (e :: es) (tVs (vCons n ns)) := (pa_cons ha hr hs).weak fun σ H Q ⟨W, H0, E, b, R, S, hm, k⟩ => by
  refine ⟨W, H0, E, b, _, S, hm, fun s b1 v H1 h1 k1 d1 t1 o1 => ⟨W, H0, E, b1, _, S.step k1 d1, h1, fun ss b2 vs H2 h2 k2 d2 t2 => k _ b2 _ H2 h2 (k1.trans k2) d2 ?_⟩⟩
  refine .cons (t1.step d1 k2) o1 (fun os => ?_) (t2.back d1 k1 (fun a => kp_some S.dk d1 k1 a))
  obtain ⟨a, rfl, na⟩ := o1 os
  have ha1 : H1 a ≠ none := by
    cases s <;> simp [isOwn] at os
    · obtain ⟨a', e', _, _, xs, h', _⟩ := t1; cases e'; rw [h']; simp
    · obtain ⟨a', e', _, _, xs, h', _⟩ := t1; cases e'; rw [h']; simp
    · obtain ⟨a', e', _, _, ob, h', _⟩ := t1; cases e'; rw [h']; simp
  exact t2.notin ha1
end
end Wp

namespace Wp
open PySem PySem.Spec PyProof.Rows L2 Evl
def stAll : List Nat → List V → L2.St → L2.St
  | i :: is, v :: vs, σ => stAll is vs (σ.set i (some v))
  | _, _, σ => σ
def enAll : List Nat → List Sl → Env → Env
  | i :: is, s :: ss, E => enAll is ss (E.set i s)
  | _, _, E => E
theorem Sit.setAll {W : Wld} {H0 : Bs} {H H' : Hp} {b : Nat} : ∀ {is : List Nat} {vs : List V} {ss : List Sl} {σ : L2.St} {E : Env}, Vs W H0.h0 H H' vs ss → is.length = vs.length → Sit W H0 σ H' E b →
    (∀ (j : Nat) (t : Sl) (a : Addr), E[j]? = some t → isOwn t = true → σ[j]? = some (some (.ref a)) → ∀ (k : Nat) (t' : Sl), ss[k]? = some t' → isOwn t' = true → vs[k]? ≠ some (.ref a)) → Sit W H0 (stAll is vs σ) H' (enAll is ss E) b
  | [], _, _, _, _, .nil, _, S, _ => S
  | [], _, _, _, _, .cons _ _ _ _, l, _, _ => by simp at l
  | _ :: _, _, _, _, _, .nil, l, _, _ => by simp at l
  | i :: is, v :: vs, s :: ss, σ, E, .cons h o n r, l, S, ap => by
    have refOf : isOwn s = true → ∃ a, v = .ref a := fun os => by obtain ⟨a, e, _⟩ := o os; exact ⟨a, e⟩
    have S1 : Sit W H0 (σ.set i (some v)) H' (E.set i s) b := S.setV h fun os j t nj e ot z => by
      obtain ⟨a, rfl⟩ := refOf os
      exact ap j t a e ot z 0 s rfl os rfl
    refine Sit.setAll (is := is) r (by simpa using l) S1 fun j t a e ot hz k t' ek ot' => ?_
    by_cases hj : i = j
    · subst hj
      have hl : i < E.length := by have := (List.getElem?_eq_some_iff.mp e).1; simpa using this
      rw [List.getElem?_set_self hl] at e
      rw [List.getElem?_set_self (by rw [S.len]; exact hl)] at hz
      cases e
      cases hz
      exact n ot k t' ek ot'
    · rw [List.getElem?_set_ne hj] at e hz
      have := ap j t a e ot hz (k + 1) t' (by simpa using ek) ot'
      simpa using this
theorem Sit.parAll {W : Wld} {H0 : Bs} {H H' : Hp} {b b' : Nat} {is : List Nat} {vs : List V} {ss : List Sl} {σ : L2.St} {E : Env} (S : Sit W H0 σ H E b) (k : Kp W.M H H') (d : W.Dk b' H') (h : Vs W H0.h0 H H' vs ss) (l : is.length = vs.length) : Sit W H0 (stAll is vs σ) H' (enAll is ss E) b' :=
  Sit.setAll h l (S.step k d) fun j t a e ot hz k t' ek ot' => by
    obtain ⟨a', h1, h2⟩ := S.there e ot
    rw [hz] at h1
    cases h1
    exact h.notin h2 k t' ek ot'
theorem Vs.length {W : Wld} {H0 H H' : Hp} : ∀ {vs : List V} {ss : List Sl}, Vs W H0 H H' vs ss → vs.length = ss.length
  | _, _, .nil => rfl
  | _, _, .cons _ _ _ r => by simp [r.length]
/-- a, b, .. = x, y, .. -/
def mPar (is : List Nat) (ms : WVs) : WS := fun E b F => ms E b fun ss b1 => ss.length = is.length ∧ F.nx (enAll is ss E) b1
section
variable {X : Cx} {e a b : Expr} {es : List Expr} {m ma mb : WE} {ms : WVs} {pos : Pos}
theorem pm_par2 {i j : Nat} {x y : Str} {px py pt : Pos} {kt k2 pt2} (hc : X.calm = true) (hN : X.N.Nodup) (hi : X.N[i]? = some x) (hj : X.N[j]? = some y) (hij : i ≠ j)
    (hx : X.env.scope.names.lookup x = some .local) (hy : X.env.scope.names.lookup y = some .local) (ha : PA X [a, b] (tVs ms))
    (hw : swappedStores [.Tuple [.Name x px, .Name y py] kt pt] (.Tuple [a, b] k2 pt2) X.env = pure (some [x, y]))
    (hs : swapsWithSole [.Tuple [.Name x px, .Name y py] kt pt] (.Tuple [a, b] k2 pt2) pos.line X.env = pure false := by rfl) :
    PS X (.Assign [.Tuple [.Name x px, .Name y py] kt pt] (.Tuple [a, b] k2 pt2) pos) (tS xw (mPar [i, j] ms)) := (ps_par hc hN hi hj hij hx hy ha hw hs).weak fun D σ H ⟨W, H0, E, b, F, S, hm, k⟩ => by
  refine ⟨W, H0, E, b, _, S, hm, fun ss b1 vs H1 h1 k1 d1 t1 => ?_⟩
  have l := t1.length
  rw [h1.1] at l
  match vs, l with
  | [v, w], _ => exact ⟨v, w, rfl, k.nx _ H1 _ b1 (S.parAll (is := [i, j]) k1 d1 t1 rfl) h1.2⟩
/-- .. by way of a tuple: names in a row -/
def gAll : List Nat → TGs
  | [] => gNil
  | i :: is => gCons (gName i) (gAll is)
theorem gAll_of {H : Hp} {Q : L2.St → Hp → Prop} : ∀ {is : List Nat} {vs : List V} {σ : L2.St}, is.length = vs.length → Q (stAll is vs σ) H → gAll is vs σ H Q
  | [], [], _, _, q => ⟨rfl, q⟩
  | [], _ :: _, _, l, _ => by simp at l
  | _ :: _, [], _, l, _ => by simp at l
  | i :: is, v :: vs, σ, l, q => ⟨v, vs, rfl, gAll_of (is := is) (by simpa using l) q⟩
theorem pm_parT {K : PySem.W.Frag} {is : List Nat} {tg : Expr} {k2 : Nat} {pt2 : Pos} (ha : PA X es (tVs ms)) (hg : PG X tg (gTup K is.length (gAll is))) (few : is.length ≤ 100) (hs : swapsWithSole [tg] (.Tuple es k2 pt2) pos.line X.env = pure false := by rfl) (hw : swappedStores [tg] (.Tuple es k2 pt2) X.env = pure none := by rfl)
    (h1 : (assignEach [tg] X.env).map (·.2) = [assign tg X.env] := by rfl) : PS X (.Assign [tg] (.Tuple es k2 pt2) pos) (tS xw (mPar is ms)) := (ps_asg (pe_tup ha) hg hs hw h1).weak fun D σ H ⟨W, H0, E, b, F, S, hm, k⟩ => by
  refine ⟨W, H0, E, b, _, S, hm, fun ss b1 vs H1 h1 k1 d1 t1 => ?_⟩
  have l := t1.length
  rw [h1.1] at l
  refine ⟨by have := sz_of (n := vs.length) (by omega); exact this, fun p np => ?_⟩
  refine ⟨p, vs, rfl, .inl (.inl upd_same), l, gAll_of l.symm ?_⟩
  exact k.nx _ _ _ b1 ((S.parAll k1 d1 t1 l.symm).ex (Ex.new np)) h1.2
/-! targets -/
abbrev WG1 := PyData → Env → (Env → Prop) → Prop
abbrev WGs := List PyData → Env → (Env → Prop) → Prop
def bName (i : Nat) : WG1 := fun x E R => R (E.set i (.d x))
def bTup (n : Nat) (t : WGs) : WG1 := fun x E R => match x with
  | .tuple xs => xs.length = n ∧ t xs E R
  | _ => False
def bNil : WGs := fun xs E R => match xs with
  | [] => R E
  | _ => False
def bCons (t : WG1) (u : WGs) : WGs := fun xs E R => match xs with
  | x :: r => t x E fun E1 => u r E1 R
  | [] => False
def Sm (ws : List Nat) (σ σ' : L2.St) : Prop := σ'.length = σ.length ∧ ∀ j, j ∉ ws → σ'[j]? = σ[j]?
theorem Sm.refl {ws : List Nat} {σ : L2.St} : Sm ws σ σ := ⟨rfl, fun _ _ => rfl⟩
/-- what is bound: data, or a new tuple of data -/
def Bd (K : PySem.W.Frag) (H : Hp) (v : V) (x : PyData) : Prop := ∃ a vs xs, v = .ref a ∧ x = .tuple xs ∧ SqT K H a vs ∧ DtAll H vs xs
structure GB (B : Hp → V → PyData → Prop) (ws : List Nat) (g : TG) (t : WG1) : Prop where
  run : ∀ {W : Wld} {H0 : Bs} {H : Hp} {σ : L2.St} {E : Env} {b : Nat} {v : V} {x : PyData} {R : Env → Prop} {Q : L2.St → Hp → Prop}, Sit W H0 σ H E b → B H v x → t x E R → (∀ σ' E', R E' → Sm ws σ σ' → Sit W H0 σ' H E' b → Q σ' H) → g v σ H Q
structure GBs (ws : List Nat) (g : TGs) (t : WGs) : Prop where
  run : ∀ {W : Wld} {H0 : Bs} {H : Hp} {σ : L2.St} {E : Env} {b : Nat} {vs : List V} {xs : List PyData} {R : Env → Prop} {Q : L2.St → Hp → Prop}, Sit W H0 σ H E b → DtAll H vs xs → t xs E R → (∀ σ' E', R E' → Sm ws σ σ' → Sit W H0 σ' H E' b → Q σ' H) → g vs σ H Q
theorem gb_name {i : Nat} : GB Dt [i] (gName i) (bName i) := ⟨fun S t h k => k _ _ h ⟨by simp, fun j hj => List.getElem?_set_ne (fun z => hj (by simp [z]))⟩ (S.setD t)⟩
theorem gb_nil : GBs [] gNil bNil := by
  refine ⟨fun {W H0 H σ E b vs xs R Q} S t h k => ?_⟩
  cases t with
  | nil => exact ⟨rfl, k _ _ h Sm.refl S⟩
  | cons _ _ => exact h.elim
theorem gb_cons {w1 w2 : List Nat} {g : TG} {gs : TGs} {t : WG1} {u : WGs} (h1 : GB Dt w1 g t) (h2 : GBs w2 gs u) : GBs (w1 ++ w2) (gCons g gs) (bCons t u) := by
  refine ⟨fun {W H0 H σ E b vs xs R Q} S a h k => ?_⟩
  cases a with
  | nil => exact h.elim
  | cons a r =>
    refine ⟨_, _, rfl, h1.run S a h fun σ1 E1 hr s1 S1 => h2.run S1 r hr fun σ2 E2 hr2 s2 S2 => k σ2 E2 hr2 ⟨s2.1.trans s1.1, fun j hj => ?_⟩ S2⟩
    have hj' : j ∉ w1 ∧ j ∉ w2 := by simpa using hj
    rw [s2.2 j hj'.2, s1.2 j hj'.1]
theorem gt_tup {K : PySem.W.Frag} {ws : List Nat} {n : Nat} {gs : TGs} {u : WGs} (h : GBs ws gs u) : GB (Bd K) ws (gTup K n gs) (bTup n u) := by
  refine ⟨fun {W H0 H σ E b v x R Q} S a hb k => ?_⟩
  obtain ⟨p, vs, xs, rfl, rfl, sq, al⟩ := a
  exact ⟨p, vs, rfl, sq, by rw [al.length]; exact hb.1, h.run S al hb.2 k⟩
theorem gb_tup {K : PySem.W.Frag} {ws : List Nat} {n : Nat} {gs : TGs} {u : WGs} (h : GBs ws gs u) : GB Dt ws (gTup K n gs) (bTup n u) := by
  refine ⟨fun {W H0 H σ E b v x R Q} S a hb k => ?_⟩
  unfold bTup at hb
  split at hb
  · obtain ⟨p, o, xs, rfl, ha, _, al⟩ := a.tup_inv
    exact ⟨p, xs, rfl, .inl (.inr ⟨o, ha⟩), by rw [al.length]; exact hb.1, h.run S al hb.2 k⟩
  · exact hb.elim
/-- a, b = e, e data -/
def mUnp (t : WG1) (m : WE) : WS := fun E b F => m E b fun d b1 => t d E fun E1 => F.nx E1 b1
theorem pm_unp {tg : Expr} {g : TG} {t : WG1} {ws : List Nat} (he : PE X e (tE m)) (hg : PG X tg g) (hb : GB Dt ws g t) (hs : swapsWithSole [tg] e pos.line X.env = pure false := by rfl) (hw : swappedStores [tg] e X.env = pure none := by rfl)
    (h1 : (assignEach [tg] X.env).map (·.2) = [assign tg X.env] := by rfl) : PS X (.Assign [tg] e pos) (tS xw (mUnp t m)) := (ps_asg he hg hs hw h1).weak fun D σ H ⟨W, H0, E, b, F, S, hm, k⟩ =>
  ⟨W, H0, E, b, _, S, hm, fun d b1 v H1 h1 k1 d1 t1 => hb.run (S.step k1 d1) t1 h1 fun σ' E' hr _ S' => k.nx σ' H1 E' b1 S' hr⟩
/-! ### loops -/
def mTurns (t : WG1) (m : WS) : List PyData → WS
  | [] => fun E b F => F.nx E b
  | x :: xs => fun E b F => t x E fun E1 => m E1 b { F with nx := fun E2 b2 => mTurns t m xs E2 b2 F, ct := fun E2 b2 => mTurns t m xs E2 b2 F, bk := F.nx }
def itemsOf : PyData → Option (List PyData)
  | .list xs => some xs
  | .tuple xs => some xs
  | _ => none
/-- for t in e -/
def mFor (t : WG1) (me : WE) (m : WS) : WS := fun E b F => me E b fun d b1 => match d with
  | .list xs => mTurns t m xs E b1 F
  | .tuple xs => mTurns t m xs E b1 F
  | _ => False
theorem turns_for {J : It} {n : Nat} {G : Hp → Prop} {Y : Nat → Hp → V → Hp → Prop} (w : Walk J n G Y) {W : Wld} {H0 : Bs} {H : Hp} {σ : L2.St} {E : Env} {b : Nat} {F : WEnds} {D : Ends} {g : TG} {t : WG1} {m : WS} {xs : List PyData} {B : Hp → V → PyData → Prop} {ws : List Nat} (gb : GB B ws g t) (S : Sit W H0 σ H E b) (k : Acc xw W H0 F D)
    (hn : xs.length = n) (hG : ∀ H', Fk H H' → G H') (hm : mTurns t m xs E b F) (hY : ∀ i H1 v H2, Fk H H1 → Y i H1 v H2 → Ex H1 H2 ∧ ∃ x, xs[i]? = some x ∧ B H2 v x) :
    ∃ P : Nat → Nat → L2.St → Hp → Prop, (∃ c, P 0 c σ H) ∧ ∀ i c σ H, P i c σ H → (J.stop i H ∧ D.nx σ H) ∨ (J.go i H ∧ ∃ N : L2.St → Hp → Prop, (∀ σ' H', N σ' H' → ∃ c', c' < c ∧ P (i + 1) c' σ' H') ∧ ∀ x H', J.yld i H x H' → g x σ H' fun σ2 H2 => tS xw m { D with nx := N, ct := N, bk := D.nx } σ2 H2) := by
  have wk : ∀ {σ' H' E' b'}, Sit W ⟨H0.h0, H⟩ σ' H' E' b' → Sit W H0 σ' H' E' b' := fun S' => ⟨S'.len, S'.at_, S'.apart, S'.kp, S'.dk, S.fk.trans S'.fk⟩
  refine for_it w (fun i σ' H' => ∃ E' b', Sit W ⟨H0.h0, H⟩ σ' H' E' b' ∧ mTurns t m (xs.drop i) E' b' F) ⟨E, b, ⟨S.len, S.at_, S.apart, S.kp, S.dk, fun _ _ _ h => h⟩, by simpa using hm⟩ (fun i σ' H' _ ⟨E', b', S', _⟩ => hG H' S'.fk) ?_ ?_
  · rintro i v σ' H1 H2 hi ⟨E', b', S', hm'⟩ hy
    obtain ⟨e12, x, hx, tx⟩ := hY i H1 v H2 S'.fk hy
    have hd : xs.drop i = x :: xs.drop (i + 1) := by
      obtain ⟨hl, e⟩ := List.getElem?_eq_some_iff.mp hx
      rw [List.drop_eq_getElem_cons hl, e]
    rw [hd] at hm'
    refine gb.run (S'.ex e12) tx hm' fun σ2 E2 h2 _ S2 => ?_
    exact ⟨W, ⟨H0.h0, H⟩, E2, b', _, S2, h2, ⟨fun σ3 H3 E3 b3 S3 h3 => ⟨E3, b3, S3, h3⟩, fun σ3 H3 E3 b3 S3 h3 => k.nx σ3 H3 E3 b3 (wk S3) h3, fun σ3 H3 E3 b3 S3 h3 => ⟨E3, b3, S3, h3⟩, k.rt, fun c d v σ3 H3 E3 b3 h3 S3 t3 => k.xx c d v σ3 H3 E3 b3 h3 (wk S3) t3⟩⟩
  · rintro σ' H' ⟨E', b', S', hm'⟩
    rw [← hn, List.drop_length] at hm'
    exact k.nx σ' H' E' b' (wk S') hm'
/-- a walk over a list or a tuple, whichever it is -/
def iSq (K : PySem.W.Frag) (tl : TE) : TI := fun σ H R => tl σ H fun x H1 => ∃ a, x = .ref a ∧ ((∃ xs, SqL K H1 a xs ∧ R (Itl K a) H1) ∨ ∃ xs, SqT K H1 a xs ∧ R (Itt K a) H1)
theorem pi_sq {tg l : Expr} {tl : TE} {K : PySem.W.Frag} (hK : X.K = K) (hl : PE X l tl) : PI X tg l (iSq K tl) := by
  subst hK
  refine ⟨fun pins s σ H R I h => thn (hl.run pins s σ H _ I h) fun v s1 ⟨x, H1, I1, r1, a, ex, q1⟩ => ?_⟩
  subst ex
  cases r1
  have nf := I1.hok.fresh (Nat.le_refl s1.heap.objs.size)
  have fin : ∀ c ∈ [s1.heap.objs.size], FpOk X pins H1 c := fun c hc => by rw [List.mem_singleton.mp hc]; exact I1.fpOk (Nat.le_refl _) nf
  rcases q1 with ⟨xs, hq, q⟩ | ⟨xs, hq, q⟩
  · obtain ⟨its, _, pl, _⟩ := I1.list hq
    exact wpAny_pyIter_list pl.isList ⟨_, [s1.heap.objs.size], _, _, H1, rfl, I1.kept (t' := s1.toks) (fun _ _ z => Heap.get?_push_of_some _ z), turn_list a _, ⟨_, Heap.get?_push_size _ rfl, rfl, rfl⟩, fin, q⟩
  · obtain ⟨its, _, pl, _⟩ := I1.tuple hq
    exact wpAny_pyIter_tuple pl ⟨_, [s1.heap.objs.size], _, _, H1, rfl, I1.kept (t' := s1.toks) (fun _ _ z => Heap.get?_push_of_some _ z), turn_tuple a _, ⟨_, Heap.get?_push_size _ rfl, rfl, rfl⟩, fin, q⟩
theorem pm_for {ws : List Nat} {K : PySem.W.Frag} {tg iter : Expr} {body : List Stmt} {g : TG} {t : WG1} {m : WS} {me : WE} (hK : X.K = K) (hp : PassesOwn (model X.prog X.w) X.A X.env X.xe) (hc : X.calm = true) (hi : PE X iter (tE me)) (hg : PG X tg g) (gb : GB Dt ws g t) (hb : PSs X body (tS xw m)) (hs : ∀ x, foldedSetIterable iter X.env x = pure x := by intro _; rfl) : PS X (.For tg iter body [] pos) (tS xw (mFor t me m)) :=
  (ps_for hp hc (pi_sq hK hi) hg hb hs).weak fun D σ H ⟨W, H0, E, b, F, S, hm, k⟩ => by
    refine ⟨W, H0, E, b, _, S, hm, fun d b1 v H1 h1 k1 d1 t1 => ?_⟩
    have S1 := S.step k1 d1
    cases d <;> first | exact h1.elim | skip
    · obtain ⟨a, o, xs, rfl, ha, al⟩ := t1.lst_inv
      refine ⟨a, rfl, .inl ⟨xs, .inl (.inr ⟨o, ha⟩), ?_⟩⟩
      refine turns_for (walk_list (K := K) (a := a) (xs := xs)) gb S1 k al.length.symm (fun H' f => .inl (.inr ⟨o, f _ _ _ ha⟩)) h1 ?_
      rintro i H2 x _ f ⟨rfl, hx⟩
      obtain ⟨dd, h2, h3⟩ := al.get hx
      exact ⟨Ex.refl _, dd, h2, h3.mono f⟩
    · obtain ⟨a, o, xs, rfl, ha, _, al⟩ := t1.tup_inv
      refine ⟨a, rfl, .inr ⟨xs, .inl (.inr ⟨o, ha⟩), ?_⟩⟩
      refine turns_for (walk_tup (K := K) (a := a) (xs := xs)) gb S1 k al.length.symm (fun H' f => .inl (.inr ⟨o, f _ _ _ ha⟩)) h1 ?_
      rintro i H2 x _ f ⟨rfl, hx⟩
      obtain ⟨dd, h2, h3⟩ := al.get hx
      exact ⟨Ex.refl _, dd, h2, h3.mono f⟩
/-- for t in range(n) -/
def rngD (lo : Int) (n : Nat) : List PyData := (List.range n).map fun i : Nat => PyData.int (lo + (i : Int))
def mForR (t : WG1) (ms : WL) (m : WS) : WS := fun E b F => ms E b fun ds b1 => match ds with
  | [.int j] => (-(2 ^ 62) ≤ j ∧ j < 2 ^ 62) ∧ mTurns t m (rngD 0 j.toNat) E b1 F
  | _ => False
def mForR2 (t : WG1) (ms : WL) (m : WS) : WS := fun E b F => ms E b fun ds b1 => match ds with
  | [.int i, .int j] => (-(2 ^ 62) ≤ i ∧ i < 2 ^ 62 ∧ -(2 ^ 62) ≤ j ∧ j < 2 ^ 62) ∧ mTurns t m (rngD i (j - i).toNat) E b1 F
  | _ => False
theorem rngD_get {lo : Int} {n i : Nat} (h : i < n) : (rngD lo n)[i]? = some (.int (lo + (i : Int))) := by simp [rngD, h]
theorem rngD_len {lo : Int} {n : Nat} : (rngD lo n).length = n := by simp [rngD]
theorem turns_rng {ws : List Nat} {W : Wld} {H0 : Bs} {H : Hp} {σ : L2.St} {E : Env} {b : Nat} {F : WEnds} {D : Ends} {g : TG} {t : WG1} {m : WS} {lo : Int} {n : Nat} (gb : GB Dt ws g t) (S : Sit W H0 σ H E b) (k : Acc xw W H0 F D) (hm : mTurns t m (rngD lo n) E b F) :
    ∃ P : Nat → Nat → L2.St → Hp → Prop, (∃ c, P 0 c σ H) ∧ ∀ i c σ H, P i c σ H → ((Itr lo n).stop i H ∧ D.nx σ H) ∨ ((Itr lo n).go i H ∧ ∃ N : L2.St → Hp → Prop, (∀ σ' H', N σ' H' → ∃ c', c' < c ∧ P (i + 1) c' σ' H') ∧ ∀ x H', (Itr lo n).yld i H x H' → g x σ H' fun σ2 H2 => tS xw m { D with nx := N, ct := N, bk := D.nx } σ2 H2) := by
  have w : Walk (Itr lo n) n (fun _ => True) (fun i H x H' => i < n ∧ H' = H ∧ x = .int (lo + i)) := ⟨fun _ _ hi _ => hi, fun _ _ => Nat.le_refl _, fun i _ _ _ hi _ y => ⟨hi, y⟩⟩
  refine turns_for w gb S k rngD_len (fun _ _ => trivial) hm ?_
  rintro i H1 x H2 _ ⟨hi, rfl, rfl⟩
  exact ⟨Ex.refl _, _, rngD_get hi, .int _⟩
theorem pm_forR {ws : List Nat} {tg e1 : Expr} {p pos' : Pos} {body : List Stmt} {g : TG} {t : WG1} {m : WS} {me : WL} (hp : PassesOwn (model X.prog X.w) X.A X.env X.xe) (hc : X.calm = true) (hgl : Gl X "range") (hm0 : X.mg "range" = none) (ha : PA X [e1] (tA me)) (hg : PG X tg g) (gb : GB Dt ws g t) (hb : PSs X body (tS xw m))
    (hs1 : starEach [e1] X.env = [(false, eval e1 X.env)] := by rfl) (hs : ∀ x, foldedSetIterable (.Call (.Name "range" p) [e1] [] pos') X.env x = pure x := by intro _; rfl) : PS X (.For tg (.Call (.Name "range" p) [e1] [] pos') body [] pos) (tS xw (mForR t me m)) :=
  (ps_for hp hc (pi_range1 hgl hm0 ha hs1) hg hb hs).weak fun D σ H ⟨W, H0, E, b, F, S, hm, k⟩ => by
    refine ⟨W, H0, E, b, _, S, hm, fun ds b1 vs H1 h1 k1 d1 t1 => ?_⟩
    have S1 := S.step k1 d1
    match ds, h1, t1 with
    | [.int j], h1, .cons (.int _) .nil => exact ⟨j, rfl, h1.1.1, h1.1.2, turns_rng gb S1 k h1.2⟩
theorem pm_forR2 {ws : List Nat} {tg e1 e2 : Expr} {p pos' : Pos} {body : List Stmt} {g : TG} {t : WG1} {m : WS} {me : WL} (hp : PassesOwn (model X.prog X.w) X.A X.env X.xe) (hc : X.calm = true) (hgl : Gl X "range") (hm0 : X.mg "range" = none) (ha : PA X [e1, e2] (tA me)) (hg : PG X tg g) (gb : GB Dt ws g t) (hb : PSs X body (tS xw m))
    (hi : ∀ (ta : TA), PA X [e1, e2] ta → PI X tg (.Call (.Name "range" p) [e1, e2] [] pos') (iRng2 ta)) (hs : ∀ x, foldedSetIterable (.Call (.Name "range" p) [e1, e2] [] pos') X.env x = pure x := by intro _; rfl) : PS X (.For tg (.Call (.Name "range" p) [e1, e2] [] pos') body [] pos) (tS xw (mForR2 t me m)) :=
  (ps_for hp hc (hi _ ha) hg hb hs).weak fun D σ H ⟨W, H0, E, b, F, S, hm, k⟩ => by
    refine ⟨W, H0, E, b, _, S, hm, fun ds b1 vs H1 h1 k1 d1 t1 => ?_⟩
    have S1 := S.step k1 d1
    match ds, h1, t1 with
    | [.int i, .int j], h1, .cons (.int _) (.cons (.int _) .nil) => exact ⟨i, j, rfl, h1.1, turns_rng gb S1 k h1.2⟩
/-! ### append -/
def mApp (i : Nat) (m : WE) : WS := fun E b F => match E[i]? with
  | some (.l ds) => m E b fun d b1 => ds.length < 100000 ∧ F.nx (E.set i (.l (ds ++ [d]))) b1
  | _ => False
theorem Sit.put0 {W : Wld} {H0 : Bs} {H : Hp} {σ : L2.St} {E : Env} {b i : Nat} {a : Addr} {s s' : Sl} {o o' : HO} (S : Sit W H0 σ H E b) (hE : E[i]? = some s) (os : isOwn s = true) (hσ : σ[i]? = some (some (.ref a))) (h0 : H0.h0 a = none) (nM : ¬ W.M a) (ha : H a = some o) (nf : ∀ q u, o ≠ .frz q u)
    (h : SlR W H0.h0 (upd H a o') (some (.ref a)) s') : Sit W H0 σ (upd H a o') (E.set i s') b := by
  have fk : Fk H (upd H a o') := fun p q u e => by
    rw [upd_ne (fun z => by subst z; rw [ha] at e; cases e; exact nf _ _ rfl)]
    exact e
  have hl : i < E.length := (List.getElem?_eq_some_iff.mp hE).1
  refine ⟨by simp [S.len], fun j t e => ?_, fun p q s1 t a' ne h1 o1 h2 o2 e => ?_, S.kp.mut h0, W.put nM S.dk, S.fk.trans fk⟩
  · by_cases hj : i = j
    · subst hj
      rw [List.getElem?_set_self hl] at e
      cases e
      exact ⟨_, hσ, h⟩
    · rw [List.getElem?_set_ne hj] at e
      obtain ⟨u, h1, h2⟩ := S.at_ j t e
      refine ⟨u, h1, ?_⟩
      have nea : ∀ a', u = some (.ref a') → isOwn t = true → a' ≠ a := fun a' eu ot z => by
        subst z
        exact S.apart i j s t a' hj hE os e ot hσ (by rw [h1, eu])
      have neb : ∀ a', H0.h0 a' ≠ none → a' ≠ a := fun a' z w => z (by rw [w]; exact h0)
      have nec : ∀ (a' : Addr) (p : HO), H a' = some p → (∀ xs, p ≠ .lst xs) → (∀ xs, p ≠ .dK xs) → (∀ g, p ≠ .ext g) → a' ≠ a := fun a' p hp n1 n2 n3 z => by
        subst z
        obtain ⟨u', g1, g2⟩ := S.at_ i s hE
        rw [hσ] at g1
        cases g1
        cases s with
        | l x => obtain ⟨_, e1, _, _, xs, hx, _⟩ := g2; cases e1; rw [hp] at hx; cases hx; exact n1 _ rfl
        | m x => obtain ⟨_, e1, _, _, xs, hx, _⟩ := g2; cases e1; rw [hp] at hx; cases hx; exact n2 _ rfl
        | n x => obtain ⟨_, e1, _, _, ob, hx, _⟩ := g2; cases e1; rw [hp] at hx; cases hx; exact n3 _ rfl
        | _ => cases os
      cases t with
      | no => trivial
      | d x => obtain ⟨v, e1, t1⟩ := h2; exact ⟨v, e1, t1.mono fk⟩
      | l x => obtain ⟨v, rfl, e2, nm, xs, hx, t1⟩ := h2; exact ⟨v, rfl, e2, nm, xs, by rw [upd_ne (nea v rfl rfl)]; exact hx, t1.mono fk⟩
      | m x => obtain ⟨v, rfl, e2, nm, xs, hx, t1⟩ := h2; exact ⟨v, rfl, e2, nm, xs, by rw [upd_ne (nea v rfl rfl)]; exact hx, t1.mono fk⟩
      | n x => obtain ⟨v, rfl, e2, nm, ob, hx, r1, xs, es, ep, r2, r3, r4, r5, t1⟩ := h2; exact ⟨v, rfl, e2, nm, ob, by rw [upd_ne (nea v rfl rfl)]; exact hx, r1, xs, es, ep, r2, r3, r4, r5, Paired.mapP t1 fun x p r => r.mono fk⟩
      | rl x => obtain ⟨v, rfl, e2, nm, xs, hx, t1⟩ := h2; exact ⟨v, rfl, e2, nm, xs, by rw [upd_ne (neb v e2)]; exact hx, t1.mono fk⟩
      | rm x => obtain ⟨v, rfl, e2, nm, xs, hx, t1⟩ := h2; exact ⟨v, rfl, e2, nm, xs, by rw [upd_ne (neb v e2)]; exact hx, t1.mono fk⟩
      | rn x => obtain ⟨v, rfl, e2, nm, ob, hx, r1, xs, es, ep, r2, r3, r4, r5, t1⟩ := h2; exact ⟨v, rfl, e2, nm, ob, by rw [upd_ne (neb v e2)]; exact hx, r1, xs, es, ep, r2, r3, r4, r5, Paired.mapP t1 fun x p r => r.mono fk⟩
      | s _ => exact h2
      | x a' dd f y c => obtain ⟨e1, nm, v, hx, t1⟩ := h2; exact ⟨e1, nm, v, by rw [upd_ne (nec dd _ hx (by intro _ z; cases z) (by intro _ z; cases z) (by intro _ z; cases z))]; exact hx, t1.mono fk⟩
      | o C fs => obtain ⟨v, e1, nm, dx, vs, hx, t1⟩ := h2; exact ⟨v, e1, nm, dx, vs, by rw [upd_ne (nec v _ hx (by intro _ z; cases z) (by intro _ z; cases z) (by intro _ z; cases z))]; exact hx, Paired.mapP t1 fun x p r => ⟨r.1, r.2.mono fk⟩⟩
      | r a' => exact h2
  · have q1 : ∃ s0, E[p]? = some s0 ∧ isOwn s0 = true := by
      by_cases hp : i = p
      · subst hp; exact ⟨s, hE, os⟩
      · rw [List.getElem?_set_ne hp] at h1; exact ⟨s1, h1, o1⟩
    have q2 : ∃ s0, E[q]? = some s0 ∧ isOwn s0 = true := by
      by_cases hp : i = q
      · subst hp; exact ⟨s, hE, os⟩
      · rw [List.getElem?_set_ne hp] at h2; exact ⟨t, h2, o2⟩
    obtain ⟨s2, e2, k2⟩ := q1
    obtain ⟨s3, e3, k3⟩ := q2
    exact S.apart p q s2 s3 a' ne e2 k2 e3 k3 e
theorem Sit.put {W : Wld} {H0 : Bs} {H : Hp} {σ : L2.St} {E : Env} {b i : Nat} {a : Addr} {s s' : Sl} {o o' : HO} (S : Sit W H0 σ H E b) (hE : E[i]? = some s) (os : isOwn s = true) (os' : isOwn s' = true) (hσ : σ[i]? = some (some (.ref a))) (h0 : H0.h0 a = none) (nM : ¬ W.M a) (ha : H a = some o) (nf : ∀ q u, o ≠ .frz q u)
    (h : SlR W H0.h0 (upd H a o') (some (.ref a)) s') : Sit W H0 σ (upd H a o') (E.set i s') b := S.put0 hE os hσ h0 nM ha nf h
theorem mApp_some {i : Nat} {E : Env} {b : Nat} {F : WEnds} (h : mApp i m E b F) : ∃ ds, E[i]? = some (.l ds) ∧ m E b fun d b1 => ds.length < 100000 ∧ F.nx (E.set i (.l (ds ++ [d]))) b1 := by
  unfold mApp at h
  split at h
  · exact ⟨_, by assumption, h⟩
  · exact h.elim
/-- what a list of one's own was ahead -/
theorem Sit.ownL {W : Wld} {H0 : Bs} {H : Hp} {σ : L2.St} {E : Env} {b i : Nat} {ds : List PyData} (S : Sit W H0 σ H E b) (h : E[i]? = some (.l ds)) : ∃ a xs, σ[i]? = some (some (.ref a)) ∧ H0.h0 a = none ∧ ¬ W.M a ∧ H a = some (.lst xs) ∧ DtAll H xs ds := by
  obtain ⟨v, h1, a, rfl, h2, h3, xs, h4, h5⟩ := S.at_ i _ h
  exact ⟨a, xs, h1, h2, h3, h4, h5⟩
theorem fk_put {H : Hp} {a : Addr} {xs : List V} {o : HO} (h : H a = some (.lst xs)) : Fk H (upd H a o) := fun p q u e => by
  rw [upd_ne (ne_of e h (by intro z; cases z))]
  exact e
theorem pm_app {K : PySem.W.Frag} {i : Nat} {c : Expr} (h : PE X c (tBM K "list" rAppend (tVar i) (tCons (tE m) tNil))) (hs : swapsWith c none pos.line X.env = pure false := by rfl) : PS X (.Expr c pos) (tS xw (mApp i m)) :=
  (ps_expr h hs).weak fun D σ H ⟨W, H0, E, b, F, S, hm, k⟩ => by
    obtain ⟨ds, hE, hm⟩ := mApp_some hm
    obtain ⟨a, xs, hσ, h0, nM, ha, al⟩ := S.ownL hE
    refine ⟨_, hσ, .inl ⟨rfl, xs, .inl (.inl ha)⟩, W, H0, E, b, _, S, hm, fun d b1 v H1 h1 k1 d1 t1 => ?_⟩
    have ha1 := k1 a _ nM ha
    have al1 := al.mono (W.fk S.dk k1)
    refine ⟨a, xs, v, rfl, rfl, ha1, sz_lt (by rw [al.length]; exact h1.1), ?_⟩
    have S1 := S.step k1 d1
    exact k.nx _ _ _ b1 (S1.put (s' := .l (ds ++ [d])) hE rfl rfl hσ h0 nM ha1 (fun q u z => by cases z) ⟨a, rfl, h0, nM, xs ++ [v], upd_same, ((al1.append (.cons t1 .nil)).mono (fk_put ha1))⟩) h1.2
end
end Wp

namespace Wp
open PySem PySem.Spec PyProof.Rows L2 Evl
/-! ### comprehensions -/
def wipeE (E : Env) : List Nat → Env
  | [] => E
  | v :: vs => (wipeE E vs).set v .no
def mYes : WT := fun _ b R => R true b
def mComp (t : WG1) (mt : WT) (ml : WE) (E : Env) : List PyData → List PyData → Nat → (List PyData → Nat → Prop) → Prop
  | [], acc, b, R => R acc b
  | x :: xs, acc, b, R => t x E fun E1 => mt E1 b fun c b1 => if c = true then ml E1 b1 fun y b2 => acc.length < 100000 ∧ mComp t mt ml E xs (acc ++ [y]) b2 R else mComp t mt ml E xs acc b1 R
/-- [ml for t in me if mt] -/
def mLc (t : WG1) (me : WE) (mt : WT) (ml : WE) (vs : List Nat) : WL := fun E b R => me E b fun d b1 => match d with
  | .list xs => mComp t mt ml (wipeE E vs) xs [] b1 R
  | .tuple xs => mComp t mt ml (wipeE E vs) xs [] b1 R
  | _ => False
def mLcR (t : WG1) (ms : WL) (mt : WT) (ml : WE) (vs : List Nat) : WL := fun E b R => ms E b fun ds b1 => match ds with
  | [.int j] => (-(2 ^ 62) ≤ j ∧ j < 2 ^ 62) ∧ mComp t mt ml (wipeE E vs) (rngD 0 j.toNat) [] b1 R
  | _ => False
def mLcR2 (t : WG1) (ms : WL) (mt : WT) (ml : WE) (vs : List Nat) : WL := fun E b R => ms E b fun ds b1 => match ds with
  | [.int i, .int j] => (-(2 ^ 62) ≤ i ∧ i < 2 ^ 62 ∧ -(2 ^ 62) ≤ j ∧ j < 2 ^ 62) ∧ mComp t mt ml (wipeE E vs) (rngD i (j - i).toNat) [] b1 R
  | _ => False
def zipD : List PyData → List PyData → List PyData
  | x :: xs, y :: ys => .tuple [x, y] :: zipD xs ys
  | _, _ => []
def mLcZ (t : WG1) (ms : WL) (mt : WT) (ml : WE) (vs : List Nat) : WL := fun E b R => ms E b fun ds b1 => match ds with
  | [.list xs, .list ys] => mComp t mt ml (wipeE E vs) (zipD xs ys) [] b1 R
  | _ => False
section
variable {W : Wld} {H0 : Bs} {H H1 : Hp} {σ : L2.St} {E : Env} {b b1 : Nat}
theorem Sit.no {i : Nat} (S : Sit W H0 σ H E b) : Sit W H0 (σ.set i none) H (E.set i .no) b := by
  refine ⟨by simp [S.len], fun j t e => ?_, fun p q s1 t a' ne h1 o1 h2 o2 e => ?_, S.kp, S.dk, S.fk⟩
  · by_cases hj : i = j
    · subst hj
      have hl : i < E.length := by have := (List.getElem?_eq_some_iff.mp e).1; simpa using this
      rw [List.getElem?_set_self hl] at e
      cases e
      exact ⟨_, List.getElem?_set_self (by rw [S.len]; exact hl), trivial⟩
    · rw [List.getElem?_set_ne hj] at e
      obtain ⟨u, h1, h2⟩ := S.at_ j t e
      exact ⟨u, by rw [List.getElem?_set_ne hj]; exact h1, h2⟩
  · have np : i ≠ p := fun z => by
      subst z
      have hl : i < E.length := by have := (List.getElem?_eq_some_iff.mp h1).1; simpa using this
      rw [List.getElem?_set_self hl] at h1
      cases h1; cases o1
    have nq : i ≠ q := fun z => by
      subst z
      have hl : i < E.length := by have := (List.getElem?_eq_some_iff.mp h2).1; simpa using this
      rw [List.getElem?_set_self hl] at h2
      cases h2; cases o2
    rw [List.getElem?_set_ne np] at h1 e
    rw [List.getElem?_set_ne nq] at h2 ⊢
    exact S.apart p q s1 t a' ne h1 o1 h2 o2 e
theorem Sit.wipe (S : Sit W H0 σ H E b) : ∀ vs : List Nat, Sit W H0 (L2.wipe σ vs) H (wipeE E vs) b
  | [] => S
  | v :: vs => (Sit.wipe S vs).no
theorem wipe_in {σ : L2.St} {i : Nat} : ∀ {vs : List Nat}, i ∈ vs → i < σ.length → (L2.wipe σ vs)[i]? = some none
  | v :: vs, h, l => by
    show ((L2.wipe σ vs).set v none)[i]? = _
    by_cases e : v = i
    · subst e
      rw [List.getElem?_set_self (by rw [wipe_length]; exact l)]
    · rw [List.getElem?_set_ne e]
      rcases List.mem_cons.mp h with z | z
      · exact absurd z.symm e
      · exact wipe_in z l
theorem wipe_sm {ws vs : List Nat} {σ σ' : L2.St} (h : Sm ws (L2.wipe σ vs) σ') (hw : ∀ i ∈ ws, i ∈ vs) : L2.wipe σ' vs = L2.wipe σ vs := by
  have l : σ'.length = σ.length := h.1.trans (wipe_length σ vs)
  refine List.ext_getElem? fun j => ?_
  by_cases hj : j ∈ vs
  · by_cases hl : j < σ.length
    · rw [wipe_in hj (by omega), wipe_in hj hl]
    · rw [List.getElem?_eq_none (by rw [wipe_length]; omega), List.getElem?_eq_none (by rw [wipe_length]; omega)]
  · rw [wipe_out hj, h.2 j (fun z => hj (hw j z))]
/-- the turns of a comprehension -/
theorem comp_core {J : It} {n : Nat} {G : Hp → Prop} {Y : Nat → Hp → V → Hp → Prop} (w : Walk J n G Y) {g : TG} {t : WG1} {mt : WT} {ml : WE} {vs ws : List Nat} {xs : List PyData} {B : Hp → V → PyData → Prop} {R : List PyData → Nat → Prop} {Q : VK} (gb : GB B ws g t) (hw : ∀ i ∈ ws, i ∈ vs) (S : Sit W H0 σ H E b)
    (hn : xs.length = n) (hG : ∀ H', Fk H H' → Kp W.M H H' → G H') (hm : mComp t mt ml (wipeE E vs) xs [] b R) (hY : ∀ i H1 v H2, Fk H H1 → Y i H1 v H2 → Ex H1 H2 ∧ ∃ x, xs[i]? = some x ∧ B H2 v x)
    (q : ∀ ds b' a zs H', R ds b' → Kp W.M H H' → W.Dk b' H' → H a = none → H' a = some (.lst zs) → DtAll H' zs ds → Q (.ref a) H') :
    ∀ D, H D = none → ∃ P : Nat → Nat → Hp → Prop, (∃ m, P 0 m (upd H D (.lst []))) ∧ ∀ i m H', P i m H' →
      (J.stop i H' ∧ Q (.ref D) H') ∨ (J.go i H' ∧ ∃ Nx : Hp → Prop, (∀ H2, Nx H2 → ∃ m', m' < m ∧ P (i + 1) m' H2) ∧ ∀ x H2, J.yld i H' x H2 → g x (L2.wipe σ vs) H2 fun σ2 H2 => L2.wipe σ2 vs = L2.wipe σ vs ∧ tT mt σ2 H2 fun b H3 =>
        if b = true then tE ml σ2 H3 fun y H4 => ∃ acc, H4 D = some (.lst acc) ∧ acc.length < sizeLine ∧ Nx (upd H4 D (.lst (acc ++ [y]))) else Nx H3) := by
  intro D hD
  have nM : ¬ W.M D := W.free S.dk hD
  refine lc_it w (Qd := fun H' => Q (.ref D) H') (fun i H' => ∃ b' zs acc, Kp W.M H H' ∧ W.Dk b' H' ∧ H' D = some (.lst zs) ∧ DtAll H' zs acc ∧ mComp t mt ml (wipeE E vs) (xs.drop i) acc b' R)
    ⟨b, [], [], Kp.ex (Ex.new hD), W.ex (Ex.new hD) S.dk, upd_same, .nil, by simpa using hm⟩ (fun i H' _ ⟨b', zs, acc, k, _⟩ => hG H' (W.fk S.dk k) k) ?_ ?_
  · rintro i v H1 H2 hi ⟨b', zs, acc, k1, d1, h1, t1, hm'⟩ hy
    obtain ⟨e12, x, hx, bx⟩ := hY i H1 v H2 (W.fk S.dk k1) hy
    have hd : xs.drop i = x :: xs.drop (i + 1) := by
      obtain ⟨hl, e⟩ := List.getElem?_eq_some_iff.mp hx
      rw [List.drop_eq_getElem_cons hl, e]
    rw [hd] at hm'
    have k2 : Kp W.M H H2 := k1.trans (Kp.ex e12)
    have d2 : W.Dk b' H2 := W.ex e12 d1
    have S2 : Sit W H0 (L2.wipe σ vs) H2 (wipeE E vs) b' := (S.step k2 d2).wipe vs
    refine gb.run S2 bx hm' fun σ3 E3 h3 s3 S3 => ⟨wipe_sm s3 hw, W, H0, E3, b', _, S3, h3, fun c b4 H4 h4 k4 d4 => ?_⟩
    have S4 := S3.step k4 d4
    have k24 : Kp W.M H1 H4 := (Kp.ex e12).trans k4
    cases c with
    | false => exact ⟨b4, zs, acc, k2.trans k4, d4, k24 D _ nM h1, t1.mono (W.fk d1 k24), h4⟩
    | true =>
      refine ⟨W, H0, E3, b4, _, S4, h4, fun y b5 u H5 h5 k5 d5 t5 => ?_⟩
      have k25 := k24.trans k5
      have h5D := k25 D _ nM h1
      have t15 := t1.mono (W.fk d1 k25)
      refine ⟨zs, h5D, sz_lt (by rw [t1.length]; exact h5.1), b5, zs ++ [u], acc ++ [y], ((k2.trans k4).trans k5).mut hD, W.put nM d5, upd_same, ?_, h5.2⟩
      exact ((t15.append (.cons t5 .nil)).mono (fk_put h5D))
  · rintro H' ⟨b', zs, acc, k1, d1, h1, t1, hm'⟩
    rw [← hn, List.drop_length] at hm'
    exact q acc b' D zs H' hm' k1 d1 hD h1 t1
end
section
variable {X : Cx} {e a b : Expr} {es : List Expr} {m ma mb : WE} {ms : WL} {pos : Pos}
theorem _root_.L2.PTs.weak {ifs : List Expr} {t t' : TT} (h : PTs X ifs t) (k : ∀ σ H Q, t' σ H Q → t σ H Q) : PTs X ifs t' := ⟨fun pins s σ H Q I q => h.run pins s σ H Q I (k σ H Q q)⟩
theorem pm_yes : PTs X [] (tT mYes) := pts_nil.weak fun σ H Q ⟨W, H0, E, b, R, S, hm, k⟩ => k true b H hm Kp.refl S.dk
theorem lc_of {K : PySem.W.Frag} {g : TG} {t : WG1} {ws vs : List Nat} {me : WE} {mt : WT} {ml : WE} {σ : L2.St} {H : Hp} {Q : VK} (gb : GB Dt ws g t) (hw : ∀ i ∈ ws, i ∈ vs) (h : tL (mLc t me mt ml vs) σ H Q) : tLc (iSq K (tQ me)) g (tT mt) (tE ml) vs σ H Q := by
  obtain ⟨W, H0, E, b, R, S, hm, k⟩ := h
  refine ⟨W, H0, E, b, _, S, hm, fun d b1 v H1 h1 k1 d1 t1 => ?_⟩
  have S1 := S.step k1 d1
  have fin : ∀ ds b' a zs H', R ds b' → Kp W.M H1 H' → W.Dk b' H' → H1 a = none → H' a = some (.lst zs) → DtAll H' zs ds → Q (.ref a) H' := fun ds b' a zs H' r kp dk na ha ta => k ds b' a zs H' r (k1.trans kp) dk (k1.back (W.free d1 na) na) ha ta
  rcases t1 with t1 | ⟨a, ds, rfl, rfl, nM, xs, ha, al⟩
  · cases d <;> first | exact h1.elim | skip
    · obtain ⟨a, o, xs, rfl, ha, al⟩ := t1.lst_inv
      refine ⟨a, rfl, .inl ⟨xs, .inl (.inr ⟨o, ha⟩), ?_⟩⟩
      refine comp_core (walk_list (K := K) (a := a) (xs := xs)) gb hw S1 al.length.symm (fun H' f _ => .inl (.inr ⟨o, f _ _ _ ha⟩)) h1 ?_ fin
      rintro i H2 x _ f ⟨rfl, hx⟩
      obtain ⟨dd, h2, h3⟩ := al.get hx
      exact ⟨Ex.refl _, dd, h2, h3.mono f⟩
    · obtain ⟨a, o, xs, rfl, ha, _, al⟩ := t1.tup_inv
      refine ⟨a, rfl, .inr ⟨xs, .inl (.inr ⟨o, ha⟩), ?_⟩⟩
      refine comp_core (walk_tup (K := K) (a := a) (xs := xs)) gb hw S1 al.length.symm (fun H' f _ => .inl (.inr ⟨o, f _ _ _ ha⟩)) h1 ?_ fin
      rintro i H2 x _ f ⟨rfl, hx⟩
      obtain ⟨dd, h2, h3⟩ := al.get hx
      exact ⟨Ex.refl _, dd, h2, h3.mono f⟩
  · refine ⟨a, rfl, .inl ⟨xs, .inl (.inl ha), ?_⟩⟩
    refine comp_core (walk_list (K := K) (a := a) (xs := xs)) gb hw S1 al.length.symm (fun H' _ kp => .inl (.inl (kp a _ nM ha))) h1 ?_ fin
    rintro i H2 x _ f ⟨rfl, hx⟩
    obtain ⟨dd, h2, h3⟩ := al.get hx
    exact ⟨Ex.refl _, dd, h2, h3.mono f⟩
theorem lcR_of {g : TG} {t : WG1} {ws vs : List Nat} {me : WL} {mt : WT} {ml : WE} {σ : L2.St} {H : Hp} {Q : VK} (gb : GB Dt ws g t) (hw : ∀ i ∈ ws, i ∈ vs) (h : tL (mLcR t me mt ml vs) σ H Q) : tLc (iRng1 (tA me)) g (tT mt) (tE ml) vs σ H Q := by
  obtain ⟨W, H0, E, b, R, S, hm, k⟩ := h
  refine ⟨W, H0, E, b, _, S, hm, fun ds b1 vs' H1 h1 k1 d1 t1 => ?_⟩
  have S1 := S.step k1 d1
  match ds, h1, t1 with
  | [.int j], h1, .cons (.int _) .nil =>
    refine ⟨j, rfl, h1.1.1, h1.1.2, ?_⟩
    have w : Walk (Itr 0 j.toNat) j.toNat (fun _ => True) (fun i H x H' => i < j.toNat ∧ H' = H ∧ x = .int (0 + i)) := ⟨fun _ _ hi _ => hi, fun _ _ => Nat.le_refl _, fun i _ _ _ hi _ y => ⟨hi, y⟩⟩
    refine comp_core w gb hw S1 rngD_len (fun _ _ _ => trivial) h1.2 ?_ fun ds b' a zs H' r kp dk na ha ta => k ds b' a zs H' r (k1.trans kp) dk (k1.back (W.free d1 na) na) ha ta
    rintro i H1 x H2 _ ⟨hi, rfl, rfl⟩
    exact ⟨Ex.refl _, _, rngD_get hi, .int _⟩
theorem lcR2_of {g : TG} {t : WG1} {ws vs : List Nat} {me : WL} {mt : WT} {ml : WE} {σ : L2.St} {H : Hp} {Q : VK} (gb : GB Dt ws g t) (hw : ∀ i ∈ ws, i ∈ vs) (h : tL (mLcR2 t me mt ml vs) σ H Q) : tLc (iRng2 (tA me)) g (tT mt) (tE ml) vs σ H Q := by
  obtain ⟨W, H0, E, b, R, S, hm, k⟩ := h
  refine ⟨W, H0, E, b, _, S, hm, fun ds b1 vs' H1 h1 k1 d1 t1 => ?_⟩
  have S1 := S.step k1 d1
  match ds, h1, t1 with
  | [.int i, .int j], h1, .cons (.int _) (.cons (.int _) .nil) =>
    refine ⟨i, j, rfl, h1.1, ?_⟩
    have w : Walk (Itr i (j - i).toNat) (j - i).toNat (fun _ => True) (fun l H x H' => l < (j - i).toNat ∧ H' = H ∧ x = .int (i + l)) := ⟨fun _ _ hi _ => hi, fun _ _ => Nat.le_refl _, fun i _ _ _ hi _ y => ⟨hi, y⟩⟩
    refine comp_core w gb hw S1 rngD_len (fun _ _ _ => trivial) h1.2 ?_ fun ds b' a zs H' r kp dk na ha ta => k ds b' a zs H' r (k1.trans kp) dk (k1.back (W.free d1 na) na) ha ta
    rintro l H1 x H2 _ ⟨hi, rfl, rfl⟩
    exact ⟨Ex.refl _, _, rngD_get hi, .int _⟩
theorem zipD_get : ∀ {xs ys : List PyData} {i : Nat} {x y : PyData}, xs[i]? = some x → ys[i]? = some y → (zipD xs ys)[i]? = some (.tuple [x, y])
  | x :: xs, y :: ys, 0, _, _, h1, h2 => by simp at h1 h2; subst h1 h2; rfl
  | x :: xs, y :: ys, i + 1, _, _, h1, h2 => by simpa [zipD] using zipD_get (xs := xs) (ys := ys) (i := i) (by simpa using h1) (by simpa using h2)
  | [], _, _, _, _, h1, _ => by simp at h1
  | _ :: _, [], _, _, _, _, h2 => by simp at h2
theorem zipD_len : ∀ {xs ys : List PyData}, (zipD xs ys).length = min xs.length ys.length
  | [], _ => by simp [zipD]
  | _ :: _, [] => by simp [zipD]
  | x :: xs, y :: ys => by simp [zipD, zipD_len (xs := xs) (ys := ys)]
theorem lcZ_of {K : PySem.W.Frag} {g : TG} {t : WG1} {ws vs : List Nat} {me : WL} {mt : WT} {ml : WE} {σ : L2.St} {H : Hp} {Q : VK} (gb : GB (Bd K) ws g t) (hw : ∀ i ∈ ws, i ∈ vs) (h : tL (mLcZ t me mt ml vs) σ H Q) : tLc (iZip K (tAq me)) g (tT mt) (tE ml) vs σ H Q := by
  obtain ⟨W, H0, E, b, R, S, hm, k⟩ := h
  refine ⟨W, H0, E, b, _, S, hm, fun ds b1 vs' H1 h1 k1 d1 t1 => ?_⟩
  have S1 := S.step k1 d1
  split at h1
  · rename_i xs ys
    obtain ⟨v, u, rfl, q1, q2⟩ := dq2 t1
    obtain ⟨a1, us, rfl, s1, al1⟩ := q1.seqL (K := K)
    obtain ⟨a2, ws', rfl, s2, al2⟩ := q2.seqL (K := K)
    refine ⟨a1, a2, us, ws', rfl, s1, s2, ?_⟩
    have keep : ∀ {a : Addr} {zs : List V} {ds : List PyData}, Dq W H1 (.ref a) (.list ds) → SqL K H1 a zs → ∀ H', Kp W.M H1 H' → SqL K H' a zs := by
      intro a zs ds hq hs H' kp
      rcases hs with (hs | ⟨o, hs⟩) | hs
      · refine .inl (.inl (kp a _ ?_ hs))
        rcases hq with hq | ⟨a', ds', e1, e2, nM, _⟩
        · obtain ⟨a', o, xs, e1, h', _⟩ := hq.lst_inv
          cases e1
          rw [hs] at h'; cases h'
        · cases e1; exact nM
      · exact .inl (.inr ⟨o, W.fk d1 kp _ _ _ hs⟩)
      · exact .inr hs
    refine comp_core (walk_zip (K := K) (a := a1) (b := a2) (xs := us) (ys := ws') rfl) gb hw S1 (by rw [zipD_len, al1.length, al2.length]) (fun H' f kp => ⟨keep q1 s1 H' kp, keep q2 s2 H' kp⟩) h1 ?_ fun ds b' a zs H' r kp dk na ha ta => k ds b' a zs H' r (k1.trans kp) dk (k1.back (W.free d1 na) na) ha ta
    rintro i H2 x H3 f ⟨T, p, q, rfl, nT, rfl, hp, hq⟩
    obtain ⟨dp, e1, t1⟩ := al1.get hp
    obtain ⟨dq, e2, t2⟩ := al2.get hq
    have eN : Ex H2 (upd H2 T (.tup [p, q])) := Ex.new nT
    exact ⟨eN, _, zipD_get e1 e2, T, [p, q], [dp, dq], rfl, rfl, .inl (.inl upd_same), .cons ((t1.mono f).mono (Fk.ex eN)) (.cons ((t2.mono f).mono (Fk.ex eN)) .nil)⟩
  · exact h1.elim
/-- x = [..]: an own list, or one that is locked at once -/
theorem pm_setO {st : Stmt} {i : Nat} (h : PS X st (tAsg (tL ms) (gName i))) : PS X st (tS xw (mAsg i (vL ms))) := h.weak fun D σ H ⟨W, H0, E, b, F, S, hm, k⟩ =>
  ⟨W, H0, E, b, _, S, hm, fun ds b1 a xs H1 h1 k1 d1 na ha t1 => k.nx _ H1 _ b1 ((S.step k1 d1).setV (s := .l ds) ⟨a, rfl, S.kp.back (W.free S.dk na) na, W.free S.dk na, xs, ha, t1⟩ (apart_new (H1 := H1) S fun _ => ⟨a, rfl, na⟩)) h1⟩
theorem pm_setL {st : Stmt} {i : Nat} (h : PS X st (tAsg (tL ms) (gName i))) : PS X st (tS xw (mAsg i (vD (mLk ms)))) := by
  refine ⟨fun pins s σ H D I ⟨W, H0, E, b, F, S, hm, k⟩ => thn (h.run pins s σ H { D with nx := fun σ' H' => ∃ a xs, H' a = some (.lst xs) ∧ ∀ o, D.nx σ' (upd H' a (.frz o (.lst xs))) } I ?_) ?_⟩
  · refine ⟨W, H0, E, b, _, S, hm, fun ds b1 a xs H1 h1 k1 d1 na ha t1 => ⟨a, xs, ha, fun o => ?_⟩⟩
    have S1 : Sit W H0 σ (upd H1 a (.frz o (.lst xs))) E b1 := S.step (k1.mut na) (W.put (W.free S.dk na) d1)
    exact k.nx _ _ _ b1 (S1.setV (s := .d (.list ds)) ⟨_, rfl, .lst upd_same (t1.mono (fk_lock ha))⟩ (fun z => by cases z)) h1
  · rintro (_ | u | _ | _) s' z
    · obtain ⟨σ', H', I', a, xs, ha, q⟩ := z
      obtain ⟨sz, its, n, rv, ho⟩ := (show ObjOk X.prog X.w H' s'.heap a (.lst xs) from I'.hok a _ ha)
      exact ⟨σ', _, I'.write (t' := s'.toks) (h' := s'.heap) (o := .frz { cls := .type "list", data := .seq its.toArray n } (.lst xs)) (by rw [ha]; exact True.intro) (.inl rfl) (fun b u _ e => e) ⟨_, ho⟩ ⟨ho, sz, its, n, rv, ho⟩, q _⟩
    all_goals exact z
/-! ### calls of defs -/
def gNo : WG := fun _ b R => R [] b
def gE (m : WE) (ms : WG) : WG := fun E b R => m E b fun d b1 => ms E b1 fun ss b2 => R (.d d :: ss) b2
def gO (i : Nat) (ms : WG) : WG := fun E b R => match E[i]? with
  | some (.l ds) => ms E b fun ss b2 => R (.rl ds :: ss) b2
  | some (.rl ds) => ms E b fun ss b2 => R (.rl ds :: ss) b2
  | some (.m ds) => ms E b fun ss b2 => R (.rm ds :: ss) b2
  | some (.rm ds) => ms E b fun ss b2 => R (.rm ds :: ss) b2
  | some (.s k) => ms E b fun ss b2 => R (.s k :: ss) b2
  | _ => False
theorem ArR.step {W : Wld} {H H1 : Hp} {n : Nat} {v : V} {s : Sl} (dk : W.Dk n H) (k : Kp W.M H H1) (h : ArR W H v s) : ArR W H1 v s := by
  cases s with
  | d x => exact Dt.mono (W.fk dk k) h
  | rl x => obtain ⟨a, e, t⟩ := h; exact ⟨a, e, t.step dk k⟩
  | rm x => obtain ⟨a, e, t⟩ := h; exact ⟨a, e, t.step dk k⟩
  | rn x => obtain ⟨a, e, t⟩ := h; exact ⟨a, e, t.step dk k⟩
  | s _ => exact h
  | o C fs => obtain ⟨a, e, t⟩ := h; exact ⟨a, e, t.step dk k⟩
  | r a => exact h
  | _ => exact h.elim
theorem pm_gno : PA X [] (tG gNo) := pa_nil.weak fun σ H Q ⟨W, H0, E, b, R, S, hm, k⟩ => k [] b [] H hm Kp.refl S.dk .nil
theorem pm_ge {gs : WG} (ha : PE X e (tE m)) (hr : PA X es (tG gs)) (hs : starEach (e :: es) X.env = (false, eval e X.env) :: starEach es X.env := by rfl) : PA X (e :: es) (tG (gE m gs)) := (pa_cons ha hr hs).weak fun σ H Q ⟨W, H0, E, b, R, S, hm, k⟩ =>
  ⟨W, H0, E, b, _, S, hm, fun d b1 v H1 h1 k1 d1 t1 => ⟨W, H0, E, b1, _, S.step k1 d1, h1, fun ss b2 vs H2 h2 k2 d2 t2 => k _ b2 _ H2 h2 (k1.trans k2) d2 (.cons (ArR.step (s := .d d) d1 k2 t1) t2)⟩⟩
theorem pm_go {gs : WG} {i : Nat} (ha : PE X e (tVar i)) (hr : PA X es (tG gs)) (hs : starEach (e :: es) X.env = (false, eval e X.env) :: starEach es X.env := by rfl) : PA X (e :: es) (tG (gO i gs)) := (pa_cons ha hr hs).weak fun σ H Q ⟨W, H0, E, b, R, S, hm, k⟩ => by
  unfold gO at hm
  have fin : ∀ (v : V) (s : Sl), σ[i]? = some (some v) → ArR W H v s → (gs E b fun ss b2 => R (s :: ss) b2) → tCons (tVar i) (tG gs) σ H Q := fun v s hv ar hg =>
    ⟨v, hv, W, H0, E, b, _, S, hg, fun ss b2 vs H2 h2 k2 d2 t2 => k _ b2 _ H2 h2 k2 d2 (.cons (ar.step S.dk k2) t2)⟩
  split at hm
  · obtain ⟨v, h1, a, rfl, _, t⟩ := S.at_ i _ (by assumption); exact fin _ (.rl _) h1 ⟨a, rfl, t⟩ hm
  · obtain ⟨v, h1, a, rfl, _, t⟩ := S.at_ i _ (by assumption); exact fin _ (.rl _) h1 ⟨a, rfl, t⟩ hm
  · obtain ⟨v, h1, a, rfl, _, t⟩ := S.at_ i _ (by assumption); exact fin _ (.rm _) h1 ⟨a, rfl, t⟩ hm
  · obtain ⟨v, h1, a, rfl, _, t⟩ := S.at_ i _ (by assumption); exact fin _ (.rm _) h1 ⟨a, rfl, t⟩ hm
  · obtain ⟨v, h1, e1⟩ := S.at_ i _ (by assumption)
    obtain ⟨e1, e2⟩ := e1
    subst e1
    exact fin _ (.s _) h1 ⟨rfl, e2⟩ hm
  · exact hm.elim
def mCall (mf : WF) (ms : WG) : WE := fun E b R => ms E b fun ss b1 => mf ss b1 R
theorem pm_call {k : Nat} {f : Addr} {fd : FuncData} {ps : List Str} {mf : WF} {gs : WG} {x : Str} {p : Pos} (F : Cn.FnG X.prog X.w X.K X.mg X.base k f fd ps (spOf mf)) (gd : X.A.guards = some []) (room : Room k X.A) (gl : Gl X x) (hm : X.mg x = some (.ref f)) (kp : PySem.W.keepIn X.K (.ref f) = true) (bd : Binds X.K fd ps [])
    (ha : PA X (e :: es) (tG gs)) (hdb : (x == ("__debug__" : Str)) = false := by decide) (he : starEach (e :: es) X.env = (false, eval e X.env) :: starEach es X.env := by rfl) (hpl : (backTo pos (starEach es X.env)).any (·.1) = false := by rfl) :
    PE X (.Call (.Name x p) (e :: es) [] pos) (tE (mCall mf gs)) := (Cn.pe_callG F gd room gl hm kp bd ha hdb he hpl).weak fun σ H Q ⟨W, H0, E, b, R, S, hm, k⟩ =>
  ⟨W, H0, E, b, _, S, hm, fun ss b1 vs H1 h1 k1 d1 t1 => by
    show spOf mf (vs ++ []) H1 Q E0
    rw [List.append_nil]
    exact ⟨W, ss, b1, _, t1, d1, h1, fun d b' v H' r kp dk t => k d b' v H' r (k1.trans kp) dk t⟩⟩
/-! ### defs -/
def mFn (np n : Nat) (mb : WS) : WF := fun as b R => as.length = np ∧ mb (as ++ List.replicate (n - np) .no) b { nx := fun _ b' => R .none b', rt := R }
theorem start_sit {W : Wld} {H : Hp} {b : Nat} {N : List Str} {vs : List V} {as : List Sl} (h : ArsR W H vs as) (d : W.Dk b H) (l : as.length ≤ N.length) : Sit W ⟨H, H⟩ (L2.start N vs) H (as ++ List.replicate (N.length - as.length) .no) b := by
  have hl : vs.length = as.length := h.length
  have get : ∀ (i : Nat) (s : Sl), as[i]? = some s → ∃ v, vs[i]? = some v ∧ ArR W H v s := by
    intro i s
    clear hl l
    induction h generalizing i with
    | nil => intro e; simp at e
    | cons a r ih =>
      intro e
      cases i with
      | zero => simp at e; subst e; exact ⟨_, rfl, a⟩
      | succ i => simpa using ih i (by simpa using e)
  have own : ∀ (i : Nat) (s : Sl), as[i]? = some s → isOwn s = false := fun i s e => by
    obtain ⟨v, _, ar⟩ := get i s e
    cases s <;> first | rfl | exact ar.elim
  refine ⟨by simp [L2.start]; omega, fun i s e => ?_, fun i j s t a _ h1 o1 => ?_, Kp.refl, d, fun _ _ _ z => z⟩
  · by_cases hi : i < as.length
    · rw [List.getElem?_append_left hi] at e
      obtain ⟨v, hv, ar⟩ := get i s e
      refine ⟨some v, ?_, ?_⟩
      · unfold L2.start
        rw [List.getElem?_append_left (by simpa [hl] using hi), List.getElem?_map, hv]
        rfl
      · cases s with
        | d x => exact ⟨v, rfl, ar⟩
        | rl x => obtain ⟨a, rfl, nm, xs, h1, h2⟩ := ar; exact ⟨a, rfl, by show H a ≠ none; rw [h1]; simp, nm, xs, h1, h2⟩
        | rm x => obtain ⟨a, rfl, nm, xs, h1, h2⟩ := ar; exact ⟨a, rfl, by show H a ≠ none; rw [h1]; simp, nm, xs, h1, h2⟩
        | rn x => obtain ⟨a, rfl, nm, ob, h1, h2⟩ := ar; exact ⟨a, rfl, by show H a ≠ none; rw [h1]; simp, nm, ob, h1, h2⟩
        | s _ => exact ⟨congrArg some ar.1, ar.2⟩
        | o C fs => obtain ⟨a, rfl, t⟩ := ar; exact ⟨a, rfl, t⟩
        | r a => exact congrArg some ar
        | _ => exact ar.elim
    · have hi' : as.length ≤ i := by omega
      rw [List.getElem?_append_right hi', List.getElem?_replicate] at e
      split at e
      · cases e
        refine ⟨none, ?_, trivial⟩
        unfold L2.start
        rw [List.getElem?_append_right (by simp; omega), List.getElem?_replicate, if_pos (by simp; omega)]
      · cases e
  · exfalso
    by_cases hi : i < as.length
    · rw [List.getElem?_append_left hi] at h1
      rw [own i s h1] at o1
      cases o1
    · rw [List.getElem?_append_right (by omega), List.getElem?_replicate] at h1
      split at h1
      · cases h1; cases o1
      · cases h1
theorem fn_of {P : Program} {w : World} {K : PySem.W.Frag} {mg : Str → Option Value} {base : Heap} {x qual : Str} {st : Stmt} {f : Addr} {fd : FuncData} {N ps : List Str} {k : Nat} {mb : WS} (F : Fun K x qual st f fd) (S : FnScope N ps (defScope st)) (hps : ps.length ≤ N.length)
    (body : ∀ (cdv : Value) (A : Around) (out : List PySem.Env) (s : Shared) (H : Hp) (E : XK), A.guards = some [] → Room k (A.deeper (envOfC qual (defScope st) s.heap.objs.size f cdv)) → PSs (cxOf CX0 P w K mg base N qual (defScope st) f cdv A out s H E).nox (defBody st) (tS noX mb)) :
    Cn.FnG P w K mg base (k + 1) f fd ps (spOf (mFn ps.length N.length mb)) := by
  refine Cn.okG F S (fun vs H Q E h => ?_) (fun cdv A out s H vs Q E gd hr h => ⟨_, body cdv A out s H E gd hr, ?_⟩)
  · obtain ⟨W, as, b, R, ar, _, hm, _⟩ := h
    exact ar.length.trans hm.1
  · obtain ⟨W, as, b, R, ar, dk, ⟨hl, hm⟩, q⟩ := h
    have S := start_sit (N := N) ar dk (by rw [hl]; exact hps)
    rw [hl] at S
    exact ⟨W, ⟨H, H⟩, _, b, _, S, hm, ⟨fun σ' H' E' b' S' h' => q _ b' _ H' h' S'.kp S'.dk .non, fun _ _ _ _ _ z => z.elim, fun _ _ _ _ _ z => z.elim, fun d b' v H' r kp d' t => q d b' v H' r kp d' t, fun _ _ _ _ _ _ _ z => z.elim⟩⟩
end
end Wp

namespace Wp
open PySem PySem.Spec PyProof.Rows L2 Evl
/-! ### repr, str -/
def reprW : WB := fun ds R => match ds with
  | [d] => (d.showable = true ∧ d.shown.length ≤ 1000000 ∧ d.depth ≤ 50) ∧ R (.str d.shown)
  | _ => False
def strW : WB := fun ds R => match ds with
  | [.int i] => i.natAbs.log2 < 1920 ∧ R (.str (toString i))
  | [.bool c] => R (.str (if c then "True" else "False"))
  | _ => False
section
variable {X : Cx} {e a b : Expr} {es : List Expr} {m ma mb : WE} {ms : WL} {pos : Pos}
theorem cr_reprW (ho : XO X) : CallR X (.builtin "repr") (rC reprW) := by
  intro pins s σ H vs us Q I r h
  obtain ⟨W, ds, R, h1, hw, k⟩ := h
  unfold reprW at hw
  split at hw
  · rename_i d
    obtain ⟨v, rfl, t⟩ := dq1 h1
    obtain ⟨⟨s1, s2, s3⟩, hr⟩ := hw
    obtain ⟨u, rfl, ru⟩ := vals1 r
    obtain ⟨as, rd, na⟩ := t.reads I ru
    have na' := na (ho.free I)
    have hz : d.shown.length ≤ sizeLine := Nat.le_trans s2 (by decide)
    have un := ho.un
    have leaf : ∀ {h' : Heap} {t u : Nat}, (∀ b o, s.heap.get? b = some o → h'.get? b = some o) → EP X pins σ Q (.str d.shown u) { s with heap := h', toks := t } :=
      fun k' => ⟨.str _, H, I.kept k', ⟨_, rfl⟩, k _ _ H hr (Ex.refl H) (.str _)⟩
    have big : ∀ {a : Addr} (rd : Reads s.heap (.ref a) d as), wpAny (model X.prog X.w) X.A (call (.builtin "repr") [.ref a]) (EP X pins σ Q) X.xe s := fun rd =>
      repr_of_reads' rd s1 (fun _ => na') ho.gd (by omega) (fun _ _ e => e) (fun h' u tk k => leaf k) hz
    cases rd with
    | none => simp only [PyData.shown] at leaf; exact PySem.P.repr_of_none (leaf fun _ _ e => e)
    | bool b => simp only [PyData.shown] at leaf; exact PySem.P.repr_of_bool (leaf fun _ _ e => e)
    | int i t => simp only [PyData.shown] at leaf; exact PySem.P.repr_of_int (by simpa only [PyData.showable, decide_eq_true_eq] using s1) (leaf fun _ _ e => e)
    | str x t => simp only [PyData.shown] at leaf hz; exact PySem.P.repr_of_str (leaf fun _ _ e => e) hz
    | list a b c e => exact big (.list a b c e)
    | tuple a b c e => exact big (.tuple a b c e)
    | dict a b c e f => exact big (.dict a b c e f)
  · exact hw.elim
theorem cr_strW : CallR X (.type "str") (rC strW) := by
  intro pins s σ H vs us Q I r h
  obtain ⟨W, ds, R, h1, hw, k⟩ := h
  unfold strW at hw
  split at hw
  · obtain ⟨v, rfl, t⟩ := dq1 h1
    obtain rfl := t.int
    obtain ⟨u, rfl, t, rfl⟩ := vals1 r
    exact PySem.P.str_of_int hw.1 ⟨.str _, H, I.tok _, ⟨_, rfl⟩, k _ _ H hw.2 (Ex.refl H) (.str _)⟩
  · obtain ⟨v, rfl, t⟩ := dq1 h1
    obtain rfl := t.bool
    obtain ⟨u, rfl, ru⟩ := vals1 r
    cases ru
    exact PySem.P.str_of_bool ⟨.str _, H, I.tok _, ⟨_, rfl⟩, k _ _ H hw (Ex.refl H) (.str _)⟩
  · exact hw.elim
/-! ### isinstance -/
def tyD : PyData → String
  | .none => "NoneType"
  | .bool _ => "bool"
  | .int _ => "int"
  | .str _ => "str"
  | .list _ => "list"
  | .tuple _ => "tuple"
  | .dict _ => "dict"
def isI : PyData → Bool
  | .int _ => true
  | .bool _ => true
  | _ => false
def isB : PyData → Bool
  | .bool _ => true
  | _ => false
def isT : PyData → Bool
  | .tuple _ => true
  | _ => false
def isS : PyData → Bool
  | .str _ => true
  | _ => false
def isL : PyData → Bool
  | .list _ => true
  | _ => false
theorem kit_int (d : PyData) : kitB (tyD d) "int" = some (isI d) := by cases d <;> simp only [tyD, isI] <;> decide +kernel
theorem kit_bool (d : PyData) : kitB (tyD d) "bool" = some (isB d) := by cases d <;> simp only [tyD, isB] <;> decide +kernel
theorem kit_tuple (d : PyData) : kitB (tyD d) "tuple" = some (isT d) := by cases d <;> simp only [tyD, isT] <;> decide +kernel
theorem kit_str (d : PyData) : kitB (tyD d) "str" = some (isS d) := by cases d <;> simp only [tyD, isS] <;> decide +kernel
theorem kit_list (d : PyData) : kitB (tyD d) "list" = some (isL d) := by cases d <;> simp only [tyD, isL] <;> decide +kernel
theorem Dt.tyx {K : PySem.W.Frag} {H : Hp} {v : V} {d : PyData} (h : Dt H v d) : TyX K H v (.type (tyD d)) := by
  cases h with
  | non => exact .base .non
  | bl b => exact .base (.bl b)
  | int i => exact .base (.int i)
  | str x => exact .base (.str x)
  | tup h _ _ => exact .fTuple h
  | lst h _ => exact .base (.frz h)
  | dic h _ _ => exact .fDict h
def mIsi (f : PyData → Bool) (m : WE) : WE := fun E b R => m E b fun d b1 => R (.bool (f d)) b1
theorem pm_isi {p p2 : Pos} {T : Str} {c : String} {f : PyData → Bool} (hk : ∀ d, kitB (tyD d) c = some (f d)) (hg : Gl X "isinstance") (hm : X.mg "isinstance" = none) (he : PE X e (tE m)) (hc : PE X (.Name T p2) (tC (.ty c))) (hs1 : starEach [e, .Name T p2] X.env = (false, eval e X.env) :: starEach [.Name T p2] X.env := by rfl) (hs2 : starEach [.Name T p2] X.env = (false, eval (.Name T p2) X.env) :: starEach [] X.env := by rfl) (hpl : (backTo pos (starEach [.Name T p2] X.env)).any (·.1) = false := by rfl) :
    PE X (.Call (.Name "isinstance" p) [e, .Name T p2] [] pos) (tE (mIsi f m)) := (pe_callB (id := "isinstance") call_isi hg hm (by decide +kernel) (pa_cons he (pa_cons hc pa_nil hs2) hs1) (by decide) (by decide) hs1 hpl).weak fun σ H Q ⟨W, H0, E, b, R, S, hm, k⟩ =>
  ⟨W, H0, E, b, _, S, hm, fun d b1 v H1 h1 k1 d1 t1 => ⟨v, .ty c, .type (tyD d), .type c, f d, rfl, .ty c, t1.tyx, kit_ty (hk d), k _ b1 _ H1 h1 k1 d1 (.bl _)⟩⟩
/-! ### sorted -/
def srt (xs : List PyData) : List PyData := xs.mergeSort (PySem.W.dataLe false fun d => d)
def okSrt (xs : List PyData) : Prop := PySem.W.AllAlike xs ∧ PySem.W.Sortable xs ∧ (∀ d ∈ xs, d.depth ≤ 50) ∧ xs.length ≤ 100000
def sortW : WBL := fun ds R => match ds with
  | [.list xs] => okSrt xs ∧ R (srt xs)
  | [.tuple xs] => okSrt xs ∧ R (srt xs)
  | _ => False
end
section
variable {prog : Program} {w : World} {A : Around} {E : Value → Shared → Prop} {s : Shared}
theorem collect_tup {l : Addr} {vs : List Value} {Q : List Value → Shared → Prop} (hl : s.heap.IsTuple l vs.toArray)
    (h : Q vs { s with heap := (s.heap.push (seqObj "list" #[] 0)).update s.heap.objs.size (Obj.mapSeq (· ++ vs.toArray)) }) (hsz : vs.length ≤ sizeLine) : wpAny (model prog w) A (collect (.ref l)) Q E s := by
  obtain ⟨o, ho, hc, n, hd⟩ := hl
  unfold collect; refine wpAny_bind (wpAny_runValue (codeAny_builtin entry_proto_collect' ?_))
  show wpAny _ _ (do again (.builtin "list.__iadd__" ⟨[← newList [], .ref l], []⟩)) _ _ s; refine wpAny_bind (wpAny_newList (wpAny_pure ⟨Code.quiet_builtin _ (by decide +kernel), codeAny_builtin entry_list_iadd' ?_⟩))
  show wpAny _ _ (Builtin.List.listExtendWith (.ref s.heap.objs.size) (.ref l) (.ref s.heap.objs.size)) _ _ { s with heap := s.heap.push (seqObj "list" #[] 0) }; unfold Builtin.List.listExtendWith
  have ho2 : (s.heap.push (seqObj "list" #[] 0)).get? l = some o := Heap.get?_push_of_some _ ho
  refine wpAny_bind (wpAny_typeOf (T := "tuple") ⟨o, ho2, hc⟩ ?_); rw [if_pos (by simp)]
  refine wpAny_bind (listItems_at ho2 hd (wpAny_bind (listItems_at (xs := #[]) (n := 0) (Heap.get?_push_size _ rfl) rfl ?_))); rw [if_neg (by simp)]
  have room : (#[] ++ vs.toArray).size ≤ sizeLine + 1 := by simp only [Array.size_append, List.size_toArray, List.length_nil]; omega
  refine wpAny_bind (listUpdate_at (xs := #[]) (n := 0) (Heap.get?_push_size _ rfl) rfl (wpAny_pure ?_) (Nat.zero_le _) room)
  show wpAny (model prog w) A (do
      let q ← load s.heap.objs.size
      match q.data with
      | .seq zs _ => pure zs.toList
      | _ => unsupported "internal:collect") Q E { s with heap := (s.heap.push (seqObj "list" #[] 0)).update s.heap.objs.size (Obj.mapSeq (· ++ vs.toArray)) }
  refine wpAny_bind (wpAny_load (get?_update_seq (Heap.get?_push_size _ rfl) _) (show wpAny _ _ (pure ((#[] : Array Value) ++ vs.toArray).toList) Q E _ from ?_))
  have e : ((#[] : Array Value) ++ vs.toArray).toList = vs := by simp
  rw [e]; exact wpAny_pure h
open PySem.W in
theorem sorted_tup {κ : PyProof.Rows.KeyKind} {l : Addr} {vs : List Value} {Q : Value → Shared → Prop} (hl : s.heap.IsTuple l vs.toArray) (S : SortsAt prog w A.in1.in1 { s with heap := sortingHeap (copyHeap s.heap vs) (s.heap.objs.size + 1) vs } κ vs) (hL : vs.length ≤ sizeLine)
    (h : Q (.ref (s.heap.objs.size + 1)) { s with heap := sortedAll s.heap vs (sortVals κ false vs vs).toArray }) : wpAny (model prog w) A (call (.builtin "sorted") [.ref l]) Q E s := by
  refine call_function_entry_kw kind_sorted plain_sorted entry_sorted (args_sorted1 _) ?_; unfold Builtin.«sorted»
  refine wpAny_bind (m := checkCount "sorted" 1 1 _) (wpAny_pure (wpAny_bind (collect_tup hl (wpAny_bind (wpAny_newList ?_ hL)) hL)))
  have hsz : ((s.heap.push (seqObj "list" #[] 0)).update s.heap.objs.size (Obj.mapSeq (· ++ vs.toArray))).objs.size = s.heap.objs.size + 1 := by rw [Heap.size_update, size_push']
  show wpAny _ _ _ _ _ { s with heap := copyHeap s.heap vs }; rw [hsz]
  refine wpAny_bind (wpAny_holding (wpAny_call_entry_kw slot_list_sort ⟨_, copyHeap_at s.heap vs, rfl⟩ entry_list_sort (?_ : wpAny (model prog w) A.in1.in1 (Builtin.«list.sort» ⟨[.ref (s.heap.objs.size + 1)], []⟩) _ _ _) (args_list_sort _)))
  refine wpAny_mono (list_sort_vals (κ := κ) (P := fun f s' => f = .done (.ret .none) ∧ Q (.ref (s.heap.objs.size + 1)) s') (s := { s with heap := copyHeap s.heap vs }) (copyHeap_at s.heap vs) S hL ⟨rfl, h⟩) (fun f s' hf => ?_) fun _ _ e => e
  obtain ⟨rfl, hq⟩ := hf
  exact ⟨_, rfl, wpAny_pure ⟨_, rfl, hq⟩⟩
open PySem.W in
/-- sorted(xs), xs a list or a tuple of data -/
theorem sorted_vd {R : Value → V × PyData → Prop} {l : Addr} {vs : List Value} {bs : List (V × PyData)} {Q : Value → Shared → Prop} (hl : s.heap.IsList l vs.toArray ∨ s.heap.IsTuple l vs.toArray) (e : EachIs R vs bs) (er : EachIs (fun v b => ∃ as, Reads s.heap v b.2 as) vs bs) (hal : AllAlike (bs.map (·.2))) (hk : Sortable (bs.map (·.2))) (hL : bs.length ≤ sizeLine)
    (hu : ∀ b, b ∈ bs → A.units + 2 + b.2.depth < cLine) (h : ∀ out, out.length = bs.length → EachIs R out (bs.mergeSort (dataLe false (·.2))) → Q (.ref (s.heap.objs.size + 1)) { s with heap := sortedAll s.heap vs (List.toArray out) }) :
    wpAny (model prog w) A (call (.builtin "sorted") [.ref l]) Q E s := by
  rcases hl with hl | hl
  · exact sorted_data (enc := (·.2)) hl e er hal hk hL hu h
  · have er' : EachIs (fun v (b : V × PyData) => ∃ as, Reads (sortingHeap (copyHeap s.heap vs) (s.heap.objs.size + 1) vs) v b.2 as) vs bs := er.mono fun _ _ ⟨as, r⟩ => ⟨as, PyProof.Rows.Reads.keeps (fun _ _ z => sorting_copy_old z) r⟩
    have sa := SortsAt.data (prog := prog) (w := w) (A := A.in1.in1) (s := { s with heap := sortingHeap (copyHeap s.heap vs) (s.heap.objs.size + 1) vs }) (each_map (R := fun v d => ∃ as, Reads (sortingHeap (copyHeap s.heap vs) (s.heap.objs.size + 1) vs) v d as) (fun b : V × PyData => b.2) er') hal hk (bound_map (enc := fun b : V × PyData => b.2) hu)
    exact sorted_tup hl sa (by rw [e.length]; exact hL) (h _ (by rw [sortVals_length false rfl]; exact e.length) (sortVals_data (enc := (·.2)) false e er' hal))
end
section
variable {X : Cx}
theorem each_of {H : Hp} {pins : List (Addr × Obj)} {σ : L2.St} {s : Shared} (I : Inv X pins σ H s) : ∀ {xs : List V} {us : List Value} {ds : List PyData}, Vals xs us → DtAll H xs ds → PySem.W.EachIs (fun u (b : V × PyData) => RelV b.1 u) us (xs.zip ds) ∧ PySem.W.EachIs (fun u (b : V × PyData) => ∃ as, Reads s.heap u b.2 as) us (xs.zip ds)
  | _, _, _, .nil, .nil => ⟨.nil, .nil⟩
  | _, _, _, .cons r rs, .cons t ts => by
    obtain ⟨h1, h2⟩ := each_of I rs ts
    obtain ⟨as, hr, _⟩ := Dt.reads I _ _ _ t r
    exact ⟨.cons r h1, .cons ⟨as, hr⟩ h2⟩
theorem vals_each : ∀ {us : List Value} {bs : List (V × PyData)}, PySem.W.EachIs (fun u (b : V × PyData) => RelV b.1 u) us bs → Vals (bs.map (·.1)) us
  | _, _, .nil => .nil
  | _, _, .cons r rs => .cons r (vals_each rs)
theorem dt_zip {H : Hp} : ∀ {xs : List V} {ds : List PyData}, DtAll H xs ds → ∀ p ∈ xs.zip ds, Dt H p.1 p.2
  | _, _, .nil, p, h => by simp at h
  | _, _, .cons t ts, p, h => by
    simp only [List.zip_cons_cons, List.mem_cons] at h
    rcases h with rfl | h
    · exact t
    · exact dt_zip ts p h
theorem all_map {H : Hp} : ∀ {bs : List (V × PyData)}, (∀ p ∈ bs, Dt H p.1 p.2) → DtAll H (bs.map (·.1)) (bs.map (·.2))
  | [], _ => .nil
  | b :: bs, h => .cons (h b (List.mem_cons_self ..)) (all_map fun p hp => h p (List.mem_cons_of_mem _ hp))
theorem cr_sortW (ho : XO X) : CallR X (.builtin "sorted") (rCL sortW) := by
  intro pins s σ H vs us Q I r h
  obtain ⟨W, ds, R, h1, hw, k⟩ := h
  have un := ho.un
  have fin : ∀ (zs : List PyData) (a : Addr) (xs : List V) (its : List Value), vs = [.ref a] → Vals xs its → DtAll H xs zs → (s.heap.IsList a its.toArray ∨ s.heap.IsTuple a its.toArray) → okSrt zs → R (srt zs) → wpAny (model X.prog X.w) X.A (call (.builtin "sorted") us) (EP X pins σ Q) X.xe s := by
    intro zs a xs its ev rv al hl ok hr
    subst ev
    rw [Vals.ref1 r]
    have l1 := al.length
    have e2 : (xs.zip zs).map (·.2) = zs := List.map_snd_zip (by omega)
    obtain ⟨q1, q2⟩ := each_of I rv al
    refine sorted_vd hl q1 q2 (by rw [e2]; exact ok.1) (by rw [e2]; exact ok.2.1) (by rw [List.length_zip]; have := ok.2.2.2; exact sz_of (by omega)) (fun b hb => ?_) fun out lo eo => ?_
    · have := ok.2.2.1 b.2 (by rw [← e2]; exact List.mem_map_of_mem hb)
      omega
    · have pm : ((xs.zip zs).mergeSort (PySem.W.dataLe false (·.2))).Perm (xs.zip zs) := List.mergeSort_perm _ _
      have dts : ∀ p ∈ (xs.zip zs).mergeSort (PySem.W.dataLe false (·.2)), Dt H p.1 p.2 := fun p hp => dt_zip al p (pm.mem_iff.mp hp)
      have em : ((xs.zip zs).mergeSort (PySem.W.dataLe false (·.2))).map (·.2) = srt zs := by
        have := List.map_mergeSort (r := PySem.W.dataLe false (fun b : V × PyData => b.2)) (s := PySem.W.dataLe false fun d => d) (f := fun b : V × PyData => b.2) (l := xs.zip zs) (fun a _ b _ => rfl)
        rw [this, e2]
        rfl
      have nf : H (s.heap.objs.size + 1) = none := I.hok.fresh (Nat.le_succ _)
      obtain ⟨ep, he'⟩ := PyProof.Rows.sortedAll_at s.heap its out.toArray
      have vo := vals_each eo
      have am := all_map dts
      rw [em] at am
      refine ⟨.ref _, upd H (s.heap.objs.size + 1) (.lst (((xs.zip zs).mergeSort (PySem.W.dataLe false (·.2))).map (·.1))), I.laid (t' := s.toks) (fun _ _ z => PyProof.Rows.sortedAll_old z) (Nat.le_succ _) ⟨?_, out, ep, vo, he'⟩, rfl, k _ _ _ _ hr (Ex.new nf) nf upd_same (am.mono (Fk.ex (Ex.new nf)))⟩
      rw [vo.length, lo, List.length_zip]
      have := ok.2.2.2
      exact sz_of (by omega)
  unfold sortW at hw
  split at hw
  · obtain ⟨v, rfl, t⟩ := dq1 h1
    obtain ⟨u, rfl, ru⟩ := vals1 r
    obtain ⟨a, xs, rfl, sq, al⟩ := t.seqL (K := X.K)
    obtain ⟨its, rv, pl, _⟩ := I.list sq
    exact fin _ a xs its rfl rv al (.inl pl.isList) hw.1 hw.2
  · obtain ⟨v, rfl, t⟩ := dq1 h1
    obtain ⟨a, o, xs, rfl, _, _, sq, al⟩ := t.seqT (K := X.K)
    obtain ⟨its, rv, pl, _⟩ := I.tuple sq
    exact fin _ a xs its rfl rv al (.inr pl) hw.1 hw.2
  · exact hw.elim
end
end Wp

namespace Wp
open PySem PySem.Spec PyProof.Rows L2 Evl
/-! ### sorted(set(..)) of ints -/
section
variable {X : Cx} {e a b : Expr} {es : List Expr} {m ma mb : WE} {ms : WL} {pos : Pos}
def mSS (m : WE) : WL := fun E b R => m E b fun d b1 => match d with
  | .list xs => ∃ ns : List Int, xs = ns.map PyData.int ∧ ns.length < 64 ∧ R ((Cn.sortU ns).map PyData.int) b1
  | _ => False
theorem pm_ss {K : PySem.W.Frag} {w : World} {q : Expr} (h : PE X q (tCB (rSortedSet w) (tCons (tCB (Cn.rSetL K w) (tCons (tQ m) tNil)) tNil))) : PE X q (tL (mSS m)) := h.weak fun σ H Q ⟨W, H0, E, b, R, S, hm, k⟩ => by
  refine ⟨W, H0, E, b, _, S, hm, fun d b1 v H1 h1 k1 d1 t1 => ?_⟩
  cases d <;> first | exact h1.elim | skip
  obtain ⟨ns, rfl, few, hr⟩ := h1
  obtain ⟨a, rfl, sq⟩ := t1.ints (K := K)
  refine Cn.sortset ⟨a, ns, rfl, sq, few, fun ms' p H2 asc mem np e2 hp => ?_⟩
  rw [Cn.sortU_eq asc mem] at hp
  exact k _ b1 p _ H2 hr (k1.trans (Kp.ex e2)) (W.ex e2 d1) (k1.back (W.free d1 np) np) hp (DtAll.ints _)
/-! ### slices -/
def cutD (ds : List PyData) (lo hi : Option Int) : List PyData := (ds.drop (HT.sIx ds.length 0 lo)).take (HT.sIx ds.length ds.length hi - HT.sIx ds.length 0 lo)
def slW (d : PyData) (lo hi : Option Int) (R : PyData → Prop) : Prop := match d with
  | .tuple xs => R (.tuple (cutD xs lo hi))
  | .list xs => R (.list (cutD xs lo hi))
  | _ => False
abbrev WO := Env → Nat → (Option Int → Nat → Prop) → Prop
def mNo : WO := fun _ b R => R none b
def mPt (m : WE) : WO := fun E b R => m E b fun d b1 => match d with
  | .int i => R (some i) b1
  | _ => False
def tO (m : WO) : TO := fun σ H Q => ∃ W H0 E b R, Sit W H0 σ H E b ∧ m E b R ∧ ∀ o b' H', R o b' → Kp W.M H H' → W.Dk b' H' → Q o H'
theorem pm_pno : PO X none (tO mNo) := ⟨fun pins s σ H Q I ⟨W, H0, E, b, R, S, hm, k⟩ => po_none.run pins s σ H Q I (k none b H hm Kp.refl S.dk)⟩
theorem pm_pt (h : PE X e (tE m)) : PO X (some e) (tO (mPt m)) := ⟨fun pins s σ H Q I ⟨W, H0, E, b, R, S, hm, k⟩ => (po_some h).run pins s σ H Q I ⟨W, H0, E, b, _, S, hm, fun d b1 v H1 h1 k1 d1 t1 => by
  cases d <;> first | exact h1.elim | skip
  cases t1
  exact ⟨_, rfl, k _ b1 H1 h1 k1 d1⟩⟩⟩
def rSlD : V → Option Int → Option Int → Hp → VK → Prop := fun x lo hi H Q => ∃ (W : Wld) (d : PyData) (R : PyData → Prop), Dq W H x d ∧ slW d lo hi R ∧ ∀ z v H', R z → Ex H H' → Dt H' v z → Q v H'
theorem sl_D : L2.SlR X rSlD := by
  intro pins s σ H x v vl vu lo hi sl Q I rx hs pl pu h
  obtain ⟨W, d, R, hq, hw, k⟩ := h
  have nf : H s.heap.objs.size = none := I.hok.fresh (Nat.le_refl _)
  cases d <;> first | exact hw.elim | skip
  · rename_i ds
    obtain ⟨a, xs, rfl, sq, al⟩ := hq.seqL (K := X.K)
    cases rx
    obtain ⟨its, r, ht, hz⟩ := I.list sq
    have hlen := r.length
    have hl2 := al.length
    refine ⟨"list", _, slot_list_getitem.lookup, ht.isList.typeIs, wpAny_getItem_list_slice ht.isList hs pl pu .none (by simp) ?_ (by rw [List.size_toArray] <;> omega)⟩
    rw [slicePick_cut, ← hlen]
    refine ⟨.ref s.heap.objs.size, _, Inv.lz I ((r.drop (HT.sIx xs.length 0 lo)).take (HT.sIx xs.length xs.length hi - HT.sIx xs.length 0 lo)) (Nat.le_trans (cutV_length xs lo hi) hz), rfl, k _ _ _ hw (Ex.new nf) (.lst upd_same ?_)⟩
    unfold cutD
    rw [← hl2]
    exact ((al.drop _).take _).mono (Fk.ex (Ex.new nf))
  · rename_i ds
    obtain ⟨a, o, xs, rfl, ha, na, sq, al⟩ := hq.seqT (K := X.K)
    cases rx
    obtain ⟨its, r, ht, hz⟩ := I.tuple sq
    have hl2 := al.length
    have hlen : its.toArray.size = xs.length := by rw [List.size_toArray]; exact r.length.symm
    refine ⟨"tuple", _, PyProof.Rows.slot_tuple_getitem.lookup, ht.typeIs, ?_⟩
    by_cases hw2 : HT.sIx xs.length 0 lo = 0 ∧ HT.sIx xs.length xs.length hi = xs.length
    · refine getItem_tuple_whole ht hs pl pu (by rw [hlen]; exact hw2) ⟨.ref a, H, I, rfl, k _ _ H hw (Ex.refl H) (.tup ha na ?_)⟩
      unfold cutD
      rw [← hl2, hw2.1, hw2.2, hl2]
      simpa using al
    · refine HT.getItem_tuple_cut ht hs pl pu (by rw [hlen]; exact hw2) ?_ (by rw [hlen]; exact hz)
      rw [hlen]
      have vr : Vals (cutV xs lo hi) ((its.drop (HT.sIx xs.length 0 lo)).take (HT.sIx xs.length xs.length hi - HT.sIx xs.length 0 lo)) := (r.drop _).take _
      refine ⟨.ref s.heap.objs.size, _, I.laid (t' := s.toks) (o := .frz { cls := .type "tuple", data := .seq ((its.drop (HT.sIx xs.length 0 lo)).take (HT.sIx xs.length xs.length hi - HT.sIx xs.length 0 lo)).toArray } (.tup (cutV xs lo hi))) (fun b ob q => Heap.get?_push_of_some _ q) (Nat.le_refl _) ?_, rfl, k _ _ _ hw (Ex.new nf) (.tup upd_same rfl ?_)⟩
      · have here := Heap.get?_push_size s.heap (o := { cls := .type "tuple", data := .seq ((its.drop (HT.sIx xs.length 0 lo)).take (HT.sIx xs.length xs.length hi - HT.sIx xs.length 0 lo)).toArray }) rfl
        exact ⟨here, Nat.le_trans (cutV_length xs lo hi) hz, _, vr, ⟨_, here, rfl, _, rfl⟩⟩
      · unfold cutD
        rw [← hl2]
        exact ((al.drop _).take _).mono (Fk.ex (Ex.new nf))
def mSl (m : WE) (lo hi : WO) : WE := fun E b R => m E b fun d b1 => lo E b1 fun l b2 => hi E b2 fun u b3 => slW d l u fun z => R z b3
theorem pm_sl {lo hi : Option Expr} {mlo mhi : WO} {p2 : Pos} (he : PE X e (tQ m)) (hl : PO X lo (tO mlo)) (hh : PO X hi (tO mhi)) : PE X (.Subscript e (.Slice lo hi none p2) pos) (tE (mSl m mlo mhi)) := (pe_slice sl_D he hl hh).weak fun σ H Q ⟨W, H0, E, b, R, S, hm, k⟩ =>
  ⟨W, H0, E, b, _, S, hm, fun d b1 v H1 h1 k1 d1 t1 => ⟨W, H0, E, b1, _, S.step k1 d1, h1, fun l b2 H2 h2 k2 d2 => ⟨W, H0, E, b2, _, (S.step k1 d1).step k2 d2, h2, fun u b3 H3 h3 k3 d3 =>
    ⟨W, d, _, (t1.step d1 k2).step d2 k3, h3, fun z v' H' r e' t' => k z b3 v' H' r (((k1.trans k2).trans k3).trans (Kp.ex e')) (W.ex e' d3) t'⟩⟩⟩⟩
/-! ### dicts of one's own -/
def dKey : PyData → Option Key
  | .int i => some (.inl i)
  | .str x => some (.inr x)
  | _ => none
def lookD (kvs : List (Key × PyData)) (k : Key) : Option PyData := (kvs.find? fun kv => decide (kv.1 = k)).map (·.2)
def putD (kvs : List (Key × PyData)) (k : Key) (v : PyData) : List (Key × PyData) := if (kvs.any fun kv => decide (kv.1 = k)) = true then kvs.map (fun kv => if kv.1 = k then (kv.1, v) else kv) else kvs ++ [(k, v)]
theorem DtK.look {H : Hp} {k : Key} : ∀ {xs : List (Key × V)} {ds : List (Key × PyData)}, DtK H xs ds → (∀ d, lookD ds k = some d → ∃ v, valV xs k = some v ∧ Dt H v d) ∧ (lookD ds k = none → valV xs k = none)
  | _, _, .nil => ⟨fun d h => by simp [lookD] at h, fun _ => rfl⟩
  | _, _, .cons (k := k') (v := v) (d := d) (xs := xs) (ds := ds) t r => by
    obtain ⟨h1, h2⟩ := DtK.look (k := k) r
    by_cases e : k' = k
    · subst e
      refine ⟨fun d' h => ⟨v, valV_pos rfl, ?_⟩, fun h => ?_⟩
      · simp [lookD] at h; subst h; exact t
      · simp [lookD] at h
    · have e1 : valV ((k', v) :: xs) k = valV xs k := valV_neg (p := (k', v)) e
      have e2 : lookD ((k', d) :: ds) k = lookD ds k := by simp [lookD, List.find?_cons, e]
      rw [e1, e2]
      exact ⟨h1, h2⟩
theorem DtK.any {H : Hp} {k : Key} : ∀ {xs : List (Key × V)} {ds : List (Key × PyData)}, DtK H xs ds → (xs.any fun kv => decide (kv.1 = k)) = (ds.any fun kv => decide (kv.1 = k))
  | _, _, .nil => rfl
  | _, _, .cons _ r => by simp only [List.any_cons, DtK.any r]
theorem DtK.app {H : Hp} {k : Key} {v : V} {d : PyData} (t : Dt H v d) : ∀ {xs : List (Key × V)} {ds : List (Key × PyData)}, DtK H xs ds → DtK H (xs ++ [(k, v)]) (ds ++ [(k, d)])
  | _, _, .nil => .cons t .nil
  | _, _, .cons a r => .cons a (DtK.app t r)
theorem DtK.upd {H : Hp} {k : Key} {v : V} {d : PyData} (t : Dt H v d) : ∀ {xs : List (Key × V)} {ds : List (Key × PyData)}, DtK H xs ds → DtK H (xs.map fun kv => if kv.1 = k then (kv.1, v) else kv) (ds.map fun kv => if kv.1 = k then (kv.1, d) else kv)
  | _, _, .nil => .nil
  | _, _, .cons (k := k') a r => by
    simp only [List.map_cons]
    by_cases e : k' = k
    · simp only [e, if_true]; exact .cons t (DtK.upd t r)
    · simp only [e, if_false]; exact .cons a (DtK.upd t r)
theorem DtK.put {H : Hp} {k : Key} {v : V} {d : PyData} (t : Dt H v d) {xs : List (Key × V)} {ds : List (Key × PyData)} (h : DtK H xs ds) : DtK H (putK xs k v) (putD ds k d) := by
  unfold putK putD
  rw [h.any]
  split
  · exact h.upd t
  · exact h.app t
theorem DtK.length {H : Hp} : ∀ {xs : List (Key × V)} {ds : List (Key × PyData)}, DtK H xs ds → xs.length = ds.length
  | _, _, .nil => rfl
  | _, _, .cons _ r => by simp [r.length]
theorem DtK.keys {H : Hp} : ∀ {xs : List (Key × V)} {ds : List (Key × PyData)}, DtK H xs ds → xs.map (·.1) = ds.map (·.1)
  | _, _, .nil => rfl
  | _, _, .cons _ r => by simp [r.keys]
theorem Dt.key {H : Hp} {v : V} {d : PyData} {k : Key} (h : Dt H v d) (e : dKey d = some k) : v = kV k := by
  cases h <;> simp [dKey] at e <;> subst e <;> rfl
def asM : Sl → Option (List (Key × PyData))
  | .m kvs => some kvs
  | .rm kvs => some kvs
  | _ => none
theorem Sit.dic {W : Wld} {H0 : Bs} {H : Hp} {σ : L2.St} {E : Env} {b i : Nat} {s : Sl} {ds : List (Key × PyData)} (S : Sit W H0 σ H E b) (h : E[i]? = some s) (hs : asM s = some ds) : ∃ a kvs, σ[i]? = some (some (.ref a)) ∧ ¬ W.M a ∧ H a = some (.dK kvs) ∧ DtK H kvs ds := by
  cases s <;> simp [asM] at hs <;> subst hs
  · obtain ⟨v, h1, a, rfl, _, n, kvs, h2, h3⟩ := S.at_ i _ h; exact ⟨a, kvs, h1, n, h2, h3⟩
  · obtain ⟨v, h1, a, rfl, _, n, kvs, h2, h3⟩ := S.at_ i _ h; exact ⟨a, kvs, h1, n, h2, h3⟩
/-- d[k] -/
def mDG (i : Nat) (mk : WE) : WE := fun E b R => ∃ s ds, E[i]? = some s ∧ asM s = some ds ∧ mk E b fun d b1 => ∃ k v, dKey d = some k ∧ lookD ds k = some v ∧ R v b1
theorem pm_dg {i : Nat} {q k : Expr} {mk : WE} (h : PE X q (tDGet (tVar i) (tE mk))) : PE X q (tE (mDG i mk)) := h.weak fun σ H Q ⟨W, H0, E, b, R, S, ⟨s, ds, hE, hs, hm⟩, k⟩ => by
  obtain ⟨a, kvs, hσ, nM, ha, hd⟩ := S.dic hE hs
  refine ⟨_, hσ, W, H0, E, b, _, S, hm, fun d b1 v H1 ⟨k', z, e1, e2, hr⟩ k1 d1 t1 => ?_⟩
  have hd1 := hd.mono (W.fk S.dk k1)
  obtain ⟨w, hv, tw⟩ := (hd1.look (k := k')).1 z e2
  exact ⟨a, w, rfl, .inl ⟨kvs, k', .inl (k1 a _ nM ha), t1.key e1, hv.symm⟩, k _ b1 w H1 hr k1 d1 tw⟩
/-- d.get(k, x) -/
def mDGd (i : Nat) (mk mx : WE) : WE := fun E b R => ∃ s ds, E[i]? = some s ∧ asM s = some ds ∧ mk E b fun d b1 => mx E b1 fun x b2 => ∃ k, dKey d = some k ∧ R ((lookD ds k).getD x) b2
theorem pm_dgd {i : Nat} {q : Expr} {mk mx : WE} (h : PE X q (tDGet2 (tVar i) (tE mk) (tE mx))) : PE X q (tE (mDGd i mk mx)) := h.weak fun σ H Q ⟨W, H0, E, b, R, S, ⟨s, ds, hE, hs, hm⟩, k⟩ => by
  obtain ⟨a, kvs, hσ, nM, ha, hd⟩ := S.dic hE hs
  refine ⟨_, hσ, a, rfl, .inl ⟨kvs, .inl ha⟩, W, H0, E, b, _, S, hm, fun d b1 v H1 h1 k1 d1 t1 => ⟨W, H0, E, b1, _, S.step k1 d1, h1, fun x b2 u H2 ⟨k', e1, hr⟩ k2 d2 t2 => ?_⟩⟩
  have k12 := k1.trans k2
  have hd1 := hd.mono (W.fk S.dk k12)
  refine ⟨valV kvs k', .inl ⟨kvs, k', .inl (k12 a _ nM ha), t1.key e1, rfl⟩, ?_⟩
  cases hl : lookD ds k' with
  | none =>
    rw [(hd1.look (k := k')).2 hl]
    rw [hl] at hr
    exact k _ b2 u H2 hr k12 d2 t2
  | some z =>
    obtain ⟨w, hv, tw⟩ := (hd1.look (k := k')).1 z hl
    rw [hv]
    rw [hl] at hr
    exact k _ b2 w H2 hr k12 d2 tw
/-- k in d -/
def mDIn (i : Nat) (mk : WE) : WE := fun E b R => ∃ s ds, E[i]? = some s ∧ asM s = some ds ∧ mk E b fun d b1 => ∃ k, dKey d = some k ∧ R (.bool (lookD ds k).isSome) b1
/-- d[k] = v -/
def mPut (i : Nat) (mk mv : WE) : WS := fun E b F => ∃ ds, E[i]? = some (.m ds) ∧ mv E b fun v b1 => mk E b1 fun d b2 => ∃ k, dKey d = some k ∧ ds.length < 100000 ∧ F.nx (E.set i (.m (putD ds k v))) b2
theorem pm_put {i : Nat} {st : Stmt} {mk mv : WE} (h : PS X st (sDPut (tVar i) (tE mk) (tE mv))) : PS X st (tS xw (mPut i mk mv)) := h.weak fun D σ H ⟨W, H0, E, b, F, S, ⟨ds, hE, hm⟩, k⟩ => by
  obtain ⟨u, hσ', a, rfl, h0, nM, kvs, ha, hd⟩ := S.at_ i _ hE
  refine ⟨W, H0, E, b, _, S, hm, fun v b1 w H1 h1 k1 d1 t1 => ⟨_, hσ', W, H0, E, b1, _, S.step k1 d1, h1, fun d b2 y H2 ⟨k', e1, few, hF⟩ k2 d2 t2 => ?_⟩⟩
  have k12 := k1.trans k2
  have ha2 := k12 a _ nM ha
  have hd2 := hd.mono (W.fk S.dk k12)
  have t12 := t1.mono (W.fk d1 k2)
  refine ⟨a, _, rfl, .inl ⟨kvs, k', ha2, t2.key e1, sz_lt (by rw [hd.length]; exact few), rfl⟩, ?_⟩
  have fk : Fk H2 (upd H2 a (.dK (putK kvs k' w))) := fun p o u e => by
    rw [upd_ne (ne_of e ha2 (by intro z; cases z))]
    exact e
  exact k.nx _ _ _ b2 (((S.step k1 d1).step k2 d2).put (s' := .m (putD ds k' v)) hE rfl rfl hσ' h0 nM ha2 (fun q u z => by cases z) ⟨a, rfl, h0, nM, _, upd_same, (hd2.put t12).mono fk⟩) hF
/-- sorted(d), int keys -/
def mSD (i : Nat) : WL := fun E b R => ∃ s ds, E[i]? = some s ∧ asM s = some ds ∧ ∃ ks : List Int, ds.map (·.1) = ks.map Sum.inl ∧ ks.length < 64 ∧ ∀ ys : List Int, ys.Perm ks → ys.Pairwise (· ≤ ·) → R (ys.map PyData.int) b
def rSDI : List V → Hp → VK → Prop := fun xs H Q => ∃ (a : Addr) (kvs : List (Key × V)) (ks : List Int), xs = [.ref a] ∧ Rd H a (.dK kvs) ∧ kvs.map (·.1) = ks.map Sum.inl ∧ ks.length < 64 ∧ ∀ (ys : List Int) (p : Addr), ys.Perm ks → ys.Pairwise (· ≤ ·) → H p = none → Q (.ref p) (upd H p (.lst (ys.map V.int)))
theorem pm_sd {i : Nat} {q : Expr} (h : PE X q (tCB rSDI (tCons (tVar i) tNil))) : PE X q (tL (mSD i)) := h.weak fun σ H Q ⟨W, H0, E, b, R, S, ⟨s, ds, hE, hs, ks, hk, few, hr⟩, k⟩ => by
  obtain ⟨a, kvs, hσ, nM, ha, hd⟩ := S.dic hE hs
  exact ⟨_, hσ, a, kvs, ks, rfl, .inl ha, hd.keys.trans hk, few, fun ys p pm srt np => k _ b p _ _ (hr ys pm srt) (Kp.ex (Ex.new np)) (W.ex (Ex.new np) S.dk) np upd_same (DtAll.ints ys)⟩
end
end Wp

namespace Wp
open PySem PySem.Spec PyProof.Rows L2 Evl
theorem FnG.weak {P : Program} {w : World} {K : PySem.W.Frag} {mg : Str → Option Value} {base : Heap} {k : Nat} {f : Addr} {fd : FuncData} {ps : List Str} {sp sp' : Sp} (F : Cn.FnG P w K mg base k f fd ps sp) (h : ∀ vs H Q E, sp' vs H Q E → sp vs H Q E) : Cn.FnG P w K mg base k f fd ps sp' :=
  ⟨fun vs H Q E q => F.len vs H Q E (h vs H Q E q), fun A out s H args us vs Q E g r e b v q => F.run A out s H args us vs Q E g r e b v (h vs H Q E q)⟩
/-! ### decks -/
def deckW (D C : Addr) : Wld where
  M := fun a => a = D ∨ a = C
  root := D
  Dk := fun m H => Cn.Deck D C m H
  kd := 1
  isK := ⟨C, fun a => Iff.rfl, fun m H => Iff.rfl⟩
  ex := fun e d => d.ex e
  put := fun n d => d.mut (fun z => n (.inl z)) (fun z => n (.inr z))
  lst := fun ma ⟨n, cs, d, _⟩ => by
    rcases ma with rfl | rfl
    · exact ⟨_, d.hD⟩
    · exact ⟨_, d.hC⟩
def mDraw : WF := fun as b R => match as with
  | [.s 1, .d (.int k)] => (b ≤ 1000000000 ∧ 1 ≤ k ∧ k ≤ 1000000001) ∧ ∀ r : Int, 0 ≤ r → r < k → R (.int r) (b + 1)
  | _ => False
theorem draw_of {vs : List V} {H : Hp} {Q : VK} {E : XK} (h : spOf mDraw vs H Q E) : Cn.spDraw vs H Q E := by
  obtain ⟨W, as, b, R, ar, dk, hm, k⟩ := h
  unfold mDraw at hm
  split at hm
  · cases ar with
    | cons a1 r =>
      cases r with
      | cons a2 r =>
        cases r
        obtain ⟨rfl, hk⟩ := a1
        have a2 : Dt H _ (.int _) := a2
        cases a2
        have ik := W.isK
        rw [hk] at ik
        obtain ⟨C, hM, hD⟩ := ik
        obtain ⟨⟨b1, k1, k2⟩, hr⟩ := hm
        refine ⟨W.root, C, b, _, rfl, (hD b H).mp dk, by omega, k1, k2, fun r H' r0 r1 kp d' => ?_⟩
        refine k _ (b + 1) _ H' (hr r r0 r1) (fun a o na e => kp a o (fun z => na ((hM a).mpr (.inl z))) (fun z => na ((hM a).mpr (.inr z))) e) ((hD _ H').mpr (by simpa using d')) (.int r)
  · exact hm.elim
/-- what the law wants -/
def lawF : WEnds := { nx := fun _ _ => False, rt := fun d _ => d = .bool true }
theorem law_run {K : PySem.W.Frag} {N : List Str} {a : Addr} {ns : List Int} {H : Hp} {Q : VK} {mr : WS} (hs : SqL K H a (ns.map V.int)) (few : ns.length ≤ 63) (hN : 2 ≤ N.length) (hm : mr (.no :: .s 1 :: List.replicate (N.length - 2) .no) 0 lawF) (q : ∀ H', Q (.bl true) H') :
    tSeq (tAsg (tCall (Cn.spDeck K) [] E0 (tCons (tVar 0) tNil)) (gName 1)) (tS noX mr) { nx := fun _ H' => Q .non H', rt := Q } (L2.start N [.ref a]) H := by
  refine ⟨.ref a, by simp [L2.start], a, ns, rfl, hs, few, fun D C H' nD nC e' dk => ?_⟩
  refine ⟨deckW D C, ⟨H', H'⟩, _, 0, lawF, ⟨?_, ?_, ?_, Kp.refl, dk, fun _ _ _ z => z⟩, hm, ⟨fun _ _ _ _ _ z => z.elim, fun _ _ _ _ _ z => z.elim, fun _ _ _ _ _ z => z.elim, fun d b v H2 r _ _ t => ?_, fun _ _ _ _ _ _ _ z => z.elim⟩⟩
  · simp [L2.start]; omega
  · intro i s e
    match i with
    | 0 => simp at e; subst e; exact ⟨some (.ref a), by simp [L2.start], trivial⟩
    | 1 =>
      simp at e
      subst e
      refine ⟨some (.ref D), ?_, rfl, rfl⟩
      simp only [gName, L2.start]
      rw [List.getElem?_set_self (by simp; omega)]
    | i + 2 =>
      have e : (List.replicate (N.length - 2) Sl.no)[i]? = some s := by simpa using e
      rw [List.getElem?_replicate] at e
      split at e
      · cases e
        rename_i hi
        refine ⟨none, ?_, trivial⟩
        simp only [L2.start]
        rw [List.getElem?_set_ne (by omega)]
        simp [List.getElem?_replicate]
        omega
      · cases e
  · intro i j s t a' _ h1 o1
    exfalso
    match i with
    | 0 => simp at h1; subst h1; cases o1
    | 1 => simp at h1; subst h1; cases o1
    | i + 2 =>
      have e : (List.replicate (N.length - 2) Sl.no)[i]? = some s := by simpa using h1
      rw [List.getElem?_replicate] at e
      split at e
      · cases e; cases o1
      · cases e
  · have r : d = .bool true := r
    subst r
    cases t
    exact q H2
end Wp

namespace Wp
open PySem PySem.Spec PyProof.Rows L2 Evl
section
variable {X : Cx} {e a b : Expr} {es : List Expr} {m ma mb : WE} {ms : WL} {pos : Pos}
/-- return of an own list: it is locked -/
def mRetO (i : Nat) : WS := fun E b F => match E[i]? with
  | some (.l ds) => F.rt (.list ds) b
  | _ => False
theorem pm_retO {i : Nat} (h : PE X e (tVar i)) : PS X (.Return (some e) pos) (tS xw (mRetO i)) := (ps_ret (pe_lz h)).weak fun D σ H ⟨W, H0, E, b, F, S, hm, k⟩ => by
  unfold mRetO at hm
  split at hm
  · obtain ⟨a, xs, hσ, h0, nM, ha, al⟩ := S.ownL (by assumption)
    exact ⟨_, hσ, a, xs, rfl, ha, fun o => k.rt _ b _ _ hm (S.kp.mut h0) (W.put nM S.dk) (.lst upd_same (al.mono (fk_lock ha)))⟩
  · exact hm.elim
/-! dicts as data -/
theorem pm_dd0 : PE X (.Dict [] [] pos) (tE (mC (.dict []))) := (Cn.pe_dz pe_dnewK).weak fun σ H Q ⟨W, H0, E, b, R, S, hm, k⟩ p np =>
  ⟨p, [], rfl, upd_same, fun o => by
    rw [upd_upd]
    exact k _ b _ _ hm (Kp.ex (Ex.new np)) (W.ex (Ex.new np) S.dk) (.dic (kvs := []) (vs := []) (ds := []) upd_same rfl .nil)⟩
theorem pm_dd1' {x : Str} {i : Int} {q : Expr} (h : PE X q (tDisp [(tC (.str x), tC (.int i))])) : PE X q (tE (mC (.dict [(.str x, .int i)]))) := (Cn.pe_dz h).weak fun σ H Q ⟨W, H0, E, b, R, S, hm, k⟩ p np =>
  ⟨upd_same, [(.inr x, .int i)], rfl, by simp, p, _, rfl, upd_same, fun o => by
    rw [upd_upd, upd_upd]
    exact k _ b _ _ hm (Kp.ex (Ex.new np)) (W.ex (Ex.new np) S.dk) (.dic (kvs := [(.inr x, .int i)]) (vs := [.int i]) (ds := [.int i]) upd_same rfl (.cons (.int i) .nil))⟩
/-! x[::-1] -/
def revW : W1 := fun d R => match d with
  | .tuple xs => R (.tuple xs.reverse)
  | .list xs => R (.list xs.reverse)
  | _ => False
theorem pm_rev {k : Nat} {p1 p2 p3 : Pos} (he : PE X e (tQ m)) : PE X (.Subscript e (.Slice none none (some (.UnaryOp .USub (.Constant (.int 1) k p1) p2)) p3) pos) (tE (mUn revW m)) := by
  refine ⟨fun pins s σ H Q I ⟨W, H0, E, b, R, S, hm, kk⟩ => ?_⟩
  refine Subscript_ (thn (he.run pins s σ H (fun x H1 => ∃ d b1, Dq W H1 x d ∧ Kp W.M H H1 ∧ W.Dk b1 H1 ∧ revW d fun z => R z b1) I ⟨W, H0, E, b, _, S, hm, fun d b1 v H1 h1 k1 d1 t1 => ⟨d, b1, t1, k1, d1, h1⟩⟩) fun v s1 ⟨x, H1, I1, r1, d, b1, t1, k1, d1, hr⟩ => ?_)
  have hst : PO X (some (.UnaryOp .USub (.Constant (.int 1) k p1) p2)) (tPart (tUn (rU fun i => .int (-i)) (tC (.int 1)))) := po_some (pe_un un_neg pe_int)
  refine wpAny_Slice (thn (po_none.run pins s1 σ H1 (fun o H2 => o = none ∧ H2 = H1) I1 ⟨rfl, rfl⟩) fun vl s2 ⟨l, H2, I2, pl, el, e2⟩ => ?_); subst el e2
  refine thn (po_none.run pins s2 σ H2 (fun o H3 => o = none ∧ H3 = H2) I2 ⟨rfl, rfl⟩) fun vu s3 ⟨u, H3, I3, pu, eu, e3⟩ => ?_; subst eu e3
  refine thn (hst.run pins s3 σ H3 (fun o H4 => o = some (-1) ∧ H4 = H3) I3 ⟨1, rfl, -1, rfl, rfl, rfl⟩) fun vs s4 ⟨o, H4, I4, ps, eo, e4⟩ => ?_; subst eo e4
  have I5 : Inv X pins σ H4 { s4 with heap := s4.heap.push { cls := .type "slice", data := .fields #[vl, vu, vs] } } := I4.kept (t' := s4.toks) fun b ob q => Heap.get?_push_of_some _ q
  have nf : H4 (s4.heap.push { cls := .type "slice", data := .fields #[vl, vu, vs] }).objs.size = none := I5.hok.fresh (Nat.le_refl _)
  unfold revW at hr
  split at hr
  · obtain ⟨a, ob, xs, rfl, ha, na, sq, al⟩ := t1.seqT (K := X.K)
    cases r1
    obtain ⟨its, r, ht, hz⟩ := I5.tuple sq
    have hlen := r.length
    show wpAny (model X.prog X.w) X.A (subscriptTail e (.Slice none none (some (.UnaryOp .USub (.Constant (.int 1) k p1) p2)) p3) (.ref a) (.ref s4.heap.objs.size)) (EP X pins σ Q) X.xe { s4 with heap := s4.heap.push { cls := .type "slice", data := .fields #[vl, vu, vs] } }; refine tail_any (ops := [.ref a, .ref s4.heap.objs.size]) ht.typeIs (PyProof.Rows.slot_tuple_getitem.lookup) ?_ (by with_unfolding_all rfl)
    refine HT.getItem_tuple_back ht (Heap.IsSliceOf.new _ vl vu vs) pl pu ps ?_ (by rw [List.size_toArray]; omega)
    have here := Heap.get?_push_size (s4.heap.push { cls := .type "slice", data := .fields #[vl, vu, vs] }) (o := { cls := .type "tuple", data := .seq its.reverse.toArray }) rfl
    exact ⟨.ref _, _, I5.laid (t' := s4.toks) (o := .frz { cls := .type "tuple", data := .seq its.reverse.toArray } (.tup xs.reverse)) (fun b ob q => Heap.get?_push_of_some _ q) (Nat.le_refl _) ⟨here, by rw [List.length_reverse]; exact hz, its.reverse, Cn.vals_rev r, ⟨_, here, rfl, _, rfl⟩⟩, rfl,
      kk _ b1 _ _ hr (k1.trans (Kp.ex (Ex.new nf))) (W.ex (Ex.new nf) d1) (.tup upd_same rfl (al.reverse.mono (Fk.ex (Ex.new nf))))⟩
  · obtain ⟨a, xs, rfl, sq, al⟩ := t1.seqL (K := X.K)
    cases r1
    obtain ⟨its, r, ht, hz⟩ := I5.list sq
    have hlen := r.length
    show wpAny (model X.prog X.w) X.A (subscriptTail e (.Slice none none (some (.UnaryOp .USub (.Constant (.int 1) k p1) p2)) p3) (.ref a) (.ref s4.heap.objs.size)) (EP X pins σ Q) X.xe { s4 with heap := s4.heap.push { cls := .type "slice", data := .fields #[vl, vu, vs] } }; refine tail_any (ops := [.ref a, .ref s4.heap.objs.size]) ht.isList.typeIs (PySem.slot_list_getitem.lookup) ?_ (by with_unfolding_all rfl)
    refine wpAny_getItem_list_slice ht.isList (Heap.IsSliceOf.new _ vl vu vs) pl pu ps (by decide) ?_ (by rw [List.size_toArray]; omega); rw [PySem.W.krv_pick]
    exact ⟨.ref _, _, Inv.lz I5 r.reverse (by rw [List.length_reverse]; exact hz), rfl, kk _ b1 _ _ hr (k1.trans (Kp.ex (Ex.new nf))) (W.ex (Ex.new nf) d1) (.lst upd_same (al.reverse.mono (Fk.ex (Ex.new nf))))⟩
  · exact hr.elim
/-! dict(tuple of pairs) -/
def pairK : PyData → Option (Key × PyData)
  | .tuple [k, v] => (dKey k).map fun k' => (k', v)
  | _ => none
def mergeD (kvs : List (Key × PyData)) (more : List (Key × PyData)) : List (Key × PyData) := more.foldl (fun acc kv => putD acc kv.1 kv.2) kvs
def vDof (m : WE) : WV := fun E b R => m E b fun d b1 => match d with
  | .tuple ds => ∃ kvs : List (Key × PyData), ds.map pairK = kvs.map some ∧ R (.m (mergeD [] kvs)) b1
  | _ => False
theorem DtK.merge {H : Hp} : ∀ {more : List (Key × PyData)} {mv : List (Key × V)}, DtK H mv more → ∀ {xs : List (Key × V)} {ds : List (Key × PyData)}, DtK H xs ds → DtK H (mergeK xs mv) (mergeD ds more)
  | [], _, .nil, _, _, h => h
  | _ :: _, _, .cons t r, _, _, h => DtK.merge r (h.put t)
theorem pairs_of {K : PySem.W.Frag} {H : Hp} : ∀ {ds : List PyData} {kvs : List (Key × PyData)} {xs : List V}, ds.map pairK = kvs.map some → DtAll H xs ds → ∃ (ps : List Addr) (vs : List (Key × V)), xs = ps.map V.ref ∧ Paired (fun p kv => SqT K H p [kV kv.1, kv.2]) ps vs ∧ DtK H vs kvs
  | [], kvs, _, h, .nil => by
    cases kvs with
    | nil => exact ⟨[], [], rfl, .nil, .nil⟩
    | cons _ _ => simp at h
  | d :: ds, kvs, _, h, .cons t r => by
    cases kvs with
    | nil => simp at h
    | cons kv kvs =>
      simp only [List.map_cons, List.cons.injEq] at h
      obtain ⟨ps, vs, rfl, pr, dk⟩ := pairs_of (K := K) h.2 r
      have h1 := h.1
      unfold pairK at h1
      split at h1
      · rename_i k v
        cases hk : dKey k with
        | none => rw [hk] at h1; cases h1
        | some k' =>
          rw [hk] at h1
          simp only [Option.map_some, Option.some.injEq] at h1
          subst h1
          obtain ⟨a, o, zs, rfl, ha, _, al⟩ := t.tup_inv
          cases al with
          | cons t1 al =>
            cases al with
            | cons t2 al =>
              cases al
              obtain rfl := t1.key hk
              exact ⟨a :: ps, (k', _) :: vs, rfl, .cons (.inl (.inr ⟨o, ha⟩)) pr, .cons t2 dk⟩
      · cases h1
theorem pm_dof' {K : PySem.W.Frag} {q : Expr} (h : PE X q (tCB (Cn.rDictT K) (tCons (tE m) tNil))) : PE X q (tV (vDof m)) := h.weak fun σ H Q ⟨W, H0, E, b, R, S, hm, k⟩ => by
  refine ⟨W, H0, E, b, _, S, hm, fun d b1 v H1 h1 k1 d1 t1 => ?_⟩
  cases d <;> first | exact h1.elim | skip
  obtain ⟨kvs, hk, hr⟩ := h1
  obtain ⟨a, o, xs, rfl, ha, na, al⟩ := t1.tup_inv
  obtain ⟨ps, vs, rfl, pr, dk⟩ := pairs_of (K := K) hk al
  refine ⟨a, o, ps, vs, rfl, ha, na, pr, fun p np => ?_⟩
  have np0 := k1.back (W.free d1 np) np
  exact k _ b1 _ _ hr (k1.trans (Kp.ex (Ex.new np))) (W.ex (Ex.new np) d1) ⟨p, rfl, S.kp.back (W.free S.dk np0) np0, W.free d1 np, _, upd_same, (dk.merge .nil).mono (Fk.ex (Ex.new np))⟩ (fun _ => ⟨p, rfl, np0⟩)
theorem pm_par3 {i j l : Nat} {ns : WVs} {st : Stmt} (h : PS X st (tPar3 i j l (tVs ns))) : PS X st (tS xw (mPar [i, j, l] ns)) := h.weak fun D σ H ⟨W, H0, E, b, F, S, hm, k⟩ => by
  refine ⟨W, H0, E, b, _, S, hm, fun ss b1 vs H1 h1 k1 d1 t1 => ?_⟩
  have ln := t1.length
  rw [h1.1] at ln
  match vs, ln with
  | [v, w, u], _ => exact ⟨v, w, u, rfl, k.nx _ H1 _ b1 (S.parAll (is := [i, j, l]) k1 d1 t1 rfl) h1.2⟩
/-! for over zip -/
def mForZ (t : WG1) (ms : WL) (m : WS) : WS := fun E b F => ms E b fun ds b1 => match ds with
  | [.list xs, .list ys] => mTurns t m (zipD xs ys) E b1 F
  | _ => False
theorem pm_forZ {K : PySem.W.Frag} {ws : List Nat} {tg iter : Expr} {body : List Stmt} {g : TG} {t : WG1} {m : WS} {me : WL} (hK : X.K = K) (hp : PassesOwn (model X.prog X.w) X.A X.env X.xe) (hc : X.calm = true) (hi : PI X tg iter (iZip X.K (tA me))) (hg : PG X tg g) (gb : GB (Bd K) ws g t) (hb : PSs X body (tS xw m)) (hs : ∀ x, foldedSetIterable iter X.env x = pure x := by intro _; rfl) : PS X (.For tg iter body [] pos) (tS xw (mForZ t me m)) := by
  subst hK
  refine (ps_for hp hc hi hg hb hs).weak fun D σ H ⟨W, H0, E, b, F, S, hm, k⟩ => ?_
  refine ⟨W, H0, E, b, _, S, hm, fun ds b1 vs H1 h1 k1 d1 t1 => ?_⟩
  have S1 := S.step k1 d1
  split at h1
  · rename_i xs ys
    cases t1 with
    | cons q1 t1 =>
      cases t1 with
      | cons q2 t1 =>
        cases t1
        obtain ⟨a1, o1, us, rfl, s1, al1⟩ := q1.lst_inv
        obtain ⟨a2, o2, ws', rfl, s2, al2⟩ := q2.lst_inv
        refine ⟨a1, a2, us, ws', rfl, .inl (.inr ⟨o1, s1⟩), .inl (.inr ⟨o2, s2⟩), ?_⟩
        refine turns_for (walk_zip (K := X.K) (a := a1) (b := a2) (xs := us) (ys := ws') rfl) gb S1 k (by rw [zipD_len, al1.length, al2.length]) (fun H' f => ⟨.inl (.inr ⟨o1, f _ _ _ s1⟩), .inl (.inr ⟨o2, f _ _ _ s2⟩)⟩) h1 ?_
        rintro i H2 x H3 f ⟨T, p, q, rfl, nT, rfl, hp, hq⟩
        obtain ⟨dp, e1, t1⟩ := al1.get hp
        obtain ⟨dq, e2, t2⟩ := al2.get hq
        have eN : Ex H2 (upd H2 T (.tup [p, q])) := Ex.new nT
        exact ⟨eN, _, zipD_get e1 e2, T, [p, q], [dp, dq], rfl, rfl, .inl (.inl upd_same), .cons ((t1.mono f).mono (Fk.ex eN)) (.cons ((t2.mono f).mono (Fk.ex eN)) .nil)⟩
  · exact h1.elim
end
end Wp

namespace Wp
open PySem PySem.Spec PyProof.Rows L2 Evl
/-! ### dicts whose keys are tuples -/
section
variable {X : Cx} {pins : List (Addr × Obj)} {σ : L2.St} {H : Hp} {s : Shared}
mutual
theorem nest_of (I : Inv X pins σ H s) : ∀ (k : NestedKey) {v : V} {u : Value}, Dt H v k.data → RelV v u → NestedIs s.heap k u
  | .none, _, _, h, r => by
    rw [NestedKey.data] at h
    cases h
    cases (show _ = Value.none from r)
    exact .none
  | .num i, _, _, h, r => by
    rw [NestedKey.data] at h
    cases h
    obtain ⟨t, rfl⟩ := r
    exact .int i t
  | .text x, _, _, h, r => by
    rw [NestedKey.data] at h
    cases h
    obtain ⟨t, rfl⟩ := r
    exact .text x t
  | .tup ks, _, _, h, r => by
    rw [NestedKey.data] at h
    obtain ⟨a, o, xs, rfl, ha, _, al⟩ := h.tup_inv
    cases (show _ = Value.ref a from r)
    obtain ⟨ho, z, its, rv, o', ho', hc, n, hd⟩ := I.hok a _ ha
    rw [ho] at ho'
    cases ho'
    exact .tup ho hc hd (by simpa using nests_of I ks al rv)
theorem nests_of (I : Inv X pins σ H s) : ∀ (ks : List NestedKey) {xs : List V} {us : List Value}, DtAll H xs (NestedKey.datas ks) → Vals xs us → NestedAll s.heap ks us
  | [], _, _, h, r => by
    rw [NestedKey.datas] at h
    cases h
    cases r
    exact .nil
  | k :: ks, _, _, h, r => by
    rw [NestedKey.datas] at h
    cases h with
    | cons h1 h2 =>
      cases r with
      | cons r1 r2 => exact .cons (nest_of I k h1 r1) (nests_of I ks h2 r2)
end
def lookN (kvs : List (NestedKey × PyData)) (k : NestedKey) : Option PyData := (kvs.find? fun kv => decide (kv.1 = k)).map (·.2)
def putN (kvs : List (NestedKey × PyData)) (k : NestedKey) (v : PyData) : List (NestedKey × PyData) := if (lookN kvs k).isSome = true then kvs.map (fun kv => if kv.1 = k then (kv.1, v) else kv) else kvs ++ [(k, v)]
theorem look_n {k : NestedKey} : ∀ {xs : List (NestedKey × Addr × Value)} {ds : List (NestedKey × PyData)}, Paired (NkR H) xs ds → (∀ d, lookN ds k = some d → ∃ p u, atKey xs k = some p ∧ RelV u p.2 ∧ Dt H u d) ∧ (lookN ds k = none → atKey xs k = none)
  | _, _, .nil => ⟨fun d h => by simp [lookN] at h, fun _ => rfl⟩
  | x :: xs, p :: ds, .cons r t => by
    obtain ⟨h1, h2⟩ := look_n (k := k) t
    obtain ⟨e1, _, _, u, ru, du⟩ := r
    by_cases e : p.1 = k
    · refine ⟨fun d h => ?_, fun h => ?_⟩
      · simp [lookN, List.find?_cons, e] at h
        subst h
        exact ⟨x.2, u, by simp [atKey, List.find?_cons, e1, e], ru, du⟩
      · simp [lookN, List.find?_cons, e] at h
    · have e2 : lookN (p :: ds) k = lookN ds k := by simp [lookN, List.find?_cons, e]
      have e3 : atKey (x :: xs) k = atKey xs k := by simp [atKey, List.find?_cons, e1, e]
      rw [e2, e3]
      exact ⟨h1, h2⟩
theorem look_some {k : NestedKey} {xs : List (NestedKey × Addr × Value)} {ds : List (NestedKey × PyData)} (h : Paired (NkR H) xs ds) : (atKey xs k).isSome = (lookN ds k).isSome := by
  obtain ⟨h1, h2⟩ := look_n (k := k) h
  cases e : lookN ds k with
  | none => rw [h2 e]; rfl
  | some d => obtain ⟨p, _, e', _⟩ := h1 d e; rw [e']; rfl
theorem Paired.app1 {α β : Type} {F : α → β → Prop} {x : α} {y : β} (h : F x y) : ∀ {xs : List α} {ys : List β}, Paired F xs ys → Paired F (xs ++ [x]) (ys ++ [y])
  | _, _, .nil => .cons h .nil
  | _, _, .cons a r => .cons a (Paired.app1 h r)
theorem map_n {k : NestedKey} {r : Value} {u : V} {d : PyData} (ru : RelV u r) (du : Dt H u d) : ∀ {xs : List (NestedKey × Addr × Value)} {ds : List (NestedKey × PyData)}, Paired (NkR H) xs ds → Paired (NkR H) (xs.map (putAt k r)) (ds.map fun kv => if kv.1 = k then (kv.1, d) else kv)
  | _, _, .nil => .nil
  | x :: xs, p :: ds, .cons a t => by
    rw [List.map_cons, List.map_cons]
    refine .cons ?_ (map_n ru du t)
    obtain ⟨e1, h2, h3, h4⟩ := a
    unfold putAt
    show NkR H _ (if p.1 = k then (p.1, d) else p)
    by_cases e : p.1 = k
    · rw [if_pos (e1.trans e), if_pos e]
      exact ⟨e1, h2, h3, u, ru, du⟩
    · rw [if_neg (fun z => e (e1.symm.trans z)), if_neg e]
      exact ⟨e1, h2, h3, h4⟩
theorem put_n {k : NestedKey} {b : Addr} {r : Value} {u : V} {d : PyData} (hk : kOk k) (hb : Dt H (.ref b) k.data) (ru : RelV u r) (du : Dt H u d) {xs : List (NestedKey × Addr × Value)} {ds : List (NestedKey × PyData)} (h : Paired (NkR H) xs ds) : Paired (NkR H) (storedH xs k b r) (putN ds k d) := by
  unfold storedH putN
  rw [look_some h]
  split
  · exact map_n ru du h
  · exact Paired.app1 ⟨rfl, hk, hb, u, ru, du⟩ h
theorem putN_length (kvs : List (NestedKey × PyData)) (k : NestedKey) (v : PyData) : (putN kvs k v).length ≤ kvs.length + 1 := by
  unfold putN
  split <;> simp
theorem nc_dict (I : Inv X pins σ H s) {a : Addr} {o : Obj} {xs : List (NestedKey × Addr × Value)} {ds : List (NestedKey × PyData)} {es : Array DictEntry} {ep : Nat} (ha : H a = some (NcO a o)) (h1 : o.ExactDict) (h2 : o.data = .dict es ep) (h3 : ∀ w : World, es.toList = xs.map fun x => ⟨x.1.hash w, .ref x.2.1, x.2.2⟩) (h4 : (xs.map (·.1)).Nodup) (h5 : Paired (NkR H) xs ds) : s.heap.DictOfH (nestedKind X.prog X.w) a xs := by
  obtain ⟨ho, _⟩ := I.hok a _ ha
  refine ⟨o, es, ep, ho, h1, h2, h3 X.w, fun x hx => ?_, h4⟩
  have : ∀ {xs : List (NestedKey × Addr × Value)} {ds : List (NestedKey × PyData)}, Paired (NkR H) xs ds → ∀ x ∈ xs, NestedIs s.heap x.1 (.ref x.2.1) ∧ x.1.depth ≤ 8 := by
    intro xs ds h
    induction h with
    | nil => exact fun _ z => nomatch z
    | cons a t ih =>
      intro x hx
      rcases List.mem_cons.mp hx with rfl | hx
      · obtain ⟨e1, hk, hb, _⟩ := a
        rw [e1]
        exact ⟨nest_of I _ hb rfl, hk.2⟩
      · exact ih x hx
  exact this h5 x hx
theorem key_n (I : Inv X pins σ H s) {b : Addr} {k : NestedKey} (hk : kOk k) (hb : Dt H (.ref b) k.data) : (nestedKind X.prog X.w).is s.heap k b := ⟨nest_of I _ hb rfl, hk.2⟩
theorem room_n {A : Around} (hu : A.units + 64 < cLine) : (nestedKind X.prog X.w).room A.in1 := by
  show A.in1.units + 8 < cLine
  have : A.in1.units ≤ A.units + 1 := Nat.le_refl _
  omega
end
/-! the rules -/
def tNGet (td ty : TE) : TE := fun σ H Q => td σ H fun x H1 => ty σ H1 fun y H2 => ∃ W a ds k v b, x = .ref a ∧ NcAt W H2 a ds ∧ y = .ref b ∧ Dt H2 y k.data ∧ kOk k ∧ lookN ds k = some v ∧ ∀ u, Dt H2 u v → Q u H2
def tNGet2 (td ty tx : TE) : TE := fun σ H Q => td σ H fun x H1 => ∃ a W ds, x = .ref a ∧ NcAt W H1 a ds ∧ ty σ H1 fun y H2 => tx σ H2 fun z H3 => ∃ k b, NcAt W H3 a ds ∧ y = .ref b ∧ Dt H3 y k.data ∧ kOk k ∧ ((lookN ds k = none → Q z H3) ∧ ∀ v u, lookN ds k = some v → Dt H3 u v → Q u H3)
def sNPut (td ty tv : TE) : TS := fun D σ H => tv σ H fun v H1 => td σ H1 fun x H2 => ty σ H2 fun y H3 => ∃ W a ds k b d, x = .ref a ∧ NcAt W H3 a ds ∧ y = .ref b ∧ Dt H3 y k.data ∧ kOk k ∧ Dt H3 v d ∧ ds.length < sizeLine ∧ ∀ o, NcAt W (upd H3 a (NcO a o)) a (putN ds k d) → D.nx σ (upd H3 a (NcO a o))
section
variable {X : Cx} {o i e f value : Expr} {pos pos' tpos apos cpos : Pos} {td ty tx tv : TE}
theorem pe_nget (hu : X.A.units + 64 < cLine) (ho : PE X o td) (hi : PE X i ty) (hs : NoSl i) : PE X (.Subscript o i pos) (tNGet td ty) := by
  refine ⟨fun pins s σ H Q I h => ?_⟩
  refine subD_of PySem.F.slot_dict_getitem.lookup hs (thn (ho.run pins s σ H _ I h) fun u s1 ⟨x, H1, I1, rx, q1⟩ => thn (hi.run pins s1 σ H1 _ I1 q1) fun iv s2 ⟨y, H2, I2, ry, W, a, ds, k, v, b, ex, nc, ey, dy, hk, hl, q2⟩ => ?_)
  subst ex ey
  obtain rfl : u = Value.ref a := rx
  obtain rfl : iv = Value.ref b := ry
  obtain ⟨nM, ob, ha, sm, xs, es, ep, h1, h2, h3, h4, h5⟩ := nc
  have dd := nc_dict I2 ha h1 h2 h3 h4 h5
  obtain ⟨p, u, hp, ru, du⟩ := (look_n (k := k) h5).1 v hl
  exact ⟨dd.typeIs, wpAny_getItem_heap (room_n hu) (key_n I2 hk dy) dd hp ⟨u, H2, I2.tok _, ru, q2 u du⟩⟩
theorem pe_nget2 (hu : X.A.units + 64 < cLine) (ho : PE X o td) (he : PE X e ty) (hf : PE X f tx) (m : M2 X o "get" apos e f cpos) : PE X (.Call (.Attribute o "get" apos) [e, f] [] cpos) (tNGet2 td ty tx) := by
  refine ⟨fun pins s σ H Q I h => ?_⟩
  refine wpAny_Call_method m.base m.few m.line PySem.F.plainAttrs_dict PySem.F.slot_dict_get PySem.F.type_dict_get (thn (ho.run pins s σ H _ I h) fun u s1 ⟨x, H1, I1, rx, a, W, ds, ex, nc, q1⟩ => ?_)
  subst ex
  obtain rfl : u = Value.ref a := rx
  obtain ⟨nM, ob, ha, sm, xs, es, ep, h1, h2, h3, h4, h5⟩ := nc
  have dd := nc_dict I1 ha h1 h2 h3 h4 h5
  refine ⟨dd.typeIs, fun b q => ?_, ?_⟩
  · cases q
    obtain ⟨ob, _, _, z1, z2, _⟩ := dd
    exact ⟨ob, z1, z2.2.1⟩
  rw [m.trees]
  refine Calls.callWith_builtin rfl (Calls.evalArgs_plain (Calls.spliced_cons (thn (he.run pins s1 σ H1 _ I1 q1) fun iv s2 ⟨y, H2, I2, ry, q2⟩ =>
    Calls.spliced_cons (thn (hf.run pins s2 σ H2 _ I2 q2) fun fv s3 ⟨z, H3, I3, rz, k, b, nc3, ey, dy, hk, q3⟩ => Calls.spliced_nil ?_))))
  subst ey
  obtain rfl : iv = Value.ref b := ry
  obtain ⟨nM, ob, ha, sm, xs, es, ep, h1, h2, h3, h4, h5⟩ := nc3
  have dd := nc_dict I3 ha h1 h2 h3 h4 h5
  refine call_meetsIn PySem.F.slot_dict_get dd.typeIs PySem.F.entry_dict_get (PySem.F.args_dict_get_3 _ _ _) (meetsH_dict_get_default (nestedKind X.prog X.w) a b sm fv) ⟨room_n hu, k, xs, key_n I3 hk dy, dd, ?_⟩
  obtain ⟨l1, l2⟩ := look_n (k := k) h5
  cases hl : lookN ds k with
  | none =>
    rw [l2 hl]
    exact ⟨z, H3, I3.tok _, rz, q3.1 hl⟩
  | some v =>
    obtain ⟨p, u, hp, ru, du⟩ := l1 v hl
    rw [hp]
    exact ⟨u, H3, I3.tok _, ru, q3.2 v u hl du⟩
theorem ps_nput (hu : X.A.units + 64 < cLine) (ho : PE X o td) (hi : PE X i ty) (hv : PE X value tv) (hs : swapsWith value (some (.Subscript o i pos')) pos.line X.env = pure false) :
    PS X (.Assign [.Subscript o i pos'] value pos) (sNPut td ty tv) := by
  refine ⟨fun pins s σ H D I h => ?_⟩
  refine wpAny_Assign_Subscript (thn (hv.run pins s σ H _ I h) fun r s1 ⟨v, H1, I1, rv, q1⟩ => thn (ho.run pins s1 σ H1 _ I1 q1) fun u s2 ⟨x, H2, I2, rx, q2⟩ => thn (hi.run pins s2 σ H2 _ I2 q2) fun iv s3 ⟨y, H3, I3, ry, W, a, ds, k, b, d, ex, nc, ey, dy, hk, dv, few, q3⟩ => ?_) hs
  subst ex ey
  obtain rfl : u = Value.ref a := rx
  obtain rfl : iv = Value.ref b := ry
  obtain ⟨nM, ob, ha, sm, xs, es, ep, h1, h2, h3, h4, h5⟩ := nc
  have dd := nc_dict I3 ha h1 h2 h3 h4 h5
  have hl : xs.length ≤ sizeLine := by rw [Paired.length h5]; omega
  refine wpAny_setItem_heap (hsz := hl) (room_n hu) (key_n I3 hk dy) dd fun h' dd' hs' => ?_
  obtain ⟨q, es', ep', hq, g1, g2, g3, _, g4⟩ := dd'
  have fk : Fk H3 (upd H3 a (NcO a q)) := fun p o u e => by
    rw [upd_ne (ne_of e ha (by intro z; cases z))]
    exact e
  have pn := put_n hk dy rv dv h5
  refine ⟨σ, upd H3 a (NcO a q), d_write I3 (by rw [ha]; exact True.intro) hs' ⟨q, hq⟩ ⟨hq, ⟨q, hq⟩, fun z1 z2 e1 e2 => e2 _ e1⟩, q3 q ⟨nM, q, upd_same, sm, storedH xs k b r, es', ep', g1, g2, fun w => ?_, g4, Paired.mapP pn fun x p z => z.mono fk⟩⟩
  have hh : ∀ {xs : List (NestedKey × Addr × Value)} {ds : List (NestedKey × PyData)}, Paired (NkR H3) xs ds → xs.map (entryOfKey (nestedKind X.prog X.w)) = xs.map fun x => (⟨x.1.hash w, .ref x.2.1, x.2.2⟩ : DictEntry) := by
    intro xs ds h
    induction h with
    | nil => rfl
    | cons z t ih =>
      rw [List.map_cons, List.map_cons, ih]
      congr 1
      obtain ⟨e1, hk, _⟩ := z
      unfold entryOfKey
      show DictEntry.mk (NestedKey.hash X.w _) _ _ = _
      rw [e1, hk.1 X.w w]
  rw [g3]
  exact hh pn
def tNNew : TE := fun σ H Q => ∀ p o, H p = none → (p == sysModules) = false → o.ExactDict → o.data = .dict #[] 0 → Q (.ref p) (upd H p (NcO p o))
theorem pe_nnew : PE X (.Dict [] [] pos) tNNew := ⟨fun pins s σ H Q I h => by
  have here : (s.heap.push { cls := .type "dict", data := .dict #[] }).get? s.heap.objs.size = some { cls := .type "dict", data := .dict #[] } := Heap.get?_push_size _ rfl
  refine wpAny_Dict_empty ⟨.ref s.heap.objs.size, _, I.laid (a := s.heap.objs.size) (o := NcO s.heap.objs.size { cls := .type "dict", data := .dict #[] }) (t' := s.toks) (fun _ _ q => Heap.get?_push_of_some _ q) (Nat.le_refl _) ⟨here, ⟨_, here⟩, fun z1 z2 e1 e2 => e2 _ e1⟩, rfl, h _ _ (I.hok.fresh (Nat.le_refl _)) ?_ ⟨rfl, rfl, rfl⟩ rfl⟩
  exact beq_eq_false_iff_ne.mpr (Ne.symm (Nat.ne_of_lt I.big))⟩
/-! the walk over the keys -/
def Itn (d : Addr) (o : Obj) (es : Array DictEntry) : It :=
  ⟨fun i H => H d = some (NcO d o) ∧ i < es.size, fun i H x H' => H' = H ∧ ∃ en q, es[i]? = some en ∧ en.key = .ref q ∧ x = .ref q, fun i H => H d = some (NcO d o) ∧ es.size ≤ i⟩
theorem turn_n {P : Program} {w : World} {K : PySem.W.Frag} {tg : Expr} {d : Addr} {o : Obj} {es : Array DictEntry} {ep : Nat} (it : Addr) (hod : o.data = .dict es ep) (hk : ∀ (i : Nat) (en : DictEntry), es[i]? = some en → ∃ q, en.key = .ref q) : Turn P w K tg (Itn d o es) [it] it (fun i h => h.IsKeyIter it d i es.size ep) where
  mem := by simp
  obj := fun i h st b hb => by
    have e : b = it := by simpa using hb
    subst e
    obtain ⟨oi, e, c, dd⟩ := st
    exact ⟨oi, e, fun v z => by rw [dd] at z; cases z⟩
  keep := fun i h h' st k => st.at fun oi e => k it (by simp) oi e
  item := by
    intro X hP hw hK hc i pins s σ H E I hf st hg
    subst hP hw hK
    obtain ⟨hd, hi⟩ := hg
    obtain ⟨f0, f1, f2, f3, f4, f5⟩ := hf it (by simp)
    obtain ⟨hgd, _⟩ := I.hok d _ hd
    obtain ⟨en, hen⟩ : ∃ en, es[i]? = some en := ⟨es[i], Array.getElem?_eq_getElem hi⟩
    obtain ⟨q, hq⟩ := hk i en hen
    refine next_key_item st hgd hod rfl hen fun h' st' sb => ?_
    have I1 : Inv X pins σ H { s with heap := h' } := I.turned (t' := s.toks) (fun b ob hb e => (sb.2 b hb).trans e) f0 f1 f3 f4 f5
    obtain ⟨oi, e, c, dd⟩ := id st'
    exact ⟨en.key, rfl, go_of (s := { s with heap := h' }) e c dd (by decide) ⟨.ref q, H, I1, hq, ⟨rfl, en, q, hen, hq, rfl⟩, st', fun b hb => (hf b hb).1⟩⟩
  done := by
    intro X hP hw hK hc i pins s σ H E I hf st hg
    subst hP hw hK
    obtain ⟨hd, hi⟩ := hg
    obtain ⟨f0, f1, f2, f3, f4, f5⟩ := hf it (by simp)
    obtain ⟨hgd, _⟩ := I.hok d _ hd
    exact next_key_end (I.ok.hd hc) st hgd hod rfl hi fun h' eb => ⟨rfl, I.turned (t' := s.toks) (fun b ob hb e => eb b ob hb e) f0 f1 f3 f4 f5⟩
  self := fun A i s Q E st h => wpAny_pyIter_keyiter st h
def iN (td : TE) : TI := fun σ H R => td σ H fun x H1 => ∃ d o es ep, x = .ref d ∧ H1 d = some (NcO d o) ∧ (d == sysModules) = false ∧ o.ExactDict ∧ o.data = .dict es ep ∧ (∀ (i : Nat) (en : DictEntry), es[i]? = some en → ∃ q, en.key = .ref q) ∧ R (Itn d o es) H1
theorem pi_n {tg : Expr} (he : PE X e td) : PI X tg e (iN td) := by
  refine ⟨fun pins s σ H R I h => ?_⟩
  refine thn (he.run pins s σ H _ I h) fun u s1 ⟨x, H1, I1, rx, d, o, es, ep, ex, hd, sm, hx, hdt, hk, q⟩ => ?_
  subst ex
  obtain rfl : u = Value.ref d := rx
  obtain ⟨hgd, _⟩ := I1.hok d _ hd
  exact iter_keys sm hgd hx hdt (pi_one (tk := s1.toks) I1 _ (turn_n _ hdt hk) ⟨_, Heap.get?_push_size _ rfl, rfl, rfl⟩ q)
end
end Wp

namespace Wp
open PySem PySem.Spec PyProof.Rows L2 Evl
section
variable {X : Cx} {e a b : Expr} {es : List Expr} {m ma mb : WE} {ms : WL} {pos : Pos}
def asN : Sl → Option (List (NestedKey × PyData))
  | .n kvs => some kvs
  | .rn kvs => some kvs
  | _ => none
theorem Sit.ndic {W : Wld} {H0 : Bs} {H : Hp} {σ : L2.St} {E : Env} {b i : Nat} {s : Sl} {ds : List (NestedKey × PyData)} (S : Sit W H0 σ H E b) (h : E[i]? = some s) (hs : asN s = some ds) : ∃ a, σ[i]? = some (some (.ref a)) ∧ NcAt W H a ds := by
  cases s <;> simp [asN] at hs <;> subst hs
  · obtain ⟨v, h1, a, rfl, _, n⟩ := S.at_ i _ h; exact ⟨a, h1, n⟩
  · obtain ⟨v, h1, a, rfl, _, n⟩ := S.at_ i _ h; exact ⟨a, h1, n⟩
theorem Dt.tupRef {H : Hp} {v : V} {ks : List NestedKey} (h : Dt H v (NestedKey.tup ks).data) : ∃ b, v = .ref b := by
  rw [NestedKey.data] at h
  obtain ⟨b, _, _, rfl, _⟩ := h.tup_inv
  exact ⟨b, rfl⟩
/-- d[k], k a tuple -/
def mNG (i : Nat) (mk : WE) : WE := fun E b R => ∃ s ds, E[i]? = some s ∧ asN s = some ds ∧ mk E b fun d b1 => ∃ ks v, d = (NestedKey.tup ks).data ∧ kOk (.tup ks) ∧ lookN ds (.tup ks) = some v ∧ R v b1
theorem pm_ng {i : Nat} {q : Expr} {mk : WE} (h : PE X q (tNGet (tVar i) (tE mk))) : PE X q (tE (mNG i mk)) := h.weak fun σ H Q ⟨W, H0, E, b, R, S, ⟨s, ds, hE, hs, hm⟩, k⟩ => by
  obtain ⟨a, hσ, nc⟩ := S.ndic hE hs
  refine ⟨_, hσ, W, H0, E, b, _, S, hm, fun d b1 v H1 ⟨ks, z, e1, hk, hl, hr⟩ k1 d1 t1 => ?_⟩
  subst e1
  obtain ⟨b', rfl⟩ := t1.tupRef
  exact ⟨W, a, ds, .tup ks, z, b', rfl, nc.step S.dk k1, rfl, t1, hk, hl, fun u du => k z b1 u H1 hr k1 d1 du⟩
/-- d.get(k, x) -/
def mNGd (i : Nat) (mk mx : WE) : WE := fun E b R => ∃ s ds, E[i]? = some s ∧ asN s = some ds ∧ mk E b fun d b1 => mx E b1 fun x b2 => ∃ ks, d = (NestedKey.tup ks).data ∧ kOk (.tup ks) ∧ R ((lookN ds (.tup ks)).getD x) b2
theorem pm_ngd {i : Nat} {q : Expr} {mk mx : WE} (h : PE X q (tNGet2 (tVar i) (tE mk) (tE mx))) : PE X q (tE (mNGd i mk mx)) := h.weak fun σ H Q ⟨W, H0, E, b, R, S, ⟨s, ds, hE, hs, hm⟩, k⟩ => by
  obtain ⟨a, hσ, nc⟩ := S.ndic hE hs
  refine ⟨_, hσ, a, W, ds, rfl, nc, W, H0, E, b, _, S, hm, fun d b1 v H1 h1 k1 d1 t1 => ⟨W, H0, E, b1, _, S.step k1 d1, h1, fun x b2 u H2 ⟨ks, e1, hk, hr⟩ k2 d2 t2 => ?_⟩⟩
  subst e1
  obtain ⟨b', rfl⟩ := t1.tupRef
  have k12 := k1.trans k2
  refine ⟨.tup ks, b', nc.step S.dk k12, rfl, t1.mono (W.fk d1 k2), hk, fun hl => ?_, fun v u' hl du => ?_⟩
  · rw [hl] at hr
    exact k _ b2 u H2 hr k12 d2 t2
  · rw [hl] at hr
    exact k _ b2 u' H2 hr k12 d2 du
/-- d[k] = v -/
def mNPut (i : Nat) (mk mv : WE) : WS := fun E b F => ∃ ds, E[i]? = some (.n ds) ∧ mv E b fun v b1 => mk E b1 fun d b2 => ∃ ks, d = (NestedKey.tup ks).data ∧ kOk (.tup ks) ∧ ds.length < 100000 ∧ F.nx (E.set i (.n (putN ds (.tup ks) v))) b2
theorem pm_nput {i : Nat} {st : Stmt} {mk mv : WE} (h : PS X st (sNPut (tVar i) (tE mk) (tE mv))) : PS X st (tS xw (mNPut i mk mv)) := h.weak fun D σ H ⟨W, H0, E, b, F, S, ⟨ds, hE, hm⟩, k⟩ => by
  obtain ⟨u, hσ', a, rfl, h0, nc⟩ := S.at_ i _ hE
  refine ⟨W, H0, E, b, _, S, hm, fun v b1 w H1 h1 k1 d1 t1 => ⟨_, hσ', W, H0, E, b1, _, S.step k1 d1, h1, fun d b2 y H2 ⟨ks, e1, hk, few, hF⟩ k2 d2 t2 => ?_⟩⟩
  subst e1
  obtain ⟨b', rfl⟩ := t2.tupRef
  have k12 := k1.trans k2
  have nc2 := nc.step S.dk k12
  refine ⟨W, a, ds, .tup ks, b', v, rfl, nc2, rfl, t2, hk, t1.mono (W.fk d1 k2), sz_lt few, fun o nco => ?_⟩
  obtain ⟨nM, ob, ha2, _⟩ := nc2
  exact k.nx _ _ _ b2 (((S.step k1 d1).step k2 d2).put (s' := .n (putN ds (.tup ks) v)) hE rfl rfl hσ' h0 nM ha2 (fun q u z => by cases z) ⟨a, rfl, h0, nco⟩) hF
/-- {} -/
def vN0 : WV := fun _ b R => R (.n []) b
theorem pm_n0 : PE X (.Dict [] [] pos) (tV vN0) := pe_nnew.weak fun σ H Q ⟨W, H0, E, b, R, S, hm, k⟩ p o np sm hx hd =>
  k _ b _ _ hm (Kp.ex (Ex.new np)) (W.ex (Ex.new np) S.dk) ⟨p, rfl, S.kp.back (W.free S.dk np) np, W.free S.dk np, o, upd_same, sm, [], #[], 0, hx, hd, fun _ => rfl, List.nodup_nil, .nil⟩ (fun _ => ⟨p, rfl, np⟩)
/-- [ml for t in d if mt] -/
def mLcN (t : WG1) (i : Nat) (mt : WT) (ml : WE) (vs : List Nat) : WL := fun E b R => ∃ s ds, E[i]? = some s ∧ asN s = some ds ∧ mComp t mt ml (wipeE E vs) (ds.map fun p => p.1.data) [] b R
theorem walk_n {d : Addr} {o : Obj} {es : Array DictEntry} : Walk (Itn d o es) es.size (fun H => H d = some (NcO d o)) (fun i H x H' => H' = H ∧ ∃ en q, es[i]? = some en ∧ en.key = .ref q ∧ x = .ref q) :=
  ⟨fun _ _ hi q => ⟨q, hi⟩, fun _ q => ⟨q, Nat.le_refl _⟩, fun _ _ _ _ _ _ y => y⟩
theorem paired_at {α β : Type} {F : α → β → Prop} : ∀ {xs : List α} {ys : List β} {i : Nat} {x : α}, Paired F xs ys → xs[i]? = some x → ∃ y, ys[i]? = some y ∧ F x y
  | _, _, _, _, .nil, e => by simp at e
  | _, _, 0, _, .cons a _, e => by simp at e; subst e; exact ⟨_, rfl, a⟩
  | _, _, i + 1, _, .cons _ r, e => by
    obtain ⟨y, h1, h2⟩ := paired_at (i := i) r (by simpa using e)
    exact ⟨y, by simpa using h1, h2⟩
theorem lcN_of (w : World) {g : TG} {t : WG1} {ws vs : List Nat} {i : Nat} {mt : WT} {ml : WE} {σ : L2.St} {H : Hp} {Q : VK} (gb : GB Dt ws g t) (hw : ∀ i ∈ ws, i ∈ vs) (h : tL (mLcN t i mt ml vs) σ H Q) : tLc (iN (tVar i)) g (tT mt) (tE ml) vs σ H Q := by
  obtain ⟨W, H0, E, b, R, S, ⟨s, ds, hE, hs, hm⟩, k⟩ := h
  obtain ⟨a, hσ, nM, o, ha, sm, xs, es, ep, h1, h2, h3, h4, h5⟩ := S.ndic hE hs
  have at_ : ∀ (i : Nat) (en : DictEntry), es[i]? = some en → ∃ x, xs[i]? = some x ∧ en = ⟨x.1.hash w, .ref x.2.1, x.2.2⟩ := fun i en e => by
    rw [← Array.getElem?_toList, h3 w, List.getElem?_map] at e
    obtain ⟨x, hx, e⟩ := Option.map_eq_some_iff.mp e
    exact ⟨x, hx, e.symm⟩
  have hsz : es.size = xs.length := by rw [← Array.length_toList, h3 w, List.length_map]
  refine ⟨_, hσ, a, o, es, ep, rfl, ha, sm, h1, h2, fun i en e => ?_, ?_⟩
  · obtain ⟨x, _, rfl⟩ := at_ i en e
    exact ⟨_, rfl⟩
  · refine comp_core (walk_n (d := a) (o := o) (es := es)) gb hw S (by rw [hsz, List.length_map, ← Paired.length h5]) (fun H' f kp => kp a _ nM ha) hm ?_ fun ds b' a zs H' r kp dk na ha ta => k ds b' a zs H' r kp dk na ha ta
    rintro i H2 x _ f ⟨rfl, en, q, hen, hq, rfl⟩
    obtain ⟨x, hx, rfl⟩ := at_ i en hen
    cases hq
    obtain ⟨p, hp, e1, _, hd, _⟩ := paired_at h5 hx
    refine ⟨Ex.refl _, p.1.data, by simp [hp], ?_⟩
    exact hd.mono f
/-! ### a for over an own dict: it is locked -/
def dicD (kvs : List (Key × PyData)) : PyData := .dict (kvs.map fun p => (keyD p.1, p.2))
theorem DtK.all {H : Hp} : ∀ {xs : List (Key × V)} {ds : List (Key × PyData)}, DtK H xs ds → DtAll H (xs.map (·.2)) (ds.map (·.2))
  | _, _, .nil => .nil
  | _, _, .cons t r => .cons t r.all
theorem zip_keys : ∀ {xs : List (Key × V)} {ds : List (Key × PyData)} {H : Hp}, DtK H xs ds → (xs.map fun p => keyD p.1).zip (ds.map (·.2)) = ds.map fun p => (keyD p.1, p.2)
  | _, _, _, .nil => rfl
  | _, _, _, .cons t r => by simp [zip_keys r]
theorem Dt.ofK {H : Hp} {a : Addr} {o : Obj} {xs : List (Key × V)} {ds : List (Key × PyData)} (h : H a = some (.frz o (.dK xs))) (t : DtK H xs ds) : Dt H (.ref a) (dicD ds) := by
  have := Dt.dic h rfl t.all
  rw [zip_keys t] at this
  exact this
theorem keyD_inj {j k : Key} (h : keyD j = keyD k) : j = k := by
  cases j <;> cases k <;> simp [keyD] at h <;> rw [h]
theorem dtk_of {H : Hp} : ∀ {xs : List (Key × V)} {ds : List (Key × PyData)} {zs : List PyData}, DtAll H (xs.map (·.2)) zs → (xs.map fun p => keyD p.1).zip zs = (ds.map fun p => (keyD p.1, p.2)) → DtK H xs ds
  | [], ds, zs, h, e => by
    cases ds with
    | nil => exact .nil
    | cons _ _ => simp at e
  | x :: xs, ds, zs, h, e => by
    cases h with
    | cons t r =>
      cases ds with
      | nil => simp at e
      | cons d ds =>
        simp only [List.map_cons, List.zip_cons_cons, List.cons.injEq, Prod.mk.injEq] at e
        obtain ⟨⟨e1, e2⟩, e3⟩ := e
        have := keyD_inj e1
        obtain ⟨x1, x2⟩ := x
        obtain ⟨d1, d2⟩ := d
        simp only at this e2
        subst this e2
        exact .cons t (dtk_of r e3)
theorem Dt.dicK {H : Hp} {v : V} {ds : List (Key × PyData)} (h : Dt H v (dicD ds)) : ∃ a o xs, v = .ref a ∧ H a = some (.frz o (.dK xs)) ∧ DtK H xs ds := by
  generalize hz : dicD ds = z at h
  cases h with
  | dic ha hv t =>
    unfold dicD at hz
    simp only [PyData.dict.injEq] at hz
    subst hv
    exact ⟨_, _, _, rfl, ha, dtk_of t hz.symm⟩
  | _ => cases hz
/-- d[k], d locked -/
def mDGL (i : Nat) (mk : WE) : WE := fun E b R => ∃ ds, E[i]? = some (.d (dicD ds)) ∧ mk E b fun d b1 => ∃ k v, dKey d = some k ∧ lookD ds k = some v ∧ R v b1
theorem pm_dgl {i : Nat} {q k : Expr} {mk : WE} (h : PE X q (tDGet (tVar i) (tE mk))) : PE X q (tE (mDGL i mk)) := h.weak fun σ H Q ⟨W, H0, E, b, R, S, ⟨ds, hE, hm⟩, k⟩ => by
  obtain ⟨v, hσ, x, rfl, hx⟩ := S.at_ i _ hE
  obtain ⟨a, o, kvs, rfl, ha, hd⟩ := hx.dicK
  refine ⟨_, hσ, W, H0, E, b, _, S, hm, fun d b1 v H1 ⟨k', z, e1, e2, hr⟩ k1 d1 t1 => ?_⟩
  have hd1 := hd.mono (W.fk S.dk k1)
  obtain ⟨w, hv, tw⟩ := (hd1.look (k := k')).1 z e2
  exact ⟨a, w, rfl, .inl ⟨kvs, k', .inr ⟨o, W.fk S.dk k1 _ _ _ ha⟩, t1.key e1, hv.symm⟩, k _ b1 w H1 hr k1 d1 tw⟩
/-- for t in d: the own dict in slot i; it stays locked -/
def mForD (t : WG1) (i : Nat) (m : WS) : WS := fun E b F => ∃ ds, E[i]? = some (.m ds) ∧ mTurns t m (ds.map fun p => keyD p.1) (E.set i (.d (dicD ds))) b F
theorem Dt.kV {H : Hp} (k : Key) : Dt H (L2.kV k) (keyD k) := by
  cases k with
  | inl i => exact .int i
  | inr x => exact .str x
theorem DtK.at_ {H : Hp} : ∀ {xs : List (Key × V)} {ds : List (Key × PyData)} {i : Nat} {k : Key} {v : V}, DtK H xs ds → xs[i]? = some (k, v) → ∃ d, ds[i]? = some (k, d)
  | _, _, _, _, _, .nil, e => by simp at e
  | _, _, 0, _, _, .cons _ _, e => by simp at e; obtain ⟨rfl, rfl⟩ := e; exact ⟨_, rfl⟩
  | _, _, i + 1, _, _, .cons _ r, e => by
    obtain ⟨d, h⟩ := r.at_ (i := i) (by simpa using e)
    exact ⟨d, by simpa using h⟩
theorem pm_forD {ws : List Nat} {tg iter : Expr} {body : List Stmt} {g : TG} {t : WG1} {m : WS} {i : Nat} (hp : PassesOwn (model X.prog X.w) X.A X.env X.xe) (hc : X.calm = true) (hi : PE X iter (tVar i)) (hg : PG X tg g) (gb : GB Dt ws g t) (hb : PSs X body (tS xw m)) (hs : ∀ x, foldedSetIterable iter X.env x = pure x := by intro _; rfl) : PS X (.For tg iter body [] pos) (tS xw (mForD t i m)) := by
  refine ⟨fun pins s σ H D I ⟨W, H0, E, b, F, S, ⟨ds, hE, hm⟩, k⟩ => ?_⟩
  obtain ⟨u, hσ, a, rfl, h0, nM, kvs, ha, hd⟩ := S.at_ i _ hE
  obtain ⟨od, I1⟩ := I.lock ha True.intro
  have fk : Fk H (upd H a (.frz od (.dK kvs))) := fun p o u e => by
    rw [upd_ne (ne_of e ha (by intro z; cases z))]
    exact e
  have S1 : Sit W H0 σ (upd H a (.frz od (.dK kvs))) (E.set i (.d (dicD ds))) b := S.put0 hE rfl hσ h0 nM ha (fun q u z => by cases z) ⟨_, rfl, .ofK upd_same (hd.mono fk)⟩
  refine (ps_for hp hc (pi_keys hi) hg hb hs).run pins s σ _ D I1 ⟨_, hσ, a, od, rfl, .inl ⟨kvs, upd_same, ?_⟩⟩
  refine turns_for (walk_keys (d := a) (o := od) (kvs := kvs)) gb S1 k (by rw [List.length_map, hd.length]) (fun H' f => f _ _ _ upd_same) hm ?_
  rintro j H2 x _ f ⟨rfl, kk, v, hkv, rfl⟩
  obtain ⟨d, hdj⟩ := hd.at_ hkv
  exact ⟨Ex.refl _, keyD kk, by simp [hdj], Dt.kV kk⟩
end
end Wp

namespace Wp
open PySem PySem.Spec PyProof.Rows L2 Evl
/-! ### comprehensions with two generators -/
def noOwn (E : Env) : Bool := E.all fun s => !isOwn s
def mComp2 (t : WG1) (mt : WT) (me1 : WE) (t1 : WG1) (mt1 : WT) (ml : WE) (vs1 : List Nat) (E : Env) : List PyData → List PyData → Nat → (List PyData → Nat → Prop) → Prop
  | [], acc, b, R => R acc b
  | x :: xs, acc, b, R => t x E fun E1 => noOwn E1 = true ∧ mt E1 b fun c b1 => if c = true then me1 E1 b1 fun d b2 => ∃ ys, itemsOf d = some ys ∧ mComp t1 mt1 ml (wipeE E1 vs1) ys acc b2 fun acc' b' => mComp2 t mt me1 t1 mt1 ml vs1 E xs acc' b' R else mComp2 t mt me1 t1 mt1 ml vs1 E xs acc b1 R
def mLc2 (t : WG1) (me : WE) (mt : WT) (t1 : WG1) (me1 : WE) (mt1 : WT) (ml : WE) (vs vs1 : List Nat) : WL := fun E b R => me E b fun d b1 => ∃ xs, itemsOf d = some xs ∧ mComp2 t mt me1 t1 mt1 ml vs1 (wipeE E vs) xs [] b1 R
section
variable {W : Wld} {H0 : Bs} {H H1 : Hp} {σ : L2.St} {E : Env} {b b1 : Nat}
theorem noOwn_at {i : Nat} {s : Sl} (h : noOwn E = true) (e : E[i]? = some s) : isOwn s = false := by
  have := List.all_eq_true.mp h s (List.mem_of_getElem? e)
  simpa using this
/-- a list that the env does not know is changed -/
theorem Sit.other {D : Addr} {zs : List V} {o : HO} (S : Sit W H0 σ H E b) (no : noOwn E = true) (hD : H D = some (.lst zs)) (h0 : H0.h0 D = none) (nM : ¬ W.M D) : Sit W H0 σ (upd H D o) E b := by
  have fk : Fk H (upd H D o) := fk_put hD
  refine ⟨S.len, fun j t e => ?_, S.apart, S.kp.mut h0, W.put nM S.dk, S.fk.trans fk⟩
  obtain ⟨u, h1, h2⟩ := S.at_ j t e
  refine ⟨u, h1, ?_⟩
  have neb : ∀ a', H0.h0 a' ≠ none → a' ≠ D := fun a' z w => z (by rw [w]; exact h0)
  have no := noOwn_at no e
  have nec : ∀ (a' : Addr) (p : HO), H a' = some p → (∀ xs, p ≠ .lst xs) → a' ≠ D := fun a' p hp n1 z => by
    subst z
    rw [hD] at hp
    cases hp
    exact n1 _ rfl
  cases t with
  | no => trivial
  | d x => obtain ⟨v, e1, t1⟩ := h2; exact ⟨v, e1, t1.mono fk⟩
  | l x => cases no
  | m x => cases no
  | n x => cases no
  | rl x => obtain ⟨v, rfl, e2, nm, xs, hx, t1⟩ := h2; exact ⟨v, rfl, e2, nm, xs, by rw [upd_ne (neb v e2)]; exact hx, t1.mono fk⟩
  | rm x => obtain ⟨v, rfl, e2, nm, xs, hx, t1⟩ := h2; exact ⟨v, rfl, e2, nm, xs, by rw [upd_ne (neb v e2)]; exact hx, t1.mono fk⟩
  | rn x => obtain ⟨v, rfl, e2, nm, ob, hx, r1, xs, es, ep, r2, r3, r4, r5, t1⟩ := h2; exact ⟨v, rfl, e2, nm, ob, by rw [upd_ne (neb v e2)]; exact hx, r1, xs, es, ep, r2, r3, r4, r5, Paired.mapP t1 fun x p r => r.mono fk⟩
  | s _ => exact h2
  | x a' dd f y c => obtain ⟨e1, nm, v, hx, t1⟩ := h2; exact ⟨e1, nm, v, by rw [upd_ne (nec dd _ hx (by intro _ z; cases z))]; exact hx, t1.mono fk⟩
  | o C fs => obtain ⟨v, e1, nm, dx, vs, hx, t1⟩ := h2; exact ⟨v, e1, nm, dx, vs, by rw [upd_ne (nec v _ hx (by intro _ z; cases z))]; exact hx, Paired.mapP t1 fun x p r => ⟨r.1, r.2.mono fk⟩⟩
  | r a' => exact h2
theorem lc_in {J : It} {n : Nat} {G : Hp → Prop} {Y : Nat → Hp → V → Hp → Prop} (w : Walk J n G Y) {g : TG} {tt : TT} {te : TE} {vs : List Nat} {σ : L2.St} {Hs : Hp} {D : Addr} {Qd : Hp → Prop} (Pv : Nat → Hp → Prop) (h0 : Pv 0 Hs) (hG : ∀ i H, i ≤ n → Pv i H → G H)
    (hs : ∀ i x H H', i < n → Pv i H → Y i H x H' → g x (L2.wipe σ vs) H' fun σ2 H2 => L2.wipe σ2 vs = L2.wipe σ vs ∧ tt σ2 H2 fun b H3 =>
      if b = true then te σ2 H3 fun y H4 => ∃ acc, H4 D = some (.lst acc) ∧ acc.length < sizeLine ∧ Pv (i + 1) (upd H4 D (.lst (acc ++ [y]))) else Pv (i + 1) H3) (hd : ∀ H, Pv n H → Qd H) :
    ∃ W : Nat → Nat → Hp → Prop, (∃ m, W 0 m Hs) ∧ ∀ i m H, W i m H →
      (J.stop i H ∧ Qd H) ∨ (J.go i H ∧ ∃ Nx : Hp → Prop, (∀ H', Nx H' → ∃ m', m' < m ∧ W (i + 1) m' H') ∧ ∀ x H', J.yld i H x H' → g x (L2.wipe σ vs) H' fun σ2 H2 => L2.wipe σ2 vs = L2.wipe σ vs ∧ tt σ2 H2 fun b H3 =>
        if b = true then te σ2 H3 fun y H4 => ∃ acc, H4 D = some (.lst acc) ∧ acc.length < sizeLine ∧ Nx (upd H4 D (.lst (acc ++ [y]))) else Nx H3) := by
  refine ⟨fun i m H => m = n - i ∧ i ≤ n ∧ Pv i H, ⟨n, by simp, Nat.zero_le _, h0⟩, ?_⟩
  rintro i m H ⟨rfl, hi, p⟩
  have q := hG i H hi p
  by_cases hlt : i < n
  · refine .inr ⟨w.goes i H hlt q, Pv (i + 1), fun H' p' => ⟨n - (i + 1), by omega, rfl, hlt, p'⟩, fun x H' y => hs i x H H' hlt p (w.yields i H x H' hlt q y)⟩
  · have e : i = n := by omega
    subst e
    exact .inl ⟨w.stops H q, hd H p⟩
theorem noOwn_set {E : Env} (h : noOwn E = true) (i : Nat) {s : Sl} (hs : isOwn s = false) : noOwn (E.set i s) = true := by
  refine List.all_eq_true.mpr fun x hx => ?_
  rcases List.mem_or_eq_of_mem_set hx with z | z
  · exact List.all_eq_true.mp h x z
  · subst z; simp [hs]
theorem noOwn_wipe {E : Env} (h : noOwn E = true) : ∀ vs : List Nat, noOwn (wipeE E vs) = true
  | [] => h
  | v :: vs => noOwn_set (noOwn_wipe h vs) v rfl
/-- the turns of the inner generator -/
theorem comp_inner {J : It} {n : Nat} {G : Hp → Prop} {Y : Nat → Hp → V → Hp → Prop} (w : Walk J n G Y) {g : TG} {t : WG1} {mt : WT} {ml : WE} {vs ws : List Nat} {ys : List PyData} {R : List PyData → Nat → Prop} {Nx : Hp → Prop} {Hb : Hp} {D : Addr} {zs : List V} {acc : List PyData} (gb : GB Dt ws g t) (hw : ∀ i ∈ ws, i ∈ vs) (S : Sit W H0 σ H E b) (no : noOwn E = true)
    (hDb : Hb D = none) (kb : Kp W.M Hb H) (h0D : H0.h0 D = none) (nM : ¬ W.M D) (hD : H D = some (.lst zs)) (ta : DtAll H zs acc)
    (hn : ys.length = n) (hG : ∀ H', Fk H H' → G H') (hm : mComp t mt ml (wipeE E vs) ys acc b R) (hY : ∀ i H1 v H2, Fk H H1 → Y i H1 v H2 → Ex H1 H2 ∧ ∃ x, ys[i]? = some x ∧ Dt H2 v x)
    (q : ∀ acc' b' zs' H', R acc' b' → Kp W.M Hb H' → Fk H H' → W.Dk b' H' → H' D = some (.lst zs') → DtAll H' zs' acc' → Nx H') :
    ∃ P : Nat → Nat → Hp → Prop, (∃ m, P 0 m H) ∧ ∀ i m H', P i m H' →
      (J.stop i H' ∧ Nx H') ∨ (J.go i H' ∧ ∃ Nx1 : Hp → Prop, (∀ H2, Nx1 H2 → ∃ m', m' < m ∧ P (i + 1) m' H2) ∧ ∀ x H2, J.yld i H' x H2 → g x (L2.wipe σ vs) H2 fun σ2 H2 => L2.wipe σ2 vs = L2.wipe σ vs ∧ tT mt σ2 H2 fun b H3 =>
        if b = true then tE ml σ2 H3 fun y H4 => ∃ acc, H4 D = some (.lst acc) ∧ acc.length < sizeLine ∧ Nx1 (upd H4 D (.lst (acc ++ [y]))) else Nx1 H3) := by
  refine lc_in w (Qd := Nx) (fun i H' => ∃ b' zs' acc', Sit W H0 σ H' E b' ∧ Kp W.M Hb H' ∧ Fk H H' ∧ H' D = some (.lst zs') ∧ DtAll H' zs' acc' ∧ mComp t mt ml (wipeE E vs) (ys.drop i) acc' b' R)
    ⟨b, zs, acc, S, kb, fun _ _ _ z => z, hD, ta, by simpa using hm⟩ (fun i H' _ ⟨b', zs', acc', _, _, f, _⟩ => hG H' f) ?_ ?_
  · rintro i v H1 H2 hi ⟨b', zs', acc', S1, k1, f1, h1, t1, hm'⟩ hy
    obtain ⟨e12, x, hx, bx⟩ := hY i H1 v H2 f1 hy
    have hd : ys.drop i = x :: ys.drop (i + 1) := by
      obtain ⟨hl, e⟩ := List.getElem?_eq_some_iff.mp hx
      rw [List.drop_eq_getElem_cons hl, e]
    rw [hd] at hm'
    have S2 := (S1.ex e12)
    refine gb.run (S2.wipe vs) bx hm' fun σ3 E3 h3 s3 S3 => ⟨wipe_sm s3 hw, W, H0, E3, b', _, S3, h3, fun c b4 H4 h4 k4 d4 => ?_⟩
    have k24 : Kp W.M H1 H4 := (Kp.ex e12).trans k4
    have S4 : Sit W H0 σ H4 E b4 := S1.step k24 d4
    cases c with
    | false => exact ⟨b4, zs', acc', S4, k1.trans k24, f1.trans (W.fk S1.dk k24), k24 D _ nM h1, t1.mono (W.fk S1.dk k24), h4⟩
    | true =>
      refine ⟨W, H0, E3, b4, _, S3.step k4 d4, h4, fun y b5 u H5 h5 k5 d5 t5 => ?_⟩
      have k25 := k24.trans k5
      have h5D := k25 D _ nM h1
      have t15 := t1.mono (W.fk S1.dk k25)
      have S5 : Sit W H0 σ H5 E b5 := S1.step k25 d5
      refine ⟨zs', h5D, sz_lt (by rw [t1.length]; exact h5.1), b5, zs' ++ [u], acc' ++ [y], S5.other no h5D h0D nM, (k1.trans k25).mut hDb, (f1.trans (W.fk S1.dk k25)).trans (fk_put h5D), upd_same, ?_, h5.2⟩
      exact ((t15.append (.cons t5 .nil)).mono (fk_put h5D))
  · rintro H' ⟨b', zs', acc', S1, k1, f1, h1, t1, hm'⟩
    rw [← hn, List.drop_length] at hm'
    exact q acc' b' zs' H' hm' k1 f1 S1.dk h1 t1
/-- data that is walked -/
theorem Dt.items {H : Hp} {v : V} {d : PyData} {ys : List PyData} (h : Dt H v d) (e : itemsOf d = some ys) : ∃ a o xs, v = .ref a ∧ DtAll H xs ys ∧ ((H a = some (.frz o (.lst xs))) ∨ H a = some (.frz o (.tup xs))) := by
  cases d <;> simp [itemsOf] at e <;> subst e
  · obtain ⟨a, o, xs, rfl, ha, al⟩ := h.lst_inv
    exact ⟨a, o, xs, rfl, al, .inl ha⟩
  · obtain ⟨a, o, xs, rfl, ha, _, al⟩ := h.tup_inv
    exact ⟨a, o, xs, rfl, al, .inr ha⟩
theorem lc2_core' {J : It} {n : Nat} {G : Hp → Prop} {Y : Nat → Hp → V → Hp → Prop} (w : Walk J n G Y) {K : PySem.W.Frag} {g g1 : TG} {t t1 : WG1} {mt mt1 : WT} {me1 ml : WE} {vs vs1 ws ws1 : List Nat} {xs : List PyData} {R : List PyData → Nat → Prop} {Q : VK} (gb : GB Dt ws g t) (hw : ∀ i ∈ ws, i ∈ vs) (gb1 : GB Dt ws1 g1 t1) (hw1 : ∀ i ∈ ws1, i ∈ vs1) (S : Sit W H0 σ H E b)
    (hn : xs.length = n) (hG : ∀ H', Fk H H' → G H') (hm : mComp2 t mt me1 t1 mt1 ml vs1 (wipeE E vs) xs [] b R) (hY : ∀ i H1 v H2, Fk H H1 → Y i H1 v H2 → Ex H1 H2 ∧ ∃ x, xs[i]? = some x ∧ Dt H2 v x)
    (q : ∀ ds b' a zs H', R ds b' → Kp W.M H H' → W.Dk b' H' → H a = none → H' a = some (.lst zs) → DtAll H' zs ds → Q (.ref a) H') :
    ∀ D, H D = none → ∃ P : Nat → Nat → Hp → Prop, (∃ m, P 0 m (upd H D (.lst []))) ∧ ∀ i m H', P i m H' →
      (J.stop i H' ∧ Q (.ref D) H') ∨ (J.go i H' ∧ ∃ Nx : Hp → Prop, (∀ H2, Nx H2 → ∃ m', m' < m ∧ P (i + 1) m' H2) ∧ ∀ x H2, J.yld i H' x H2 → g x (L2.wipe σ vs) H2 fun σ2 H2 => L2.wipe σ2 vs = L2.wipe σ vs ∧ tT mt σ2 H2 fun b H3 =>
        if b = true then iSq K (tE me1) σ2 H3 fun J1 H4 => ∃ W1 : Nat → Nat → Hp → Prop, (∃ m, W1 0 m H4) ∧ ∀ j k H, W1 j k H →
      (J1.stop j H ∧ Nx H) ∨ (J1.go j H ∧ ∃ Nx1 : Hp → Prop, (∀ H', Nx1 H' → ∃ k', k' < k ∧ W1 (j + 1) k' H') ∧ ∀ x H', J1.yld j H x H' → g1 x (L2.wipe σ2 vs1) H' fun σ3 H5 => L2.wipe σ3 vs1 = L2.wipe σ2 vs1 ∧ tT mt1 σ3 H5 fun b H6 =>
        if b = true then tE ml σ3 H6 fun y H7 => ∃ acc, H7 D = some (.lst acc) ∧ acc.length < sizeLine ∧ Nx1 (upd H7 D (.lst (acc ++ [y]))) else Nx1 H6)
    else Nx H3) := by
  intro D hD
  have nM : ¬ W.M D := W.free S.dk hD
  have h0D : H0.h0 D = none := S.kp.back nM hD
  refine ⟨fun i m H' => m = n - i ∧ i ≤ n ∧ ∃ b' zs acc, Kp W.M H H' ∧ W.Dk b' H' ∧ H' D = some (.lst zs) ∧ DtAll H' zs acc ∧ mComp2 t mt me1 t1 mt1 ml vs1 (wipeE E vs) (xs.drop i) acc b' R,
    ⟨n, by simp, Nat.zero_le _, b, [], [], Kp.ex (Ex.new hD), W.ex (Ex.new hD) S.dk, upd_same, .nil, by simpa using hm⟩, ?_⟩
  rintro i m H1 ⟨rfl, hi, b', zs, acc, k1, d1, h1, ta, hm'⟩
  have gq := hG H1 (W.fk S.dk k1)
  by_cases hlt : i < n
  · refine .inr ⟨w.goes i H1 hlt gq, fun H' => ∃ b' zs acc, Kp W.M H H' ∧ W.Dk b' H' ∧ H' D = some (.lst zs) ∧ DtAll H' zs acc ∧ mComp2 t mt me1 t1 mt1 ml vs1 (wipeE E vs) (xs.drop (i + 1)) acc b' R, fun H' p' => ⟨n - (i + 1), by omega, rfl, hlt, p'⟩, fun v H2 hy => ?_⟩
    obtain ⟨e12, x, hx, bx⟩ := hY i H1 v H2 (W.fk S.dk k1) (w.yields i H1 v H2 hlt gq hy)
    have hd : xs.drop i = x :: xs.drop (i + 1) := by
      obtain ⟨hl, e⟩ := List.getElem?_eq_some_iff.mp hx
      rw [List.drop_eq_getElem_cons hl, e]
    rw [hd] at hm'
    have k2 : Kp W.M H H2 := k1.trans (Kp.ex e12)
    have d2 : W.Dk b' H2 := W.ex e12 d1
    have S2 : Sit W H0 (L2.wipe σ vs) H2 (wipeE E vs) b' := (S.step k2 d2).wipe vs
    refine gb.run S2 bx hm' fun σ3 E3 h3 s3 S3 => ⟨wipe_sm s3 hw, W, H0, E3, b', _, S3, h3.2, fun c b4 H4 h4 k4 d4 => ?_⟩
    have S4 := S3.step k4 d4
    have k24 : Kp W.M H1 H4 := (Kp.ex e12).trans k4
    cases c with
    | false => exact ⟨b4, zs, acc, k2.trans k4, d4, k24 D _ nM h1, ta.mono (W.fk d1 k24), h4⟩
    | true =>
      refine ⟨W, H0, E3, b4, _, S4, h4, fun d b5 u H5 ⟨ys, hys, h5⟩ k5 d5 t5 => ?_⟩
      have k25 := k24.trans k5
      have S5 := S4.step k5 d5
      obtain ⟨a, o, us, rfl, al, ha⟩ := t5.items hys
      have fin : ∀ acc' b' zs' H', mComp2 t mt me1 t1 mt1 ml vs1 (wipeE E vs) (xs.drop (i + 1)) acc' b' R → Kp W.M H H' → Fk H5 H' → W.Dk b' H' → H' D = some (.lst zs') → DtAll H' zs' acc' → ∃ b' zs acc, Kp W.M H H' ∧ W.Dk b' H' ∧ H' D = some (.lst zs) ∧ DtAll H' zs acc ∧ mComp2 t mt me1 t1 mt1 ml vs1 (wipeE E vs) (xs.drop (i + 1)) acc b' R := fun acc' b' zs' H' r kp _ dk hd ta => ⟨b', zs', acc', kp, dk, hd, ta, r⟩
      refine ⟨a, rfl, ?_⟩
      rcases ha with ha | ha
      · refine .inl ⟨us, .inl (.inr ⟨o, ha⟩), ?_⟩
        refine comp_inner (walk_list (K := K) (a := a) (xs := us)) gb1 hw1 S5 h3.1 hD ((k2.trans k4).trans k5) h0D nM (k25 D _ nM h1) (ta.mono (W.fk d1 k25)) al.length.symm (fun H' f => .inl (.inr ⟨o, f _ _ _ ha⟩)) h5 ?_ fin
        rintro j H6 x6 _ f ⟨rfl, hx6⟩
        obtain ⟨dd, g2, g3⟩ := al.get hx6
        exact ⟨Ex.refl _, dd, g2, g3.mono f⟩
      · refine .inr ⟨us, .inl (.inr ⟨o, ha⟩), ?_⟩
        refine comp_inner (walk_tup (K := K) (a := a) (xs := us)) gb1 hw1 S5 h3.1 hD ((k2.trans k4).trans k5) h0D nM (k25 D _ nM h1) (ta.mono (W.fk d1 k25)) al.length.symm (fun H' f => .inl (.inr ⟨o, f _ _ _ ha⟩)) h5 ?_ fin
        rintro j H6 x6 _ f ⟨rfl, hx6⟩
        obtain ⟨dd, g2, g3⟩ := al.get hx6
        exact ⟨Ex.refl _, dd, g2, g3.mono f⟩
  · have e : i = n := by omega
    subst e
    rw [← hn, List.drop_length] at hm'
    exact .inl ⟨w.stops H1 gq, q acc b' D zs H1 hm' k1 d1 hD h1 ta⟩
end
section
variable {X : Cx} {e a b : Expr} {es : List Expr} {m ma mb : WE} {ms : WL} {pos : Pos}
theorem lc2_of {K : PySem.W.Frag} {g g1 : TG} {t t1 : WG1} {ws ws1 vs vs1 : List Nat} {me me1 : WE} {mt mt1 : WT} {ml : WE} {σ : L2.St} {H : Hp} {Q : VK} (gb : GB Dt ws g t) (hw : ∀ i ∈ ws, i ∈ vs) (gb1 : GB Dt ws1 g1 t1) (hw1 : ∀ i ∈ ws1, i ∈ vs1) (h : tL (mLc2 t me mt t1 me1 mt1 ml vs vs1) σ H Q) : tLc2 (iSq K (tE me)) g (tT mt) (iSq K (tE me1)) g1 (tT mt1) (tE ml) vs vs1 σ H Q := by
  obtain ⟨W, H0, E, b, R, S, hm, k⟩ := h
  refine ⟨W, H0, E, b, _, S, hm, fun d b1 v H1 ⟨xs, hxs, h1⟩ k1 d1 t1 => ?_⟩
  have S1 := S.step k1 d1
  have fin : ∀ ds b' a zs H', R ds b' → Kp W.M H1 H' → W.Dk b' H' → H1 a = none → H' a = some (.lst zs) → DtAll H' zs ds → Q (.ref a) H' := fun ds b' a zs H' r kp dk na ha ta => k ds b' a zs H' r (k1.trans kp) dk (k1.back (W.free d1 na) na) ha ta
  obtain ⟨a, o, us, rfl, al, ha⟩ := t1.items hxs
  refine ⟨a, rfl, ?_⟩
  rcases ha with ha | ha
  · refine .inl ⟨us, .inl (.inr ⟨o, ha⟩), ?_⟩
    refine lc2_core' (walk_list (K := K) (a := a) (xs := us)) gb hw gb1 hw1 S1 al.length.symm (fun H' f => .inl (.inr ⟨o, f _ _ _ ha⟩)) h1 ?_ fin
    rintro i H2 x _ f ⟨rfl, hx⟩
    obtain ⟨dd, h2, h3⟩ := al.get hx
    exact ⟨Ex.refl _, dd, h2, h3.mono f⟩
  · refine .inr ⟨us, .inl (.inr ⟨o, ha⟩), ?_⟩
    refine lc2_core' (walk_tup (K := K) (a := a) (xs := us)) gb hw gb1 hw1 S1 al.length.symm (fun H' f => .inl (.inr ⟨o, f _ _ _ ha⟩)) h1 ?_ fin
    rintro i H2 x _ f ⟨rfl, hx⟩
    obtain ⟨dd, h2, h3⟩ := al.get hx
    exact ⟨Ex.refl _, dd, h2, h3.mono f⟩
/-! ### for over zip of tuples -/
def mForZT (t : WG1) (ms : WL) (m : WS) : WS := fun E b F => ms E b fun ds b1 => match ds with
  | [.tuple xs, .tuple ys] => mTurns t m (zipD xs ys) E b1 F
  | _ => False
theorem walk_zipT {K : PySem.W.Frag} {a b : Addr} {xs ys : List V} {n : Nat} (hn : n = min xs.length ys.length) : Walk (RZ.ItzT K a b) n (fun H => SqT K H a xs ∧ SqT K H b ys) (YPair (fun i => xs[i]?) (fun i => ys[i]?)) := by
  subst hn
  refine ⟨fun i _ hi q => ?_, fun _ q => ⟨xs, ys, q.1, q.2, by omega⟩, fun i H v H' _ q y => ?_⟩
  · have h1 : i < xs.length := by omega
    have h2 : i < ys.length := by omega
    exact ⟨xs, ys, xs[i], ys[i], q.1, q.2, by simp [h1], by simp [h2]⟩
  · obtain ⟨T, x, z, h1, h2, h3, h4, h5⟩ := y
    exact ⟨T, x, z, h1, h2, h3, h4 xs q.1, h5 ys q.2⟩
theorem pm_forZT {K : PySem.W.Frag} {ws : List Nat} {tg iter : Expr} {body : List Stmt} {g : TG} {t : WG1} {m : WS} {me : WL} (hK : X.K = K) (hp : PassesOwn (model X.prog X.w) X.A X.env X.xe) (hc : X.calm = true) (hi : PI X tg iter (RZ.iZipA X.K (tA me))) (hg : PG X tg g) (gb : GB (Bd K) ws g t) (hb : PSs X body (tS xw m)) (hs : ∀ x, foldedSetIterable iter X.env x = pure x := by intro _; rfl) : PS X (.For tg iter body [] pos) (tS xw (mForZT t me m)) := by
  subst hK
  refine (ps_for hp hc hi hg hb hs).weak fun D σ H ⟨W, H0, E, b, F, S, hm, k⟩ => ?_
  refine ⟨W, H0, E, b, _, S, hm, fun ds b1 vs H1 h1 k1 d1 t1 => ?_⟩
  have S1 := S.step k1 d1
  split at h1
  · rename_i xs ys
    cases t1 with
    | cons q1 t1 =>
      cases t1 with
      | cons q2 t1 =>
        cases t1
        obtain ⟨a1, o1, us, rfl, s1, _, al1⟩ := q1.tup_inv
        obtain ⟨a2, o2, ws', rfl, s2, _, al2⟩ := q2.tup_inv
        refine ⟨a1, a2, us, ws', rfl, .inr ⟨.inl (.inr ⟨o1, s1⟩), .inl (.inr ⟨o2, s2⟩), ?_⟩⟩
        refine turns_for (walk_zipT (K := X.K) (a := a1) (b := a2) (xs := us) (ys := ws') rfl) gb S1 k (by rw [zipD_len, al1.length, al2.length]) (fun H' f => ⟨.inl (.inr ⟨o1, f _ _ _ s1⟩), .inl (.inr ⟨o2, f _ _ _ s2⟩)⟩) h1 ?_
        rintro i H2 x H3 f ⟨T, p, q, rfl, nT, rfl, hp, hq⟩
        obtain ⟨dp, e1, t1⟩ := al1.get hp
        obtain ⟨dq, e2, t2⟩ := al2.get hq
        have eN : Ex H2 (upd H2 T (.tup [p, q])) := Ex.new nT
        exact ⟨eN, _, zipD_get e1 e2, T, [p, q], [dp, dq], rfl, rfl, .inl (.inl upd_same), .cons ((t1.mono f).mono (Fk.ex eN)) (.cons ((t2.mono f).mono (Fk.ex eN)) .nil)⟩
  · exact h1.elim
end
end Wp

namespace Wp
open PySem PySem.Spec PyProof.Rows L2 Evl
/-! ### for over enumerate of a tuple -/
def enD : Nat → List PyData → List PyData
  | _, [] => []
  | i, d :: ds => .tuple [.int (i : Int), d] :: enD (i + 1) ds
theorem enD_len : ∀ (i : Nat) (ds : List PyData), (enD i ds).length = ds.length
  | _, [] => rfl
  | i, d :: ds => by rw [enD, List.length_cons, enD_len, List.length_cons]
theorem enD_get {d : PyData} : ∀ {ds : List PyData} {k i : Nat}, ds[k]? = some d → (enD i ds)[k]? = some (.tuple [.int ((i + k : Nat) : Int), d])
  | [], k, i, h => by simp at h
  | x :: ds, 0, i, h => by simp at h; subst h; rfl
  | x :: ds, k + 1, i, h => by
    have := enD_get (ds := ds) (k := k) (i := i + 1) (by simpa using h)
    rw [enD, List.getElem?_cons_succ, this]
    congr 4
    omega
def mForE (t : WG1) (ms : WL) (m : WS) : WS := fun E b F => ms E b fun ds b1 => match ds with
  | [.tuple xs] => mTurns t m (enD 0 xs) E b1 F
  | _ => False
section
variable {X : Cx}
theorem pm_forE {K : PySem.W.Frag} {ws : List Nat} {tg iter : Expr} {body : List Stmt} {g : TG} {t : WG1} {m : WS} {me : WL} {pos : Pos} (hK : X.K = K) (hp : PassesOwn (model X.prog X.w) X.A X.env X.xe) (hc : X.calm = true) (hi : PI X tg iter (Cn.iEnumT K (tA me))) (hg : PG X tg g) (gb : GB (Bd K) ws g t) (hb : PSs X body (tS xw m)) (hs : ∀ x, foldedSetIterable iter X.env x = pure x := by intro _; rfl) : PS X (.For tg iter body [] pos) (tS xw (mForE t me m)) := by
  subst hK
  refine (ps_for hp hc hi hg hb hs).weak fun D σ H ⟨W, H0, E, b, F, S, hm, k⟩ => ?_
  refine ⟨W, H0, E, b, _, S, hm, fun ds b1 vs H1 h1 k1 d1 t1 => ?_⟩
  have S1 := S.step k1 d1
  split at h1
  · rename_i xs
    cases t1 with
    | cons q1 t1 =>
      cases t1
      obtain ⟨a1, o1, us, rfl, s1, _, al1⟩ := q1.tup_inv
      refine ⟨a1, us, rfl, .inl (.inr ⟨o1, s1⟩), ?_⟩
      refine turns_for (Cn.walk_enumT (K := X.K) (a := a1) (xs := us)) gb S1 k (by rw [enD_len, al1.length]) (fun H' f => .inl (.inr ⟨o1, f _ _ _ s1⟩)) h1 ?_
      rintro i H2 x H3 f ⟨T, p, q, rfl, nT, rfl, hp, hq⟩
      cases hp
      obtain ⟨dq, e2, t2⟩ := al1.get hq
      have eN : Ex H2 (upd H2 T (.tup [.int (i : Int), q])) := Ex.new nT
      refine ⟨eN, _, enD_get (i := 0) e2, T, [.int (i : Int), q], [.int ((0 + i : Nat) : Int), dq], rfl, rfl, .inl (.inl upd_same), .cons ?_ (.cons ((t2.mono f).mono (Fk.ex eN)) .nil)⟩
      rw [Nat.zero_add]
      exact .int _
  · exact h1.elim
end
end Wp

namespace Wp
open PySem PySem.Spec PyProof.Rows L2 Evl
/-! ### the second kind of state: cells, count, rests -/
def stateW (S C R : Addr) : Wld where
  M := Cb.MS S C R
  root := S
  Dk := fun m H => Cb.SD S C R m H
  kd := 2
  isK := ⟨C, R, fun a => Iff.rfl, fun m H => Iff.rfl⟩
  ex := fun e d => Cb.drw.ex e d
  put := fun n d => Cb.drw.put n d
  lst := fun ma d => Cb.drw.lst ma d
def mNext : WF := fun as b R => match as with
  | [.s 2, .d (.int k)] => (b ≤ 10000000 ∧ 1 ≤ k ∧ k ≤ 1000000000000000001) ∧ ∀ r : Int, 0 ≤ r → r < k → R (.int r) (b + 1)
  | _ => False
theorem next_of {vs : List V} {H : Hp} {Q : VK} {E : XK} (h : spOf mNext vs H Q E) : Cb.spNext vs H Q E := by
  obtain ⟨W, as, b, R, ar, dk, hm, k⟩ := h
  unfold mNext at hm
  split at hm
  · cases ar with
    | cons a1 r =>
      cases r with
      | cons a2 r =>
        cases r
        obtain ⟨rfl, hk⟩ := a1
        have a2 : Dt H _ (.int _) := a2
        cases a2
        have ik := W.isK
        rw [hk] at ik
        obtain ⟨C, R', hM, hD⟩ := ik
        obtain ⟨⟨b1, k1, k2⟩, hr⟩ := hm
        refine ⟨W.root, C, R', b, _, rfl, (hD b H).mp dk, by omega, k1, k2, fun r H' r0 r1 kp d' => ?_⟩
        refine k _ (b + 1) _ H' (hr r r0 r1) (fun a o na e => kp a o (fun z => na ((hM a).mpr z)) e) ((hD _ H').mpr (by simpa using d')) (.int r)
  · exact hm.elim
theorem law_run2 {K : PySem.W.Frag} {N : List Str} {a : Addr} {ns : List Int} {H : Hp} {Q : VK} {mr : WS} (hs : SqL K H a (ns.map V.int)) (few : ns.length ≤ 63) (hN : 2 ≤ N.length) (hm : mr (.no :: .s 2 :: List.replicate (N.length - 2) .no) 0 lawF) (q : ∀ H', Q (.bl true) H') :
    tSeq (tAsg (tCall (Cb.spDraws K) [] E0 (tCons (tVar 0) tNil)) (gName 1)) (tS noX mr) { nx := fun _ H' => Q .non H', rt := Q } (L2.start N [.ref a]) H := by
  refine ⟨.ref a, by simp [L2.start], a, ns, rfl, hs, few, fun S C R H' e' dk => ?_⟩
  refine ⟨stateW S C R, ⟨H', H'⟩, _, 0, lawF, ⟨?_, ?_, ?_, Kp.refl, dk, fun _ _ _ z => z⟩, hm, ⟨fun _ _ _ _ _ z => z.elim, fun _ _ _ _ _ z => z.elim, fun _ _ _ _ _ z => z.elim, fun d b v H2 r _ _ t => ?_, fun _ _ _ _ _ _ _ z => z.elim⟩⟩
  · simp [L2.start]; omega
  · intro i s e
    match i with
    | 0 => simp at e; subst e; exact ⟨some (.ref a), by simp [L2.start], trivial⟩
    | 1 =>
      simp at e
      subst e
      refine ⟨some (.ref S), ?_, rfl, rfl⟩
      simp only [gName, L2.start]
      rw [List.getElem?_set_self (by simp; omega)]
    | i + 2 =>
      have e : (List.replicate (N.length - 2) Sl.no)[i]? = some s := by simpa using e
      rw [List.getElem?_replicate] at e
      split at e
      · cases e
        rename_i hi
        refine ⟨none, ?_, trivial⟩
        simp only [L2.start]
        rw [List.getElem?_set_ne (by omega)]
        simp [List.getElem?_replicate]
        omega
      · cases e
  · intro i j s t a' _ h1 o1
    exfalso
    match i with
    | 0 => simp at h1; subst h1; cases o1
    | 1 => simp at h1; subst h1; cases o1
    | i + 2 =>
      have e : (List.replicate (N.length - 2) Sl.no)[i]? = some s := by simpa using h1
      rw [List.getElem?_replicate] at e
      split at e
      · cases e; cases o1
      · cases e
  · have r : d = .bool true := r
    subst r
    cases t
    exact q H2
theorem mNext_at {k : Int} {b : Nat} {R : PyData → Nat → Prop} (hb : b ≤ 10000000) (h1 : 1 ≤ k) (h2 : k ≤ 1000000000000000001) (q : ∀ r : Int, 0 ≤ r → r < k → R (.int r) (b + 1)) : mNext [.s 2, .d (.int k)] b R := ⟨⟨hb, h1, h2⟩, q⟩
end Wp

namespace Wp
open PySem PySem.Spec PyProof.Rows L2 Evl
section
variable {X : Cx} {e a b : Expr} {es : List Expr} {m ma mb : WE} {ms : WL} {pos : Pos}
/-! ### a list times a number -/
def mRep (ml : WL) (mk : WE) : WL := fun E b R => ml E b fun xs b1 => mk E b1 fun d b2 => match d with
  | .int k => (-(2 ^ 62) ≤ k ∧ k < 2 ^ 62 ∧ xs.length * k.toNat ≤ 100000) ∧ R (List.replicate k.toNat xs).flatten b2
  | _ => False
theorem DtAll.rep {H : Hp} {xs : List V} {ds : List PyData} (h : DtAll H xs ds) : ∀ n : Nat, DtAll H (List.replicate n xs).flatten (List.replicate n ds).flatten
  | 0 => .nil
  | n + 1 => by
    rw [List.replicate_succ, List.replicate_succ, List.flatten_cons, List.flatten_cons]
    exact h.append (DtAll.rep h n)
theorem pm_rep (ha : PE X a (tL ms)) (hb : PE X b (tE mb)) : PE X (.BinOp a .Mult b pos) (tL (mRep ms mb)) := (pe_op op_rep ha hb).weak fun σ H Q ⟨W, H0, E, b, R, S, hm, k⟩ => by
  refine ⟨W, H0, E, b, _, S, hm, fun xs b1 p zs H1 h1 k1 d1 np hp t1 => ⟨W, H0, E, b1, _, S.step k1 d1, h1, fun y b2 u H2 h2 k2 d2 t2 => ?_⟩⟩
  cases y <;> first | exact h2.elim | skip
  cases t2
  obtain ⟨⟨g1, g2, g3⟩, hr⟩ := h2
  have nM : ¬ W.M p := W.free S.dk np
  refine ⟨p, _, zs, rfl, rfl, k2 p _ nM hp, by omega, by omega, ?_, fun q nq => ?_⟩
  · rw [t1.length]
    exact sz_of g3
  · have nq1 := k2.back (W.free d2 nq) nq
    have nq0 := k1.back (W.free d1 nq1) nq1
    exact k _ b2 q _ _ hr ((k1.trans k2).trans (Kp.ex (Ex.new nq))) (W.ex (Ex.new nq) d2) nq0 upd_same (((t1.mono (W.fk d1 k2)).rep _).mono (Fk.ex (Ex.new nq)))
/-! ### extend -/
def mExt (i : Nat) (m : WL) : WS := fun E b F => ∃ ds, E[i]? = some (.l ds) ∧ m E b fun es b1 => ds.length + es.length ≤ 100000 ∧ F.nx (E.set i (.l (ds ++ es))) b1
theorem pm_ext {K : PySem.W.Frag} {i : Nat} {c : Expr} (h : PE X c (tBM K "list" rExtend (tVar i) (tCons (tL ms) tNil))) (hs : swapsWith c none pos.line X.env = pure false := by rfl) : PS X (.Expr c pos) (tS xw (mExt i ms)) :=
  (ps_expr h hs).weak fun D σ H ⟨W, H0, E, b, F, S, ⟨ds, hE, hm⟩, k⟩ => by
    obtain ⟨a, xs, hσ, h0, nM, ha, al⟩ := S.ownL hE
    refine ⟨_, hσ, .inl ⟨rfl, xs, .inl (.inl ha)⟩, W, H0, E, b, _, S, hm, fun es b1 p zs H1 h1 k1 d1 np hp t1 => ?_⟩
    have ha1 := k1 a _ nM ha
    have al1 := al.mono (W.fk S.dk k1)
    refine ⟨a, p, xs, zs, rfl, rfl, ha1, hp, ?_, ?_⟩
    · rw [al.length, t1.length]
      exact sz_of h1.1
    · have S1 := S.step k1 d1
      exact k.nx _ _ _ b1 (S1.put (s' := .l (ds ++ es)) hE rfl rfl hσ h0 nM ha1 (fun q u z => by cases z) ⟨a, rfl, h0, nM, xs ++ zs, upd_same, ((al1.append t1).mono (fk_put ha1))⟩) h1.2
/-! ### a, b = a list -/
def bUnl (n : Nat) (t : WGs) : WG1 := fun x E R => match x with
  | .list xs => xs.length = n ∧ t xs E R
  | _ => False
theorem gb_unl {K : PySem.W.Frag} {ws : List Nat} {n : Nat} {gs : TGs} {u : WGs} (h : GBs ws gs u) : GB Dt ws (gUnl K n gs) (bUnl n u) := by
  refine ⟨fun {W H0 H σ E b v x R Q} S a hb k => ?_⟩
  unfold bUnl at hb
  split at hb
  · obtain ⟨p, o, xs, rfl, ha, al⟩ := a.lst_inv
    exact ⟨p, xs, rfl, .inl (.inr ⟨o, ha⟩), by rw [al.length]; exact hb.1, h.run S al hb.2 k⟩
  · exact hb.elim
/-! ### range(i, j, c), c > 0 -/
def rngC (lo c : Int) (n : Nat) : List PyData := (List.range n).map fun i : Nat => PyData.int (lo + (i : Nat) * c)
def mLcR3 (t : WG1) (ms : WL) (mt : WT) (ml : WE) (vs : List Nat) : WL := fun E b R => ms E b fun ds b1 => match ds with
  | [.int i, .int j, .int c] => ∃ n, RgC i j c n ∧ mComp t mt ml (wipeE E vs) (rngC i c n) [] b1 R
  | _ => False
theorem lcR3_of {g : TG} {t : WG1} {ws vs : List Nat} {me : WL} {mt : WT} {ml : WE} {σ : L2.St} {H : Hp} {Q : VK} (gb : GB Dt ws g t) (hw : ∀ i ∈ ws, i ∈ vs) (h : tL (mLcR3 t me mt ml vs) σ H Q) : tLc (iRng3 (tA me)) g (tT mt) (tE ml) vs σ H Q := by
  obtain ⟨W, H0, E, b, R, S, hm, k⟩ := h
  refine ⟨W, H0, E, b, _, S, hm, fun ds b1 vs' H1 h1 k1 d1 t1 => ?_⟩
  have S1 := S.step k1 d1
  match ds, h1, t1 with
  | [.int i, .int j, .int c], ⟨n, hr, h1⟩, .cons (.int _) (.cons (.int _) (.cons (.int _) .nil)) =>
    refine ⟨i, j, c, n, rfl, hr, ?_⟩
    have w : Walk (Itc i c n) n (fun _ => True) (fun l H x H' => l < n ∧ H' = H ∧ x = .int (i + (l : Nat) * c)) := ⟨fun _ _ hi _ => hi, fun _ _ => Nat.le_refl _, fun i _ _ _ hi _ y => ⟨hi, y⟩⟩
    refine comp_core w gb hw S1 (by simp [rngC]) (fun _ _ _ => trivial) h1 ?_ fun ds b' a zs H' r kp dk na ha ta => k ds b' a zs H' r (k1.trans kp) dk (k1.back (W.free d1 na) na) ha ta
    rintro l H1 x H2 _ ⟨hi, rfl, rfl⟩
    exact ⟨Ex.refl _, .int (i + (l : Nat) * c), by simp [rngC, hi], .int _⟩
/-! ### a if c else b, as a test -/
def mIfT (mc mta mtb : WT) : WT := fun E b R => mc E b fun c b1 => if c = true then mta E b1 R else mtb E b1 R
theorem pm_tif {c : Expr} {mc mta mtb : WT} (hc : PT X c (tT mc)) (ha : PT X a (tT mta)) (hb : PT X b (tT mtb)) : PT X (.IfExp c a b pos) (tT (mIfT mc mta mtb)) := by
  refine ⟨fun pins s σ H Q I ⟨W, H0, E, b, R, S, hm, k⟩ => ?_⟩
  rw [PySem.isTrue]
  refine wpAny_bind (thn (hc.run pins s σ H (fun c H1 => if c = true then tT mta σ H1 Q else tT mtb σ H1 Q) I ?_) ?_)
  · refine ⟨W, H0, E, b, _, S, hm, fun c b1 H1 h1 k1 d1 => ?_⟩
    cases c with
    | true => exact ⟨W, H0, E, b1, _, S.step k1 d1, h1, fun d b2 H2 h2 k2 d2 => k d b2 H2 h2 (k1.trans k2) d2⟩
    | false => exact ⟨W, H0, E, b1, _, S.step k1 d1, h1, fun d b2 H2 h2 k2 d2 => k d b2 H2 h2 (k1.trans k2) d2⟩
  · intro d s1 ⟨H1, I1, q1⟩
    cases d with
    | true => exact ha.run pins s1 σ H1 Q I1 q1
    | false => exact hb.run pins s1 σ H1 Q I1 q1
end
end Wp

/-! list(zip(a, b)) of two tuples -/
namespace Zx
open PySem PySem.W PyProof.Rows PySem.Spec
section
variable {prog : Program} {w : World} {A : Around} {E : Value → Shared → Prop} {s : Shared} {z TI TO T i1 i2 l1 l2 : Addr} {f : Bool} {oT : Obj} {k1 k2 : Nat} {xs ys : Array Value}
/-- the zip's own step, its first tuple being out -/
theorem nx_own {x y : Value} {Q : Value → Shared → Prop} (D : ZipApart z TI TO i1 i2 l1 l2) (hz : IsZipHeld s.heap z TI TO T f) (hT : s.heap.get? T = some oT) (hTI : IsPair s.heap TI (.ref i1) (.ref i2)) (h1 : s.heap.IsTupleIter i1 l1 k1) (h2 : s.heap.IsTupleIter i2 l2 k2) (hl1 : s.heap.IsTuple l1 xs) (hl2 : s.heap.IsTuple l2 ys) (hx : xs[k1]? = some x) (hy : ys[k2]? = some y)
    (hQ : ∀ h', IsZipHeld h' z TI TO T true → h'.IsTupleIter i1 l1 (k1 + 1) → h'.IsTupleIter i2 l2 (k2 + 1) → IsPair h' s.heap.objs.size x y → h'.objs.size = s.heap.objs.size + 1 → (∀ c o, c ≠ z → c ≠ i1 → c ≠ i2 → s.heap.get? c = some o → h'.get? c = some o) → Q (.ref s.heap.objs.size) { s with heap := h' }) :
    wpAny (model prog w) A (Builtin.«zip.__next__» ⟨[.ref z], []⟩) (fun fin s' => ∃ v, fin = .done (.ret v) ∧ Q v s') E s := by
  show wpAny _ _ (field (.ref z) 2 >>= _) _ _ _; refine wpAny_bind (wpAny_field hz rfl (x := .bool false) rfl ?_)
  show wpAny _ _ (field (.ref z) 3 >>= _) _ _ _; refine wpAny_bind (wpAny_field hz rfl (x := .ref TI) rfl ?_); refine wpAny_bind (wpAny_seqItems hTI rfl ?_)
  show wpAny _ _ (Builtin.SmallTypes.ownedTupleIsFree (.ref z) >>= _) _ _ _; refine wpAny_bind (wpAny_tupleHeld_zip hz hT fun g1 z1 b1 => ?_)
  simp only [Bool.false_eq_true, if_false]; refine wpAny_bind ?_; rw [← Array.forIn_toList]; simp only [List.forIn_cons, List.forIn_nil]
  refine wpAny_bind (wpAny_bind (wpAny_holding ?_)); show wpAny _ _ (Builtin.SmallTypes.nextOf (.ref i1) >>= _) _ _ _
  refine wpAny_bind (RZ.nextOf_tuple_item (s := { s with heap := g1 }) (h1.extBut b1.extBut D.i1z) (hl1.extBut b1.extBut D.l1z) hx fun g2 a2 b2 => wpAny_pure (wpAny_pure ?_))
  refine wpAny_bind (wpAny_bind (wpAny_holding ?_)); show wpAny _ _ (Builtin.SmallTypes.nextOf (.ref i2) >>= _) _ _ _
  refine wpAny_bind (RZ.nextOf_tuple_item (s := { s with heap := g2 }) ((h2.extBut b1.extBut D.i2z).extBut b2.extBut D.i12.symm) ((hl2.extBut b1.extBut D.l2z).extBut b2.extBut D.l2i1) hy fun g3 a3 b3 => wpAny_pure (wpAny_pure (wpAny_pure ?_)))
  show wpAny _ _ (newTuple [x, y] >>= _) _ _ _; refine wpAny_bind (wpAny_newTuple ?_)
  have sz : g3.objs.size = s.heap.objs.size := by rw [b3.1, b2.1, b1.1]
  have z3 : IsZipHeld g3 z TI TO T true := b3.extBut _ _ D.i2z.symm (b2.extBut _ _ D.i1z.symm z1)
  have kp : ∀ c o, c ≠ z → c ≠ i1 → c ≠ i2 → s.heap.get? c = some o → g3.get? c = some o := fun c o c1 c2 c3 e => b3.extBut _ _ c3 (b2.extBut _ _ c2 (b1.extBut _ _ c1 e))
  have a23 : g3.IsTupleIter i1 l1 (k1 + 1) := a2.extBut b3.extBut D.i12
  refine wpAny_pure ⟨_, rfl, ?_⟩; show Q (.ref g3.objs.size) _
  have pr : IsPair (g3.push { cls := .type "tuple", data := .seq #[x, y] }) g3.objs.size x y := Heap.get?_push_size _ rfl
  have s4 : (g3.push { cls := .type "tuple", data := .seq #[x, y] }).objs.size = g3.objs.size + 1 := Heap.size_push ..
  rw [sz] at pr s4 ⊢
  exact hQ _ (Heap.get?_push_of_some _ z3) (a23.at fun o e => Heap.get?_push_of_some _ e) (a3.at fun o e => Heap.get?_push_of_some _ e) pr s4 fun c o c1 c2 c3 e => Heap.get?_push_of_some _ (kp c o c1 c2 c3 e)
theorem nx_stop {Q : Fin → Shared → Prop} (hh : A.handled = none) (D : ZipApart z TI TO i1 i2 l1 l2) (hz : IsZipHeld s.heap z TI TO T f) (hT : s.heap.get? T = some oT) (hTI : IsPair s.heap TI (.ref i1) (.ref i2)) (h1 : s.heap.IsTupleIter i1 l1 k1) (h2 : s.heap.IsTupleIter i2 l2 k2) (hl1 : s.heap.IsTuple l1 xs) (hl2 : s.heap.IsTuple l2 ys) (hend : xs[k1]? = none ∨ ys[k2]? = none)
    (hE : ∀ h' e, (∀ c o, c ≠ z → c ≠ i1 → c ≠ i2 → s.heap.get? c = some o → h'.get? c = some o) → (∃ o, h'.get? e = some o ∧ o.cls = .type "StopIteration") → E (.ref e) { s with heap := h' }) : wpAny (model prog w) A (Builtin.«zip.__next__» ⟨[.ref z], []⟩) Q E s := by
  show wpAny _ _ (field (.ref z) 2 >>= _) _ _ _; refine wpAny_bind (wpAny_field hz rfl (x := .bool false) rfl ?_)
  show wpAny _ _ (field (.ref z) 3 >>= _) _ _ _; refine wpAny_bind (wpAny_field hz rfl (x := .ref TI) rfl ?_); refine wpAny_bind (wpAny_seqItems hTI rfl ?_)
  show wpAny _ _ (Builtin.SmallTypes.ownedTupleIsFree (.ref z) >>= _) _ _ _; refine wpAny_bind (wpAny_tupleHeld_zip hz hT fun g1 z1 b1 => ?_)
  simp only [Bool.false_eq_true, if_false]; refine wpAny_bind ?_; rw [← Array.forIn_toList]; simp only [List.forIn_cons, List.forIn_nil]
  refine wpAny_bind (wpAny_bind (wpAny_holding ?_)); show wpAny _ _ (Builtin.SmallTypes.nextOf (.ref i1) >>= _) _ _ _
  cases hx : xs[k1]? with
  | none => exact wpAny_bind (RZ.nextOf_tuple_end (s := { s with heap := g1 }) hh (h1.extBut b1.extBut D.i1z) (hl1.extBut b1.extBut D.l1z) hx fun g2 e b2 he => hE g2 e (fun c o c1 c2 _ q => b2 _ _ c2 (b1.extBut _ _ c1 q)) he)
  | some x =>
    have hy : ys[k2]? = none := by rcases hend with h | h; rw [hx] at h; cases h; exact h
    refine wpAny_bind (RZ.nextOf_tuple_item (s := { s with heap := g1 }) (h1.extBut b1.extBut D.i1z) (hl1.extBut b1.extBut D.l1z) hx fun g2 a2 b2 => wpAny_pure (wpAny_pure ?_))
    refine wpAny_bind (wpAny_bind (wpAny_holding ?_)); show wpAny _ _ (Builtin.SmallTypes.nextOf (.ref i2) >>= _) _ _ _
    exact wpAny_bind (RZ.nextOf_tuple_end (s := { s with heap := g2 }) hh ((h2.extBut b1.extBut D.i2z).extBut b2.extBut D.i12.symm) ((hl2.extBut b1.extBut D.l2z).extBut b2.extBut D.l2i1) hy fun g3 e b3 he => hE g3 e (fun c o c1 c2 c3 q => b3 _ _ c3 (b2.extBut _ _ c2 (b1.extBut _ _ c1 q))) he)
theorem nx_some {x y : Value} {Q : Option Value → Shared → Prop} (D : ZipApart z TI TO i1 i2 l1 l2) (hz : IsZipHeld s.heap z TI TO T f) (hT : s.heap.get? T = some oT) (hTI : IsPair s.heap TI (.ref i1) (.ref i2)) (h1 : s.heap.IsTupleIter i1 l1 k1) (h2 : s.heap.IsTupleIter i2 l2 k2) (hl1 : s.heap.IsTuple l1 xs) (hl2 : s.heap.IsTuple l2 ys) (hx : xs[k1]? = some x) (hy : ys[k2]? = some y)
    (hQ : ∀ h', IsZipHeld h' z TI TO T true → h'.IsTupleIter i1 l1 (k1 + 1) → h'.IsTupleIter i2 l2 (k2 + 1) → IsPair h' s.heap.objs.size x y → h'.objs.size = s.heap.objs.size + 1 → (∀ c o, c ≠ z → c ≠ i1 → c ≠ i2 → s.heap.get? c = some o → h'.get? c = some o) → Q (some (.ref s.heap.objs.size)) { s with heap := h' }) : wpAny (model prog w) A (pyNext (.ref z)) Q E s := by
  have ty : s.TypeIs (.ref z) "zip" := ⟨_, hz, rfl⟩
  unfold pyNext; exact wpAny_bind (wpAny_attempt (wpAny_callSpecial?_slot (name := Str.ofString "__next__") ty F.slot_zip_next (wpAny_call_entry F.slot_zip_next ty F.entry_zip_next (nx_own D hz hT hTI h1 h2 hl1 hl2 hx hy fun h' a1 a3 a4 a5 a6 a7 => wpAny_pure (hQ h' a1 a3 a4 a5 a6 a7)) (F.args_zip_next_1 _))))
theorem nx_none {Q : Option Value → Shared → Prop} (hh : A.handled = none) (D : ZipApart z TI TO i1 i2 l1 l2) (hz : IsZipHeld s.heap z TI TO T f) (hT : s.heap.get? T = some oT) (hTI : IsPair s.heap TI (.ref i1) (.ref i2)) (h1 : s.heap.IsTupleIter i1 l1 k1) (h2 : s.heap.IsTupleIter i2 l2 k2) (hl1 : s.heap.IsTuple l1 xs) (hl2 : s.heap.IsTuple l2 ys) (hend : xs[k1]? = none ∨ ys[k2]? = none)
    (hQ : ∀ h', (∀ c o, c ≠ z → c ≠ i1 → c ≠ i2 → s.heap.get? c = some o → h'.get? c = some o) → Q none { s with heap := h' }) : wpAny (model prog w) A (pyNext (.ref z)) Q E s := by
  have ty : s.TypeIs (.ref z) "zip" := ⟨_, hz, rfl⟩
  unfold pyNext; refine wpAny_bind (wpAny_attempt (wpAny_callSpecial?_slot (name := Str.ofString "__next__") ty F.slot_zip_next (wpAny_call_entry F.slot_zip_next ty F.entry_zip_next (nx_stop hh D hz hT hTI h1 h2 hl1 hl2 hend fun h' e hk he => ?_) (F.args_zip_next_1 _))))
  obtain ⟨o, ho, hc⟩ := he
  exact wpAny_bind (wpAny_isInstance (T := "StopIteration") (b := true) ⟨o, ho, hc⟩ isSubtype_stop (wpAny_pure (hQ _ hk)))
/-- the state of the walk: nothing is out yet, or the tuple at T is -/
def St (h : Heap) (z TI TO i1 i2 l1 l2 S : Addr) (i : Nat) : Prop := IsPair h TI (.ref i1) (.ref i2) ∧ (∃ a b, IsPair h TO a b) ∧ h.IsTupleIter i1 l1 i ∧ h.IsTupleIter i2 l2 i ∧ ((i = 0 ∧ IsZip h z TI TO .none) ∨ ∃ T f oT, IsZipHeld h z TI TO T f ∧ h.get? T = some oT ∧ T ≠ z ∧ T ≠ TI ∧ T ≠ TO ∧ T ≠ i1 ∧ T ≠ i2 ∧ T ≠ S)
theorem st_keep {h h' : Heap} {i : Nat} {S : Addr} (D : St h z TI TO i1 i2 l1 l2 S i) (k : ∀ c o, c ≠ S → h.get? c = some o → h'.get? c = some o) (hz : z ≠ S) (hTI : TI ≠ S) (hTO : TO ≠ S) (h1 : i1 ≠ S) (h2 : i2 ≠ S) : St h' z TI TO i1 i2 l1 l2 S i := by
  obtain ⟨a, ⟨u, v, b⟩, c, d, e⟩ := D
  refine ⟨k _ _ hTI a, ⟨u, v, k _ _ hTO b⟩, c.at fun o q => k _ o h1 q, d.at fun o q => k _ o h2 q, ?_⟩
  rcases e with ⟨e, q⟩ | ⟨T, f, oT, q, r, m⟩
  · exact .inl ⟨e, k _ _ hz q⟩
  · exact .inr ⟨T, f, oT, k _ _ hz q, k _ _ m.2.2.2.2.2 r, m⟩
theorem st_some {S : Addr} {i : Nat} {x y : Value} {Q : Option Value → Shared → Prop} (D : ZipApart z TI TO i1 i2 l1 l2) (st : St s.heap z TI TO i1 i2 l1 l2 S i) (hl1 : s.heap.IsTuple l1 xs) (hl2 : s.heap.IsTuple l2 ys) (hx : xs[i]? = some x) (hy : ys[i]? = some y) (ltS : S < s.heap.objs.size)
    (hQ : ∀ h', St h' z TI TO i1 i2 l1 l2 S (i + 1) → IsPair h' s.heap.objs.size x y → h'.objs.size = s.heap.objs.size + 1 → (∀ c o, c ≠ z → c ≠ TO → c ≠ i1 → c ≠ i2 → s.heap.get? c = some o → h'.get? c = some o) → Q (some (.ref s.heap.objs.size)) { s with heap := h' }) : wpAny (model prog w) A (pyNext (.ref z)) Q E s := by
  obtain ⟨hTI, ⟨a, b, hTO⟩, h1, h2, e⟩ := st
  have lt1 : i1 < s.heap.objs.size := by obtain ⟨_, e, _⟩ := h1; exact Heap.lt_size e
  have lt2 : i2 < s.heap.objs.size := by obtain ⟨_, e, _⟩ := h2; exact Heap.lt_size e
  have ltI : TI < s.heap.objs.size := Heap.lt_size hTI
  have ltO : TO < s.heap.objs.size := Heap.lt_size hTO
  rcases e with ⟨rfl, hz⟩ | ⟨T, f, oT, hz, hT, n1, n2, n3, n4, n5, n6⟩
  · have ltz : z < s.heap.objs.size := Heap.lt_size hz
    refine RZ.pyNext_zipT_item D hz hTI hTO h1 h2 hl1 hl2 hx hy fun h' z' TO' h1' h2' hp hs hk => hQ h' ⟨hk _ _ D.TIz D.TITO D.TIi1 D.TIi2 hTI, ⟨_, _, TO'⟩, h1', h2', .inr ⟨_, false, _, z', hp, Nat.ne_of_gt ltz, Nat.ne_of_gt ltI, Nat.ne_of_gt ltO, Nat.ne_of_gt lt1, Nat.ne_of_gt lt2, Nat.ne_of_gt ltS⟩⟩ hp hs hk
  · exact nx_some D hz hT hTI h1 h2 hl1 hl2 hx hy fun h' z' h1' h2' hp hs hk => hQ h' ⟨hk _ _ D.TIz D.TIi1 D.TIi2 hTI, ⟨_, _, hk _ _ D.TOz D.TOi1 D.TOi2 hTO⟩, h1', h2', .inr ⟨T, true, oT, z', hk _ _ n1 n4 n5 hT, n1, n2, n3, n4, n5, n6⟩⟩ hp hs fun c o c1 _ c3 c4 q => hk c o c1 c3 c4 q
theorem st_none {S : Addr} {i : Nat} {Q : Option Value → Shared → Prop} (hh : A.handled = none) (D : ZipApart z TI TO i1 i2 l1 l2) (st : St s.heap z TI TO i1 i2 l1 l2 S i) (hl1 : s.heap.IsTuple l1 xs) (hl2 : s.heap.IsTuple l2 ys) (hend : xs[i]? = none ∨ ys[i]? = none)
    (hQ : ∀ h', (∀ c o, c ≠ z → c ≠ TO → c ≠ i1 → c ≠ i2 → s.heap.get? c = some o → h'.get? c = some o) → Q none { s with heap := h' }) : wpAny (model prog w) A (pyNext (.ref z)) Q E s := by
  obtain ⟨hTI, ⟨a, b, hTO⟩, h1, h2, e⟩ := st
  rcases e with ⟨rfl, hz⟩ | ⟨T, f, oT, hz, hT, _⟩
  · exact RZ.pyNext_zipT_end hh D hz hTI hTO h1 h2 hl1 hl2 hend hQ
  · exact nx_none hh D hz hT hTI h1 h2 hl1 hl2 hend fun h' hk => hQ h' fun c o c1 _ c3 c4 q => hk c o c1 c3 c4 q
end
/-- the tuples made so far: above lo, each the pair of its turn -/
structure Made (xs ys : Array Value) (lo : Addr) (h : Heap) (as : List Addr) : Prop where
  rise : as.Pairwise (· < ·)
  above : ∀ a ∈ as, lo < a
  pairs : ∀ (j : Nat) (a : Addr), as[j]? = some a → ∃ x y, xs[j]? = some x ∧ ys[j]? = some y ∧ IsPair h a x y
theorem Made.lt {xs ys : Array Value} {lo : Addr} {h : Heap} {as : List Addr} (g : Made xs ys lo h as) {a : Addr} (ha : a ∈ as) : a < h.objs.size := by
  obtain ⟨j, hj⟩ := List.mem_iff_getElem?.mp ha
  obtain ⟨_, _, _, _, e⟩ := g.pairs j a hj
  exact Heap.lt_size e
theorem Made.keep {xs ys : Array Value} {lo : Addr} {h h' : Heap} {as : List Addr} (g : Made xs ys lo h as) (k : ∀ a ∈ as, ∀ o, h.get? a = some o → h'.get? a = some o) : Made xs ys lo h' as :=
  ⟨g.rise, g.above, fun j a hj => by obtain ⟨x, y, e1, e2, e3⟩ := g.pairs j a hj; exact ⟨x, y, e1, e2, k a (List.mem_of_getElem? hj) _ e3⟩⟩
theorem Made.more {xs ys : Array Value} {lo : Addr} {h h' : Heap} {as : List Addr} {x y : Value} (g : Made xs ys lo h as) (k : ∀ a ∈ as, ∀ o, h.get? a = some o → h'.get? a = some o) (hlo : lo < h.objs.size) (hx : xs[as.length]? = some x) (hy : ys[as.length]? = some y) (hp : IsPair h' h.objs.size x y) : Made xs ys lo h' (as ++ [h.objs.size]) := by
  refine ⟨List.pairwise_append.mpr ⟨g.rise, List.pairwise_singleton _ _, fun a ha b hb => by rw [List.mem_singleton.mp hb]; exact g.lt ha⟩, fun a ha => ?_, fun j a hj => ?_⟩
  · rcases List.mem_append.mp ha with ha | ha
    · exact g.above a ha
    · rw [List.mem_singleton.mp ha]; exact hlo
  · rcases Nat.lt_trichotomy j as.length with h1 | h1 | h1
    · rw [List.getElem?_append_left h1] at hj
      obtain ⟨x', y', e1, e2, e3⟩ := g.pairs j a hj
      exact ⟨x', y', e1, e2, k a (List.mem_of_getElem? hj) _ e3⟩
    · subst h1
      have e : h.objs.size = a := by simpa using hj
      subst e
      exact ⟨x, y, hx, hy, hp⟩
    · rw [List.getElem?_eq_none (by rw [List.length_append, List.length_singleton]; omega)] at hj; cases hj
section
variable {prog : Program} {w : World} {A : Around} {s : Shared} {R : Result → Shared → Prop} {z TI TO i1 i2 l1 l2 S : Addr} {xs ys : Array Value}
/-- the addresses of the zip stand below S, those of the tuples made above -/
structure Low (S z TI TO i1 i2 l1 l2 : Addr) : Prop where
  z : z < S
  TI : TI < S
  TO : TO < S
  i1 : i1 < S
  i2 : i2 < S
  l1 : l1 < S
  l2 : l2 < S
theorem loop (hh : A.handled = none) (D : ZipApart z TI TO i1 i2 l1 l2) (L : Low S z TI TO i1 i2 l1 l2) (nl : l1 ≠ z ∧ l1 ≠ TO ∧ l1 ≠ i1 ∧ l1 ≠ i2 ∧ l2 ≠ z ∧ l2 ≠ TO ∧ l2 ≠ i1 ∧ l2 ≠ i2) (hn : xs.size ≤ sizeLine) (hxy : xs.size = ys.size) (res : Value) {g0 : Heap}
    (hR : ∀ h' tk acc c as, (∀ b o, b ≠ S → b ≠ z → b ≠ TO → b ≠ i1 → b ≠ i2 → g0.get? b = some o → h'.get? b = some o) → h'.get? S = some { cls := .type "list", dict := none, data := .seq acc c, slots := #[] } → as.length = xs.size → Made xs ys S h' as → acc.toList = as.map Value.ref → R (.ok (.ret res)) { s with heap := h', toks := tk }) :
    ∀ (k i : Nat) (h : Heap) (tk c : Nat) (acc : Array Value) (as : List Addr), xs.size - i = k → i ≤ xs.size → St h z TI TO i1 i2 l1 l2 S i → h.IsTuple l1 xs → h.IsTuple l2 ys → (∀ b o, b ≠ S → b ≠ z → b ≠ TO → b ≠ i1 → b ≠ i2 → g0.get? b = some o → h.get? b = some o) →
      h.get? S = some { cls := .type "list", dict := none, data := .seq acc c, slots := #[] } → acc.toList = as.map Value.ref → as.length = i → Made xs ys S h as → codeAny (model prog w) A (.builtin "list.extend.loop" ⟨[.ref S, .ref z, res], []⟩) R { s with heap := h, toks := tk } := by
  have neS : ∀ {a : Addr}, a < S → S ≠ a := fun h => Nat.ne_of_gt h
  intro k
  induction k with
  | zero =>
    intro i h tk c acc as hk hi st t1 t2 hkeep hS hacc hal hG
    refine codeAny_builtin PySem.F.entry_extend_loop ?_
    rw [Around.under_plainId PySem.F.plain_extend_loop _]
    show wpAny _ A.in1 (pyNext (.ref z) >>= _) _ _ _
    refine wpAny_bind (st_none (s := { s with heap := h, toks := tk }) (A := A.in1) hh D st t1 t2 (.inl (Array.getElem?_eq_none (by omega))) fun h' he => ?_)
    refine wpAny_pure (hR h' tk acc c as (fun b o h0 c1 c2 c3 c4 e => he b o c1 c2 c3 c4 (hkeep b o h0 c1 c2 c3 c4 e)) (he S _ (neS L.z) (neS L.TO) (neS L.i1) (neS L.i2) hS) (by omega) (hG.keep fun a ha o e => ?_) hacc)
    have := hG.above a ha
    exact he a o (Nat.ne_of_gt (Nat.lt_trans L.z this)) (Nat.ne_of_gt (Nat.lt_trans L.TO this)) (Nat.ne_of_gt (Nat.lt_trans L.i1 this)) (Nat.ne_of_gt (Nat.lt_trans L.i2 this)) e
  | succ k ih =>
    intro i h tk c acc as hk hi st t1 t2 hkeep hS hacc hal hG
    have lt : i < xs.size := by omega
    have hx : xs[i]? = some xs[i] := Array.getElem?_eq_getElem lt
    have hy : ys[i]? = some (ys[i]'(by omega)) := Array.getElem?_eq_getElem (by omega)
    have hsz : acc.size = i := by rw [← Array.length_toList, hacc, List.length_map, hal]
    have ltS : S < h.objs.size := Heap.lt_size hS
    refine codeAny_builtin PySem.F.entry_extend_loop ?_
    rw [Around.under_plainId PySem.F.plain_extend_loop _]
    show wpAny _ A.in1 (pyNext (.ref z) >>= _) _ _ _
    refine wpAny_bind (st_some (s := { s with heap := h, toks := tk }) D st t1 t2 hx hy ltS fun h' st' hp hz hkp => ?_)
    dsimp only at hp hz hkp ⊢
    have hS' := hkp S _ (neS L.z) (neS L.TO) (neS L.i1) (neS L.i2) hS
    have up : ∀ b o, b ≠ S → h'.get? b = some o → (h'.update S (Obj.mapSeq (·.push (Value.ref h.objs.size)))).get? b = some o := fun b o hb e => (Heap.get?_update_other _ _ (Ne.symm hb)).trans e
    have hiS : ∀ {a : Addr}, a < S → a ≠ S := fun q => Nat.ne_of_lt q
    show wpAny _ A.in1 (updateSeq S (·.push (Value.ref h.objs.size)) >>= _) _ _ _
    refine wpAny_bind ?_
    refine wpAny_updateSeq hS' rfl (wpAny_pure ⟨plainId_quiet PySem.F.plain_extend_loop _, ih (i + 1) _ tk _ (acc.push (Value.ref h.objs.size)) (as ++ [h.objs.size]) (by omega) lt (st_keep st' up (hiS L.z) (hiS L.TI) (hiS L.TO) (hiS L.i1) (hiS L.i2)) ?_ ?_ (fun b o h0 c1 c2 c3 c4 e => up b o h0 (hkp b o c1 c2 c3 c4 (hkeep b o h0 c1 c2 c3 c4 e))) (Heap.get?_update_self _ hS' rfl) (by rw [Array.toList_push, hacc, List.map_append]; rfl) (by rw [List.length_append, hal]; rfl) ?_⟩) (by rw [hsz]; omega) (by show (acc.push (Value.ref h.objs.size)).size ≤ sizeLine + 1; rw [Array.size_push, hsz]; omega)
    · obtain ⟨o, q, r⟩ := t1
      exact ⟨o, up _ o (hiS L.l1) (hkp _ o nl.1 nl.2.1 nl.2.2.1 nl.2.2.2.1 q), r⟩
    · obtain ⟨o, q, r⟩ := t2
      exact ⟨o, up _ o (hiS L.l2) (hkp _ o nl.2.2.2.2.1 nl.2.2.2.2.2.1 nl.2.2.2.2.2.2.1 nl.2.2.2.2.2.2.2 q), r⟩
    · refine hG.more (fun a ha o e => ?_) ltS (by rw [hal]; exact hx) (by rw [hal]; exact hy) (up _ _ (Nat.ne_of_gt ltS) hp)
      have q := hG.above a ha
      exact up a o (Nat.ne_of_gt q) (hkp a o (Nat.ne_of_gt (Nat.lt_trans L.z q)) (Nat.ne_of_gt (Nat.lt_trans L.TO q)) (Nat.ne_of_gt (Nat.lt_trans L.i1 q)) (Nat.ne_of_gt (Nat.lt_trans L.i2 q)) e)
end
theorem no_len : typeLookup (.type "zip") "__len__" = pure none := by rw [typeLookup_type, builtinLookup_eq_fast]; kernel_rfl
theorem no_hint : typeLookup (.type "zip") "__length_hint__" = pure none := by rw [typeLookup_type, builtinLookup_eq_fast]; kernel_rfl
section
variable {prog : Program} {w : World} {A : Around} {E : Value → Shared → Prop} {s : Shared} {z TI TO i1 i2 l1 l2 S : Addr} {xs ys : Array Value}
theorem hint (ty : s.TypeIs (.ref z) "zip") {Q : Bool → Shared → Prop} (h : Q true s) : wpAny (model prog w) A (Builtin.List.listLengthHint (.ref z)) Q E s := by
  unfold Builtin.List.listLengthHint
  refine wpAny_bind (wpAny_specialOf ty no_len ?_)
  wp_delta
  refine wpAny_bind (wpAny_specialOf ty no_hint ?_)
  exact wpAny_pure h
theorem extend {R : Result → Shared → Prop} (hh : A.handled = none) (D : ZipApart z TI TO i1 i2 l1 l2) (L : Low S z TI TO i1 i2 l1 l2) (nl : l1 ≠ z ∧ l1 ≠ TO ∧ l1 ≠ i1 ∧ l1 ≠ i2 ∧ l2 ≠ z ∧ l2 ≠ TO ∧ l2 ≠ i1 ∧ l2 ≠ i2) (hz : IsZip s.heap z TI TO .none) (hTI : IsPair s.heap TI (.ref i1) (.ref i2)) (hTO : ∃ a b, IsPair s.heap TO a b) (h1 : s.heap.IsTupleIter i1 l1 0) (h2 : s.heap.IsTupleIter i2 l2 0) (t1 : s.heap.IsTuple l1 xs) (t2 : s.heap.IsTuple l2 ys) (hn : xs.size ≤ sizeLine) (hxy : xs.size = ys.size) (res : Value) (c0 : Nat) (hS : s.heap.get? S = some { cls := .type "list", data := .seq #[] c0 })
    (hR : ∀ h' tk acc c as, (∀ b o, b ≠ S → b ≠ z → b ≠ TO → b ≠ i1 → b ≠ i2 → s.heap.get? b = some o → h'.get? b = some o) → h'.get? S = some { cls := .type "list", dict := none, data := .seq acc c, slots := #[] } → as.length = xs.size → Made xs ys S h' as → acc.toList = as.map Value.ref → R (.ok (.ret res)) { s with heap := h', toks := tk }) :
    wpAny (model prog w) A.in1 (Builtin.List.listExtendWith (.ref S) (.ref z) res) (fun fin s' => match fin with | .done f => R (.ok f) s' | .again c' => c'.quiet = true ∧ codeAny (model prog w) A c' R s') (fun e s' => R (.error e) s') s := by
  have ty : s.TypeIs (.ref z) "zip" := ⟨_, hz, rfl⟩
  have nS : ∀ {a : Addr}, a < S → a ≠ S := fun q => Nat.ne_of_lt q
  have key : ∀ (h : Heap) (c1 tk : Nat), (∀ b o, b ≠ S → s.heap.get? b = some o → h.get? b = some o) → h.get? S = some { cls := .type "list", data := .seq #[] c1 } → codeAny (model prog w) A (.builtin "list.extend.loop" ⟨[.ref S, .ref z, res], []⟩) R { s with heap := h, toks := tk } := by
    intro h c1 tk hk hS1
    obtain ⟨a, b, hTO⟩ := hTO
    refine loop (s := s) (g0 := s.heap) hh D L nl hn hxy res hR xs.size 0 h tk c1 #[] [] (Nat.sub_zero _) (Nat.zero_le _) ⟨hk _ _ (nS L.TI) hTI, ⟨a, b, hk _ _ (nS L.TO) hTO⟩, h1.at fun o q => hk _ o (nS L.i1) q, h2.at fun o q => hk _ o (nS L.i2) q, .inl ⟨rfl, hk _ _ (nS L.z) hz⟩⟩ ?_ ?_ (fun b o h0 _ _ _ _ e => hk b o h0 e) hS1 rfl rfl ⟨List.Pairwise.nil, fun _ ha => (nomatch ha), fun j a hj => by simp at hj⟩
    · obtain ⟨o, q, r⟩ := t1; exact ⟨o, hk _ o (nS L.l1) q, r⟩
    · obtain ⟨o, q, r⟩ := t2; exact ⟨o, hk _ o (nS L.l2) q, r⟩
  unfold Builtin.List.listExtendWith
  refine wpAny_bind (wpAny_typeOf (T := "zip") ty ?_)
  have e1 : Builtin.List.listSameRef (.ref S) (.ref z) = false := by simp [Builtin.List.listSameRef, (nS L.z).symm]
  have e2 : (Value.type "zip" == Value.type "list") = false := by decide
  have e3 : (Value.type "zip" == Value.type "tuple") = false := by decide
  simp only [e1, e2, e3, Bool.or_false, Bool.false_eq_true, if_false]
  refine wpAny_bind (wpAny_pyIter_zip hz ?_)
  refine wpAny_bind (wpAny_holding (hint ty ?_))
  simp only [Bool.true_or, if_true]
  refine wpAny_bind (wpAny_rule ?_); refine wpAny_bind ?_
  show wpAny _ _ (updateSeq S (·.push .none) >>= fun _ => updateSeq S (·.pop)) _ _ _; refine wpAny_bind (wpAny_updateSeq hS rfl ?_)
  have u2 := Heap.get?_update_self (Obj.mapSeq (·.push Value.none)) hS rfl
  refine wpAny_updateSeq (hz := by seq_fits) u2 rfl ?_
  have u3 := Heap.get?_update_self (Obj.mapSeq (·.pop)) u2 rfl
  exact wpAny_pure ⟨plainId_quiet PySem.F.plain_extend_loop _, key _ _ _ (fun b o hb e => (Heap.get?_update_other _ _ (Ne.symm hb)).trans ((Heap.get?_update_other _ _ (Ne.symm hb)).trans e)) u3⟩
/-- list(zip(..)), the zip new -/
theorem list_of {Q : Value → Shared → Prop} (hh : A.handled = none) (D : ZipApart z TI TO i1 i2 l1 l2) (nl : l1 ≠ z ∧ l1 ≠ TO ∧ l1 ≠ i1 ∧ l1 ≠ i2 ∧ l2 ≠ z ∧ l2 ≠ TO ∧ l2 ≠ i1 ∧ l2 ≠ i2) (hz : IsZip s.heap z TI TO .none) (hTI : IsPair s.heap TI (.ref i1) (.ref i2)) (hTO : ∃ a b, IsPair s.heap TO a b) (h1 : s.heap.IsTupleIter i1 l1 0) (h2 : s.heap.IsTupleIter i2 l2 0) (t1 : s.heap.IsTuple l1 xs) (t2 : s.heap.IsTuple l2 ys) (hn : xs.size ≤ sizeLine) (hxy : xs.size = ys.size)
    (hQ : ∀ h' tk acc c as, (∀ b o, b ≠ z → b ≠ TO → b ≠ i1 → b ≠ i2 → s.heap.get? b = some o → h'.get? b = some o) → h'.get? s.heap.objs.size = some { cls := .type "list", dict := none, data := .seq acc c, slots := #[] } → as.length = xs.size → Made xs ys s.heap.objs.size h' as → acc.toList = as.map Value.ref → Q (.ref s.heap.objs.size) { s with heap := h', toks := tk }) :
    wpAny (model prog w) A (call (.type "list") [.ref z]) Q E s := by
  refine callType_codes (Q₁ := fun obj s₁ => obj = .ref s.heap.objs.size ∧ s₁ = { s with heap := s.heap.push { cls := .type "list", data := .seq #[] } }) PySem.F.called_list (PySem.F.typeCall_list_1 _) PySem.F.entry_list_init (code_list_new _ ⟨rfl, rfl⟩) fun obj s₁ q => ?_
  obtain ⟨rfl, rfl⟩ := q
  have hS : (s.heap.push { cls := .type "list", data := .seq #[] }).get? s.heap.objs.size = some { cls := .type "list", data := .seq #[] } := Heap.get?_push_size _ rfl
  have L : Low s.heap.objs.size z TI TO i1 i2 l1 l2 := by
    obtain ⟨a, b, hTO⟩ := hTO
    obtain ⟨_, e1, _⟩ := h1
    obtain ⟨_, e2, _⟩ := h2
    obtain ⟨_, e3, _⟩ := t1
    obtain ⟨_, e4, _⟩ := t2
    exact ⟨Heap.lt_size hz, Heap.lt_size hTI, Heap.lt_size hTO, Heap.lt_size e1, Heap.lt_size e2, Heap.lt_size e3, Heap.lt_size e4⟩
  have nS : ∀ {a : Addr}, a < s.heap.objs.size → a ≠ s.heap.objs.size := fun q => Nat.ne_of_lt q
  refine ⟨⟨_, hS, rfl⟩, PySem.F.args_list_init_2 _ _, ?_⟩
  show wpAny _ _ (do let old ← Builtin.List.listItems (.ref s.heap.objs.size); Builtin.List.listUpdate (.ref s.heap.objs.size) (fun _ => #[]); letGo old.toList.reverse; Builtin.List.listExtendWith (.ref s.heap.objs.size) (.ref z) .none) _ _ _
  refine wpAny_bind ?_
  unfold Builtin.List.listItems; refine wpAny_bind (wpAny_seqItems hS rfl (wpAny_pure ?_))
  show wpAny _ _ (updateSeq s.heap.objs.size (fun _ => #[]) >>= fun _ => letGo (#[] : Array Value).toList.reverse >>= fun _ => Builtin.List.listExtendWith (.ref s.heap.objs.size) (.ref z) .none) _ _ _; refine wpAny_bind (wpAny_updateSeq hS rfl ?_)
  have u2 := Heap.get?_update_self (Obj.mapSeq (fun _ => (#[] : Array Value))) hS rfl
  have oth : ∀ b o, b ≠ s.heap.objs.size → s.heap.get? b = some o → ((s.heap.push { cls := .type "list", data := .seq #[] }).update s.heap.objs.size (Obj.mapSeq (fun _ => (#[] : Array Value)))).get? b = some o := fun b o hb e => (Heap.get?_update_other _ _ (Ne.symm hb)).trans (Heap.get?_push_of_some _ e)
  refine wpAny_bind (wpAny_letGo ?_)
  refine extend (A := A.in1) hh D L nl (oth _ _ (nS L.z) hz) (oth _ _ (nS L.TI) hTI) ?_ (h1.at fun o q => oth _ o (nS L.i1) q) (h2.at fun o q => oth _ o (nS L.i2) q) ?_ ?_ hn hxy .none _ u2 fun h' tk acc c as hk hS' hl hG hacc => ?_
  · obtain ⟨a, b, hTO⟩ := hTO; exact ⟨a, b, oth _ _ (nS L.TO) hTO⟩
  · obtain ⟨o, q, r⟩ := t1; exact ⟨o, oth _ o (nS L.l1) q, r⟩
  · obtain ⟨o, q, r⟩ := t2; exact ⟨o, oth _ o (nS L.l2) q, r⟩
  · exact ⟨rfl, hQ h' tk acc c as (fun b o c1 c2 c3 c4 e => hk b o (nS (Heap.lt_size e)) c1 c2 c3 c4 (oth b o (nS (Heap.lt_size e)) e)) hS' hl hG hacc⟩
end
end Zx

namespace Wp
open PySem PySem.Spec PyProof.Rows L2 Evl
abbrev Zt := Addr × Obj × (V × V)
def putZ : Hp → List Zt → Hp
  | H, t :: ts => putZ (upd H t.1 (.frz t.2.1 (.tup [t.2.2.1, t.2.2.2]))) ts
  | H, [] => H
theorem putZ_off {b : Addr} : ∀ (ts : List Zt) (H : Hp), b ∉ ts.map (·.1) → putZ H ts b = H b
  | [], _, _ => rfl
  | t :: ts, H, h => by
    simp only [List.map_cons, List.mem_cons, not_or] at h
    rw [putZ, putZ_off ts _ h.2, upd_ne h.1]
theorem putZ_at : ∀ (ts : List Zt) (H : Hp), (ts.map (·.1)).Nodup → ∀ t ∈ ts, putZ H ts t.1 = some (.frz t.2.1 (.tup [t.2.2.1, t.2.2.2]))
  | [], _, _, t, ht => by cases ht
  | u :: ts, H, nd, t, ht => by
    rw [List.map_cons, List.nodup_cons] at nd
    rw [putZ]
    rcases List.mem_cons.mp ht with rfl | ht
    · rw [putZ_off ts _ nd.1, upd_same]
    · exact putZ_at ts _ nd.2 t ht
def ZOk (h : Heap) (t : Zt) : Prop := ∃ x y, t.2.1 = { cls := .type "tuple", data := .seq #[x, y] } ∧ h.get? t.1 = some t.2.1 ∧ RelV t.2.2.1 x ∧ RelV t.2.2.2 y
theorem build {h : Heap} : ∀ (as : List Addr) (us vs : List Value) (xs ys : List V), Vals xs us → Vals ys vs → as.length = us.length → us.length = vs.length → (∀ (j : Nat) (a : Addr), as[j]? = some a → ∃ x y, us[j]? = some x ∧ vs[j]? = some y ∧ IsPair h a x y) →
    ∃ ts : List Zt, ts.map (·.1) = as ∧ ts.map (·.2.2) = xs.zip ys ∧ ∀ t ∈ ts, ZOk h t
  | [], [], [], _, _, .nil, .nil, _, _, _ => ⟨[], rfl, rfl, fun _ z => nomatch z⟩
  | a :: as, u :: us, v :: vs, _, _, .cons (a := x) (l₁ := xs) ru rus, .cons (a := y) (l₁ := ys) rv rvs, l1, l2, hp => by
    obtain ⟨ts, e1, e2, e3⟩ := build as us vs xs ys rus rvs (by simpa using l1) (by simpa using l2) fun j b hj => by simpa using hp (j + 1) b (by simpa using hj)
    obtain ⟨x', y', g1, g2, g3⟩ := hp 0 a rfl
    simp at g1 g2
    subst g1 g2
    refine ⟨(a, { cls := .type "tuple", data := .seq #[u, v] }, (x, y)) :: ts, by rw [List.map_cons, e1], by rw [List.map_cons, e2]; rfl, fun t ht => ?_⟩
    rcases List.mem_cons.mp ht with rfl | ht
    · exact ⟨u, v, rfl, g3, ru, rv⟩
    · exact e3 t ht
theorem zip_laid {X : Cx} {pins : List (Addr × Obj)} {σ : L2.St} {H : Hp} {s : Shared} {h' : Heap} {tk c : Nat} {p : Addr} {acc : Array Value} {ts : List Zt} (I : Inv X pins σ H s) (hk : ∀ b o, s.heap.get? b = some o → h'.get? b = some o) (hp : s.heap.objs.size ≤ p) (hS : h'.get? p = some { cls := .type "list", dict := none, data := .seq acc c, slots := #[] })
    (hn : ts.length ≤ sizeLine) (ab : ∀ t ∈ ts, p < t.1) (nd : (ts.map (·.1)).Nodup) (hz : ∀ t ∈ ts, ZOk h' t) (hacc : acc.toList = (ts.map (·.1)).map Value.ref) :
    ∃ H' : Hp, Ex H H' ∧ H p = none ∧ H' p = some (.lst (ts.map fun t => V.ref t.1)) ∧ (∀ t ∈ ts, H' t.1 = some (.frz t.2.1 (.tup [t.2.2.1, t.2.2.2]))) ∧ Inv X pins σ H' { s with heap := h', toks := tk } := by
  have np : H p = none := I.hok.fresh hp
  have nt : ∀ t ∈ ts, H t.1 = none := fun t ht => I.hok.fresh (Nat.le_trans hp (Nat.le_of_lt (ab t ht)))
  have pn : p ∉ ts.map (·.1) := fun q => by obtain ⟨t, ht, e⟩ := List.mem_map.mp q; have := ab t ht; rw [e] at this; exact Nat.lt_irrefl _ this
  have atT := putZ_at ts (upd H p (.lst (ts.map fun t => V.ref t.1))) nd
  have eP : putZ (upd H p (.lst (ts.map fun t => V.ref t.1))) ts p = some (.lst (ts.map fun t => V.ref t.1)) := by rw [putZ_off ts _ pn, upd_same]
  have off : ∀ b, b ∉ ts.map (·.1) → b ≠ p → putZ (upd H p (.lst (ts.map fun t => V.ref t.1))) ts b = H b := fun b h1 h2 => by rw [putZ_off ts _ h1, upd_ne h2]
  have kp : ∀ b u, H b = some u → putZ (upd H p (.lst (ts.map fun t => V.ref t.1))) ts b = some u := fun b u e => by
    rw [off b (fun q => by obtain ⟨t, ht, e'⟩ := List.mem_map.mp q; rw [← e', nt t ht] at e; cases e) (fun q => by rw [q, np] at e; cases e)]
    exact e
  have low : ∀ b o, s.heap.get? b = some o → b ∉ ts.map (·.1) ∧ b ≠ p := fun b o e => ⟨fun q => by
    obtain ⟨t, ht, e'⟩ := List.mem_map.mp q
    have h1 := ab t ht
    rw [e'] at h1
    exact Nat.lt_irrefl _ (Nat.lt_trans (Nat.lt_of_le_of_lt hp h1) (Heap.lt_size e)), fun q => by
      have h2 := Heap.lt_size e
      rw [q] at h2
      exact Nat.lt_irrefl _ (Nat.lt_of_lt_of_le h2 hp)⟩
  refine ⟨_, kp, np, eP, atT, ?_⟩
  refine I.call' (ch := []) rfl ⟨fun b o q _ _ _ => hk b o q, fun b o q _ _ _ => ⟨o.slots, hk b o q⟩, fun b o q n _ => ?_, fun b o q _ => ⟨o, hk b o q⟩, fun b xs q => kp b _ q, fun b o u q => kp b _ q, fun b ps q => ⟨#[], by rw [kp b _ q]; simp⟩⟩ (fun b u q => ?_) I.bare fun b z => by simp at z
  · obtain ⟨z1, z2⟩ := low b o q
    rw [off b z1 z2]
    exact n
  · by_cases hb : b ∈ ts.map (·.1)
    · obtain ⟨t, ht, rfl⟩ := List.mem_map.mp hb
      rw [atT t ht] at q
      cases q
      obtain ⟨x, y, e1, e2, e3, e4⟩ := hz t ht
      exact ⟨e2, by show 2 ≤ sizeLine; decide, [x, y], .cons e3 (.cons e4 .nil), ⟨_, e2, by rw [e1], 0, by rw [e1]⟩⟩
    · by_cases hb2 : b = p
      · subst hb2
        rw [eP] at q
        cases q
        refine ⟨by rw [List.length_map]; exact hn, acc.toList, c, ?_, by rw [Array.toArray_toList]; exact hS⟩
        rw [hacc]
        have := LiI.vals_refs (ts.map (·.1))
        rw [List.map_map] at this
        exact this
      · rw [off b hb hb2] at q
        exact (I.hok b u q).stay (fun d v _ y => hk d v y) (fun d y => kp d _ y) fun d xs y => kp d _ y
def tLZ (K : PySem.W.Frag) (ta : TA) : TE := fun σ H Q => ta σ H fun vs H1 => ∃ a b xs ys, vs = [.ref a, .ref b] ∧ SqT K H1 a xs ∧ SqT K H1 b ys ∧ xs.length = ys.length ∧
  ∀ (H' : Hp) (p : Addr) (ts : List Zt), Ex H1 H' → H1 p = none → H' p = some (.lst (ts.map fun t => V.ref t.1)) → ts.map (·.2.2) = xs.zip ys → (∀ t ∈ ts, t.2.1.dict = none ∧ H' t.1 = some (.frz t.2.1 (.tup [t.2.2.1, t.2.2.2]))) → Q (.ref p) H'
section
variable {X : Cx} {e e2 : Expr} {ta : TA} {p p2 pos pos2 : Pos}
theorem pe_lzip (hc : X.calm = true) (hgl : Gl X "list") (hml : X.mg "list" = none) (hgz : Gl X "zip") (hmz : X.mg "zip" = none) (ha : PA X [e, e2] ta)
    (hs : starEach [.Call (.Name "zip" p2) [e, e2] [] pos2] X.env = (false, eval (.Call (.Name "zip" p2) [e, e2] [] pos2) X.env) :: starEach [] X.env := by rfl)
    (hs2 : starEach [e, e2] X.env = (false, eval e X.env) :: starEach [e2] X.env := by rfl) (hpl : (backTo pos2 (starEach [e2] X.env)).any (·.1) = false := by rfl) :
    PE X (.Call (.Name "list" p) [.Call (.Name "zip" p2) [e, e2] [] pos2] [] pos) (tLZ X.K ta) := by
  refine ⟨fun pins s σ H Q I hq => ?_⟩
  refine wpAny_Call_Name_kw (ld_blt I hgl hml PyProof.Rows.boot_list ?_)
  refine PyProof.Rows.callWith_type1 ?_ hs rfl
  rw [hs]
  show wpAny _ _ (spliced ((false, eval (.Call (.Name "zip" p2) [e, e2] [] pos2) X.env) :: backTo pos (starEach [] X.env))) _ _ s
  refine Calls.spliced_cons ?_
  refine Call_ (ld_blt I hgz hmz PyProof.Rows.boot_zip (PyProof.Rows.callWith_type1 (thn (ha.run pos2 pins s σ H _ I hq) fun us s1 ⟨vs, H1, I1, r1, q1⟩ => ?_) hs2 hpl))
  obtain ⟨a, b, xs, ys, ex, t1, t2, hl, q⟩ := q1
  subst ex
  cases r1 with
  | cons r rr =>
    cases rr with
    | cons r' rr =>
      cases rr
      cases r
      cases r'
      obtain ⟨its, rv, p1, z1⟩ := I1.tuple t1
      obtain ⟨its2, rv2, p2', z2⟩ := I1.tuple t2
      obtain ⟨o1, ho1, _⟩ := id p1
      obtain ⟨o2, ho2, _⟩ := id p2'
      have la := Heap.lt_size ho1
      have lb := Heap.lt_size ho2
      have far : ∀ {x : Addr} (k : Nat), x < s1.heap.objs.size → x ≠ s1.heap.objs.size + k := fun {x} k h e => absurd (show s1.heap.objs.size + k < s1.heap.objs.size by rw [← e]; exact h) (Nat.not_lt.mpr (Nat.le_add_right _ _))
      have len1 := rv.length
      have len2 := rv2.length
      refine RZ.call_zipT (show s1.heap.IsTuple a its.toArray from p1) (show s1.heap.IsTuple b its2.toArray from p2') fun h2 hz hTI hTO i1 i2 hsz hk2 => ?_
      refine Calls.spliced_nil ?_
      refine Zx.list_of (s := { s1 with heap := h2 }) (xs := its.toArray) (ys := its2.toArray) (I1.ok.hd hc) (PySem.W.ktu_apart s1.heap.objs.size a b la lb) ⟨far 4 la, far 3 la, far 0 la, far 1 la, far 4 lb, far 3 lb, far 0 lb, far 1 lb⟩ hz hTI ⟨_, _, hTO⟩ i1 i2 ?_ ?_ (by simp; omega) (by simp; omega) fun h' tk acc c as hk hS hlen hG hacc => ?_
      · obtain ⟨o, w1, w2⟩ := p1; exact ⟨o, hk2 _ o w1, w2⟩
      · obtain ⟨o, w1, w2⟩ := p2'; exact ⟨o, hk2 _ o w1, w2⟩
      · have hsz' : h2.objs.size = s1.heap.objs.size + 5 := hsz
        dsimp only at hS hG hk ⊢
        obtain ⟨ts, e1, e3, e4⟩ := build (h := h') as its its2 xs ys rv rv2 (by simpa using hlen) (by omega) fun j x hj => by simpa using hG.pairs j x hj
        obtain ⟨H', k1, k2, k3, k4, J⟩ := zip_laid (tk := tk) (p := h2.objs.size) (ts := ts) I1 (fun x o w1 => hk x o (far 4 (Heap.lt_size w1)) (far 3 (Heap.lt_size w1)) (far 0 (Heap.lt_size w1)) (far 1 (Heap.lt_size w1)) (hk2 x o w1)) (by omega) hS (by
            have := congrArg List.length e1
            simp only [List.length_map] at this
            simp at hlen
            omega) (fun t ht => hG.above _ (by rw [← e1]; exact List.mem_map_of_mem (f := (·.1)) ht)) (by rw [e1]; exact List.Pairwise.imp (fun {x y} (w : x < y) => Nat.ne_of_lt w) hG.rise) e4 (by rw [hacc, e1])
        refine ⟨.ref _, H', J, rfl, q H' _ ts k1 k2 k3 e3 fun t ht => ⟨?_, k4 t ht⟩⟩
        obtain ⟨x, y, w1, _⟩ := e4 t ht
        rw [w1]
/-! the model -/
def mLZ (ms : WL) : WL := fun E b R => ms E b fun ds b1 => match ds with
  | [.tuple xs, .tuple ys] => xs.length = ys.length ∧ R (zipD xs ys) b1
  | _ => False
theorem zip_dt {H : Hp} : ∀ {ts : List Zt} {xs ys : List V} {ds es : List PyData}, DtAll H xs ds → DtAll H ys es → xs.length = ys.length → ts.map (·.2.2) = xs.zip ys → (∀ t ∈ ts, t.2.1.dict = none ∧ H t.1 = some (.frz t.2.1 (.tup [t.2.2.1, t.2.2.2]))) → DtAll H (ts.map fun t => V.ref t.1) (zipD ds es)
  | [], _, _, _, _, .nil, .nil, _, _, _ => .nil
  | [], _, _, _, _, .cons _ _, .cons _ _, _, e, _ => by simp at e
  | _, _, _, _, _, .nil, .cons _ _, l, _, _ => by simp at l
  | _, _, _, _, _, .cons _ _, .nil, l, _, _ => by simp at l
  | _ :: _, _, _, _, _, .nil, .nil, _, e, _ => by simp at e
  | t :: ts, _, _, _, _, .cons a r, .cons b u, l, e, h => by
    simp only [List.map_cons, List.zip_cons_cons, List.cons.injEq] at e
    obtain ⟨h1, h2⟩ := h t (List.mem_cons_self ..)
    rw [List.map_cons, zipD]
    refine .cons (.tup h2 h1 ?_) (zip_dt r u (by simpa using l) e.2 fun x hx => h x (List.mem_cons_of_mem _ hx))
    rw [e.1]
    exact .cons a (.cons b .nil)
theorem pm_lz {K : PySem.W.Frag} {ms : WL} {q : Expr} (h : PE X q (tLZ K (tA ms))) : PE X q (tL (mLZ ms)) := h.weak fun σ H Q ⟨W, H0, E, b, R, S, hm, k⟩ => by
  refine ⟨W, H0, E, b, _, S, hm, fun ds b1 vs H1 h1 k1 d1 t1 => ?_⟩
  split at h1
  · cases t1 with
    | cons q1 t1 =>
      cases t1 with
      | cons q2 t1 =>
        cases t1
        obtain ⟨a1, o1, us, rfl, s1, _, al1⟩ := q1.tup_inv
        obtain ⟨a2, o2, ws, rfl, s2, _, al2⟩ := q2.tup_inv
        have l : us.length = ws.length := by rw [al1.length, al2.length]; exact h1.1
        refine ⟨a1, a2, us, ws, rfl, .inl (.inr ⟨o1, s1⟩), .inl (.inr ⟨o2, s2⟩), l, fun H' p ts ex np hp ez ht => ?_⟩
        have np0 := k1.back (W.free d1 np) np
        exact k _ b1 p _ H' h1.2 (k1.trans (Kp.ex ex)) (W.ex ex d1) np0 hp (zip_dt (al1.mono (Fk.ex ex)) (al2.mono (Fk.ex ex)) l ez ht)
  · exact h1.elim
end
end Wp

/-! texts: f-strings, join; enumerate of a list as a loop -/
namespace Wp
open PySem PySem.Spec PyProof.Rows L2 Evl
/-- {x} -/
def mFmt (m : WE) : WE := fun E b R => m E b fun d b1 => match d with
  | .int i => i.natAbs.log2 < 1920 ∧ R (.str (toString i)) b1
  | .str y => y.length ≤ sizeLine ∧ R (.str y) b1
  | _ => False
theorem mFmt_e {m : WE} {E : Env} {b : Nat} {R : PyData → Nat → Prop} : mFmt m E b R = (m E b fun d b1 => match d with
  | .int i => i.natAbs.log2 < 1920 ∧ R (.str (toString i)) b1
  | .str y => y.length ≤ sizeLine ∧ R (.str y) b1
  | _ => False) := propext Iff.rfl
/-- the parts of a text, one behind the other -/
def mJs : List WE → Str → WE
  | [], acc => fun E b R => R (.str acc) b
  | m :: ms, acc => fun E b R => m E b fun d b1 => match d with
    | .str y => (acc ++ y).length ≤ sizeLine ∧ mJs ms (acc ++ y) E b1 R
    | _ => False
theorem mJs_n {acc : Str} {E : Env} {b : Nat} {R : PyData → Nat → Prop} : mJs [] acc E b R = R (.str acc) b := rfl
theorem mJs_c {m : WE} {ms : List WE} {acc : Str} {E : Env} {b : Nat} {R : PyData → Nat → Prop} : mJs (m :: ms) acc E b R = (m E b fun d b1 => match d with
    | .str y => (acc ++ y).length ≤ sizeLine ∧ mJs ms (acc ++ y) E b1 R
    | _ => False) := propext Iff.rfl
/-- a.join(x) -/
def mSJ (mo m : WE) : WE := fun E b R => mo E b fun d b1 => match d with
  | .str a => m E b1 fun e b2 => match e with
    | .list ds => ∃ ys : List Str, ds = ys.map PyData.str ∧ (ys.map (·.length)).sum + ys.length * a.length ≤ 16777216 ∧ R (.str (Txt.join a ys)) b2
    | _ => False
  | _ => False
theorem mSJ_e {mo m : WE} {E : Env} {b : Nat} {R : PyData → Nat → Prop} : mSJ mo m E b R = (mo E b fun d b1 => match d with
  | .str a => m E b1 fun e b2 => match e with
    | .list ds => ∃ ys : List Str, ds = ys.map PyData.str ∧ (ys.map (·.length)).sum + ys.length * a.length ≤ 16777216 ∧ R (.str (Txt.join a ys)) b2
    | _ => False
  | _ => False) := propext Iff.rfl
theorem DtAll.strs_inv {H : Hp} : ∀ {ys : List Str} {xs : List V}, DtAll H xs (ys.map PyData.str) → xs = ys.map V.str
  | [], _, .nil => rfl
  | _ :: _, _, .cons a b => by cases a; rw [DtAll.strs_inv b]; rfl
section
variable {X : Cx} {m mo : WE} {pos apos : Pos} {e o : Expr}
theorem pm_fmt (h : PE X e (tE m)) : PE X (.FormattedValue e (-1) none pos) (tE (mFmt m)) := (pe_fmt h).weak fun σ H Q ⟨W, H0, E, b, R, S, hm, k⟩ => by
  refine ⟨W, H0, E, b, _, S, hm, fun d b1 v H1 h1 k1 d1 t1 => ?_⟩
  cases d <;> first | exact h1.elim | skip
  · cases t1
    exact .inr ⟨_, rfl, h1.1, k _ b1 _ H1 h1.2 k1 d1 (.str _)⟩
  · cases t1
    exact .inl ⟨_, rfl, h1.1, k _ b1 _ H1 h1.2 k1 d1 (.str _)⟩
theorem js_of {σ : L2.St} : ∀ {ms : List WE} {acc : Str} {H : Hp} {Q : VK}, tE (mJs ms acc) σ H Q → tJs (ms.map tE) acc σ H fun out H1 => Q (.str out) H1
  | [], acc, H, Q, ⟨W, H0, E, b, R, S, hm, k⟩ => k _ b _ H hm Kp.refl S.dk (.str _)
  | m :: ms, acc, H, Q, ⟨W, H0, E, b, R, S, hm, k⟩ => by
    refine ⟨W, H0, E, b, _, S, hm, fun d b1 v H1 h1 k1 d1 t1 => ?_⟩
    cases d <;> first | exact h1.elim | skip
    cases t1
    exact ⟨_, rfl, h1.1, js_of ⟨W, H0, E, b1, R, S.step k1 d1, h1.2, fun d b' v H' r kp dk t => k d b' v H' r (k1.trans kp) dk t⟩⟩
theorem pm_joined {ms : List WE} {v1 v2 : Expr} {rest : List Expr} (h : PJ X (v1 :: v2 :: rest) (ms.map tE)) : PE X (.JoinedStr (v1 :: v2 :: rest) pos) (tE (mJs ms Str.empty)) := (pe_joined h).weak fun σ H Q h => js_of h
theorem pm_sj (ho : PE X o (tE mo)) (he : PE X e (tE m)) (hs : starEach [e] X.env = [(false, eval e X.env)] := by rfl) (hbase : attributeBase o "join" X.env (eval o X.env) = eval o X.env := by rfl) (hline : (apos.endLine == pos.line) = true := by rfl) :
    PE X (.Call (.Attribute o "join" apos) [e] [] pos) (tE (mSJ mo m)) := (pe_join ho he hs hbase hline).weak fun σ H Q ⟨W, H0, E, b, R, S, hm, k⟩ => by
  refine ⟨W, H0, E, b, _, S, hm, fun d b1 v H1 h1 k1 d1 t1 => ?_⟩
  cases d <;> first | exact h1.elim | skip
  cases t1
  refine ⟨⟨_, rfl⟩, W, H0, E, b1, _, S.step k1 d1, h1, fun d b2 v H2 h2 k2 d2 t2 => ?_⟩
  cases d <;> first | exact h2.elim | skip
  obtain ⟨ys, rfl, hl, hr⟩ := h2
  obtain ⟨p, o1, xs, rfl, hp, al⟩ := t2.lst_inv
  obtain rfl := al.strs_inv
  exact ⟨_, p, ys, rfl, rfl, .inl (.inl (.inr ⟨o1, hp⟩)), hl, k _ b2 _ H2 hr (k1.trans k2) d2 (.str _)⟩
end
/-! ### for over enumerate of a list -/
def mForEL (t : WG1) (ms : WL) (m : WS) : WS := fun E b F => ms E b fun ds b1 => match ds with
  | [.list xs] => mTurns t m (enD 0 xs) E b1 F
  | _ => False
theorem mForEL_e {t : WG1} {ms : WL} {m : WS} {E : Env} {b : Nat} {F : WEnds} : mForEL t ms m E b F = (ms E b fun ds b1 => match ds with
  | [.list xs] => mTurns t m (enD 0 xs) E b1 F
  | _ => False) := propext Iff.rfl
theorem walk_enumL {K : PySem.W.Frag} {a : Addr} {xs : List V} : Walk (Ite K a) xs.length (fun H => SqL K H a xs) (YPair (fun i => some (.int (i : Nat))) (fun i => xs[i]?)) := by
  refine ⟨fun i _ hi q => ⟨xs, xs[i], q, by simp [hi]⟩, fun _ q => ⟨xs, q, Nat.le_refl _⟩, fun i H v H' _ q y => ?_⟩
  obtain ⟨T, x, h1, h2, h3, h4⟩ := y
  exact ⟨T, .int (i : Nat), x, h1, h2, h3, rfl, h4 xs q⟩
section
variable {X : Cx} {pos : Pos}
theorem pm_forEL {K : PySem.W.Frag} {ws : List Nat} {tg iter : Expr} {body : List Stmt} {g : TG} {t : WG1} {m : WS} {me : WL} (hK : X.K = K) (hp : PassesOwn (model X.prog X.w) X.A X.env X.xe) (hc : X.calm = true) (hi : PI X tg iter (iEnum X.K (tA me))) (hg : PG X tg g) (gb : GB (Bd K) ws g t) (hb : PSs X body (tS xw m)) (hs : ∀ x, foldedSetIterable iter X.env x = pure x := by intro _; rfl) : PS X (.For tg iter body [] pos) (tS xw (mForEL t me m)) := by
  subst hK
  refine (ps_for hp hc hi hg hb hs).weak fun D σ H ⟨W, H0, E, b, F, S, hm, k⟩ => ?_
  refine ⟨W, H0, E, b, _, S, hm, fun ds b1 vs H1 h1 k1 d1 t1 => ?_⟩
  have S1 := S.step k1 d1
  split at h1
  · rename_i xs
    cases t1 with
    | cons q1 t1 =>
      cases t1
      obtain ⟨a1, o1, us, rfl, s1, al1⟩ := q1.lst_inv
      refine ⟨a1, us, rfl, .inl (.inr ⟨o1, s1⟩), ?_⟩
      refine turns_for (walk_enumL (K := X.K) (a := a1) (xs := us)) gb S1 k (by rw [enD_len, al1.length]) (fun H' f => .inl (.inr ⟨o1, f _ _ _ s1⟩)) h1 ?_
      rintro i H2 x H3 f ⟨T, p, q, rfl, nT, rfl, hp, hq⟩
      cases hp
      obtain ⟨dq, e2, t2⟩ := al1.get hq
      have eN : Ex H2 (upd H2 T (.tup [.int (i : Int), q])) := Ex.new nT
      refine ⟨eN, _, enD_get (i := 0) e2, T, [.int (i : Int), q], [.int ((0 + i : Nat) : Int), dq], rfl, rfl, .inl (.inl upd_same), .cons ?_ (.cons ((t2.mono f).mono (Fk.ex eN)) .nil)⟩
      rw [Nat.zero_add]
      exact .int _
  · exact h1.elim
end
end Wp

/-! defs that may raise -/
namespace Cn
open PySem PySem.Spec PyProof.Rows L2
/-- as FnG, for a def that may let an error out -/
structure FnX (P : Program) (w : World) (K : PySem.W.Frag) (mg : Str → Option Value) (base : Heap) (k : Nat) (f : Addr) (fd : FuncData) (ps : List Str) (sp : Sp) : Prop where
  len : ∀ vs H Q E, sp vs H Q E → vs.length = ps.length
  run : ∀ (A : Around) (out : List Env) (s : Shared) (H : Hp) (args : Args) (us : List Value) (vs : List V) (Q : VK) (E : XK), A.guards = some [] → Room k A → Env0 P w K mg base A out s H →
    BindsTo s fd args (ps.zip us) → Vals vs us → sp vs H Q E → codeAny (model P w) A (.call (.ref f) args) (CR (L2.CX P w) out P w H s Q E) s
section
variable {P : Program} {w : World} {K : PySem.W.Frag} {mg : Str → Option Value} {base : Heap}
theorem okX {x qual : Str} {st : Stmt} {f : Addr} {fd : FuncData} {N ps : List Str} {k : Nat} {sp : Sp} (F : Fun K x qual st f fd) (S : FnScope N ps (defScope st)) (len : ∀ vs H Q E, sp vs H Q E → vs.length = ps.length)
    (body : ∀ (cdv : Value) (A : Around) (out : List Env) (s : Shared) (H : Hp) (vs : List V) (Q : VK) (E : XK), A.guards = some [] → Room k (A.deeper (envOfC qual (defScope st) s.heap.objs.size f cdv)) → sp vs H Q E →
      ∃ t, PSs (cxOf (L2.CX P w) P w K mg base N qual (defScope st) f cdv A out s H E) (defBody st) t ∧ t { nx := fun _ H' => Q .non H', rt := Q } (start N vs) H) : FnX P w K mg base (k + 1) f fd ps sp := by
  obtain ⟨oc, od, kV, doc, pm, an, cdv, ct, osl, rfl, lk, code⟩ := F.ex
  refine ⟨len, fun A out s H args us vs Q E gd room e0 bd rel pr => ?_⟩
  have inK : K.In s.heap := e0.mod.kin.keeps fun b o e => (e0.bs b o e).1
  have par : ∀ y ∈ ps.zip us, (defScope st).names.lookup y.1 = some .local ∨ ((defScope st).names.lookup y.1 = some .cell ∧ ((cellsFrom (s.heap.objs.size + 1) (defScope st).names []).lookup y.1).isSome = true) := by
    intro y hy
    refine (S.par y.1 (List.of_mem_zip (show (y.1, y.2) ∈ ps.zip us from hy)).1).imp id fun c => ⟨c, PySem.W.cellsFrom_some _ _ _ (.inl c)⟩
  refine codeAny_call_function room.depth (inK _ _ lk) rfl S.co S.gen rfl (PySem.W.codeRec_of inK code) (bd _ _ _ _ (wpAny_newFunctionEnv_cells S.kind par ?_))
  rintro _ rfl s1 new
  refine ⟨(e0.mod.nolimit.keeps fun b o e => (e0.bs b o e).1).keeps new.toInCall.keep, codeAny_func ?_⟩
  obtain ⟨t, ht, q⟩ := body cdv A out s H vs Q E gd (room.deeper _) pr
  refine wpAny_mono (ht.run [] s1 (start N vs) H _ (inv_start S room.hd e0 (len _ _ _ _ pr) rel new) q) ?_ fun _ _ z => z
  rintro (_ | _ | _ | u) s' z
  case next =>
    obtain ⟨_, H', J, z⟩ := z
    exact ⟨V.non, H', J.os, J.bare, J.base, J.hok, rfl, z⟩
  case ret =>
    obtain ⟨v, _, H', J, rv, z⟩ := z
    exact ⟨v, H', J.os, J.bare, J.base, J.hok, rv, z⟩
  all_goals
    obtain ⟨_, _, _, z⟩ := z
    exact z.elim
/-- where nothing is let out, it is a def of the other kind -/
theorem FnX.calm {k : Nat} {f : Addr} {fd : FuncData} {ps : List Str} {sp : Sp} (F : FnX P w K mg base k f fd ps sp) : FnG P w K mg base k f fd ps (fun vs H Q _ => sp vs H Q fun _ _ _ => False) :=
  ⟨fun vs H Q _ h => F.len vs H Q _ h, fun A out s H args us vs Q E gd room e0 bd rel pr => codeAny_mono (F.run A out s H args us vs Q _ gd room e0 bd rel pr) fun r s' z => by
    cases r with
    | ok fl => cases fl <;> exact z
    | error e =>
      obtain ⟨_, _, _, _, _, _, _, _, _, _, _, _, z⟩ := z
      exact z.elim⟩
end
section
variable {X : Cx} {k : Nat} {f : Addr} {fd : FuncData} {ps : List Str} {sp : Sp} {x : Str} {p pos : Pos} {e : Expr} {es : List Expr} {t : TA} {Wx : WX}
/-- f(e, ..), what it lets out being taken by Wx -/
theorem pe_callX (F : FnX X.prog X.w X.K X.mg X.base k f fd ps sp) (gd : X.A.guards = some []) (room : Room k X.A) (gl : Gl X x) (hm : X.mg x = some (.ref f)) (kp : PySem.W.keepIn X.K (.ref f) = true) (bd : Binds X.K fd ps []) (tk : Takes X Wx)
    (ha : PA X (e :: es) t) (hdb : (x == ("__debug__" : Str)) = false := by decide) (he : starEach (e :: es) X.env = (false, eval e X.env) :: starEach es X.env := by rfl) (hpl : (backTo pos (starEach es X.env)).any (·.1) = false := by rfl) :
    PE X (.Call (.Name x p) (e :: es) [] pos) (tCallS sp (WE Wx) t) := by
  refine ⟨fun pins s σ H Q I h => wpAny_Call_Name_kw (ld_glob I gl hm ?_ hdb)⟩
  refine PySem.W.callWith_K (h₀ := X.base) I.ok.mod.kin kp (thn (ha.run pos pins s σ H _ I h) ?_) he hpl
  rintro us s1 ⟨vs, H1, I1, rel, q⟩
  refine ⟨I1.kIn, ?_⟩
  have l0 : us.length = ps.length := rel.length.symm.trans (F.len _ _ _ _ q)
  have b0 := bd s1 us I1.kIn (by rw [List.append_nil]; exact l0)
  rw [List.append_nil] at b0
  refine wpAny_call (codeAny_mono (F.run X.A X.stack s1 H1 ⟨us, []⟩ us vs Q (WE Wx σ) gd room I1.env0 b0 rel q) ?_)
  rintro (_ | fl) s' z
  · exact passAt tk σ pins H1 s1 _ s' I1 z
  · cases fl with
    | ret u => exact I1.after z
    | _ => exact z.elim
end
/-! ### classes of errors with one field, set by __init__ -/
section
variable {P : Program} {w : World} {K : PySem.W.Frag} {mg : Str → Option Value} {base : Heap}
def spI (C : Addr) (f : Str) : Sp := fun vs H Q _ => ∃ a v, vs = [.ref a, v] ∧ H a = some (exo a C none) ∧ ∀ dx, H dx = none → dx ≠ a → Q .non (upd (upd H dx (exd dx [(f, v)])) a (exo a C (some dx)))
theorem init_reads {C : Addr} {f y z : Str} {vs : List V} {H : Hp} {Q : VK} {E : XK} (T : OexC K C) (hno : PySem.W.findIn K (.ref C) f = some none) (h : spI C f vs H Q E) : tOst K f (tVar 0) (tVar 1) { nx := fun _ H' => Q .non H', rt := Q } (start [y, z] vs) H := by
  obtain ⟨a, v, rfl, ha, q⟩ := h
  exact ⟨v, rfl, .ref a, rfl, a, C, rfl, T, hno, .inl ⟨ha, q⟩⟩
end
end Cn
namespace Wp
open PySem PySem.Spec PyProof.Rows L2 Evl
theorem tE_mono {m : WE} {σ : L2.St} {H : Hp} {Q Q' : VK} (h : tE m σ H Q) (k : ∀ v H', Q v H' → Q' v H') : tE m σ H Q' := by
  obtain ⟨W, H0, E, b, R, S, hm, q⟩ := h
  exact ⟨W, H0, E, b, R, S, hm, fun d b' v H' r kp dk t => k _ _ (q d b' v H' r kp dk t)⟩
section
variable {X : Cx} {C fI : Addr} {fd : FuncData} {ps : List Str} {x f : Str} {p pos pos2 : Pos} {e : Expr} {m : WE} {k : Nat} {xw : XW} {Wx : WX}
def tMk1 (C : Addr) (f : Str) (te : TE) : L2.St → Hp → XK → Prop := fun σ H Q => te σ H fun v H1 => ∀ d, H1 d = none → Q (.ref C) (some d) (upd H1 d (.xd [(f, v)]))
/-- C(e) -/
theorem pmk_1 (T : OexC X.K C) (iC : PySem.W.findIn X.K (.ref C) "__init__" = some (some (.ref fI))) (tI : PySem.W.typeIn X.K (.ref fI) = some (.type "function")) (F1 : FnOk X.prog X.w X.K X.mg X.base CX0 k fI fd ps (Cn.spI C f)) (hr : Room (k + 1) X.A) (hb : Binds X.K fd ps []) (hg : Gl X x) (hm : X.mg x = some (.ref C)) (he : PE X e (tE m))
    (hdb : (x == ("__debug__" : Str)) = false := by decide) (hs : starEach [e] X.env = (false, eval e X.env) :: starEach [] X.env := by rfl) (hpl : (backTo pos (starEach [] X.env)).any (·.1) = false := by rfl) : PMk X (.Call (.Name x p) [e] [] pos) (tMk1 C f (tE m)) := by
  intro pins s σ H Q I h
  have ha : PA X [e] (tCons (tE m) tNil) := pa_cons he pa_nil hs
  refine pmk_oex T iC tI F1 hr hb .nil (fun _ _ _ _ _ _ _ z => z.elim) hg hm ha hdb hs hpl pins s σ H Q I ?_
  refine tE_mono h fun v H1 q => ⟨by simp, fun a na => ⟨a, v, rfl, upd_same, fun dx hd ne => ⟨rfl, dx, [(f, v)], upd_same, by rw [upd_ne ne]; exact upd_same, ?_, ?_⟩⟩⟩
  · rw [upd_ne ne] at hd
    exact hd
  · have hd1 : H1 dx = none := by rw [upd_ne ne] at hd; exact hd
    have e2 : upd (del (upd (upd (upd H1 a (exo a C none)) dx (exd dx [(f, v)])) a (exo a C (some dx))) a) dx (.xd [(f, v)]) = upd H1 dx (.xd [(f, v)]) := by
      funext b
      unfold upd del
      by_cases h1 : b = dx
      · rw [if_pos h1, if_pos h1]
      · rw [if_neg h1, if_neg h1]
        by_cases h2 : b = a
        · rw [if_pos h2, h2, na]
        · rw [if_neg h2]
          show (if b = a then some (exo a C (some dx)) else if b = dx then some (exd dx [(f, v)]) else if b = a then some (exo a C none) else H1 b) = H1 b
          rw [if_neg h2, if_neg h1, if_neg h2]
    rw [e2]
    exact q dx hd1
/-- the errors by number: class and field -/
abbrev XC := Nat → Addr × Str
/-- number 0: an object is returned; c + 1: the error of the number c is raised -/
def xwS (xc : XC) (Wx : WX) : XW := fun rt c v σ H => match c with
  | 0 => rt v H
  | c + 1 => ∀ d, H d = none → Wx (.ref (xc c).1) (some d) σ (upd H d (.xd [((xc c).2, v)]))
abbrev xwOf (xc : XC) (E : XK) : XW := xwS xc fun cls d _ H => E cls d H
/-- raise C(e), C the class of the number c -/
def mRaise (c : Nat) (m : WE) : WS := fun E b F => m E b fun d b1 => F.xx (c + 1) (.d d) E b1
theorem pm_raise {xc : XC} {c : Nat} (hc : X.calm = true) (tk : Takes X Wx) (hp : PMk X e (tMk1 (xc c).1 (xc c).2 (tE m))) : PS X (.Raise (some e) none pos) (tS (xwS xc Wx) (mRaise c m)) :=
  (ps_raise hc tk hp).weak fun D σ H ⟨W, H0, E, b, F, S, hm, k⟩ => ⟨W, H0, E, b, _, S, hm, fun d b1 v H1 h1 k1 d1 t1 => k.xx (c + 1) (.d d) v σ H1 E b1 h1 (S.step k1 d1) t1⟩
end
/-! ### a def that may raise, or return an object, by its model -/
abbrev WFX := List Sl → Nat → (PyData → Nat → Prop) → (Nat → Sl → Nat → Prop) → Prop
def mFnX (n k : Nat) (m : WS) : WFX := fun as b R Z => as.length = n ∧ m (as ++ List.replicate (k - n) .no) b { nx := fun _ b' => R .none b', rt := R, xx := fun c d _ b' => Z c d b' }
def spOfX (xc : XC) (mf : WFX) : Sp := fun vs H Q E => ∃ W as b R Z, ArsR W H vs as ∧ W.Dk b H ∧ mf as b R Z ∧ (∀ d b' v H', R d b' → Kp W.M H H' → W.Dk b' H' → Dt H' v d → Q v H') ∧
  ∀ c d b' v H', Z c d b' → Kp W.M H H' → W.Dk b' H' → ArR W H' v d → xwOf xc E Q c v [] H'
theorem xwOf_any {xc : XC} {E : XK} {rt : VK} {c : Nat} {v : V} {σ σ' : L2.St} {H : Hp} (h : xwOf xc E rt c v σ H) : xwOf xc E rt c v σ' H := by
  cases c <;> exact h
theorem fn_ofX {P : Program} {w : World} {K : PySem.W.Frag} {mg : Str → Option Value} {base : Heap} {x qual : Str} {st : Stmt} {f : Addr} {fd : FuncData} {N ps : List Str} {k : Nat} {mb : WS} {xc : XC} (F : Fun K x qual st f fd) (S : FnScope N ps (defScope st)) (hps : ps.length ≤ N.length)
    (body : ∀ (cdv : Value) (A : Around) (out : List PySem.Env) (s : Shared) (H : Hp) (E : XK), A.guards = some [] → Room k (A.deeper (envOfC qual (defScope st) s.heap.objs.size f cdv)) → PSs (cxOf (L2.CX P w) P w K mg base N qual (defScope st) f cdv A out s H E) (defBody st) (tS (xwOf xc E) mb)) :
    Cn.FnX P w K mg base (k + 1) f fd ps (spOfX xc (mFnX ps.length N.length mb)) := by
  refine Cn.okX F S (fun vs H Q E h => ?_) (fun cdv A out s H vs Q E gd hr h => ⟨_, body cdv A out s H E gd hr, ?_⟩)
  · obtain ⟨W, as, b, R, Z, ar, _, hm, _⟩ := h
    exact ar.length.trans hm.1
  · obtain ⟨W, as, b, R, Z, ar, dk, ⟨hl, hm⟩, q, qx⟩ := h
    have S := start_sit (N := N) ar dk (by rw [hl]; exact hps)
    rw [hl] at S
    exact ⟨W, ⟨H, H⟩, _, b, _, S, hm, ⟨fun σ' H' E' b' S' h' => q _ b' _ H' h' S'.kp S'.dk .non, fun _ _ _ _ _ z => z.elim, fun _ _ _ _ _ z => z.elim, fun d b' v H' r kp d' t => q d b' v H' r kp d' t, fun c d v σ' H' E' b' h' S' t' => xwOf_any (qx c d b' v H' h' S'.kp S'.dk t')⟩⟩
/-- where it raises nothing it may be called like any other -/
theorem calmF {P : Program} {w : World} {K : PySem.W.Frag} {mg : Str → Option Value} {base : Heap} {f : Addr} {fd : FuncData} {ps : List Str} {k : Nat} {mf : WFX} {xc : XC} (F : Cn.FnX P w K mg base k f fd ps (spOfX xc mf)) : Cn.FnG P w K mg base k f fd ps (spOf fun as b R => mf as b R fun _ _ _ => False) := by
  have G := F.calm
  refine ⟨fun vs H Q E h => ?_, fun A out s H args us vs Q E gd room e0 bd rel pr => ?_⟩
  · obtain ⟨W, as, b, R, ar, dk, hm, q⟩ := h
    exact G.len vs H Q E ⟨W, as, b, R, _, ar, dk, hm, q, fun _ _ _ _ _ z => z.elim⟩
  · obtain ⟨W, as, b, R, ar, dk, hm, q⟩ := pr
    exact G.run A out s H args us vs Q E gd room e0 bd rel ⟨W, as, b, R, _, ar, dk, hm, q, fun _ _ _ _ _ z => z.elim⟩
end Wp

/-! objects made and methods called, by defs that may raise -/
namespace Cn
open PySem PySem.Spec PyProof.Rows L2
section
variable {X : Cx} {k : Nat} {f C : Addr} {fd : FuncData} {ps : List Str} {sp : Sp} {x m : Str} {p pos apos : Pos} {e o : Expr} {es : List Expr} {ta : TE} {t : TA} {Wx : WX}
theorem guards_make {A : Around} (g : A.guards = some []) (c : Value) (us : List Value) : (A.under (.builtin "type.__call__" ⟨c :: us, []⟩)).guards = some [] := by
  have h : (Code.builtin "type.__call__" ⟨c :: us, []⟩).guards = [] := by
    unfold Code.guards
    rw [if_neg (by first | decide | (intro z; cases z) | simp [Code.isGuard])]
  simp [Around.under, g, h, pushGuards]
def tMakeS (C : Addr) (sp : Sp) (E : L2.St → XK) (t : TA) : TE := fun σ H Q => t σ H fun vs H1 => ∀ x dx, H1 x = none → H1 dx = none → dx ≠ x → sp (.ref x :: vs) (upd (upd H1 dx (.own x)) x (.ins C dx [])) (fun v H2 => v = .non ∧ Q (.ref x) H2) (E σ)
/-- C(e, ..) -/
theorem pe_makeX (M : Mk X.K C f) (F : FnX X.prog X.w X.K X.mg X.base k f fd ps sp) (gd : X.A.guards = some []) (hr : Room (k + 1) X.A) (hg : Gl X x) (hm : X.mg x = some (.ref C)) (hb : Binds X.K fd ps []) (tk : Takes X Wx)
    (ha : PA X (e :: es) t) (hdb : (x == ("__debug__" : Str)) = false := by decide) (he : starEach (e :: es) X.env = (false, eval e X.env) :: starEach es X.env := by rfl) (hpl : (backTo pos (starEach es X.env)).any (·.1) = false := by rfl) :
    PE X (.Call (.Name x p) (e :: es) [] pos) (tMakeS C sp (WE Wx) t) := by
  refine ⟨fun pins s σ H Q I h => wpAny_Call_Name_kw (ld_glob I hg hm ?_ hdb)⟩
  refine PySem.W.callWith_K (h₀ := X.base) I.ok.mod.kin M.kp (thn (ha.run pos pins s σ H _ I h) ?_) he hpl
  rintro us s ⟨vs, H, I, r, h⟩
  refine ⟨I.kIn, ?_⟩
  have hq := h (s.heap.objs.size + 1) s.heap.objs.size (I.hok.fresh (Nat.le_succ _)) (I.hok.fresh (Nat.le_refl _)) (Nat.ne_of_lt (Nat.lt_succ_self _))
  have J := Inv.made (C := C) I
  have r2 : Vals (V.ref (s.heap.objs.size + 1) :: vs) (Value.ref (s.heap.objs.size + 1) :: us) := .cons rfl r
  have hl : (Value.ref (s.heap.objs.size + 1) :: us).length = ps.length := r2.length.symm.trans (F.len _ _ _ _ hq)
  have b0 := hb { s with heap := (s.heap.push PySem.W.emptyDict).push (PySem.W.instObj C s.heap.objs.size) } (Value.ref (s.heap.objs.size + 1) :: us) J.kIn (by rw [List.append_nil]; exact hl)
  rw [List.append_nil] at b0
  refine wpAny_call (make_map (f := f) I.kIn M.makes M.init (beq_iff_eq.mp M.fn) (codeAny_mono (F.run _ X.stack _ _ ⟨Value.ref (s.heap.objs.size + 1) :: us, []⟩ _ _ _ (WE Wx σ) (guards_make gd _ us) (hr.make C us []) (J.env0.make C us []) b0 r2 hq) ?_))
  rintro (_ | fl) s' z
  · exact passAt tk σ pins _ _ _ s' J z
  · cases fl with
    | ret u =>
      obtain ⟨v, H', I3, rv, ev, q3⟩ := J.after z
      subst ev
      exact ⟨rv, ⟨V.ref (s.heap.objs.size + 1), H', I3, rfl, q3⟩⟩
    | _ => exact z.elim
def tMethS (C : Addr) (m : Str) (sp : Sp) (E : L2.St → XK) (ta : TE) (t : TA) : TE := fun σ H Q => ta σ H fun x H1 => ∃ a dx fs, x = .ref a ∧ H1 a = some (.ins C dx fs) ∧ fs.lookup m = none ∧ t σ H1 fun vs H2 => sp (.ref a :: vs) H2 Q (E σ)
/-- o.m(e, ..) -/
theorem pe_methX {pl : Sem Bool} (he : PE X o ta) (c : Cls X.K C) (hm : Meth X.K C m f) (F : FnX X.prog X.w X.K X.mg X.base k f fd ps sp) (gd : X.A.guards = some []) (room : Room k X.A) (bd : Binds X.K fd ps []) (tk : Takes X Wx) (ha : PA X (e :: es) t)
    (hst : starEach (e :: es) X.env = (false, eval e X.env) :: starEach es X.env := by rfl) (hpl : (backTo pos (starEach es X.env)).any (·.1) = false := by rfl)
    (ht : eval (.Call (.Attribute o m apos) (e :: es) [] pos) X.env = (do let ov ← eval o X.env; standAt apos.atName; let (f, first) ← holding [ov] (getMethod ov m pl); callWith pos f first (backTo pos (starEach (e :: es) X.env)) (backToKw pos (keywordEach [] X.env))) := by rfl) :
    PE X (.Call (.Attribute o m apos) (e :: es) [] pos) (tMethS C m sp (WE Wx) ta t) := by
  refine ⟨fun pins s σ H Q I h => PySem.W.methodCall_KW (pl := pl) (thn (he.run pins s σ H _ I h) ?_) ht⟩
  rintro u s1 ⟨x, H1, I1, rx, a, dx, fs, rfl, ea, l, q⟩
  obtain rfl : u = Value.ref a := rx
  refine getmeth_ok I1 ea c hm l (PySem.W.callWith_K (first := [.ref a]) (h₀ := X.base) I.ok.mod.kin hm.kp (thn (ha.run pos pins s1 σ H1 _ I1 q) ?_) hst hpl)
  rintro us s2 ⟨vs, H2, I2, rel, q2⟩
  refine ⟨I2.kIn, ?_⟩
  have r2 : Vals (V.ref a :: vs) (Value.ref a :: us) := .cons rfl rel
  have l0 : (Value.ref a :: us).length = ps.length := r2.length.symm.trans (F.len _ _ _ _ q2)
  have b0 := bd s2 (Value.ref a :: us) I2.kIn (by rw [List.append_nil]; exact l0)
  rw [List.append_nil] at b0
  refine wpAny_call (codeAny_mono (F.run X.A X.stack s2 H2 ⟨Value.ref a :: us, []⟩ _ _ Q (WE Wx σ) gd room I2.env0 b0 r2 q2) ?_)
  rintro (_ | fl) s' z
  · exact passAt tk σ pins H2 s2 _ s' I2 z
  · cases fl with
    | ret u => exact I2.after z
    | _ => exact z.elim
end
end Cn

/-! errors caught; what their suites ask of them -/
namespace Cn
open PySem PySem.Spec PyProof.Rows L2
section
variable {X : Cx} {a D dd : Addr} {oe : Obj} {pn : List (Addr × Obj)}
theorem inst_of {pins : List (Addr × Obj)} {s : Shared} {σ : L2.St} {H : Hp} {fs : List (Str × V)} (hz : Zc (.ref D) (some dd) oe) (hf : ∃ vs, oe.data = .fields vs) (I : Inv (X.suite a ((a, oe) :: pn)) pins σ H s) (hd : H dd = some (.xd fs)) : ∃ od, PySem.W.InstAt s.heap a oe D (some od) := by
  obtain ⟨hget, _⟩ := I.pin (a, oe) (List.mem_append.mpr (.inl List.mem_cons_self))
  obtain ⟨vs, hv⟩ := hf
  have hx : ObjOk X.prog X.w H s.heap dd (.xd fs) := I.hok dd _ hd
  obtain ⟨mA, hns, hr⟩ := hx
  obtain ⟨od, ho, hl⟩ := lookIn_ns hns
  exact ⟨od, hget, hz.1, by unfold PySem.W.notCls; rw [hv] <;> rfl, by rw [hz.2]; exact ho⟩
/-- isinstance(e, c) -/
def rIsX (K : PySem.W.Frag) (D a dd : Addr) : List V → Hp → VK → Prop := fun xs H Q => ∃ (c : V) (cv : Value) (b : Bool) (fs : List (Str × V)), xs = [.ref a, c] ∧ (∀ u, RelV c u → u = cv) ∧ PySem.W.kitOne K (.ref D) cv = some b ∧ H dd = some (.xd fs) ∧ Q (.bl b) H
theorem call_isX (C : ExcC X.K D) (hz : Zc (.ref D) (some dd) oe) (hf : ∃ vs, oe.data = .fields vs) : CallR (X.suite a ((a, oe) :: pn)) (.builtin "isinstance") (rIsX X.K D a dd) := by
  intro pins s σ H xs us Q I r h
  obtain ⟨c, cv, b, fs, rfl, hcv, e, hd, q⟩ := h
  cases r with
  | cons rx rr =>
    cases rr with
    | cons rt rr =>
      cases rr
      cases rx
      have ec := hcv _ rt
      subst ec
      obtain ⟨od, J⟩ := inst_of hz hf I hd
      have hcl : (PySem.W.clsIn X.K D).isSome = true := by
        obtain ⟨cd, hc, _⟩ := PySem.W.any_some C.hd
        rw [hc]; rfl
      exact PySem.W.kia_one (PySem.W.kitx_exc hcl C.hg C.hk C.hs C.ha C.hn C.ht C.hm) I.kIn J e (fun z => nomatch z) fun tk => ⟨.bl b, H, I.kept (t' := tk) fun _ _ z => z, rfl, q⟩
/-- isinstance(e, (c, ..)) -/
def rIsXs (K : PySem.W.Frag) (D a dd : Addr) : List V → Hp → VK → Prop := fun xs H Q => ∃ (tp : Addr) (cs : List V) (us : List Value) (b : Bool) (fs : List (Str × V)), xs = [.ref a, .ref tp] ∧ H tp = some (.tup cs) ∧ (∀ vs, Vals cs vs → vs = us) ∧ PySem.W.kitAny K (.ref D) us = some b ∧ H dd = some (.xd fs) ∧ Q (.bl b) H
theorem call_isXs (C : ExcC X.K D) (hz : Zc (.ref D) (some dd) oe) (hf : ∃ vs, oe.data = .fields vs) : CallR (X.suite a ((a, oe) :: pn)) (.builtin "isinstance") (rIsXs X.K D a dd) := by
  intro pins s σ H xs us Q I r h
  obtain ⟨tp, cs, cus, b, fs, rfl, ht, hcv, e, hd, q⟩ := h
  cases r with
  | cons rx rr =>
    cases rr with
    | cons rt rr =>
      cases rr
      cases rx
      cases rt
      obtain ⟨od, J⟩ := inst_of hz hf I hd
      have hcl : (PySem.W.clsIn X.K D).isSome = true := by
        obtain ⟨cd, hc, _⟩ := PySem.W.any_some C.hd
        rw [hc]; rfl
      have hx : ObjOk X.prog X.w H s.heap tp (.tup cs) := I.hok tp _ ht
      obtain ⟨_, its, rv, o, ho, hc, n, hdt⟩ := hx
      obtain ⟨oc, odd, oda, osl⟩ := o
      dsimp only at hc hdt
      subst hc hdt
      have ei := hcv _ rv
      subst ei
      exact PySem.W.kia_tup (PySem.W.kitx_exc hcl C.hg C.hk C.hs C.ha C.hn C.ht C.hm) I.kIn J ho e (fun z => nomatch z) fun tk => ⟨.bl b, H, I.kept (t' := tk) fun _ _ z => z, rfl, q⟩
end
end Cn
namespace Wp
open PySem PySem.Spec PyProof.Rows L2 Evl
section
variable {W : Wld} {H0 H H1 : Hp} {B : Bs} {σ : L2.St} {E : Env} {b b1 : Nat}
/-- a name is set to what nobody owns -/
theorem Sit.setS {i : Nat} {v : Option V} {s : Sl} (S : Sit W B σ H E b) (h : SlR W B.h0 H v s) (ho : isOwn s = false) : Sit W B (σ.set i v) H (E.set i s) b := by
  refine ⟨by simp [S.len], fun j s' e => ?_, fun p q s' t a ne h1 o1 h2 o2 e => ?_, S.kp, S.dk, S.fk⟩
  · by_cases hj : i = j
    · subst hj
      have hl : i < E.length := by have := (List.getElem?_eq_some_iff.mp e).1; simpa using this
      rw [List.getElem?_set_self hl] at e
      cases e
      exact ⟨v, List.getElem?_set_self (by rw [S.len]; exact hl), h⟩
    · rw [List.getElem?_set_ne hj] at e
      obtain ⟨u, h1, h2⟩ := S.at_ j s' e
      exact ⟨u, by rw [List.getElem?_set_ne hj]; exact h1, h2⟩
  · have np : i ≠ p := fun z => by
      subst z
      have hl : i < E.length := by have := (List.getElem?_eq_some_iff.mp h1).1; simpa using this
      rw [List.getElem?_set_self hl] at h1
      cases h1; rw [ho] at o1; cases o1
    have nq : i ≠ q := fun z => by
      subst z
      have hl : i < E.length := by have := (List.getElem?_eq_some_iff.mp h2).1; simpa using this
      rw [List.getElem?_set_self hl] at h2
      cases h2; rw [ho] at o2; cases o2
    rw [List.getElem?_set_ne np] at h1 e
    rw [List.getElem?_set_ne nq] at h2 ⊢
    exact S.apart p q s' t a ne h1 o1 h2 o2 e
end
/-! ### try: body, except x as n: suite -/
/-- errors of the numbers below n may come; cap: which of them the clause takes -/
def mTry (xc : XC) (n i : Nat) (cap : Nat → Bool) (mb : WS) (ms : Addr → Addr → Nat → WS) : WS := fun E b F => mb E b { F with xx := fun c s E1 b1 => match c with
  | 0 => F.xx 0 s E1 b1
  | c + 1 => c < n ∧ if cap c = true then ∃ d, s = .d d ∧ ∀ a dd, ms a dd c (E1.set i (.x a dd (xc c).2 d c)) b1 { nx := fun E2 b2 => F.nx (E2.set i .no) b2, rt := F.rt, bk := fun E2 b2 => F.bk (E2.set i .no) b2, ct := fun E2 b2 => F.ct (E2.set i .no) b2 } else F.xx (c + 1) s E1 b1 }
section
variable {X : Cx} {x nm : Str} {cv : Value} {i n : Nat} {body suite : List Stmt} {b₀ : Stmt} {np pos pos' : Pos} {xc : XC} {cap : Nat → Bool} {mb : WS} {ms : Addr → Addr → Nat → WS} {Wx : WX}
theorem pm_try (hs : X.stack = X.env :: X.outer) (hf : X.env.frame = some X.env.locals) (hN : X.N.Nodup) (hi : X.N[i]? = some nm) (hln : X.env.kindOf nm = some .local) (hc : Names X x cv) (tk : Takes X Wx) (hcap : ∀ c, c < n → PySem.W.exmOne X.K (.ref (xc c).1) cv = some (cap c))
    (hb : ∀ (W : WX) (pn : List (Addr × Obj)) (xe : Value → Shared → Prop), Takes (X.tr pn xe) W → PassesOwn (model X.prog X.w) X.A X.env xe → PSs (X.tr pn xe) body (tS (xwS xc W) mb))
    (hsu : ∀ (a dd : Addr) (oe : Obj) (c : Nat) (pn : List (Addr × Obj)), c < n → Zc (.ref (xc c).1) (some dd) oe → (∃ vs, oe.data = .fields vs) → PSs (X.suite a ((a, oe) :: pn)) (b₀ :: suite) (tS noX (ms a dd c))) :
    PS X (.Try body [.ExceptHandler (some (.Name x np)) (some nm) (b₀ :: suite) pos'] [] [] pos) (tS (xwS xc Wx) (mTry xc n i cap mb ms)) := by
  refine (ps_try_as (i := i) (tb := fun W => tS (xwS xc W) mb) (ts := fun a cls d D σ H => ∃ c dd, c < n ∧ cls = .ref (xc c).1 ∧ d = some dd ∧ tS noX (ms a dd c) D σ H) hs hf hN hi hln hc tk hb (fun a oe cls d pn hz hfi => ⟨fun pins s σ H D I h => ?_⟩)).weak fun D σ H ⟨W, H0, E, b, F, S, hm, k⟩ => ?_
  · obtain ⟨c, dd, hcn, rfl, rfl, h⟩ := h
    exact (hsu a dd oe c pn hcn hz hfi).run pins s σ H D I h
  · refine ⟨W, H0, E, b, _, S, hm, ⟨k.nx, k.bk, k.ct, k.rt, fun c s v σ1 H1 E1 b1 h S1 t => ?_⟩⟩
    cases c with
    | zero => exact k.xx 0 s v σ1 H1 E1 b1 h S1 t
    | succ c =>
      obtain ⟨hcn, h⟩ := h
      intro dd hd
      refine ⟨cap c, hcap c hcn, fun hy a na => ?_, fun hn => ?_⟩
      · rw [if_pos hy] at h
        obtain ⟨d, rfl, h⟩ := h
        have ex : Ex H1 (upd H1 dd (.xd [((xc c).2, v)])) := fun p o e => by rw [upd_ne (ne_of_none e hd)]; exact e
        have S2 := S1.ex ex
        have ea : ExAt W (upd H1 dd (.xd [((xc c).2, v)])) dd (xc c).2 d := ⟨W.free S1.dk hd, v, upd_same, Dt.mono (fun a o u e => ex a _ e) t⟩
        refine ⟨c, dd, hcn, rfl, rfl, W, H0, _, b1, _, S2.setS (i := i) (v := some (.ref a)) (s := .x a dd (xc c).2 d c) ⟨rfl, ea⟩ rfl, h a dd, ⟨fun σ3 H3 E3 b3 S3 h3 => k.nx _ _ _ b3 (S3.setS (v := none) (s := .no) trivial rfl) h3, fun σ3 H3 E3 b3 S3 h3 => k.bk _ _ _ b3 (S3.setS (v := none) (s := .no) trivial rfl) h3, fun σ3 H3 E3 b3 S3 h3 => k.ct _ _ _ b3 (S3.setS (v := none) (s := .no) trivial rfl) h3, k.rt, fun _ _ _ _ _ _ _ z => z.elim⟩⟩
      · rw [if_neg (by rw [hn]; decide)] at h
        exact k.xx (c + 1) s v σ1 H1 E1 b1 h S1 t dd hd
end
/-! ### in a suite: the error's field, and what it is -/
def mXf (i : Nat) (a dd : Addr) (f : Str) (c : Nat) : WE := fun E b R => ∃ d, E[i]? = some (.x a dd f d c) ∧ R d b
def mXis (i : Nat) (a dd : Addr) (c : Nat) (r : Bool) : WE := fun E b R => (∃ f d, E[i]? = some (.x a dd f d c)) ∧ R (.bool r) b
section
variable {X : Cx} {a C dd : Addr} {oe : Obj} {pn : List (Addr × Obj)} {f nm : Str} {i c : Nat} {p p2 pos pos2 : Pos} {e2 : Expr} {es : List Expr} {r : Bool}
theorem pe_xfM (T : XfC X.K C) (hno : PySem.W.findIn X.K (.ref C) f = some none) (hz : Zc (.ref C) (some dd) oe) (hf : ∃ vs, oe.data = .fields vs) (hv : PE (X.suite a ((a, oe) :: pn)) (.Name nm p) (tVar i)) (hb : attributeBase (.Name nm p) f X.env (eval (.Name nm p) X.env) = eval (.Name nm p) X.env := by rfl) :
    PE (X.suite a ((a, oe) :: pn)) (.Attribute (.Name nm p) f pos) (tE (mXf i a dd f c)) :=
  (pe_xf T hno hz hf hv hb).weak fun σ H Q ⟨W, H0, E, b, R, S, ⟨d, hE, hr⟩, k⟩ => by
    obtain ⟨v, h1, e, nM, u, h2, t⟩ := S.at_ i _ hE
    subst e
    exact ⟨.ref a, h1, rfl, rfl, dd, _, u, rfl, h2, by simp, k d b u H hr Kp.refl S.dk t⟩
theorem pe_isx1 {cv : V} {cu : Value} (T : ExcC X.K C) (hz : Zc (.ref C) (some dd) oe) (hf : ∃ vs, oe.data = .fields vs) (hcv : ∀ u, RelV cv u → u = cu) (hk : PySem.W.kitOne X.K (.ref C) cu = some r) (hg : Gl X "isinstance") (hm : X.mg "isinstance" = none) (hv : PE (X.suite a ((a, oe) :: pn)) (.Name nm p) (tVar i)) (hc : PE (X.suite a ((a, oe) :: pn)) e2 (tC cv))
    (hs1 : starEach [.Name nm p, e2] X.env = (false, eval (.Name nm p) X.env) :: starEach [e2] X.env := by rfl) (hs2 : starEach [e2] X.env = (false, eval e2 X.env) :: starEach [] X.env := by rfl) (hpl : (backTo pos (starEach [e2] X.env)).any (·.1) = false := by rfl) :
    PE (X.suite a ((a, oe) :: pn)) (.Call (.Name "isinstance" p2) [.Name nm p, e2] [] pos) (tE (mXis i a dd c r)) :=
  (pe_callB (X := X.suite a ((a, oe) :: pn)) (id := "isinstance") (Cn.call_isX T hz hf) hg hm (by decide +kernel) (pa_cons hv (pa_cons hc pa_nil hs2) hs1) (by decide) (by decide) hs1 hpl).weak fun σ H Q ⟨W, H0, E, b, R, S, ⟨⟨f, d, hE⟩, hr⟩, k⟩ => by
    obtain ⟨v, h1, e, nM, u, h2, t⟩ := S.at_ i _ hE
    subst e
    exact ⟨.ref a, h1, cv, cu, r, _, rfl, hcv, hk, h2, k _ b _ H hr Kp.refl S.dk (.bl r)⟩
def tCs (vs : List V) : TA := fun _ H Q => Q vs H
theorem pa_cs0 {X : Cx} : PA X [] (tCs []) := pa_nil.weak fun σ H Q h => h
theorem pa_cs {X : Cx} {e : Expr} {v : V} {vs : List V} (he : PE X e (tC v)) (hr : PA X es (tCs vs)) (hs : starEach (e :: es) X.env = (false, eval e X.env) :: starEach es X.env := by rfl) : PA X (e :: es) (tCs (v :: vs)) := (pa_cons he hr hs).weak fun σ H Q h => h
theorem pe_isxN {cvs : List V} {cus : List Value} {x1 : Nat} (T : ExcC X.K C) (hz : Zc (.ref C) (some dd) oe) (hf : ∃ vs, oe.data = .fields vs) (hcv : ∀ us, Vals cvs us → us = cus) (hk : PySem.W.kitAny X.K (.ref C) cus = some r) (hl : cvs.length ≤ sizeLine) (hg : Gl X "isinstance") (hm : X.mg "isinstance" = none) (hv : PE (X.suite a ((a, oe) :: pn)) (.Name nm p) (tVar i)) (hc : PA (X.suite a ((a, oe) :: pn)) es (tCs cvs))
    (hs1 : starEach [.Name nm p, .Tuple es x1 pos2] X.env = (false, eval (.Name nm p) X.env) :: starEach [.Tuple es x1 pos2] X.env := by rfl) (hs2 : starEach [.Tuple es x1 pos2] X.env = (false, eval (.Tuple es x1 pos2) X.env) :: starEach [] X.env := by rfl) (hpl : (backTo pos (starEach [.Tuple es x1 pos2] X.env)).any (·.1) = false := by rfl) :
    PE (X.suite a ((a, oe) :: pn)) (.Call (.Name "isinstance" p2) [.Name nm p, .Tuple es x1 pos2] [] pos) (tE (mXis i a dd c r)) :=
  (pe_callB (X := X.suite a ((a, oe) :: pn)) (id := "isinstance") (Cn.call_isXs T hz hf) hg hm (by decide +kernel) (pa_cons hv (pa_cons (pe_tup hc) pa_nil hs2) hs1) (by decide) (by decide) hs1 hpl).weak fun σ H Q ⟨W, H0, E, b, R, S, ⟨⟨f, d, hE⟩, hr⟩, k⟩ => by
    obtain ⟨v, h1, e, nM, u, h2, t⟩ := S.at_ i _ hE
    subst e
    refine ⟨.ref a, h1, hl, fun tp ht => ?_⟩
    have ex : Ex H (upd H tp (.tup cvs)) := fun p o e => by rw [upd_ne (ne_of_none e ht)]; exact e
    exact ⟨tp, cvs, cus, r, _, rfl, upd_same, hcv, hk, ex _ _ h2, k _ b _ _ hr (Kp.ex ex) (W.ex ex S.dk) (.bl r)⟩
end
end Wp

/-! calls that may raise or hand out objects; objects whose fields stand still -/
namespace Wp
open PySem PySem.Spec PyProof.Rows L2 Evl
/-- an expression that may raise, its value in a slot -/
abbrev WEX := Env → Nat → (Sl → Nat → Prop) → (Nat → Sl → Nat → Prop) → Prop
def tX (xc : XC) (Wx : WX) (m : WEX) : TE := fun σ H Q => ∃ W H0 E b R Z, Sit W H0 σ H E b ∧ m E b R Z ∧ (∀ s b' v H', R s b' → Kp W.M H H' → W.Dk b' H' → ArR W H' v s → Q v H') ∧
  ∀ c s b' v H', Z c s b' → Kp W.M H H' → W.Dk b' H' → ArR W H' v s → xwS xc Wx (fun _ _ => False) c v σ H'
def isVal : Sl → Bool
  | .d _ => true
  | .o _ _ => true
  | _ => false
theorem isVal.own {s : Sl} (h : isVal s = true) : isOwn s = false := by cases s <;> first | rfl | cases h
theorem ArR.slr {W : Wld} {H0 H : Hp} {v : V} {s : Sl} (h : ArR W H v s) (i : isVal s = true) : SlR W H0 H (some v) s := by
  cases s with
  | d x => exact ⟨v, rfl, h⟩
  | o C fs => obtain ⟨a, rfl, t⟩ := h; exact ⟨a, rfl, t⟩
  | _ => cases i
/-- x = e -/
def mAsgX (i : Nat) (m : WEX) : WS := fun E b F => m E b (fun s b1 => isVal s = true ∧ F.nx (E.set i s) b1) fun c s b1 => F.xx c s E b1
/-- return e -/
def mRetX (m : WEX) : WS := fun E b F => m E b (fun s b1 => match s with
  | .d d => F.rt d b1
  | s => F.xx 0 s E b1) fun c s b1 => F.xx c s E b1
section
variable {X : Cx} {xc : XC} {Wx : WX} {e : Expr} {m : WEX} {pos : Pos}
theorem xw_up {rt : VK} {c : Nat} {v : V} {σ : L2.St} {H : Hp} (hc : c ≠ 0) (h : xwS xc Wx rt c v σ H) : xwS xc Wx (fun _ _ => False) c v σ H := by
  cases c with
  | zero => exact absurd rfl hc
  | succ c => exact h
theorem pm_asgX {i : Nat} {x : Str} {pos' : Pos} (hN : X.N.Nodup) (hi : X.N[i]? = some x) (hx : Loc X.env.scope x) (he : PE X e (tX xc Wx m)) (hs : swapsWith e (some (.Name x pos')) pos.line X.env = pure false := by rfl) (hf : X.fn x = true ∨ X.env.scope.names.lookup x = some .local := by first | exact .inl rfl | exact .inr rfl | assumption) :
    PS X (.Assign [.Name x pos'] e pos) (tS (xwS xc Wx) (mAsgX i fun E b R Z => m E b R fun c s b' => c ≠ 0 ∧ Z c s b')) := (ps_set hN hi hx he hs hf).weak fun D σ H ⟨W, H0, E, b, F, S, hm, k⟩ =>
  ⟨W, H0, E, b, _, _, S, hm, fun s b1 v H1 h1 k1 d1 t1 => k.nx _ H1 _ b1 ((S.step k1 d1).setS (t1.slr h1.1) (isVal.own h1.1)) h1.2, fun c s b1 v H1 h1 k1 d1 t1 => xw_up h1.1 (k.xx c s v σ H1 E b1 h1.2 (S.step k1 d1) t1)⟩
theorem pm_retX (he : PE X e (tX xc Wx m)) : PS X (.Return (some e) pos) (tS (xwS xc Wx) (mRetX fun E b R Z => m E b R fun c s b' => c ≠ 0 ∧ Z c s b')) := (ps_ret he).weak fun D σ H ⟨W, H0, E, b, F, S, hm, k⟩ =>
  ⟨W, H0, E, b, _, _, S, hm, fun s b1 v H1 h1 k1 d1 t1 => by
    cases s with
    | d d => exact k.rt d b1 v H1 h1 (S.kp.trans k1) d1 t1
    | _ => exact k.xx 0 _ v σ H1 E b1 h1 (S.step k1 d1) t1, fun c s b1 v H1 h1 k1 d1 t1 => xw_up h1.1 (k.xx c s v σ H1 E b1 h1.2 (S.step k1 d1) t1)⟩
theorem pm_dropX (he : PE X e (tX xc Wx m)) (hs : swapsWith e none pos.line X.env = pure false := by rfl) : PS X (.Expr e pos) (tS (xwS xc Wx) (fun E b F => m E b (fun _ b1 => F.nx E b1) fun c s b1 => c ≠ 0 ∧ F.xx c s E b1)) := (ps_expr he hs).weak fun D σ H ⟨W, H0, E, b, F, S, hm, k⟩ =>
  ⟨W, H0, E, b, _, _, S, hm, fun s b1 v H1 h1 k1 d1 t1 => k.nx σ H1 E b1 (S.step k1 d1) h1, fun c s b1 v H1 h1 k1 d1 t1 => xw_up h1.1 (k.xx c s v σ H1 E b1 h1.2 (S.step k1 d1) t1)⟩
end
/-! ### f(e, ..) -/
def mCallX (mf : WFX) (gs : WG) : WEX := fun E b R Z => gs E b fun as b1 => mf as b1 (fun d b2 => R (.d d) b2) fun c s b2 => if c = 0 then R s b2 else Z c s b2
section
variable {X : Cx} {k : Nat} {f : Addr} {fd : FuncData} {ps : List Str} {mf : WFX} {gs : WG} {x : Str} {p pos apos : Pos} {e o : Expr} {es : List Expr} {Wx : WX} {xc : XC}
theorem pe_callXM (F : Cn.FnX X.prog X.w X.K X.mg X.base k f fd ps (spOfX xc mf)) (gd : X.A.guards = some []) (room : Room k X.A) (gl : Gl X x) (hm : X.mg x = some (.ref f)) (kp : PySem.W.keepIn X.K (.ref f) = true) (bd : Binds X.K fd ps []) (tk : Takes X Wx)
    (ha : PA X (e :: es) (tG gs)) (hdb : (x == ("__debug__" : Str)) = false := by decide) (he : starEach (e :: es) X.env = (false, eval e X.env) :: starEach es X.env := by rfl) (hpl : (backTo pos (starEach es X.env)).any (·.1) = false := by rfl) :
    PE X (.Call (.Name x p) (e :: es) [] pos) (tX xc Wx (mCallX mf gs)) := (Cn.pe_callX F gd room gl hm kp bd tk ha hdb he hpl).weak fun σ H Q ⟨W, H0, E, b, R, Z, S, hm, q, z⟩ =>
  ⟨W, H0, E, b, _, S, hm, fun ss b1 vs H1 h1 k1 d1 t1 => ⟨W, ss, b1, _, _, t1, d1, h1, fun d b' v H' r kp dk t => q (.d d) b' v H' r (k1.trans kp) dk t, fun c s b' v H' h kp dk t => by
    cases c with
    | zero => exact q s b' v H' (by rw [if_pos rfl] at h; exact h) (k1.trans kp) dk t
    | succ c => exact z (c + 1) s b' v H' (by rw [if_neg (Nat.succ_ne_zero c)] at h; exact h) (k1.trans kp) dk t⟩⟩
end
/-! ### objects -/
/-- C(e, ..): what its __init__ makes of it: the fields -/
abbrev WFI := List Sl → Nat → (List (Str × PyData) → Nat → Prop) → (Nat → Sl → Nat → Prop) → Prop
def spInit (xc : XC) (C : Addr) (mf : WFI) : Sp := fun vs H Q E => ∃ W a dx vs' as b R Z, vs = .ref a :: vs' ∧ H a = some (.ins C dx []) ∧ ¬ W.M a ∧ ArsR W H vs' as ∧ W.Dk b H ∧ mf as b R Z ∧
  (∀ fs b' us H', R fs b' → Kp W.M H H' → W.Dk b' H' → Paired (FdR H') us fs → Q .non (upd H' a (.ins C dx us))) ∧
  ∀ c d b' v H', Z c d b' → Kp W.M H H' → W.Dk b' H' → ArR W H' v d → c ≠ 0 ∧ xwOf xc E (fun _ _ => False) c v [] H'
def mMk (C : Addr) (mf : WFI) (gs : WG) : WEX := fun E b R Z => gs E b fun as b1 => mf as b1 (fun fs b2 => R (.o C fs) b2) fun c s b2 => c ≠ 0 ∧ Z c s b2
section
variable {X : Cx} {k : Nat} {f C : Addr} {fd : FuncData} {ps : List Str} {mi : WFI} {mf : WFX} {gs : WG} {x m : Str} {p pos apos : Pos} {e o : Expr} {es : List Expr} {Wx : WX} {xc : XC} {i : Nat}
theorem pe_mkXM (M : Mk X.K C f) (F : Cn.FnX X.prog X.w X.K X.mg X.base k f fd ps (spInit xc C mi)) (gd : X.A.guards = some []) (hr : Room (k + 1) X.A) (hg : Gl X x) (hm : X.mg x = some (.ref C)) (hb : Binds X.K fd ps []) (tk : Takes X Wx)
    (ha : PA X (e :: es) (tG gs)) (hdb : (x == ("__debug__" : Str)) = false := by decide) (he : starEach (e :: es) X.env = (false, eval e X.env) :: starEach es X.env := by rfl) (hpl : (backTo pos (starEach es X.env)).any (·.1) = false := by rfl) :
    PE X (.Call (.Name x p) (e :: es) [] pos) (tX xc Wx (mMk C mi gs)) := (Cn.pe_makeX M F gd hr hg hm hb tk ha hdb he hpl).weak fun σ H Q ⟨W, H0, E, b, R, Z, S, hm, q, z⟩ =>
  ⟨W, H0, E, b, _, S, hm, fun ss b1 vs H1 h1 k1 d1 t1 => fun a dx na nd ne => by
    have e1 : Ex H1 (upd H1 dx (.own a)) := fun p o e => by rw [upd_ne (ne_of_none e nd)]; exact e
    have na' : upd H1 dx (.own a) a = none := by rw [upd_ne (Ne.symm ne)]; exact na
    have e2 : Ex (upd H1 dx (.own a)) (upd (upd H1 dx (.own a)) a (.ins C dx [])) := fun p o e => by rw [upd_ne (ne_of_none e na')]; exact e
    have ex : Ex H1 (upd (upd H1 dx (.own a)) a (.ins C dx [])) := fun p o e => e2 p o (e1 p o e)
    have d2 := W.ex ex d1
    have nM := W.free d1 na
    refine ⟨W, a, dx, vs, ss, b1, _, _, rfl, upd_same, nM, Paired.mapP t1 (fun v s h => ArR.step d1 (Kp.ex ex) h), d2, h1, fun fs b' us H' r kp dk t => ⟨rfl, ?_⟩, fun c d b' v H' h kp dk t => ⟨h.1, ?_⟩⟩
    · have kk : Kp W.M H1 H' := (Kp.ex ex).trans kp
      have fk : Fk H' (upd H' a (.ins C dx us)) := fun p o u g => by
        have : H' a = some (.ins C dx []) := kp a _ nM upd_same
        rw [upd_ne (fun y => by subst y; rw [this] at g; cases g)]
        exact g
      exact q (.o C fs) b' (.ref a) _ r (k1.trans (kk.mut na)) (W.put nM dk) ⟨a, rfl, nM, dx, us, upd_same, Paired.mapP t fun x p r => ⟨r.1, r.2.mono fk⟩⟩
    · have := z c d b' v H' h.2 (k1.trans ((Kp.ex ex).trans kp)) dk t
      cases c with
      | zero => exact absurd rfl h.1
      | succ c => exact this⟩
/-- o.m(e, ..), o the object in slot i -/
def mMethX (i : Nat) (C : Addr) (m : Str) (mf : WFX) (gs : WG) : WEX := fun E b R Z => ∃ fs, E[i]? = some (.o C fs) ∧ fs.lookup m = none ∧ gs E b fun as b1 => mf (.o C fs :: as) b1 (fun d b2 => R (.d d) b2) fun c s b2 => if c = 0 then R s b2 else Z c s b2
theorem lookup_fd {H : Hp} {f : Str} : ∀ {us : List (Str × V)} {fs : List (Str × PyData)}, Paired (FdR H) us fs → (fs.lookup f = none → us.lookup f = none) ∧ ∀ d, fs.lookup f = some d → ∃ v, us.lookup f = some v ∧ Dt H v d
  | _, _, .nil => ⟨fun _ => rfl, fun d h => by cases h⟩
  | (g, v) :: us, (g', d) :: fs, .cons r t => by
    obtain ⟨h1, h2⟩ := lookup_fd (f := f) t
    obtain ⟨hg, hd⟩ := r
    have hg : g = g' := hg
    subst hg
    constructor
    · intro h
      rw [List.lookup_cons] at h ⊢
      cases hb : (f == g) with
      | true => rw [hb] at h; cases h
      | false => rw [hb] at h; exact h1 h
    · intro d' h
      rw [List.lookup_cons] at h ⊢
      cases hb : (f == g) with
      | true => rw [hb] at h; cases h; exact ⟨v, rfl, hd⟩
      | false => rw [hb] at h; exact h2 d' h
theorem pe_methXM {pl : Sem Bool} {nm : Str} (hv : PE X (.Name nm p) (tVar i)) (c : Cls X.K C) (hm : Meth X.K C m f) (F : Cn.FnX X.prog X.w X.K X.mg X.base k f fd ps (spOfX xc mf)) (gd : X.A.guards = some []) (room : Room k X.A) (bd : Binds X.K fd ps []) (tk : Takes X Wx) (ha : PA X (e :: es) (tG gs))
    (hst : starEach (e :: es) X.env = (false, eval e X.env) :: starEach es X.env := by rfl) (hpl : (backTo pos (starEach es X.env)).any (·.1) = false := by rfl)
    (ht : eval (.Call (.Attribute (.Name nm p) m apos) (e :: es) [] pos) X.env = (do let ov ← eval (.Name nm p) X.env; standAt apos.atName; let (f, first) ← holding [ov] (getMethod ov m pl); callWith pos f first (backTo pos (starEach (e :: es) X.env)) (backToKw pos (keywordEach [] X.env))) := by rfl) :
    PE X (.Call (.Attribute (.Name nm p) m apos) (e :: es) [] pos) (tX xc Wx (mMethX i C m mf gs)) := (Cn.pe_methX (pl := pl) hv c hm F gd room bd tk ha hst hpl ht).weak fun σ H Q ⟨W, H0, E, b, R, Z, S, ⟨fs, hE, hl, hm⟩, q, z⟩ => by
  obtain ⟨v, h1, a, e, nM, dx, us, h2, t⟩ := S.at_ i _ hE
  subst e
  exact ⟨.ref a, h1, a, dx, us, rfl, h2, (lookup_fd t).1 hl, W, H0, E, b, _, S, hm, fun ss b1 vs H1 h1 k1 d1 t1 => ⟨W, .o C fs :: ss, b1, _, _, .cons ⟨a, rfl, ObAt.step S.dk k1 ⟨nM, dx, us, h2, t⟩⟩ t1, d1, h1, fun d b' v H' r kp dk t => q (.d d) b' v H' r (k1.trans kp) dk t, fun c s b' v H' h kp dk t => by
    cases c with
    | zero => exact q s b' v H' (by rw [if_pos rfl] at h; exact h) (k1.trans kp) dk t
    | succ c => exact z (c + 1) s b' v H' (by rw [if_neg (Nat.succ_ne_zero c)] at h; exact h) (k1.trans kp) dk t⟩⟩
/-- o.f, o the object in slot i -/
def mFld (i : Nat) (C : Addr) (f : Str) : WE := fun E b R => ∃ fs d, E[i]? = some (.o C fs) ∧ fs.lookup f = some d ∧ R d b
theorem pe_fldM {nm fl : Str} (hv : PE X (.Name nm p) (tVar i)) (c : Cls X.K C) (hn : NoAttr X.K C fl) (hb : attributeBase (.Name nm p) fl X.env (eval (.Name nm p) X.env) = eval (.Name nm p) X.env := by rfl) : PE X (.Attribute (.Name nm p) fl pos) (tE (mFld i C fl)) := (pe_fld hv hb).weak fun σ H Q ⟨W, H0, E, b, R, S, ⟨fs, d, hE, hl, hr⟩, k⟩ => by
  obtain ⟨v, h1, a, e, nM, dx, us, h2, t⟩ := S.at_ i _ hE
  subst e
  obtain ⟨u, hu, hd⟩ := (lookup_fd t).2 d hl
  exact ⟨.ref a, h1, a, C, dx, us, u, rfl, h2, c, hn, hu, k d b u H hr Kp.refl S.dk hd⟩
/-- an object handed on -/
def gOb (i : Nat) (ms : WG) : WG := fun E b R => ∃ C fs, E[i]? = some (.o C fs) ∧ ms E b fun ss b2 => R (.o C fs :: ss) b2
theorem pm_gob {nm : Str} (hv : PE X (.Name nm p) (tVar i)) (hr : PA X es (tG gs)) (hs : starEach (.Name nm p :: es) X.env = (false, eval (.Name nm p) X.env) :: starEach es X.env := by rfl) : PA X (.Name nm p :: es) (tG (gOb i gs)) := (pa_cons hv hr hs).weak fun σ H Q ⟨W, H0, E, b, R, S, ⟨C, fs, hE, hm⟩, k⟩ => by
  obtain ⟨v, h1, a, e, t⟩ := S.at_ i _ hE
  subst e
  exact ⟨.ref a, h1, W, H0, E, b, _, S, hm, fun ss b2 vs H2 h2 k2 d2 t2 => k _ b2 _ H2 h2 k2 d2 (.cons ⟨a, rfl, t.step S.dk k2⟩ t2)⟩
end
/-! ### __init__: a statement that may raise, then self.f = e -/
def mInit1 (n k : Nat) (f : Str) (m : WS) (me : WE) : WFI := fun as b R Z => as.length + 1 = n ∧ ∀ a, m (.r a :: as ++ List.replicate (k - n) .no) b { nx := fun E1 b1 => E1[0]? = some (.r a) ∧ me E1 b1 fun d b2 => R [(f, d)] b2, rt := fun _ _ => False, xx := fun c s _ b' => c ≠ 0 ∧ Z c s b' }
theorem fn_init1 {P : Program} {w : World} {K : PySem.W.Frag} {mg : Str → Option Value} {base : Heap} {x qual : Str} {st : Stmt} {f C : Addr} {fd : FuncData} {N ps : List Str} {k : Nat} {mb : WS} {me : WE} {fl : Str} {xc : XC} (F : Fun K x qual st f fd) (S : FnScope N ps (defScope st)) (hps : ps.length ≤ N.length) (cl : Cls K C) (na : NoAttr K C fl)
    (body : ∀ (cdv : Value) (A : Around) (out : List PySem.Env) (s : Shared) (H : Hp) (E : XK), A.guards = some [] → Room k (A.deeper (envOfC qual (defScope st) s.heap.objs.size f cdv)) → PSs (cxOf (L2.CX P w) P w K mg base N qual (defScope st) f cdv A out s H E) (defBody st) (tSeq (tS (xwOf xc E) mb) (sFld K (tVar 0) (tE me) fl))) :
    Cn.FnX P w K mg base (k + 1) f fd ps (spInit xc C (mInit1 ps.length N.length fl mb me)) := by
  refine Cn.okX F S (fun vs H Q E h => ?_) (fun cdv A out s H vs Q E gd hr h => ⟨_, body cdv A out s H E gd hr, ?_⟩)
  · obtain ⟨W, a, dx, vs', as, b, R, Z, rfl, _, _, ar, _, hm, _⟩ := h
    show vs'.length + 1 = _
    rw [ar.length]
    exact hm.1
  · obtain ⟨W, a, dx, vs', as, b, R, Z, rfl, ha, nM, ar, dk, ⟨hl, hm⟩, q, qx⟩ := h
    have S := start_sit (N := N) (vs := .ref a :: vs') (as := .r a :: as) (.cons rfl ar) dk (by show as.length + 1 ≤ _; rw [hl]; exact hps)
    have hl' : (Sl.r a :: as).length = ps.length := hl
    rw [hl'] at S
    refine ⟨W, ⟨H, H⟩, _, b, _, S, hm a, ⟨fun σ1 H1 E1 b1 S1 h1 => ?_, fun _ _ _ _ _ z => z.elim, fun _ _ _ _ _ z => z.elim, fun d b' v H' r kp d' t => r.elim, fun c d v σ' H' E' b' h' S' t' => ?_⟩⟩
    · obtain ⟨hE, h1⟩ := h1
      refine ⟨W, _, E1, b1, _, S1, h1, fun d b2 v H2 h2 k2 d2 t2 => ?_⟩
      obtain ⟨u, g1, g2⟩ := (S1.step k2 d2).at_ 0 _ hE
      have g2 : u = some (.ref a) := g2
      subst g2
      have kk : Kp W.M H H2 := S1.kp.trans k2
      exact ⟨.ref a, g1, a, C, dx, [], rfl, kk a _ nM ha, cl, na, by decide, q [(fl, d)] b2 [(fl, v)] H2 h2 kk d2 (.cons ⟨rfl, t2⟩ .nil)⟩
    · obtain ⟨hc, h⟩ := qx c d b' v H' h'.2 S'.kp S'.dk t'
      cases c with
      | zero => exact absurd rfl h'.1
      | succ c => exact h
end Wp

/-! repr in a suite -/
namespace Wp
open PySem PySem.Spec PyProof.Rows L2 Evl
structure XS (X : Cx) : Prop where
  gd : X.A.guards = some []
  un : X.A.units + 64 < cLine
  sm : ∃ o, X.base.get? sysModules = some o
theorem XS.free {X : Cx} (h : XS X) {pins : List (Addr × Obj)} {σ : L2.St} {H : Hp} {s : Shared} (I : Inv X pins σ H s) : H sysModules = none := by
  obtain ⟨o, e⟩ := h.sm
  exact (I.bs _ _ e).2
theorem XO.suite {X : Cx} (h : XO X) (a : Addr) (pn : List (Addr × Obj)) : XS (X.suite a pn) := ⟨h.gd, h.un, h.sm⟩
section
variable {X : Cx} {e a b : Expr} {es : List Expr} {m ma mb : WE} {ms : WL} {pos : Pos}
theorem cr_reprS (ho : XS X) : CallR X (.builtin "repr") (rC reprW) := by
  intro pins s σ H vs us Q I r h
  obtain ⟨W, ds, R, h1, hw, k⟩ := h
  unfold reprW at hw
  split at hw
  · rename_i d
    obtain ⟨v, rfl, t⟩ := dq1 h1
    obtain ⟨⟨s1, s2, s3⟩, hr⟩ := hw
    obtain ⟨u, rfl, ru⟩ := vals1 r
    obtain ⟨as, rd, na⟩ := t.reads I ru
    have na' := na (ho.free I)
    have hz : d.shown.length ≤ sizeLine := Nat.le_trans s2 (by decide)
    have un := ho.un
    have leaf : ∀ {h' : Heap} {t u : Nat}, (∀ b o, s.heap.get? b = some o → h'.get? b = some o) → EP X pins σ Q (.str d.shown u) { s with heap := h', toks := t } :=
      fun k' => ⟨.str _, H, I.kept k', ⟨_, rfl⟩, k _ _ H hr (Ex.refl H) (.str _)⟩
    have big : ∀ {a : Addr} (rd : Reads s.heap (.ref a) d as), wpAny (model X.prog X.w) X.A (call (.builtin "repr") [.ref a]) (EP X pins σ Q) X.xe s := fun rd =>
      repr_of_reads' rd s1 (fun _ => na') ho.gd (by omega) (fun _ _ e => e) (fun h' u tk k => leaf k) hz
    cases rd with
    | none => simp only [PyData.shown] at leaf; exact PySem.P.repr_of_none (leaf fun _ _ e => e)
    | bool b => simp only [PyData.shown] at leaf; exact PySem.P.repr_of_bool (leaf fun _ _ e => e)
    | int i t => simp only [PyData.shown] at leaf; exact PySem.P.repr_of_int (by simpa only [PyData.showable, decide_eq_true_eq] using s1) (leaf fun _ _ e => e)
    | str x t => simp only [PyData.shown] at leaf hz; exact PySem.P.repr_of_str (leaf fun _ _ e => e) hz
    | list a b c e => exact big (.list a b c e)
    | tuple a b c e => exact big (.tuple a b c e)
    | dict a b c e f => exact big (.dict a b c e f)
  · exact hw.elim
end
end Wp

/-! l.count(x) -/
namespace Wp
open PySem PySem.Spec PyProof.Rows L2 Evl
def rCnt : V → List V → Hp → VK → Prop := fun x xs H Q => ∃ (W : Wld) (ds : List PyData) (d : PyData) (y : V), xs = [y] ∧ Dq W H x (.list ds) ∧ Dt H y d ∧ PyData.plainAll ds = true ∧ d.plain = true ∧ d.depth ≤ 50 ∧ Q (.int ((ds.countP fun y => PyData.eqv y d : Nat) : Int)) H
theorem mt_count {X : Cx} (hu : X.A.units + 64 < cLine) : MtR X "list.count" rCnt := by
  intro pins s σ H x xs v us Q I rx rv h
  obtain ⟨W, ds, d, y, rfl, t, ty, p1, p2, p3, q⟩ := h
  obtain ⟨u, rfl, ru⟩ := vals1 rv
  obtain ⟨as, rd, _⟩ := Dq.reads I t rx
  obtain ⟨bs, rd2, _⟩ := Dt.reads I d y u ty ru
  cases rd with
  | list e1 e2 e3 e4 =>
    have hm := Nat.min_le_right (PyData.depthAll ds) d.depth
    exact PySem.SeqAt.count_list_data ⟨_, e1, e2, _, e3⟩ e4 rd2 p1 p2 (by omega) ⟨.int _, H, I.tok _, ⟨_, rfl⟩, q⟩
theorem Dq.tyL {K : PySem.W.Frag} {W : Wld} {H : Hp} {v : V} {ds : List PyData} (h : Dq W H v (.list ds)) : tyV K "list" v H := by
  rcases h with h | ⟨a, ds', rfl, e, _, xs, hx, _⟩
  · cases h with
    | lst e1 t => exact .inl ⟨rfl, _, .inl (.inr ⟨_, e1⟩)⟩
  · exact .inl ⟨rfl, xs, .inl (.inl hx)⟩
/-- l.count(x) -/
def mCnt (ml m : WE) : WE := fun E b R => ml E b fun l b1 => ∃ ds, l = .list ds ∧ m E b1 fun d b2 => (PyData.plainAll ds = true ∧ d.plain = true ∧ d.depth ≤ 50) ∧ R (.int ((ds.countP fun y => PyData.eqv y d : Nat) : Int)) b2
theorem pm_cnt {X : Cx} {o e : Expr} {ml m : WE} {apos cpos : Pos} (he : PE X (.Call (.Attribute o "count" apos) [e] [] cpos) (tBM X.K "list" rCnt (tQ ml) (tCons (tE m) tNil))) : PE X (.Call (.Attribute o "count" apos) [e] [] cpos) (tE (mCnt ml m)) := he.weak fun σ H Q ⟨W, H0, E, b, R, S, hm, k⟩ =>
  ⟨W, H0, E, b, _, S, hm, fun l b1 v H1 h1 k1 d1 t1 => by
    obtain ⟨ds, rfl, h1⟩ := h1
    exact ⟨t1.tyL, W, H0, E, b1, _, S.step k1 d1, h1, fun d b2 y H2 h2 k2 d2 t2 => ⟨W, ds, d, y, rfl, t1.step d1 k2, t2, h2.1.1, h2.1.2.1, h2.1.2.2, k _ b2 _ H2 h2.2 (k1.trans k2) d2 (.int _)⟩⟩⟩
/-- == of two ints, in a suite too -/
def eqI (d e : PyData) (R : PyData → Prop) : Prop := ∃ i j, d = .int i ∧ e = .int j ∧ R (.bool (decide (i = j)))
theorem op_eqI {X : Cx} : OpR X (compareOp .Eq) (rD eqI) := by
  intro pins s σ H x y v u Q I rx ry h
  obtain ⟨W, d, e, R, h1, h2, ⟨i, j, rfl, rfl, hw⟩, k⟩ := h
  obtain rfl := h1.int
  obtain rfl := h2.int
  obtain ⟨t, rfl⟩ := rx
  obtain ⟨t', rfl⟩ := ry
  exact eq_int (by rw [Bool.beq_eq_decide_eq]; exact ⟨.bl _, H, I, rfl, k _ _ H hw (Ex.refl H) (.bl _)⟩)
end Wp

/-! calls that raise nothing where they stand; isinstance of what may be an object; the ends of a law with errors -/
namespace Wp
open PySem PySem.Spec PyProof.Rows L2 Evl
def noW : WX := fun _ _ _ _ => False
theorem takes_never {X : Cx} : Takes X noW := fun u s' ⟨_, _, _, _, _, _, _, _, _, _, _, _, _, _, _, _, w⟩ => w.elim
theorem tS_any {xw : XW} {m : WS} {D : Ends} {σ : L2.St} {H : Hp} (h : tS noX m D σ H) : tS xw m D σ H := by
  obtain ⟨W, H0, E, b, F, S, hm, k⟩ := h
  exact ⟨W, H0, E, b, F, S, hm, ⟨k.nx, k.bk, k.ct, k.rt, fun c d v σ H E b h S t => (k.xx c d v σ H E b h S t).elim⟩⟩
/-- an expression that may raise, where it doesn't and hands out data -/
def mCalm (m : WEX) : WE := fun E b R => m E b (fun s b1 => ∃ d, s = .d d ∧ R d b1) fun _ _ _ => False
theorem pm_calm {X : Cx} {xc : XC} {e : Expr} {m : WEX} (he : PE X e (tX xc noW m)) : PE X e (tE (mCalm m)) := he.weak fun σ H Q ⟨W, H0, E, b, R, S, hm, k⟩ =>
  ⟨W, H0, E, b, _, _, S, hm, fun s b1 v H1 h1 k1 d1 t1 => by
    obtain ⟨d, rfl, h1⟩ := h1
    exact k d b1 v H1 h1 k1 d1 t1, fun c s b1 v H1 h1 _ _ _ => h1.elim⟩
/-- what isinstance asks of a class of objects -/
structure InC (K : PySem.W.Frag) (C : Addr) : Prop where
  cl : Cls K C
  ha : PySem.W.findIn K (.ref C) "__class__" = some (some (.builtin "object.__class__"))
  hn : PySem.W.specialIn K (.builtin "object.__class__") "__get__" = some (some (.builtin "getset_descriptor.__get__"))
  ht : PySem.W.takesIn K (.builtin "object.__class__") = some true
  hm : PySem.W.mroIn K C (.type "object") = some true
/-- isinstance(x, c), x data or an object of the class C, c a built-in type that C is not under -/
def mIsiV (i : Nat) (C : Addr) (f : PyData → Bool) : WE := fun E b R => match E[i]? with
  | some (.d d) => R (.bool (f d)) b
  | some (.o C' _) => C' = C ∧ R (.bool false) b
  | _ => False
theorem pm_isiV {X : Cx} {nm : Str} {i : Nat} {C : Addr} {p p2 p3 pos : Pos} {T : Str} {c : String} {f : PyData → Bool} (hk : ∀ d, kitB (tyD d) c = some (f d)) (hC : InC X.K C) (hc0 : PySem.W.kitOne X.K (.ref C) (.type c) = some false) (hg : Gl X "isinstance") (hm : X.mg "isinstance" = none) (hv : PE X (.Name nm p3) (tVar i)) (hc : PE X (.Name T p2) (tC (.ty c))) (hs1 : starEach [.Name nm p3, .Name T p2] X.env = (false, eval (.Name nm p3) X.env) :: starEach [.Name T p2] X.env := by rfl) (hs2 : starEach [.Name T p2] X.env = (false, eval (.Name T p2) X.env) :: starEach [] X.env := by rfl) (hpl : (backTo pos (starEach [.Name T p2] X.env)).any (·.1) = false := by rfl) :
    PE X (.Call (.Name "isinstance" p) [.Name nm p3, .Name T p2] [] pos) (tE (mIsiV i C f)) := (pe_callB (id := "isinstance") call_isi hg hm (by decide +kernel) (pa_cons hv (pa_cons hc pa_nil hs2) hs1) (by decide) (by decide) hs1 hpl).weak fun σ H Q ⟨W, H0, E, b, R, S, hm, k⟩ => by
  unfold mIsiV at hm
  cases hE : E[i]? with
  | none => rw [hE] at hm; exact hm.elim
  | some s =>
    rw [hE] at hm
    obtain ⟨v, h1, h2⟩ := S.at_ i s hE
    cases s with
    | d d =>
      obtain ⟨x, e, t⟩ := h2
      subst e
      exact ⟨x, h1, x, .ty c, .type (tyD d), .type c, f d, rfl, .ty c, t.tyx, kit_ty (hk d), k _ b _ H hm Kp.refl S.dk (.bl _)⟩
    | o C' fs =>
      obtain ⟨rfl, hm⟩ := hm
      obtain ⟨a, e, nM, dx, us, h2, t⟩ := h2
      subst e
      exact ⟨.ref a, h1, .ref a, .ty c, .ref C', .type c, false, rfl, .ty c, .base (.ins h2 hC.cl hC.ha hC.hn hC.ht hC.hm), hc0, k _ b _ H hm Kp.refl S.dk (.bl _)⟩
    | _ => exact hm.elim
end Wp

/-! for texts that xgen.py writes -/
namespace Wp
open PySem PySem.Spec PyProof.Rows L2 Evl
def clB : Stmt → List Stmt
  | .ClassDef _ _ _ body _ _ _ _ _ _ _ => body
  | _ => []
/-- what a class of errors brings: C(e) may be raised -/
structure ErrC (P : Program) (w : World) (K : PySem.W.Frag) (mg : Str → Option Value) (base : Heap) (x : Str) (C fI : Addr) (fd : FuncData) (p fl : Str) : Prop where
  T : OexC K C
  iC : PySem.W.findIn K (.ref C) "__init__" = some (some (.ref fI))
  tI : PySem.W.typeIn K (.ref fI) = some (.type "function")
  F1 : FnOk P w K mg base CX0 1 fI fd ["self", p] (Cn.spI C fl)
  hb : Binds K fd ["self", p] []
  hm : mg x = some (.ref C)
def ErrE (P : Program) (w : World) (K : PySem.W.Frag) (mg : Str → Option Value) (base : Heap) (x : Str) (C : Addr) (fl : Str) : Prop := ∃ fI fd p, ErrC P w K mg base x C fI fd p fl
theorem pmk_E {X : Cx} {C : Addr} {x fl : Str} {p pos : Pos} {e : Expr} {m : WE} (h : ErrE X.prog X.w X.K X.mg X.base x C fl) (hr : Room 2 X.A) (hg : Gl X x) (he : PE X e (tE m)) (hdb : (x == ("__debug__" : Str)) = false := by decide) (hs : starEach [e] X.env = (false, eval e X.env) :: starEach [] X.env := by rfl) (hpl : (backTo pos (starEach [] X.env)).any (·.1) = false := by rfl) : PMk X (.Call (.Name x p) [e] [] pos) (tMk1 C fl (tE m)) := by
  obtain ⟨fI, fd, q, h⟩ := h
  exact pmk_1 h.T h.iC h.tI h.F1 hr h.hb hg h.hm he hdb hs hpl
def nz (m : WEX) : WEX := fun E b R Z => m E b R fun c s b' => c ≠ 0 ∧ Z c s b'
theorem vals_refs : ∀ (as : List Addr) (us : List Value), Vals (as.map V.ref) us → us = as.map Value.ref
  | [], _, h => by cases h; rfl
  | a :: as, _, h => by
    cases h with
    | cons r t => rw [List.map_cons, ← vals_refs as _ t]; cases r; rfl
end Wp

/-! draws from a deck, up to 2 * 10 ** 18 -/
namespace Cn
open PySem PySem.Spec PyProof.Rows L2
def spDrawW : Sp := fun vs H Q _ => ∃ D C m k, vs = [.ref D, .int k] ∧ Deck D C m H ∧ m ≤ 1000000000 ∧ 1 ≤ k ∧ k ≤ 2000000000000000000 ∧ ∀ r H', 0 ≤ r → r < k → Kp D C H H' → Deck D C (m + 1) H' → Q (.int r) H'
end Cn
namespace Wp
open PySem PySem.Spec PyProof.Rows L2 Evl
def mDrawW : WF := fun as b R => match as with
  | [.s 1, .d (.int k)] => (b ≤ 1000000000 ∧ 1 ≤ k ∧ k ≤ 2000000000000000000) ∧ ∀ r : Int, 0 ≤ r → r < k → R (.int r) (b + 1)
  | _ => False
theorem drawW_of {vs : List V} {H : Hp} {Q : VK} {E : XK} (h : spOf mDrawW vs H Q E) : Cn.spDrawW vs H Q E := by
  obtain ⟨W, as, b, R, ar, dk, hm, k⟩ := h
  unfold mDrawW at hm
  split at hm
  · cases ar with
    | cons a1 r =>
      cases r with
      | cons a2 r =>
        cases r
        obtain ⟨rfl, hk⟩ := a1
        have a2 : Dt H _ (.int _) := a2
        cases a2
        have ik := W.isK
        rw [hk] at ik
        obtain ⟨C, hM, hD⟩ := ik
        obtain ⟨⟨b1, k1, k2⟩, hr⟩ := hm
        refine ⟨W.root, C, b, _, rfl, (hD b H).mp dk, by omega, k1, k2, fun r H' r0 r1 kp d' => ?_⟩
        refine k _ (b + 1) _ H' (hr r r0 r1) (fun a o na e => kp a o (fun z => na ((hM a).mpr (.inl z))) (fun z => na ((hM a).mpr (.inr z))) e) ((hD _ H').mpr (by simpa using d')) (.int r)
  · exact hm.elim
theorem mDrawW_at {k : Int} {b : Nat} {R : PyData → Nat → Prop} (hb : b ≤ 1000000000) (h1 : 1 ≤ k) (h2 : k ≤ 2000000000000000000) (q : ∀ r : Int, 0 ≤ r → r < k → R (.int r) (b + 1)) : mDrawW [.s 1, .d (.int k)] b R := ⟨⟨hb, h1, h2⟩, q⟩
end Wp

namespace Wp
open PySem PySem.Spec PyProof.Rows L2
def spLaw (K : PySem.W.Frag) : Sp := fun vs H Q _ => ∃ (a : Addr) (ns : List Int), vs = [.ref a] ∧ SqL K H a (ns.map V.int) ∧ ns.length ≤ 63 ∧ ∀ H', Q (.bl true) H'
/-! ### the end of a law, where what the interpreter keeps of its own is at hand -/
theorem lawM {P : Program} {w : World} {K : PySem.W.Frag} {mg mb : Str → Option Value} {k : Nat} {fa a : Addr} {fd : FuncData} {x : Str} {sp : Sp} {s : Shared} {vs : List Value} {ns : List Int}
    (inK : K.In s.heap) (gl : s.heap.Ns mainGlobals mg) (bt : s.heap.Ns builtinsNs mb) (boot : ∀ x : Str, x ≠ "__name__" → mb x = bootBuiltins x) (lim : s.heap.NoLimit) (mods : ∃ mm, s.heap.Ns sysModules mm) (gens : s.gens = #[])
    (at_a : s.heap.get? a = some { cls := .type "list", data := .seq vs.toArray }) (nums : IntsAre vs ns) (few : ns.length ≤ sizeLine) (room : Room k callerA)
    (F : ∀ base : Heap, K.In base → base.Ns mainGlobals mg → (∃ o, base.get? sysModules = some o) → Cn.FnG P w K mg base k fa fd [x] sp) (binds : ∀ (s : Shared) (u : Value), BindsTo s fd ⟨[u], []⟩ [(x, u)])
    (pr : ∀ H : Hp, Only H → SqL K H a (ns.map V.int) → sp [.ref a] H (fun v _ => v = .bl true) fun _ _ _ => False) :
    codeAny (model P w) callerA (.call (.ref fa) ⟨[.ref a], []⟩) (fun r s' => r = .ok (.ret (.bool true)) ∧ OldK s.heap s'.heap ∧ s'.os = s.os ∧ AllBare s'.gens) s := by
  have rel := vals_ints nums
  have main : ∀ H : Hp, Only H → SqL K H a (ns.map V.int) → HOk P w H s.heap → (∀ b, H b ≠ none → b = a ∧ K.lookup a = none) →
      codeAny (model P w) callerA (.call (.ref fa) ⟨[.ref a], []⟩) (fun r s' => r = .ok (.ret (.bool true)) ∧ OldK s.heap s'.heap ∧ s'.os = s.os ∧ AllBare s'.gens) s := by
    intro H only sq hok tr
    have names : ∀ {b : Addr} {m : Str → Option Value}, s.heap.Ns b m → (hidT s.heap H).Ns b m := by
      rintro b m ⟨o, es, ep, e, d, r⟩
      refine ⟨o, es, ep, hidT_get e (Classical.byContradiction fun n => ?_), d, r⟩
      obtain ⟨rfl, _⟩ := tr b n
      have z := at_a.symm.trans e
      injection z with z
      subst z
      exact Data.noConfusion d
    have inB : K.In (hidT s.heap H) := fun b o e => hidT_get (inK b o e) (Classical.byContradiction fun n => by
      obtain ⟨rfl, z⟩ := tr b n
      rw [z] at e
      cases e)
    have e0 : Env0 P w K mg (hidT s.heap H) callerA [] s H := by
      refine ⟨rfl, ⟨inB, names gl, ⟨mb, names bt, boot⟩, ?_⟩, fun b o e => of_hidT e, Nat.le_of_eq (hidT_size _ _), trivial, fun b z => ?_, hok, .of_eq gens⟩
      · obtain ⟨mc, h1, h2⟩ := lim
        exact ⟨mc, names h1, h2⟩
      · simp [frs] at z
    refine codeAny_mono ((F _ inB (names gl) (by obtain ⟨mm, hm⟩ := mods; obtain ⟨o, _, _, e, _⟩ := names hm; exact ⟨o, e⟩)).run callerA [] s H ⟨[.ref a], []⟩ [.ref a] [.ref a] _ _ rfl room e0 (binds s (.ref a)) (.cons rfl .nil) (pr H only sq)) ?_
    rintro (_ | _ | _ | _ | u) s' z
    case ok.ret =>
      obtain ⟨v, H', os, bare, un, hok', ru, rfl⟩ := z
      cases ru
      refine ⟨rfl, OldK.of_keep fun b o e => ?_, os, bare⟩
      rcases only b with n | ⟨ob, xs, fz⟩
      · exact un.keep b o e n (by simp [frs]) (by simp)
      · have o1 : s.heap.get? b = some ob := (hok b _ fz).1
        have o2 : s'.heap.get? b = some ob := (hok' b _ (un.frzs b ob _ fz)).1
        rw [o2, ← o1, e]
    all_goals exact z.elim
  cases lk : K.lookup a with
  | some o =>
    have e := (inK a o lk).symm.trans at_a
    injection e with e
    subst e
    exact main (fun _ => none) (fun _ => .inl rfl) (.inr ⟨_, vs.toArray, _, lk, rfl, rfl, rfl, by rw [List.size_toArray, nums.length]; exact few, by simpa using rel⟩) (fun b u z => nomatch z) (fun b z => absurd rfl z)
  | none =>
    let o : HO := .frz { cls := .type "list", data := .seq vs.toArray } (.lst (ns.map V.int))
    have off : ∀ b, b ≠ a → (upd (fun _ => none) a o) b = none := fun b n => upd_ne n
    refine main (upd (fun _ => none) a o) (fun b => ?_) (.inl (.inr ⟨_, upd_same⟩)) (fun b u z => ?_) (fun b z => ?_)
    · by_cases n : b = a
      · subst n; exact .inr ⟨_, _, upd_same⟩
      · exact .inl (off b n)
    · by_cases n : b = a
      · subst n
        rw [upd_same] at z
        injection z with z
        subst z
        exact ⟨at_a, by rw [List.length_map]; exact few, vs, _, rel, at_a⟩
      · rw [off b n] at z; cases z
    · by_cases n : b = a
      · exact ⟨n, lk⟩
      · exact absurd (off b n) z
/-- the end of a law's proof; the law's def is called with no repr under way -/
theorem walkM {l : PySem.W.OpenLaw} {n k : Nat} {q : Program} {loose : List Str} {XP : (Str → Option Value) → Heap → Prop} {YP : World → Heap → Prop} {d : DefRec} {K : Params → PySem.W.Frag} {sp : PySem.W.Frag → Sp} {x : Str}
    (most : l.most = some n) (few : n ≤ sizeLine) (nodef : d.params.defaults = []) (hi : importsNone q = true) (room : Room k callerA) (hY : ∀ (w : World) (h : Heap), YP w h → (K w.params).In h)
    (F : ∀ (w : World) (mg : Str → Option Value) (fa : Addr) (h : Heap), (K w.params).In h → h.Ns mainGlobals mg → mg d.name = some (.ref fa) →
      ∃ fd : FuncData, (∀ (s : Shared) (u : Value), BindsTo s fd ⟨[u], []⟩ [(x, u)]) ∧ ∀ base : Heap, (K w.params).In base → base.Ns mainGlobals mg → (∃ o, base.get? sysModules = some o) → Cn.FnG l.prog w (K w.params) mg base k fa fd [x] (sp (K w.params)))
    (pr : ∀ (K : PySem.W.Frag) (H : Hp) (a : Addr) (ns : List Int), ns.length ≤ n → SqL K H a (ns.map V.int) → sp K [.ref a] H (fun v _ => v = .bl true) fun _ _ _ => False) :
    PySem.W.WalkO q loose XP YP l.row.toRowW d [] (fun f vs => PySem.call f vs) := by
  refine Att.attach_call most nodef ?_
  intro w s₀ s mg mb fa o pm cd doc a vs ns G Y _ _ _ named at_a nums len gens
  obtain ⟨fd, bd, go⟩ := F w mg fa _ (hY w _ Y) G.T.g named
  exact lawM (hY w _ Y) G.T.g G.T.b G.T.builtins G.T.nolimit (by obtain ⟨mm, h, _⟩ := (G.T.seer hi).mods; exact ⟨mm, h⟩) gens at_a nums (Nat.le_trans len few) room go bd fun H _ sq => pr _ H a ns len sq
end Wp

namespace Wp.K46
open PySem PySem.Spec PyProof.Rows L2 Evl Wp 
def topS (i : Nat) : Stmt := PySem.Challenge.pw_canpath_k46_bounds.main.body.getD i (.Pass ⟨0, 0, 0, 0⟩)

abbrev s_is_number : Stmt := topS 2
abbrev N_is_number : List Str := ["value"]
theorem sc_is_number : FnScope N_is_number ["value"] (defScope s_is_number) := ⟨rfl, rfl, rfl, by decide +kernel, rfl, by decide +kernel, by decide +kernel⟩

abbrev s_is_number_within : Stmt := topS 3
abbrev N_is_number_within : List Str := ["value", "low", "high"]
theorem sc_is_number_within : FnScope N_is_number_within ["value", "low", "high"] (defScope s_is_number_within) := ⟨rfl, rfl, rfl, by decide +kernel, rfl, by decide +kernel, by decide +kernel⟩

abbrev s_l_deck : Stmt := topS 13
abbrev N_l_deck : List Str := ["_law_script", "_law_cell"]
theorem sc_l_deck : FnScope N_l_deck ["_law_script"] (defScope s_l_deck) := ⟨rfl, rfl, rfl, by decide +kernel, rfl, by decide +kernel, by decide +kernel⟩

abbrev s_l_draw : Stmt := topS 14
abbrev N_l_draw : List Str := ["_law_deck_here", "_law_many", "_law_cell", "_law_place"]
theorem sc_l_draw : FnScope N_l_draw ["_law_deck_here", "_law_many"] (defScope s_l_draw) := ⟨rfl, rfl, rfl, by decide +kernel, rfl, by decide +kernel, by decide +kernel⟩

abbrev s_l_is_within : Stmt := topS 15
abbrev N_l_is_within : List Str := ["_law_value", "_law_low", "_law_high"]
theorem sc_l_is_within : FnScope N_l_is_within ["_law_value", "_law_low", "_law_high"] (defScope s_l_is_within) := ⟨rfl, rfl, rfl, by decide +kernel, rfl, by decide +kernel, by decide +kernel⟩

abbrev s_l_made : Stmt := topS 16
abbrev N_l_made : List Str := ["_law_most", "_law_is_other", "e"]
theorem sc_l_made : FnScope N_l_made ["_law_most"] (defScope s_l_made) := ⟨rfl, rfl, rfl, by decide +kernel, rfl, by decide +kernel, by decide +kernel⟩

abbrev s_l_room : Stmt := topS 17
abbrev N_l_room : List Str := ["_law_made_here", "_law_number", "_law_flags", "e"]
theorem sc_l_room : FnScope N_l_room ["_law_made_here", "_law_number"] (defScope s_l_room) := ⟨rfl, rfl, rfl, by decide +kernel, rfl, by decide +kernel, by decide +kernel⟩

abbrev s_law : Stmt := topS 18
abbrev N_law : List Str := ["_law_script", "_law_deck_here", "_law_odd", "_law_turn", "_law_most", "_law_made_here", "_law_some", "_law_number", "_law_due"]
theorem sc_law : FnScope N_law ["_law_script"] (defScope s_law) := ⟨rfl, rfl, rfl, by decide +kernel, rfl, by decide +kernel, by decide +kernel⟩

abbrev s_Bound_init : Stmt := (clB (topS 11)).getD 0 (.Pass ⟨0, 0, 0, 0⟩)
abbrev N_Bound_init : List Str := ["self", "most"]
theorem sc_Bound_init : FnScope N_Bound_init ["self", "most"] (defScope s_Bound_init) := ⟨rfl, rfl, rfl, by decide +kernel, rfl, by decide +kernel, by decide +kernel⟩

abbrev s_Bound_room : Stmt := (clB (topS 11)).getD 1 (.Pass ⟨0, 0, 0, 0⟩)
abbrev N_Bound_room : List Str := ["self", "number"]
theorem sc_Bound_room : FnScope N_Bound_room ["self", "number"] (defScope s_Bound_room) := ⟨rfl, rfl, rfl, by decide +kernel, rfl, by decide +kernel, by decide +kernel⟩

def xcL (ad : Nat → Addr) : XC := fun c => (ad c, ["value", "number"].getD c "")

def S_is_number_1 : WS := (mRet (mAnd (mIsi isI (mV 0)) (mNot (mIsi isB (mV 0)))))
def B_is_number : WS := S_is_number_1
def M_is_number : WF := mFn 1 1 B_is_number

def S_is_number_within_1 : WS := (mRet (mAnd (mCall M_is_number (gE (mV 0) gNo)) (mChain leW leW (mV 1) (mV 0) (mV 2))))
def B_is_number_within : WS := S_is_number_within_1
def M_is_number_within : WF := mFn 3 3 B_is_number_within

def S_l_is_within_1 : WS := (mRet (mAnd (mIsi isI (mV 0)) (mAnd (mNot (mIsi isB (mV 0))) (mChain leW leW (mV 1) (mV 0) (mV 2)))))
def B_l_is_within : WS := S_l_is_within_1
def M_l_is_within : WF := mFn 3 3 B_l_is_within

def S_Bound_init_1 (ad : Nat → Addr) : WS := (mRaise 0 (mV 1))
def S_Bound_init_2 (ad : Nat → Addr) : WS := (mIfS (mNotT (mT (mCall M_is_number_within (gE (mV 1) (gE (mC (.int 0)) (gE (mC (.int 1000000000000000000)) gNo)))))) (S_Bound_init_1 ad) mSkip)
def M_Bound_init (ad : Nat → Addr) : WFI := mInit1 2 2 "most" (S_Bound_init_2 ad) (mV 1)

def S_l_made_1 (ad : Nat → Addr) : WS := (mRet (mLk (mLst (mCons (mC (.str "other")) mNil))))
def S_l_made_2 (ad : Nat → Addr) : WS := (mRetX (nz (mMk (ad 5) (M_Bound_init ad) (gE (mV 0) gNo))))
def S_l_made_3 (ad : Nat → Addr) (a dd : Addr) (c : Nat) : WS := (mRet (mLk (mLst (mCons (mC (.str "number")) (mCons (mCB reprW (mCons (mXf 2 a dd "value" c) mNil)) mNil)))))
def S_l_made_4 (ad : Nat → Addr) (a dd : Addr) (c : Nat) : WS := (mIfS (mAndT (mT (mXis 2 a dd c ([true, false].getD c false))) (mAndT (mT (mXis 2 a dd c ([true, true].getD c false))) (mNotT (mT (mV 1))))) (S_l_made_3 ad a dd c) mSkip)
def S_l_made_5 (ad : Nat → Addr) (a dd : Addr) (c : Nat) : WS := (mAsg 1 (vD (mXis 2 a dd c ([false, true].getD c false))))
def U_l_made_6 (ad : Nat → Addr) (a dd : Addr) (c : Nat) : WS := (mSeq (S_l_made_5 ad a dd c)
    (S_l_made_4 ad a dd c))
def S_l_made_7 (ad : Nat → Addr) : WS := (mTry (xcL ad) 2 2 (fun c => [true, true].getD c false) (S_l_made_2 ad) (U_l_made_6 ad))
def B_l_made (ad : Nat → Addr) : WS := (mSeq (S_l_made_7 ad)
    (S_l_made_1 ad))
def M_l_made (ad : Nat → Addr) : WFX := mFnX 1 3 (B_l_made ad)

def S_Bound_room_1 (ad : Nat → Addr) : WS := (mRet (mOp subW (mFld 0 (ad 5) "most") (mV 1)))
def S_Bound_room_2 (ad : Nat → Addr) : WS := (mRaise 1 (mV 1))
def S_Bound_room_3 (ad : Nat → Addr) : WS := (mIfS (mT (mOp gtW (mV 1) (mFld 0 (ad 5) "most"))) (S_Bound_room_2 ad) mSkip)
def S_Bound_room_4 (ad : Nat → Addr) : WS := (mRaise 0 (mV 1))
def S_Bound_room_5 (ad : Nat → Addr) : WS := (mIfS (mNotT (mT (mCall M_is_number_within (gE (mV 1) (gE (mC (.int 0)) (gE (mC (.int 1000000000000000000)) gNo)))))) (S_Bound_room_4 ad) mSkip)
def B_Bound_room (ad : Nat → Addr) : WS := (mSeq (S_Bound_room_5 ad)
    (mSeq (S_Bound_room_3 ad)
    (S_Bound_room_1 ad)))
def M_Bound_room (ad : Nat → Addr) : WFX := mFnX 2 2 (B_Bound_room ad)

def S_l_room_1 (ad : Nat → Addr) : WS := (mRet (mLk (mLst (mCons (mC (.str "other")) mNil))))
def S_l_room_2 (ad : Nat → Addr) : WS := (mRetX (nz (mMethX 0 (ad 5) "room" (M_Bound_room ad) (gE (mV 1) gNo))))
def S_l_room_3 (ad : Nat → Addr) (a dd : Addr) (c : Nat) : WS := (mRet (mIf (mT (mOp ixW (mV 2) (mC (.int 0)))) (mLk (mLst (mCons (mC (.str "number")) (mCons (mCB reprW (mCons (mXf 3 a dd "value" c) mNil)) mNil)))) (mLk (mLst (mCons (mC (.str "long")) (mCons (mCB reprW (mCons (mXf 3 a dd "number" c) mNil)) mNil))))))
def S_l_room_4 (ad : Nat → Addr) (a dd : Addr) (c : Nat) : WS := (mIfS (mAndT (mT (mOp eqI (mCnt (mV 2) (mC (.bool true))) (mC (.int 1)))) (mAndT (mT (mXis 3 a dd c ([true, true].getD c false))) (mNotT (mT (mXis 3 a dd c ([false, false].getD c false)))))) (S_l_room_3 ad a dd c) mSkip)
def S_l_room_5 (ad : Nat → Addr) (a dd : Addr) (c : Nat) : WS := (mAsg 2 (vD (mLk (mLst (mCons (mXis 3 a dd c ([true, false].getD c false)) (mCons (mXis 3 a dd c ([false, true].getD c false)) mNil))))))
def U_l_room_6 (ad : Nat → Addr) (a dd : Addr) (c : Nat) : WS := (mSeq (S_l_room_5 ad a dd c)
    (S_l_room_4 ad a dd c))
def S_l_room_7 (ad : Nat → Addr) : WS := (mTry (xcL ad) 2 3 (fun c => [true, true].getD c false) (S_l_room_2 ad) (U_l_room_6 ad))
def B_l_room (ad : Nat → Addr) : WS := (mSeq (S_l_room_7 ad)
    (S_l_room_1 ad))
def M_l_room (ad : Nat → Addr) : WFX := mFnX 2 4 (B_l_room ad)

def S_law_1 (ad : Nat → Addr) : WS := (mRet (mC (.bool true)))
def S_law_2 (ad : Nat → Addr) : WS := (mRet (mC (.bool false)))
def S_law_3 (ad : Nat → Addr) : WS := (mIfS (mOrT (mNotT (mT (mIsiV 5 (ad 5) isL))) (mT (mOp neW (mV 5) (mLk (mLst (mCons (mC (.str "number")) (mCons (mCB reprW (mCons (mV 4) mNil)) mNil))))))) (S_law_2 ad) mSkip)
def S_law_4 (ad : Nat → Addr) : WS := (mRet (mC (.bool false)))
def S_law_5 (ad : Nat → Addr) : WS := (mRet (mC (.bool false)))
def S_law_6 (ad : Nat → Addr) : WS := (mIfS (mOrT (mT (mOp neW (mCB reprW (mCons (mCalm (mCallX (M_l_room ad) (gOb 5 (gE (mV 7) gNo)))) mNil)) (mCB reprW (mCons (mV 8) mNil)))) (mT (mOp neW (mCB reprW (mCons (mFld 5 (ad 5) "most") mNil)) (mCB reprW (mCons (mV 4) mNil))))) (S_law_5 ad) mSkip)
def S_law_7 (ad : Nat → Addr) : WS := (mAsg 8 (vD (mIf (mT (mOp leW (mV 7) (mV 4))) (mOp subW (mV 4) (mV 7)) (mLk (mLst (mCons (mC (.str "long")) (mCons (mCB reprW (mCons (mV 7) mNil)) mNil)))))))
def S_law_8 (ad : Nat → Addr) : WS := (mIfS (mT (mCall M_l_is_within (gE (mV 7) (gE (mC (.int 0)) (gE (mOp powW (mC (.int 10)) (mC (.int 18))) gNo))))) (S_law_7 ad) mSkip)
def S_law_9 (ad : Nat → Addr) : WS := (mAsg 8 (vD (mLk (mLst (mCons (mC (.str "number")) (mCons (mCB reprW (mCons (mV 7) mNil)) mNil))))))
def S_law_10 (ad : Nat → Addr) : WS := (mFor (bName 7) (mOp addW (mV 6) (mLk (mLst (mCons (mOp ixW (mV 2) (mCall mDrawW (gO 1 (gE (mC (.int 12)) gNo)))) (mCons (mOp ixW (mV 2) (mCall mDrawW (gO 1 (gE (mC (.int 12)) gNo)))) mNil)))))
      (mSeq (S_law_9 ad)
    (mSeq (S_law_8 ad)
    (S_law_6 ad))))
def S_law_11 (ad : Nat → Addr) : WS := (mAsg 6 (vD (mLk (mLst (mCons (mC (.int 0)) (mCons (mC (.bool false)) (mCons (mC (.int 1)) (mCons (mC (.bool true)) (mCons (mV 4) (mCons (mCB maxW (mCons (mC (.int 0)) (mCons (mOp subW (mV 4) (mC (.int 1))) mNil))) (mCons (mOp addW (mV 4) (mC (.int 1))) (mCons (mCall mDrawW (gO 1 (gE (mOp addW (mOp powW (mC (.int 10)) (mC (.int 18))) (mC (.int 1))) gNo))) (mCons (mOp powW (mC (.int 10)) (mC (.int 18))) mNil)))))))))))))
def S_law_12 (ad : Nat → Addr) : WS := (mIfS (mT (mIsiV 5 (ad 5) isL)) (S_law_4 ad) (mSeq (S_law_11 ad)
    (S_law_10 ad)))
def S_law_13 (ad : Nat → Addr) : WS := (mIfS (mNotT (mT (mCall M_l_is_within (gE (mV 4) (gE (mC (.int 0)) (gE (mOp powW (mC (.int 10)) (mC (.int 18))) gNo)))))) (S_law_3 ad) (S_law_12 ad))
def S_law_14 (ad : Nat → Addr) : WS := (mAsgX 5 (nz (mCallX (M_l_made ad) (gE (mV 4) gNo))))
def S_law_15 (ad : Nat → Addr) : WS := (mAsg 4 (vD (mOp ixW (mLk (mLst (mCons (mC (.int 0)) (mCons (mOp powW (mC (.int 10)) (mC (.int 18))) (mCons (mCall mDrawW (gO 1 (gE (mOp addW (mOp powW (mC (.int 10)) (mC (.int 18))) (mC (.int 1))) gNo))) (mCons (mOp ixW (mV 2) (mCall mDrawW (gO 1 (gE (mC (.int 12)) gNo)))) mNil)))))) (mCall mDrawW (gO 1 (gE (mC (.int 4)) gNo))))))
def S_law_16 (ad : Nat → Addr) : WS := (mForR (bName 3) (mCons (mC (.int 6)) mNil)
      (mSeq (S_law_15 ad)
    (mSeq (S_law_14 ad)
    (S_law_13 ad))))
def S_law_17 (ad : Nat → Addr) : WS := (mAsg 2 (vD (mLk (mLst (mCons (mC .none) (mCons (mC (.bool true)) (mCons (mC (.bool false)) (mCons (mUn negW (mC (.int 1))) (mCons (mOp addW (mOp powW (mC (.int 10)) (mC (.int 18))) (mC (.int 1))) (mCons (mOp powW (mC (.int 10)) (mC (.int 39))) (mCons (mC (.str "5")) (mCons (mC (.str "")) (mCons (mTup mNil) (mCons (mLk (mLst mNil)) (mCons (mC (.dict [])) (mCons (mTup (mCons (mC (.int 3)) mNil)) mNil))))))))))))))))
def B_law (ad : Nat → Addr) : WS := (mSeq (S_law_17 ad)
    (mSeq (S_law_16 ad)
    (S_law_1 ad)))
def M_law (ad : Nat → Addr) : WF := mFn 1 9 (B_law ad)

structure Lc (P : Program) (w : World) (K : PySem.W.Frag) (mg : Str → Option Value) (base : Heap) (ad : Nat → Addr) : Prop where
  ex_PathError : ∀ c, c < 2 → PySem.W.exmOne K (.ref (ad c)) (.ref (ad 2)) = some ([true, true].getD c false)
  mk_Bound : Mk K (ad 5) (ad 9)
  g_Bound : mg "Bound" = some (.ref (ad 5))
  T : ∀ c, c < 2 → ExcC K (ad c)
  k1_ValueError : ∀ c, c < 2 → PySem.W.kitOne K (.ref (ad c)) (.type "ValueError") = some ([true, true].getD c false)
  g_BadNumber : mg "BadNumber" = some (.ref (ad 0))
  k1_BadNumber : ∀ c, c < 2 → PySem.W.kitOne K (.ref (ad c)) (.ref (ad 0)) = some ([true, false].getD c false)
  X : ∀ c, c < 2 → XfC K (ad c)
  nf_value : ∀ c, c < 2 → PySem.W.findIn K (.ref (ad c)) "value" = some none
  g_BadCan : mg "BadCan" = some (.ref (ad 3))
  g_BadLitres : mg "BadLitres" = some (.ref (ad 4))
  g_TooLong : mg "TooLong" = some (.ref (ad 1))
  kn_BadCan_BadLitres_TooLong : ∀ c, c < 2 → PySem.W.kitAny K (.ref (ad c)) [.ref (ad 3), .ref (ad 4), .ref (ad 1)] = some ([false, true].getD c false)
  g_PathError : mg "PathError" = some (.ref (ad 2))
  e_BadNumber : ErrE P w K mg base "BadNumber" (ad 0) "value"
  cl_Bound : Cls K (ad 5)
  me_Bound_room : Meth K (ad 5) "room" (ad 10)
  kn_BadCan_BadLitres : ∀ c, c < 2 → PySem.W.kitAny K (.ref (ad c)) [.ref (ad 3), .ref (ad 4)] = some ([false, false].getD c false)
  nf_number : ∀ c, c < 2 → PySem.W.findIn K (.ref (ad c)) "number" = some none
  k1_TooLong : ∀ c, c < 2 → PySem.W.kitOne K (.ref (ad c)) (.ref (ad 1)) = some ([false, true].getD c false)
  na_Bound_most : NoAttr K (ad 5) "most"
  e_TooLong : ErrE P w K mg base "TooLong" (ad 1) "number"
  in_Bound : InC K (ad 5)
  il_Bound_list : PySem.W.kitOne K (.ref (ad 5)) (.type "list") = some false


section
variable {P : Program} {w : World} {K : PySem.W.Frag} {mg : Str → Option Value} {base : Heap}

theorem ok_is_number {f : Addr} {fd : FuncData} (sm : ∃ o, base.get? sysModules = some o) (F : Fun K "is_number" "is_number" s_is_number f fd) (m_bool : mg "bool" = none) (m_int : mg "int" = none) (m_isinstance : mg "isinstance" = none) : Cn.FnG P w K mg base 1 f fd ["value"] (spOf M_is_number) :=
  fn_of F sc_is_number (by decide) fun cdv A outer s H E gd hr =>
    (pm_one1 (pm_ret (pm_and (pm_isi kit_int (by rfl) m_isinstance (pm_var (pv 0)) (pe_bltn (v := .ty "int") (by rfl) m_int (by decide +kernel) rfl)) (pm_one (pm_not (pm_isi kit_bool (by rfl) m_isinstance (pm_var (pv 0)) (pe_bltn (v := .ty "bool") (by rfl) m_bool (by decide +kernel) rfl)))))))

theorem ok_is_number_within {f : Addr} {fd : FuncData} (sm : ∃ o, base.get? sysModules = some o) (F : Fun K "is_number_within" "is_number_within" s_is_number_within f fd) {f_is_number : Addr} {fd_is_number : FuncData} (G_is_number : Cn.FnG P w K mg base 1 f_is_number fd_is_number ["value"] (spOf M_is_number)) (g_is_number : mg "is_number" = some (.ref f_is_number)) (F_is_number : Fun K "is_number" "is_number" s_is_number f_is_number fd_is_number) (b_is_number : Binds K fd_is_number ["value"] []) : Cn.FnG P w K mg base 2 f fd ["value", "low", "high"] (spOf M_is_number_within) :=
  fn_of F sc_is_number_within (by decide) fun cdv A outer s H E gd hr =>
    (pm_one1 (pm_ret (pm_and (pm_call G_is_number gd (hr.mono (by first | decide | omega)) (by rfl) g_is_number F_is_number.kp b_is_number (pm_ge (pm_var (pv 0)) pm_gno)) (pm_one (pm_chain (op_leW ⟨gd, hr.units, rfl, sm⟩) (op_leW ⟨gd, hr.units, rfl, sm⟩) ((pm_var (pv 1))).q ((pm_var (pv 0))).q ((pm_var (pv 2))).q)))))

theorem ok_l_is_within {f : Addr} {fd : FuncData} (sm : ∃ o, base.get? sysModules = some o) (F : Fun K "_law_is_within" "_law_is_within" s_l_is_within f fd) (m_bool : mg "bool" = none) (m_int : mg "int" = none) (m_isinstance : mg "isinstance" = none) : Cn.FnG P w K mg base 1 f fd ["_law_value", "_law_low", "_law_high"] (spOf M_l_is_within) :=
  fn_of F sc_l_is_within (by decide) fun cdv A outer s H E gd hr =>
    (pm_one1 (pm_ret (pm_and (pm_isi kit_int (by rfl) m_isinstance (pm_var (pv 0)) (pe_bltn (v := .ty "int") (by rfl) m_int (by decide +kernel) rfl)) (pm_and (pm_not (pm_isi kit_bool (by rfl) m_isinstance (pm_var (pv 0)) (pe_bltn (v := .ty "bool") (by rfl) m_bool (by decide +kernel) rfl))) (pm_one (pm_chain (op_leW ⟨gd, hr.units, rfl, sm⟩) (op_leW ⟨gd, hr.units, rfl, sm⟩) ((pm_var (pv 1))).q ((pm_var (pv 0))).q ((pm_var (pv 2))).q))))))

theorem ok_Bound_init {ad : Nat → Addr} {f : Addr} {fd : FuncData} (sm : ∃ o, base.get? sysModules = some o) (F : Fun K "__init__" "Bound.__init__" s_Bound_init f fd) (L : Lc P w K mg base ad) {t_LIMIT : Tok} (k_LIMIT : mg "LIMIT" = some (.int 1000000000000000000 t_LIMIT)) {f_is_number_within : Addr} {fd_is_number_within : FuncData} (G_is_number_within : Cn.FnG P w K mg base 2 f_is_number_within fd_is_number_within ["value", "low", "high"] (spOf M_is_number_within)) (g_is_number_within : mg "is_number_within" = some (.ref f_is_number_within)) (F_is_number_within : Fun K "is_number_within" "is_number_within" s_is_number_within f_is_number_within fd_is_number_within) (b_is_number_within : Binds K fd_is_number_within ["value", "low", "high"] []) : Cn.FnX P w K mg base 3 f fd ["self", "most"] (spInit (xcL ad) (ad 5) (M_Bound_init ad)) :=
  fn_init1 F sc_Bound_init (by decide) L.cl_Bound L.na_Bound_most fun cdv A outer s H E gd hr =>
    (pss_cons (pm_if (pm_tnot (pm_tval (pm_call G_is_number_within gd (hr.mono (by first | decide | omega)) (by rfl) g_is_number_within F_is_number_within.kp b_is_number_within (pm_ge (pm_var (pv 1)) (pm_ge pm_int (pm_ge (pm_gi (by rfl) k_LIMIT) pm_gno)))))) (pm_one1 (pm_raise (c := 0) rfl (takes_of rfl rfl rfl rfl) (pmk_E L.e_BadNumber (hr.mono (by first | decide | omega)) (by rfl) (pm_var (pv 1))))) pm_skip) (pss_one (ps_fld (pv 0) (pm_var (pv 1)) rfl)))

theorem ok_l_made {ad : Nat → Addr} {f : Addr} {fd : FuncData} (sm : ∃ o, base.get? sysModules = some o) (F : Fun K "_law_made" "_law_made" s_l_made f fd) (L : Lc P w K mg base ad) (m_ValueError : mg "ValueError" = none) (m_isinstance : mg "isinstance" = none) (m_repr : mg "repr" = none) {fd_Bound_init : FuncData} (G_Bound_init : Cn.FnX P w K mg base 3 (ad 9) fd_Bound_init ["self", "most"] (spInit (xcL ad) (ad 5) (M_Bound_init ad))) (b_Bound_init : Binds K fd_Bound_init ["self", "most"] []) : Cn.FnX P w K mg base 5 f fd ["_law_most"] (spOfX (xcL ad) (M_l_made ad)) :=
  fn_ofX F sc_l_made (by decide) fun cdv A outer s H E gd hr =>
    (pm_seq (pm_try (i := 2) (n := 2) (cap := fun c => [true, true].getD c false) (ms := fun a dd c => _) rfl rfl sc_l_made.nd rfl rfl ⟨rfl, by decide, .inl L.g_PathError⟩ (takes_of rfl rfl rfl rfl) (fun c hc => L.ex_PathError c hc)
      (fun W pn xe tk po => (pm_one1 (pm_retX (xc := (xcL ad)) (pe_mkXM L.mk_Bound G_Bound_init gd (hr.mono (by first | decide | omega)) (by rfl) L.g_Bound b_Bound_init tk (pm_ge (pm_var (pv 0)) pm_gno)))))
      (fun a dd oe c pn hc hz hf => (pm_seq (pm_asg (i := 1) sc_l_made.nd rfl (.inl rfl) ((pe_isxN (L.T c hc) hz hf (cvs := [.ref (ad 3), .ref (ad 4), .ref (ad 1)]) (cus := [.ref (ad 3), .ref (ad 4), .ref (ad 1)]) (fun us h => ClsV.all (.cons (.own _) (.cons (.own _) (.cons (.own _) .nil))) h) (L.kn_BadCan_BadLitres_TooLong c hc) (by show 3 ≤ sizeLine; decide) (by rfl) m_isinstance (pv 2) (pa_cs (pe_glob (v := .ref (ad 3)) (by rfl) L.g_BadCan rfl) (pa_cs (pe_glob (v := .ref (ad 4)) (by rfl) L.g_BadLitres rfl) (pa_cs (pe_glob (v := .ref (ad 1)) (by rfl) L.g_TooLong rfl) pa_cs0))))).vd)
    (pm_one1 (pm_if (PW.pt (pm_wand (pm_tval (pe_isx1 (L.T c hc) hz hf (fun u h => (show ClsV (.ref (ad 0)) (.ref (ad 0)) from (.own _)).eq h) (L.k1_BadNumber c hc) (by rfl) m_isinstance (pv 2) (pe_glob (v := .ref (ad 0)) (by rfl) L.g_BadNumber rfl))) (pm_wand (pm_tval (pe_isx1 (L.T c hc) hz hf (fun u h => (show ClsV (.ty "ValueError") (.type "ValueError") from (.ty _)).eq h) (L.k1_ValueError c hc) (by rfl) m_isinstance (pv 2) (pe_bltn (v := .ty "ValueError") (by rfl) m_ValueError (by decide +kernel) rfl))) (pm_wand1 (pm_tnot (pm_tval (pm_var (pv 1)))))))) (pm_one1 (pm_ret ((pm_lst (pm_acons pm_str (pm_acons (pm_callB (cr_reprS ⟨gd, hr.units, sm⟩) (by rfl) m_repr (by decide +kernel) (pm_qcons ((pe_xfM (L.X c hc) (L.nf_value c hc) hz hf (pv 2))).q pm_qnil)) pm_anil)))).lk)) pm_skip)))))
    (pm_one1 (pm_ret ((pm_lst (pm_acons pm_str pm_anil))).lk)))

theorem ok_Bound_room {ad : Nat → Addr} {f : Addr} {fd : FuncData} (sm : ∃ o, base.get? sysModules = some o) (F : Fun K "room" "Bound.room" s_Bound_room f fd) (L : Lc P w K mg base ad) {t_LIMIT : Tok} (k_LIMIT : mg "LIMIT" = some (.int 1000000000000000000 t_LIMIT)) {f_is_number_within : Addr} {fd_is_number_within : FuncData} (G_is_number_within : Cn.FnG P w K mg base 2 f_is_number_within fd_is_number_within ["value", "low", "high"] (spOf M_is_number_within)) (g_is_number_within : mg "is_number_within" = some (.ref f_is_number_within)) (F_is_number_within : Fun K "is_number_within" "is_number_within" s_is_number_within f_is_number_within fd_is_number_within) (b_is_number_within : Binds K fd_is_number_within ["value", "low", "high"] []) : Cn.FnX P w K mg base 3 f fd ["self", "number"] (spOfX (xcL ad) (M_Bound_room ad)) :=
  fn_ofX F sc_Bound_room (by decide) fun cdv A outer s H E gd hr =>
    (pm_seq (pm_if (pm_tnot (pm_tval (pm_call G_is_number_within gd (hr.mono (by first | decide | omega)) (by rfl) g_is_number_within F_is_number_within.kp b_is_number_within (pm_ge (pm_var (pv 1)) (pm_ge pm_int (pm_ge (pm_gi (by rfl) k_LIMIT) pm_gno)))))) (pm_one1 (pm_raise (c := 0) rfl (takes_of rfl rfl rfl rfl) (pmk_E L.e_BadNumber (hr.mono (by first | decide | omega)) (by rfl) (pm_var (pv 1))))) pm_skip)
    (pm_seq (pm_if (pm_tcmp (op_gtW ⟨gd, hr.units, rfl, sm⟩) ((pm_var (pv 1))).q ((pe_fldM (pv 0) L.cl_Bound L.na_Bound_most)).q (by rfl)) (pm_one1 (pm_raise (c := 1) rfl (takes_of rfl rfl rfl rfl) (pmk_E L.e_TooLong (hr.mono (by first | decide | omega)) (by rfl) (pm_var (pv 1))))) pm_skip)
    (pm_one1 (pm_ret (pm_op op_subW ((pe_fldM (pv 0) L.cl_Bound L.na_Bound_most)).q ((pm_var (pv 1))).q)))))

theorem ok_l_room {ad : Nat → Addr} {f : Addr} {fd : FuncData} (sm : ∃ o, base.get? sysModules = some o) (F : Fun K "_law_room" "_law_room" s_l_room f fd) (L : Lc P w K mg base ad) (m_ValueError : mg "ValueError" = none) (m_isinstance : mg "isinstance" = none) (m_repr : mg "repr" = none) {fd_Bound_room : FuncData} (G_Bound_room : Cn.FnX P w K mg base 3 (ad 10) fd_Bound_room ["self", "number"] (spOfX (xcL ad) (M_Bound_room ad))) (b_Bound_room : Binds K fd_Bound_room ["self", "number"] []) : Cn.FnX P w K mg base 4 f fd ["_law_made_here", "_law_number"] (spOfX (xcL ad) (M_l_room ad)) :=
  fn_ofX F sc_l_room (by decide) fun cdv A outer s H E gd hr =>
    (pm_seq (pm_try (i := 3) (n := 2) (cap := fun c => [true, true].getD c false) (ms := fun a dd c => _) rfl rfl sc_l_room.nd rfl rfl ⟨rfl, by decide, .inl L.g_PathError⟩ (takes_of rfl rfl rfl rfl) (fun c hc => L.ex_PathError c hc)
      (fun W pn xe tk po => (pm_one1 (pm_retX (xc := (xcL ad)) (pe_methXM (pv 0) L.cl_Bound L.me_Bound_room G_Bound_room gd (hr.mono (by first | decide | omega)) b_Bound_room tk (pm_ge (pm_var (pv 1)) pm_gno)))))
      (fun a dd oe c pn hc hz hf => (pm_seq (pm_asg (i := 2) sc_l_room.nd rfl (.inl rfl) (((pm_lst (pm_acons (pe_isx1 (L.T c hc) hz hf (fun u h => (show ClsV (.ref (ad 0)) (.ref (ad 0)) from (.own _)).eq h) (L.k1_BadNumber c hc) (by rfl) m_isinstance (pv 3) (pe_glob (v := .ref (ad 0)) (by rfl) L.g_BadNumber rfl)) (pm_acons (pe_isx1 (L.T c hc) hz hf (fun u h => (show ClsV (.ref (ad 1)) (.ref (ad 1)) from (.own _)).eq h) (L.k1_TooLong c hc) (by rfl) m_isinstance (pv 3) (pe_glob (v := .ref (ad 1)) (by rfl) L.g_TooLong rfl)) pm_anil)))).lk).vd)
    (pm_one1 (pm_if (PW.pt (pm_wand (pm_tcmp op_eqI ((pm_cnt (pe_bm PySem.F.plainAttrs_list PySem.F.slot_list_count PySem.F.type_list_count (mt_count hr.units) ((pm_var (pv 2))).q (pa_cons pm_bl pa_nil)))).q (pm_int).q (by rfl)) (pm_wand (pm_tval (pe_isx1 (L.T c hc) hz hf (fun u h => (show ClsV (.ty "ValueError") (.type "ValueError") from (.ty _)).eq h) (L.k1_ValueError c hc) (by rfl) m_isinstance (pv 3) (pe_bltn (v := .ty "ValueError") (by rfl) m_ValueError (by decide +kernel) rfl))) (pm_wand1 (pm_tnot (pm_tval (pe_isxN (L.T c hc) hz hf (cvs := [.ref (ad 3), .ref (ad 4)]) (cus := [.ref (ad 3), .ref (ad 4)]) (fun us h => ClsV.all (.cons (.own _) (.cons (.own _) .nil)) h) (L.kn_BadCan_BadLitres c hc) (by show 2 ≤ sizeLine; decide) (by rfl) m_isinstance (pv 3) (pa_cs (pe_glob (v := .ref (ad 3)) (by rfl) L.g_BadCan rfl) (pa_cs (pe_glob (v := .ref (ad 4)) (by rfl) L.g_BadLitres rfl) pa_cs0))))))))) (pm_one1 (pm_ret (pm_ifE (pm_tval (pm_ix (ixr_W (K := K) rfl) ((pm_var (pv 2))).q (pm_int).q (fun _ _ => rfl))) ((pm_lst (pm_acons pm_str (pm_acons (pm_callB (cr_reprS ⟨gd, hr.units, sm⟩) (by rfl) m_repr (by decide +kernel) (pm_qcons ((pe_xfM (L.X c hc) (L.nf_value c hc) hz hf (pv 3))).q pm_qnil)) pm_anil)))).lk ((pm_lst (pm_acons pm_str (pm_acons (pm_callB (cr_reprS ⟨gd, hr.units, sm⟩) (by rfl) m_repr (by decide +kernel) (pm_qcons ((pe_xfM (L.X c hc) (L.nf_number c hc) hz hf (pv 3))).q pm_qnil)) pm_anil)))).lk))) pm_skip)))))
    (pm_one1 (pm_ret ((pm_lst (pm_acons pm_str pm_anil))).lk)))

abbrev s_BadNumber_init : Stmt := (clB (topS 8)).getD 0 (.Pass ⟨0, 0, 0, 0⟩)
theorem sc_BadNumber_init : FnScope ["self", "value"] ["self", "value"] (defScope s_BadNumber_init) := ⟨rfl, rfl, rfl, by decide +kernel, rfl, by decide +kernel, by decide +kernel⟩
theorem ok_BadNumber_init {f C : Addr} {fd : FuncData} (F : Fun K "__init__" "BadNumber.__init__" s_BadNumber_init f fd) (T : OexC K C) (hno : PySem.W.findIn K (.ref C) "value" = some none) : FnOk P w K mg base CX0 1 f fd ["self", "value"] (Cn.spI C "value") := by
  refine F.ok sc_BadNumber_init (fun vs H Q E h => ?_) (fun cdv A outer s H vs Q E hr h => ⟨_, pss_one (ps_ost (pv 0) (pv 1)), Cn.init_reads T hno h⟩)
  obtain ⟨a, v, rfl, _⟩ := h
  rfl

abbrev s_TooLong_init : Stmt := (clB (topS 9)).getD 0 (.Pass ⟨0, 0, 0, 0⟩)
theorem sc_TooLong_init : FnScope ["self", "number"] ["self", "number"] (defScope s_TooLong_init) := ⟨rfl, rfl, rfl, by decide +kernel, rfl, by decide +kernel, by decide +kernel⟩
theorem ok_TooLong_init {f C : Addr} {fd : FuncData} (F : Fun K "__init__" "TooLong.__init__" s_TooLong_init f fd) (T : OexC K C) (hno : PySem.W.findIn K (.ref C) "number" = some none) : FnOk P w K mg base CX0 1 f fd ["self", "number"] (Cn.spI C "number") := by
  refine F.ok sc_TooLong_init (fun vs H Q E h => ?_) (fun cdv A outer s H vs Q E hr h => ⟨_, pss_one (ps_ost (pv 0) (pv 1)), Cn.init_reads T hno h⟩)
  obtain ⟨a, v, rfl, _⟩ := h
  rfl

theorem ok_law {ad : Nat → Addr} {f f_l_deck : Addr} {fd fd_l_deck : FuncData} (sm : ∃ o, base.get? sysModules = some o) (F : Fun K "law" "law" s_law f fd) (L : Lc P w K mg base ad) (m_isinstance : mg "isinstance" = none) (m_list : mg "list" = none) (m_max : mg "max" = none) (m_range : mg "range" = none) (m_repr : mg "repr" = none) {f_l_draw : Addr} {fd_l_draw : FuncData} (G_l_draw : Cn.FnG P w K mg base 1 f_l_draw fd_l_draw ["_law_deck_here", "_law_many"] (spOf mDrawW)) (g_l_draw : mg "_law_draw" = some (.ref f_l_draw)) (F_l_draw : Fun K "_law_draw" "_law_draw" s_l_draw f_l_draw fd_l_draw) (b_l_draw : Binds K fd_l_draw ["_law_deck_here", "_law_many"] []) {f_l_is_within : Addr} {fd_l_is_within : FuncData} (G_l_is_within : Cn.FnG P w K mg base 1 f_l_is_within fd_l_is_within ["_law_value", "_law_low", "_law_high"] (spOf M_l_is_within)) (g_l_is_within : mg "_law_is_within" = some (.ref f_l_is_within)) (F_l_is_within : Fun K "_law_is_within" "_law_is_within" s_l_is_within f_l_is_within fd_l_is_within) (b_l_is_within : Binds K fd_l_is_within ["_law_value", "_law_low", "_law_high"] []) {f_l_made : Addr} {fd_l_made : FuncData} (G_l_made : Cn.FnX P w K mg base 5 f_l_made fd_l_made ["_law_most"] (spOfX (xcL ad) (M_l_made ad))) (g_l_made : mg "_law_made" = some (.ref f_l_made)) (F_l_made : Fun K "_law_made" "_law_made" s_l_made f_l_made fd_l_made) (b_l_made : Binds K fd_l_made ["_law_most"] []) {f_l_room : Addr} {fd_l_room : FuncData} (G_l_room : Cn.FnX P w K mg base 4 f_l_room fd_l_room ["_law_made_here", "_law_number"] (spOfX (xcL ad) (M_l_room ad))) (g_l_room : mg "_law_room" = some (.ref f_l_room)) (F_l_room : Fun K "_law_room" "_law_room" s_l_room f_l_room fd_l_room) (b_l_room : Binds K fd_l_room ["_law_made_here", "_law_number"] []) (G_l_deck : FnOk P w K mg base CX0 1 f_l_deck fd_l_deck ["_law_script"] (Cn.spDeck K)) (g_l_deck : mg "_law_deck" = some (.ref f_l_deck)) (F_l_deck : Fun K "_law_deck" "_law_deck" s_l_deck f_l_deck fd_l_deck) (b_l_deck : Binds K fd_l_deck ["_law_script"] []) (hm : B_law ad (.no :: .s 1 :: List.replicate (N_law.length - 2) .no) 0 lawF) : Cn.FnG P w K mg base 6 f fd ["_law_script"] (spLaw K) := by
  refine Cn.okG F sc_law (fun vs H Q E h => ?_) (fun cdv A outer s H vs Q E gd hr h => ?_)
  · obtain ⟨a, ns, rfl, _⟩ := h
    rfl
  · obtain ⟨a, ns, rfl, hs, few, q⟩ := h
    exact ⟨_, (pss_cons (ps_set (i := 1) sc_law.nd rfl (.inl rfl) (pe_call G_l_deck (hr.mono (by first | decide | omega)) (by rfl) g_l_deck F_l_deck.kp b_l_deck .nil pass0 (pa_cons (pv 0) pa_nil)))
      ((pm_seq (pm_asg (i := 2) sc_law.nd rfl (.inl rfl) (((pm_lst (pm_acons pm_non (pm_acons pm_bl (pm_acons pm_bl (pm_acons (pm_neg pm_int) (pm_acons (pm_op op_addW ((pm_op op_powW (pm_int).q (pm_int).q)).q (pm_int).q) (pm_acons (pm_op op_powW (pm_int).q (pm_int).q) (pm_acons pm_str (pm_acons pm_str (pm_acons (pm_tup pm_anil) (pm_acons ((pm_lst pm_anil)).lk (pm_acons pm_dd0 (pm_acons (pm_tup (pm_acons pm_int pm_anil)) pm_anil)))))))))))))).lk).vd)
    (pm_seq (pm_forR PassesOwn.never rfl (by rfl) m_range (pm_acons pm_int pm_anil) (pg_name (i := 3) sc_law.nd rfl (.inl rfl)) gb_name
      (pm_seq (pm_asg (i := 4) sc_law.nd rfl (.inl rfl) ((pm_ix (ixr_W (K := K) rfl) ((pm_lst (pm_acons pm_int (pm_acons (pm_op op_powW (pm_int).q (pm_int).q) (pm_acons (pm_call G_l_draw gd (hr.mono (by first | decide | omega)) (by rfl) g_l_draw F_l_draw.kp b_l_draw (pm_go (pv 1) (pm_ge (pm_op op_addW ((pm_op op_powW (pm_int).q (pm_int).q)).q (pm_int).q) pm_gno))) (pm_acons (pm_ix (ixr_W (K := K) rfl) ((pm_var (pv 2))).q ((pm_call G_l_draw gd (hr.mono (by first | decide | omega)) (by rfl) g_l_draw F_l_draw.kp b_l_draw (pm_go (pv 1) (pm_ge pm_int pm_gno)))).q (fun _ _ => rfl)) pm_anil)))))).lq ((pm_call G_l_draw gd (hr.mono (by first | decide | omega)) (by rfl) g_l_draw F_l_draw.kp b_l_draw (pm_go (pv 1) (pm_ge pm_int pm_gno)))).q (fun _ _ => rfl))).vd)
    (pm_seq (pm_asgX (xc := (xcL ad)) (i := 5) sc_law.nd rfl (.inl rfl) (pe_callXM G_l_made gd (hr.mono (by first | decide | omega)) (by rfl) g_l_made F_l_made.kp b_l_made takes_never (pm_ge (pm_var (pv 4)) pm_gno)))
    (pm_one1 (pm_if (pm_tnot (pm_tval (pm_call G_l_is_within gd (hr.mono (by first | decide | omega)) (by rfl) g_l_is_within F_l_is_within.kp b_l_is_within (pm_ge (pm_var (pv 4)) (pm_ge pm_int (pm_ge (pm_op op_powW (pm_int).q (pm_int).q) pm_gno)))))) (pm_one1 (pm_if (PW.pt (pm_wor (pm_tnot (pm_tval (pm_isiV kit_list L.in_Bound L.il_Bound_list (by rfl) m_isinstance (pv 5) (pe_bltn (v := .ty "list") (by rfl) m_list (by decide +kernel) rfl)))) (pm_wor1 (pm_tcmp (op_neW ⟨gd, hr.units, rfl, sm⟩) ((pm_var (pv 5))).q ((pm_lst (pm_acons pm_str (pm_acons (pm_callB (cr_reprW ⟨gd, hr.units, rfl, sm⟩) (by rfl) m_repr (by decide +kernel) (pm_qcons ((pm_var (pv 4))).q pm_qnil)) pm_anil)))).lq (by rfl))))) (pm_one1 (pm_ret pm_bl)) pm_skip)) (pm_one1 (pm_if (pm_tval (pm_isiV kit_list L.in_Bound L.il_Bound_list (by rfl) m_isinstance (pv 5) (pe_bltn (v := .ty "list") (by rfl) m_list (by decide +kernel) rfl))) (pm_one1 (pm_ret pm_bl)) (pm_seq (pm_asg (i := 6) sc_law.nd rfl (.inl rfl) (((pm_lst (pm_acons pm_int (pm_acons pm_bl (pm_acons pm_int (pm_acons pm_bl (pm_acons (pm_var (pv 4)) (pm_acons (pm_callB (cr_maxW ⟨gd, hr.units, rfl, sm⟩) (by rfl) m_max (by decide +kernel) (pm_qcons (pm_int).q (pm_qcons ((pm_op op_subW ((pm_var (pv 4))).q (pm_int).q)).q pm_qnil))) (pm_acons (pm_op op_addW ((pm_var (pv 4))).q (pm_int).q) (pm_acons (pm_call G_l_draw gd (hr.mono (by first | decide | omega)) (by rfl) g_l_draw F_l_draw.kp b_l_draw (pm_go (pv 1) (pm_ge (pm_op op_addW ((pm_op op_powW (pm_int).q (pm_int).q)).q (pm_int).q) pm_gno))) (pm_acons (pm_op op_powW (pm_int).q (pm_int).q) pm_anil))))))))))).lk).vd)
    (pm_one1 (pm_for (K := K) rfl PassesOwn.never rfl (pm_op op_addW ((pm_var (pv 6))).q ((pm_lst (pm_acons (pm_ix (ixr_W (K := K) rfl) ((pm_var (pv 2))).q ((pm_call G_l_draw gd (hr.mono (by first | decide | omega)) (by rfl) g_l_draw F_l_draw.kp b_l_draw (pm_go (pv 1) (pm_ge pm_int pm_gno)))).q (fun _ _ => rfl)) (pm_acons (pm_ix (ixr_W (K := K) rfl) ((pm_var (pv 2))).q ((pm_call G_l_draw gd (hr.mono (by first | decide | omega)) (by rfl) g_l_draw F_l_draw.kp b_l_draw (pm_go (pv 1) (pm_ge pm_int pm_gno)))).q (fun _ _ => rfl)) pm_anil)))).lq) (pg_name (i := 7) sc_law.nd rfl (.inl rfl)) gb_name
      (pm_seq (pm_asg (i := 8) sc_law.nd rfl (.inl rfl) (((pm_lst (pm_acons pm_str (pm_acons (pm_callB (cr_reprW ⟨gd, hr.units, rfl, sm⟩) (by rfl) m_repr (by decide +kernel) (pm_qcons ((pm_var (pv 7))).q pm_qnil)) pm_anil)))).lk).vd)
    (pm_seq (pm_if (pm_tval (pm_call G_l_is_within gd (hr.mono (by first | decide | omega)) (by rfl) g_l_is_within F_l_is_within.kp b_l_is_within (pm_ge (pm_var (pv 7)) (pm_ge pm_int (pm_ge (pm_op op_powW (pm_int).q (pm_int).q) pm_gno))))) (pm_one1 (pm_asg (i := 8) sc_law.nd rfl (.inl rfl) ((pm_ifE (pm_tcmp (op_leW ⟨gd, hr.units, rfl, sm⟩) ((pm_var (pv 7))).q ((pm_var (pv 4))).q (by rfl)) (pm_op op_subW ((pm_var (pv 4))).q ((pm_var (pv 7))).q) ((pm_lst (pm_acons pm_str (pm_acons (pm_callB (cr_reprW ⟨gd, hr.units, rfl, sm⟩) (by rfl) m_repr (by decide +kernel) (pm_qcons ((pm_var (pv 7))).q pm_qnil)) pm_anil)))).lk)).vd)) pm_skip)
    (pm_one1 (pm_if (PW.pt (pm_wor (pm_tcmp (op_neW ⟨gd, hr.units, rfl, sm⟩) ((pm_callB (cr_reprW ⟨gd, hr.units, rfl, sm⟩) (by rfl) m_repr (by decide +kernel) (pm_qcons ((pm_calm (xc := (xcL ad)) (pe_callXM G_l_room gd (hr.mono (by first | decide | omega)) (by rfl) g_l_room F_l_room.kp b_l_room takes_never (pm_gob (pv 5) (pm_ge (pm_var (pv 7)) pm_gno))))).q pm_qnil))).q ((pm_callB (cr_reprW ⟨gd, hr.units, rfl, sm⟩) (by rfl) m_repr (by decide +kernel) (pm_qcons ((pm_var (pv 8))).q pm_qnil))).q (by rfl)) (pm_wor1 (pm_tcmp (op_neW ⟨gd, hr.units, rfl, sm⟩) ((pm_callB (cr_reprW ⟨gd, hr.units, rfl, sm⟩) (by rfl) m_repr (by decide +kernel) (pm_qcons ((pe_fldM (pv 5) L.cl_Bound L.na_Bound_most)).q pm_qnil))).q ((pm_callB (cr_reprW ⟨gd, hr.units, rfl, sm⟩) (by rfl) m_repr (by decide +kernel) (pm_qcons ((pm_var (pv 4))).q pm_qnil))).q (by rfl))))) (pm_one1 (pm_ret pm_bl)) pm_skip))))))))))))))
    (pm_one1 (pm_ret pm_bl)))).weak fun D σ H h => tS_any (xw := xwS (xcL ad) noW) h)), law_run hs few (by decide) hm q⟩

end
end Wp.K46

namespace Wp
open PySem PySem.Spec PyProof.Rows L2 Evl
/-! ### models, reasoned with -/
section
variable {R : PyData → Prop}
theorem pow6 : powW (.int 10) (.int 6) R = R (.int 1000000) := propext ⟨fun h => h.2, fun h => ⟨by decide, h⟩⟩
theorem pow9 : powW (.int 10) (.int 9) R = R (.int 1000000000) := propext ⟨fun h => h.2, fun h => ⟨by decide, h⟩⟩
theorem pow7 : powW (.int 10) (.int 7) R = R (.int 10000000) := propext ⟨fun h => h.2, fun h => ⟨by decide, h⟩⟩
theorem pow15 : powW (.int 10) (.int 15) R = R (.int 1000000000000000) := propext ⟨fun h => h.2, fun h => ⟨by decide, h⟩⟩
theorem pow18 : powW (.int 10) (.int 18) R = R (.int 1000000000000000000) := propext ⟨fun h => h.2, fun h => ⟨by decide, h⟩⟩
theorem pow39 : powW (.int 10) (.int 39) R = R (.int 1000000000000000000000000000000000000000) := propext ⟨fun h => h.2, fun h => ⟨by decide, h⟩⟩
end
section
variable {R : PyData → Prop} {i j : Int} {x y : Str} {c c' : Bool} {xs ys ds : List PyData} {d e : PyData} {lo hi : Option Int} {Q : List PyData → Prop}
theorem addW_ii : addW (.int i) (.int j) R = R (.int (i + j)) := rfl
theorem addW_ib : addW (.int i) (.bool c) R = R (.int (i + b2z c)) := rfl
theorem addW_bi : addW (.bool c) (.int j) R = R (.int (b2z c + j)) := rfl
theorem addW_tt : addW (.tuple xs) (.tuple ys) R = (xs.length + ys.length ≤ 100000 ∧ R (.tuple (xs ++ ys))) := rfl
theorem addW_ll : addW (.list xs) (.list ys) R = (xs.length + ys.length ≤ 100000 ∧ R (.list (xs ++ ys))) := rfl
theorem subW_ii : subW (.int i) (.int j) R = R (.int (i - j)) := rfl
theorem subW_ib : subW (.int i) (.bool c) R = R (.int (i - b2z c)) := rfl
theorem subW_bi : subW (.bool c) (.int j) R = R (.int (b2z c - j)) := rfl
theorem mulW_ii : mulW (.int i) (.int j) R = (CMul i j ∧ R (.int (i * j))) := rfl
theorem fdivW_ii : fdivW (.int i) (.int j) R = ((0 < j ∧ j < 4611686018427387904) ∧ R (.int (i / j))) := rfl
theorem modW_ii : modW (.int i) (.int j) R = (0 < j ∧ R (.int (i % j))) := rfl
theorem negW_i : negW (.int i) R = R (.int (-i)) := rfl
theorem eqW_ii : eqW (.int i) (.int j) R = R (.bool (decide (i = j))) := rfl
theorem eqW_ss : eqW (.str x) (.str y) R = R (.bool (decide (x = y))) := rfl
theorem eqW_t0 : eqW (.tuple ds) (.tuple []) R = R (.bool ds.isEmpty) := rfl
theorem eqW_l0 : eqW (.list ds) (.list []) R = R (.bool ds.isEmpty) := rfl
theorem neW_ii : neW (.int i) (.int j) R = R (.bool (!decide (i = j))) := rfl
theorem neW_ss : neW (.str x) (.str y) R = R (.bool (!decide (x = y))) := rfl
theorem neW_t0 : neW (.tuple ds) (.tuple []) R = R (.bool (!ds.isEmpty)) := rfl
theorem neW_l0 : neW (.list ds) (.list []) R = R (.bool (!ds.isEmpty)) := rfl
theorem ltW_ii : ltW (.int i) (.int j) R = R (.bool (decide (i < j))) := rfl
theorem leW_ii : leW (.int i) (.int j) R = R (.bool (decide (i ≤ j))) := rfl
theorem gtW_ii : gtW (.int i) (.int j) R = R (.bool (decide (j < i))) := rfl
theorem geW_ii : geW (.int i) (.int j) R = R (.bool (decide (j ≤ i))) := rfl
theorem isW_n : isW d .none R = R (.bool (isNn d)) := rfl
theorem isntW_n : isntW d .none R = R (.bool (!isNn d)) := rfl
theorem ixW_l : ixW (.list xs) (.int i) R = ∃ z, L2.atI xs i = some z ∧ R z := rfl
theorem ixW_t : ixW (.tuple xs) (.int i) R = ∃ z, L2.atI xs i = some z ∧ R z := rfl
theorem lenW_l : lenW [.list xs] R = R (.int xs.length) := rfl
theorem lenW_t : lenW [.tuple xs] R = R (.int xs.length) := rfl
theorem absW_i : absW [.int i] R = R (.int (if i < 0 then -i else i)) := rfl
theorem intW_i : intW [.int i] R = R (.int i) := rfl
theorem intW_b : intW [.bool c] R = R (.int (if c then 1 else 0)) := rfl
theorem tupW_l : tupW [.list xs] R = R (.tuple xs) := rfl
theorem tupW_t : tupW [.tuple xs] R = R (.tuple xs) := rfl
theorem lstW_l : lstW [.list xs] Q = Q xs := rfl
theorem lstW_t : lstW [.tuple xs] Q = Q xs := rfl
theorem sumW_l : sumW [.list xs] R = ∃ ns : List Int, xs = ns.map PyData.int ∧ R (.int ns.sum) := rfl
theorem allW_l : allW [.list xs] R = ∃ bs : List Bool, xs = bs.map PyData.bool ∧ R (.bool (bs.all id)) := rfl
theorem anyW_l : anyW [.list xs] R = ∃ bs : List Bool, xs = bs.map PyData.bool ∧ R (.bool (bs.any id)) := rfl
theorem minW_2 : minW [.int i, .int j] R = R (.int (if j < i then j else i)) := rfl
theorem maxW_2 : maxW [.int i, .int j] R = R (.int (if j > i then j else i)) := rfl
theorem slW_t : slW (.tuple xs) lo hi R = R (.tuple (cutD xs lo hi)) := rfl
theorem slW_l : slW (.list xs) lo hi R = R (.list (cutD xs lo hi)) := rfl
theorem revW_t : revW (.tuple xs) R = R (.tuple xs.reverse) := rfl
theorem revW_l : revW (.list xs) R = R (.list xs.reverse) := rfl
theorem reprW_1 : reprW [d] R = ((d.showable = true ∧ d.shown.length ≤ 1000000 ∧ d.depth ≤ 50) ∧ R (.str d.shown)) := rfl
theorem strW_i : strW [.int i] R = (i.natAbs.log2 < 1920 ∧ R (.str (toString i))) := rfl
theorem strW_b : strW [.bool c] R = R (.str (if c then "True" else "False")) := rfl
theorem sortW_l : sortW [.list xs] Q = (okSrt xs ∧ Q (srt xs)) := rfl
theorem sortW_t : sortW [.tuple xs] Q = (okSrt xs ∧ Q (srt xs)) := rfl
end
theorem atI_of {α : Type} {l : List α} {r : Int} (h0 : 0 ≤ r) (h1 : r < l.length) : ∃ z, L2.atI l r = some z ∧ z ∈ l := by
  obtain ⟨j, rfl⟩ : ∃ j : Nat, r = j := ⟨r.toNat, by omega⟩
  have hj : j < l.length := by omega
  exact ⟨l[j], atI_nat (List.getElem?_eq_getElem hj), List.getElem_mem hj⟩
/-- [..][drawn], ints -/
theorem pick_int {l : List PyData} {r : Int} {Q : PyData → Prop} (is : List Int) (hl : l = is.map PyData.int) (h0 : 0 ≤ r) (h1 : r < is.length) (q : ∀ i ∈ is, Q (.int i)) : ∃ z, L2.atI l r = some z ∧ Q z := by
  obtain ⟨z, h2, h3⟩ := atI_of (l := l) h0 (by rw [hl, List.length_map]; exact h1)
  rw [hl] at h3
  obtain ⟨i, hi, rfl⟩ := List.mem_map.mp h3
  exact ⟨_, h2, q i hi⟩
theorem pick_any {l : List PyData} {r : Int} {Q : PyData → Prop} (h0 : 0 ≤ r) (h1 : r < l.length) (q : ∀ z ∈ l, Q z) : ∃ z, L2.atI l r = some z ∧ Q z := by
  obtain ⟨z, h2, h3⟩ := atI_of (l := l) h0 h1
  exact ⟨z, h2, q z h3⟩
/-! comprehensions -/
section
variable {t : WG1} {mt : WT} {ml : WE} {E : Env}
/-- each turn gives something of P and draws at most c times -/
theorem comp_each (P : PyData → Prop) (c : Nat) : ∀ (xs acc : List PyData) (b : Nat) (R : List PyData → Nat → Prop), (∀ x ∈ xs, ∀ b' Q, b' + c ≤ b + c * xs.length → (∀ y b2, P y → b2 ≤ b' + c → Q y b2) → t x E fun E1 => ml E1 b' Q) →
    acc.length + xs.length ≤ 100000 → (∀ ys b2, ys.length = xs.length → (∀ y ∈ ys, P y) → b2 ≤ b + c * xs.length → R (acc ++ ys) b2) → mComp t mYes ml E xs acc b R
  | [], acc, b, R, _, _, q => by
    have := q [] b rfl (fun _ h => nomatch h) (by simp)
    simpa [mComp] using this
  | x :: xs, acc, b, R, h, few, q => by
    simp only [mComp, mYes, if_true]
    refine h x (List.mem_cons_self ..) b _ (by simp only [List.length_cons, Nat.mul_add]; omega) fun y b2 py hb2 => ⟨by simp at few; omega, ?_⟩
    refine comp_each P c xs (acc ++ [y]) b2 R (fun x' hx' b' Q hb' k => h x' (List.mem_cons_of_mem _ hx') b' Q (by simp only [List.length_cons, Nat.mul_add]; omega) k) (by simp at few ⊢; omega) fun ys b3 hl hp hb3 => ?_
    have := q (y :: ys) b3 (by simp [hl]) (fun z hz => by
      rcases List.mem_cons.mp hz with rfl | hz
      · exact py
      · exact hp z hz) (by simp only [List.length_cons, Nat.mul_add]; omega)
    simpa using this
/-- no draw: what each turn gives is f x, where p x -/
theorem comp_if (f : PyData → PyData) (p : PyData → Bool) : ∀ (xs acc : List PyData) (b : Nat) (R : List PyData → Nat → Prop), (∀ x ∈ xs, ∀ C : Option PyData → Nat → Prop, C (if p x = true then some (f x) else none) b → t x E fun E1 => mt E1 b fun c b1 => if c = true then ml E1 b1 (fun y b2 => C (some y) b2) else C none b1) →
    acc.length + xs.length ≤ 100000 → R (acc ++ (xs.filter p).map f) b → mComp t mt ml E xs acc b R
  | [], acc, b, R, _, _, q => by simpa [mComp] using q
  | x :: xs, acc, b, R, h, few, q => by
    refine h x (List.mem_cons_self ..) (fun o b' => match o with | some y => acc.length < 100000 ∧ mComp t mt ml E xs (acc ++ [y]) b' R | none => mComp t mt ml E xs acc b' R) ?_
    simp at few
    cases hp : p x with
    | true =>
      refine ⟨by omega, comp_if f p xs (acc ++ [f x]) b R (fun y hy => h y (List.mem_cons_of_mem _ hy)) (by simp; omega) ?_⟩
      simpa [hp] using q
    | false => exact comp_if f p xs acc b R (fun y hy => h y (List.mem_cons_of_mem _ hy)) (by omega) (by simpa [hp] using q)
theorem comp_map (f : PyData → PyData) : ∀ (xs acc : List PyData) (b : Nat) (R : List PyData → Nat → Prop), (∀ x ∈ xs, ∀ Q : PyData → Nat → Prop, Q (f x) b → t x E fun E1 => ml E1 b Q) → acc.length + xs.length ≤ 100000 → R (acc ++ xs.map f) b → mComp t mYes ml E xs acc b R := fun xs acc b R h few q =>
  comp_if f (fun _ => true) xs acc b R (fun x hx C hc => h x hx (fun y b2 => C (some y) b2) (by simpa using hc)) few (by rw [List.filter_eq_self.mpr (fun _ _ => rfl)]; exact q)
end
def fstD : PyData → PyData
  | .tuple [p, _] => p
  | _ => .none
def sndD : PyData → PyData
  | .tuple [_, p] => p
  | _ => .none
/-! gardens -/
abbrev Bed := Int × Int
def bedD (b : Bed) : PyData := .tuple [.int b.1, .int b.2]
def bedsD (bs : List Bed) : PyData := .tuple (bs.map bedD)
def gardenD (t c : Int) (bs : List Bed) : PyData := .tuple [.int t, .int c, bedsD bs]
end Wp

namespace Wp
open PySem PySem.Spec PyProof.Rows L2 Evl
/-! ### one step of a model -/

theorem mV_e {i : Nat} {E : Env} {b : Nat} {R : PyData → Nat → Prop} : mV i E b R = (match E[i]? with
  | some (.d d) => R d b
  | _ => False) := propext Iff.rfl
theorem mC_e {d : PyData} {E : Env} {b : Nat} {R : PyData → Nat → Prop} : mC d E b R = (R d b) := propext Iff.rfl
theorem mO_e {i : Nat} {E : Env} {b : Nat} {R : PyData → Nat → Prop} : mO i E b R = (match E[i]? with
  | some (.l ds) => R (.list ds) b
  | some (.rl ds) => R (.list ds) b
  | _ => False) := propext Iff.rfl
theorem mOp_e {w : W2} {ma mb : WE} {E : Env} {b : Nat} {R : PyData → Nat → Prop} : mOp w ma mb E b R = (ma E b fun x b1 => mb E b1 fun y b2 => w x y fun z => R z b2) := propext Iff.rfl
theorem mUn_e {w : W1} {ma : WE} {E : Env} {b : Nat} {R : PyData → Nat → Prop} : mUn w ma E b R = (ma E b fun x b1 => w x fun z => R z b1) := propext Iff.rfl
theorem mT_e {m : WE} {E : Env} {b : Nat} {R : Bool → Nat → Prop} : mT m E b R = (m E b fun d b1 => match d with
  | .bool c => R c b1
  | _ => False) := propext Iff.rfl
theorem mNotT_e {m : WT} {E : Env} {b : Nat} {R : Bool → Nat → Prop} : mNotT m E b R = (m E b fun c b1 => R (!c) b1) := propext Iff.rfl
theorem mAndT_e {m n : WT} {E : Env} {b : Nat} {R : Bool → Nat → Prop} : mAndT m n E b R = (m E b fun c b1 => if c = true then n E b1 R else R false b1) := propext Iff.rfl
theorem mOrT_e {m n : WT} {E : Env} {b : Nat} {R : Bool → Nat → Prop} : mOrT m n E b R = (m E b fun c b1 => if c = true then R true b1 else n E b1 R) := propext Iff.rfl
theorem mAnd_e {m n : WE} {E : Env} {b : Nat} {R : PyData → Nat → Prop} : mAnd m n E b R = (m E b fun d b1 => match d with
  | .bool true => n E b1 R
  | .bool false => R (.bool false) b1
  | _ => False) := propext Iff.rfl
theorem mOr_e {m n : WE} {E : Env} {b : Nat} {R : PyData → Nat → Prop} : mOr m n E b R = (m E b fun d b1 => match d with
  | .bool true => R (.bool true) b1
  | .bool false => n E b1 R
  | _ => False) := propext Iff.rfl
theorem mNot_e {m : WE} {E : Env} {b : Nat} {R : PyData → Nat → Prop} : mNot m E b R = (m E b fun d b1 => match d with
  | .bool c => R (.bool (!c)) b1
  | _ => False) := propext Iff.rfl
theorem mIf_e {c : WT} {m n : WE} {E : Env} {b : Nat} {R : PyData → Nat → Prop} : mIf c m n E b R = (c E b fun c b1 => if c = true then m E b1 R else n E b1 R) := propext Iff.rfl
theorem mChain_e {w w' : W2} {ma mb mc : WE} {E : Env} {b : Nat} {R : PyData → Nat → Prop} : mChain w w' ma mb mc E b R = (ma E b fun x b1 => mb E b1 fun y b2 => w x y fun z => match z with
  | .bool true => mc E b2 fun u b3 => w' y u fun z => R z b3
  | .bool false => R (.bool false) b2
  | _ => False) := propext Iff.rfl
theorem mNil_e {E : Env} {b : Nat} {R : List PyData → Nat → Prop} : mNil E b R = (R [] b) := propext Iff.rfl
theorem mCons_e {m : WE} {ms : WL} {E : Env} {b : Nat} {R : List PyData → Nat → Prop} : mCons m ms E b R = (m E b fun d b1 => ms E b1 fun ds b2 => R (d :: ds) b2) := propext Iff.rfl
theorem mTup_e {ms : WL} {E : Env} {b : Nat} {R : PyData → Nat → Prop} : mTup ms E b R = (ms E b fun ds b1 => ds.length ≤ 100000 ∧ R (.tuple ds) b1) := propext Iff.rfl
theorem mLst_e {ms : WL} {E : Env} {b : Nat} {R : List PyData → Nat → Prop} : mLst ms E b R = (ms E b fun ds b1 => ds.length ≤ 100000 ∧ R ds b1) := propext Iff.rfl
theorem mLk_e {m : WL} {E : Env} {b : Nat} {R : PyData → Nat → Prop} : mLk m E b R = (m E b fun ds b1 => R (.list ds) b1) := propext Iff.rfl
theorem mCat_e {ma mb : WE} {E : Env} {b : Nat} {R : List PyData → Nat → Prop} : mCat ma mb E b R = (ma E b fun x b1 => mb E b1 fun y b2 => match x, y with
  | .list xs, .list ys => xs.length + ys.length ≤ 100000 ∧ R (xs ++ ys) b2
  | _, _ => False) := propext Iff.rfl
theorem mCB_e {w : WB} {ms : WL} {E : Env} {b : Nat} {R : PyData → Nat → Prop} : mCB w ms E b R = (ms E b fun ds b1 => w ds fun z => R z b1) := propext Iff.rfl
theorem mCL_e {w : WBL} {ms : WL} {E : Env} {b : Nat} {R : List PyData → Nat → Prop} : mCL w ms E b R = (ms E b fun ds b1 => w ds fun z => R z b1) := propext Iff.rfl
theorem vD_e {m : WE} {E : Env} {b : Nat} {R : Sl → Nat → Prop} : vD m E b R = (m E b fun d b1 => R (.d d) b1) := propext Iff.rfl
theorem vL_e {m : WL} {E : Env} {b : Nat} {R : Sl → Nat → Prop} : vL m E b R = (m E b fun ds b1 => R (.l ds) b1) := propext Iff.rfl
theorem vM0_e {E : Env} {b : Nat} {R : Sl → Nat → Prop} : vM0 E b R = (R (.m []) b) := propext Iff.rfl
theorem mSkip_e {E : Env} {b : Nat} {F : WEnds} : mSkip E b F = (F.nx E b) := propext Iff.rfl
theorem mSeq_e {m n : WS} {E : Env} {b : Nat} {F : WEnds} : mSeq m n E b F = (m E b { F with nx := fun E' b' => n E' b' F }) := propext Iff.rfl
theorem mAsg_e {i : Nat} {m : WV} {E : Env} {b : Nat} {F : WEnds} : mAsg i m E b F = (m E b fun s b1 => F.nx (E.set i s) b1) := propext Iff.rfl
theorem mRet_e {m : WE} {E : Env} {b : Nat} {F : WEnds} : mRet m E b F = (m E b F.rt) := propext Iff.rfl
theorem mIfS_e {c : WT} {m n : WS} {E : Env} {b : Nat} {F : WEnds} : mIfS c m n E b F = (c E b fun c b1 => if c = true then m E b1 F else n E b1 F) := propext Iff.rfl
theorem mDrop_e {m : WE} {E : Env} {b : Nat} {F : WEnds} : mDrop m E b F = (m E b fun _ b1 => F.nx E b1) := propext Iff.rfl
theorem vNil_e {E : Env} {b : Nat} {R : List Sl → Nat → Prop} : vNil E b R = (R [] b) := propext Iff.rfl
theorem vCons_e {m : WV} {ms : WVs} {E : Env} {b : Nat} {R : List Sl → Nat → Prop} : vCons m ms E b R = (m E b fun s b1 => ms E b1 fun ss b2 => R (s :: ss) b2) := propext Iff.rfl
theorem mPar_e {is : List Nat} {ms : WVs} {E : Env} {b : Nat} {F : WEnds} : mPar is ms E b F = (ms E b fun ss b1 => ss.length = is.length ∧ F.nx (enAll is ss E) b1) := propext Iff.rfl
theorem bName_e {i : Nat} {x : PyData} {E : Env} {R : Env → Prop} : bName i x E R = (R (E.set i (.d x))) := propext Iff.rfl
theorem bTup_e {n : Nat} {t : WGs} {x : PyData} {E : Env} {R : Env → Prop} : bTup n t x E R = (match x with
  | .tuple xs => xs.length = n ∧ t xs E R
  | _ => False) := propext Iff.rfl
theorem bNil_e {xs : List PyData} {E : Env} {R : Env → Prop} : bNil xs E R = (match xs with
  | [] => R E
  | _ => False) := propext Iff.rfl
theorem bCons_e {t : WG1} {u : WGs} {xs : List PyData} {E : Env} {R : Env → Prop} : bCons t u xs E R = (match xs with
  | x :: r => t x E fun E1 => u r E1 R
  | [] => False) := propext Iff.rfl
theorem mUnp_e {t : WG1} {m : WE} {E : Env} {b : Nat} {F : WEnds} : mUnp t m E b F = (m E b fun d b1 => t d E fun E1 => F.nx E1 b1) := propext Iff.rfl
theorem mFor_e {t : WG1} {me : WE} {m : WS} {E : Env} {b : Nat} {F : WEnds} : mFor t me m E b F = (me E b fun d b1 => match d with
  | .list xs => mTurns t m xs E b1 F
  | .tuple xs => mTurns t m xs E b1 F
  | _ => False) := propext Iff.rfl
theorem mForR_e {t : WG1} {ms : WL} {m : WS} {E : Env} {b : Nat} {F : WEnds} : mForR t ms m E b F = (ms E b fun ds b1 => match ds with
  | [.int j] => (-(2 ^ 62) ≤ j ∧ j < 2 ^ 62) ∧ mTurns t m (rngD 0 j.toNat) E b1 F
  | _ => False) := propext Iff.rfl
theorem mForR2_e {t : WG1} {ms : WL} {m : WS} {E : Env} {b : Nat} {F : WEnds} : mForR2 t ms m E b F = (ms E b fun ds b1 => match ds with
  | [.int i, .int j] => (-(2 ^ 62) ≤ i ∧ i < 2 ^ 62 ∧ -(2 ^ 62) ≤ j ∧ j < 2 ^ 62) ∧ mTurns t m (rngD i (j - i).toNat) E b1 F
  | _ => False) := propext Iff.rfl
theorem mApp_e {i : Nat} {m : WE} {E : Env} {b : Nat} {F : WEnds} : mApp i m E b F = (match E[i]? with
  | some (.l ds) => m E b fun d b1 => ds.length < 100000 ∧ F.nx (E.set i (.l (ds ++ [d]))) b1
  | _ => False) := propext Iff.rfl
theorem mYes_e {E : Env} {b : Nat} {R : Bool → Nat → Prop} : mYes E b R = (R true b) := propext Iff.rfl
theorem mLc_e {t : WG1} {me : WE} {mt : WT} {ml : WE} {vs : List Nat} {E : Env} {b : Nat} {R : List PyData → Nat → Prop} : mLc t me mt ml vs E b R = (me E b fun d b1 => match d with
  | .list xs => mComp t mt ml (wipeE E vs) xs [] b1 R
  | .tuple xs => mComp t mt ml (wipeE E vs) xs [] b1 R
  | _ => False) := propext Iff.rfl
theorem mLcR_e {t : WG1} {ms : WL} {mt : WT} {ml : WE} {vs : List Nat} {E : Env} {b : Nat} {R : List PyData → Nat → Prop} : mLcR t ms mt ml vs E b R = (ms E b fun ds b1 => match ds with
  | [.int j] => (-(2 ^ 62) ≤ j ∧ j < 2 ^ 62) ∧ mComp t mt ml (wipeE E vs) (rngD 0 j.toNat) [] b1 R
  | _ => False) := propext Iff.rfl
theorem mLcR2_e {t : WG1} {ms : WL} {mt : WT} {ml : WE} {vs : List Nat} {E : Env} {b : Nat} {R : List PyData → Nat → Prop} : mLcR2 t ms mt ml vs E b R = (ms E b fun ds b1 => match ds with
  | [.int i, .int j] => (-(2 ^ 62) ≤ i ∧ i < 2 ^ 62 ∧ -(2 ^ 62) ≤ j ∧ j < 2 ^ 62) ∧ mComp t mt ml (wipeE E vs) (rngD i (j - i).toNat) [] b1 R
  | _ => False) := propext Iff.rfl
theorem mLcZ_e {t : WG1} {ms : WL} {mt : WT} {ml : WE} {vs : List Nat} {E : Env} {b : Nat} {R : List PyData → Nat → Prop} : mLcZ t ms mt ml vs E b R = (ms E b fun ds b1 => match ds with
  | [.list xs, .list ys] => mComp t mt ml (wipeE E vs) (zipD xs ys) [] b1 R
  | _ => False) := propext Iff.rfl
theorem gNo_e {E : Env} {b : Nat} {R : List Sl → Nat → Prop} : gNo E b R = (R [] b) := propext Iff.rfl
theorem gE_e {m : WE} {ms : WG} {E : Env} {b : Nat} {R : List Sl → Nat → Prop} : gE m ms E b R = (m E b fun d b1 => ms E b1 fun ss b2 => R (.d d :: ss) b2) := propext Iff.rfl
theorem gO_e {i : Nat} {ms : WG} {E : Env} {b : Nat} {R : List Sl → Nat → Prop} : gO i ms E b R = (match E[i]? with
  | some (.l ds) => ms E b fun ss b2 => R (.rl ds :: ss) b2
  | some (.rl ds) => ms E b fun ss b2 => R (.rl ds :: ss) b2
  | some (.m ds) => ms E b fun ss b2 => R (.rm ds :: ss) b2
  | some (.rm ds) => ms E b fun ss b2 => R (.rm ds :: ss) b2
  | some (.s k) => ms E b fun ss b2 => R (.s k :: ss) b2
  | _ => False) := propext Iff.rfl
theorem mCall_e {mf : WF} {ms : WG} {E : Env} {b : Nat} {R : PyData → Nat → Prop} : mCall mf ms E b R = (ms E b fun ss b1 => mf ss b1 R) := propext Iff.rfl
theorem mFn_e {np n : Nat} {mb : WS} {as : List Sl} {b : Nat} {R : PyData → Nat → Prop} : mFn np n mb as b R = (as.length = np ∧ mb (as ++ List.replicate (n - np) .no) b { nx := fun _ b' => R .none b', rt := R }) := propext Iff.rfl
theorem mIsi_e {f : PyData → Bool} {m : WE} {E : Env} {b : Nat} {R : PyData → Nat → Prop} : mIsi f m E b R = (m E b fun d b1 => R (.bool (f d)) b1) := propext Iff.rfl
theorem mSS_e {m : WE} {E : Env} {b : Nat} {R : List PyData → Nat → Prop} : mSS m E b R = (m E b fun d b1 => match d with
  | .list xs => ∃ ns : List Int, xs = ns.map PyData.int ∧ ns.length < 64 ∧ R ((Cn.sortU ns).map PyData.int) b1
  | _ => False) := propext Iff.rfl
theorem mNo_e {E : Env} {b : Nat} {R : Option Int → Nat → Prop} : mNo E b R = (R none b) := propext Iff.rfl
theorem mPt_e {m : WE} {E : Env} {b : Nat} {R : Option Int → Nat → Prop} : mPt m E b R = (m E b fun d b1 => match d with
  | .int i => R (some i) b1
  | _ => False) := propext Iff.rfl
theorem mSl_e {m : WE} {lo hi : WO} {E : Env} {b : Nat} {R : PyData → Nat → Prop} : mSl m lo hi E b R = (m E b fun d b1 => lo E b1 fun l b2 => hi E b2 fun u b3 => slW d l u fun z => R z b3) := propext Iff.rfl
theorem mDG_e {i : Nat} {mk : WE} {E : Env} {b : Nat} {R : PyData → Nat → Prop} : mDG i mk E b R = (∃ s ds, E[i]? = some s ∧ asM s = some ds ∧ mk E b fun d b1 => ∃ k v, dKey d = some k ∧ lookD ds k = some v ∧ R v b1) := propext Iff.rfl
theorem mDGd_e {i : Nat} {mk mx : WE} {E : Env} {b : Nat} {R : PyData → Nat → Prop} : mDGd i mk mx E b R = (∃ s ds, E[i]? = some s ∧ asM s = some ds ∧ mk E b fun d b1 => mx E b1 fun x b2 => ∃ k, dKey d = some k ∧ R ((lookD ds k).getD x) b2) := propext Iff.rfl
theorem mDIn_e {i : Nat} {mk : WE} {E : Env} {b : Nat} {R : PyData → Nat → Prop} : mDIn i mk E b R = (∃ s ds, E[i]? = some s ∧ asM s = some ds ∧ mk E b fun d b1 => ∃ k, dKey d = some k ∧ R (.bool (lookD ds k).isSome) b1) := propext Iff.rfl
theorem mPut_e {i : Nat} {mk mv : WE} {E : Env} {b : Nat} {F : WEnds} : mPut i mk mv E b F = (∃ ds, E[i]? = some (.m ds) ∧ mv E b fun v b1 => mk E b1 fun d b2 => ∃ k, dKey d = some k ∧ ds.length < 100000 ∧ F.nx (E.set i (.m (putD ds k v))) b2) := propext Iff.rfl
theorem mSD_e {i : Nat} {E : Env} {b : Nat} {R : List PyData → Nat → Prop} : mSD i E b R = (∃ s ds, E[i]? = some s ∧ asM s = some ds ∧ ∃ ks : List Int, ds.map (·.1) = ks.map Sum.inl ∧ ks.length < 64 ∧ ∀ ys : List Int, ys.Perm ks → ys.Pairwise (· ≤ ·) → R (ys.map PyData.int) b) := propext Iff.rfl
theorem mRetO_e {i : Nat} {E : Env} {b : Nat} {F : WEnds} : mRetO i E b F = (match E[i]? with
  | some (.l ds) => F.rt (.list ds) b
  | _ => False) := propext Iff.rfl
theorem vDof_e {m : WE} {E : Env} {b : Nat} {R : Sl → Nat → Prop} : vDof m E b R = (m E b fun d b1 => match d with
  | .tuple ds => ∃ kvs : List (Key × PyData), ds.map pairK = kvs.map some ∧ R (.m (mergeD [] kvs)) b1
  | _ => False) := propext Iff.rfl
theorem mForZ_e {t : WG1} {ms : WL} {m : WS} {E : Env} {b : Nat} {F : WEnds} : mForZ t ms m E b F = (ms E b fun ds b1 => match ds with
  | [.list xs, .list ys] => mTurns t m (zipD xs ys) E b1 F
  | _ => False) := propext Iff.rfl
theorem mNG_e {i : Nat} {mk : WE} {E : Env} {b : Nat} {R : PyData → Nat → Prop} : mNG i mk E b R = (∃ s ds, E[i]? = some s ∧ asN s = some ds ∧ mk E b fun d b1 => ∃ ks v, d = (NestedKey.tup ks).data ∧ kOk (.tup ks) ∧ lookN ds (.tup ks) = some v ∧ R v b1) := propext Iff.rfl
theorem mNGd_e {i : Nat} {mk mx : WE} {E : Env} {b : Nat} {R : PyData → Nat → Prop} : mNGd i mk mx E b R = (∃ s ds, E[i]? = some s ∧ asN s = some ds ∧ mk E b fun d b1 => mx E b1 fun x b2 => ∃ ks, d = (NestedKey.tup ks).data ∧ kOk (.tup ks) ∧ R ((lookN ds (.tup ks)).getD x) b2) := propext Iff.rfl
theorem mNPut_e {i : Nat} {mk mv : WE} {E : Env} {b : Nat} {F : WEnds} : mNPut i mk mv E b F = (∃ ds, E[i]? = some (.n ds) ∧ mv E b fun v b1 => mk E b1 fun d b2 => ∃ ks, d = (NestedKey.tup ks).data ∧ kOk (.tup ks) ∧ ds.length < 100000 ∧ F.nx (E.set i (.n (putN ds (.tup ks) v))) b2) := propext Iff.rfl
theorem vN0_e {E : Env} {b : Nat} {R : Sl → Nat → Prop} : vN0 E b R = (R (.n []) b) := propext Iff.rfl
theorem mLcN_e {t : WG1} {i : Nat} {mt : WT} {ml : WE} {vs : List Nat} {E : Env} {b : Nat} {R : List PyData → Nat → Prop} : mLcN t i mt ml vs E b R = (∃ s ds, E[i]? = some s ∧ asN s = some ds ∧ mComp t mt ml (wipeE E vs) (ds.map fun p => p.1.data) [] b R) := propext Iff.rfl
theorem mDGL_e {i : Nat} {mk : WE} {E : Env} {b : Nat} {R : PyData → Nat → Prop} : mDGL i mk E b R = (∃ ds, E[i]? = some (.d (dicD ds)) ∧ mk E b fun d b1 => ∃ k v, dKey d = some k ∧ lookD ds k = some v ∧ R v b1) := propext Iff.rfl
theorem mForD_e {t : WG1} {i : Nat} {m : WS} {E : Env} {b : Nat} {F : WEnds} : mForD t i m E b F = (∃ ds, E[i]? = some (.m ds) ∧ mTurns t m (ds.map fun p => keyD p.1) (E.set i (.d (dicD ds))) b F) := propext Iff.rfl
theorem mLc2_e {t : WG1} {me : WE} {mt : WT} {t1 : WG1} {me1 : WE} {mt1 : WT} {ml : WE} {vs vs1 : List Nat} {E : Env} {b : Nat} {R : List PyData → Nat → Prop} : mLc2 t me mt t1 me1 mt1 ml vs vs1 E b R = (me E b fun d b1 => ∃ xs, itemsOf d = some xs ∧ mComp2 t mt me1 t1 mt1 ml vs1 (wipeE E vs) xs [] b1 R) := propext Iff.rfl
theorem mForZT_e {t : WG1} {ms : WL} {m : WS} {E : Env} {b : Nat} {F : WEnds} : mForZT t ms m E b F = (ms E b fun ds b1 => match ds with
  | [.tuple xs, .tuple ys] => mTurns t m (zipD xs ys) E b1 F
  | _ => False) := propext Iff.rfl
theorem mRep_e {ml : WL} {mk : WE} {E : Env} {b : Nat} {R : List PyData → Nat → Prop} : mRep ml mk E b R = (ml E b fun xs b1 => mk E b1 fun d b2 => match d with
  | .int k => (-(2 ^ 62) ≤ k ∧ k < 2 ^ 62 ∧ xs.length * k.toNat ≤ 100000) ∧ R (List.replicate k.toNat xs).flatten b2
  | _ => False) := propext Iff.rfl
theorem mExt_e {i : Nat} {m : WL} {E : Env} {b : Nat} {F : WEnds} : mExt i m E b F = (∃ ds, E[i]? = some (.l ds) ∧ m E b fun es b1 => ds.length + es.length ≤ 100000 ∧ F.nx (E.set i (.l (ds ++ es))) b1) := propext Iff.rfl
theorem bUnl_e {n : Nat} {t : WGs} {x : PyData} {E : Env} {R : Env → Prop} : bUnl n t x E R = (match x with
  | .list xs => xs.length = n ∧ t xs E R
  | _ => False) := propext Iff.rfl
theorem mLcR3_e {t : WG1} {ms : WL} {mt : WT} {ml : WE} {vs : List Nat} {E : Env} {b : Nat} {R : List PyData → Nat → Prop} : mLcR3 t ms mt ml vs E b R = (ms E b fun ds b1 => match ds with
  | [.int i, .int j, .int c] => ∃ n, RgC i j c n ∧ mComp t mt ml (wipeE E vs) (rngC i c n) [] b1 R
  | _ => False) := propext Iff.rfl
theorem mIfT_e {mc mta mtb : WT} {E : Env} {b : Nat} {R : Bool → Nat → Prop} : mIfT mc mta mtb E b R = (mc E b fun c b1 => if c = true then mta E b1 R else mtb E b1 R) := propext Iff.rfl
theorem mLZ_e {ms : WL} {E : Env} {b : Nat} {R : List PyData → Nat → Prop} : mLZ ms E b R = (ms E b fun ds b1 => match ds with
  | [.tuple xs, .tuple ys] => xs.length = ys.length ∧ R (zipD xs ys) b1
  | _ => False) := propext Iff.rfl
end Wp

/-! one step of a model, with errors and objects -/
namespace Wp
open PySem PySem.Spec PyProof.Rows L2 Evl
section
variable {E : Env} {b : Nat} {F : WEnds} {R : PyData → Nat → Prop} {Rs : Sl → Nat → Prop} {Z : Nat → Sl → Nat → Prop} {Rg : List Sl → Nat → Prop}
theorem mTry_e {xc : XC} {n i : Nat} {cap : Nat → Bool} {mb : WS} {ms : Addr → Addr → Nat → WS} : mTry xc n i cap mb ms E b F = mb E b { F with xx := fun c s E1 b1 => match c with
  | 0 => F.xx 0 s E1 b1
  | c + 1 => c < n ∧ if cap c = true then ∃ d, s = .d d ∧ ∀ a dd, ms a dd c (E1.set i (.x a dd (xc c).2 d c)) b1 { nx := fun E2 b2 => F.nx (E2.set i .no) b2, rt := F.rt, bk := fun E2 b2 => F.bk (E2.set i .no) b2, ct := fun E2 b2 => F.ct (E2.set i .no) b2 } else F.xx (c + 1) s E1 b1 } := propext Iff.rfl
theorem mRaise_e {c : Nat} {m : WE} : mRaise c m E b F = m E b fun d b1 => F.xx (c + 1) (.d d) E b1 := propext Iff.rfl
theorem mAsgX_e {i : Nat} {m : WEX} : mAsgX i m E b F = m E b (fun s b1 => isVal s = true ∧ F.nx (E.set i s) b1) fun c s b1 => F.xx c s E b1 := propext Iff.rfl
theorem mRetX_e {m : WEX} : mRetX m E b F = m E b (fun s b1 => match s with
  | .d d => F.rt d b1
  | s => F.xx 0 s E b1) fun c s b1 => F.xx c s E b1 := propext Iff.rfl
theorem nz_e {m : WEX} : nz m E b Rs Z = m E b Rs fun c s b' => c ≠ 0 ∧ Z c s b' := propext Iff.rfl
theorem mCallX_e {mf : WFX} {gs : WG} : mCallX mf gs E b Rs Z = gs E b fun as b1 => mf as b1 (fun d b2 => Rs (.d d) b2) fun c s b2 => if c = 0 then Rs s b2 else Z c s b2 := propext Iff.rfl
theorem mMk_e {C : Addr} {mf : WFI} {gs : WG} : mMk C mf gs E b Rs Z = gs E b fun as b1 => mf as b1 (fun fs b2 => Rs (.o C fs) b2) fun c s b2 => c ≠ 0 ∧ Z c s b2 := propext Iff.rfl
theorem mMethX_e {i : Nat} {C : Addr} {m : Str} {mf : WFX} {gs : WG} : mMethX i C m mf gs E b Rs Z = ∃ fs, E[i]? = some (.o C fs) ∧ fs.lookup m = none ∧ gs E b fun as b1 => mf (.o C fs :: as) b1 (fun d b2 => Rs (.d d) b2) fun c s b2 => if c = 0 then Rs s b2 else Z c s b2 := propext Iff.rfl
theorem mFld_e {i : Nat} {C : Addr} {f : Str} : mFld i C f E b R = ∃ fs d, E[i]? = some (.o C fs) ∧ fs.lookup f = some d ∧ R d b := propext Iff.rfl
theorem gOb_e {i : Nat} {ms : WG} : gOb i ms E b Rg = ∃ C fs, E[i]? = some (.o C fs) ∧ ms E b fun ss b2 => Rg (.o C fs :: ss) b2 := propext Iff.rfl
theorem mFnX_e {n k : Nat} {m : WS} {as : List Sl} : mFnX n k m as b R Z = (as.length = n ∧ m (as ++ List.replicate (k - n) .no) b { nx := fun _ b' => R .none b', rt := R, xx := fun c d _ b' => Z c d b' }) := propext Iff.rfl
theorem mInit1_e {n k : Nat} {f : Str} {m : WS} {me : WE} {as : List Sl} {Rf : List (Str × PyData) → Nat → Prop} : mInit1 n k f m me as b Rf Z = (as.length + 1 = n ∧ ∀ a, m (.r a :: as ++ List.replicate (k - n) .no) b { nx := fun E1 b1 => E1[0]? = some (.r a) ∧ me E1 b1 fun d b2 => Rf [(f, d)] b2, rt := fun _ _ => False, xx := fun c s _ b' => c ≠ 0 ∧ Z c s b' }) := propext Iff.rfl
theorem mCalm_e {m : WEX} : mCalm m E b R = m E b (fun s b1 => ∃ d, s = .d d ∧ R d b1) fun _ _ _ => False := propext Iff.rfl
theorem mIsiV_e {i : Nat} {C : Addr} {f : PyData → Bool} : mIsiV i C f E b R = match E[i]? with
  | some (.d d) => R (.bool (f d)) b
  | some (.o C' _) => C' = C ∧ R (.bool false) b
  | _ => False := propext Iff.rfl
theorem mXf_e {i : Nat} {a dd : Addr} {f : Str} {c : Nat} : mXf i a dd f c E b R = ∃ d, E[i]? = some (.x a dd f d c) ∧ R d b := propext Iff.rfl
theorem mXis_e {i : Nat} {a dd : Addr} {c : Nat} {r : Bool} : mXis i a dd c r E b R = ((∃ f d, E[i]? = some (.x a dd f d c)) ∧ R (.bool r) b) := propext Iff.rfl
theorem mCnt_e {ml m : WE} : mCnt ml m E b R = ml E b fun l b1 => ∃ ds, l = .list ds ∧ m E b1 fun d b2 => (PyData.plainAll ds = true ∧ d.plain = true ∧ d.depth ≤ 50) ∧ R (.int ((ds.countP fun y => PyData.eqv y d : Nat) : Int)) b2 := propext Iff.rfl
theorem eqI_ii {i j : Int} {Q : PyData → Prop} : eqI (.int i) (.int j) Q = Q (.bool (decide (i = j))) := propext ⟨fun ⟨_, _, h1, h2, h⟩ => by cases h1; cases h2; exact h, fun h => ⟨i, j, rfl, rfl, h⟩⟩
end
/-- a loop by what holds before each turn -/
theorem turns_ind {t : WG1} {m : WS} {F : WEnds} (I : List PyData → Env → Nat → Prop)
    (step : ∀ x xs E b F', I (x :: xs) E b → (∀ E b, I xs E b → F'.nx E b) → (∀ E b, I xs E b → F'.ct E b) → F'.bk = F.nx → F'.rt = F.rt → F'.xx = F.xx → t x E fun E1 => m E1 b F')
    (fin : ∀ E b, I [] E b → F.nx E b) : ∀ xs E b, I xs E b → mTurns t m xs E b F
  | [], E, b, h => fin E b h
  | x :: xs, E, b, h => step x xs E b _ h (fun E b h' => turns_ind I step fin xs E b h') (fun E b h' => turns_ind I step fin xs E b h') rfl rfl rfl
abbrev okShow (d : PyData) : Prop := d.showable = true ∧ d.shown.length ≤ 1000000 ∧ d.depth ≤ 50
end Wp

namespace Wp.K46
open PySem PySem.Spec PyProof.Rows L2 Evl Wp
def inL : PyData → Bool
  | .int i => decide (0 ≤ i) && decide (i ≤ 1000000000000000000)
  | _ => false
theorem nw_ok {d : PyData} {b : Nat} {R : PyData → Nat → Prop} (h : R (.bool (inL d)) b) : M_is_number_within [.d d, .d (.int 0), .d (.int 1000000000000000000)] b R := by
  cases d <;> simp only [M_is_number_within, B_is_number_within, S_is_number_within_1, M_is_number, B_is_number, S_is_number_1, mV_e, mC_e, mO_e, mOp_e, mUn_e, mT_e, mNotT_e, mAndT_e, mOrT_e, mAnd_e, mOr_e, mNot_e, mIf_e, mChain_e, mNil_e, mCons_e, mTup_e, mLst_e, mLk_e, mCat_e, mCB_e, mCL_e, vD_e, vL_e, vM0_e, mSkip_e, mSeq_e, mAsg_e, mRet_e, mIfS_e, mDrop_e, vNil_e, vCons_e, mPar_e, bName_e, bTup_e, bNil_e, bCons_e, mUnp_e, mFor_e, mForR_e, mForR2_e, mApp_e, mYes_e, mLc_e, mLcR_e, mLcR2_e, mLcZ_e, gNo_e, gE_e, gO_e, mCall_e, mFn_e, mIsi_e, mSS_e, mNo_e, mPt_e, mSl_e, mDG_e, mDGd_e, mDIn_e, mPut_e, mSD_e, mRetO_e, vDof_e, mForZ_e, mNG_e, mNGd_e, mNPut_e, vN0_e, mLcN_e, mDGL_e, mForD_e, asN, mLc2_e, mForZT_e, mRep_e, mIfT_e, mExt_e, bUnl_e, mLcR3_e, mLZ_e, wipeE, pow6, pow7, pow9, pow15, pow18, pow39, asM, List.replicate, List.cons_append, List.nil_append, List.getElem?_cons_zero, List.getElem?_cons_succ, enAll, List.set_cons_zero, List.set_cons_succ, Nat.reduceSub, List.length_cons, List.length_nil, decide_eq_true_eq, Nat.reduceAdd, Nat.reduceLeDiff, true_and, Bool.not_true, Bool.not_false, if_true, if_false, Bool.false_eq_true, Bool.not_eq_true', decide_eq_false_iff_not, Int.reduceLE, Int.reduceLT, Int.reduceNeg, Int.reduceSub, Int.reduceAdd, and_true, PyData.int.injEq, Nat.zero_add, Int.zero_add, Int.sub_zero, addW_ii, addW_ib, addW_bi, addW_tt, addW_ll, subW_ii, subW_ib, subW_bi, mulW_ii, fdivW_ii, modW_ii, negW_i, eqW_ii, eqW_ss, eqW_t0, eqW_l0, neW_ii, neW_ss, neW_t0, neW_l0, ltW_ii, leW_ii, gtW_ii, geW_ii, isW_n, isntW_n, ixW_l, ixW_t, lenW_l, lenW_t, absW_i, intW_i, intW_b, tupW_l, tupW_t, lstW_l, lstW_t, sumW_l, allW_l, anyW_l, minW_2, maxW_2, slW_t, slW_l, revW_t, revW_l, reprW_1, strW_i, strW_b, sortW_l, sortW_t, Option.some.injEq, exists_eq_left', exists_eq_left, dKey, exists_and_left, exists_const, mTry_e, mRaise_e, mAsgX_e, mRetX_e, nz_e, mCallX_e, mMk_e, mMethX_e, mFld_e, gOb_e, mFnX_e, mInit1_e, mCalm_e, mIsiV_e, mXf_e, mXis_e, mCnt_e, eqI_ii, isVal, List.getD_cons_zero, List.getD_cons_succ, xcL, ne_eq, Nat.reduceEqDiff, Nat.add_eq_zero_iff, Nat.reduceLT, and_false, not_false_eq_true, Sl.d.injEq, Sl.o.injEq, Sl.x.injEq, exists_eq', exists_eq, exists_and_right, exists_const, and_self, isI, isB, inL] at h ⊢ <;> try exact h
  rename_i i
  by_cases h0 : 0 ≤ i
  · rw [decide_eq_true h0] at h ⊢
    exact h
  · rw [decide_eq_false h0] at h ⊢
    exact h
theorem lw_ok {d : PyData} {b : Nat} {R : PyData → Nat → Prop} (h : R (.bool (inL d)) b) : M_l_is_within [.d d, .d (.int 0), .d (.int 1000000000000000000)] b R := by
  cases d <;> simp only [M_l_is_within, B_l_is_within, S_l_is_within_1, mV_e, mC_e, mO_e, mOp_e, mUn_e, mT_e, mNotT_e, mAndT_e, mOrT_e, mAnd_e, mOr_e, mNot_e, mIf_e, mChain_e, mNil_e, mCons_e, mTup_e, mLst_e, mLk_e, mCat_e, mCB_e, mCL_e, vD_e, vL_e, vM0_e, mSkip_e, mSeq_e, mAsg_e, mRet_e, mIfS_e, mDrop_e, vNil_e, vCons_e, mPar_e, bName_e, bTup_e, bNil_e, bCons_e, mUnp_e, mFor_e, mForR_e, mForR2_e, mApp_e, mYes_e, mLc_e, mLcR_e, mLcR2_e, mLcZ_e, gNo_e, gE_e, gO_e, mCall_e, mFn_e, mIsi_e, mSS_e, mNo_e, mPt_e, mSl_e, mDG_e, mDGd_e, mDIn_e, mPut_e, mSD_e, mRetO_e, vDof_e, mForZ_e, mNG_e, mNGd_e, mNPut_e, vN0_e, mLcN_e, mDGL_e, mForD_e, asN, mLc2_e, mForZT_e, mRep_e, mIfT_e, mExt_e, bUnl_e, mLcR3_e, mLZ_e, wipeE, pow6, pow7, pow9, pow15, pow18, pow39, asM, List.replicate, List.cons_append, List.nil_append, List.getElem?_cons_zero, List.getElem?_cons_succ, enAll, List.set_cons_zero, List.set_cons_succ, Nat.reduceSub, List.length_cons, List.length_nil, decide_eq_true_eq, Nat.reduceAdd, Nat.reduceLeDiff, true_and, Bool.not_true, Bool.not_false, if_true, if_false, Bool.false_eq_true, Bool.not_eq_true', decide_eq_false_iff_not, Int.reduceLE, Int.reduceLT, Int.reduceNeg, Int.reduceSub, Int.reduceAdd, and_true, PyData.int.injEq, Nat.zero_add, Int.zero_add, Int.sub_zero, addW_ii, addW_ib, addW_bi, addW_tt, addW_ll, subW_ii, subW_ib, subW_bi, mulW_ii, fdivW_ii, modW_ii, negW_i, eqW_ii, eqW_ss, eqW_t0, eqW_l0, neW_ii, neW_ss, neW_t0, neW_l0, ltW_ii, leW_ii, gtW_ii, geW_ii, isW_n, isntW_n, ixW_l, ixW_t, lenW_l, lenW_t, absW_i, intW_i, intW_b, tupW_l, tupW_t, lstW_l, lstW_t, sumW_l, allW_l, anyW_l, minW_2, maxW_2, slW_t, slW_l, revW_t, revW_l, reprW_1, strW_i, strW_b, sortW_l, sortW_t, Option.some.injEq, exists_eq_left', exists_eq_left, dKey, exists_and_left, exists_const, mTry_e, mRaise_e, mAsgX_e, mRetX_e, nz_e, mCallX_e, mMk_e, mMethX_e, mFld_e, gOb_e, mFnX_e, mInit1_e, mCalm_e, mIsiV_e, mXf_e, mXis_e, mCnt_e, eqI_ii, isVal, List.getD_cons_zero, List.getD_cons_succ, xcL, ne_eq, Nat.reduceEqDiff, Nat.add_eq_zero_iff, Nat.reduceLT, and_false, not_false_eq_true, Sl.d.injEq, Sl.o.injEq, Sl.x.injEq, exists_eq', exists_eq, exists_and_right, exists_const, and_self, isI, isB, inL] at h ⊢ <;> try exact h
  rename_i i
  by_cases h0 : 0 ≤ i
  · rw [decide_eq_true h0] at h ⊢
    exact h
  · rw [decide_eq_false h0] at h ⊢
    exact h
variable {ad : Nat → Addr}
theorem made_ok {d : PyData} {b : Nat} {R : PyData → Nat → Prop} {Z : Nat → Sl → Nat → Prop} (hd : okShow d) (h1 : inL d = true → Z 0 (.o (ad 5) [("most", d)]) b) (h0 : inL d = false → R (.list [.str "number", .str d.shown]) b) : M_l_made ad [.d d] b R Z := by
  simp only [M_l_made, B_l_made, S_l_made_7, S_l_made_2, M_Bound_init, S_Bound_init_2, S_Bound_init_1, mV_e, mC_e, mO_e, mOp_e, mUn_e, mT_e, mNotT_e, mAndT_e, mOrT_e, mAnd_e, mOr_e, mNot_e, mIf_e, mChain_e, mNil_e, mCons_e, mTup_e, mLst_e, mLk_e, mCat_e, mCB_e, mCL_e, vD_e, vL_e, vM0_e, mSkip_e, mSeq_e, mAsg_e, mRet_e, mIfS_e, mDrop_e, vNil_e, vCons_e, mPar_e, bName_e, bTup_e, bNil_e, bCons_e, mUnp_e, mFor_e, mForR_e, mForR2_e, mApp_e, mYes_e, mLc_e, mLcR_e, mLcR2_e, mLcZ_e, gNo_e, gE_e, gO_e, mCall_e, mFn_e, mIsi_e, mSS_e, mNo_e, mPt_e, mSl_e, mDG_e, mDGd_e, mDIn_e, mPut_e, mSD_e, mRetO_e, vDof_e, mForZ_e, mNG_e, mNGd_e, mNPut_e, vN0_e, mLcN_e, mDGL_e, mForD_e, asN, mLc2_e, mForZT_e, mRep_e, mIfT_e, mExt_e, bUnl_e, mLcR3_e, mLZ_e, wipeE, pow6, pow7, pow9, pow15, pow18, pow39, asM, List.replicate, List.cons_append, List.nil_append, List.getElem?_cons_zero, List.getElem?_cons_succ, enAll, List.set_cons_zero, List.set_cons_succ, Nat.reduceSub, List.length_cons, List.length_nil, decide_eq_true_eq, Nat.reduceAdd, Nat.reduceLeDiff, true_and, Bool.not_true, Bool.not_false, if_true, if_false, Bool.false_eq_true, Bool.not_eq_true', decide_eq_false_iff_not, Int.reduceLE, Int.reduceLT, Int.reduceNeg, Int.reduceSub, Int.reduceAdd, and_true, PyData.int.injEq, Nat.zero_add, Int.zero_add, Int.sub_zero, addW_ii, addW_ib, addW_bi, addW_tt, addW_ll, subW_ii, subW_ib, subW_bi, mulW_ii, fdivW_ii, modW_ii, negW_i, eqW_ii, eqW_ss, eqW_t0, eqW_l0, neW_ii, neW_ss, neW_t0, neW_l0, ltW_ii, leW_ii, gtW_ii, geW_ii, isW_n, isntW_n, ixW_l, ixW_t, lenW_l, lenW_t, absW_i, intW_i, intW_b, tupW_l, tupW_t, lstW_l, lstW_t, sumW_l, allW_l, anyW_l, minW_2, maxW_2, slW_t, slW_l, revW_t, revW_l, reprW_1, strW_i, strW_b, sortW_l, sortW_t, Option.some.injEq, exists_eq_left', exists_eq_left, dKey, exists_and_left, exists_const, mTry_e, mRaise_e, mAsgX_e, mRetX_e, nz_e, mCallX_e, mMk_e, mMethX_e, mFld_e, gOb_e, mFnX_e, mInit1_e, mCalm_e, mIsiV_e, mXf_e, mXis_e, mCnt_e, eqI_ii, isVal, List.getD_cons_zero, List.getD_cons_succ, xcL, ne_eq, Nat.reduceEqDiff, Nat.add_eq_zero_iff, Nat.reduceLT, and_false, not_false_eq_true, Sl.d.injEq, Sl.o.injEq, Sl.x.injEq, exists_eq', exists_eq, exists_and_right, exists_const, and_self]
  intro a
  refine nw_ok ?_
  cases hi : inL d with
  | true =>
    simp only [mV_e, mC_e, mO_e, mOp_e, mUn_e, mT_e, mNotT_e, mAndT_e, mOrT_e, mAnd_e, mOr_e, mNot_e, mIf_e, mChain_e, mNil_e, mCons_e, mTup_e, mLst_e, mLk_e, mCat_e, mCB_e, mCL_e, vD_e, vL_e, vM0_e, mSkip_e, mSeq_e, mAsg_e, mRet_e, mIfS_e, mDrop_e, vNil_e, vCons_e, mPar_e, bName_e, bTup_e, bNil_e, bCons_e, mUnp_e, mFor_e, mForR_e, mForR2_e, mApp_e, mYes_e, mLc_e, mLcR_e, mLcR2_e, mLcZ_e, gNo_e, gE_e, gO_e, mCall_e, mFn_e, mIsi_e, mSS_e, mNo_e, mPt_e, mSl_e, mDG_e, mDGd_e, mDIn_e, mPut_e, mSD_e, mRetO_e, vDof_e, mForZ_e, mNG_e, mNGd_e, mNPut_e, vN0_e, mLcN_e, mDGL_e, mForD_e, asN, mLc2_e, mForZT_e, mRep_e, mIfT_e, mExt_e, bUnl_e, mLcR3_e, mLZ_e, wipeE, pow6, pow7, pow9, pow15, pow18, pow39, asM, List.replicate, List.cons_append, List.nil_append, List.getElem?_cons_zero, List.getElem?_cons_succ, enAll, List.set_cons_zero, List.set_cons_succ, Nat.reduceSub, List.length_cons, List.length_nil, decide_eq_true_eq, Nat.reduceAdd, Nat.reduceLeDiff, true_and, Bool.not_true, Bool.not_false, if_true, if_false, Bool.false_eq_true, Bool.not_eq_true', decide_eq_false_iff_not, Int.reduceLE, Int.reduceLT, Int.reduceNeg, Int.reduceSub, Int.reduceAdd, and_true, PyData.int.injEq, Nat.zero_add, Int.zero_add, Int.sub_zero, addW_ii, addW_ib, addW_bi, addW_tt, addW_ll, subW_ii, subW_ib, subW_bi, mulW_ii, fdivW_ii, modW_ii, negW_i, eqW_ii, eqW_ss, eqW_t0, eqW_l0, neW_ii, neW_ss, neW_t0, neW_l0, ltW_ii, leW_ii, gtW_ii, geW_ii, isW_n, isntW_n, ixW_l, ixW_t, lenW_l, lenW_t, absW_i, intW_i, intW_b, tupW_l, tupW_t, lstW_l, lstW_t, sumW_l, allW_l, anyW_l, minW_2, maxW_2, slW_t, slW_l, revW_t, revW_l, reprW_1, strW_i, strW_b, sortW_l, sortW_t, Option.some.injEq, exists_eq_left', exists_eq_left, dKey, exists_and_left, exists_const, mTry_e, mRaise_e, mAsgX_e, mRetX_e, nz_e, mCallX_e, mMk_e, mMethX_e, mFld_e, gOb_e, mFnX_e, mInit1_e, mCalm_e, mIsiV_e, mXf_e, mXis_e, mCnt_e, eqI_ii, isVal, List.getD_cons_zero, List.getD_cons_succ, xcL, ne_eq, Nat.reduceEqDiff, Nat.add_eq_zero_iff, Nat.reduceLT, and_false, not_false_eq_true, Sl.d.injEq, Sl.o.injEq, Sl.x.injEq, exists_eq', exists_eq, exists_and_right, exists_const, and_self]
    exact h1 hi
  | false =>
    simp only [mV_e, mC_e, mO_e, mOp_e, mUn_e, mT_e, mNotT_e, mAndT_e, mOrT_e, mAnd_e, mOr_e, mNot_e, mIf_e, mChain_e, mNil_e, mCons_e, mTup_e, mLst_e, mLk_e, mCat_e, mCB_e, mCL_e, vD_e, vL_e, vM0_e, mSkip_e, mSeq_e, mAsg_e, mRet_e, mIfS_e, mDrop_e, vNil_e, vCons_e, mPar_e, bName_e, bTup_e, bNil_e, bCons_e, mUnp_e, mFor_e, mForR_e, mForR2_e, mApp_e, mYes_e, mLc_e, mLcR_e, mLcR2_e, mLcZ_e, gNo_e, gE_e, gO_e, mCall_e, mFn_e, mIsi_e, mSS_e, mNo_e, mPt_e, mSl_e, mDG_e, mDGd_e, mDIn_e, mPut_e, mSD_e, mRetO_e, vDof_e, mForZ_e, mNG_e, mNGd_e, mNPut_e, vN0_e, mLcN_e, mDGL_e, mForD_e, asN, mLc2_e, mForZT_e, mRep_e, mIfT_e, mExt_e, bUnl_e, mLcR3_e, mLZ_e, wipeE, pow6, pow7, pow9, pow15, pow18, pow39, asM, List.replicate, List.cons_append, List.nil_append, List.getElem?_cons_zero, List.getElem?_cons_succ, enAll, List.set_cons_zero, List.set_cons_succ, Nat.reduceSub, List.length_cons, List.length_nil, decide_eq_true_eq, Nat.reduceAdd, Nat.reduceLeDiff, true_and, Bool.not_true, Bool.not_false, if_true, if_false, Bool.false_eq_true, Bool.not_eq_true', decide_eq_false_iff_not, Int.reduceLE, Int.reduceLT, Int.reduceNeg, Int.reduceSub, Int.reduceAdd, and_true, PyData.int.injEq, Nat.zero_add, Int.zero_add, Int.sub_zero, addW_ii, addW_ib, addW_bi, addW_tt, addW_ll, subW_ii, subW_ib, subW_bi, mulW_ii, fdivW_ii, modW_ii, negW_i, eqW_ii, eqW_ss, eqW_t0, eqW_l0, neW_ii, neW_ss, neW_t0, neW_l0, ltW_ii, leW_ii, gtW_ii, geW_ii, isW_n, isntW_n, ixW_l, ixW_t, lenW_l, lenW_t, absW_i, intW_i, intW_b, tupW_l, tupW_t, lstW_l, lstW_t, sumW_l, allW_l, anyW_l, minW_2, maxW_2, slW_t, slW_l, revW_t, revW_l, reprW_1, strW_i, strW_b, sortW_l, sortW_t, Option.some.injEq, exists_eq_left', exists_eq_left, dKey, exists_and_left, exists_const, mTry_e, mRaise_e, mAsgX_e, mRetX_e, nz_e, mCallX_e, mMk_e, mMethX_e, mFld_e, gOb_e, mFnX_e, mInit1_e, mCalm_e, mIsiV_e, mXf_e, mXis_e, mCnt_e, eqI_ii, isVal, List.getD_cons_zero, List.getD_cons_succ, xcL, ne_eq, Nat.reduceEqDiff, Nat.add_eq_zero_iff, Nat.reduceLT, and_false, not_false_eq_true, Sl.d.injEq, Sl.o.injEq, Sl.x.injEq, exists_eq', exists_eq, exists_and_right, exists_const, and_self]
    intro a dd
    simp only [U_l_made_6, S_l_made_5, S_l_made_4, S_l_made_3, mV_e, mC_e, mO_e, mOp_e, mUn_e, mT_e, mNotT_e, mAndT_e, mOrT_e, mAnd_e, mOr_e, mNot_e, mIf_e, mChain_e, mNil_e, mCons_e, mTup_e, mLst_e, mLk_e, mCat_e, mCB_e, mCL_e, vD_e, vL_e, vM0_e, mSkip_e, mSeq_e, mAsg_e, mRet_e, mIfS_e, mDrop_e, vNil_e, vCons_e, mPar_e, bName_e, bTup_e, bNil_e, bCons_e, mUnp_e, mFor_e, mForR_e, mForR2_e, mApp_e, mYes_e, mLc_e, mLcR_e, mLcR2_e, mLcZ_e, gNo_e, gE_e, gO_e, mCall_e, mFn_e, mIsi_e, mSS_e, mNo_e, mPt_e, mSl_e, mDG_e, mDGd_e, mDIn_e, mPut_e, mSD_e, mRetO_e, vDof_e, mForZ_e, mNG_e, mNGd_e, mNPut_e, vN0_e, mLcN_e, mDGL_e, mForD_e, asN, mLc2_e, mForZT_e, mRep_e, mIfT_e, mExt_e, bUnl_e, mLcR3_e, mLZ_e, wipeE, pow6, pow7, pow9, pow15, pow18, pow39, asM, List.replicate, List.cons_append, List.nil_append, List.getElem?_cons_zero, List.getElem?_cons_succ, enAll, List.set_cons_zero, List.set_cons_succ, Nat.reduceSub, List.length_cons, List.length_nil, decide_eq_true_eq, Nat.reduceAdd, Nat.reduceLeDiff, true_and, Bool.not_true, Bool.not_false, if_true, if_false, Bool.false_eq_true, Bool.not_eq_true', decide_eq_false_iff_not, Int.reduceLE, Int.reduceLT, Int.reduceNeg, Int.reduceSub, Int.reduceAdd, and_true, PyData.int.injEq, Nat.zero_add, Int.zero_add, Int.sub_zero, addW_ii, addW_ib, addW_bi, addW_tt, addW_ll, subW_ii, subW_ib, subW_bi, mulW_ii, fdivW_ii, modW_ii, negW_i, eqW_ii, eqW_ss, eqW_t0, eqW_l0, neW_ii, neW_ss, neW_t0, neW_l0, ltW_ii, leW_ii, gtW_ii, geW_ii, isW_n, isntW_n, ixW_l, ixW_t, lenW_l, lenW_t, absW_i, intW_i, intW_b, tupW_l, tupW_t, lstW_l, lstW_t, sumW_l, allW_l, anyW_l, minW_2, maxW_2, slW_t, slW_l, revW_t, revW_l, reprW_1, strW_i, strW_b, sortW_l, sortW_t, Option.some.injEq, exists_eq_left', exists_eq_left, dKey, exists_and_left, exists_const, mTry_e, mRaise_e, mAsgX_e, mRetX_e, nz_e, mCallX_e, mMk_e, mMethX_e, mFld_e, gOb_e, mFnX_e, mInit1_e, mCalm_e, mIsiV_e, mXf_e, mXis_e, mCnt_e, eqI_ii, isVal, List.getD_cons_zero, List.getD_cons_succ, xcL, ne_eq, Nat.reduceEqDiff, Nat.add_eq_zero_iff, Nat.reduceLT, and_false, not_false_eq_true, Sl.d.injEq, Sl.o.injEq, Sl.x.injEq, exists_eq', exists_eq, exists_and_right, exists_const, and_self]
    exact ⟨hd, h0 hi⟩
def roomD (m : Int) (d : PyData) : PyData := if inL d = true then match d with
  | .int i => if i ≤ m then .int (m - i) else .list [.str "long", .str d.shown]
  | _ => .none else .list [.str "number", .str d.shown]
theorem broom_ok {m : Int} {d : PyData} {b : Nat} {R : PyData → Nat → Prop} {Z : Nat → Sl → Nat → Prop} (h0 : inL d = false → Z 1 (.d d) b) (h1 : ∀ i, d = .int i → inL d = true → m < i → Z 2 (.d d) b) (h2 : ∀ i, d = .int i → inL d = true → i ≤ m → R (.int (m - i)) b) : M_Bound_room ad [.o (ad 5) [("most", .int m)], .d d] b R Z := by
  simp only [M_Bound_room, B_Bound_room, S_Bound_room_1, S_Bound_room_2, S_Bound_room_3, S_Bound_room_4, S_Bound_room_5, mV_e, mC_e, mO_e, mOp_e, mUn_e, mT_e, mNotT_e, mAndT_e, mOrT_e, mAnd_e, mOr_e, mNot_e, mIf_e, mChain_e, mNil_e, mCons_e, mTup_e, mLst_e, mLk_e, mCat_e, mCB_e, mCL_e, vD_e, vL_e, vM0_e, mSkip_e, mSeq_e, mAsg_e, mRet_e, mIfS_e, mDrop_e, vNil_e, vCons_e, mPar_e, bName_e, bTup_e, bNil_e, bCons_e, mUnp_e, mFor_e, mForR_e, mForR2_e, mApp_e, mYes_e, mLc_e, mLcR_e, mLcR2_e, mLcZ_e, gNo_e, gE_e, gO_e, mCall_e, mFn_e, mIsi_e, mSS_e, mNo_e, mPt_e, mSl_e, mDG_e, mDGd_e, mDIn_e, mPut_e, mSD_e, mRetO_e, vDof_e, mForZ_e, mNG_e, mNGd_e, mNPut_e, vN0_e, mLcN_e, mDGL_e, mForD_e, asN, mLc2_e, mForZT_e, mRep_e, mIfT_e, mExt_e, bUnl_e, mLcR3_e, mLZ_e, wipeE, pow6, pow7, pow9, pow15, pow18, pow39, asM, List.replicate, List.cons_append, List.nil_append, List.getElem?_cons_zero, List.getElem?_cons_succ, enAll, List.set_cons_zero, List.set_cons_succ, Nat.reduceSub, List.length_cons, List.length_nil, decide_eq_true_eq, Nat.reduceAdd, Nat.reduceLeDiff, true_and, Bool.not_true, Bool.not_false, if_true, if_false, Bool.false_eq_true, Bool.not_eq_true', decide_eq_false_iff_not, Int.reduceLE, Int.reduceLT, Int.reduceNeg, Int.reduceSub, Int.reduceAdd, and_true, PyData.int.injEq, Nat.zero_add, Int.zero_add, Int.sub_zero, addW_ii, addW_ib, addW_bi, addW_tt, addW_ll, subW_ii, subW_ib, subW_bi, mulW_ii, fdivW_ii, modW_ii, negW_i, eqW_ii, eqW_ss, eqW_t0, eqW_l0, neW_ii, neW_ss, neW_t0, neW_l0, ltW_ii, leW_ii, gtW_ii, geW_ii, isW_n, isntW_n, ixW_l, ixW_t, lenW_l, lenW_t, absW_i, intW_i, intW_b, tupW_l, tupW_t, lstW_l, lstW_t, sumW_l, allW_l, anyW_l, minW_2, maxW_2, slW_t, slW_l, revW_t, revW_l, reprW_1, strW_i, strW_b, sortW_l, sortW_t, Option.some.injEq, exists_eq_left', exists_eq_left, dKey, exists_and_left, exists_const, mTry_e, mRaise_e, mAsgX_e, mRetX_e, nz_e, mCallX_e, mMk_e, mMethX_e, mFld_e, gOb_e, mFnX_e, mInit1_e, mCalm_e, mIsiV_e, mXf_e, mXis_e, mCnt_e, eqI_ii, isVal, List.getD_cons_zero, List.getD_cons_succ, xcL, ne_eq, Nat.reduceEqDiff, Nat.add_eq_zero_iff, Nat.reduceLT, and_false, not_false_eq_true, Sl.d.injEq, Sl.o.injEq, Sl.x.injEq, exists_eq', exists_eq, exists_and_right, exists_const, and_self]
  refine nw_ok ?_
  cases hi : inL d with
  | false =>
    simp only [mV_e, mC_e, mO_e, mOp_e, mUn_e, mT_e, mNotT_e, mAndT_e, mOrT_e, mAnd_e, mOr_e, mNot_e, mIf_e, mChain_e, mNil_e, mCons_e, mTup_e, mLst_e, mLk_e, mCat_e, mCB_e, mCL_e, vD_e, vL_e, vM0_e, mSkip_e, mSeq_e, mAsg_e, mRet_e, mIfS_e, mDrop_e, vNil_e, vCons_e, mPar_e, bName_e, bTup_e, bNil_e, bCons_e, mUnp_e, mFor_e, mForR_e, mForR2_e, mApp_e, mYes_e, mLc_e, mLcR_e, mLcR2_e, mLcZ_e, gNo_e, gE_e, gO_e, mCall_e, mFn_e, mIsi_e, mSS_e, mNo_e, mPt_e, mSl_e, mDG_e, mDGd_e, mDIn_e, mPut_e, mSD_e, mRetO_e, vDof_e, mForZ_e, mNG_e, mNGd_e, mNPut_e, vN0_e, mLcN_e, mDGL_e, mForD_e, asN, mLc2_e, mForZT_e, mRep_e, mIfT_e, mExt_e, bUnl_e, mLcR3_e, mLZ_e, wipeE, pow6, pow7, pow9, pow15, pow18, pow39, asM, List.replicate, List.cons_append, List.nil_append, List.getElem?_cons_zero, List.getElem?_cons_succ, enAll, List.set_cons_zero, List.set_cons_succ, Nat.reduceSub, List.length_cons, List.length_nil, decide_eq_true_eq, Nat.reduceAdd, Nat.reduceLeDiff, true_and, Bool.not_true, Bool.not_false, if_true, if_false, Bool.false_eq_true, Bool.not_eq_true', decide_eq_false_iff_not, Int.reduceLE, Int.reduceLT, Int.reduceNeg, Int.reduceSub, Int.reduceAdd, and_true, PyData.int.injEq, Nat.zero_add, Int.zero_add, Int.sub_zero, addW_ii, addW_ib, addW_bi, addW_tt, addW_ll, subW_ii, subW_ib, subW_bi, mulW_ii, fdivW_ii, modW_ii, negW_i, eqW_ii, eqW_ss, eqW_t0, eqW_l0, neW_ii, neW_ss, neW_t0, neW_l0, ltW_ii, leW_ii, gtW_ii, geW_ii, isW_n, isntW_n, ixW_l, ixW_t, lenW_l, lenW_t, absW_i, intW_i, intW_b, tupW_l, tupW_t, lstW_l, lstW_t, sumW_l, allW_l, anyW_l, minW_2, maxW_2, slW_t, slW_l, revW_t, revW_l, reprW_1, strW_i, strW_b, sortW_l, sortW_t, Option.some.injEq, exists_eq_left', exists_eq_left, dKey, exists_and_left, exists_const, mTry_e, mRaise_e, mAsgX_e, mRetX_e, nz_e, mCallX_e, mMk_e, mMethX_e, mFld_e, gOb_e, mFnX_e, mInit1_e, mCalm_e, mIsiV_e, mXf_e, mXis_e, mCnt_e, eqI_ii, isVal, List.getD_cons_zero, List.getD_cons_succ, xcL, ne_eq, Nat.reduceEqDiff, Nat.add_eq_zero_iff, Nat.reduceLT, and_false, not_false_eq_true, Sl.d.injEq, Sl.o.injEq, Sl.x.injEq, exists_eq', exists_eq, exists_and_right, exists_const, and_self]
    exact h0 hi
  | true =>
    cases d with
    | int i =>
      simp only [mV_e, mC_e, mO_e, mOp_e, mUn_e, mT_e, mNotT_e, mAndT_e, mOrT_e, mAnd_e, mOr_e, mNot_e, mIf_e, mChain_e, mNil_e, mCons_e, mTup_e, mLst_e, mLk_e, mCat_e, mCB_e, mCL_e, vD_e, vL_e, vM0_e, mSkip_e, mSeq_e, mAsg_e, mRet_e, mIfS_e, mDrop_e, vNil_e, vCons_e, mPar_e, bName_e, bTup_e, bNil_e, bCons_e, mUnp_e, mFor_e, mForR_e, mForR2_e, mApp_e, mYes_e, mLc_e, mLcR_e, mLcR2_e, mLcZ_e, gNo_e, gE_e, gO_e, mCall_e, mFn_e, mIsi_e, mSS_e, mNo_e, mPt_e, mSl_e, mDG_e, mDGd_e, mDIn_e, mPut_e, mSD_e, mRetO_e, vDof_e, mForZ_e, mNG_e, mNGd_e, mNPut_e, vN0_e, mLcN_e, mDGL_e, mForD_e, asN, mLc2_e, mForZT_e, mRep_e, mIfT_e, mExt_e, bUnl_e, mLcR3_e, mLZ_e, wipeE, pow6, pow7, pow9, pow15, pow18, pow39, asM, List.replicate, List.cons_append, List.nil_append, List.getElem?_cons_zero, List.getElem?_cons_succ, enAll, List.set_cons_zero, List.set_cons_succ, Nat.reduceSub, List.length_cons, List.length_nil, decide_eq_true_eq, Nat.reduceAdd, Nat.reduceLeDiff, true_and, Bool.not_true, Bool.not_false, if_true, if_false, Bool.false_eq_true, Bool.not_eq_true', decide_eq_false_iff_not, Int.reduceLE, Int.reduceLT, Int.reduceNeg, Int.reduceSub, Int.reduceAdd, and_true, PyData.int.injEq, Nat.zero_add, Int.zero_add, Int.sub_zero, addW_ii, addW_ib, addW_bi, addW_tt, addW_ll, subW_ii, subW_ib, subW_bi, mulW_ii, fdivW_ii, modW_ii, negW_i, eqW_ii, eqW_ss, eqW_t0, eqW_l0, neW_ii, neW_ss, neW_t0, neW_l0, ltW_ii, leW_ii, gtW_ii, geW_ii, isW_n, isntW_n, ixW_l, ixW_t, lenW_l, lenW_t, absW_i, intW_i, intW_b, tupW_l, tupW_t, lstW_l, lstW_t, sumW_l, allW_l, anyW_l, minW_2, maxW_2, slW_t, slW_l, revW_t, revW_l, reprW_1, strW_i, strW_b, sortW_l, sortW_t, Option.some.injEq, exists_eq_left', exists_eq_left, dKey, exists_and_left, exists_const, mTry_e, mRaise_e, mAsgX_e, mRetX_e, nz_e, mCallX_e, mMk_e, mMethX_e, mFld_e, gOb_e, mFnX_e, mInit1_e, mCalm_e, mIsiV_e, mXf_e, mXis_e, mCnt_e, eqI_ii, isVal, List.getD_cons_zero, List.getD_cons_succ, xcL, ne_eq, Nat.reduceEqDiff, Nat.add_eq_zero_iff, Nat.reduceLT, and_false, not_false_eq_true, Sl.d.injEq, Sl.o.injEq, Sl.x.injEq, exists_eq', exists_eq, exists_and_right, exists_const, and_self]
      refine ⟨_, rfl, ?_⟩
      simp only [mV_e, mC_e, mO_e, mOp_e, mUn_e, mT_e, mNotT_e, mAndT_e, mOrT_e, mAnd_e, mOr_e, mNot_e, mIf_e, mChain_e, mNil_e, mCons_e, mTup_e, mLst_e, mLk_e, mCat_e, mCB_e, mCL_e, vD_e, vL_e, vM0_e, mSkip_e, mSeq_e, mAsg_e, mRet_e, mIfS_e, mDrop_e, vNil_e, vCons_e, mPar_e, bName_e, bTup_e, bNil_e, bCons_e, mUnp_e, mFor_e, mForR_e, mForR2_e, mApp_e, mYes_e, mLc_e, mLcR_e, mLcR2_e, mLcZ_e, gNo_e, gE_e, gO_e, mCall_e, mFn_e, mIsi_e, mSS_e, mNo_e, mPt_e, mSl_e, mDG_e, mDGd_e, mDIn_e, mPut_e, mSD_e, mRetO_e, vDof_e, mForZ_e, mNG_e, mNGd_e, mNPut_e, vN0_e, mLcN_e, mDGL_e, mForD_e, asN, mLc2_e, mForZT_e, mRep_e, mIfT_e, mExt_e, bUnl_e, mLcR3_e, mLZ_e, wipeE, pow6, pow7, pow9, pow15, pow18, pow39, asM, List.replicate, List.cons_append, List.nil_append, List.getElem?_cons_zero, List.getElem?_cons_succ, enAll, List.set_cons_zero, List.set_cons_succ, Nat.reduceSub, List.length_cons, List.length_nil, decide_eq_true_eq, Nat.reduceAdd, Nat.reduceLeDiff, true_and, Bool.not_true, Bool.not_false, if_true, if_false, Bool.false_eq_true, Bool.not_eq_true', decide_eq_false_iff_not, Int.reduceLE, Int.reduceLT, Int.reduceNeg, Int.reduceSub, Int.reduceAdd, and_true, PyData.int.injEq, Nat.zero_add, Int.zero_add, Int.sub_zero, addW_ii, addW_ib, addW_bi, addW_tt, addW_ll, subW_ii, subW_ib, subW_bi, mulW_ii, fdivW_ii, modW_ii, negW_i, eqW_ii, eqW_ss, eqW_t0, eqW_l0, neW_ii, neW_ss, neW_t0, neW_l0, ltW_ii, leW_ii, gtW_ii, geW_ii, isW_n, isntW_n, ixW_l, ixW_t, lenW_l, lenW_t, absW_i, intW_i, intW_b, tupW_l, tupW_t, lstW_l, lstW_t, sumW_l, allW_l, anyW_l, minW_2, maxW_2, slW_t, slW_l, revW_t, revW_l, reprW_1, strW_i, strW_b, sortW_l, sortW_t, Option.some.injEq, exists_eq_left', exists_eq_left, dKey, exists_and_left, exists_const, mTry_e, mRaise_e, mAsgX_e, mRetX_e, nz_e, mCallX_e, mMk_e, mMethX_e, mFld_e, gOb_e, mFnX_e, mInit1_e, mCalm_e, mIsiV_e, mXf_e, mXis_e, mCnt_e, eqI_ii, isVal, List.getD_cons_zero, List.getD_cons_succ, xcL, ne_eq, Nat.reduceEqDiff, Nat.add_eq_zero_iff, Nat.reduceLT, and_false, not_false_eq_true, Sl.d.injEq, Sl.o.injEq, Sl.x.injEq, exists_eq', exists_eq, exists_and_right, exists_const, and_self]
      by_cases hm : m < i
      · rw [if_pos hm]
        exact h1 i rfl hi hm
      · rw [if_neg hm]
        exact ⟨_, rfl, h2 i rfl hi (by omega)⟩
    | _ => cases hi
theorem lroom_ok {m : Int} {d : PyData} {b : Nat} {R : PyData → Nat → Prop} {Z : Nat → Sl → Nat → Prop} (hd : okShow d) (h : R (roomD m d) b) : M_l_room ad [.o (ad 5) [("most", .int m)], .d d] b R Z := by
  simp only [M_l_room, B_l_room, S_l_room_7, S_l_room_2, S_l_room_1, mV_e, mC_e, mO_e, mOp_e, mUn_e, mT_e, mNotT_e, mAndT_e, mOrT_e, mAnd_e, mOr_e, mNot_e, mIf_e, mChain_e, mNil_e, mCons_e, mTup_e, mLst_e, mLk_e, mCat_e, mCB_e, mCL_e, vD_e, vL_e, vM0_e, mSkip_e, mSeq_e, mAsg_e, mRet_e, mIfS_e, mDrop_e, vNil_e, vCons_e, mPar_e, bName_e, bTup_e, bNil_e, bCons_e, mUnp_e, mFor_e, mForR_e, mForR2_e, mApp_e, mYes_e, mLc_e, mLcR_e, mLcR2_e, mLcZ_e, gNo_e, gE_e, gO_e, mCall_e, mFn_e, mIsi_e, mSS_e, mNo_e, mPt_e, mSl_e, mDG_e, mDGd_e, mDIn_e, mPut_e, mSD_e, mRetO_e, vDof_e, mForZ_e, mNG_e, mNGd_e, mNPut_e, vN0_e, mLcN_e, mDGL_e, mForD_e, asN, mLc2_e, mForZT_e, mRep_e, mIfT_e, mExt_e, bUnl_e, mLcR3_e, mLZ_e, wipeE, pow6, pow7, pow9, pow15, pow18, pow39, asM, List.replicate, List.cons_append, List.nil_append, List.getElem?_cons_zero, List.getElem?_cons_succ, enAll, List.set_cons_zero, List.set_cons_succ, Nat.reduceSub, List.length_cons, List.length_nil, decide_eq_true_eq, Nat.reduceAdd, Nat.reduceLeDiff, true_and, Bool.not_true, Bool.not_false, if_true, if_false, Bool.false_eq_true, Bool.not_eq_true', decide_eq_false_iff_not, Int.reduceLE, Int.reduceLT, Int.reduceNeg, Int.reduceSub, Int.reduceAdd, and_true, PyData.int.injEq, Nat.zero_add, Int.zero_add, Int.sub_zero, addW_ii, addW_ib, addW_bi, addW_tt, addW_ll, subW_ii, subW_ib, subW_bi, mulW_ii, fdivW_ii, modW_ii, negW_i, eqW_ii, eqW_ss, eqW_t0, eqW_l0, neW_ii, neW_ss, neW_t0, neW_l0, ltW_ii, leW_ii, gtW_ii, geW_ii, isW_n, isntW_n, ixW_l, ixW_t, lenW_l, lenW_t, absW_i, intW_i, intW_b, tupW_l, tupW_t, lstW_l, lstW_t, sumW_l, allW_l, anyW_l, minW_2, maxW_2, slW_t, slW_l, revW_t, revW_l, reprW_1, strW_i, strW_b, sortW_l, sortW_t, Option.some.injEq, exists_eq_left', exists_eq_left, dKey, exists_and_left, exists_const, mTry_e, mRaise_e, mAsgX_e, mRetX_e, nz_e, mCallX_e, mMk_e, mMethX_e, mFld_e, gOb_e, mFnX_e, mInit1_e, mCalm_e, mIsiV_e, mXf_e, mXis_e, mCnt_e, eqI_ii, isVal, List.getD_cons_zero, List.getD_cons_succ, xcL, ne_eq, Nat.reduceEqDiff, Nat.add_eq_zero_iff, Nat.reduceLT, and_false, not_false_eq_true, Sl.d.injEq, Sl.o.injEq, Sl.x.injEq, exists_eq', exists_eq, exists_and_right, exists_const, and_self]
  refine ⟨rfl, ?_⟩
  unfold roomD at h
  refine broom_ok (fun h0 => ?_) (fun i e h1 hm => ?_) fun i e h1 hm => ?_
  · rw [if_neg (by rw [h0]; decide)] at h
    simp only [mV_e, mC_e, mO_e, mOp_e, mUn_e, mT_e, mNotT_e, mAndT_e, mOrT_e, mAnd_e, mOr_e, mNot_e, mIf_e, mChain_e, mNil_e, mCons_e, mTup_e, mLst_e, mLk_e, mCat_e, mCB_e, mCL_e, vD_e, vL_e, vM0_e, mSkip_e, mSeq_e, mAsg_e, mRet_e, mIfS_e, mDrop_e, vNil_e, vCons_e, mPar_e, bName_e, bTup_e, bNil_e, bCons_e, mUnp_e, mFor_e, mForR_e, mForR2_e, mApp_e, mYes_e, mLc_e, mLcR_e, mLcR2_e, mLcZ_e, gNo_e, gE_e, gO_e, mCall_e, mFn_e, mIsi_e, mSS_e, mNo_e, mPt_e, mSl_e, mDG_e, mDGd_e, mDIn_e, mPut_e, mSD_e, mRetO_e, vDof_e, mForZ_e, mNG_e, mNGd_e, mNPut_e, vN0_e, mLcN_e, mDGL_e, mForD_e, asN, mLc2_e, mForZT_e, mRep_e, mIfT_e, mExt_e, bUnl_e, mLcR3_e, mLZ_e, wipeE, pow6, pow7, pow9, pow15, pow18, pow39, asM, List.replicate, List.cons_append, List.nil_append, List.getElem?_cons_zero, List.getElem?_cons_succ, enAll, List.set_cons_zero, List.set_cons_succ, Nat.reduceSub, List.length_cons, List.length_nil, decide_eq_true_eq, Nat.reduceAdd, Nat.reduceLeDiff, true_and, Bool.not_true, Bool.not_false, if_true, if_false, Bool.false_eq_true, Bool.not_eq_true', decide_eq_false_iff_not, Int.reduceLE, Int.reduceLT, Int.reduceNeg, Int.reduceSub, Int.reduceAdd, and_true, PyData.int.injEq, Nat.zero_add, Int.zero_add, Int.sub_zero, addW_ii, addW_ib, addW_bi, addW_tt, addW_ll, subW_ii, subW_ib, subW_bi, mulW_ii, fdivW_ii, modW_ii, negW_i, eqW_ii, eqW_ss, eqW_t0, eqW_l0, neW_ii, neW_ss, neW_t0, neW_l0, ltW_ii, leW_ii, gtW_ii, geW_ii, isW_n, isntW_n, ixW_l, ixW_t, lenW_l, lenW_t, absW_i, intW_i, intW_b, tupW_l, tupW_t, lstW_l, lstW_t, sumW_l, allW_l, anyW_l, minW_2, maxW_2, slW_t, slW_l, revW_t, revW_l, reprW_1, strW_i, strW_b, sortW_l, sortW_t, Option.some.injEq, exists_eq_left', exists_eq_left, dKey, exists_and_left, exists_const, mTry_e, mRaise_e, mAsgX_e, mRetX_e, nz_e, mCallX_e, mMk_e, mMethX_e, mFld_e, gOb_e, mFnX_e, mInit1_e, mCalm_e, mIsiV_e, mXf_e, mXis_e, mCnt_e, eqI_ii, isVal, List.getD_cons_zero, List.getD_cons_succ, xcL, ne_eq, Nat.reduceEqDiff, Nat.add_eq_zero_iff, Nat.reduceLT, and_false, not_false_eq_true, Sl.d.injEq, Sl.o.injEq, Sl.x.injEq, exists_eq', exists_eq, exists_and_right, exists_const, and_self]
    intro a dd
    simp only [U_l_room_6, S_l_room_5, S_l_room_4, S_l_room_3, mV_e, mC_e, mO_e, mOp_e, mUn_e, mT_e, mNotT_e, mAndT_e, mOrT_e, mAnd_e, mOr_e, mNot_e, mIf_e, mChain_e, mNil_e, mCons_e, mTup_e, mLst_e, mLk_e, mCat_e, mCB_e, mCL_e, vD_e, vL_e, vM0_e, mSkip_e, mSeq_e, mAsg_e, mRet_e, mIfS_e, mDrop_e, vNil_e, vCons_e, mPar_e, bName_e, bTup_e, bNil_e, bCons_e, mUnp_e, mFor_e, mForR_e, mForR2_e, mApp_e, mYes_e, mLc_e, mLcR_e, mLcR2_e, mLcZ_e, gNo_e, gE_e, gO_e, mCall_e, mFn_e, mIsi_e, mSS_e, mNo_e, mPt_e, mSl_e, mDG_e, mDGd_e, mDIn_e, mPut_e, mSD_e, mRetO_e, vDof_e, mForZ_e, mNG_e, mNGd_e, mNPut_e, vN0_e, mLcN_e, mDGL_e, mForD_e, asN, mLc2_e, mForZT_e, mRep_e, mIfT_e, mExt_e, bUnl_e, mLcR3_e, mLZ_e, wipeE, pow6, pow7, pow9, pow15, pow18, pow39, asM, List.replicate, List.cons_append, List.nil_append, List.getElem?_cons_zero, List.getElem?_cons_succ, enAll, List.set_cons_zero, List.set_cons_succ, Nat.reduceSub, List.length_cons, List.length_nil, decide_eq_true_eq, Nat.reduceAdd, Nat.reduceLeDiff, true_and, Bool.not_true, Bool.not_false, if_true, if_false, Bool.false_eq_true, Bool.not_eq_true', decide_eq_false_iff_not, Int.reduceLE, Int.reduceLT, Int.reduceNeg, Int.reduceSub, Int.reduceAdd, and_true, PyData.int.injEq, Nat.zero_add, Int.zero_add, Int.sub_zero, addW_ii, addW_ib, addW_bi, addW_tt, addW_ll, subW_ii, subW_ib, subW_bi, mulW_ii, fdivW_ii, modW_ii, negW_i, eqW_ii, eqW_ss, eqW_t0, eqW_l0, neW_ii, neW_ss, neW_t0, neW_l0, ltW_ii, leW_ii, gtW_ii, geW_ii, isW_n, isntW_n, ixW_l, ixW_t, lenW_l, lenW_t, absW_i, intW_i, intW_b, tupW_l, tupW_t, lstW_l, lstW_t, sumW_l, allW_l, anyW_l, minW_2, maxW_2, slW_t, slW_l, revW_t, revW_l, reprW_1, strW_i, strW_b, sortW_l, sortW_t, Option.some.injEq, exists_eq_left', exists_eq_left, dKey, exists_and_left, exists_const, mTry_e, mRaise_e, mAsgX_e, mRetX_e, nz_e, mCallX_e, mMk_e, mMethX_e, mFld_e, gOb_e, mFnX_e, mInit1_e, mCalm_e, mIsiV_e, mXf_e, mXis_e, mCnt_e, eqI_ii, isVal, List.getD_cons_zero, List.getD_cons_succ, xcL, ne_eq, Nat.reduceEqDiff, Nat.add_eq_zero_iff, Nat.reduceLT, and_false, not_false_eq_true, Sl.d.injEq, Sl.o.injEq, Sl.x.injEq, exists_eq', exists_eq, exists_and_right, exists_const, and_self]
    refine ⟨_, rfl, ⟨by decide, rfl, by decide⟩, ?_⟩
    rw [if_pos (by decide)]
    refine ⟨.bool true, rfl, ?_⟩
    simp only [if_true]
    exact ⟨hd, h⟩
  · subst e
    rw [if_pos h1] at h
    simp only [if_neg (show ¬ i ≤ m by omega)] at h
    simp only [mV_e, mC_e, mO_e, mOp_e, mUn_e, mT_e, mNotT_e, mAndT_e, mOrT_e, mAnd_e, mOr_e, mNot_e, mIf_e, mChain_e, mNil_e, mCons_e, mTup_e, mLst_e, mLk_e, mCat_e, mCB_e, mCL_e, vD_e, vL_e, vM0_e, mSkip_e, mSeq_e, mAsg_e, mRet_e, mIfS_e, mDrop_e, vNil_e, vCons_e, mPar_e, bName_e, bTup_e, bNil_e, bCons_e, mUnp_e, mFor_e, mForR_e, mForR2_e, mApp_e, mYes_e, mLc_e, mLcR_e, mLcR2_e, mLcZ_e, gNo_e, gE_e, gO_e, mCall_e, mFn_e, mIsi_e, mSS_e, mNo_e, mPt_e, mSl_e, mDG_e, mDGd_e, mDIn_e, mPut_e, mSD_e, mRetO_e, vDof_e, mForZ_e, mNG_e, mNGd_e, mNPut_e, vN0_e, mLcN_e, mDGL_e, mForD_e, asN, mLc2_e, mForZT_e, mRep_e, mIfT_e, mExt_e, bUnl_e, mLcR3_e, mLZ_e, wipeE, pow6, pow7, pow9, pow15, pow18, pow39, asM, List.replicate, List.cons_append, List.nil_append, List.getElem?_cons_zero, List.getElem?_cons_succ, enAll, List.set_cons_zero, List.set_cons_succ, Nat.reduceSub, List.length_cons, List.length_nil, decide_eq_true_eq, Nat.reduceAdd, Nat.reduceLeDiff, true_and, Bool.not_true, Bool.not_false, if_true, if_false, Bool.false_eq_true, Bool.not_eq_true', decide_eq_false_iff_not, Int.reduceLE, Int.reduceLT, Int.reduceNeg, Int.reduceSub, Int.reduceAdd, and_true, PyData.int.injEq, Nat.zero_add, Int.zero_add, Int.sub_zero, addW_ii, addW_ib, addW_bi, addW_tt, addW_ll, subW_ii, subW_ib, subW_bi, mulW_ii, fdivW_ii, modW_ii, negW_i, eqW_ii, eqW_ss, eqW_t0, eqW_l0, neW_ii, neW_ss, neW_t0, neW_l0, ltW_ii, leW_ii, gtW_ii, geW_ii, isW_n, isntW_n, ixW_l, ixW_t, lenW_l, lenW_t, absW_i, intW_i, intW_b, tupW_l, tupW_t, lstW_l, lstW_t, sumW_l, allW_l, anyW_l, minW_2, maxW_2, slW_t, slW_l, revW_t, revW_l, reprW_1, strW_i, strW_b, sortW_l, sortW_t, Option.some.injEq, exists_eq_left', exists_eq_left, dKey, exists_and_left, exists_const, mTry_e, mRaise_e, mAsgX_e, mRetX_e, nz_e, mCallX_e, mMk_e, mMethX_e, mFld_e, gOb_e, mFnX_e, mInit1_e, mCalm_e, mIsiV_e, mXf_e, mXis_e, mCnt_e, eqI_ii, isVal, List.getD_cons_zero, List.getD_cons_succ, xcL, ne_eq, Nat.reduceEqDiff, Nat.add_eq_zero_iff, Nat.reduceLT, and_false, not_false_eq_true, Sl.d.injEq, Sl.o.injEq, Sl.x.injEq, exists_eq', exists_eq, exists_and_right, exists_const, and_self]
    intro a dd
    simp only [U_l_room_6, S_l_room_5, S_l_room_4, S_l_room_3, mV_e, mC_e, mO_e, mOp_e, mUn_e, mT_e, mNotT_e, mAndT_e, mOrT_e, mAnd_e, mOr_e, mNot_e, mIf_e, mChain_e, mNil_e, mCons_e, mTup_e, mLst_e, mLk_e, mCat_e, mCB_e, mCL_e, vD_e, vL_e, vM0_e, mSkip_e, mSeq_e, mAsg_e, mRet_e, mIfS_e, mDrop_e, vNil_e, vCons_e, mPar_e, bName_e, bTup_e, bNil_e, bCons_e, mUnp_e, mFor_e, mForR_e, mForR2_e, mApp_e, mYes_e, mLc_e, mLcR_e, mLcR2_e, mLcZ_e, gNo_e, gE_e, gO_e, mCall_e, mFn_e, mIsi_e, mSS_e, mNo_e, mPt_e, mSl_e, mDG_e, mDGd_e, mDIn_e, mPut_e, mSD_e, mRetO_e, vDof_e, mForZ_e, mNG_e, mNGd_e, mNPut_e, vN0_e, mLcN_e, mDGL_e, mForD_e, asN, mLc2_e, mForZT_e, mRep_e, mIfT_e, mExt_e, bUnl_e, mLcR3_e, mLZ_e, wipeE, pow6, pow7, pow9, pow15, pow18, pow39, asM, List.replicate, List.cons_append, List.nil_append, List.getElem?_cons_zero, List.getElem?_cons_succ, enAll, List.set_cons_zero, List.set_cons_succ, Nat.reduceSub, List.length_cons, List.length_nil, decide_eq_true_eq, Nat.reduceAdd, Nat.reduceLeDiff, true_and, Bool.not_true, Bool.not_false, if_true, if_false, Bool.false_eq_true, Bool.not_eq_true', decide_eq_false_iff_not, Int.reduceLE, Int.reduceLT, Int.reduceNeg, Int.reduceSub, Int.reduceAdd, and_true, PyData.int.injEq, Nat.zero_add, Int.zero_add, Int.sub_zero, addW_ii, addW_ib, addW_bi, addW_tt, addW_ll, subW_ii, subW_ib, subW_bi, mulW_ii, fdivW_ii, modW_ii, negW_i, eqW_ii, eqW_ss, eqW_t0, eqW_l0, neW_ii, neW_ss, neW_t0, neW_l0, ltW_ii, leW_ii, gtW_ii, geW_ii, isW_n, isntW_n, ixW_l, ixW_t, lenW_l, lenW_t, absW_i, intW_i, intW_b, tupW_l, tupW_t, lstW_l, lstW_t, sumW_l, allW_l, anyW_l, minW_2, maxW_2, slW_t, slW_l, revW_t, revW_l, reprW_1, strW_i, strW_b, sortW_l, sortW_t, Option.some.injEq, exists_eq_left', exists_eq_left, dKey, exists_and_left, exists_const, mTry_e, mRaise_e, mAsgX_e, mRetX_e, nz_e, mCallX_e, mMk_e, mMethX_e, mFld_e, gOb_e, mFnX_e, mInit1_e, mCalm_e, mIsiV_e, mXf_e, mXis_e, mCnt_e, eqI_ii, isVal, List.getD_cons_zero, List.getD_cons_succ, xcL, ne_eq, Nat.reduceEqDiff, Nat.add_eq_zero_iff, Nat.reduceLT, and_false, not_false_eq_true, Sl.d.injEq, Sl.o.injEq, Sl.x.injEq, exists_eq', exists_eq, exists_and_right, exists_const, and_self]
    refine ⟨_, rfl, ⟨by decide, rfl, by decide⟩, ?_⟩
    rw [if_pos (by decide)]
    refine ⟨.bool false, rfl, ?_⟩
    simp only [Bool.false_eq_true, if_false]
    exact ⟨hd, h⟩
  · subst e
    rw [if_pos h1] at h
    simp only [if_pos hm] at h
    exact h
end Wp.K46

namespace Wp.K46
open PySem PySem.Spec PyProof.Rows L2 Evl Wp
variable {ad : Nat → Addr}
/-- what is drawn -/
def Vd (d : PyData) : Prop := okShow d ∧ (reprText d.shown).length ≤ 1000
def odd : List PyData := [.none, .bool true, .bool false, .int (-1), .int 1000000000000000001, .int 1000000000000000000000000000000000000000, .str "5", .str "", .tuple [], .list [], .dict [], .tuple [.int 3]]
theorem vd_int {i : Int} (h : i.natAbs ≤ 10 ^ 39) : Vd (.int i) := by
  have z : Cn.okV (10 ^ 39) (.int i) = true := by simp only [Cn.okV, decide_eq_true_eq]; exact h
  obtain ⟨h1, h2, h3⟩ := Cn.okV_show (by decide) _ z
  refine ⟨⟨h1, by simp only [Cn.wv] at h2; omega, by simp only [Cn.dv] at h3; omega⟩, ?_⟩
  show (reprText (toString i)).length ≤ 1000
  exact Cn.reprDigits (Nat.lt_of_le_of_lt h (by decide))
theorem vd_odd : ∀ d ∈ odd, Vd d := by
  have h : odd.all (fun d => d.showable && decide (d.shown.length ≤ 1000000) && decide (d.depth ≤ 50) && decide ((reprText d.shown).length ≤ 1000)) = true := by decide +kernel
  intro d hd
  have := List.all_eq_true.mp h d hd
  simp only [Bool.and_eq_true, decide_eq_true_eq] at this
  exact ⟨⟨this.1.1.1, this.1.1.2, this.1.2⟩, this.2⟩
theorem vd_bool (c : Bool) : Vd (.bool c) := by
  cases c
  · exact vd_odd _ (List.Mem.tail _ (List.Mem.tail _ (List.Mem.head _)))
  · exact vd_odd _ (List.Mem.tail _ (List.Mem.head _))
theorem two_show {x y : Str} (hx : (reprText x).length ≤ 1000) (hy : (reprText y).length ≤ 1000) : okShow (.list [.str x, .str y]) := by
  refine ⟨rfl, ?_, by simp [PyData.depth, PyData.depthAll]⟩
  have := Cn.listText_le [reprText x, reprText y]
  rw [piled_cons, piled_cons, piled_nil] at this
  simp only [PyData.shown, PyData.shownAll]
  omega
theorem ne_two {x y x' y' : Str} {Q : PyData → Prop} (q : Q (.bool (!decide (x = x' ∧ y = y')))) : neW (.list [.str x, .str y]) (.list [.str x', .str y']) Q := by
  refine ⟨⟨rfl, rfl, by simp [PyData.depth, PyData.depthAll]⟩, ?_⟩
  have e : PyData.eqv (.list [.str x, .str y]) (.list [.str x', .str y']) = decide (x = x' ∧ y = y') := by
    by_cases h1 : x = x' <;> by_cases h2 : y = y' <;> simp [PyData.eqv, PyData.eqvAll, h1, h2]
  rw [e]
  exact q
theorem room_show {m : Int} {d : PyData} (hm : 0 ≤ m ∧ m ≤ 1000000000000000000) (hd : Vd d) : okShow (roomD m d) := by
  unfold roomD
  split
  · rename_i hi
    split
    · rename_i i
      simp only [inL, Bool.and_eq_true, decide_eq_true_eq] at hi
      split
      · exact (vd_int (by omega)).1
      · exact two_show (by decide +kernel) hd.2
    · exact ⟨rfl, by decide, by decide⟩
  · exact two_show (by decide +kernel) hd.2
abbrev lE (s3 s4 s5 s6 s7 s8 : Sl) : Wp.Env := [.no, .s 1, .d (.list odd), s3, s4, s5, s6, s7, s8]
def inB : WS := mSeq (S_law_9 ad) (mSeq (S_law_8 ad) (S_law_6 ad))
/-- one number is asked for -/
theorem in_turn {m : Int} {d : PyData} {b : Nat} {F : WEnds} {s3 s6 s8 : Sl} (hm : 0 ≤ m ∧ m ≤ 1000000000000000000) (hd : Vd d) (q : ∀ s8, F.nx (lE s3 (.d (.int m)) (.o (ad 5) [("most", .int m)]) s6 (.d d) s8) b) :
    inB (ad := ad) (lE s3 (.d (.int m)) (.o (ad 5) [("most", .int m)]) s6 (.d d) s8) b F := by
  have rs := room_show hm hd
  have key : S_law_6 ad (lE s3 (.d (.int m)) (.o (ad 5) [("most", .int m)]) s6 (.d d) (.d (roomD m d))) b F := by
    simp only [S_law_6, mV_e, mC_e, mO_e, mOp_e, mUn_e, mT_e, mNotT_e, mAndT_e, mOrT_e, mAnd_e, mOr_e, mNot_e, mIf_e, mChain_e, mNil_e, mCons_e, mTup_e, mLst_e, mLk_e, mCat_e, mCB_e, mCL_e, vD_e, vL_e, vM0_e, mSkip_e, mSeq_e, mAsg_e, mRet_e, mIfS_e, mDrop_e, vNil_e, vCons_e, mPar_e, bName_e, bTup_e, bNil_e, bCons_e, mUnp_e, mFor_e, mForR_e, mForR2_e, mApp_e, mYes_e, mLc_e, mLcR_e, mLcR2_e, mLcZ_e, gNo_e, gE_e, gO_e, mCall_e, mFn_e, mIsi_e, mSS_e, mNo_e, mPt_e, mSl_e, mDG_e, mDGd_e, mDIn_e, mPut_e, mSD_e, mRetO_e, vDof_e, mForZ_e, mNG_e, mNGd_e, mNPut_e, vN0_e, mLcN_e, mDGL_e, mForD_e, asN, mLc2_e, mForZT_e, mRep_e, mIfT_e, mExt_e, bUnl_e, mLcR3_e, mLZ_e, wipeE, pow6, pow7, pow9, pow15, pow18, pow39, asM, List.replicate, List.cons_append, List.nil_append, List.getElem?_cons_zero, List.getElem?_cons_succ, enAll, List.set_cons_zero, List.set_cons_succ, Nat.reduceSub, List.length_cons, List.length_nil, decide_eq_true_eq, Nat.reduceAdd, Nat.reduceLeDiff, true_and, Bool.not_true, Bool.not_false, if_true, if_false, Bool.false_eq_true, Bool.not_eq_true', decide_eq_false_iff_not, Int.reduceLE, Int.reduceLT, Int.reduceNeg, Int.reduceSub, Int.reduceAdd, and_true, PyData.int.injEq, Nat.zero_add, Int.zero_add, Int.sub_zero, addW_ii, addW_ib, addW_bi, addW_tt, addW_ll, subW_ii, subW_ib, subW_bi, mulW_ii, fdivW_ii, modW_ii, negW_i, eqW_ii, eqW_ss, eqW_t0, eqW_l0, neW_ii, neW_ss, neW_t0, neW_l0, ltW_ii, leW_ii, gtW_ii, geW_ii, isW_n, isntW_n, ixW_l, ixW_t, lenW_l, lenW_t, absW_i, intW_i, intW_b, tupW_l, tupW_t, lstW_l, lstW_t, sumW_l, allW_l, anyW_l, minW_2, maxW_2, slW_t, slW_l, revW_t, revW_l, reprW_1, strW_i, strW_b, sortW_l, sortW_t, Option.some.injEq, exists_eq_left', exists_eq_left, dKey, exists_and_left, exists_const, mTry_e, mRaise_e, mAsgX_e, mRetX_e, nz_e, mCallX_e, mMk_e, mMethX_e, mFld_e, gOb_e, mFnX_e, mInit1_e, mCalm_e, mIsiV_e, mXf_e, mXis_e, mCnt_e, eqI_ii, isVal, List.getD_cons_zero, List.getD_cons_succ, xcL, ne_eq, Nat.reduceEqDiff, Nat.add_eq_zero_iff, Nat.reduceLT, and_false, not_false_eq_true, Sl.d.injEq, Sl.o.injEq, Sl.x.injEq, exists_eq', exists_eq, exists_and_right, exists_const, and_self]
    refine ⟨_, _, ⟨rfl, rfl⟩, lroom_ok hd.1 ⟨rs, rs, ?_⟩⟩
    rw [if_neg (by simp)]
    refine ⟨_, rfl, (vd_int (by omega)).1, (vd_int (by omega)).1, ?_⟩
    rw [if_neg (by simp)]
    exact q _
  unfold inB
  simp only [S_law_9, S_law_8, S_law_7, mV_e, mC_e, mO_e, mOp_e, mUn_e, mT_e, mNotT_e, mAndT_e, mOrT_e, mAnd_e, mOr_e, mNot_e, mIf_e, mChain_e, mNil_e, mCons_e, mTup_e, mLst_e, mLk_e, mCat_e, mCB_e, mCL_e, vD_e, vL_e, vM0_e, mSkip_e, mSeq_e, mAsg_e, mRet_e, mIfS_e, mDrop_e, vNil_e, vCons_e, mPar_e, bName_e, bTup_e, bNil_e, bCons_e, mUnp_e, mFor_e, mForR_e, mForR2_e, mApp_e, mYes_e, mLc_e, mLcR_e, mLcR2_e, mLcZ_e, gNo_e, gE_e, gO_e, mCall_e, mFn_e, mIsi_e, mSS_e, mNo_e, mPt_e, mSl_e, mDG_e, mDGd_e, mDIn_e, mPut_e, mSD_e, mRetO_e, vDof_e, mForZ_e, mNG_e, mNGd_e, mNPut_e, vN0_e, mLcN_e, mDGL_e, mForD_e, asN, mLc2_e, mForZT_e, mRep_e, mIfT_e, mExt_e, bUnl_e, mLcR3_e, mLZ_e, wipeE, pow6, pow7, pow9, pow15, pow18, pow39, asM, List.replicate, List.cons_append, List.nil_append, List.getElem?_cons_zero, List.getElem?_cons_succ, enAll, List.set_cons_zero, List.set_cons_succ, Nat.reduceSub, List.length_cons, List.length_nil, decide_eq_true_eq, Nat.reduceAdd, Nat.reduceLeDiff, true_and, Bool.not_true, Bool.not_false, if_true, if_false, Bool.false_eq_true, Bool.not_eq_true', decide_eq_false_iff_not, Int.reduceLE, Int.reduceLT, Int.reduceNeg, Int.reduceSub, Int.reduceAdd, and_true, PyData.int.injEq, Nat.zero_add, Int.zero_add, Int.sub_zero, addW_ii, addW_ib, addW_bi, addW_tt, addW_ll, subW_ii, subW_ib, subW_bi, mulW_ii, fdivW_ii, modW_ii, negW_i, eqW_ii, eqW_ss, eqW_t0, eqW_l0, neW_ii, neW_ss, neW_t0, neW_l0, ltW_ii, leW_ii, gtW_ii, geW_ii, isW_n, isntW_n, ixW_l, ixW_t, lenW_l, lenW_t, absW_i, intW_i, intW_b, tupW_l, tupW_t, lstW_l, lstW_t, sumW_l, allW_l, anyW_l, minW_2, maxW_2, slW_t, slW_l, revW_t, revW_l, reprW_1, strW_i, strW_b, sortW_l, sortW_t, Option.some.injEq, exists_eq_left', exists_eq_left, dKey, exists_and_left, exists_const, mTry_e, mRaise_e, mAsgX_e, mRetX_e, nz_e, mCallX_e, mMk_e, mMethX_e, mFld_e, gOb_e, mFnX_e, mInit1_e, mCalm_e, mIsiV_e, mXf_e, mXis_e, mCnt_e, eqI_ii, isVal, List.getD_cons_zero, List.getD_cons_succ, xcL, ne_eq, Nat.reduceEqDiff, Nat.add_eq_zero_iff, Nat.reduceLT, and_false, not_false_eq_true, Sl.d.injEq, Sl.o.injEq, Sl.x.injEq, exists_eq', exists_eq, exists_and_right, exists_const, and_self]
  refine ⟨hd.1, lw_ok ?_⟩
  cases hi : inL d with
  | false =>
    simp only [mV_e, mC_e, mO_e, mOp_e, mUn_e, mT_e, mNotT_e, mAndT_e, mOrT_e, mAnd_e, mOr_e, mNot_e, mIf_e, mChain_e, mNil_e, mCons_e, mTup_e, mLst_e, mLk_e, mCat_e, mCB_e, mCL_e, vD_e, vL_e, vM0_e, mSkip_e, mSeq_e, mAsg_e, mRet_e, mIfS_e, mDrop_e, vNil_e, vCons_e, mPar_e, bName_e, bTup_e, bNil_e, bCons_e, mUnp_e, mFor_e, mForR_e, mForR2_e, mApp_e, mYes_e, mLc_e, mLcR_e, mLcR2_e, mLcZ_e, gNo_e, gE_e, gO_e, mCall_e, mFn_e, mIsi_e, mSS_e, mNo_e, mPt_e, mSl_e, mDG_e, mDGd_e, mDIn_e, mPut_e, mSD_e, mRetO_e, vDof_e, mForZ_e, mNG_e, mNGd_e, mNPut_e, vN0_e, mLcN_e, mDGL_e, mForD_e, asN, mLc2_e, mForZT_e, mRep_e, mIfT_e, mExt_e, bUnl_e, mLcR3_e, mLZ_e, wipeE, pow6, pow7, pow9, pow15, pow18, pow39, asM, List.replicate, List.cons_append, List.nil_append, List.getElem?_cons_zero, List.getElem?_cons_succ, enAll, List.set_cons_zero, List.set_cons_succ, Nat.reduceSub, List.length_cons, List.length_nil, decide_eq_true_eq, Nat.reduceAdd, Nat.reduceLeDiff, true_and, Bool.not_true, Bool.not_false, if_true, if_false, Bool.false_eq_true, Bool.not_eq_true', decide_eq_false_iff_not, Int.reduceLE, Int.reduceLT, Int.reduceNeg, Int.reduceSub, Int.reduceAdd, and_true, PyData.int.injEq, Nat.zero_add, Int.zero_add, Int.sub_zero, addW_ii, addW_ib, addW_bi, addW_tt, addW_ll, subW_ii, subW_ib, subW_bi, mulW_ii, fdivW_ii, modW_ii, negW_i, eqW_ii, eqW_ss, eqW_t0, eqW_l0, neW_ii, neW_ss, neW_t0, neW_l0, ltW_ii, leW_ii, gtW_ii, geW_ii, isW_n, isntW_n, ixW_l, ixW_t, lenW_l, lenW_t, absW_i, intW_i, intW_b, tupW_l, tupW_t, lstW_l, lstW_t, sumW_l, allW_l, anyW_l, minW_2, maxW_2, slW_t, slW_l, revW_t, revW_l, reprW_1, strW_i, strW_b, sortW_l, sortW_t, Option.some.injEq, exists_eq_left', exists_eq_left, dKey, exists_and_left, exists_const, mTry_e, mRaise_e, mAsgX_e, mRetX_e, nz_e, mCallX_e, mMk_e, mMethX_e, mFld_e, gOb_e, mFnX_e, mInit1_e, mCalm_e, mIsiV_e, mXf_e, mXis_e, mCnt_e, eqI_ii, isVal, List.getD_cons_zero, List.getD_cons_succ, xcL, ne_eq, Nat.reduceEqDiff, Nat.add_eq_zero_iff, Nat.reduceLT, and_false, not_false_eq_true, Sl.d.injEq, Sl.o.injEq, Sl.x.injEq, exists_eq', exists_eq, exists_and_right, exists_const, and_self]
    unfold roomD at key
    rw [if_neg (by rw [hi]; decide)] at key
    exact key
  | true =>
    cases d with
    | int i =>
      simp only [mV_e, mC_e, mO_e, mOp_e, mUn_e, mT_e, mNotT_e, mAndT_e, mOrT_e, mAnd_e, mOr_e, mNot_e, mIf_e, mChain_e, mNil_e, mCons_e, mTup_e, mLst_e, mLk_e, mCat_e, mCB_e, mCL_e, vD_e, vL_e, vM0_e, mSkip_e, mSeq_e, mAsg_e, mRet_e, mIfS_e, mDrop_e, vNil_e, vCons_e, mPar_e, bName_e, bTup_e, bNil_e, bCons_e, mUnp_e, mFor_e, mForR_e, mForR2_e, mApp_e, mYes_e, mLc_e, mLcR_e, mLcR2_e, mLcZ_e, gNo_e, gE_e, gO_e, mCall_e, mFn_e, mIsi_e, mSS_e, mNo_e, mPt_e, mSl_e, mDG_e, mDGd_e, mDIn_e, mPut_e, mSD_e, mRetO_e, vDof_e, mForZ_e, mNG_e, mNGd_e, mNPut_e, vN0_e, mLcN_e, mDGL_e, mForD_e, asN, mLc2_e, mForZT_e, mRep_e, mIfT_e, mExt_e, bUnl_e, mLcR3_e, mLZ_e, wipeE, pow6, pow7, pow9, pow15, pow18, pow39, asM, List.replicate, List.cons_append, List.nil_append, List.getElem?_cons_zero, List.getElem?_cons_succ, enAll, List.set_cons_zero, List.set_cons_succ, Nat.reduceSub, List.length_cons, List.length_nil, decide_eq_true_eq, Nat.reduceAdd, Nat.reduceLeDiff, true_and, Bool.not_true, Bool.not_false, if_true, if_false, Bool.false_eq_true, Bool.not_eq_true', decide_eq_false_iff_not, Int.reduceLE, Int.reduceLT, Int.reduceNeg, Int.reduceSub, Int.reduceAdd, and_true, PyData.int.injEq, Nat.zero_add, Int.zero_add, Int.sub_zero, addW_ii, addW_ib, addW_bi, addW_tt, addW_ll, subW_ii, subW_ib, subW_bi, mulW_ii, fdivW_ii, modW_ii, negW_i, eqW_ii, eqW_ss, eqW_t0, eqW_l0, neW_ii, neW_ss, neW_t0, neW_l0, ltW_ii, leW_ii, gtW_ii, geW_ii, isW_n, isntW_n, ixW_l, ixW_t, lenW_l, lenW_t, absW_i, intW_i, intW_b, tupW_l, tupW_t, lstW_l, lstW_t, sumW_l, allW_l, anyW_l, minW_2, maxW_2, slW_t, slW_l, revW_t, revW_l, reprW_1, strW_i, strW_b, sortW_l, sortW_t, Option.some.injEq, exists_eq_left', exists_eq_left, dKey, exists_and_left, exists_const, mTry_e, mRaise_e, mAsgX_e, mRetX_e, nz_e, mCallX_e, mMk_e, mMethX_e, mFld_e, gOb_e, mFnX_e, mInit1_e, mCalm_e, mIsiV_e, mXf_e, mXis_e, mCnt_e, eqI_ii, isVal, List.getD_cons_zero, List.getD_cons_succ, xcL, ne_eq, Nat.reduceEqDiff, Nat.add_eq_zero_iff, Nat.reduceLT, and_false, not_false_eq_true, Sl.d.injEq, Sl.o.injEq, Sl.x.injEq, exists_eq', exists_eq, exists_and_right, exists_const, and_self]
      unfold roomD at key
      rw [if_pos hi] at key
      by_cases h : i ≤ m
      · simp only [if_pos h] at key ⊢
        exact key
      · simp only [if_neg h] at key ⊢
        exact ⟨hd.1, key⟩
    | _ => cases hi
def turnB (ad : Nat → Addr) : WS := mSeq (S_law_15 ad) (mSeq (S_law_14 ad) (S_law_13 ad))
theorem vd_pick {d : PyData} (h : d ∈ odd) : Vd d := vd_odd d h
theorem one_turn {b : Nat} {F : WEnds} {s3 s4 s5 s6 s7 s8 : Sl} (hb : b ≤ 100000) (q : ∀ b' s4 s5 s6 s7 s8, b' ≤ b + 100 → F.nx (lE s3 s4 s5 s6 s7 s8) b') : turnB ad (lE s3 s4 s5 s6 s7 s8) b F := by
  unfold turnB
  simp only [S_law_15, mV_e, mC_e, mO_e, mOp_e, mUn_e, mT_e, mNotT_e, mAndT_e, mOrT_e, mAnd_e, mOr_e, mNot_e, mIf_e, mChain_e, mNil_e, mCons_e, mTup_e, mLst_e, mLk_e, mCat_e, mCB_e, mCL_e, vD_e, vL_e, vM0_e, mSkip_e, mSeq_e, mAsg_e, mRet_e, mIfS_e, mDrop_e, vNil_e, vCons_e, mPar_e, bName_e, bTup_e, bNil_e, bCons_e, mUnp_e, mFor_e, mForR_e, mForR2_e, mApp_e, mYes_e, mLc_e, mLcR_e, mLcR2_e, mLcZ_e, gNo_e, gE_e, gO_e, mCall_e, mFn_e, mIsi_e, mSS_e, mNo_e, mPt_e, mSl_e, mDG_e, mDGd_e, mDIn_e, mPut_e, mSD_e, mRetO_e, vDof_e, mForZ_e, mNG_e, mNGd_e, mNPut_e, vN0_e, mLcN_e, mDGL_e, mForD_e, asN, mLc2_e, mForZT_e, mRep_e, mIfT_e, mExt_e, bUnl_e, mLcR3_e, mLZ_e, wipeE, pow6, pow7, pow9, pow15, pow18, pow39, asM, List.replicate, List.cons_append, List.nil_append, List.getElem?_cons_zero, List.getElem?_cons_succ, enAll, List.set_cons_zero, List.set_cons_succ, Nat.reduceSub, List.length_cons, List.length_nil, decide_eq_true_eq, Nat.reduceAdd, Nat.reduceLeDiff, true_and, Bool.not_true, Bool.not_false, if_true, if_false, Bool.false_eq_true, Bool.not_eq_true', decide_eq_false_iff_not, Int.reduceLE, Int.reduceLT, Int.reduceNeg, Int.reduceSub, Int.reduceAdd, and_true, PyData.int.injEq, Nat.zero_add, Int.zero_add, Int.sub_zero, addW_ii, addW_ib, addW_bi, addW_tt, addW_ll, subW_ii, subW_ib, subW_bi, mulW_ii, fdivW_ii, modW_ii, negW_i, eqW_ii, eqW_ss, eqW_t0, eqW_l0, neW_ii, neW_ss, neW_t0, neW_l0, ltW_ii, leW_ii, gtW_ii, geW_ii, isW_n, isntW_n, ixW_l, ixW_t, lenW_l, lenW_t, absW_i, intW_i, intW_b, tupW_l, tupW_t, lstW_l, lstW_t, sumW_l, allW_l, anyW_l, minW_2, maxW_2, slW_t, slW_l, revW_t, revW_l, reprW_1, strW_i, strW_b, sortW_l, sortW_t, Option.some.injEq, exists_eq_left', exists_eq_left, dKey, exists_and_left, exists_const, mTry_e, mRaise_e, mAsgX_e, mRetX_e, nz_e, mCallX_e, mMk_e, mMethX_e, mFld_e, gOb_e, mFnX_e, mInit1_e, mCalm_e, mIsiV_e, mXf_e, mXis_e, mCnt_e, eqI_ii, isVal, List.getD_cons_zero, List.getD_cons_succ, xcL, ne_eq, Nat.reduceEqDiff, Nat.add_eq_zero_iff, Nat.reduceLT, and_false, not_false_eq_true, Sl.d.injEq, Sl.o.injEq, Sl.x.injEq, exists_eq', exists_eq, exists_and_right, exists_const, and_self]
  refine mDrawW_at (by omega) (by omega) (by omega) fun r1 r0 r1' => ?_
  refine mDrawW_at (by omega) (by omega) (by omega) fun r2 r20 r21 => ?_
  refine pick_any (l := odd) r20 r21 fun o ho => ?_
  refine mDrawW_at (by omega) (by omega) (by omega) fun r3 r30 r31 => ?_
  refine pick_any r30 r31 fun d hd => ?_
  have vd : Vd d := by
    simp only [List.mem_cons, List.not_mem_nil, or_false] at hd
    rcases hd with rfl | rfl | rfl | rfl
    · exact vd_int (by decide)
    · exact vd_int (by decide)
    · exact vd_int (by omega)
    · exact vd_odd _ ho
  simp only [S_law_14, mV_e, mC_e, mO_e, mOp_e, mUn_e, mT_e, mNotT_e, mAndT_e, mOrT_e, mAnd_e, mOr_e, mNot_e, mIf_e, mChain_e, mNil_e, mCons_e, mTup_e, mLst_e, mLk_e, mCat_e, mCB_e, mCL_e, vD_e, vL_e, vM0_e, mSkip_e, mSeq_e, mAsg_e, mRet_e, mIfS_e, mDrop_e, vNil_e, vCons_e, mPar_e, bName_e, bTup_e, bNil_e, bCons_e, mUnp_e, mFor_e, mForR_e, mForR2_e, mApp_e, mYes_e, mLc_e, mLcR_e, mLcR2_e, mLcZ_e, gNo_e, gE_e, gO_e, mCall_e, mFn_e, mIsi_e, mSS_e, mNo_e, mPt_e, mSl_e, mDG_e, mDGd_e, mDIn_e, mPut_e, mSD_e, mRetO_e, vDof_e, mForZ_e, mNG_e, mNGd_e, mNPut_e, vN0_e, mLcN_e, mDGL_e, mForD_e, asN, mLc2_e, mForZT_e, mRep_e, mIfT_e, mExt_e, bUnl_e, mLcR3_e, mLZ_e, wipeE, pow6, pow7, pow9, pow15, pow18, pow39, asM, List.replicate, List.cons_append, List.nil_append, List.getElem?_cons_zero, List.getElem?_cons_succ, enAll, List.set_cons_zero, List.set_cons_succ, Nat.reduceSub, List.length_cons, List.length_nil, decide_eq_true_eq, Nat.reduceAdd, Nat.reduceLeDiff, true_and, Bool.not_true, Bool.not_false, if_true, if_false, Bool.false_eq_true, Bool.not_eq_true', decide_eq_false_iff_not, Int.reduceLE, Int.reduceLT, Int.reduceNeg, Int.reduceSub, Int.reduceAdd, and_true, PyData.int.injEq, Nat.zero_add, Int.zero_add, Int.sub_zero, addW_ii, addW_ib, addW_bi, addW_tt, addW_ll, subW_ii, subW_ib, subW_bi, mulW_ii, fdivW_ii, modW_ii, negW_i, eqW_ii, eqW_ss, eqW_t0, eqW_l0, neW_ii, neW_ss, neW_t0, neW_l0, ltW_ii, leW_ii, gtW_ii, geW_ii, isW_n, isntW_n, ixW_l, ixW_t, lenW_l, lenW_t, absW_i, intW_i, intW_b, tupW_l, tupW_t, lstW_l, lstW_t, sumW_l, allW_l, anyW_l, minW_2, maxW_2, slW_t, slW_l, revW_t, revW_l, reprW_1, strW_i, strW_b, sortW_l, sortW_t, Option.some.injEq, exists_eq_left', exists_eq_left, dKey, exists_and_left, exists_const, mTry_e, mRaise_e, mAsgX_e, mRetX_e, nz_e, mCallX_e, mMk_e, mMethX_e, mFld_e, gOb_e, mFnX_e, mInit1_e, mCalm_e, mIsiV_e, mXf_e, mXis_e, mCnt_e, eqI_ii, isVal, List.getD_cons_zero, List.getD_cons_succ, xcL, ne_eq, Nat.reduceEqDiff, Nat.add_eq_zero_iff, Nat.reduceLT, and_false, not_false_eq_true, Sl.d.injEq, Sl.o.injEq, Sl.x.injEq, exists_eq', exists_eq, exists_and_right, exists_const, and_self]
  refine made_ok vd.1 (fun hi => ?_) (fun hi => ?_)
  · simp only [S_law_13, mV_e, mC_e, mO_e, mOp_e, mUn_e, mT_e, mNotT_e, mAndT_e, mOrT_e, mAnd_e, mOr_e, mNot_e, mIf_e, mChain_e, mNil_e, mCons_e, mTup_e, mLst_e, mLk_e, mCat_e, mCB_e, mCL_e, vD_e, vL_e, vM0_e, mSkip_e, mSeq_e, mAsg_e, mRet_e, mIfS_e, mDrop_e, vNil_e, vCons_e, mPar_e, bName_e, bTup_e, bNil_e, bCons_e, mUnp_e, mFor_e, mForR_e, mForR2_e, mApp_e, mYes_e, mLc_e, mLcR_e, mLcR2_e, mLcZ_e, gNo_e, gE_e, gO_e, mCall_e, mFn_e, mIsi_e, mSS_e, mNo_e, mPt_e, mSl_e, mDG_e, mDGd_e, mDIn_e, mPut_e, mSD_e, mRetO_e, vDof_e, mForZ_e, mNG_e, mNGd_e, mNPut_e, vN0_e, mLcN_e, mDGL_e, mForD_e, asN, mLc2_e, mForZT_e, mRep_e, mIfT_e, mExt_e, bUnl_e, mLcR3_e, mLZ_e, wipeE, pow6, pow7, pow9, pow15, pow18, pow39, asM, List.replicate, List.cons_append, List.nil_append, List.getElem?_cons_zero, List.getElem?_cons_succ, enAll, List.set_cons_zero, List.set_cons_succ, Nat.reduceSub, List.length_cons, List.length_nil, decide_eq_true_eq, Nat.reduceAdd, Nat.reduceLeDiff, true_and, Bool.not_true, Bool.not_false, if_true, if_false, Bool.false_eq_true, Bool.not_eq_true', decide_eq_false_iff_not, Int.reduceLE, Int.reduceLT, Int.reduceNeg, Int.reduceSub, Int.reduceAdd, and_true, PyData.int.injEq, Nat.zero_add, Int.zero_add, Int.sub_zero, addW_ii, addW_ib, addW_bi, addW_tt, addW_ll, subW_ii, subW_ib, subW_bi, mulW_ii, fdivW_ii, modW_ii, negW_i, eqW_ii, eqW_ss, eqW_t0, eqW_l0, neW_ii, neW_ss, neW_t0, neW_l0, ltW_ii, leW_ii, gtW_ii, geW_ii, isW_n, isntW_n, ixW_l, ixW_t, lenW_l, lenW_t, absW_i, intW_i, intW_b, tupW_l, tupW_t, lstW_l, lstW_t, sumW_l, allW_l, anyW_l, minW_2, maxW_2, slW_t, slW_l, revW_t, revW_l, reprW_1, strW_i, strW_b, sortW_l, sortW_t, Option.some.injEq, exists_eq_left', exists_eq_left, dKey, exists_and_left, exists_const, mTry_e, mRaise_e, mAsgX_e, mRetX_e, nz_e, mCallX_e, mMk_e, mMethX_e, mFld_e, gOb_e, mFnX_e, mInit1_e, mCalm_e, mIsiV_e, mXf_e, mXis_e, mCnt_e, eqI_ii, isVal, List.getD_cons_zero, List.getD_cons_succ, xcL, ne_eq, Nat.reduceEqDiff, Nat.add_eq_zero_iff, Nat.reduceLT, and_false, not_false_eq_true, Sl.d.injEq, Sl.o.injEq, Sl.x.injEq, exists_eq', exists_eq, exists_and_right, exists_const, and_self]
    cases d with
    | int m =>
      have hm : 0 ≤ m ∧ m ≤ 1000000000000000000 := by simpa only [inL, Bool.and_eq_true, decide_eq_true_eq] using hi
      refine lw_ok ?_
      rw [hi]
      simp only [S_law_12, S_law_11, mV_e, mC_e, mO_e, mOp_e, mUn_e, mT_e, mNotT_e, mAndT_e, mOrT_e, mAnd_e, mOr_e, mNot_e, mIf_e, mChain_e, mNil_e, mCons_e, mTup_e, mLst_e, mLk_e, mCat_e, mCB_e, mCL_e, vD_e, vL_e, vM0_e, mSkip_e, mSeq_e, mAsg_e, mRet_e, mIfS_e, mDrop_e, vNil_e, vCons_e, mPar_e, bName_e, bTup_e, bNil_e, bCons_e, mUnp_e, mFor_e, mForR_e, mForR2_e, mApp_e, mYes_e, mLc_e, mLcR_e, mLcR2_e, mLcZ_e, gNo_e, gE_e, gO_e, mCall_e, mFn_e, mIsi_e, mSS_e, mNo_e, mPt_e, mSl_e, mDG_e, mDGd_e, mDIn_e, mPut_e, mSD_e, mRetO_e, vDof_e, mForZ_e, mNG_e, mNGd_e, mNPut_e, vN0_e, mLcN_e, mDGL_e, mForD_e, asN, mLc2_e, mForZT_e, mRep_e, mIfT_e, mExt_e, bUnl_e, mLcR3_e, mLZ_e, wipeE, pow6, pow7, pow9, pow15, pow18, pow39, asM, List.replicate, List.cons_append, List.nil_append, List.getElem?_cons_zero, List.getElem?_cons_succ, enAll, List.set_cons_zero, List.set_cons_succ, Nat.reduceSub, List.length_cons, List.length_nil, decide_eq_true_eq, Nat.reduceAdd, Nat.reduceLeDiff, true_and, Bool.not_true, Bool.not_false, if_true, if_false, Bool.false_eq_true, Bool.not_eq_true', decide_eq_false_iff_not, Int.reduceLE, Int.reduceLT, Int.reduceNeg, Int.reduceSub, Int.reduceAdd, and_true, PyData.int.injEq, Nat.zero_add, Int.zero_add, Int.sub_zero, addW_ii, addW_ib, addW_bi, addW_tt, addW_ll, subW_ii, subW_ib, subW_bi, mulW_ii, fdivW_ii, modW_ii, negW_i, eqW_ii, eqW_ss, eqW_t0, eqW_l0, neW_ii, neW_ss, neW_t0, neW_l0, ltW_ii, leW_ii, gtW_ii, geW_ii, isW_n, isntW_n, ixW_l, ixW_t, lenW_l, lenW_t, absW_i, intW_i, intW_b, tupW_l, tupW_t, lstW_l, lstW_t, sumW_l, allW_l, anyW_l, minW_2, maxW_2, slW_t, slW_l, revW_t, revW_l, reprW_1, strW_i, strW_b, sortW_l, sortW_t, Option.some.injEq, exists_eq_left', exists_eq_left, dKey, exists_and_left, exists_const, mTry_e, mRaise_e, mAsgX_e, mRetX_e, nz_e, mCallX_e, mMk_e, mMethX_e, mFld_e, gOb_e, mFnX_e, mInit1_e, mCalm_e, mIsiV_e, mXf_e, mXis_e, mCnt_e, eqI_ii, isVal, List.getD_cons_zero, List.getD_cons_succ, xcL, ne_eq, Nat.reduceEqDiff, Nat.add_eq_zero_iff, Nat.reduceLT, and_false, not_false_eq_true, Sl.d.injEq, Sl.o.injEq, Sl.x.injEq, exists_eq', exists_eq, exists_and_right, exists_const, and_self]
      rw [if_neg (by decide)]
      refine mDrawW_at (by omega) (by omega) (by omega) fun r4 r40 r41 => ?_
      simp only [S_law_10, mV_e, mC_e, mO_e, mOp_e, mUn_e, mT_e, mNotT_e, mAndT_e, mOrT_e, mAnd_e, mOr_e, mNot_e, mIf_e, mChain_e, mNil_e, mCons_e, mTup_e, mLst_e, mLk_e, mCat_e, mCB_e, mCL_e, vD_e, vL_e, vM0_e, mSkip_e, mSeq_e, mAsg_e, mRet_e, mIfS_e, mDrop_e, vNil_e, vCons_e, mPar_e, bName_e, bTup_e, bNil_e, bCons_e, mUnp_e, mFor_e, mForR_e, mForR2_e, mApp_e, mYes_e, mLc_e, mLcR_e, mLcR2_e, mLcZ_e, gNo_e, gE_e, gO_e, mCall_e, mFn_e, mIsi_e, mSS_e, mNo_e, mPt_e, mSl_e, mDG_e, mDGd_e, mDIn_e, mPut_e, mSD_e, mRetO_e, vDof_e, mForZ_e, mNG_e, mNGd_e, mNPut_e, vN0_e, mLcN_e, mDGL_e, mForD_e, asN, mLc2_e, mForZT_e, mRep_e, mIfT_e, mExt_e, bUnl_e, mLcR3_e, mLZ_e, wipeE, pow6, pow7, pow9, pow15, pow18, pow39, asM, List.replicate, List.cons_append, List.nil_append, List.getElem?_cons_zero, List.getElem?_cons_succ, enAll, List.set_cons_zero, List.set_cons_succ, Nat.reduceSub, List.length_cons, List.length_nil, decide_eq_true_eq, Nat.reduceAdd, Nat.reduceLeDiff, true_and, Bool.not_true, Bool.not_false, if_true, if_false, Bool.false_eq_true, Bool.not_eq_true', decide_eq_false_iff_not, Int.reduceLE, Int.reduceLT, Int.reduceNeg, Int.reduceSub, Int.reduceAdd, and_true, PyData.int.injEq, Nat.zero_add, Int.zero_add, Int.sub_zero, addW_ii, addW_ib, addW_bi, addW_tt, addW_ll, subW_ii, subW_ib, subW_bi, mulW_ii, fdivW_ii, modW_ii, negW_i, eqW_ii, eqW_ss, eqW_t0, eqW_l0, neW_ii, neW_ss, neW_t0, neW_l0, ltW_ii, leW_ii, gtW_ii, geW_ii, isW_n, isntW_n, ixW_l, ixW_t, lenW_l, lenW_t, absW_i, intW_i, intW_b, tupW_l, tupW_t, lstW_l, lstW_t, sumW_l, allW_l, anyW_l, minW_2, maxW_2, slW_t, slW_l, revW_t, revW_l, reprW_1, strW_i, strW_b, sortW_l, sortW_t, Option.some.injEq, exists_eq_left', exists_eq_left, dKey, exists_and_left, exists_const, mTry_e, mRaise_e, mAsgX_e, mRetX_e, nz_e, mCallX_e, mMk_e, mMethX_e, mFld_e, gOb_e, mFnX_e, mInit1_e, mCalm_e, mIsiV_e, mXf_e, mXis_e, mCnt_e, eqI_ii, isVal, List.getD_cons_zero, List.getD_cons_succ, xcL, ne_eq, Nat.reduceEqDiff, Nat.add_eq_zero_iff, Nat.reduceLT, and_false, not_false_eq_true, Sl.d.injEq, Sl.o.injEq, Sl.x.injEq, exists_eq', exists_eq, exists_and_right, exists_const, and_self]
      refine mDrawW_at (by omega) (by omega) (by omega) fun r5 r50 r51 => ?_
      refine pick_any (l := odd) r50 r51 fun o1 ho1 => ?_
      refine mDrawW_at (by omega) (by omega) (by omega) fun r6 r60 r61 => ?_
      refine pick_any (l := odd) r60 r61 fun o2 ho2 => ?_
      refine turns_ind (t := bName 7) (m := mSeq (S_law_9 ad) (mSeq (S_law_8 ad) (S_law_6 ad))) (F := F) (fun xs E b1 => (∀ x ∈ xs, Vd x) ∧ b1 ≤ b + 100 ∧ ∃ s6 s7 s8, E = lE s3 (.d (.int m)) (.o (ad 5) [("most", .int m)]) s6 s7 s8) (fun x xs E b1 F' h hn hc e1 e2 e3 => ?_) (fun E b1 h => ?_) _ _ (b + 1 + 1 + 1 + 1 + 1 + 1) ⟨?_, by omega, _, _, _, rfl⟩
      · obtain ⟨hx, hb1, s6, s7, s8, rfl⟩ := h
        rw [bName_e]
        exact in_turn hm (hx x (List.mem_cons_self ..)) fun s8 => hn _ _ ⟨fun y hy => hx y (List.mem_cons_of_mem _ hy), hb1, _, _, _, rfl⟩
      · obtain ⟨_, hb1, s6, s7, s8, rfl⟩ := h
        exact q _ _ _ _ _ _ hb1
      · intro x hx
        simp only [List.mem_cons, List.not_mem_nil, or_false] at hx
        rcases hx with rfl | rfl | rfl | rfl | rfl | rfl | rfl | rfl | rfl | rfl | rfl
        · exact vd_int (by decide)
        · exact vd_bool _
        · exact vd_int (by decide)
        · exact vd_bool _
        · exact vd
        · exact vd_int (by split <;> omega)
        · exact vd_int (by omega)
        · exact vd_int (by omega)
        · exact vd_int (by decide)
        · exact vd_odd _ ho1
        · exact vd_odd _ ho2
    | _ => cases hi
  · simp only [S_law_13, mV_e, mC_e, mO_e, mOp_e, mUn_e, mT_e, mNotT_e, mAndT_e, mOrT_e, mAnd_e, mOr_e, mNot_e, mIf_e, mChain_e, mNil_e, mCons_e, mTup_e, mLst_e, mLk_e, mCat_e, mCB_e, mCL_e, vD_e, vL_e, vM0_e, mSkip_e, mSeq_e, mAsg_e, mRet_e, mIfS_e, mDrop_e, vNil_e, vCons_e, mPar_e, bName_e, bTup_e, bNil_e, bCons_e, mUnp_e, mFor_e, mForR_e, mForR2_e, mApp_e, mYes_e, mLc_e, mLcR_e, mLcR2_e, mLcZ_e, gNo_e, gE_e, gO_e, mCall_e, mFn_e, mIsi_e, mSS_e, mNo_e, mPt_e, mSl_e, mDG_e, mDGd_e, mDIn_e, mPut_e, mSD_e, mRetO_e, vDof_e, mForZ_e, mNG_e, mNGd_e, mNPut_e, vN0_e, mLcN_e, mDGL_e, mForD_e, asN, mLc2_e, mForZT_e, mRep_e, mIfT_e, mExt_e, bUnl_e, mLcR3_e, mLZ_e, wipeE, pow6, pow7, pow9, pow15, pow18, pow39, asM, List.replicate, List.cons_append, List.nil_append, List.getElem?_cons_zero, List.getElem?_cons_succ, enAll, List.set_cons_zero, List.set_cons_succ, Nat.reduceSub, List.length_cons, List.length_nil, decide_eq_true_eq, Nat.reduceAdd, Nat.reduceLeDiff, true_and, Bool.not_true, Bool.not_false, if_true, if_false, Bool.false_eq_true, Bool.not_eq_true', decide_eq_false_iff_not, Int.reduceLE, Int.reduceLT, Int.reduceNeg, Int.reduceSub, Int.reduceAdd, and_true, PyData.int.injEq, Nat.zero_add, Int.zero_add, Int.sub_zero, addW_ii, addW_ib, addW_bi, addW_tt, addW_ll, subW_ii, subW_ib, subW_bi, mulW_ii, fdivW_ii, modW_ii, negW_i, eqW_ii, eqW_ss, eqW_t0, eqW_l0, neW_ii, neW_ss, neW_t0, neW_l0, ltW_ii, leW_ii, gtW_ii, geW_ii, isW_n, isntW_n, ixW_l, ixW_t, lenW_l, lenW_t, absW_i, intW_i, intW_b, tupW_l, tupW_t, lstW_l, lstW_t, sumW_l, allW_l, anyW_l, minW_2, maxW_2, slW_t, slW_l, revW_t, revW_l, reprW_1, strW_i, strW_b, sortW_l, sortW_t, Option.some.injEq, exists_eq_left', exists_eq_left, dKey, exists_and_left, exists_const, mTry_e, mRaise_e, mAsgX_e, mRetX_e, nz_e, mCallX_e, mMk_e, mMethX_e, mFld_e, gOb_e, mFnX_e, mInit1_e, mCalm_e, mIsiV_e, mXf_e, mXis_e, mCnt_e, eqI_ii, isVal, List.getD_cons_zero, List.getD_cons_succ, xcL, ne_eq, Nat.reduceEqDiff, Nat.add_eq_zero_iff, Nat.reduceLT, and_false, not_false_eq_true, Sl.d.injEq, Sl.o.injEq, Sl.x.injEq, exists_eq', exists_eq, exists_and_right, exists_const, and_self]
    refine lw_ok ?_
    rw [hi]
    simp only [S_law_3, mV_e, mC_e, mO_e, mOp_e, mUn_e, mT_e, mNotT_e, mAndT_e, mOrT_e, mAnd_e, mOr_e, mNot_e, mIf_e, mChain_e, mNil_e, mCons_e, mTup_e, mLst_e, mLk_e, mCat_e, mCB_e, mCL_e, vD_e, vL_e, vM0_e, mSkip_e, mSeq_e, mAsg_e, mRet_e, mIfS_e, mDrop_e, vNil_e, vCons_e, mPar_e, bName_e, bTup_e, bNil_e, bCons_e, mUnp_e, mFor_e, mForR_e, mForR2_e, mApp_e, mYes_e, mLc_e, mLcR_e, mLcR2_e, mLcZ_e, gNo_e, gE_e, gO_e, mCall_e, mFn_e, mIsi_e, mSS_e, mNo_e, mPt_e, mSl_e, mDG_e, mDGd_e, mDIn_e, mPut_e, mSD_e, mRetO_e, vDof_e, mForZ_e, mNG_e, mNGd_e, mNPut_e, vN0_e, mLcN_e, mDGL_e, mForD_e, asN, mLc2_e, mForZT_e, mRep_e, mIfT_e, mExt_e, bUnl_e, mLcR3_e, mLZ_e, wipeE, pow6, pow7, pow9, pow15, pow18, pow39, asM, List.replicate, List.cons_append, List.nil_append, List.getElem?_cons_zero, List.getElem?_cons_succ, enAll, List.set_cons_zero, List.set_cons_succ, Nat.reduceSub, List.length_cons, List.length_nil, decide_eq_true_eq, Nat.reduceAdd, Nat.reduceLeDiff, true_and, Bool.not_true, Bool.not_false, if_true, if_false, Bool.false_eq_true, Bool.not_eq_true', decide_eq_false_iff_not, Int.reduceLE, Int.reduceLT, Int.reduceNeg, Int.reduceSub, Int.reduceAdd, and_true, PyData.int.injEq, Nat.zero_add, Int.zero_add, Int.sub_zero, addW_ii, addW_ib, addW_bi, addW_tt, addW_ll, subW_ii, subW_ib, subW_bi, mulW_ii, fdivW_ii, modW_ii, negW_i, eqW_ii, eqW_ss, eqW_t0, eqW_l0, neW_ii, neW_ss, neW_t0, neW_l0, ltW_ii, leW_ii, gtW_ii, geW_ii, isW_n, isntW_n, ixW_l, ixW_t, lenW_l, lenW_t, absW_i, intW_i, intW_b, tupW_l, tupW_t, lstW_l, lstW_t, sumW_l, allW_l, anyW_l, minW_2, maxW_2, slW_t, slW_l, revW_t, revW_l, reprW_1, strW_i, strW_b, sortW_l, sortW_t, Option.some.injEq, exists_eq_left', exists_eq_left, dKey, exists_and_left, exists_const, mTry_e, mRaise_e, mAsgX_e, mRetX_e, nz_e, mCallX_e, mMk_e, mMethX_e, mFld_e, gOb_e, mFnX_e, mInit1_e, mCalm_e, mIsiV_e, mXf_e, mXis_e, mCnt_e, eqI_ii, isVal, List.getD_cons_zero, List.getD_cons_succ, xcL, ne_eq, Nat.reduceEqDiff, Nat.add_eq_zero_iff, Nat.reduceLT, and_false, not_false_eq_true, Sl.d.injEq, Sl.o.injEq, Sl.x.injEq, exists_eq', exists_eq, exists_and_right, exists_const, and_self]
    rw [if_neg (fun h => nomatch h)]
    refine ⟨vd.1, ne_two ?_⟩
    simp only [and_self, decide_true, Bool.not_true, Bool.false_eq_true, if_false]
    exact q _ _ _ _ _ _ (by omega)
theorem law_ok (ad : Nat → Addr) : B_law ad (.no :: .s 1 :: List.replicate (N_law.length - 2) .no) 0 lawF := by
  simp only [B_law, S_law_17, List.length_cons, List.length_nil, Nat.zero_add, Nat.reduceAdd, mV_e, mC_e, mO_e, mOp_e, mUn_e, mT_e, mNotT_e, mAndT_e, mOrT_e, mAnd_e, mOr_e, mNot_e, mIf_e, mChain_e, mNil_e, mCons_e, mTup_e, mLst_e, mLk_e, mCat_e, mCB_e, mCL_e, vD_e, vL_e, vM0_e, mSkip_e, mSeq_e, mAsg_e, mRet_e, mIfS_e, mDrop_e, vNil_e, vCons_e, mPar_e, bName_e, bTup_e, bNil_e, bCons_e, mUnp_e, mFor_e, mForR_e, mForR2_e, mApp_e, mYes_e, mLc_e, mLcR_e, mLcR2_e, mLcZ_e, gNo_e, gE_e, gO_e, mCall_e, mFn_e, mIsi_e, mSS_e, mNo_e, mPt_e, mSl_e, mDG_e, mDGd_e, mDIn_e, mPut_e, mSD_e, mRetO_e, vDof_e, mForZ_e, mNG_e, mNGd_e, mNPut_e, vN0_e, mLcN_e, mDGL_e, mForD_e, asN, mLc2_e, mForZT_e, mRep_e, mIfT_e, mExt_e, bUnl_e, mLcR3_e, mLZ_e, wipeE, pow6, pow7, pow9, pow15, pow18, pow39, asM, List.replicate, List.cons_append, List.nil_append, List.getElem?_cons_zero, List.getElem?_cons_succ, enAll, List.set_cons_zero, List.set_cons_succ, Nat.reduceSub, List.length_cons, List.length_nil, decide_eq_true_eq, Nat.reduceAdd, Nat.reduceLeDiff, true_and, Bool.not_true, Bool.not_false, if_true, if_false, Bool.false_eq_true, Bool.not_eq_true', decide_eq_false_iff_not, Int.reduceLE, Int.reduceLT, Int.reduceNeg, Int.reduceSub, Int.reduceAdd, and_true, PyData.int.injEq, Nat.zero_add, Int.zero_add, Int.sub_zero, addW_ii, addW_ib, addW_bi, addW_tt, addW_ll, subW_ii, subW_ib, subW_bi, mulW_ii, fdivW_ii, modW_ii, negW_i, eqW_ii, eqW_ss, eqW_t0, eqW_l0, neW_ii, neW_ss, neW_t0, neW_l0, ltW_ii, leW_ii, gtW_ii, geW_ii, isW_n, isntW_n, ixW_l, ixW_t, lenW_l, lenW_t, absW_i, intW_i, intW_b, tupW_l, tupW_t, lstW_l, lstW_t, sumW_l, allW_l, anyW_l, minW_2, maxW_2, slW_t, slW_l, revW_t, revW_l, reprW_1, strW_i, strW_b, sortW_l, sortW_t, Option.some.injEq, exists_eq_left', exists_eq_left, dKey, exists_and_left, exists_const, mTry_e, mRaise_e, mAsgX_e, mRetX_e, nz_e, mCallX_e, mMk_e, mMethX_e, mFld_e, gOb_e, mFnX_e, mInit1_e, mCalm_e, mIsiV_e, mXf_e, mXis_e, mCnt_e, eqI_ii, isVal, List.getD_cons_zero, List.getD_cons_succ, xcL, ne_eq, Nat.reduceEqDiff, Nat.add_eq_zero_iff, Nat.reduceLT, and_false, not_false_eq_true, Sl.d.injEq, Sl.o.injEq, Sl.x.injEq, exists_eq', exists_eq, exists_and_right, exists_const, and_self]
  simp only [S_law_16, mV_e, mC_e, mO_e, mOp_e, mUn_e, mT_e, mNotT_e, mAndT_e, mOrT_e, mAnd_e, mOr_e, mNot_e, mIf_e, mChain_e, mNil_e, mCons_e, mTup_e, mLst_e, mLk_e, mCat_e, mCB_e, mCL_e, vD_e, vL_e, vM0_e, mSkip_e, mSeq_e, mAsg_e, mRet_e, mIfS_e, mDrop_e, vNil_e, vCons_e, mPar_e, bName_e, bTup_e, bNil_e, bCons_e, mUnp_e, mFor_e, mForR_e, mForR2_e, mApp_e, mYes_e, mLc_e, mLcR_e, mLcR2_e, mLcZ_e, gNo_e, gE_e, gO_e, mCall_e, mFn_e, mIsi_e, mSS_e, mNo_e, mPt_e, mSl_e, mDG_e, mDGd_e, mDIn_e, mPut_e, mSD_e, mRetO_e, vDof_e, mForZ_e, mNG_e, mNGd_e, mNPut_e, vN0_e, mLcN_e, mDGL_e, mForD_e, asN, mLc2_e, mForZT_e, mRep_e, mIfT_e, mExt_e, bUnl_e, mLcR3_e, mLZ_e, wipeE, pow6, pow7, pow9, pow15, pow18, pow39, asM, List.replicate, List.cons_append, List.nil_append, List.getElem?_cons_zero, List.getElem?_cons_succ, enAll, List.set_cons_zero, List.set_cons_succ, Nat.reduceSub, List.length_cons, List.length_nil, decide_eq_true_eq, Nat.reduceAdd, Nat.reduceLeDiff, true_and, Bool.not_true, Bool.not_false, if_true, if_false, Bool.false_eq_true, Bool.not_eq_true', decide_eq_false_iff_not, Int.reduceLE, Int.reduceLT, Int.reduceNeg, Int.reduceSub, Int.reduceAdd, and_true, PyData.int.injEq, Nat.zero_add, Int.zero_add, Int.sub_zero, addW_ii, addW_ib, addW_bi, addW_tt, addW_ll, subW_ii, subW_ib, subW_bi, mulW_ii, fdivW_ii, modW_ii, negW_i, eqW_ii, eqW_ss, eqW_t0, eqW_l0, neW_ii, neW_ss, neW_t0, neW_l0, ltW_ii, leW_ii, gtW_ii, geW_ii, isW_n, isntW_n, ixW_l, ixW_t, lenW_l, lenW_t, absW_i, intW_i, intW_b, tupW_l, tupW_t, lstW_l, lstW_t, sumW_l, allW_l, anyW_l, minW_2, maxW_2, slW_t, slW_l, revW_t, revW_l, reprW_1, strW_i, strW_b, sortW_l, sortW_t, Option.some.injEq, exists_eq_left', exists_eq_left, dKey, exists_and_left, exists_const, mTry_e, mRaise_e, mAsgX_e, mRetX_e, nz_e, mCallX_e, mMk_e, mMethX_e, mFld_e, gOb_e, mFnX_e, mInit1_e, mCalm_e, mIsiV_e, mXf_e, mXis_e, mCnt_e, eqI_ii, isVal, List.getD_cons_zero, List.getD_cons_succ, xcL, ne_eq, Nat.reduceEqDiff, Nat.add_eq_zero_iff, Nat.reduceLT, and_false, not_false_eq_true, Sl.d.injEq, Sl.o.injEq, Sl.x.injEq, exists_eq', exists_eq, exists_and_right, exists_const, and_self]
  refine ⟨by omega, ?_⟩
  refine turns_ind (fun xs E b1 => b1 + 100 * xs.length ≤ 1000 ∧ ∃ s3 s4 s5 s6 s7 s8, E = lE s3 s4 s5 s6 s7 s8) (fun x xs E b1 F' h hn hc e1 e2 e3 => ?_) (fun E b1 h => ?_) _ _ _ ⟨by decide, _, _, _, _, _, _, rfl⟩
  · obtain ⟨hb1, s3, s4, s5, s6, s7, s8, rfl⟩ := h
    simp only [List.length_cons] at hb1
    rw [bName_e]
    exact one_turn (by omega) fun b' s4 s5 s6 s7 s8 hb' => hn _ _ ⟨by omega, _, _, _, _, _, _, rfl⟩
  · obtain ⟨hb1, s3, s4, s5, s6, s7, s8, rfl⟩ := h
    simp only [S_law_1, mV_e, mC_e, mO_e, mOp_e, mUn_e, mT_e, mNotT_e, mAndT_e, mOrT_e, mAnd_e, mOr_e, mNot_e, mIf_e, mChain_e, mNil_e, mCons_e, mTup_e, mLst_e, mLk_e, mCat_e, mCB_e, mCL_e, vD_e, vL_e, vM0_e, mSkip_e, mSeq_e, mAsg_e, mRet_e, mIfS_e, mDrop_e, vNil_e, vCons_e, mPar_e, bName_e, bTup_e, bNil_e, bCons_e, mUnp_e, mFor_e, mForR_e, mForR2_e, mApp_e, mYes_e, mLc_e, mLcR_e, mLcR2_e, mLcZ_e, gNo_e, gE_e, gO_e, mCall_e, mFn_e, mIsi_e, mSS_e, mNo_e, mPt_e, mSl_e, mDG_e, mDGd_e, mDIn_e, mPut_e, mSD_e, mRetO_e, vDof_e, mForZ_e, mNG_e, mNGd_e, mNPut_e, vN0_e, mLcN_e, mDGL_e, mForD_e, asN, mLc2_e, mForZT_e, mRep_e, mIfT_e, mExt_e, bUnl_e, mLcR3_e, mLZ_e, wipeE, pow6, pow7, pow9, pow15, pow18, pow39, asM, List.replicate, List.cons_append, List.nil_append, List.getElem?_cons_zero, List.getElem?_cons_succ, enAll, List.set_cons_zero, List.set_cons_succ, Nat.reduceSub, List.length_cons, List.length_nil, decide_eq_true_eq, Nat.reduceAdd, Nat.reduceLeDiff, true_and, Bool.not_true, Bool.not_false, if_true, if_false, Bool.false_eq_true, Bool.not_eq_true', decide_eq_false_iff_not, Int.reduceLE, Int.reduceLT, Int.reduceNeg, Int.reduceSub, Int.reduceAdd, and_true, PyData.int.injEq, Nat.zero_add, Int.zero_add, Int.sub_zero, addW_ii, addW_ib, addW_bi, addW_tt, addW_ll, subW_ii, subW_ib, subW_bi, mulW_ii, fdivW_ii, modW_ii, negW_i, eqW_ii, eqW_ss, eqW_t0, eqW_l0, neW_ii, neW_ss, neW_t0, neW_l0, ltW_ii, leW_ii, gtW_ii, geW_ii, isW_n, isntW_n, ixW_l, ixW_t, lenW_l, lenW_t, absW_i, intW_i, intW_b, tupW_l, tupW_t, lstW_l, lstW_t, sumW_l, allW_l, anyW_l, minW_2, maxW_2, slW_t, slW_l, revW_t, revW_l, reprW_1, strW_i, strW_b, sortW_l, sortW_t, Option.some.injEq, exists_eq_left', exists_eq_left, dKey, exists_and_left, exists_const, mTry_e, mRaise_e, mAsgX_e, mRetX_e, nz_e, mCallX_e, mMk_e, mMethX_e, mFld_e, gOb_e, mFnX_e, mInit1_e, mCalm_e, mIsiV_e, mXf_e, mXis_e, mCnt_e, eqI_ii, isVal, List.getD_cons_zero, List.getD_cons_succ, xcL, ne_eq, Nat.reduceEqDiff, Nat.add_eq_zero_iff, Nat.reduceLT, and_false, not_false_eq_true, Sl.d.injEq, Sl.o.injEq, Sl.x.injEq, exists_eq', exists_eq, exists_and_right, exists_const, and_self]
    rfl
end Wp.K46

namespace WpK46h
open PySem PySem.Spec PyProof.Rows L2 Evl
open Wp.K46
section
open Cn
variable {P : Program} {w : World} {K : PySem.W.Frag} {mg : Str → Option Value} {base : Heap}
theorem ok_l_deck {f : Addr} {fd : FuncData} (F : Fun K "_law_deck" "_law_deck" s_l_deck f fd) (m_abs : mg "abs" = none) : FnOk P w K mg base CX0 1 f fd ["_law_script"] (spDeck K) := by
  refine F.ok sc_l_deck (fun vs H Q E h => ?_) (fun cdv A outer s H vs Q E hr h => ?_)
  · obtain ⟨a, ns, rfl, _⟩ := h
    rfl
  · obtain ⟨a, ns, rfl, hs, few, q⟩ := h
    refine ⟨_, (pss_one (ps_ret (pe_lst (pa_cons (pe_lc (own := [("_law_cell", 1)]) (g := (gName 1)) rfl sc_l_deck.nd (pi_listK (K := K) rfl (pe_slice (sl_listK (K := K) rfl) (pv 0) po_none (po_some pe_int))) (blkOk_by (N := N_l_deck) (sc := defScope s_l_deck) (by decide +kernel)) (fun _ _ _ _ _ => (pg_name (i := 1) sc_l_deck.nd rfl (.inl rfl))) (fun _ _ _ _ _ => pts_nil) (fun _ _ _ _ _ => (pe_callB call_abs (by rfl) m_abs (by decide +kernel) (pa_cons (pv 1) pa_nil)))) (pa_cons pe_int pa_nil))))), ?_⟩
    have hL := el_sl (K := K) (te := tVar 0) (σ := start N_l_deck [.ref a]) (H := H) (a := a) (ev_var rfl) eo_none (eo_some (te := tC (.int 63)) (i := 63) ev_c) hs
    rw [show ((63 : Int) = ((63 : Nat) : Int)) from rfl, cutTo _ 63 (by rw [List.length_map]; exact few)] at hL
    have hC := el_lcNL (K := K) (t := tYes) (te := tCB (fun xs H Q => ∃ i, xs = [V.int i] ∧ Q (.int (if i < 0 then -i else i)) H) (tCons (tVar 1) tNil)) (j := 1) (vs := [1]) (fun _ => true) (fun i => .int (if ns.getD i 0 < 0 then -ns.getD i 0 else ns.getD i 0)) hL (by rw [List.length_map]; omega) (fun _ => rfl) (fun _ _ _ _ _ => et_yes) (by
      intro i x H1 e1 hx _ H2 e2 Q2 k
      have hi : i < ns.length := by
        have := (List.getElem?_eq_some_iff.mp hx).1
        rw [List.length_map] at this
        exact this
      rw [List.getElem?_map, List.getElem?_eq_getElem hi] at hx
      cases hx
      refine ⟨_, rfl, _, rfl, ?_⟩
      have e : ns.getD i 0 = ns[i] := by simp [List.getD, List.getElem?_eq_getElem hi]
      rw [e] at k
      exact k H2 (Ex.refl H2))
    rw [List.length_map, given_map ns (fun z => .int (if z < 0 then -z else z)) _ (fun i z e => by simp [List.getD, e])] at hC
    dsimp only [tRet, tLst, tCons, tC, tNil]
    refine hC H (Ex.refl H) _ ?_
    refine fun p H1 np e1 h1 => ⟨by show 2 ≤ sizeLine; decide, fun D nD => ?_⟩
    have eN := Ex.new (o := .lst [.ref p, .int 0]) nD
    refine q D p _ (fresh_back e1 nD) np (e1.trans eN) ⟨0, ns.map fun z => if z < 0 then -z else z, ⟨upd_same, ?_⟩, by omega, by omega, by rw [List.length_map]; exact few, ?_⟩
    · rw [List.map_map]
      exact eN p _ h1
    · intro x hx
      obtain ⟨z, _, rfl⟩ := List.mem_map.mp hx
      split <;> omega
theorem ok_l_draw {f : Addr} {fd : FuncData} (F : Fun K "_law_draw" "_law_draw" s_l_draw f fd) (m_len : mg "len" = none) : FnOk P w K mg base CX0 1 f fd ["_law_deck_here", "_law_many"] spDrawW := by
  refine F.ok sc_l_draw (fun vs H Q E h => ?_) (fun cdv A outer s H vs Q E hr h => ?_)
  · obtain ⟨D, C, m, k, rfl, _⟩ := h
    rfl
  · obtain ⟨D, C, m, k, rfl, ⟨n, cs, dk, n0, nm, cl, cpos⟩, mb, k1, k2, q⟩ := h
    refine ⟨_, (pss_cons (ps_asg (pe_op op_add (pe_ix (ix_listK (K := K) rfl) (pv 0) pe_int (fun _ _ => rfl)) pe_int) (pg_sub (pv 0) pe_int set_list))
    (pss_cons (ps_set (i := 2) sc_l_draw.nd rfl (.inl rfl) pe_int)
    (pss_cons (ps_set (i := 3) sc_l_draw.nd rfl (.inl rfl) (pe_un un_neg pe_int))
    (pss_cut (ps_if (pt_cmpR op_gt (pe_callB (call_lenK (K := K) rfl) (by rfl) m_len PySem.boot_len (pa_cons (pe_ix (ix_listK (K := K) rfl) (pv 0) pe_int (fun _ _ => rfl)) pa_nil)) pe_int (nomark _)) (pss_cons (ps_set (i := 3) sc_l_draw.nd rfl (.inl rfl) (pe_op op_mod (pe_ix (ix_listK (K := K) rfl) (pv 0) pe_int (fun _ _ => rfl)) (pe_callB (call_lenK (K := K) rfl) (by rfl) m_len PySem.boot_len (pa_cons (pe_ix (ix_listK (K := K) rfl) (pv 0) pe_int (fun _ _ => rfl)) pa_nil))))
    (pss_one (ps_set (i := 2) sc_l_draw.nd rfl (.inl rfl) (pe_ix (ix_listK (K := K) rfl) (pe_ix (ix_listK (K := K) rfl) (pv 0) pe_int (fun _ _ => rfl)) (pv 3) (fun _ _ => rfl))))) pss_nil)
    (pss_cons (ps_if (pt_cmpR op_ge (pv 2) (pe_op op_pow pe_int pe_int) (nomark _)) (pss_cons (ps_asg (pe_op Cb.op_fdivB (pv 2) (pv 1)) (pg_sub (pe_ix (ix_listK (K := K) rfl) (pv 0) pe_int (fun _ _ => rfl)) (pv 3) set_list))
    (pss_one (ps_ret (pe_op op_mod (pv 2) (pv 1))))) pss_nil)
    (pss_one (ps_ret (pe_op op_mod (pe_op op_mod (pe_op op_pow (pe_op op_add (pe_op op_add (pe_op op_mod (pv 2) pe_int) (pe_op op_mul pe_int (pe_ix (ix_listK (K := K) rfl) (pv 0) pe_int (fun _ _ => rfl)))) pe_int) pe_int) pe_int) (pv 1))))))))), ?_⟩
    have hDC := dk.ne
    refine q_setL (l := D) (xs := [.ref C, .int n]) (j := 1) (v := .int (n + 1)) dk.hD ?_ (ev_var rfl) ev_c (by simp) ?_
    · exact ev_op (ev_op (ev_var rfl) ev_c (rv_ixL (sq_of dk.hD) rfl)) ev_c rv_I0
    intro H1 e1
    have d1 : DeckN D C (n + 1) cs (upd H1 D (.lst [.ref C, .int (n + 1)])) := ⟨upd_same, by rw [upd_ne hDC.symm]; exact e1 _ _ dk.hC⟩
    have k1' : Kp D C H (upd H1 D (.lst [.ref C, .int (n + 1)])) := (Kp.ex e1).trans Kp.setD
    show tSeq _ _ _ _ (upd H1 D (.lst [.ref C, .int (n + 1)]))
    generalize upd H1 D (.lst [.ref C, .int (n + 1)]) = H2 at d1 k1'
    refine q_asg (v := .int 0) ev_c ?_
    intro H2a e2a
    refine q_asg (v := .int (-1)) (ev_un ev_c ru_neg) ?_
    intro H3 e3a
    have d2 := d1.ex (e2a.trans e3a)
    have k2' := k1'.trans (Kp.ex (e2a.trans e3a))
    refine q_cut (M := fun σ' H' => ∃ cell idx, σ' = [some (.ref D), some (.int k), some (.int cell), some (.int idx)] ∧ Kp D C H H' ∧ DeckN D C (n + 1) cs H' ∧ 0 ≤ cell ∧ (cell < 1000000000000000000 ∨ ∃ j : Nat, j < cs.length ∧ idx = (j : Int))) ?_ ?_
    · refine s_when (b := decide ((0 : Int) < (cs.map V.int).length)) ?_ ?_ ?_
      · exact et_test (ev_op (ev_len (ev_op (ev_var rfl) ev_c (rv_ixL (sq_of d2.hD) rfl)) (sq_of d2.hC)) ev_c rv_I0)
      · intro hc H4 e4
        have hc := of_decide_eq_true hc
        rw [List.length_map] at hc
        have d4 := d2.ex e4
        have i0 : 0 ≤ (n + 1) % (cs.length : Int) := Int.emod_nonneg _ (by omega)
        have i1 : (n + 1) % (cs.length : Int) < cs.length := Int.emod_lt_of_pos _ hc
        obtain ⟨j, hj⟩ : ∃ j : Nat, (n + 1) % (cs.length : Int) = j := ⟨((n + 1) % (cs.length : Int)).toNat, by omega⟩
        have jl : j < cs.length := by omega
        refine q_asg (v := .int j) ?_ ?_
        · refine ev_is (ev_op (ev_op (ev_var rfl) ev_c (rv_ixL (sq_of d4.hD) rfl)) (ev_len (ev_op (ev_var rfl) ev_c (rv_ixL (sq_of d4.hD) rfl)) (sq_of d4.hC)) (rv_I (by rw [List.length_map]; exact hc))) ?_
          rw [List.length_map, hj]
        intro H5 e5
        have d5 := d4.ex e5
        refine s_asg (v := .int cs[j]) ?_ ?_
        · exact ev_op (ev_op (ev_var rfl) ev_c (rv_ixL (sq_of d5.hD) rfl)) (ev_var rfl) (rv_ixL (sq_of d5.hC) (atI_nat (by rw [List.getElem?_map, List.getElem?_eq_getElem jl]; rfl)))
        intro H6 e6
        exact ⟨cs[j], j, rfl, k2'.trans (Kp.ex ((e4.trans e5).trans e6)), d5.ex e6, cpos _ (List.getElem_mem jl), .inr ⟨j, jl, rfl⟩⟩
      · intro hc H4 e4
        exact ⟨0, -1, rfl, k2'.trans (Kp.ex e4), d2.ex e4, by omega, .inl (by omega)⟩
    · rintro σ' H' ⟨cell, idx, rfl, kp, d, c0, hx⟩
      refine q_when (b := decide ((1000000000000000000 : Int) ≤ cell)) ?_ ?_ ?_
      · refine et_is (et_ge (ev_var rfl) (ev_op ev_c ev_c (rv_I (by refine ⟨by decide, by decide, by decide⟩)))) ?_
        rw [pow18]
      · intro hc H4 e4
        have hc := of_decide_eq_true hc
        have d4 := d.ex e4
        rcases hx with hx | ⟨j, jl, rfl⟩
        · omega
        refine q_setL (l := C) (xs := cs.map V.int) (j := j) (v := .int (cell / k)) d4.hC ?_ ?_ (ev_var rfl) (by rw [List.length_map]; exact jl) ?_
        · exact ev_op (ev_var rfl) (ev_var rfl) (rv_I ⟨by omega, by omega⟩)
        · exact ev_op (ev_var rfl) ev_c (rv_ixL (sq_of d4.hD) rfl)
        intro H5 e5
        refine s_ret (v := .int (cell % k)) ?_ ?_
        · exact ev_op (ev_var rfl) (ev_var rfl) (rv_I (by omega))
        intro H6 e6
        have d5 := d4.ex e5
        refine q _ _ (Int.emod_nonneg _ (by omega)) (Int.emod_lt_of_pos _ (by omega)) (((kp.trans (Kp.ex (e4.trans e5))).trans Kp.setC).trans (Kp.ex e6)) (Deck.ex e6 ⟨n + 1, cs.set j (cell / k), ⟨?_, ?_⟩, by omega, by omega, by rw [List.length_set]; exact cl, ?_⟩)
        · rw [upd_ne hDC]; exact d5.hD
        · rw [upd_same, List.map_set]
        · intro x hx
          rcases List.mem_or_eq_of_mem_set hx with h | h
          · exact cpos x h
          · rw [h]; exact Int.ediv_nonneg c0 (by omega)
      · intro hc H4 e4
        have d4 := d.ex e4
        have b0 : 0 ≤ cell % 2147483587 := Int.emod_nonneg _ (by decide)
        have b1 : cell % 2147483587 < 2147483587 := Int.emod_lt_of_pos _ (by decide)
        refine s_ret (v := .int (((cell % 2147483587 + 7919 * (n + 1) + 1) ^ (5 : Int).toNat) % 2147483647 % k)) ?_ ?_
        · refine ev_op (ev_op (ev_op (ev_op (ev_op (ev_op (ev_var rfl) ev_c (rv_I ?_)) (ev_op ev_c (ev_op (ev_var rfl) ev_c (rv_ixL (sq_of d4.hD) rfl)) (rv_I ?_)) rv_I0) ev_c rv_I0) ev_c (rv_I ?_)) ev_c (rv_I ?_)) (ev_var rfl) (rv_I ?_)
          · decide
          · exact .inl ⟨by decide, by decide⟩
          · refine ⟨by decide, by decide, ?_⟩
            have : (2 : Nat) ^ 64 = 18446744073709551616 := by decide
            omega
          · decide
          · omega
        intro H5 e5
        exact q _ _ (Int.emod_nonneg _ (by omega)) (Int.emod_lt_of_pos _ (by omega)) (kp.trans (Kp.ex (e4.trans e5))) (Deck.ex e5 ⟨n + 1, cs, d4, by omega, by omega, cl, cpos⟩)
end
end WpK46h
namespace Wp.K46
open PySem PySem.Spec PyProof.Rows L2 Evl Wp WpK46h
theorem all_mk {l : PySem.W.OpenLaw} {w : World} {K : PySem.W.Frag} {h : Heap} {mg : Str → Option Value} {fa : Addr} (X : K.In h) (G : h.Ns mainGlobals mg) (hfa : mg "law" = some (.ref fa))
    {c_BadNumber : Addr}
    (a_BadNumber : PySem.W.nsIn K mainGlobals "BadNumber" = some (some (.ref c_BadNumber)))
    {c_TooLong : Addr}
    (a_TooLong : PySem.W.nsIn K mainGlobals "TooLong" = some (some (.ref c_TooLong)))
    {c_PathError : Addr}
    (a_PathError : PySem.W.nsIn K mainGlobals "PathError" = some (some (.ref c_PathError)))
    {c_BadCan : Addr}
    (a_BadCan : PySem.W.nsIn K mainGlobals "BadCan" = some (some (.ref c_BadCan)))
    {c_BadLitres : Addr}
    (a_BadLitres : PySem.W.nsIn K mainGlobals "BadLitres" = some (some (.ref c_BadLitres)))
    {c_Bound : Addr}
    (a_Bound : PySem.W.nsIn K mainGlobals "Bound" = some (some (.ref c_Bound)))
    {nm_BadNumber q_BadNumber : Str} {N_BadNumber : Addr} {bs_BadNumber bm_BadNumber : List Value} {sn_BadNumber : List Str} {sub_BadNumber : List Value} {ab_BadNumber : Bool} {col_BadNumber : Option Bool} {dd_BadNumber : Option Addr} {k0_BadNumber k1_BadNumber k2_BadNumber k3_BadNumber k5_BadNumber : Option Value}
    (w_BadNumber : K.lookup c_BadNumber = some (excClassObj nm_BadNumber q_BadNumber c_BadNumber N_BadNumber bs_BadNumber bm_BadNumber true sn_BadNumber sub_BadNumber ab_BadNumber col_BadNumber dd_BadNumber k0_BadNumber k1_BadNumber k2_BadNumber k3_BadNumber k5_BadNumber "ValueError.__new__"))
    (v_BadNumber : PySem.HandSPX.refsVE bm_BadNumber = true)
    (sa_BadNumber : PySem.W.findIn K (.ref c_BadNumber) "__setattr__" = some (some (.builtin "object.__setattr__")))
    (be_BadNumber : PySem.W.subIn K (.ref c_BadNumber) (.type "BaseException") = some true)
    (ty_BadNumber : PySem.W.typeIn K (.ref c_BadNumber) = some (.type "type"))
    (kc_BadNumber : PySem.W.keepIn K (.ref c_BadNumber) = true)
    {f_BadNumber_init : Addr}
    (a_BadNumber_init : PySem.W.findIn K (.ref c_BadNumber) "__init__" = some (some (.ref f_BadNumber_init)))
    (t_BadNumber_init : PySem.W.typeIn K (.ref f_BadNumber_init) = some (.type "function"))
    {od_BadNumber_init an_BadNumber_init : Option Addr} {sl_BadNumber_init : Array (Option Value)} {oc_BadNumber_init kV_BadNumber_init dc_BadNumber_init pm_BadNumber_init cd_BadNumber_init ct_BadNumber_init : Value}
    (l_BadNumber_init : K.lookup f_BadNumber_init = some ⟨oc_BadNumber_init, od_BadNumber_init, .func (PySem.W.fnOf "__init__" "BadNumber.__init__" (defArgs s_BadNumber_init) (defBody s_BadNumber_init) (defScope s_BadNumber_init) .none kV_BadNumber_init dc_BadNumber_init pm_BadNumber_init an_BadNumber_init cd_BadNumber_init ct_BadNumber_init), sl_BadNumber_init⟩)
    (c_BadNumber_init : PySem.W.codeIn K cd_BadNumber_init "BadNumber.__init__" = true)
    (k_BadNumber_init : PySem.W.keepIn K (.ref f_BadNumber_init) = true)
    (nf_value_BadNumber : PySem.W.findIn K (.ref c_BadNumber) "value" = some none)
    {nm_TooLong q_TooLong : Str} {N_TooLong : Addr} {bs_TooLong bm_TooLong : List Value} {sn_TooLong : List Str} {sub_TooLong : List Value} {ab_TooLong : Bool} {col_TooLong : Option Bool} {dd_TooLong : Option Addr} {k0_TooLong k1_TooLong k2_TooLong k3_TooLong k5_TooLong : Option Value}
    (w_TooLong : K.lookup c_TooLong = some (excClassObj nm_TooLong q_TooLong c_TooLong N_TooLong bs_TooLong bm_TooLong true sn_TooLong sub_TooLong ab_TooLong col_TooLong dd_TooLong k0_TooLong k1_TooLong k2_TooLong k3_TooLong k5_TooLong "ValueError.__new__"))
    (v_TooLong : PySem.HandSPX.refsVE bm_TooLong = true)
    (sa_TooLong : PySem.W.findIn K (.ref c_TooLong) "__setattr__" = some (some (.builtin "object.__setattr__")))
    (be_TooLong : PySem.W.subIn K (.ref c_TooLong) (.type "BaseException") = some true)
    (ty_TooLong : PySem.W.typeIn K (.ref c_TooLong) = some (.type "type"))
    (kc_TooLong : PySem.W.keepIn K (.ref c_TooLong) = true)
    {f_TooLong_init : Addr}
    (a_TooLong_init : PySem.W.findIn K (.ref c_TooLong) "__init__" = some (some (.ref f_TooLong_init)))
    (t_TooLong_init : PySem.W.typeIn K (.ref f_TooLong_init) = some (.type "function"))
    {od_TooLong_init an_TooLong_init : Option Addr} {sl_TooLong_init : Array (Option Value)} {oc_TooLong_init kV_TooLong_init dc_TooLong_init pm_TooLong_init cd_TooLong_init ct_TooLong_init : Value}
    (l_TooLong_init : K.lookup f_TooLong_init = some ⟨oc_TooLong_init, od_TooLong_init, .func (PySem.W.fnOf "__init__" "TooLong.__init__" (defArgs s_TooLong_init) (defBody s_TooLong_init) (defScope s_TooLong_init) .none kV_TooLong_init dc_TooLong_init pm_TooLong_init an_TooLong_init cd_TooLong_init ct_TooLong_init), sl_TooLong_init⟩)
    (c_TooLong_init : PySem.W.codeIn K cd_TooLong_init "TooLong.__init__" = true)
    (k_TooLong_init : PySem.W.keepIn K (.ref f_TooLong_init) = true)
    (nf_number_TooLong : PySem.W.findIn K (.ref c_TooLong) "number" = some none)
    {f_l_deck : Addr}
    (a_l_deck : PySem.W.nsIn K mainGlobals "_law_deck" = some (some (.ref f_l_deck)))
    {od_l_deck an_l_deck : Option Addr} {sl_l_deck : Array (Option Value)} {oc_l_deck kV_l_deck dc_l_deck pm_l_deck cd_l_deck ct_l_deck : Value}
    (l_l_deck : K.lookup f_l_deck = some ⟨oc_l_deck, od_l_deck, .func (PySem.W.fnOf "_law_deck" "_law_deck" (defArgs s_l_deck) (defBody s_l_deck) (defScope s_l_deck) .none kV_l_deck dc_l_deck pm_l_deck an_l_deck cd_l_deck ct_l_deck), sl_l_deck⟩)
    (c_l_deck : PySem.W.codeIn K cd_l_deck "_law_deck" = true)
    (k_l_deck : PySem.W.keepIn K (.ref f_l_deck) = true)
    {f_l_draw : Addr}
    (a_l_draw : PySem.W.nsIn K mainGlobals "_law_draw" = some (some (.ref f_l_draw)))
    {od_l_draw an_l_draw : Option Addr} {sl_l_draw : Array (Option Value)} {oc_l_draw kV_l_draw dc_l_draw pm_l_draw cd_l_draw ct_l_draw : Value}
    (l_l_draw : K.lookup f_l_draw = some ⟨oc_l_draw, od_l_draw, .func (PySem.W.fnOf "_law_draw" "_law_draw" (defArgs s_l_draw) (defBody s_l_draw) (defScope s_l_draw) .none kV_l_draw dc_l_draw pm_l_draw an_l_draw cd_l_draw ct_l_draw), sl_l_draw⟩)
    (c_l_draw : PySem.W.codeIn K cd_l_draw "_law_draw" = true)
    (k_l_draw : PySem.W.keepIn K (.ref f_l_draw) = true)
    {f_l_is_within : Addr}
    (a_l_is_within : PySem.W.nsIn K mainGlobals "_law_is_within" = some (some (.ref f_l_is_within)))
    {od_l_is_within an_l_is_within : Option Addr} {sl_l_is_within : Array (Option Value)} {oc_l_is_within kV_l_is_within dc_l_is_within pm_l_is_within cd_l_is_within ct_l_is_within : Value}
    (l_l_is_within : K.lookup f_l_is_within = some ⟨oc_l_is_within, od_l_is_within, .func (PySem.W.fnOf "_law_is_within" "_law_is_within" (defArgs s_l_is_within) (defBody s_l_is_within) (defScope s_l_is_within) .none kV_l_is_within dc_l_is_within pm_l_is_within an_l_is_within cd_l_is_within ct_l_is_within), sl_l_is_within⟩)
    (c_l_is_within : PySem.W.codeIn K cd_l_is_within "_law_is_within" = true)
    (k_l_is_within : PySem.W.keepIn K (.ref f_l_is_within) = true)
    {f_is_number : Addr}
    (a_is_number : PySem.W.nsIn K mainGlobals "is_number" = some (some (.ref f_is_number)))
    {od_is_number an_is_number : Option Addr} {sl_is_number : Array (Option Value)} {oc_is_number kV_is_number dc_is_number pm_is_number cd_is_number ct_is_number : Value}
    (l_is_number : K.lookup f_is_number = some ⟨oc_is_number, od_is_number, .func (PySem.W.fnOf "is_number" "is_number" (defArgs s_is_number) (defBody s_is_number) (defScope s_is_number) .none kV_is_number dc_is_number pm_is_number an_is_number cd_is_number ct_is_number), sl_is_number⟩)
    (c_is_number : PySem.W.codeIn K cd_is_number "is_number" = true)
    (k_is_number : PySem.W.keepIn K (.ref f_is_number) = true)
    {f_is_number_within : Addr}
    (a_is_number_within : PySem.W.nsIn K mainGlobals "is_number_within" = some (some (.ref f_is_number_within)))
    {od_is_number_within an_is_number_within : Option Addr} {sl_is_number_within : Array (Option Value)} {oc_is_number_within kV_is_number_within dc_is_number_within pm_is_number_within cd_is_number_within ct_is_number_within : Value}
    (l_is_number_within : K.lookup f_is_number_within = some ⟨oc_is_number_within, od_is_number_within, .func (PySem.W.fnOf "is_number_within" "is_number_within" (defArgs s_is_number_within) (defBody s_is_number_within) (defScope s_is_number_within) .none kV_is_number_within dc_is_number_within pm_is_number_within an_is_number_within cd_is_number_within ct_is_number_within), sl_is_number_within⟩)
    (c_is_number_within : PySem.W.codeIn K cd_is_number_within "is_number_within" = true)
    (k_is_number_within : PySem.W.keepIn K (.ref f_is_number_within) = true)
    {f_Bound_init : Addr}
    (a_Bound_init : PySem.W.findIn K (.ref c_Bound) "__init__" = some (some (.ref f_Bound_init)))
    (fn_Bound_init : PySem.W.isFn K (.ref f_Bound_init) = true)
    {od_Bound_init an_Bound_init : Option Addr} {sl_Bound_init : Array (Option Value)} {oc_Bound_init kV_Bound_init dc_Bound_init pm_Bound_init cd_Bound_init ct_Bound_init : Value}
    (l_Bound_init : K.lookup f_Bound_init = some ⟨oc_Bound_init, od_Bound_init, .func (PySem.W.fnOf "__init__" "Bound.__init__" (defArgs s_Bound_init) (defBody s_Bound_init) (defScope s_Bound_init) .none kV_Bound_init dc_Bound_init pm_Bound_init an_Bound_init cd_Bound_init ct_Bound_init), sl_Bound_init⟩)
    (c_Bound_init : PySem.W.codeIn K cd_Bound_init "Bound.__init__" = true)
    (k_Bound_init : PySem.W.keepIn K (.ref f_Bound_init) = true)
    {f_l_made : Addr}
    (a_l_made : PySem.W.nsIn K mainGlobals "_law_made" = some (some (.ref f_l_made)))
    {od_l_made an_l_made : Option Addr} {sl_l_made : Array (Option Value)} {oc_l_made kV_l_made dc_l_made pm_l_made cd_l_made ct_l_made : Value}
    (l_l_made : K.lookup f_l_made = some ⟨oc_l_made, od_l_made, .func (PySem.W.fnOf "_law_made" "_law_made" (defArgs s_l_made) (defBody s_l_made) (defScope s_l_made) .none kV_l_made dc_l_made pm_l_made an_l_made cd_l_made ct_l_made), sl_l_made⟩)
    (c_l_made : PySem.W.codeIn K cd_l_made "_law_made" = true)
    (k_l_made : PySem.W.keepIn K (.ref f_l_made) = true)
    {f_Bound_room : Addr}
    (a_Bound_room : PySem.W.findIn K (.ref c_Bound) "room" = some (some (.ref f_Bound_room)))
    (fn_Bound_room : PySem.W.isFn K (.ref f_Bound_room) = true)
    {od_Bound_room an_Bound_room : Option Addr} {sl_Bound_room : Array (Option Value)} {oc_Bound_room kV_Bound_room dc_Bound_room pm_Bound_room cd_Bound_room ct_Bound_room : Value}
    (l_Bound_room : K.lookup f_Bound_room = some ⟨oc_Bound_room, od_Bound_room, .func (PySem.W.fnOf "room" "Bound.room" (defArgs s_Bound_room) (defBody s_Bound_room) (defScope s_Bound_room) .none kV_Bound_room dc_Bound_room pm_Bound_room an_Bound_room cd_Bound_room ct_Bound_room), sl_Bound_room⟩)
    (c_Bound_room : PySem.W.codeIn K cd_Bound_room "Bound.room" = true)
    (k_Bound_room : PySem.W.keepIn K (.ref f_Bound_room) = true)
    {f_l_room : Addr}
    (a_l_room : PySem.W.nsIn K mainGlobals "_law_room" = some (some (.ref f_l_room)))
    {od_l_room an_l_room : Option Addr} {sl_l_room : Array (Option Value)} {oc_l_room kV_l_room dc_l_room pm_l_room cd_l_room ct_l_room : Value}
    (l_l_room : K.lookup f_l_room = some ⟨oc_l_room, od_l_room, .func (PySem.W.fnOf "_law_room" "_law_room" (defArgs s_l_room) (defBody s_l_room) (defScope s_l_room) .none kV_l_room dc_l_room pm_l_room an_l_room cd_l_room ct_l_room), sl_l_room⟩)
    (c_l_room : PySem.W.codeIn K cd_l_room "_law_room" = true)
    (k_l_room : PySem.W.keepIn K (.ref f_l_room) = true)
    {f_law : Addr}
    (a_law : PySem.W.nsIn K mainGlobals "law" = some (some (.ref f_law)))
    {od_law an_law : Option Addr} {sl_law : Array (Option Value)} {oc_law kV_law dc_law pm_law cd_law ct_law : Value}
    (l_law : K.lookup f_law = some ⟨oc_law, od_law, .func (PySem.W.fnOf "law" "law" (defArgs s_law) (defBody s_law) (defScope s_law) .none kV_law dc_law pm_law an_law cd_law ct_law), sl_law⟩)
    (c_law : PySem.W.codeIn K cd_law "law" = true)
    (k_law : PySem.W.keepIn K (.ref f_law) = true)
    (z_ValueError : PySem.W.nsIn K mainGlobals "ValueError" = some none)
    (z_abs : PySem.W.nsIn K mainGlobals "abs" = some none)
    (z_bool : PySem.W.nsIn K mainGlobals "bool" = some none)
    (z_int : PySem.W.nsIn K mainGlobals "int" = some none)
    (z_isinstance : PySem.W.nsIn K mainGlobals "isinstance" = some none)
    (z_len : PySem.W.nsIn K mainGlobals "len" = some none)
    (z_list : PySem.W.nsIn K mainGlobals "list" = some none)
    (z_max : PySem.W.nsIn K mainGlobals "max" = some none)
    (z_range : PySem.W.nsIn K mainGlobals "range" = some none)
    (z_repr : PySem.W.nsIn K mainGlobals "repr" = some none)
    {t_LIMIT : Tok}
    (z_LIMIT : PySem.W.nsIn K mainGlobals "LIMIT" = some (some (.int 1000000000000000000 t_LIMIT)))
    (ex_PathError_BadNumber : PySem.W.exmOne K (.ref c_BadNumber) (.ref c_PathError) = some true)
    (ex_PathError_TooLong : PySem.W.exmOne K (.ref c_TooLong) (.ref c_PathError) = some true)
    (mks_Bound : PySem.W.makesIn K c_Bound = true)
    (kc_Bound : PySem.W.keepIn K (.ref c_Bound) = true)
    (ga_BadNumber : PySem.W.findIn K (.ref c_BadNumber) "__getattribute__" = some (some (.builtin "BaseException.__getattribute__")))
    (gg_BadNumber : PySem.W.findIn K (.ref c_BadNumber) "__getattr__" = some none)
    (hd_BadNumber : PySem.W.hasDictIn K c_BadNumber = true)
    (hc_BadNumber : PySem.W.findIn K (.ref c_BadNumber) "__class__" = some (some (.builtin "object.__class__")))
    (mo_BadNumber : PySem.W.mroIn K c_BadNumber (.type "object") = some true)
    (ga_TooLong : PySem.W.findIn K (.ref c_TooLong) "__getattribute__" = some (some (.builtin "BaseException.__getattribute__")))
    (gg_TooLong : PySem.W.findIn K (.ref c_TooLong) "__getattr__" = some none)
    (hd_TooLong : PySem.W.hasDictIn K c_TooLong = true)
    (hc_TooLong : PySem.W.findIn K (.ref c_TooLong) "__class__" = some (some (.builtin "object.__class__")))
    (mo_TooLong : PySem.W.mroIn K c_TooLong (.type "object") = some true)
    (hn_cls : PySem.W.specialIn K (.builtin "object.__class__") "__get__" = some (some (.builtin "getset_descriptor.__get__")))
    (ht_cls : PySem.W.takesIn K (.builtin "object.__class__") = some true)
    (k1_ValueError_BadNumber : PySem.W.kitOne K (.ref c_BadNumber) (.type "ValueError") = some true)
    (k1_ValueError_TooLong : PySem.W.kitOne K (.ref c_TooLong) (.type "ValueError") = some true)
    (k1_BadNumber_BadNumber : PySem.W.kitOne K (.ref c_BadNumber) (.ref c_BadNumber) = some true)
    (k1_BadNumber_TooLong : PySem.W.kitOne K (.ref c_TooLong) (.ref c_BadNumber) = some false)
    (nf_value_TooLong : PySem.W.findIn K (.ref c_TooLong) "value" = some none)
    (kn_BadCan_BadLitres_TooLong_BadNumber : PySem.W.kitAny K (.ref c_BadNumber) [.ref c_BadCan, .ref c_BadLitres, .ref c_TooLong] = some false)
    (kn_BadCan_BadLitres_TooLong_TooLong : PySem.W.kitAny K (.ref c_TooLong) [.ref c_BadCan, .ref c_BadLitres, .ref c_TooLong] = some true)
    (pg_Bound : PySem.W.plainGet K c_Bound Str.empty = true)
    (hd_Bound : PySem.W.hasDictIn K c_Bound = true)
    (po_Bound : PySem.W.plainOver K c_Bound = true)
    (sa_Bound : PySem.W.findIn K (.ref c_Bound) "__setattr__" = some (some (.builtin "object.__setattr__")))
    (kn_BadCan_BadLitres_BadNumber : PySem.W.kitAny K (.ref c_BadNumber) [.ref c_BadCan, .ref c_BadLitres] = some false)
    (kn_BadCan_BadLitres_TooLong : PySem.W.kitAny K (.ref c_TooLong) [.ref c_BadCan, .ref c_BadLitres] = some false)
    (nf_number_BadNumber : PySem.W.findIn K (.ref c_BadNumber) "number" = some none)
    (k1_TooLong_BadNumber : PySem.W.kitOne K (.ref c_BadNumber) (.ref c_TooLong) = some false)
    (k1_TooLong_TooLong : PySem.W.kitOne K (.ref c_TooLong) (.ref c_TooLong) = some true)
    (na_Bound_most : PySem.W.findIn K (.ref c_Bound) "most" = some none)
    (hc_Bound : PySem.W.findIn K (.ref c_Bound) "__class__" = some (some (.builtin "object.__class__")))
    (mo_Bound : PySem.W.mroIn K c_Bound (.type "object") = some true)
    (il_Bound_list : PySem.W.kitOne K (.ref c_Bound) (.type "list") = some false)
    : ∃ fd : FuncData, (∀ (s : Shared) (v : Value), BindsTo s fd ⟨[v], []⟩ [("_law_script", v)]) ∧ ∀ base : Heap, K.In base → base.Ns mainGlobals mg → (∃ o, base.get? sysModules = some o) → Cn.FnG l.prog w K mg base 6 fa fd ["_law_script"] (spLaw K) := by
  have e := hfa.symm.trans (PySem.W.mg_of X G a_law)
  cases e
  have k_LIMIT := PySem.W.mg_of X G z_LIMIT
  have m_ValueError : mg "ValueError" = none := PySem.W.mg_none_of X G z_ValueError
  have m_abs : mg "abs" = none := PySem.W.mg_none_of X G z_abs
  have m_bool : mg "bool" = none := PySem.W.mg_none_of X G z_bool
  have m_int : mg "int" = none := PySem.W.mg_none_of X G z_int
  have m_isinstance : mg "isinstance" = none := PySem.W.mg_none_of X G z_isinstance
  have m_len : mg "len" = none := PySem.W.mg_none_of X G z_len
  have m_list : mg "list" = none := PySem.W.mg_none_of X G z_list
  have m_max : mg "max" = none := PySem.W.mg_none_of X G z_max
  have m_range : mg "range" = none := PySem.W.mg_none_of X G z_range
  have m_repr : mg "repr" = none := PySem.W.mg_none_of X G z_repr
  have g_BadNumber := PySem.W.mg_of X G a_BadNumber
  have g_TooLong := PySem.W.mg_of X G a_TooLong
  have g_PathError := PySem.W.mg_of X G a_PathError
  have g_BadCan := PySem.W.mg_of X G a_BadCan
  have g_BadLitres := PySem.W.mg_of X G a_BadLitres
  have g_Bound := PySem.W.mg_of X G a_Bound
  have O_BadNumber : OexC K c_BadNumber := ⟨⟨_, _, _, _, _, _, _, _, _, _, _, _, _, _, _, w_BadNumber, v_BadNumber⟩, sa_BadNumber, be_BadNumber, ty_BadNumber, kc_BadNumber⟩
  have F_BadNumber_init := fun_mk (st := s_BadNumber_init) l_BadNumber_init c_BadNumber_init k_BadNumber_init
  have b_BadNumber_init := F_BadNumber_init.binds (ps := ["self", "value"]) fun _ _ _ _ _ _ us hl => match us, hl with | [_, _], _ => rfl
  have O_TooLong : OexC K c_TooLong := ⟨⟨_, _, _, _, _, _, _, _, _, _, _, _, _, _, _, w_TooLong, v_TooLong⟩, sa_TooLong, be_TooLong, ty_TooLong, kc_TooLong⟩
  have F_TooLong_init := fun_mk (st := s_TooLong_init) l_TooLong_init c_TooLong_init k_TooLong_init
  have b_TooLong_init := F_TooLong_init.binds (ps := ["self", "number"]) fun _ _ _ _ _ _ us hl => match us, hl with | [_, _], _ => rfl
  have F_l_deck := fun_mk (st := s_l_deck) l_l_deck c_l_deck k_l_deck
  have b_l_deck := F_l_deck.binds (ps := ["_law_script"]) fun _ _ _ _ _ _ us hl => match us, hl with | [_], _ => rfl
  have g_l_deck := PySem.W.mg_of X G a_l_deck
  have F_l_draw := fun_mk (st := s_l_draw) l_l_draw c_l_draw k_l_draw
  have b_l_draw := F_l_draw.binds (ps := ["_law_deck_here", "_law_many"]) fun _ _ _ _ _ _ us hl => match us, hl with | [_, _], _ => rfl
  have g_l_draw := PySem.W.mg_of X G a_l_draw
  have F_l_is_within := fun_mk (st := s_l_is_within) l_l_is_within c_l_is_within k_l_is_within
  have b_l_is_within := F_l_is_within.binds (ps := ["_law_value", "_law_low", "_law_high"]) fun _ _ _ _ _ _ us hl => match us, hl with | [_, _, _], _ => rfl
  have g_l_is_within := PySem.W.mg_of X G a_l_is_within
  have F_is_number := fun_mk (st := s_is_number) l_is_number c_is_number k_is_number
  have b_is_number := F_is_number.binds (ps := ["value"]) fun _ _ _ _ _ _ us hl => match us, hl with | [_], _ => rfl
  have g_is_number := PySem.W.mg_of X G a_is_number
  have F_is_number_within := fun_mk (st := s_is_number_within) l_is_number_within c_is_number_within k_is_number_within
  have b_is_number_within := F_is_number_within.binds (ps := ["value", "low", "high"]) fun _ _ _ _ _ _ us hl => match us, hl with | [_, _, _], _ => rfl
  have g_is_number_within := PySem.W.mg_of X G a_is_number_within
  have F_Bound_init := fun_mk (st := s_Bound_init) l_Bound_init c_Bound_init k_Bound_init
  have b_Bound_init := F_Bound_init.binds (ps := ["self", "most"]) fun _ _ _ _ _ _ us hl => match us, hl with | [_, _], _ => rfl
  have F_l_made := fun_mk (st := s_l_made) l_l_made c_l_made k_l_made
  have b_l_made := F_l_made.binds (ps := ["_law_most"]) fun _ _ _ _ _ _ us hl => match us, hl with | [_], _ => rfl
  have g_l_made := PySem.W.mg_of X G a_l_made
  have F_Bound_room := fun_mk (st := s_Bound_room) l_Bound_room c_Bound_room k_Bound_room
  have b_Bound_room := F_Bound_room.binds (ps := ["self", "number"]) fun _ _ _ _ _ _ us hl => match us, hl with | [_, _], _ => rfl
  have F_l_room := fun_mk (st := s_l_room) l_l_room c_l_room k_l_room
  have b_l_room := F_l_room.binds (ps := ["_law_made_here", "_law_number"]) fun _ _ _ _ _ _ us hl => match us, hl with | [_, _], _ => rfl
  have g_l_room := PySem.W.mg_of X G a_l_room
  have F_law := fun_mk (st := s_law) l_law c_law k_law
  refine ⟨PySem.W.fnOf "law" "law" (defArgs s_law) (defBody s_law) (defScope s_law) .none kV_law dc_law pm_law an_law cd_law ct_law, fun s v => .of_eq rfl, fun base inB glB sm => ?_⟩
  have L : Lc l.prog w K mg base (fun i => [c_BadNumber, c_TooLong, c_PathError, c_BadCan, c_BadLitres, c_Bound, 0, 0, 0, f_Bound_init, f_Bound_room, 0].getD i 0) := {
    ex_PathError := fun c hc => match c, hc with | 0, _ => ex_PathError_BadNumber | 1, _ => ex_PathError_TooLong | n + 2, hc => absurd hc (by omega),
    mk_Bound := ⟨mks_Bound, a_Bound_init, fn_Bound_init, kc_Bound⟩,
    g_Bound := g_Bound,
    T := fun c hc => match c, hc with | 0, _ => ⟨ga_BadNumber, gg_BadNumber, be_BadNumber, hd_BadNumber, hc_BadNumber, hn_cls, ht_cls, mo_BadNumber⟩ | 1, _ => ⟨ga_TooLong, gg_TooLong, be_TooLong, hd_TooLong, hc_TooLong, hn_cls, ht_cls, mo_TooLong⟩ | n + 2, hc => absurd hc (by omega),
    k1_ValueError := fun c hc => match c, hc with | 0, _ => k1_ValueError_BadNumber | 1, _ => k1_ValueError_TooLong | n + 2, hc => absurd hc (by omega),
    g_BadNumber := g_BadNumber,
    k1_BadNumber := fun c hc => match c, hc with | 0, _ => k1_BadNumber_BadNumber | 1, _ => k1_BadNumber_TooLong | n + 2, hc => absurd hc (by omega),
    X := fun c hc => match c, hc with | 0, _ => ⟨ga_BadNumber, gg_BadNumber, be_BadNumber, hd_BadNumber⟩ | 1, _ => ⟨ga_TooLong, gg_TooLong, be_TooLong, hd_TooLong⟩ | n + 2, hc => absurd hc (by omega),
    nf_value := fun c hc => match c, hc with | 0, _ => nf_value_BadNumber | 1, _ => nf_value_TooLong | n + 2, hc => absurd hc (by omega),
    g_BadCan := g_BadCan,
    g_BadLitres := g_BadLitres,
    g_TooLong := g_TooLong,
    kn_BadCan_BadLitres_TooLong := fun c hc => match c, hc with | 0, _ => kn_BadCan_BadLitres_TooLong_BadNumber | 1, _ => kn_BadCan_BadLitres_TooLong_TooLong | n + 2, hc => absurd hc (by omega),
    g_PathError := g_PathError,
    cl_Bound := ⟨pg_Bound, hd_Bound, po_Bound, sa_Bound⟩,
    me_Bound_room := ⟨a_Bound_room, fn_Bound_room, k_Bound_room⟩,
    kn_BadCan_BadLitres := fun c hc => match c, hc with | 0, _ => kn_BadCan_BadLitres_BadNumber | 1, _ => kn_BadCan_BadLitres_TooLong | n + 2, hc => absurd hc (by omega),
    nf_number := fun c hc => match c, hc with | 0, _ => nf_number_BadNumber | 1, _ => nf_number_TooLong | n + 2, hc => absurd hc (by omega),
    k1_TooLong := fun c hc => match c, hc with | 0, _ => k1_TooLong_BadNumber | 1, _ => k1_TooLong_TooLong | n + 2, hc => absurd hc (by omega),
    e_BadNumber := ⟨f_BadNumber_init, _, "value", ⟨O_BadNumber, a_BadNumber_init, t_BadNumber_init, ok_BadNumber_init F_BadNumber_init O_BadNumber nf_value_BadNumber, b_BadNumber_init, g_BadNumber⟩⟩,
    na_Bound_most := na_Bound_most,
    e_TooLong := ⟨f_TooLong_init, _, "number", ⟨O_TooLong, a_TooLong_init, t_TooLong_init, ok_TooLong_init F_TooLong_init O_TooLong nf_number_TooLong, b_TooLong_init, g_TooLong⟩⟩,
    in_Bound := ⟨⟨pg_Bound, hd_Bound, po_Bound, sa_Bound⟩, hc_Bound, hn_cls, ht_cls, mo_Bound⟩,
    il_Bound_list := il_Bound_list }
  have G_l_deck := ok_l_deck (P := l.prog) (w := w) (base := base) F_l_deck m_abs
  have G_l_draw := FnG.weak (Cn.FnG.of (ok_l_draw (P := l.prog) (w := w) (base := base) F_l_draw m_len)) fun vs H Q E h => drawW_of h
  have G_l_is_within := ok_l_is_within (P := l.prog) (w := w) (mg := mg) (base := base) sm F_l_is_within m_bool m_int m_isinstance
  have G_is_number := ok_is_number (P := l.prog) (w := w) (mg := mg) (base := base) sm F_is_number m_bool m_int m_isinstance
  have G_is_number_within := ok_is_number_within (P := l.prog) (w := w) (mg := mg) (base := base) sm F_is_number_within G_is_number g_is_number F_is_number b_is_number
  have G_Bound_init := ok_Bound_init (P := l.prog) (w := w) (mg := mg) (base := base) (ad := fun i => [c_BadNumber, c_TooLong, c_PathError, c_BadCan, c_BadLitres, c_Bound, 0, 0, 0, f_Bound_init, f_Bound_room, 0].getD i 0) sm F_Bound_init L k_LIMIT G_is_number_within g_is_number_within F_is_number_within b_is_number_within
  have G_l_made := ok_l_made (P := l.prog) (w := w) (mg := mg) (base := base) (ad := fun i => [c_BadNumber, c_TooLong, c_PathError, c_BadCan, c_BadLitres, c_Bound, 0, 0, 0, f_Bound_init, f_Bound_room, 0].getD i 0) sm F_l_made L m_ValueError m_isinstance m_repr G_Bound_init b_Bound_init
  have G_Bound_room := ok_Bound_room (P := l.prog) (w := w) (mg := mg) (base := base) (ad := fun i => [c_BadNumber, c_TooLong, c_PathError, c_BadCan, c_BadLitres, c_Bound, 0, 0, 0, f_Bound_init, f_Bound_room, 0].getD i 0) sm F_Bound_room L k_LIMIT G_is_number_within g_is_number_within F_is_number_within b_is_number_within
  have G_l_room := ok_l_room (P := l.prog) (w := w) (mg := mg) (base := base) (ad := fun i => [c_BadNumber, c_TooLong, c_PathError, c_BadCan, c_BadLitres, c_Bound, 0, 0, 0, f_Bound_init, f_Bound_room, 0].getD i 0) sm F_l_room L m_ValueError m_isinstance m_repr G_Bound_room b_Bound_room
  exact ok_law (ad := fun i => [c_BadNumber, c_TooLong, c_PathError, c_BadCan, c_BadLitres, c_Bound, 0, 0, 0, f_Bound_init, f_Bound_room, 0].getD i 0) sm F_law L m_isinstance m_list m_max m_range m_repr G_l_draw g_l_draw F_l_draw b_l_draw G_l_is_within g_l_is_within F_l_is_within b_l_is_within G_l_made g_l_made F_l_made b_l_made G_l_room g_l_room F_l_room b_l_room G_l_deck g_l_deck F_l_deck b_l_deck (law_ok _)
end Wp.K46
open PySem PySem.W PyProof.Rows
set_option maxHeartbeats 0 in
theorem PySem.Challenge.cw_canpath_k46_bounds_holds : PySem.Challenge.rw_canpath_k46_bounds.Holds := by
  w_on; o_law; k_head; (case hw => w_witness2)
  k_fill
  refine Wp.walkM (l := PySem.Challenge.rw_canpath_k46_bounds) (n := 63) (k := 6) (x := "_law_script") (sp := Wp.spLaw) rfl (by decide) rfl rfl ⟨rfl, by decide, by decide⟩ (fun w h Y => PySem.W.kIn_of Y) ?F (fun K H a ns hl hS => ⟨a, ns, rfl, hS, hl, fun _ => rfl⟩)
  case F =>
    intro w mg fa h KX G hmg
    refine' Wp.K46.all_mk KX G hmg ?a_BadNumber ?a_TooLong ?a_PathError ?a_BadCan ?a_BadLitres ?a_Bound ?w_BadNumber ?v_BadNumber ?sa_BadNumber ?be_BadNumber ?ty_BadNumber ?kc_BadNumber ?a_BadNumber_init ?t_BadNumber_init ?l_BadNumber_init ?c_BadNumber_init ?k_BadNumber_init ?nf_value_BadNumber ?w_TooLong ?v_TooLong ?sa_TooLong ?be_TooLong ?ty_TooLong ?kc_TooLong ?a_TooLong_init ?t_TooLong_init ?l_TooLong_init ?c_TooLong_init ?k_TooLong_init ?nf_number_TooLong ?a_l_deck ?l_l_deck ?c_l_deck ?k_l_deck ?a_l_draw ?l_l_draw ?c_l_draw ?k_l_draw ?a_l_is_within ?l_l_is_within ?c_l_is_within ?k_l_is_within ?a_is_number ?l_is_number ?c_is_number ?k_is_number ?a_is_number_within ?l_is_number_within ?c_is_number_within ?k_is_number_within ?a_Bound_init ?fn_Bound_init ?l_Bound_init ?c_Bound_init ?k_Bound_init ?a_l_made ?l_l_made ?c_l_made ?k_l_made ?a_Bound_room ?fn_Bound_room ?l_Bound_room ?c_Bound_room ?k_Bound_room ?a_l_room ?l_l_room ?c_l_room ?k_l_room ?a_law ?l_law ?c_law ?k_law ?z_ValueError ?z_abs ?z_bool ?z_int ?z_isinstance ?z_len ?z_list ?z_max ?z_range ?z_repr ?z_LIMIT ?ex_PathError_BadNumber ?ex_PathError_TooLong ?mks_Bound ?kc_Bound ?ga_BadNumber ?gg_BadNumber ?hd_BadNumber ?hc_BadNumber ?mo_BadNumber ?ga_TooLong ?gg_TooLong ?hd_TooLong ?hc_TooLong ?mo_TooLong ?hn_cls ?ht_cls ?k1_ValueError_BadNumber ?k1_ValueError_TooLong ?k1_BadNumber_BadNumber ?k1_BadNumber_TooLong ?nf_value_TooLong ?kn_BadCan_BadLitres_TooLong_BadNumber ?kn_BadCan_BadLitres_TooLong_TooLong ?pg_Bound ?hd_Bound ?po_Bound ?sa_Bound ?kn_BadCan_BadLitres_BadNumber ?kn_BadCan_BadLitres_TooLong ?nf_number_BadNumber ?k1_TooLong_BadNumber ?k1_TooLong_TooLong ?na_Bound_most ?hc_Bound ?mo_Bound ?il_Bound_list
    (case a_BadNumber => k_is)
    (case a_TooLong => k_is)
    (case a_PathError => k_is)
    (case a_BadCan => k_is)
    (case a_BadLitres => k_is)
    (case a_Bound => k_is)
    (case w_BadNumber => k_is)
    (case v_BadNumber => rfl)
    (case sa_BadNumber => k_is)
    (case be_BadNumber => k_is)
    (case ty_BadNumber => k_is)
    (case kc_BadNumber => k_is)
    (case a_BadNumber_init => k_is)
    (case t_BadNumber_init => k_is)
    (case l_BadNumber_init => k_is)
    (case c_BadNumber_init => k_is)
    (case k_BadNumber_init => k_is)
    (case nf_value_BadNumber => k_is)
    (case w_TooLong => k_is)
    (case v_TooLong => rfl)
    (case sa_TooLong => k_is)
    (case be_TooLong => k_is)
    (case ty_TooLong => k_is)
    (case kc_TooLong => k_is)
    (case a_TooLong_init => k_is)
    (case t_TooLong_init => k_is)
    (case l_TooLong_init => k_is)
    (case c_TooLong_init => k_is)
    (case k_TooLong_init => k_is)
    (case nf_number_TooLong => k_is)
    (case a_l_deck => k_is)
    (case l_l_deck => k_is)
    (case c_l_deck => k_is)
    (case k_l_deck => k_is)
    (case a_l_draw => k_is)
    (case l_l_draw => k_is)
    (case c_l_draw => k_is)
    (case k_l_draw => k_is)
    (case a_l_is_within => k_is)
    (case l_l_is_within => k_is)
    (case c_l_is_within => k_is)
    (case k_l_is_within => k_is)
    (case a_is_number => k_is)
    (case l_is_number => k_is)
    (case c_is_number => k_is)
    (case k_is_number => k_is)
    (case a_is_number_within => k_is)
    (case l_is_number_within => k_is)
    (case c_is_number_within => k_is)
    (case k_is_number_within => k_is)
    (case a_Bound_init => k_is)
    (case fn_Bound_init => k_is)
    (case l_Bound_init => k_is)
    (case c_Bound_init => k_is)
    (case k_Bound_init => k_is)
    (case a_l_made => k_is)
    (case l_l_made => k_is)
    (case c_l_made => k_is)
    (case k_l_made => k_is)
    (case a_Bound_room => k_is)
    (case fn_Bound_room => k_is)
    (case l_Bound_room => k_is)
    (case c_Bound_room => k_is)
    (case k_Bound_room => k_is)
    (case a_l_room => k_is)
    (case l_l_room => k_is)
    (case c_l_room => k_is)
    (case k_l_room => k_is)
    (case a_law => k_is)
    (case l_law => k_is)
    (case c_law => k_is)
    (case k_law => k_is)
    (case z_ValueError => k_is)
    (case z_abs => k_is)
    (case z_bool => k_is)
    (case z_int => k_is)
    (case z_isinstance => k_is)
    (case z_len => k_is)
    (case z_list => k_is)
    (case z_max => k_is)
    (case z_range => k_is)
    (case z_repr => k_is)
    (case z_LIMIT => k_is)
    (case ex_PathError_BadNumber => kts_exm)
    (case ex_PathError_TooLong => kts_exm)
    (case mks_Bound => k_is)
    (case kc_Bound => k_is)
    (case ga_BadNumber => k_is)
    (case gg_BadNumber => k_is)
    (case hd_BadNumber => k_is)
    (case hc_BadNumber => k_is)
    (case mo_BadNumber => k_is)
    (case ga_TooLong => k_is)
    (case gg_TooLong => k_is)
    (case hd_TooLong => k_is)
    (case hc_TooLong => k_is)
    (case mo_TooLong => k_is)
    (case hn_cls => k_is)
    (case ht_cls => k_is)
    (case k1_ValueError_BadNumber => kit_is)
    (case k1_ValueError_TooLong => kit_is)
    (case k1_BadNumber_BadNumber => kit_is)
    (case k1_BadNumber_TooLong => kit_is)
    (case nf_value_TooLong => k_is)
    (case kn_BadCan_BadLitres_TooLong_BadNumber => kit_is)
    (case kn_BadCan_BadLitres_TooLong_TooLong => kit_is)
    (case pg_Bound => k_is)
    (case hd_Bound => k_is)
    (case po_Bound => k_is)
    (case sa_Bound => k_is)
    (case kn_BadCan_BadLitres_BadNumber => kit_is)
    (case kn_BadCan_BadLitres_TooLong => kit_is)
    (case nf_number_BadNumber => k_is)
    (case k1_TooLong_BadNumber => kit_is)
    (case k1_TooLong_TooLong => kit_is)
    (case na_Bound_most => k_is)
    (case hc_Bound => k_is)
    (case mo_Bound => k_is)
    (case il_Bound_list => kit_is)
