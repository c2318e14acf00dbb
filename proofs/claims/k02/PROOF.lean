import PyProof.Rows.All
import Wide.All
import OpenK.AllK
import Wide.FinOn
import HandS.ForMost
import HandS.Strs
import HandS.SetFor
import HandS.More
import PyProof.ReprRoads
import HandS.TupAny
import HandS.Walk
import HandS.Evl
import KE.KDictPairs
import HandS.IsInst
import KE.KDictKeyed
import KE.SortData
import KE.DataCmp
import KE.DataEq
import PyProof.Rows.IntBool
import HandS.SortInts
import HandS.Flt
import HandS.Style
import KE.KRevSl
import KE.GoesEnum
import PyProof.StrLawsRepr
import PyProof.Rows.ReprOcc
import PySem.Challenge.RW_canpath_k02_trips_judged
set_option Elab.async false
set_option linter.all false
set_option maxRecDepth 100000
set_option maxHeartbeats 8000000
namespace Cn
open PySem PySem.Spec PyProof.Rows L2

/-! ### the length of what repr shows -/
mutual
/-- small data: numbers below 10^40, short plain texts, no dicts -/
def sm : PyData → Bool
  | .none => true
  | .bool _ => true
  | .int i => decide (i.natAbs < 10 ^ 40)
  | .str x => decide ((reprText x).length ≤ 100)
  | .list xs => smAll xs
  | .tuple xs => smAll xs
  | .dict _ => false
def smAll : List PyData → Bool
  | [] => true
  | x :: xs => sm x && smAll xs
end
mutual
def wt : PyData → Nat
  | .none => 100
  | .bool _ => 100
  | .int _ => 100
  | .str _ => 100
  | .list xs => wtAll xs + 3
  | .tuple xs => wtAll xs + 3
  | .dict _ => 0
def wtAll : List PyData → Nat
  | [] => 0
  | x :: xs => (wt x + 2) + wtAll xs
end
mutual
def dp : PyData → Nat
  | .list xs => dpAll xs + 1
  | .tuple xs => dpAll xs + 1
  | _ => 0
def dpAll : List PyData → Nat
  | [] => 0
  | x :: xs => max (dp x) (dpAll xs)
end
theorem listText_le (ts : List Str) : (listText ts).length ≤ piled ts + 3 := by
  cases ts with
  | nil => decide
  | cons t r =>
    have h := textFrom_length_pos r 1 (("[" : Str) ++ (if (0 : Nat) > 0 then ", " else "" : String) ++ t) (Nat.succ_pos 0)
    have e1 : (listText (t :: r)).length = (textFrom 1 (("[" : Str) ++ (if (0 : Nat) > 0 then ", " else "" : String) ++ t) r).length + 1 := by
      show (textFrom 1 _ r ++ "]").length = _
      rw [strLen_append]; rfl
    have e2 : ((("[" : Str) ++ (if (0 : Nat) > 0 then ", " else "" : String) ++ t)).length = 1 + t.length := by
      rw [strLen_append, strLen_append]; rfl
    rw [e1, h, e2, piled_cons]; omega
theorem tupleText_le (ts : List Str) : (tupleText ts).length ≤ piled ts + 3 := by
  unfold tupleText
  rw [strLen_append, strLen_append]
  have cl : (((if ts.length == 1 then ",)" else ")" : String) : Str)).length ≤ 2 := by split <;> decide
  rw [show (("(" : String) : Str).length = 1 from rfl]
  by_cases h : ts = []
  · subst h
    show 1 + 0 + _ ≤ _
    omega
  · have := join_length_add ts h
    omega
mutual
theorem sm_show : ∀ d : PyData, sm d = true → d.showable = true ∧ d.hasDict = false ∧ d.shown.length ≤ wt d
  | .none, _ => ⟨rfl, rfl, by simp only [PyData.shown, wt]; decide⟩
  | .bool b, _ => ⟨rfl, rfl, by simp only [PyData.shown, wt]; cases b <;> decide⟩
  | .int i, h => by
    have h1 : i.natAbs < 10 ^ 40 := by simpa only [sm, decide_eq_true_eq] using h
    have h2 : i.natAbs < 2 ^ 1920 := Nat.lt_of_lt_of_le h1 (by decide +kernel)
    refine ⟨?_, rfl, ?_⟩
    · simp only [PyData.showable, decide_eq_true_eq]
      by_cases h0 : i.natAbs = 0
      · rw [h0]; decide
      · exact (Nat.log2_lt h0).2 h2
    · have := int_text_length_le10 (a := i) (k := 40) (by decide) h1
      simp only [PyData.shown, wt]
      rw [PySem.ofString_length]
      omega
  | .str x, h => by
    have h1 : (reprText x).length ≤ 100 := by simpa only [sm, decide_eq_true_eq] using h
    exact ⟨rfl, rfl, by simp only [PyData.shown, wt]; exact h1⟩
  | .list xs, h => by
    obtain ⟨a, b, c⟩ := sm_showAll xs (by simpa only [sm] using h)
    refine ⟨by simpa only [PyData.showable] using a, by simpa only [PyData.hasDict] using b, ?_⟩
    have := listText_le (PyData.shownAll xs)
    simp only [PyData.shown, wt]
    omega
  | .tuple xs, h => by
    obtain ⟨a, b, c⟩ := sm_showAll xs (by simpa only [sm] using h)
    refine ⟨by simpa only [PyData.showable] using a, by simpa only [PyData.hasDict] using b, ?_⟩
    have := tupleText_le (PyData.shownAll xs)
    simp only [PyData.shown, wt]
    omega
  | .dict _, h => by simp [sm] at h
theorem sm_showAll : ∀ ds : List PyData, smAll ds = true → PyData.showableAll ds = true ∧ PyData.hasDictAll ds = false ∧ piled (PyData.shownAll ds) ≤ wtAll ds
  | [], _ => ⟨rfl, rfl, by simp only [PyData.shownAll, wtAll]; exact Nat.le_refl _⟩
  | x :: xs, h => by
    simp only [smAll, Bool.and_eq_true] at h
    obtain ⟨a, b, c⟩ := sm_show x h.1
    obtain ⟨a', b', c'⟩ := sm_showAll xs h.2
    refine ⟨by simp only [PyData.showableAll, a, a', Bool.and_self], by simp only [PyData.hasDictAll, b, b', Bool.or_self], ?_⟩
    simp only [PyData.shownAll, wtAll]
    rw [piled_cons]; omega
end
mutual
theorem dp_depth : ∀ d : PyData, sm d = true → d.depth = dp d
  | .none, _ => by simp only [PyData.depth, dp]
  | .bool _, _ => by simp only [PyData.depth, dp]
  | .int _, _ => by simp only [PyData.depth, dp]
  | .str _, _ => by simp only [PyData.depth, dp]
  | .list xs, h => by
    have := dp_depthAll xs (by simpa only [sm] using h)
    simp only [PyData.depth, dp]; omega
  | .tuple xs, h => by
    have := dp_depthAll xs (by simpa only [sm] using h)
    simp only [PyData.depth, dp]; omega
  | .dict _, h => by simp [sm] at h
theorem dp_depthAll : ∀ ds : List PyData, smAll ds = true → PyData.depthAll ds = dpAll ds
  | [], _ => by simp only [PyData.depthAll, dpAll]
  | x :: xs, h => by
    simp only [smAll, Bool.and_eq_true] at h
    have h1 := dp_depth x h.1
    have h2 := dp_depthAll xs h.2
    simp only [PyData.depthAll, dpAll, h1, h2]
end

/-! ### repr of data -/
section
variable {X : Cx}
def rRepr (K : PySem.W.Frag) : List V → Hp → VK → Prop := fun xs H Q => ∃ v d, xs = [v] ∧ Dp K H v d ∧ sm d = true ∧ wt d ≤ 1000000 ∧ dp d ≤ 50 ∧ Q (.str d.shown) H
theorem call_repr (hg : X.A.guards = some []) (hu : X.A.units + 64 < cLine) : CallR X (.builtin "repr") (rRepr X.K) := by
  intro pins s σ H xs us Q I r h
  obtain ⟨v, d, rfl, hd, hs, hw, hp, q⟩ := h
  obtain ⟨u, rfl, ru⟩ := vals1 r
  obtain ⟨as, rd⟩ := Dp.reads I d v u hd ru
  obtain ⟨s1, s2, s3⟩ := sm_show d hs
  have hz : d.shown.length ≤ sizeLine := Nat.le_trans (Nat.le_trans s3 hw) (by decide)
  have hdd : d.depth ≤ 50 := by rw [dp_depth d hs]; exact hp
  have leaf : ∀ {h' : Heap} {t u : Nat}, (∀ b o, s.heap.get? b = some o → h'.get? b = some o) → EP X pins σ Q (.str d.shown u) { s with heap := h', toks := t } :=
    fun k => ⟨.str _, H, I.kept k, ⟨_, rfl⟩, q⟩
  cases hd with
  | non =>
    cases ru
    simp only [PyData.shown] at leaf
    exact PySem.P.repr_of_none (leaf fun _ _ e => e)
  | bl b =>
    cases ru
    simp only [PyData.shown] at leaf
    exact PySem.P.repr_of_bool (leaf fun _ _ e => e)
  | int i =>
    obtain ⟨t, rfl⟩ := ru
    simp only [PyData.shown] at leaf
    exact PySem.P.repr_of_int (by simpa only [PyData.showable, decide_eq_true_eq] using s1) (leaf fun _ _ e => e)
  | str x =>
    obtain ⟨t, rfl⟩ := ru
    simp only [PyData.shown] at leaf hz
    exact PySem.P.repr_of_str (leaf fun _ _ e => e) hz
  | lst a b =>
    cases ru
    exact repr_of_reads' rd s1 (fun e => by rw [s2] at e; cases e) hg (by omega) (fun _ _ e => e) (fun h' u tk k => leaf k) hz
  | tup a b =>
    cases ru
    exact repr_of_reads' rd s1 (fun e => by rw [s2] at e; cases e) hg (by omega) (fun _ _ e => e) (fun h' u tk k => leaf k) hz
end
end Cn

namespace Cn
open PySem PySem.Spec PyProof.Rows L2

/-! ### defs that are called where no repr is under way -/
structure FnG (P : Program) (w : World) (K : PySem.W.Frag) (mg : Str → Option Value) (base : Heap) (k : Nat) (f : Addr) (fd : FuncData) (ps : List Str) (sp : Sp) : Prop where
  len : ∀ vs H Q E, sp vs H Q E → vs.length = ps.length
  run : ∀ (A : Around) (out : List Env) (s : Shared) (H : Hp) (args : Args) (us : List Value) (vs : List V) (Q : VK) (E : XK), A.guards = some [] → Room k A → Env0 P w K mg base A out s H →
    BindsTo s fd args (ps.zip us) → Vals vs us → sp vs H Q E → codeAny (model P w) A (.call (.ref f) args) (CR CX0 out P w H s Q E) s
section
variable {P : Program} {w : World} {K : PySem.W.Frag} {mg : Str → Option Value} {base : Heap}
theorem FnG.of {k : Nat} {f : Addr} {fd : FuncData} {ps : List Str} {sp : Sp} (F : FnOk P w K mg base CX0 k f fd ps sp) : FnG P w K mg base k f fd ps sp :=
  ⟨F.len, fun A out s H args us vs Q E _ => F.run A out s H args us vs Q E⟩
theorem okG {x qual : Str} {st : Stmt} {f : Addr} {fd : FuncData} {N ps : List Str} {k : Nat} {sp : Sp} (F : Fun K x qual st f fd) (S : FnScope N ps (defScope st)) (len : ∀ vs H Q E, sp vs H Q E → vs.length = ps.length)
    (body : ∀ (cdv : Value) (A : Around) (out : List Env) (s : Shared) (H : Hp) (vs : List V) (Q : VK) (E : XK), A.guards = some [] → Room k (A.deeper (envOfC qual (defScope st) s.heap.objs.size f cdv)) → sp vs H Q E →
      ∃ t, PSs (cxOf CX0 P w K mg base N qual (defScope st) f cdv A out s H E).nox (defBody st) t ∧ t { nx := fun _ H' => Q .non H', rt := Q } (start N vs) H) : FnG P w K mg base (k + 1) f fd ps sp := by
  obtain ⟨oc, od, kV, doc, pm, an, cdv, ct, osl, rfl, lk, code⟩ := F.ex
  refine ⟨len, fun A out s H args us vs Q E gd room e0 bd rel pr => ?_⟩
  have inK : K.In s.heap := e0.mod.kin.keeps fun b o e => (e0.bs b o e).1
  have par : ∀ y ∈ ps.zip us, (defScope st).names.lookup y.1 = some .local ∨ ((defScope st).names.lookup y.1 = some .cell ∧ ((cellsFrom (s.heap.objs.size + 1) (defScope st).names []).lookup y.1).isSome = true) := by
    intro y hy
    refine (S.par y.1 (List.of_mem_zip (show (y.1, y.2) ∈ ps.zip us from hy)).1).imp id fun c => ⟨c, PySem.W.cellsFrom_some _ _ _ (.inl c)⟩
  refine codeAny_call_function room.depth (inK _ _ lk) rfl S.co S.gen rfl (PySem.W.codeRec_of inK code) (bd _ _ _ _ (wpAny_newFunctionEnv_cells S.kind par ?_))
  rintro _ rfl s1 new
  refine ⟨(e0.mod.nolimit.keeps fun b o e => (e0.bs b o e).1).keeps new.toInCall.keep, codeAny_func ?_⟩
  obtain ⟨t, ht, q⟩ := body cdv A out s H vs Q E gd (room.deeper _) pr
  refine wpAny_mono (ht.nox.run [] s1 (start N vs) H _ (inv_start S room.hd e0 (len _ _ _ _ pr) rel new) q) ?_ fun _ _ z => z
  rintro (_ | _ | _ | u) s' z
  case next =>
    obtain ⟨_, H', J, z⟩ := z
    exact ⟨V.non, H', J.os, J.bare, J.base, J.hok, rfl, z⟩
  case ret =>
    obtain ⟨v, _, H', J, rv, z⟩ := z
    exact ⟨v, H', J.os, J.bare, J.base, J.hok, rv, z⟩
  all_goals
    obtain ⟨_, _, _, z⟩ := z
    exact z.elim
end
section
variable {X : Cx} {k : Nat} {f : Addr} {fd : FuncData} {ps : List Str} {sp : Sp} {x : Str} {p pos : Pos} {e : Expr} {es : List Expr} {t : TA}
theorem pe_callG (F : FnG X.prog X.w X.K X.mg X.base k f fd ps sp) (gd : X.A.guards = some []) (room : Room k X.A) (gl : Gl X x) (hm : X.mg x = some (.ref f)) (kp : PySem.W.keepIn X.K (.ref f) = true) (bd : Binds X.K fd ps [])
    (ha : PA X (e :: es) t) (hdb : (x == ("__debug__" : Str)) = false := by decide) (he : starEach (e :: es) X.env = (false, eval e X.env) :: starEach es X.env := by rfl) (hpl : (backTo pos (starEach es X.env)).any (·.1) = false := by rfl) :
    PE X (.Call (.Name x p) (e :: es) [] pos) (tCall sp [] E0 t) := by
  refine ⟨fun pins s σ H Q I h => wpAny_Call_Name_kw (ld_glob I gl hm ?_ hdb)⟩
  refine PySem.W.callWith_K (h₀ := X.base) I.ok.mod.kin kp (thn (ha.run pos pins s σ H _ I h) ?_) he hpl
  rintro us s1 ⟨vs, H1, I1, rel, q⟩
  refine ⟨I1.kIn, ?_⟩
  have q0 : sp (vs ++ []) H1 Q E0 := q
  have rel0 : Vals (vs ++ []) (us ++ []) := rel.append .nil
  have l0 : (us ++ []).length = ps.length := rel0.length.symm.trans (F.len _ _ _ _ q0)
  refine wpAny_call (codeAny_mono (F.run X.A X.stack s1 H1 ⟨us, []⟩ (us ++ []) (vs ++ []) Q E0 gd room I1.env0 (bd s1 us I1.kIn l0) rel0 q0) ?_)
  rintro (_ | _ | _ | _ | u) s' z
  case ok.ret => exact I1.after z
  all_goals exact z.elim
end
end Cn

namespace Cn
open PySem PySem.Spec PyProof.Rows L2
theorem lawG {P : Program} {w : World} {K : PySem.W.Frag} {mg mb : Str → Option Value} {k : Nat} {fa a : Addr} {fd : FuncData} {x : Str} {sp : Sp} {s : Shared} {vs : List Value} {ns : List Int}
    (inK : K.In s.heap) (gl : s.heap.Ns mainGlobals mg) (bt : s.heap.Ns builtinsNs mb) (boot : ∀ x : Str, x ≠ "__name__" → mb x = bootBuiltins x) (lim : s.heap.NoLimit) (gens : s.gens = #[])
    (at_a : s.heap.get? a = some { cls := .type "list", data := .seq vs.toArray }) (nums : IntsAre vs ns) (few : ns.length ≤ sizeLine) (room : Room k callerA)
    (F : ∀ base : Heap, K.In base → base.Ns mainGlobals mg → FnG P w K mg base k fa fd [x] sp) (binds : ∀ (s : Shared) (u : Value), BindsTo s fd ⟨[u], []⟩ [(x, u)])
    (pr : ∀ H : Hp, Only H → SqL K H a (ns.map V.int) → sp [.ref a] H (fun v _ => v = .bl true) fun _ _ _ => False) :
    codeAny (model P w) callerA (.call (.ref fa) ⟨[.ref a], []⟩) (fun r s' => r = .ok (.ret (.bool true)) ∧ OldK s.heap s'.heap ∧ s'.os = s.os ∧ AllBare s'.gens) s := by
  have rel := vals_ints nums
  have main : ∀ H : Hp, Only H → SqL K H a (ns.map V.int) → HOk P w H s.heap → (∀ b, H b ≠ none → b = a ∧ K.lookup a = none) →
      codeAny (model P w) callerA (.call (.ref fa) ⟨[.ref a], []⟩) (fun r s' => r = .ok (.ret (.bool true)) ∧ OldK s.heap s'.heap ∧ s'.os = s.os ∧ AllBare s'.gens) s := by
    intro H only sq hok tr
    have names : ∀ {b : Addr} {m : Str → Option Value}, s.heap.Ns b m → (hidT s.heap H).Ns b m := by
      rintro b m ⟨o, es, ep, e, d, r⟩
      refine ⟨o, es, ep, hidT_get e (Classical.byContradiction fun n => ?_), d, r⟩
      obtain ⟨rfl, _⟩ := tr b n
      have z := at_a.symm.trans e
      injection z with z
      subst z
      exact Data.noConfusion d
    have inB : K.In (hidT s.heap H) := fun b o e => hidT_get (inK b o e) (Classical.byContradiction fun n => by
      obtain ⟨rfl, z⟩ := tr b n
      rw [z] at e
      cases e)
    have e0 : Env0 P w K mg (hidT s.heap H) callerA [] s H := by
      refine ⟨rfl, ⟨inB, names gl, ⟨mb, names bt, boot⟩, ?_⟩, fun b o e => of_hidT e, Nat.le_of_eq (hidT_size _ _), trivial, fun b z => ?_, hok, .of_eq gens⟩
      · obtain ⟨mc, h1, h2⟩ := lim
        exact ⟨mc, names h1, h2⟩
      · simp [frs] at z
    refine codeAny_mono ((F _ inB (names gl)).run callerA [] s H ⟨[.ref a], []⟩ [.ref a] [.ref a] _ _ rfl room e0 (binds s (.ref a)) (.cons rfl .nil) (pr H only sq)) ?_
    rintro (_ | _ | _ | _ | u) s' z
    case ok.ret =>
      obtain ⟨v, H', os, bare, un, hok', ru, rfl⟩ := z
      cases ru
      refine ⟨rfl, OldK.of_keep fun b o e => ?_, os, bare⟩
      rcases only b with n | ⟨ob, xs, fz⟩
      · exact un.keep b o e n (by simp [frs]) (by simp)
      · have o1 : s.heap.get? b = some ob := (hok b _ fz).1
        have o2 : s'.heap.get? b = some ob := (hok' b _ (un.frzs b ob _ fz)).1
        rw [o2, ← o1, e]
    all_goals exact z.elim
  cases lk : K.lookup a with
  | some o =>
    have e := (inK a o lk).symm.trans at_a
    injection e with e
    subst e
    exact main (fun _ => none) (fun _ => .inl rfl) (.inr ⟨_, vs.toArray, _, lk, rfl, rfl, rfl, by rw [List.size_toArray, nums.length]; exact few, by simpa using rel⟩) (fun b u z => nomatch z) (fun b z => absurd rfl z)
  | none =>
    let o : HO := .frz { cls := .type "list", data := .seq vs.toArray } (.lst (ns.map V.int))
    have off : ∀ b, b ≠ a → (upd (fun _ => none) a o) b = none := fun b n => upd_ne n
    refine main (upd (fun _ => none) a o) (fun b => ?_) (.inl (.inr ⟨_, upd_same⟩)) (fun b u z => ?_) (fun b z => ?_)
    · by_cases n : b = a
      · subst n; exact .inr ⟨_, _, upd_same⟩
      · exact .inl (off b n)
    · by_cases n : b = a
      · subst n
        rw [upd_same] at z
        injection z with z
        subst z
        exact ⟨at_a, by rw [List.length_map]; exact few, vs, _, rel, at_a⟩
      · rw [off b n] at z; cases z
    · by_cases n : b = a
      · exact ⟨n, lk⟩
      · exact absurd (off b n) z
/-- the end of a law's proof; the law's def is called with no repr under way -/
theorem walkG {l : PySem.W.OpenLaw} {n k : Nat} {q : Program} {loose : List Str} {XP : (Str → Option Value) → Heap → Prop} {YP : World → Heap → Prop} {d : DefRec} {K : Params → PySem.W.Frag} {sp : PySem.W.Frag → Sp} {x : Str}
    (most : l.most = some n) (few : n ≤ sizeLine) (nodef : d.params.defaults = []) (room : Room k callerA) (hY : ∀ (w : World) (h : Heap), YP w h → (K w.params).In h)
    (F : ∀ (w : World) (mg : Str → Option Value) (fa : Addr) (h : Heap), (K w.params).In h → h.Ns mainGlobals mg → mg d.name = some (.ref fa) →
      ∃ fd : FuncData, (∀ (s : Shared) (u : Value), BindsTo s fd ⟨[u], []⟩ [(x, u)]) ∧ ∀ base : Heap, (K w.params).In base → base.Ns mainGlobals mg → FnG l.prog w (K w.params) mg base k fa fd [x] (sp (K w.params)))
    (pr : ∀ (K : PySem.W.Frag) (H : Hp) (a : Addr) (ns : List Int), ns.length ≤ n → SqL K H a (ns.map V.int) → sp K [.ref a] H (fun v _ => v = .bl true) fun _ _ _ => False) :
    PySem.W.WalkO q loose XP YP l.row.toRowW d [] (fun f vs => PySem.call f vs) := by
  refine Att.attach_call most nodef ?_
  intro w s₀ s mg mb fa o pm cd doc a vs ns G Y _ _ _ named at_a nums len gens
  obtain ⟨fd, bd, go⟩ := F w mg fa _ (hY w _ Y) G.T.g named
  exact lawG (hY w _ Y) G.T.g G.T.b G.T.builtins G.T.nolimit gens at_a nums (Nat.le_trans len few) room go bd fun H _ sq => pr _ H a ns len sq
end Cn

namespace Cn
open PySem PySem.Spec PyProof.Rows L2
/-! ### set(list of ints) -/
abbrev set0 (w : World) : Obj := { cls := .type "set", dict := none, data := .set #[] 0 (.fresh 0 0 (!w.params.followText "set-order")) }
section
variable {P : Program} {w : World} {A : Around} {E : Value → Shared → Prop} {s : Shared}
set_option maxHeartbeats 8000000 in
theorem set_of_list {l : Addr} {items : Array Value} (ns : List Int) {Q : Value → Shared → Prop} (calm : A.handled = none) (isl : s.heap.IsList l items) (nums : IntsAre items.toList ns) (few : ns.length + 1 < scanBound)
    (fin : ∀ (h' : Heap) (tk c : Nat), SetR w h' s.heap.objs.size (fun j => decide (j ∈ ns)) c → c ≤ ns.length → (∀ b o, s.heap.get? b = some o → h'.get? b = some o) → Q (.ref s.heap.objs.size) { s with heap := h', toks := tk }) :
    wpAny (model P w) A (call (.type "set") [.ref l]) Q E s := by
  have size : items.size = ns.length := by rw [← Array.length_toList]; exact nums.length
  obtain ⟨c, tl, mro⟩ := F.called_set.mro
  have m1 := F.called_set.made
  have m2 := F.called_set.sub
  have m3 := F.called_set.notType
  have m4 := F.called_set.canCreate
  have m5 := F.typeCall_set_1 (.ref l)
  refine wpAny_call (codeAny_of_tree (show wpAny _ _ (callAny (.type "set") _) _ _ _ from wpAny_pure ⟨Code.quiet_builtin _ (by decide +kernel), codeAny_builtin F.entry_type_call ?_⟩))
  rw [Around.under_plain (weight_type_call_type "set" [.ref l] []) rfl]
  repeat (any_goals (first | assumption | wp_step))
  refine codeAny_mono (code_set_led1 (.ref l) (E := E) (Q₁ := fun obj t => obj = .ref s.heap.objs.size ∧ t = { s with heap := s.heap.push (set0 w) }) ⟨rfl, rfl⟩) ?_
  rintro (e | fl) s1 z
  · exact z
  cases fl with
  | ret obj =>
    obtain ⟨rfl, rfl⟩ := z
    have here : (s.heap.push (set0 w)).get? s.heap.objs.size = some (set0 w) := Heap.get?_push_size _ rfl
    have typ : Shared.TypeIs { s with heap := s.heap.push (set0 w) } (.ref s.heap.objs.size) "set" := ⟨_, here, rfl⟩
    have i1 := F.called_set.init.lookup
    have i2 := F.called_set.init.bind (.ref s.heap.objs.size)
    repeat (any_goals (first | assumption | wp_step))
    refine codeAny_mono (codeAny_call_builtin (R := wants (fun r t => r = .none ∧ ∃ h' tk c, t = { s with heap := h', toks := tk } ∧ SetR w h' s.heap.objs.size (fun j => decide (j ∈ ns)) c ∧ c ≤ ns.length ∧
      ∀ b o, s.heap.get? b = some o → h'.get? b = some o) E) F.called_set.init.plain F.entry_set_init (check_set_init_1 typ ?_)) ?_
    · obtain ⟨⟨cl, dc, dt, sl⟩, ol, hcl, n, hdt⟩ := isl
      simp only at hcl hdt
      subst hcl; subst hdt
      have ol1 : (s.heap.push (set0 w)).get? l = some { cls := .type "list", dict := dc, data := .seq items n, slots := sl } := Heap.get?_push_of_some _ ol
      have b1 := F.sub_list_set
      have b2 := F.sub_list_frozenset
      have b3 : (Value.type "list" == Value.type "dict") = false := by decide
      have isl1 : (s.heap.push (set0 w)).IsList l items := ⟨_, ol1, rfl, n, rfl⟩
      unfold Builtin.«set.__init__» noKeywords Builtin.Frozenset.updateFrom
      generalize kept : pyIter = PI
      wp_walk
      subst kept
      refine wpAny_pyIter_list isl1 (wpAny_bind (wpAny_runValue ?_))
      have low : l < s.heap.objs.size := Heap.lt_size ol
      have calm3 : A.in1.in1.in1.handled = none := by simp [calm]
      have sz1 : (s.heap.push (set0 w)).objs.size = s.heap.objs.size + 1 := Heap.size_push ..
      have ne1 : l ≠ (s.heap.push (set0 w)).objs.size := by rw [sz1]; exact Nat.ne_of_lt (Nat.lt_succ_of_lt low)
      have out : s.heap.objs.size ∉ [(s.heap.push (set0 w)).objs.size, l] := by
        rw [sz1]
        simp only [List.mem_cons, List.not_mem_nil, or_false, not_or]
        exact ⟨Nat.ne_of_lt (Nat.lt_succ_self _), Nat.ne_of_gt low⟩
      have val : ∀ (i : Nat) (v : Value), items[i]? = some v → ∃ k t, ns[i]? = some k ∧ v = .int k t := by
        intro i v hv
        have hi : i < ns.length := by rw [← size]; exact (Array.getElem?_eq_some_iff.mp hv).1
        obtain ⟨t, e⟩ := nums.int_at i v (by rw [Array.getElem?_toList]; exact hv)
        refine ⟨ns[i], t, List.getElem?_eq_getElem hi, ?_⟩
        rw [e, List.getD_eq_getElem?_getD, List.getElem?_eq_getElem hi] <;> rfl
      refine set_update_ints ((Walks.list calm3 _ l ne1 items).toS) s.heap.objs.size out ns size few val (items.size - 0) 0 _ (by omega) (Nat.zero_le _) ⟨⟨_, Heap.get?_push_size _ rfl, rfl, rfl⟩, (isl1.push _)⟩ ⟨0, Nat.le_refl 0, setR_new_at (Heap.get?_push_of_some _ here)⟩ ?_
      rintro ⟨h', g', d', tk', os'⟩ c' mv le R
      obtain rfl : g' = s.gens := mv.gens
      obtain rfl : d' = s.drawn := mv.drawn
      obtain rfl : os' = s.os := mv.os
      show wpAny _ _ _ _ _ _
      refine wpAny_pure (show wpAny _ _ (ret Value.none) _ _ _ from wpAny_pure ⟨rfl, h', tk', c', rfl, R, by omega, fun b o e => ?_⟩)
      have lb : b < s.heap.objs.size := Heap.lt_size e
      refine mv.heap b o ?_ (Heap.get?_push_of_some _ (Heap.get?_push_of_some _ e))
      rw [sz1]
      simp only [List.mem_cons, List.not_mem_nil, or_false, not_or]
      exact ⟨Nat.ne_of_lt lb, Nat.ne_of_lt (Nat.lt_succ_of_lt lb)⟩
    · rintro (e | fl) t z
      · exact z
      cases fl with
      | ret r =>
        obtain ⟨rfl, h', tk, c', rfl, R, le, k⟩ := z
        repeat (any_goals (first | assumption | wp_step))
        exact fin _ _ _ R le k
      | _ => exact z.elim
  | _ => exact z.elim
end
section
variable {X : Cx}
def rSetL (K : PySem.W.Frag) (w : World) : List V → Hp → VK → Prop := fun xs H Q => ∃ (l : Addr) (ns : List Int), xs = [.ref l] ∧ SqL K H l (ns.map V.int) ∧ ns.length ≤ 1000 ∧
  ∀ p n, H p = none → n ≤ ns.length → Q (.ref p) (upd H p (SetO w p (fun j => decide (j ∈ ns)) n))
theorem cr_setL (hc : X.calm = true) : CallR X (.type "set") (rSetL X.K X.w) := by
  intro pins s σ H xs us Q I r h
  obtain ⟨l, ns, rfl, sq, few, q⟩ := h
  rw [Vals.ref1 r]
  obtain ⟨its, rv, pl, _⟩ := I.list sq
  refine set_of_list ns (I.ok.hd hc) pl.isList (by simpa using ints_of_vals rv) (by unfold scanBound; omega) fun h' tk c R le k => ?_
  exact ⟨.ref _, upd H s.heap.objs.size (SetO X.w s.heap.objs.size (fun j => decide (j ∈ ns)) c), I.laid (t' := tk) k (Nat.le_refl _) (setO_new R), rfl, q _ c (I.hok.fresh (Nat.le_refl _)) le⟩
/-- sorted(set(e)) as one -/
def rSortSet (K : PySem.W.Frag) : List V → Hp → VK → Prop := fun xs H Q => ∃ (l : Addr) (ns : List Int), xs = [.ref l] ∧ SqL K H l (ns.map V.int) ∧ ns.length < 64 ∧
  ∀ (ms : List Int) (p : Addr) (H' : Hp), ms.Pairwise (· < ·) → (∀ k : Int, k ∈ ms ↔ k ∈ ns) → H p = none → (∀ b o, H b = some o → H' b = some o) → H' p = some (.lst (ms.map V.int)) → Q (.ref p) H'
theorem sortset {K : PySem.W.Frag} {w : World} {vs : List V} {H1 : Hp} {Q : VK} (h : rSortSet K vs H1 Q) : rSetL K w vs H1 fun x H2 => rSortedSet w [x] H2 Q := by
  obtain ⟨l, ns, rfl, sq, few, q⟩ := h
  refine ⟨l, ns, rfl, sq, by omega, fun p n np le => ⟨p, _, n, rfl, upd_same, by omega, fun ms p' asc mem len np' => ?_⟩⟩
  have n1 : p' ≠ p := fun z => by rw [z, upd_same] at np'; cases np'
  have np0 := np'
  rw [upd_ne n1] at np0
  refine q ms p' _ asc (fun k => by rw [mem k, decide_eq_true_eq]) np0 (fun b o e => ?_) upd_same
  rw [upd_ne (ne_of_none e np0), upd_ne (ne_of_none e np)]
  exact e
end
end Cn

namespace Cn
open PySem PySem.Spec PyProof.Rows L2 Evl
/-! ### data made of tuples, of lists that are locked, and two dicts -/
def OdD (kvs : List (Key × V)) (ds : List (PyData × PyData)) : Prop := (kvs = [] ∧ ds = []) ∨ (kvs = [(.inr "a", .int 1)] ∧ ds = [(.str "a", .int 1)])
mutual
inductive Tp (H : Hp) : V → PyData → Prop
  | non : Tp H .non .none
  | bl (b : Bool) : Tp H (.bl b) (.bool b)
  | int (i : Int) : Tp H (.int i) (.int i)
  | str (x : Str) : Tp H (.str x) (.str x)
  | tup {a : Addr} {xs : List V} {ds : List PyData} : Rd H a (.tup xs) → TpAll H xs ds → Tp H (.ref a) (.tuple ds)
  | lst {a : Addr} {o : Obj} {xs : List V} {ds : List PyData} : H a = some (.frz o (.lst xs)) → a ≠ sysModules → TpAll H xs ds → Tp H (.ref a) (.list ds)
  | dic {a : Addr} {o : Obj} {kvs : List (Key × V)} {ds : List (PyData × PyData)} : H a = some (.frz o (.dK kvs)) → OdD kvs ds → Tp H (.ref a) (.dict ds)
inductive TpAll (H : Hp) : List V → List PyData → Prop
  | nil : TpAll H [] []
  | cons {v : V} {vs : List V} {d : PyData} {ds : List PyData} : Tp H v d → TpAll H vs ds → TpAll H (v :: vs) (d :: ds)
end
/-- the tuples stay, and what is locked -/
def Tk (H H' : Hp) : Prop := (∀ a xs, Rd H a (.tup xs) → Rd H' a (.tup xs)) ∧ ∀ a o u, H a = some (.frz o u) → H' a = some (.frz o u)
theorem sr {K : PySem.W.Frag} {H : Hp} {a : Addr} {xs : List V} (h : Rd H a (.tup xs)) : SqT K H a xs := .inl h
theorem rd_upd {H : Hp} {a p : Addr} {u o : HO} (h : Rd H a u) (n : a ≠ p) : Rd (upd H p o) a u := by
  rcases h with h | ⟨z, h⟩
  · exact .inl (by rw [upd_ne n]; exact h)
  · exact .inr ⟨z, by rw [upd_ne n]; exact h⟩
theorem rd_ne {H : Hp} {a p : Addr} {xs ys : List V} (h : Rd H a (.tup xs)) (hp : H p = some (.lst ys)) : a ≠ p := by
  rcases h with h | ⟨z, h⟩
  · exact ne_of h hp (by intro z; cases z)
  · exact ne_of h hp (by intro z; cases z)
theorem Tk.refl (H : Hp) : Tk H H := ⟨fun _ _ h => h, fun _ _ _ h => h⟩
theorem Tk.trans {H H1 H2 : Hp} (a : Tk H H1) (b : Tk H1 H2) : Tk H H2 := ⟨fun p xs h => b.1 p xs (a.1 p xs h), fun p o u h => b.2 p o u (a.2 p o u h)⟩
theorem Tk.ex {H H' : Hp} (e : Ex H H') : Tk H H' := ⟨fun a _ h => ex_rd e h, fun a _ _ h => e a _ h⟩
theorem Tk.lst {H : Hp} {p : Addr} {xs ys : List V} (h : H p = some (.lst xs)) : Tk H (upd H p (.lst ys)) :=
  ⟨fun a zs e => rd_upd e (rd_ne e h), fun a o u e => by rw [upd_ne (ne_of e h (by intro z; cases z))]; exact e⟩
mutual
theorem Tp.mono {H H' : Hp} (k : Tk H H') : ∀ {d : PyData} {v : V}, Tp H v d → Tp H' v d
  | _, _, .non => .non
  | _, _, .bl b => .bl b
  | _, _, .int i => .int i
  | _, _, .str x => .str x
  | _, _, .tup h a => .tup (k.1 _ _ h) (TpAll.mono k a)
  | _, _, .lst h n a => .lst (k.2 _ _ _ h) n (TpAll.mono k a)
  | _, _, .dic h r => .dic (k.2 _ _ _ h) r
theorem TpAll.mono {H H' : Hp} (k : Tk H H') : ∀ {ds : List PyData} {vs : List V}, TpAll H vs ds → TpAll H' vs ds
  | _, _, .nil => .nil
  | _, _, .cons a b => .cons (Tp.mono k a) (TpAll.mono k b)
end
mutual
theorem Tp.dp {K : PySem.W.Frag} {H : Hp} : ∀ {d : PyData} {v : V}, Tp H v d → d.hasDict = false → Dp K H v d
  | _, _, .non, _ => .non
  | _, _, .bl b, _ => .bl b
  | _, _, .int i, _ => .int i
  | _, _, .str x, _ => .str x
  | _, _, .tup h a, n => .tup (sr h) (TpAll.dp a (by simpa only [PyData.hasDict] using n))
  | _, _, .lst h _ a, n => .lst (.inl (.inr ⟨_, h⟩)) (TpAll.dp a (by simpa only [PyData.hasDict] using n))
  | _, _, .dic _ _, n => by simp [PyData.hasDict] at n
theorem TpAll.dp {K : PySem.W.Frag} {H : Hp} : ∀ {ds : List PyData} {vs : List V}, TpAll H vs ds → PyData.hasDictAll ds = false → DpAll K H vs ds
  | _, _, .nil, _ => .nil
  | _, _, .cons a b, n => by
    simp only [PyData.hasDictAll, Bool.or_eq_false_iff] at n
    exact .cons (Tp.dp a n.1) (TpAll.dp b n.2)
end
theorem nd_sm {d : PyData} (h : sm d = true) : d.hasDict = false := (sm_show d h).2.1
theorem nd_smAll {ds : List PyData} (h : sm (.list ds) = true) : PyData.hasDictAll ds = false := by
  have := nd_sm h
  simpa only [PyData.hasDict] using this
theorem nd_shaped {d : PyData} (h : SeqAt.shaped d = true) : d.hasDict = false := PyData.hasDict_of_canLay d (SeqAt.canLay_of_shaped h)
theorem nd_shapedL {ds : List PyData} (h : SeqAt.shaped (.list ds) = true) : PyData.hasDictAll ds = false := by
  have := nd_shaped h
  simpa only [PyData.hasDict] using this
section
variable {H H' : Hp}
theorem Tp.int_inv {v : V} {i : Int} (h : Tp H v (.int i)) : v = .int i := by cases h; rfl
theorem Tp.tup_inv {v : V} {ds : List PyData} (h : Tp H v (.tuple ds)) : ∃ a xs, v = .ref a ∧ Rd H a (.tup xs) ∧ TpAll H xs ds := by
  cases h with
  | tup a b => exact ⟨_, _, rfl, a, b⟩
theorem TpAll.length : ∀ {xs : List V} {ds : List PyData}, TpAll H xs ds → xs.length = ds.length
  | _, _, .nil => rfl
  | _, _, .cons _ b => by simp [b.length]
theorem TpAll.get : ∀ {xs : List V} {ds : List PyData} {i : Nat} {d : PyData}, TpAll H xs ds → ds[i]? = some d → ∃ v, xs[i]? = some v ∧ Tp H v d
  | _, _, _, _, .nil, e => by simp at e
  | _, _, 0, _, .cons a _, e => by simp at e; subst e; exact ⟨_, rfl, a⟩
  | _, _, i + 1, _, .cons _ b, e => by
    obtain ⟨v, h1, h2⟩ := b.get (i := i) (by simpa using e)
    exact ⟨v, by simpa using h1, h2⟩
theorem TpAll.append : ∀ {xs ys : List V} {ds es : List PyData}, TpAll H xs ds → TpAll H ys es → TpAll H (xs ++ ys) (ds ++ es)
  | _, _, _, _, .nil, b => b
  | _, _, _, _, .cons a r, b => .cons a (r.append b)
theorem TpAll.take : ∀ {xs : List V} {ds : List PyData} (n : Nat), TpAll H xs ds → TpAll H (xs.take n) (ds.take n)
  | _, _, 0, _ => .nil
  | _, _, _ + 1, .nil => .nil
  | _, _, n + 1, .cons a b => .cons a (b.take n)
theorem TpAll.nums : ∀ {ns : List Int} {xs : List V}, TpAll H xs (ns.map PyData.int) → xs = ns.map V.int
  | [], _, h => by cases h; rfl
  | n :: ns, _, h => by
    cases h with
    | cons a b => rw [List.map_cons, a.int_inv, b.nums]
theorem TpAll.of_nums : ∀ ns : List Int, TpAll H (ns.map V.int) (ns.map PyData.int)
  | [] => .nil
  | n :: ns => .cons (.int n) (TpAll.of_nums ns)
end
/-! ### gardens -/
abbrev Bed := Int × Int
def bedD (b : Bed) : PyData := .tuple [.int b.1, .int b.2]
def bedsD (bs : List Bed) : PyData := .tuple (bs.map bedD)
def gardenD (t c : Int) (bs : List Bed) : PyData := .tuple [.int t, .int c, bedsD bs]
theorem bed_inv {H : Hp} {v : V} {b : Bed} (h : Tp H v (bedD b)) : ∃ a, v = .ref a ∧ Rd H a (.tup [.int b.1, .int b.2]) := by
  obtain ⟨a, xs, rfl, ha, r⟩ := Tp.tup_inv h
  cases r with
  | cons p r =>
    cases r with
    | cons q r =>
      cases r
      rw [p.int_inv, q.int_inv] at ha
      exact ⟨a, rfl, ha⟩
theorem garden_inv {H : Hp} {v : V} {t c : Int} {bs : List Bed} (h : Tp H v (gardenD t c bs)) : ∃ g b xs, v = .ref g ∧ Rd H g (.tup [.int t, .int c, .ref b]) ∧ Rd H b (.tup xs) ∧ TpAll H xs (bs.map bedD) := by
  obtain ⟨g, xs, rfl, hg, r⟩ := Tp.tup_inv h
  cases r with
  | cons p r =>
    cases r with
    | cons q r =>
      cases r with
      | cons z r =>
        cases r
        obtain ⟨b, ys, rfl, hb, r⟩ := Tp.tup_inv z
        rw [p.int_inv, q.int_inv] at hg
        exact ⟨g, b, ys, rfl, hg, hb, r⟩
theorem garden_of {H : Hp} {g b : Addr} {t c : Int} {xs : List V} {bs : List Bed} (hg : Rd H g (.tup [.int t, .int c, .ref b])) (hb : Rd H b (.tup xs)) (r : TpAll H xs (bs.map bedD)) : Tp H (.ref g) (gardenD t c bs) :=
  .tup hg (.cons (.int t) (.cons (.int c) (.cons (.tup hb r) .nil)))
theorem bed_of {H : Hp} {a : Addr} {b : Bed} (h : Rd H a (.tup [.int b.1, .int b.2])) : Tp H (.ref a) (bedD b) := .tup h (.cons (.int _) (.cons (.int _) .nil))

/-! ### evaluation to data -/
def EvD (te : TE) (σ : L2.St) (H : Hp) (d : PyData) : Prop := ∀ H1, Ex H H1 → ∀ Q : VK, (∀ v H2, Ex H1 H2 → Tp H2 v d → Q v H2) → te σ H1 Q
def EvLd (te : TE) (σ : L2.St) (H : Hp) (ds : List PyData) : Prop := ∀ H1, Ex H H1 → ∀ Q : VK, (∀ p xs H2, H1 p = none → Ex H1 H2 → H2 p = some (.lst xs) → TpAll H2 xs ds → Q (.ref p) H2) → te σ H1 Q
def EvAd (ta : TA) (σ : L2.St) (H : Hp) (ds : List PyData) : Prop := ∀ H1, Ex H H1 → ∀ Q : List V → Hp → Prop, (∀ vs H2, Ex H1 H2 → TpAll H2 vs ds → Q vs H2) → ta σ H1 Q
section
variable {K : PySem.W.Frag} {σ : L2.St} {H H' : Hp} {ta tb te tx : TE} {t u : TT} {x y z v : V} {d : PyData} {ds : List PyData}
theorem EvD.mono (e : Ex H H') (h : EvD te σ H d) : EvD te σ H' d := fun H1 a Q q => h H1 (e.trans a) Q q
theorem ed_int {i : Int} (h : Ev te σ H (.int i)) : EvD te σ H (.int i) := fun H1 e Q q => h H1 e Q fun H2 e2 => q _ H2 e2 (.int i)
theorem ev_of {i : Int} (h : EvD te σ H (.int i)) : Ev te σ H (.int i) := fun H1 e Q q => h H1 e Q fun v H2 e2 t => by
  rw [t.int_inv]
  exact q H2 e2
theorem ed_val (h : Ev te σ H v) (t : Tp H v d) : EvD te σ H d := fun H1 e Q q => h H1 e Q fun H2 e2 => q _ H2 e2 (t.mono (Tk.ex (e.trans e2)))
theorem ead_nil : EvAd tNil σ H [] := fun H1 _ _ q => q [] H1 (Ex.refl H1) .nil
theorem ead_cons {tr : TA} (h : EvD ta σ H d) (hr : EvAd tr σ H ds) : EvAd (tCons ta tr) σ H (d :: ds) := fun H1 e Q q =>
  h H1 e _ fun v H2 e2 t2 => hr H2 (e.trans e2) _ fun vs H3 e3 t3 => q _ H3 (e2.trans e3) (.cons (t2.mono (Tk.ex e3)) t3)
theorem ed_tup {tr : TA} (h : EvAd tr σ H ds) (hl : ds.length ≤ 100000) : EvD (tTup tr) σ H (.tuple ds) := fun H1 e Q q =>
  h H1 e _ fun vs H2 e2 t2 => ⟨sz_of (by rw [t2.length]; exact hl), fun p hp => q _ _ (e2.trans (Ex.new hp)) (.tup (.inl upd_same) (t2.mono (Tk.ex (Ex.new hp))))⟩
theorem eld_lst {tr : TA} (h : EvAd tr σ H ds) (hl : ds.length ≤ 100000) : EvLd (tLst tr) σ H ds := fun H1 e Q q =>
  h H1 e _ fun vs H2 e2 t2 => ⟨sz_of (by rw [t2.length]; exact hl), fun p hp => q p vs _ (fresh_back e2 hp) (e2.trans (Ex.new hp)) upd_same (t2.mono (Tk.ex (Ex.new hp)))⟩
theorem el_nums {ns : List Int} (h : EvLd te σ H (ns.map PyData.int)) : EvL te σ H (ns.map V.int) := fun H1 e Q q => h H1 e Q fun p xs H2 hp e2 h2 t => q p H2 hp e2 (by rw [h2, t.nums])
theorem eld_nums {ns : List Int} (h : EvL te σ H (ns.map V.int)) : EvLd te σ H (ns.map PyData.int) := fun H1 e Q q => h H1 e Q fun p H2 hp e2 h2 => q p _ H2 hp e2 h2 (TpAll.of_nums ns)
/-- new list + new list -/
theorem el_cat {xs ys : List V} (ha : EvL ta σ H xs) (hb : EvL tb σ H ys) (hl : xs.length + ys.length ≤ 100000) : EvL (tOp rCat ta tb) σ H (xs ++ ys) := fun H1 e Q q =>
  ha H1 e _ fun p H2 hp e2 h2 => hb H2 (e.trans e2) _ fun p' H3 hp' e3 h3 => ⟨p, p', xs, ys, rfl, rfl, e3 p _ h2, h3, sz_of hl, fun r hr => q r _ (fresh_back (e2.trans e3) hr) ((e2.trans e3).trans (Ex.new hr)) upd_same⟩
/-- a list by its name + a new list -/
theorem el_catV {p : Addr} {xs ys : List V} (ha : Ev ta σ H (.ref p)) (hp : H p = some (.lst xs)) (hb : EvL tb σ H ys) (hl : xs.length + ys.length ≤ 100000) : EvL (tOp rCat ta tb) σ H (xs ++ ys) := fun H1 e Q q =>
  ha H1 e _ fun H2 e2 => hb H2 (e.trans e2) _ fun p' H3 hp' e3 h3 => ⟨p, p', xs, ys, rfl, rfl, ((e.trans e2).trans e3) p _ hp, h3, sz_of hl, fun r hr => q r _ (fresh_back (e2.trans e3) hr) ((e2.trans e3).trans (Ex.new hr)) upd_same⟩
theorem et_yes : EvT tYes σ H true := fun H1 _ _ q => q H1 (Ex.refl H1)
theorem ed_call {sp : Sp} {E : XK} {tr : TA} {vs : List V} (h : EvA tr σ H vs) (hs : ∀ H1, Ex H H1 → ∀ Q : VK, (∀ v H2, Ex H1 H2 → Tp H2 v d → Q v H2) → ∀ E : XK, sp vs H1 Q E) : EvD (tCall sp [] E tr) σ H d := fun H1 e Q q =>
  h H1 e _ fun H2 e2 => by
    show sp (vs ++ []) H2 Q E
    rw [List.append_nil]
    exact hs H2 (e.trans e2) Q (fun v H3 e3 t3 => q v H3 (e2.trans e3) t3) E
/-- which turns give, and what -/
def givD (n : Nat) (f : Nat → Bool) (dd : Nat → PyData) : List PyData := ((List.range n).filter f).map dd
theorem givD_yes {n : Nat} {f : Nat → Bool} {dd : Nat → PyData} (h : f n = true) : givD (n + 1) f dd = givD n f dd ++ [dd n] := by
  simp [givD, List.range_succ, h]
theorem givD_no {n : Nat} {f : Nat → Bool} {dd : Nat → PyData} (h : f n = false) : givD (n + 1) f dd = givD n f dd := by
  simp [givD, List.range_succ, h]
theorem givD_len (n : Nat) (f : Nat → Bool) (dd : Nat → PyData) : (givD n f dd).length ≤ n := by
  have := List.length_filter_le f (List.range n)
  simp only [givD, List.length_map, List.length_range] at this ⊢
  exact this
/-- a comprehension that changes nothing, over any walk -/
theorem lc_pure {J : It} {n : Nat} {G : Hp → Prop} {Y : Nat → Hp → V → Hp → Prop} (w : Walk J n G Y) (few : n ≤ 50000) {g : TG} {vs : List Nat} {Q : VK} (f : Nat → Bool) (dd : Nat → PyData) (hG : ∀ H', Ex H H' → G H')
    (hs : ∀ i x H1 H2, i < n → Ex H H1 → Y i H1 x H2 → Ex H1 H2 ∧ ∃ σ2, (∀ R : L2.St → Hp → Prop, R σ2 H2 → g x (wipe σ vs) H2 R) ∧ wipe σ2 vs = wipe σ vs ∧ EvT t σ2 H2 (f i) ∧ (f i = true → EvD te σ2 H2 (dd i)))
    (q : ∀ p xs H', H p = none → Ex H H' → H' p = some (.lst xs) → TpAll H' xs (givD n f dd) → Q (.ref p) H') :
    ∀ D, H D = none → ∃ W : Nat → Nat → Hp → Prop, (∃ m, W 0 m (upd H D (.lst []))) ∧ ∀ i m H', W i m H' →
      (J.stop i H' ∧ Q (.ref D) H') ∨ (J.go i H' ∧ ∃ Nx : Hp → Prop, (∀ H2, Nx H2 → ∃ m', m' < m ∧ W (i + 1) m' H2) ∧ ∀ x H2, J.yld i H' x H2 → g x (wipe σ vs) H2 fun σ2 H2 => wipe σ2 vs = wipe σ vs ∧ t σ2 H2 fun b H3 =>
        if b = true then te σ2 H3 fun y H4 => ∃ acc, H4 D = some (.lst acc) ∧ acc.length < sizeLine ∧ Nx (upd H4 D (.lst (acc ++ [y]))) else Nx H3) := by
  intro D hD
  refine lc_it w (Qd := fun H' => Q (.ref D) H') (fun i H' => Ex H H' ∧ ∃ xs, H' D = some (.lst xs) ∧ TpAll H' xs (givD i f dd)) ⟨Ex.new hD, [], upd_same, .nil⟩ (fun i H' _ p => hG H' p.1) ?_ (fun H' p => by
    obtain ⟨e, xs, h1, h2⟩ := p
    exact q D xs H' hD e h1 h2)
  rintro i x H1 H2 hi ⟨e1, xs, h1, t1⟩ hy
  obtain ⟨e2, σ2, bind, hw, ht, he⟩ := hs i x H1 H2 hi e1 hy
  refine bind _ ⟨hw, ht H2 (Ex.refl H2) _ fun H3 e3 => ?_⟩
  have e03 : Ex H H3 := (e1.trans e2).trans e3
  have h3 : H3 D = some (.lst xs) := (e2.trans e3) D _ h1
  have t3 : TpAll H3 xs (givD i f dd) := t1.mono (Tk.ex (e2.trans e3))
  cases hf : f i with
  | false =>
    show Ex H H3 ∧ _
    rw [givD_no hf]
    exact ⟨e03, xs, h3, t3⟩
  | true =>
    show te σ2 H3 _
    refine he hf H3 e3 _ fun v H4 e4 t4 => ⟨xs, e4 D _ h3, sz_lt ?_, Ex.mut (e03.trans e4) hD, xs ++ [v], upd_same, ?_⟩
    · have := givD_len i f dd
      rw [t3.length]; omega
    · rw [givD_yes hf]
      exact ((t3.mono (Tk.ex e4)).append (.cons t4 .nil)).mono (Tk.lst (e4 D _ h3))
theorem giv_list {α : Type} (l : List α) (f : α → Bool) (dd : α → PyData) (f' : Nat → Bool) (dd' : Nat → PyData) (h : ∀ i a, l[i]? = some a → f' i = f a ∧ dd' i = dd a) : givD l.length f' dd' = (l.filter f).map dd := by
  have key : ∀ n, n ≤ l.length → givD n f' dd' = ((l.take n).filter f).map dd := by
    intro n
    induction n with
    | zero => intro _; simp [givD]
    | succ n ih =>
      intro hn
      have hl : l[n]? = some l[n] := List.getElem?_eq_getElem hn
      obtain ⟨h1, h2⟩ := h n _ hl
      rw [List.take_add_one, hl]
      simp only [Option.toList_some, List.filter_append, List.map_append]
      cases hf : f l[n] with
      | true => rw [givD_yes (h1.trans hf), ih (by omega), h2]; simp [hf]
      | false => rw [givD_no (h1.trans hf), ih (by omega)]; simp [hf]
  rw [key _ (Nat.le_refl _), List.take_length]
abbrev gPair (K : PySem.W.Frag) (i j : Nat) : TG := gTup K 2 (gCons (gName i) (gCons (gName j) gNil))
theorem pair_bind {H : Hp} {a : Addr} {p l : V} {i j : Nat} {σ : L2.St} (h : Rd H a (.tup [p, l])) (R : L2.St → Hp → Prop) (r : R ((σ.set i (some p)).set j (some l)) H) : gPair K i j (.ref a) σ H R :=
  ⟨a, _, rfl, sr h, rfl, p, [l], rfl, l, [], rfl, rfl, r⟩
/-- [.. for place, litres in beds if ..] -/
theorem eld_beds {tl : TE} {a : Addr} {xs : List V} {bs : List Bed} {i j : Nat} {vs : List Nat} (f : Bed → Bool) (dd : Bed → PyData) (h : Ev tl σ H (.ref a)) (ha : Rd H a (.tup xs)) (hb : TpAll H xs (bs.map bedD)) (few : bs.length ≤ 50000)
    (hw : ∀ p l, wipe (((wipe σ vs).set i (some p)).set j (some l)) vs = wipe σ vs)
    (ht : ∀ b ∈ bs, EvT t (((wipe σ vs).set i (some (.int b.1))).set j (some (.int b.2))) H (f b)) (he : ∀ b ∈ bs, f b = true → EvD te (((wipe σ vs).set i (some (.int b.1))).set j (some (.int b.2))) H (dd b)) :
    EvLd (tLc (iTup K tl) (gPair K i j) t te vs) σ H ((bs.filter f).map dd) := fun H0 e0 Q q => h H0 e0 _ fun H1 e1 => by
  have eq : xs.length = bs.length := by rw [hb.length, List.length_map]
  have e01 := e0.trans e1
  refine ⟨a, rfl, ⟨xs, sr (ex_rd e01 ha)⟩, ?_⟩
  have gl := giv_list bs f dd (fun i => match bs[i]? with | some b => f b | none => false) (fun i => match bs[i]? with | some b => dd b | none => .none) (fun i a e => by simp [e])
  refine lc_pure (walk_tup (K := K) (a := a) (xs := xs)) (by omega) (fun i => match bs[i]? with | some b => f b | none => false) (fun i => match bs[i]? with | some b => dd b | none => .none) (fun H' e => sr (ex_rd e (ex_rd e01 ha))) ?_ ?_
  · rintro k x H2 _ hk e2 ⟨rfl, hx⟩
    have hk' : k < bs.length := by omega
    have hbk : bs[k]? = some bs[k] := List.getElem?_eq_getElem hk'
    obtain ⟨v, hv, tv⟩ := hb.get (i := k) (d := bedD bs[k]) (by rw [List.getElem?_map, hbk]; rfl)
    rw [hx] at hv
    cases hv
    obtain ⟨c, rfl, hc⟩ := bed_inv (tv.mono (Tk.ex (e01.trans e2)))
    have hm : bs[k] ∈ bs := List.getElem_mem hk'
    refine ⟨Ex.refl _, _, fun R r => pair_bind hc R r, hw _ _, ?_, ?_⟩
    · simp only [hbk]
      exact (ht _ hm).mono (e01.trans e2)
    · simp only [hbk]
      exact fun hf => (he _ hm hf).mono (e01.trans e2)
  · intro p ys H2 hp e2 h2 t2
    refine q p ys H2 (fresh_back e1 hp) (e1.trans e2) h2 ?_
    rw [← gl, ← eq]
    exact t2
/-- the same over a list of tuples -/
theorem eld_bedsL {tl : TE} {a : Addr} {xs : List V} {bs : List Bed} {i j : Nat} {vs : List Nat} (f : Bed → Bool) (dd : Bed → PyData) (h : Ev tl σ H (.ref a)) (ha : H a = some (.lst xs)) (hb : TpAll H xs (bs.map bedD)) (few : bs.length ≤ 50000)
    (hw : ∀ p l, wipe (((wipe σ vs).set i (some p)).set j (some l)) vs = wipe σ vs)
    (ht : ∀ b ∈ bs, EvT t (((wipe σ vs).set i (some (.int b.1))).set j (some (.int b.2))) H (f b)) (he : ∀ b ∈ bs, f b = true → EvD te (((wipe σ vs).set i (some (.int b.1))).set j (some (.int b.2))) H (dd b)) :
    EvLd (tLc (iList K tl) (gPair K i j) t te vs) σ H ((bs.filter f).map dd) := fun H0 e0 Q q => h H0 e0 _ fun H1 e1 => by
  have eq : xs.length = bs.length := by rw [hb.length, List.length_map]
  have e01 := e0.trans e1
  refine ⟨a, rfl, ⟨xs, sq_of (e01 a _ ha)⟩, ?_⟩
  have gl := giv_list bs f dd (fun i => match bs[i]? with | some b => f b | none => false) (fun i => match bs[i]? with | some b => dd b | none => .none) (fun i a e => by simp [e])
  refine lc_pure (walk_list (K := K) (a := a) (xs := xs)) (by omega) (fun i => match bs[i]? with | some b => f b | none => false) (fun i => match bs[i]? with | some b => dd b | none => .none) (fun H' e => sq_of (e a _ (e01 a _ ha))) ?_ ?_
  · rintro k x H2 _ hk e2 ⟨rfl, hx⟩
    have hk' : k < bs.length := by omega
    have hbk : bs[k]? = some bs[k] := List.getElem?_eq_getElem hk'
    obtain ⟨v, hv, tv⟩ := hb.get (i := k) (d := bedD bs[k]) (by rw [List.getElem?_map, hbk]; rfl)
    rw [hx] at hv
    cases hv
    obtain ⟨c, rfl, hc⟩ := bed_inv (tv.mono (Tk.ex (e01.trans e2)))
    have hm : bs[k] ∈ bs := List.getElem_mem hk'
    refine ⟨Ex.refl _, _, fun R r => pair_bind hc R r, hw _ _, ?_, ?_⟩
    · simp only [hbk]
      exact (ht _ hm).mono (e01.trans e2)
    · simp only [hbk]
      exact fun hf => (he _ hm hf).mono (e01.trans e2)
  · intro p ys H2 hp e2 h2 t2
    refine q p ys H2 (fresh_back e1 hp) (e1.trans e2) h2 ?_
    rw [← gl, ← eq]
    exact t2
end
end Cn

namespace Cn
open PySem PySem.Spec PyProof.Rows L2 Evl
/-! ### marks -/
abbrev Asc (l : List Int) : Prop := l.Pairwise (· < ·)
theorem asc_unique : ∀ {a b : List Int}, Asc a → Asc b → (∀ k, k ∈ a ↔ k ∈ b) → a = b
  | [], [], _, _, _ => rfl
  | [], y :: b, _, _, h => absurd ((h y).2 (List.mem_cons_self ..)) (by simp)
  | x :: a, [], _, _, h => absurd ((h x).1 (List.mem_cons_self ..)) (by simp)
  | x :: a, y :: b, ha, hb, h => by
    have ha' := List.pairwise_cons.mp ha
    have hb' := List.pairwise_cons.mp hb
    have hx : x = y := by
      have h1 := (h x).1 (List.mem_cons_self ..)
      have h2 := (h y).2 (List.mem_cons_self ..)
      rcases List.mem_cons.mp h1 with e | e
      · exact e
      · rcases List.mem_cons.mp h2 with e2 | e2
        · exact e2.symm
        · have := hb'.1 x e
          have := ha'.1 y e2
          omega
    subst hx
    congr 1
    refine asc_unique ha'.2 hb'.2 fun k => ⟨fun m => ?_, fun m => ?_⟩
    · have lt := ha'.1 k m
      rcases List.mem_cons.mp ((h k).1 (List.mem_cons_of_mem _ m)) with e | e
      · omega
      · exact e
    · have lt := hb'.1 k m
      rcases List.mem_cons.mp ((h k).2 (List.mem_cons_of_mem _ m)) with e | e
      · omega
      · exact e
def ins (x : Int) : List Int → List Int
  | [] => [x]
  | y :: r => if x < y then x :: y :: r else if x = y then y :: r else y :: ins x r
theorem mem_ins {x k : Int} : ∀ {l : List Int}, k ∈ ins x l ↔ k = x ∨ k ∈ l
  | [] => by simp [ins]
  | y :: r => by
    unfold ins
    split
    · simp
    · split
      · rename_i e; subst e; simp
      · simp only [List.mem_cons, mem_ins (l := r)]
        constructor
        · rintro (h | h | h) <;> simp [h]
        · rintro (h | h | h) <;> simp [h]
theorem asc_ins {x : Int} : ∀ {l : List Int}, Asc l → Asc (ins x l)
  | [], _ => by simp [ins, Asc]
  | y :: r, h => by
    have h' := List.pairwise_cons.mp h
    unfold ins
    split
    · rename_i lt
      refine List.pairwise_cons.mpr ⟨fun k m => ?_, h⟩
      rcases List.mem_cons.mp m with e | e
      · omega
      · have := h'.1 k e; omega
    · split
      · exact h
      · rename_i n1 n2
        refine List.pairwise_cons.mpr ⟨fun k m => ?_, asc_ins h'.2⟩
        rcases mem_ins.mp m with e | e
        · omega
        · exact h'.1 k e
def sortU (l : List Int) : List Int := l.foldr ins []
theorem mem_sortU {k : Int} : ∀ {l : List Int}, k ∈ sortU l ↔ k ∈ l
  | [] => by simp [sortU]
  | x :: r => by
    show k ∈ ins x (sortU r) ↔ _
    rw [mem_ins, mem_sortU, List.mem_cons]
theorem asc_sortU : ∀ l : List Int, Asc (sortU l)
  | [] => .nil
  | x :: r => asc_ins (asc_sortU r)
theorem len_ins {x : Int} : ∀ {l : List Int}, (ins x l).length ≤ l.length + 1
  | [] => by simp [ins]
  | y :: r => by
    unfold ins
    split
    · simp
    · split
      · simp
      · have := len_ins (x := x) (l := r)
        simp only [List.length_cons]; omega
theorem len_sortU : ∀ l : List Int, (sortU l).length ≤ l.length
  | [] => by simp [sortU]
  | x :: r => by
    have h := len_ins (x := x) (l := sortU r)
    have h2 := len_sortU r
    show (ins x (sortU r)).length ≤ r.length + 1
    omega
def marks (t : Int) (bs : List Bed) : List Int := sortU (t :: bs.map (·.1))
theorem sortU_eq {l ms : List Int} (a : Asc ms) (h : ∀ k, k ∈ ms ↔ k ∈ l) : ms = sortU l := asc_unique a (asc_sortU l) fun k => (h k).trans mem_sortU.symm

/-! ### stretches -/
def pairs : List Int → List (Int × Int)
  | x :: y :: r => (x, y) :: pairs (y :: r)
  | _ => []
theorem pairs_len : ∀ l : List Int, (pairs l).length = l.length - 1
  | [] => rfl
  | [_] => rfl
  | x :: y :: r => by
    show (pairs (y :: r)).length + 1 = _
    rw [pairs_len (y :: r)]
    simp
theorem pairs_get : ∀ {l : List Int} {i : Nat} {x y : Int}, l[i]? = some x → l[i + 1]? = some y → (pairs l)[i]? = some (x, y)
  | [], _, _, _, h, _ => by simp at h
  | [_], i, _, _, _, h2 => by simp at h2
  | a :: b :: r, 0, x, y, h, h2 => by
    simp at h h2
    subst h h2
    rfl
  | a :: b :: r, i + 1, x, y, h, h2 => by
    have := pairs_get (l := b :: r) (i := i) (x := x) (y := y) (by simpa using h) (by simpa using h2)
    simpa [pairs] using this
def litres (t : Int) (bs : List Bed) (lo hi : Int) : Int :=
  if t ≤ lo then ((bs.filter fun b => decide (hi ≤ b.1)).map (·.2)).sum else ((bs.filter fun b => decide (b.1 ≤ lo)).map (·.2)).sum
def strD (t : Int) (bs : List Bed) (p : Int × Int) : PyData := .tuple [.int p.1, .int p.2, .int (litres t bs p.1 p.2)]
def stretchesD (t : Int) (bs : List Bed) : PyData := .tuple ((pairs (marks t bs)).map (strD t bs))
/-- the law's own count -/
def total (t lo hi : Int) (bs : List Bed) : Int := ((bs.filter fun b => (decide (t ≤ lo) && decide (lo < b.1)) || (decide (b.1 < hi) && decide (hi ≤ t))).map (·.2)).sum
theorem gap {l : List Int} {i : Nat} {x y k : Int} (a : Asc l) (hx : l[i]? = some x) (hy : l[i + 1]? = some y) (hk : k ∈ l) : k ≤ x ∨ y ≤ k := by
  obtain ⟨j, hj, e⟩ := List.getElem_of_mem hk
  obtain ⟨h1, e1⟩ := List.getElem?_eq_some_iff.mp hx
  obtain ⟨h2, e2⟩ := List.getElem?_eq_some_iff.mp hy
  have mono : ∀ p q (hp : p < l.length) (hq : q < l.length), p < q → l[p] < l[q] := fun p q hp hq hpq => List.pairwise_iff_getElem.mp a p q hp hq hpq
  rcases Nat.lt_trichotomy j i with h | h | h
  · have := mono j i hj h1 h; omega
  · subst h; omega
  · by_cases h3 : j = i + 1
    · subst h3; omega
    · have := mono (i + 1) j h2 hj (by omega); omega
theorem asc_at {l : List Int} {i : Nat} {x y : Int} (a : Asc l) (hx : l[i]? = some x) (hy : l[i + 1]? = some y) : x < y := by
  obtain ⟨h1, e1⟩ := List.getElem?_eq_some_iff.mp hx
  obtain ⟨h2, e2⟩ := List.getElem?_eq_some_iff.mp hy
  have := List.pairwise_iff_getElem.mp a i (i + 1) h1 h2 (by omega)
  omega
theorem total_eq {t : Int} {bs : List Bed} {i : Nat} {lo hi : Int} (h1 : (marks t bs)[i]? = some lo) (h2 : (marks t bs)[i + 1]? = some hi) : total t lo hi bs = litres t bs lo hi := by
  have a : Asc (marks t bs) := asc_sortU _
  have lt := asc_at a h1 h2
  have ht := gap a h1 h2 (mem_sortU.mpr (List.mem_cons_self ..) : t ∈ marks t bs)
  have hb : ∀ b ∈ bs, b.1 ≤ lo ∨ hi ≤ b.1 := fun b m => gap a h1 h2 (mem_sortU.mpr (List.mem_cons_of_mem _ (List.mem_map_of_mem m)) : b.1 ∈ marks t bs)
  unfold total litres
  split
  · rename_i c
    congr 2
    refine List.filter_congr fun b m => ?_
    have := hb b m
    rw [Bool.eq_iff_iff]
    simp only [Bool.or_eq_true, Bool.and_eq_true, decide_eq_true_eq]
    omega
  · rename_i c
    congr 2
    refine List.filter_congr fun b m => ?_
    have := hb b m
    rw [Bool.eq_iff_iff]
    simp only [Bool.or_eq_true, Bool.and_eq_true, decide_eq_true_eq]
    omega
end Cn

namespace Cn
open PySem PySem.Spec PyProof.Rows L2 Evl
section
variable {K : PySem.W.Frag} {w : World} {σ : L2.St} {H H' : Hp} {ta tb te tx : TE} {t u : TT} {x y z v : V} {d : PyData} {ds : List PyData}
/-- sorted(set(new list of ints)) -/
theorem el_sortset {ns : List Int} (h : EvL te σ H (ns.map V.int)) (few : ns.length < 64) : EvL (tCB (rSortedSet w) (tCons (tCB (rSetL K w) (tCons te tNil)) tNil)) σ H ((sortU ns).map V.int) := fun H1 e Q q =>
  h H1 e _ fun p H2 hp e2 h2 => sortset ⟨p, ns, rfl, sq_of h2, few, fun ms r H3 asc mem hr e3 h3 => q r H3 (fresh_back e2 hr) (e2.trans e3) (by rw [h3, sortU_eq asc mem])⟩
/-- sum(new list of ints) -/
theorem ev_sum {ns : List Int} (h : EvL te σ H (ns.map V.int)) : Ev (tCB (rSum K) (tCons te tNil)) σ H (.int ns.sum) := fun H1 e Q q =>
  h H1 e _ fun p H2 _ e2 h2 => ⟨p, ns, rfl, sq_of h2, q H2 e2⟩
/-- [x] of ints -/
theorem el_nums1 {i : Int} (h : Ev te σ H (.int i)) : EvL (tLst (tCons te tNil)) σ H ([i].map V.int) := el_lst (ea_cons h ea_nil) (by simp)
theorem el_is {xs ys : List V} (h : EvL te σ H xs) (e : xs = ys) : EvL te σ H ys := e ▸ h
theorem eld_is {es : List PyData} (h : EvLd te σ H ds) (e : ds = es) : EvLd te σ H es := e ▸ h
/-- one comparison of ints as a test -/
theorem et_le {i j : Int} (ha : Ev ta σ H (.int i)) (hb : Ev tb σ H (.int j)) : EvT (tTest (tOp (rI0 fun i j => .bl (decide (i ≤ j))) ta tb)) σ H (decide (i ≤ j)) := et_test (ev_op ha hb rv_I0)
theorem et_ge {i j : Int} (ha : Ev ta σ H (.int i)) (hb : Ev tb σ H (.int j)) : EvT (tTest (tOp (rI0 fun i j => .bl (decide (j ≤ i))) ta tb)) σ H (decide (j ≤ i)) := et_test (ev_op ha hb rv_I0)
theorem et_lt {i j : Int} (ha : Ev ta σ H (.int i)) (hb : Ev tb σ H (.int j)) : EvT (tTest (tOp (rI0 fun i j => .bl (decide (i < j))) ta tb)) σ H (decide (i < j)) := et_test (ev_op ha hb rv_I0)
theorem given_map {α : Type} (l : List α) (f : α → V) (v : Nat → V) (h : ∀ i a, l[i]? = some a → v i = f a) : given l.length (fun _ => true) v = l.map f := by
  refine List.ext_getElem? fun i => ?_
  unfold given
  rw [List.filter_eq_self.mpr (fun _ _ => rfl), List.getElem?_map, List.getElem?_map]
  by_cases hi : i < l.length
  · rw [List.getElem?_range hi, List.getElem?_eq_getElem hi]
    simp only [Option.map_some]
    rw [h i _ (List.getElem?_eq_getElem hi)]
  · rw [List.getElem?_eq_none (by simpa using hi), List.getElem?_eq_none (by simpa using hi)]
    rfl
theorem cutTo (xs : List V) (k : Nat) (h : xs.length ≤ k) : cutV xs none (some k) = xs := by
  unfold cutV
  rw [show HT.sIx xs.length xs.length (some (k : Int)) = min k xs.length from HT.sIx_nat xs.length xs.length k, HT.sIx_none, Nat.min_eq_right h]
  simp
/-- sorted(set([tap] + [place for place, litres in beds])) -/
theorem el_marks {tl : TE} {a : Addr} {xs : List V} {bs : List Bed} {i j : Nat} {vs : List Nat} {tp : Int} (ht : Ev ta σ H (.int tp)) (h : Ev tl σ H (.ref a)) (ha : Rd H a (.tup xs)) (hb : TpAll H xs (bs.map bedD)) (few : bs.length ≤ 40)
    (hw : ∀ p l, wipe (((wipe σ vs).set i (some p)).set j (some l)) vs = wipe σ vs) (he : ∀ b ∈ bs, Ev te (((wipe σ vs).set i (some (.int b.1))).set j (some (.int b.2))) H (.int b.1)) :
    EvL (tCB (rSortedSet w) (tCons (tCB (rSetL K w) (tCons (tOp rCat (tLst (tCons ta tNil)) (tLc (iTup K tl) (gPair K i j) tYes te vs)) tNil)) tNil)) σ H ((marks tp bs).map V.int) := by
  refine el_sortset (ns := tp :: bs.map (·.1)) ?_ (by simp; omega)
  refine el_is (el_cat (el_nums1 ht) (el_nums (ns := bs.map (·.1)) (eld_is (eld_beds (fun _ => true) (fun b => .int b.1) h ha hb (by omega) hw (fun _ _ => et_yes) (fun b m _ => ed_int (he b m))) ?_)) (by simp; omega)) rfl
  rw [List.filter_eq_self.mpr (fun _ _ => rfl)]
  exact (List.map_map ..).symm
theorem et_chain {f g : Int → Int → Bool} {tc : TE} {i j k : Int} (ha : Ev ta σ H (.int i)) (hb : Ev tb σ H (.int j)) (hc : Ev tc σ H (.int k)) : EvT (tTest (tChain (rI0 fun i j => .bl (f i j)) (rI0 fun i j => .bl (g i j)) ta tb tc)) σ H (f i j && g j k) := by
  intro H1 e Q q
  refine ha H1 e _ fun H2 e2 => hb H2 (e.trans e2) _ fun H3 e3 => ⟨i, j, rfl, rfl, f i j, rfl, ?_⟩
  have e123 := e2.trans e3
  cases hf : f i j with
  | true =>
    rw [hf] at q
    exact hc H3 (e.trans e123) _ fun H4 e4 => ⟨j, k, rfl, rfl, g j k, rfl, q H4 (e123.trans e4)⟩
  | false =>
    rw [hf] at q
    exact ⟨false, rfl, q H3 e123⟩
/-- a for over a list that comes out of an expression with effects -/
theorem q_forS {D : Ends} {g : TG} {tl : TE} {tu tz : TS} (P : Addr → List V → Hp → Prop) (src : ∀ Q : VK, (∀ p xs H', P p xs H' → Q (.ref p) H') → tl σ H Q) (hP : ∀ p xs H', P p xs H' → SqL K H' p xs) (Pv : Addr → List V → Nat → L2.St → Hp → Prop)
    (h0 : ∀ p xs H', P p xs H' → Pv p xs 0 σ H') (hl : ∀ p xs i σ' H', i ≤ xs.length → Pv p xs i σ' H' → SqL K H' p xs)
    (hs : ∀ p xs i x σ' H', xs[i]? = some x → Pv p xs i σ' H' → g x σ' H' fun σ2 H2 => tu { D with nx := Pv p xs (i + 1), ct := Pv p xs (i + 1), bk := tz D } σ2 H2) (hd : ∀ p xs σ' H', Pv p xs xs.length σ' H' → tz D σ' H') : tSeq (tFor (iList K tl) g tu) tz D σ H :=
  src _ fun p xs H1 h => ⟨p, rfl, ⟨xs, hP p xs H1 h⟩, for_list (D := { D with nx := tz D }) (Pv p xs) (h0 p xs H1 h) (hl p xs) (hs p xs) (hd p xs)⟩
theorem s_retD {D : Ends} (h : EvD te σ H d) (k : ∀ v H1, Ex H H1 → Tp H1 v d → D.rt v H1) : tRet te D σ H := h H (Ex.refl H) _ k
theorem s_asgD {D : Ends} {i : Nat} (h : EvD te σ H d) (k : ∀ v H1, Ex H H1 → Tp H1 v d → D.nx (σ.set i (some v)) H1) : tAsg te (gName i) D σ H := h H (Ex.refl H) _ k
theorem q_asgD {D : Ends} {tz : TS} {i : Nat} (h : EvD te σ H d) (k : ∀ v H1, Ex H H1 → Tp H1 v d → tz D (σ.set i (some v)) H1) : tSeq (tAsg te (gName i)) tz D σ H := h H (Ex.refl H) _ k
theorem cut1 (xs : List V) : cutV xs (some 1) none = xs.drop 1 := by
  unfold cutV
  rw [show HT.sIx xs.length 0 (some 1) = min 1 xs.length from HT.sIx_nat xs.length 0 1, HT.sIx_none]
  cases xs with
  | nil => rfl
  | cons x r =>
    have e : min 1 (x :: r).length = 1 := by simp
    rw [e]
    show r.take ((x :: r).length - 1) = r
    simp
theorem pairs_at : ∀ {l : List Int} {i : Nat} {p : Int × Int}, (pairs l)[i]? = some p → l[i]? = some p.1 ∧ l[i + 1]? = some p.2
  | [], i, p, h => by simp [pairs] at h
  | [_], i, p, h => by simp [pairs] at h
  | a :: b :: r, 0, p, h => by
    simp [pairs] at h
    subst h
    exact ⟨rfl, rfl⟩
  | a :: b :: r, i + 1, p, h => by
    have := pairs_at (l := b :: r) (i := i) (p := p) (by simpa [pairs] using h)
    simpa using this
/-- [.. for low, high in zip(ms, ms[1:])] -/
theorem eld_pairs {tz : TA} {i j : Nat} {vs : List Nat} (ms : List Int) (few : ms.length ≤ 50000) (dd : Int × Int → PyData)
    (ha : ∀ H1, Ex H H1 → ∀ Q : List V → Hp → Prop, (∀ a b H2, Ex H1 H2 → SqL K H2 a (ms.map V.int) → SqL K H2 b ((ms.drop 1).map V.int) → Q [.ref a, .ref b] H2) → tz σ H1 Q)
    (hw : ∀ p l, wipe (((wipe σ vs).set i (some p)).set j (some l)) vs = wipe σ vs)
    (he : ∀ p ∈ pairs ms, EvD te (((wipe σ vs).set i (some (.int p.1))).set j (some (.int p.2))) H (dd p)) :
    EvLd (tLc (iZip K tz) (gPair K i j) tYes te vs) σ H ((pairs ms).map dd) := fun H0 e0 Q q => ha H0 e0 _ fun a b H1 e1 sa sb => by
  have e01 := e0.trans e1
  refine ⟨a, b, _, _, rfl, sa, sb, ?_⟩
  have gl := giv_list (pairs ms) (fun _ => true) dd (fun _ => true) (fun i => match (pairs ms)[i]? with | some b => dd b | none => .none) (fun i a e => by simp [e])
  rw [List.filter_eq_self.mpr (fun _ _ => rfl)] at gl
  refine lc_pure (walk_zip (K := K) (a := a) (b := b) (xs := ms.map V.int) (ys := (ms.drop 1).map V.int) (n := (pairs ms).length) (by rw [pairs_len, List.length_map, List.length_map, List.length_drop]; omega)) (by rw [pairs_len]; omega) (fun _ => true) (fun i => match (pairs ms)[i]? with | some b => dd b | none => .none) (fun H' e => ⟨ex_l e sa, ex_l e sb⟩) ?_ ?_
  · rintro k x H2 _ hk e2 ⟨T, u, v, rfl, nT, rfl, hu, hv⟩
    have hpk : (pairs ms)[k]? = some (pairs ms)[k] := List.getElem?_eq_getElem hk
    obtain ⟨g1, g2⟩ := pairs_at hpk
    have hm : (pairs ms)[k] ∈ pairs ms := List.getElem_mem hk
    have hu' : u = .int (pairs ms)[k].1 := by
      have hu : (ms.map V.int)[k]? = some u := hu
      rw [List.getElem?_map, g1] at hu
      exact (Option.some.inj hu).symm
    have hv' : v = .int (pairs ms)[k].2 := by
      have hv : ((ms.drop 1).map V.int)[k]? = some v := hv
      rw [List.getElem?_map, List.getElem?_drop, Nat.add_comm 1 k, g2] at hv
      exact (Option.some.inj hv).symm
    subst hu' hv'
    have eN : Ex H2 (upd H2 T (.tup [.int (pairs ms)[k].1, .int (pairs ms)[k].2])) := Ex.new nT
    refine ⟨eN, _, fun R r => pair_bind (.inl upd_same) R r, hw _ _, et_yes, fun _ => ?_⟩
    simp only [hpk]
    exact (he _ hm).mono ((e01.trans e2).trans eN)
  · intro p ys H2 hp e2 h2 t2
    refine q p ys H2 (fresh_back e1 hp) (e1.trans e2) h2 ?_
    rw [← gl]
    exact t2
end
end Cn

namespace Cn
open PySem PySem.Spec PyProof.Rows L2 Evl
/-! ### the deck -/
/-- all but the deck's two lists stay -/
def Kp (D C : Addr) (H H' : Hp) : Prop := ∀ a o, a ≠ D → a ≠ C → H a = some o → H' a = some o
section
variable {D C : Addr} {H H1 H2 : Hp}
theorem Kp.refl : Kp D C H H := fun _ _ _ _ h => h
theorem Kp.trans (a : Kp D C H H1) (b : Kp D C H1 H2) : Kp D C H H2 := fun p o n1 n2 h => b p o n1 n2 (a p o n1 n2 h)
theorem Kp.ex (e : Ex H H1) : Kp D C H H1 := fun p o _ _ h => e p o h
theorem Kp.setD {o : HO} : Kp D C H (upd H D o) := fun p _ n1 _ h => by rw [upd_ne n1]; exact h
theorem Kp.setC {o : HO} : Kp D C H (upd H C o) := fun p _ _ n2 h => by rw [upd_ne n2]; exact h
theorem Kp.mut {p : Addr} {o : HO} (k : Kp D C H H1) (h : H p = none) : Kp D C H (upd H1 p o) := fun a u n1 n2 e => by
  rw [upd_ne (ne_of_none e h)]
  exact k a u n1 n2 e
theorem Kp.back (k : Kp D C H H1) {p : Addr} (n1 : p ≠ D) (n2 : p ≠ C) (h : H1 p = none) : H p = none := by
  cases e : H p with
  | none => rfl
  | some o => rw [k p o n1 n2 e] at h; cases h
/-- the deck at D, its cells at C, at most m draws so far -/
structure DeckN (D C : Addr) (n : Int) (cs : List Int) (H : Hp) : Prop where
  hD : H D = some (.lst [.ref C, .int n])
  hC : H C = some (.lst (cs.map V.int))
theorem DeckN.ne {n : Int} {cs : List Int} (d : DeckN D C n cs H) : D ≠ C := ne_of d.hD d.hC (by
  intro z
  cases cs with
  | nil => cases z
  | cons x r => cases z)
theorem DeckN.ex {n : Int} {cs : List Int} (e : Ex H H1) (d : DeckN D C n cs H) : DeckN D C n cs H1 := ⟨e _ _ d.hD, e _ _ d.hC⟩
def Deck (D C : Addr) (m : Int) (H : Hp) : Prop := ∃ n cs, DeckN D C n cs H ∧ 0 ≤ n ∧ n ≤ m ∧ cs.length ≤ 63 ∧ ∀ x ∈ cs, 0 ≤ x
theorem Deck.ex {m : Int} (e : Ex H H1) (d : Deck D C m H) : Deck D C m H1 := by
  obtain ⟨n, cs, d, r⟩ := d
  exact ⟨n, cs, d.ex e, r⟩
theorem Deck.mut {m : Int} {p : Addr} {o : HO} (d : Deck D C m H) (n1 : p ≠ D) (n2 : p ≠ C) : Deck D C m (upd H p o) := by
  obtain ⟨n, cs, d, r⟩ := d
  exact ⟨n, cs, ⟨by rw [upd_ne n1.symm]; exact d.hD, by rw [upd_ne n2.symm]; exact d.hC⟩, r⟩
theorem Deck.mono {m m' : Int} (h : m ≤ m') (d : Deck D C m H) : Deck D C m' H := by
  obtain ⟨n, cs, d, a, b, r⟩ := d
  exact ⟨n, cs, d, a, by omega, r⟩
/-- tuples stay -/
theorem Kp.tk {m : Int} (d : Deck D C m H) (k : Kp D C H H1) : Tk H H1 := by
  obtain ⟨n, cs, d, _⟩ := d
  refine ⟨fun a xs h => ?_, fun a o u h => k a _ (ne_of h d.hD (by intro z; cases z)) (ne_of h d.hC (by intro z; cases z)) h⟩
  have n1 := rd_ne h d.hD
  have n2 := rd_ne h d.hC
  rcases h with h | ⟨z, h⟩
  · exact .inl (k a _ n1 n2 h)
  · exact .inr ⟨z, k a _ n1 n2 h⟩
/-- what is not the deck -/
theorem Kp.free {p : Addr} {m : Int} (d : Deck D C m H) (hp : H p = none) : p ≠ D ∧ p ≠ C := by
  obtain ⟨n, cs, d, _⟩ := d
  exact ⟨fun z => (by rw [z, d.hD] at hp; cases hp), fun z => (by rw [z, d.hC] at hp; cases hp)⟩
end
/-- _law_draw -/
def spDraw : Sp := fun vs H Q _ => ∃ D C m k, vs = [.ref D, .int k] ∧ Deck D C m H ∧ m ≤ 1000000000 ∧ 1 ≤ k ∧ k ≤ 1000000001 ∧ ∀ r H', 0 ≤ r → r < k → Kp D C H H' → Deck D C (m + 1) H' → Q (.int r) H'
/-- _law_deck -/
def spDeck (K : PySem.W.Frag) : Sp := fun vs H Q _ => ∃ (a : Addr) (ns : List Int), vs = [.ref a] ∧ SqL K H a (ns.map V.int) ∧ ns.length ≤ 63 ∧ ∀ D C H', H D = none → H C = none → Ex H H' → Deck D C 0 H' → Q (.ref D) H'
/-! ### evaluation that draws -/
def DrI (D C : Addr) (te : TE) (σ : L2.St) (m m' : Int) (R : Int → Prop) : Prop := ∀ H1, Deck D C m H1 → ∀ Q : VK, (∀ i H2, Kp D C H1 H2 → Deck D C m' H2 → R i → Q (.int i) H2) → te σ H1 Q
def DrA (D C : Addr) (ta : TA) (σ : L2.St) (m m' : Int) (n : Nat) (R : Int → Prop) : Prop := ∀ H1, Deck D C m H1 → ∀ Q : List V → Hp → Prop, (∀ (is : List Int) H2, Kp D C H1 H2 → Deck D C m' H2 → is.length = n → (∀ i ∈ is, R i) → Q (is.map V.int) H2) → ta σ H1 Q
section
variable {D C : Addr} {K : PySem.W.Frag} {σ : L2.St} {m m1 m2 : Int} {R R1 R2 : Int → Prop} {ta tb te : TE} {n : Nat}
theorem dr_pure {i : Int} (h : ∀ H, Ev te σ H (.int i)) (r : R i) : DrI D C te σ m m R := fun H1 d Q q => h H1 H1 (Ex.refl H1) Q fun H2 e2 => q i H2 (Kp.ex e2) (d.ex e2) r
theorem dr_imp (h : DrI D C te σ m m1 R1) (k : ∀ i, R1 i → R i) : DrI D C te σ m m1 R := fun H1 d Q q => h H1 d Q fun i H2 k2 d2 r => q i H2 k2 d2 (k i r)
theorem dr_draw {tk : TE} {E : XK} {k : Int} (h0 : σ[0]? = some (some (.ref D))) (hk : ∀ H, Ev tk σ H (.int k)) (mb : m ≤ 1000000000) (k1 : 1 ≤ k) (k2 : k ≤ 1000000001) (hm : m1 = m + 1 := by omega) : DrI D C (tCall spDraw [] E (tCons (tVar 0) (tCons tk tNil))) σ m m1 (fun r => 0 ≤ r ∧ r < k) := hm ▸ fun H1 d Q q =>
  ⟨.ref D, h0, hk H1 H1 (Ex.refl H1) _ fun H2 e2 => ⟨D, C, m, k, rfl, d.ex e2, mb, k1, k2, fun r H3 r0 r1 kp d3 => q r H3 ((Kp.ex e2).trans kp) d3 ⟨r0, r1⟩⟩⟩
theorem dr_op {f : Int → Int → Int} (ha : DrI D C ta σ m m1 R1) (hb : DrI D C tb σ m1 m2 R2) (k : ∀ i j, R1 i → R2 j → R (f i j)) : DrI D C (tOp (rI0 fun i j => .int (f i j)) ta tb) σ m m2 R := fun H1 d Q q =>
  ha H1 d _ fun i H2 kp2 d2 r1 => hb H2 d2 _ fun j H3 kp3 d3 r2 => ⟨i, j, rfl, rfl, q _ H3 (kp2.trans kp3) d3 (k i j r1 r2)⟩
theorem da_nil : DrA D C tNil σ m m 0 R := fun H1 d Q q => q [] H1 Kp.refl d rfl (fun _ h => nomatch h)
theorem da_cons {tr : TA} (ha : DrI D C ta σ m m1 R) (hr : DrA D C tr σ m1 m2 n R) : DrA D C (tCons ta tr) σ m m2 (n + 1) R := fun H1 d Q q =>
  ha H1 d _ fun i H2 kp2 d2 r1 => hr H2 d2 _ fun is H3 kp3 d3 len rs => q (i :: is) H3 (kp2.trans kp3) d3 (by simp [len]) (fun j hj => by
    rcases List.mem_cons.mp hj with e | e
    · rw [e]; exact r1
    · exact rs j e)
/-- [a, b, ..][drawn] -/
theorem dr_pick {tr : TA} (hr : DrA D C tr σ m m1 n R) (hi : DrI D C te σ m1 m2 (fun r => 0 ≤ r ∧ r < (n : Int))) (few : n ≤ 100000) : DrI D C (tOp (rIxL K) (tLst tr) te) σ m m2 R := fun H1 d Q q =>
  hr H1 d _ fun is H2 kp2 d2 len rs => ⟨sz_of (by rw [List.length_map, len]; exact few), fun p np => by
    have eN := Ex.new (o := .lst (is.map V.int)) np
    have dN := d2.ex eN
    obtain ⟨n1, n2⟩ := Kp.free d2 np
    refine hi _ dN _ fun r H3 kp3 d3 r01 => ?_
    obtain ⟨j, rfl⟩ : ∃ j : Nat, r = j := ⟨r.toNat, by omega⟩
    have jl : j < is.length := by omega
    have at3 : H3 p = some (.lst (is.map V.int)) := kp3 p _ n1 n2 upd_same
    exact ⟨p, _, (j : Int), .int is[j], rfl, rfl, sq_of at3, atI_nat (by rw [List.getElem?_map, List.getElem?_eq_getElem jl]; rfl), q _ H3 ((kp2.trans (Kp.ex eN)).trans kp3) d3 (rs _ (List.getElem_mem jl))⟩⟩
end
/-! ### gardens that are drawn -/
structure GOk (most top : Int) (t c : Int) (bs : List Bed) : Prop where
  t0 : -1000000 ≤ t
  t1 : t ≤ 1000000
  c0 : 1 ≤ c
  c1 : c ≤ 1000000
  asc : Asc (bs.map (·.1))
  p0 : ∀ b ∈ bs, -1000000 ≤ b.1
  p1 : ∀ b ∈ bs, b.1 ≤ 1000000
  l0 : ∀ b ∈ bs, 1 ≤ b.2
  l1 : ∀ b ∈ bs, b.2 ≤ 12 ∨ b.2 ≤ top
  few : (bs.length : Int) ≤ most
/-- the garden at v; its beds are a tuple of no further attributes -/
def GAt (H : Hp) (v : V) (t c : Int) (bs : List Bed) : Prop := ∃ g b xs o, v = .ref g ∧ Rd H g (.tup [.int t, .int c, .ref b]) ∧ H b = some (.frz o (.tup xs)) ∧ o.dict = none ∧ TpAll H xs (bs.map bedD)
theorem GAt.tp {H : Hp} {v : V} {t c : Int} {bs : List Bed} (h : GAt H v t c bs) : Tp H v (gardenD t c bs) := by
  obtain ⟨g, b, xs, o, rfl, hg, hb, _, hx⟩ := h
  exact garden_of hg (.inr ⟨o, hb⟩) hx
theorem GAt.ex {H H' : Hp} {v : V} {t c : Int} {bs : List Bed} (e : Ex H H') (h : GAt H v t c bs) : GAt H' v t c bs := by
  obtain ⟨g, b, xs, o, rfl, hg, hb, hd, hx⟩ := h
  exact ⟨g, b, xs, o, rfl, ex_rd e hg, e _ _ hb, hd, hx.mono (Tk.ex e)⟩
theorem GAt.kp {D C : Addr} {m : Int} {H H' : Hp} {v : V} {t c : Int} {bs : List Bed} (d : Deck D C m H) (k : Kp D C H H') (h : GAt H v t c bs) : GAt H' v t c bs := by
  obtain ⟨g, b, xs, o, rfl, hg, hb, hd, hx⟩ := h
  have tk := Kp.tk d k
  refine ⟨g, b, xs, o, rfl, tk.1 _ _ hg, k b _ ?_ ?_ hb, hd, hx.mono tk⟩
  · obtain ⟨n, cs, d, _⟩ := d
    exact ne_of hb d.hD (by intro z; cases z)
  · obtain ⟨n, cs, d, _⟩ := d
    exact ne_of hb d.hC (by intro z; cases z)
def spGarden : Sp := fun vs H Q _ => ∃ D C m most top, vs = [.ref D, .int most, .int top] ∧ Deck D C m H ∧ m ≤ 900000000 ∧ 1 ≤ most ∧ most ≤ 12 ∧ 1 ≤ top ∧ top ≤ 1000000000 ∧
  ∀ v t c bs H', GOk most top t c bs → GAt H' v t c bs → Kp D C H H' → Deck D C (m + 100) H' → Q v H'
theorem pow6 : (10 : Int) ^ (6 : Int).toNat = 1000000 := by decide
theorem pow9 : (10 : Int) ^ (9 : Int).toNat = 1000000000 := by decide
theorem pow18 : (10 : Int) ^ (18 : Int).toNat = 1000000000000000000 := by decide
end Cn

namespace Cn
open PySem PySem.Spec PyProof.Rows L2 Evl
/-! ### sizes of data -/
theorem smI {i : Int} (h0 : -(10 ^ 39) ≤ i) (h1 : i ≤ 10 ^ 39) : sm (.int i) = true := by
  simp only [sm, decide_eq_true_eq]
  have : (10 : Int) ^ 39 < 10 ^ 40 := by decide
  omega
theorem smAll_of : ∀ {ds : List PyData}, (∀ d ∈ ds, sm d = true) → smAll ds = true
  | [], _ => rfl
  | d :: ds, h => by
    simp only [smAll, Bool.and_eq_true]
    exact ⟨h d (List.mem_cons_self ..), smAll_of fun e he => h e (List.mem_cons_of_mem _ he)⟩
theorem wtAll_le {k : Nat} : ∀ {ds : List PyData}, (∀ d ∈ ds, wt d ≤ k) → wtAll ds ≤ (k + 2) * ds.length
  | [], _ => by simp [wtAll]
  | d :: ds, h => by
    have h1 := h d (List.mem_cons_self ..)
    have h2 := wtAll_le (ds := ds) fun e he => h e (List.mem_cons_of_mem _ he)
    simp only [wtAll, List.length_cons, Nat.mul_add, Nat.mul_one]
    omega
theorem dpAll_le {k : Nat} : ∀ {ds : List PyData}, (∀ d ∈ ds, dp d ≤ k) → dpAll ds ≤ k
  | [], _ => by simp [dpAll]
  | d :: ds, h => by
    have h1 := h d (List.mem_cons_self ..)
    have h2 := dpAll_le (ds := ds) fun e he => h e (List.mem_cons_of_mem _ he)
    simp only [dpAll]
    omega
/-- data that repr shows: small, at most k signs, at most n deep -/
def Sh (d : PyData) (k n : Nat) : Prop := sm d = true ∧ wt d ≤ k ∧ dp d ≤ n
theorem Sh.mono {d : PyData} {k k' n n' : Nat} (h : Sh d k n) (a : k ≤ k') (b : n ≤ n') : Sh d k' n' := ⟨h.1, Nat.le_trans h.2.1 a, Nat.le_trans h.2.2 b⟩
theorem sh_int {i : Int} (h0 : -(10 ^ 39) ≤ i) (h1 : i ≤ 10 ^ 39) : Sh (.int i) 100 0 := ⟨smI h0 h1, Nat.le_refl _, Nat.le_refl _⟩
theorem sh_tup {ds : List PyData} {k n m : Nat} (h : ∀ d ∈ ds, Sh d k n) (hm : (k + 2) * ds.length + 3 ≤ m) : Sh (.tuple ds) m (n + 1) := by
  have h2 := wtAll_le fun d hd => (h d hd).2.1
  have h3 := dpAll_le fun d hd => (h d hd).2.2
  refine ⟨by simp only [sm]; exact smAll_of fun d hd => (h d hd).1, by simp only [wt]; omega, by simp only [dp]; omega⟩
theorem sh_lst {ds : List PyData} {k n m : Nat} (h : ∀ d ∈ ds, Sh d k n) (hm : (k + 2) * ds.length + 3 ≤ m) : Sh (.list ds) m (n + 1) := by
  have h2 := wtAll_le fun d hd => (h d hd).2.1
  have h3 := dpAll_le fun d hd => (h d hd).2.2
  refine ⟨by simp only [sm]; exact smAll_of fun d hd => (h d hd).1, by simp only [wt]; omega, by simp only [dp]; omega⟩
theorem sh_bed {b : Bed} (h0 : -(10 ^ 39) ≤ b.1) (h1 : b.1 ≤ 10 ^ 39) (h2 : -(10 ^ 39) ≤ b.2) (h3 : b.2 ≤ 10 ^ 39) : Sh (bedD b) 207 1 := by
  refine sh_tup (k := 100) (n := 0) (fun d hd => ?_) (by simp)
  simp only [List.mem_cons, List.not_mem_nil, or_false] at hd
  rcases hd with rfl | rfl
  · exact sh_int h0 h1
  · exact sh_int h2 h3
theorem sh_garden {t c : Int} {bs : List Bed} (t0 : -(10 ^ 39) ≤ t) (t1 : t ≤ 10 ^ 39) (c0 : -(10 ^ 39) ≤ c) (c1 : c ≤ 10 ^ 39) (hb : ∀ b ∈ bs, -(10 ^ 39) ≤ b.1 ∧ b.1 ≤ 10 ^ 39 ∧ -(10 ^ 39) ≤ b.2 ∧ b.2 ≤ 10 ^ 39) (few : bs.length ≤ 40) : Sh (gardenD t c bs) 30000 3 := by
  have hbs : Sh (bedsD bs) 8400 2 := by
    refine sh_tup (k := 207) (n := 1) (fun d hd => ?_) (by rw [List.length_map]; omega)
    obtain ⟨b, m, rfl⟩ := List.mem_map.mp hd
    obtain ⟨a1, a2, a3, a4⟩ := hb b m
    exact sh_bed a1 a2 a3 a4
  refine sh_tup (k := 8400) (n := 2) (fun d hd => ?_) (by simp)
  simp only [List.mem_cons, List.not_mem_nil, or_false] at hd
  rcases hd with rfl | rfl | rfl
  · exact (sh_int t0 t1).mono (by omega) (by omega)
  · exact (sh_int c0 c1).mono (by omega) (by omega)
  · exact hbs
theorem sum_le {B : Int} (hB : 0 ≤ B) : ∀ {l : List Int}, (∀ x ∈ l, 0 ≤ x ∧ x ≤ B) → 0 ≤ l.sum ∧ l.sum ≤ B * l.length
  | [], _ => by simp
  | x :: r, h => by
    have h1 := h x (List.mem_cons_self ..)
    have h2 := sum_le hB (l := r) fun y hy => h y (List.mem_cons_of_mem _ hy)
    simp only [List.sum_cons, List.length_cons]
    have : B * ((r.length + 1 : Nat) : Int) = B * r.length + B := by
      rw [show ((r.length + 1 : Nat) : Int) = (r.length : Int) + 1 by omega, Int.mul_add, Int.mul_one]
    omega
section
variable {K : PySem.W.Frag} {w : World} {σ : L2.St} {H H' : Hp} {ta tb te tx : TE} {t u : TT} {x y z v : V} {d e : PyData} {ds es : List PyData}
/-! ### more evaluation -/
/-- a call with one argument that is data -/
theorem ed_call1 {sp : Sp} {E : XK} {d1 : PyData} (h : EvD ta σ H d1) (hs : ∀ v H1, Ex H H1 → Tp H1 v d1 → ∀ Q : VK, (∀ z H2, Ex H1 H2 → Tp H2 z d → Q z H2) → ∀ E : XK, sp [v] H1 Q E) : EvD (tCall sp [] E (tCons ta tNil)) σ H d := fun H1 e Q q =>
  h H1 e _ fun v H2 e2 t2 => hs v H2 (e.trans e2) t2 Q (fun z H3 e3 t3 => q z H3 (e2.trans e3) t3) E
/-- a == b of data -/
theorem ev_eqD (ha : EvD ta σ H d) (hb : EvD tb σ H e) (sd : SeqAt.shaped d = true) (se : SeqAt.shaped e = true) : Ev (tOp (rEqD K) ta tb) σ H (.bl (PyData.eqv d e)) := fun H1 e1 Q q =>
  ha H1 e1 _ fun v H2 e2 t2 => hb H2 (e1.trans e2) _ fun v' H3 e3 t3 => ⟨d, e, (t2.mono (Tk.ex e3)).dp (nd_shaped sd), t3.dp (nd_shaped se), sd, se, q H3 (e2.trans e3)⟩
/-- the walk over a tuple of beds that comes out of an expression -/
theorem eld_bedsD {tl : TE} {bs : List Bed} {i j : Nat} {vs : List Nat} (f : Bed → Bool) (dd : Bed → PyData) (h : EvD tl σ H (bedsD bs)) (few : bs.length ≤ 50000)
    (hw : ∀ p l, wipe (((wipe σ vs).set i (some p)).set j (some l)) vs = wipe σ vs)
    (ht : ∀ b ∈ bs, EvT t (((wipe σ vs).set i (some (.int b.1))).set j (some (.int b.2))) H (f b)) (he : ∀ b ∈ bs, f b = true → EvD te (((wipe σ vs).set i (some (.int b.1))).set j (some (.int b.2))) H (dd b)) :
    EvLd (tLc (iTup K tl) (gPair K i j) t te vs) σ H ((bs.filter f).map dd) := fun H0 e0 Q q => h H0 e0 _ fun v H1 e1 tv => by
  obtain ⟨a, xs, rfl, ha, hb⟩ := tv.tup_inv
  exact eld_beds (K := K) (tl := tC (.ref a)) f dd ev_c ha hb few hw (fun b m => (ht b m).mono (e0.trans e1)) (fun b m hf => (he b m hf).mono (e0.trans e1)) H1 (Ex.refl H1) Q fun p ys H2 hp e2 h2 t2 => q p ys H2 (fresh_back e1 hp) (e1.trans e2) h2 t2
theorem cutInit (xs : List V) : cutV xs none (some (-1)) = xs.dropLast := by
  have e : HT.sIx xs.length xs.length (some (-1)) = xs.length - 1 := by
    show (if (-1 : Int) < 0 then ((-1 : Int) + (xs.length : Int)).toNat else min (-1 : Int).toNat xs.length) = _
    rw [if_pos (by decide)]
    omega
  unfold cutV
  rw [e, HT.sIx_none, List.dropLast_eq_take]
  simp
theorem TpAll.init {xs : List V} (h : TpAll H xs ds) : TpAll H xs.dropLast ds.dropLast := by
  rw [List.dropLast_eq_take, List.dropLast_eq_take, h.length]
  exact h.take _
/-- t[:-1] -/
theorem ed_init {to1 : TO} {tn : TE} (h : EvD te σ H (.tuple ds)) (hn : Ev tn σ H (.int (-1))) : EvD (tSl (rSlA K) te tNoPart (tPart tn)) σ H (.tuple ds.dropLast) := fun H1 e1 Q q =>
  h H1 e1 _ fun v H2 e2 tv => hn H2 (e1.trans e2) _ fun H3 e3 => by
    obtain ⟨a, xs, rfl, ha, hb⟩ := (tv.mono (Tk.ex e3)).tup_inv
    have ti := hb.init
    refine ⟨-1, rfl, a, xs, rfl, sr ha, fun hw => ?_, fun _ p hp => ?_⟩
    · have e : HT.sIx xs.length xs.length (some (-1)) = xs.length - 1 := by
        show (if (-1 : Int) < 0 then ((-1 : Int) + (xs.length : Int)).toNat else min (-1 : Int).toNat xs.length) = _
        rw [if_pos (by decide)]
        omega
      have l0 : xs.length = 0 := by
        have := hw.2
        rw [e] at this
        omega
      have x0 : xs = [] := List.length_eq_zero_iff.mp l0
      subst x0
      refine q _ H3 (e2.trans e3) (.tup ha ?_)
      exact ti
    · refine q _ _ ((e2.trans e3).trans (Ex.new hp)) (.tup (.inl upd_same) ?_)
      rw [cutInit]
      exact ti.mono (Tk.ex (Ex.new hp))
/-- [.. for k in range(n)], each turn the same -/
theorem eld_range {ta : TA} {j : Nat} {vs : List Nat} {n : Nat} (h : EvA ta σ H [.int n]) (few : n ≤ 50000) (dd : Nat → PyData) (hw : ∀ x, wipe ((wipe σ vs).set j (some x)) vs = wipe σ vs)
    (he : ∀ i : Nat, i < n → EvD te ((wipe σ vs).set j (some (.int (i : Int)))) H (dd i)) : EvLd (tLc (iRng1 ta) (gName j) tYes te vs) σ H ((List.range n).map dd) := fun H0 e0 Q q => h H0 e0 _ fun H1 e1 => by
  refine ⟨(n : Int), rfl, by omega, by omega, ?_⟩
  have eN : ((n : Int)).toNat = n := by omega
  rw [eN]
  refine lc_pure (walk_range (lo := 0) (n := n)) few (fun _ => true) dd (fun _ _ => trivial) ?_ ?_
  · rintro i x H2 _ hi e2 ⟨rfl, rfl⟩
    refine ⟨Ex.refl _, _, fun R r => r, hw _, et_yes, fun _ => ?_⟩
    dsimp only
    rw [show (0 : Int) + (i : Int) = i by omega]
    exact (he i hi).mono ((e0.trans e1).trans e2)
  · intro p xs H2 hp e2 h2 t2
    have : givD n (fun _ => true) dd = (List.range n).map dd := by
      unfold givD
      rw [List.filter_eq_self.mpr (fun _ _ => rfl)]
    rw [this] at t2
    exact q p xs H2 (fresh_back e1 hp) (e1.trans e2) h2 t2
/-- _law_same -/
def spSame (K : PySem.W.Frag) : Sp := fun vs H Q _ => ∃ a b d, vs = [a, b] ∧ Dp K H a d ∧ Dp K H b d ∧ sm d = true ∧ wt d ≤ 1000000 ∧ dp d ≤ 50 ∧ Q (.bl true) H
theorem ev_same {E : XK} (h1 : EvLd ta σ H ds) (h2 : EvLd tb σ H ds) (sh : Sh (.list ds) 1000000 50) : Ev (tCall (spSame K) [] E (tCons ta (tCons tb tNil))) σ H (.bl true) := fun H1 e1 Q q =>
  h1 H1 e1 _ fun p xs H2 hp e2 hx t2 => h2 H2 (e1.trans e2) _ fun p' ys H3 hp' e3 hy t3 => ⟨.ref p, .ref p', .list ds, rfl, .lst (sq_of (e3 p _ hx)) ((t2.mono (Tk.ex e3)).dp (nd_smAll sh.1)), .lst (sq_of hy) (t3.dp (nd_smAll sh.1)), sh.1, sh.2.1, sh.2.2, q H3 (e2.trans e3)⟩
/-- repr(x) of data in a name -/
theorem ev_repr (h : EvD te σ H d) (sh : Sh d 1000000 50) : Ev (tCB (rRepr K) (tCons te tNil)) σ H (.str d.shown) := fun H1 e1 Q q =>
  h H1 e1 _ fun v H2 e2 t2 => ⟨v, d, rfl, t2.dp (nd_sm sh.1), sh.1, sh.2.1, sh.2.2, q H2 e2⟩
end
end Cn

namespace Cn
open PySem PySem.Spec PyProof.Rows L2 Evl
section
variable {X : Cx}
/-- tuple(list): a tuple of no further attributes -/
def rTupF (K : PySem.W.Frag) : List V → Hp → VK → Prop := fun xs H Q => ∃ p ys, xs = [.ref p] ∧ SqL K H p ys ∧ ∀ l o, H l = none → o.dict = none → Q (.ref l) (upd H l (.frz o (.tup ys)))
theorem call_tupleF : CallR X (.type "tuple") (rTupF X.K) := by
  rintro pins s σ H _ us Q I rel ⟨p, ys, rfl, sq, q⟩
  obtain ⟨_, rfl, rp⟩ := vals1 rel
  cases rp
  obtain ⟨its, rv, pl, size⟩ := I.list sq
  have len := rv.length
  refine call_tuple_list pl.isList (fun h' kp => ?_) (by simp only [List.size_toArray]; omega)
  have I1 := I.kept (h' := h') (t' := s.toks) kp
  have here : (h'.push { cls := .type "tuple", data := .seq its.toArray }).get? h'.objs.size = some { cls := .type "tuple", data := .seq its.toArray } := Heap.get?_push_size _ rfl
  exact ⟨.ref h'.objs.size, _, I1.laid (o := .frz { cls := .type "tuple", data := .seq its.toArray } (.tup ys)) (t' := s.toks) (fun b o e => Heap.get?_push_of_some _ e) (Nat.le_refl _) ⟨here, size, its, rv, ⟨_, here, rfl, _, rfl⟩⟩, rfl, q _ _ (I1.hok.fresh (Nat.le_refl _)) rfl⟩
/-- the pairs of a tuple, as the machine has them -/
theorem pairs_vals {pins : List (Addr × Obj)} {σ : L2.St} {H : Hp} {s : Shared} (I : Inv X pins σ H s) : ∀ {ps : List Addr} {kvs : List (Key × V)}, Paired (fun p kv => SqT X.K H p [kV kv.1, kv.2]) ps kvs →
    ∃ (prs : List (Key × Value)) (us : List Value), KV kvs prs ∧ prs.length = ps.length ∧ us.length = ps.length ∧ ∀ (j : Nat) (q : Key × Value) (u : Value), prs[j]? = some q → us[j]? = some u → ∃ b, ps[j]? = some b ∧ IsTup s.heap b #[u, q.2] ∧ keyIs q.1 u = true
  | _, _, .nil => ⟨[], [], .nil, rfl, rfl, fun j q u e => by simp at e⟩
  | _, _, .cons (a := p) (b := kv) h t => by
    obtain ⟨prs, us, r, l1, l2, hp⟩ := pairs_vals I t
    obtain ⟨its, rv, ht, _⟩ := I.tuple h
    obtain ⟨u, y, rfl, ru, ry⟩ := vals2 rv
    refine ⟨(kv.1, y) :: prs, u :: us, .cons ⟨rfl, ry⟩ r, by simp [l1], by simp [l2], fun j q w e1 e2 => ?_⟩
    cases j with
    | zero =>
      simp only [List.getElem?_cons_zero, Option.some.injEq] at e1 e2
      subst e1 e2
      exact ⟨p, rfl, ht, kV_is (P := X.prog) (w := X.w) ru⟩
    | succ j => simpa using hp j q w (by simpa using e1) (by simpa using e2)
/-- dict(tuple of pairs) -/
def rDictT (K : PySem.W.Frag) : List V → Hp → VK → Prop := fun xs H Q => ∃ (a : Addr) (o : Obj) (ps : List Addr) (kvs : List (Key × V)), xs = [.ref a] ∧ H a = some (.frz o (.tup (ps.map V.ref))) ∧ o.dict = none ∧ Paired (fun p kv => SqT K H p [kV kv.1, kv.2]) ps kvs ∧
  ∀ p, H p = none → Q (.ref p) (upd H p (.dK (mergeK [] kvs)))
theorem call_dictT (calm : X.calm = true) : CallR X (.type "dict") (rDictT X.K) := by
  rintro pins s σ H _ us Q I rel ⟨a, o, ps, kvs, rfl, ha, nod, hp, q⟩
  obtain ⟨_, rfl, rp⟩ := vals1 rel
  cases rp
  obtain ⟨at_a, size, its, rv, ob, ho, hc, n, hd⟩ := I.hok a _ ha
  obtain rfl : o = ob := Option.some.inj (at_a.symm.trans ho)
  obtain rfl := refs_at rv
  rw [List.length_map] at size
  obtain ⟨prs, us, r, l1, l2, key⟩ := pairs_vals I hp
  have val : ∀ j (hj : j < ps.length), ∃ k v u, prs[j]? = some (k, v) ∧ us[j]? = some u ∧ IsTup s.heap ps[j] #[u, v] ∧ keyIs k u = true := by
    intro j hj
    have e1 : prs[j]? = some prs[j] := List.getElem?_eq_getElem (by omega)
    have e2 : us[j]? = some us[j] := List.getElem?_eq_getElem (by omega)
    obtain ⟨b, eb, tb, kb⟩ := key j _ _ e1 e2
    rw [List.getElem?_eq_getElem hj] at eb
    cases eb
    exact ⟨_, _, _, e1, e2, tb, kb⟩
  let pv : List (Value × Value) := us.zip (prs.map (·.2))
  have lpv : pv.length = ps.length := by simp [pv, l1, l2]
  have pvAt : ∀ j k v, pv[j]? = some (k, v) → us[j]? = some k ∧ (prs.map (·.2))[j]? = some v := fun j k v e => List.getElem?_zip_eq_some.mp e
  refine PySem.call_dict_pairs (knd := mixKind X.prog X.w) (kvs := prs) (PairArg.tuple a (ps.map Value.ref).toArray (fun j => ps.getD j 0) pv) (I.ok.hd calm) ⟨⟨o, n, ho, hc, nod, hd⟩, by simp [lpv], fun j k v e => ?_⟩ ⟨by omega, fun i key' v e => ?_⟩ (by omega) fun h' tk hd' k => ?_
  · obtain ⟨e1, e2⟩ := pvAt j k v e
    have hj : j < ps.length := by
      have := (List.getElem?_eq_some_iff.mp e1).1
      omega
    obtain ⟨k0, v0, u0, p1, p2, p3, p4⟩ := val j hj
    rw [p2] at e1
    cases e1
    rw [List.getElem?_map, p1] at e2
    cases e2
    have ej : ps.getD j 0 = ps[j] := by simp [List.getD, List.getElem?_eq_getElem hj]
    dsimp only
    rw [ej]
    exact ⟨by simp [hj], .inl p3⟩
  · obtain ⟨e1, e2⟩ := pvAt i key' v e
    have hj : i < ps.length := by
      have := (List.getElem?_eq_some_iff.mp e1).1
      omega
    obtain ⟨k0, v0, u0, p1, p2, p3, p4⟩ := val i hj
    rw [p2] at e1
    cases e1
    rw [List.getElem?_map, p1] at e2
    cases e2
    exact ⟨k0, p1, p4⟩
  · have big : (s.heap.objs.size == sysModules) = false := beq_eq_false_iff_ne.mpr (Nat.ne_of_gt I.big)
    have few : (mergeK [] kvs).length ≤ sizeLine := by
      have h1 := length_mergeK kvs []
      have h2 := r.length
      simp only [List.length_nil, Nat.zero_add] at h1
      omega
    exact ⟨.ref s.heap.objs.size, upd H s.heap.objs.size (.dK (mergeK [] kvs)), I.laid (t' := tk) (fun b u e => k b u (by simp) e) (Nat.le_refl _) ⟨few, big, merged [] prs, KV.merge r .nil, hd'⟩, rfl, q _ (I.hok.fresh (Nat.le_refl _))⟩
end
section
variable {K : PySem.W.Frag} {σ : L2.St} {H : Hp} {te : TE} {ds : List PyData}
/-- tuple(new list) -/
theorem ed_tupleOf (h : EvLd te σ H ds) : EvD (tCB (rTupF K) (tCons te tNil)) σ H (.tuple ds) := fun H1 e Q q =>
  h H1 e _ fun p xs H2 hp e2 h2 t2 => ⟨p, xs, rfl, sq_of h2, fun l o hl _ => q _ _ (e2.trans (Ex.new hl)) (.tup (.inr ⟨o, upd_same⟩) (t2.mono (Tk.ex (Ex.new hl))))⟩
end
end Cn

namespace Cn
open PySem PySem.Spec PyProof.Rows L2 Evl
/-! ### rules that name the written part -/
section
variable {X : Cx} {K : PySem.W.Frag}
theorem ix_tupK (h : X.K = K) : IxR X (rIxT K) := h ▸ ix_tup
theorem ix_listK (h : X.K = K) : IxR X (rIxL K) := h ▸ ix_list
theorem sl_listK (h : X.K = K) : SlR X (rSlL K) := h ▸ sl_list
theorem sl_tupK (h : X.K = K) : SlR X (rSlA K) := h ▸ sl_tupA
theorem op_catK (h : X.K = K) : OpR X (binaryOp .Add) (rCatA K) := h ▸ op_catA
theorem call_dictK (h : X.K = K) (c : X.calm = true) : CallR X (.type "dict") (rDictT K) := h ▸ call_dictT c
theorem call_tupleK (h : X.K = K) : CallR X (.type "tuple") (rTupF K) := h ▸ call_tupleF
def rLen (K : PySem.W.Frag) : List V → Hp → VK → Prop := fun xs H Q => ∃ p ys, xs = [.ref p] ∧ (SqL K H p ys ∨ SqT K H p ys) ∧ Q (.int ys.length) H
theorem call_lenK (h : X.K = K) : CallR X (.builtin "len") (rLen K) := h ▸ call_len_seq
theorem cr_sumK (h : X.K = K) (c : X.calm = true) : CallR X (.builtin "sum") (rSum K) := h ▸ cr_sum c
theorem cr_setK (h : X.K = K) (c : X.calm = true) : CallR X (.type "set") (rSetL K X.w) := h ▸ cr_setL c
theorem op_eqK (h : X.K = K) (u : X.A.units + 64 < cLine) : OpR X (compareOp .Eq) (rEqD K) := h ▸ op_eqD u
theorem op_neK (h : X.K = K) (u : X.A.units + 64 < cLine) : OpR X (compareOp .NotEq) (rNeD K) := h ▸ op_neD u
theorem call_reprK (h : X.K = K) (g : X.A.guards = some []) (u : X.A.units + 64 < cLine) : CallR X (.builtin "repr") (rRepr K) := h ▸ call_repr g u
theorem pi_tupK {tg l : Expr} {tl : TE} (h : X.K = K) (hl : PE X l tl) : PI X tg l (iTup K tl) := h ▸ pi_tup hl
theorem pi_listK {tg l : Expr} {tl : TE} (h : X.K = K) (hl : PE X l tl) : PI X tg l (iList K tl) := h ▸ pi_list hl
end
/-! ### dicts of ints -/
def dictOf (ws : List Bed) : List (Key × V) := ws.map fun b => (Sum.inl b.1, V.int b.2)
theorem valV_dictOf {p w : Int} : ∀ {ws : List Bed}, (ws.map (·.1)).Nodup → (p, w) ∈ ws → valV (dictOf ws) (.inl p) = some (.int w)
  | [], _, h => nomatch h
  | b :: ws, nd, h => by
    have nd' := List.nodup_cons.mp (show (b.1 :: ws.map (·.1)).Nodup from nd)
    rcases List.mem_cons.mp h with e | e
    · subst e
      exact valV_pos (p := (Sum.inl p, V.int w)) rfl
    · have ne : b.1 ≠ p := fun z => nd'.1 (z ▸ List.mem_map_of_mem e)
      show valV ((Sum.inl b.1, V.int b.2) :: dictOf ws) (.inl p) = _
      rw [valV_neg (fun z => ne (Sum.inl.inj z))]
      exact valV_dictOf nd'.2 e
theorem valV_dictOf_none {p : Int} : ∀ {ws : List Bed}, p ∉ ws.map (·.1) → valV (dictOf ws) (.inl p) = none
  | [], _ => rfl
  | b :: ws, h => by
    have h' : p ≠ b.1 ∧ p ∉ ws.map (·.1) := by simpa using h
    show valV ((Sum.inl b.1, V.int b.2) :: dictOf ws) (.inl p) = _
    rw [valV_neg (fun z => h'.1 (Sum.inl.inj z).symm)]
    exact valV_dictOf_none h'.2
theorem putK_new {ws : List Bed} {p w : Int} (h : p ∉ ws.map (·.1)) : putK (dictOf ws) (.inl p) (.int w) = dictOf (ws ++ [(p, w)]) := by
  unfold putK
  rw [valV_any, valV_dictOf_none h, if_neg (by simp)]
  simp [dictOf]
theorem mergeK_new : ∀ {bs ws : List Bed}, ((ws ++ bs).map (·.1)).Nodup → mergeK (dictOf ws) (dictOf bs) = dictOf (ws ++ bs)
  | [], ws, _ => by simp [mergeK, dictOf]
  | b :: bs, ws, nd => by
    have hn : b.1 ∉ ws.map (·.1) := by
      rw [List.map_append, List.nodup_append] at nd
      intro z
      exact nd.2.2 _ z _ (List.mem_cons_self ..) rfl
    show mergeK (putK (dictOf ws) (.inl b.1) (.int b.2)) (dictOf bs) = _
    rw [putK_new hn, mergeK_new (by simpa using nd)]
    simp
section
variable {K : PySem.W.Frag} {σ : L2.St} {H : Hp} {ta tb te td ty tl : TE} {t u : TT} {v : V}
theorem ev_dget {W : Addr} {kvs : List (Key × V)} {p : Int} (hd : Ev td σ H (.ref W)) (hy : Ev ty σ H (.int p)) (h : H W = some (.dK kvs)) (hv : valV kvs (.inl p) = some v) : Ev (tDGet td ty) σ H v := fun H1 e Q q =>
  hd H1 e _ fun H2 e2 => hy H2 (e.trans e2) _ fun H3 e3 => ⟨W, v, rfl, .inl ⟨kvs, .inl p, .inl (((e.trans e2).trans e3) W _ h), rfl, hv.symm⟩, q H3 (e2.trans e3)⟩
theorem ev_min2 {i j : Int} (ha : Ev ta σ H (.int i)) (hb : Ev tb σ H (.int j)) : Ev (tCB (fun xs H Q => ∃ i j, xs = [V.int i, V.int j] ∧ Q (.int (if j < i then j else i)) H) (tCons ta (tCons tb tNil))) σ H (.int (if j < i then j else i)) := fun H1 e Q q =>
  ha H1 e _ fun H2 e2 => hb H2 (e.trans e2) _ fun H3 e3 => ⟨i, j, rfl, q H3 (e2.trans e3)⟩
def rSortDI : List V → Hp → VK → Prop := fun xs H Q => ∃ (a : Addr) (kvs : List (Key × V)) (ks : List Int), xs = [.ref a] ∧ Rd H a (.dK kvs) ∧ kvs.map (·.1) = ks.map Sum.inl ∧ ks.length < 64 ∧ ∀ (ys : List Int) (p : Addr), ys.Perm ks → ys.Pairwise (· ≤ ·) → H p = none → Q (.ref p) (upd H p (.lst (ys.map V.int)))
theorem asc_of {ys ks : List Int} (p : ys.Perm ks) (s : ys.Pairwise (· ≤ ·)) (nd : ks.Nodup) : ys = sortU ks := by
  have nd' : ys.Nodup := p.nodup_iff.mpr nd
  refine sortU_eq (List.Pairwise.imp₂ (fun a b h1 h2 => by omega) s nd') fun k => p.mem_iff
/-- sorted(dict) -/
theorem el_sortD {W : Addr} {ws : List Bed} (hd : Ev td σ H (.ref W)) (h : H W = some (.dK (dictOf ws))) (nd : (ws.map (·.1)).Nodup) (few : ws.length < 64) : EvL (tCB rSortDI (tCons td tNil)) σ H ((sortU (ws.map (·.1))).map V.int) := fun H1 e Q q =>
  hd H1 e _ fun H2 e2 => ⟨W, dictOf ws, ws.map (·.1), rfl, .inl ((e.trans e2) W _ h), by simp [dictOf, Function.comp_def], by simpa using few, fun ys p pm srt hp => q p _ (fresh_back e2 hp) (e2.trans (Ex.new hp)) (by rw [upd_same, asc_of pm srt nd])⟩
/-- [.. for x in new list of ints if ..] -/
theorem eld_ints {j : Nat} {vs : List Nat} (ns : List Int) (h : EvL tl σ H (ns.map V.int)) (few : ns.length ≤ 50000) (f : Int → Bool) (dd : Int → PyData) (hw : ∀ x, wipe ((wipe σ vs).set j (some x)) vs = wipe σ vs)
    (ht : ∀ x ∈ ns, EvT t ((wipe σ vs).set j (some (.int x))) H (f x)) (he : ∀ x ∈ ns, f x = true → EvD te ((wipe σ vs).set j (some (.int x))) H (dd x)) : EvLd (tLc (iList K tl) (gName j) t te vs) σ H ((ns.filter f).map dd) := fun H0 e0 Q q => h H0 e0 _ fun a H1 na e1 ha => by
  have e01 := e0.trans e1
  refine ⟨a, rfl, ⟨_, sq_of ha⟩, ?_⟩
  have gl := giv_list ns f dd (fun i => match ns[i]? with | some b => f b | none => false) (fun i => match ns[i]? with | some b => dd b | none => .none) (fun i a e => by simp [e])
  refine lc_pure (walk_list (K := K) (a := a) (xs := ns.map V.int)) (by rw [List.length_map]; exact few) (fun i => match ns[i]? with | some b => f b | none => false) (fun i => match ns[i]? with | some b => dd b | none => .none) (fun H' e => sq_of (e a _ ha)) ?_ ?_
  · rintro k x H2 _ hk e2 ⟨rfl, hx⟩
    rw [List.length_map] at hk
    have hbk : ns[k]? = some ns[k] := List.getElem?_eq_getElem hk
    rw [List.getElem?_map, hbk] at hx
    cases hx
    have hm : ns[k] ∈ ns := List.getElem_mem hk
    refine ⟨Ex.refl _, _, fun R r => r, hw _, ?_, ?_⟩
    · simp only [hbk]
      exact (ht _ hm).mono (e01.trans e2)
    · simp only [hbk]
      exact fun hf => (he _ hm hf).mono (e01.trans e2)
  · intro p ys H2 hp e2 h2 t2
    rw [List.length_map, gl] at t2
    exact q p ys H2 (fresh_back e1 hp) (e1.trans e2) h2 t2
/-- new list[:1] -/
theorem el_take1 {xs : List V} {tn : TE} (h : EvL te σ H xs) (hn : Ev tn σ H (.int 1)) : EvL (tSl (rSlL K) te tNoPart (tPart tn)) σ H (xs.take 1) := fun H1 e1 Q q =>
  h H1 e1 _ fun p H2 hp e2 h2 => hn H2 (e1.trans e2) _ fun H3 e3 => ⟨1, rfl, p, xs, rfl, sq_of (e3 p _ h2), fun r hr => by
    refine q r _ (fresh_back (e2.trans e3) hr) ((e2.trans e3).trans (Ex.new hr)) ?_
    rw [upd_same]
    unfold cutV
    rw [show HT.sIx xs.length xs.length (some 1) = min 1 xs.length from HT.sIx_nat xs.length xs.length 1, HT.sIx_none, List.drop_zero, Nat.sub_zero]
    congr 2
    cases xs with
    | nil => rfl
    | cons a r => simp⟩
end
/-! ### drawing where some things are known of the heap -/
def DrJ (D C : Addr) (J : Hp → Prop) (te : TE) (σ : L2.St) (m m' : Int) (R : Int → Prop) : Prop := ∀ H1, Deck D C m H1 → J H1 → ∀ Q : VK, (∀ i H2, Kp D C H1 H2 → Deck D C m' H2 → J H2 → R i → Q (.int i) H2) → te σ H1 Q
def St (D C : Addr) (J : Hp → Prop) : Prop := ∀ H H', J H → Kp D C H H' → J H'
def DrK (D C : Addr) (J : Hp → Prop) (ta : TA) (σ : L2.St) (m m' : Int) (n : Nat) (R : Int → Prop) : Prop := ∀ H1, Deck D C m H1 → J H1 → ∀ Q : List V → Hp → Prop, (∀ (is : List Int) H2, Kp D C H1 H2 → Deck D C m' H2 → J H2 → is.length = n → (∀ i ∈ is, R i) → Q (is.map V.int) H2) → ta σ H1 Q
section
variable {D C : Addr} {K : PySem.W.Frag} {J : Hp → Prop} {σ : L2.St} {m m1 m2 : Int} {R R1 R2 : Int → Prop} {ta tb te : TE} {n : Nat}
theorem dj_pure {i : Int} (st : St D C J) (h : ∀ H, J H → Ev te σ H (.int i)) (r : R i) : DrJ D C J te σ m m R := fun H1 d j Q q => h H1 j H1 (Ex.refl H1) Q fun H2 e2 => q i H2 (Kp.ex e2) (d.ex e2) (st _ _ j (Kp.ex e2)) r
theorem dj_imp (h : DrJ D C J te σ m m1 R1) (k : ∀ i, R1 i → R i) : DrJ D C J te σ m m1 R := fun H1 d j Q q => h H1 d j Q fun i H2 k2 d2 j2 r => q i H2 k2 d2 j2 (k i r)
theorem dj_draw {tk : TE} {E : XK} {k : Int} (st : St D C J) (h0 : σ[0]? = some (some (.ref D))) (hk : ∀ H, J H → Ev tk σ H (.int k)) (mb : m ≤ 1000000000) (k1 : 1 ≤ k) (k2 : k ≤ 1000000001) (hm : m1 = m + 1 := by omega) : DrJ D C J (tCall spDraw [] E (tCons (tVar 0) (tCons tk tNil))) σ m m1 (fun r => 0 ≤ r ∧ r < k) := hm ▸ fun H1 d j Q q =>
  ⟨.ref D, h0, hk H1 j H1 (Ex.refl H1) _ fun H2 e2 => ⟨D, C, m, k, rfl, d.ex e2, mb, k1, k2, fun r H3 r0 r1 kp d3 => q r H3 ((Kp.ex e2).trans kp) d3 (st _ _ j ((Kp.ex e2).trans kp)) ⟨r0, r1⟩⟩⟩
theorem dj_op {f : Int → Int → Int} (ha : DrJ D C J ta σ m m1 R1) (hb : DrJ D C J tb σ m1 m2 R2) (k : ∀ i j, R1 i → R2 j → R (f i j)) : DrJ D C J (tOp (rI0 fun i j => .int (f i j)) ta tb) σ m m2 R := fun H1 d j Q q =>
  ha H1 d j _ fun i H2 kp2 d2 j2 r1 => hb H2 d2 j2 _ fun i' H3 kp3 d3 j3 r2 => ⟨i, i', rfl, rfl, q _ H3 (kp2.trans kp3) d3 j3 (k i i' r1 r2)⟩
theorem dk_nil : DrK D C J tNil σ m m 0 R := fun H1 d j Q q => q [] H1 Kp.refl d j rfl (fun _ h => nomatch h)
theorem dk_cons {tr : TA} (ha : DrJ D C J ta σ m m1 R) (hr : DrK D C J tr σ m1 m2 n R) : DrK D C J (tCons ta tr) σ m m2 (n + 1) R := fun H1 d j Q q =>
  ha H1 d j _ fun i H2 kp2 d2 j2 r1 => hr H2 d2 j2 _ fun is H3 kp3 d3 j3 len rs => q (i :: is) H3 (kp2.trans kp3) d3 j3 (by simp [len]) (fun k hk => by
    rcases List.mem_cons.mp hk with e | e
    · rw [e]; exact r1
    · exact rs k e)
theorem dj_pick {tr : TA} (st : St D C J) (hr : DrK D C J tr σ m m1 n R) (hi : DrJ D C J te σ m1 m2 (fun r => 0 ≤ r ∧ r < (n : Int))) (few : n ≤ 100000) : DrJ D C J (tOp (rIxL K) (tLst tr) te) σ m m2 R := fun H1 d j0 Q q =>
  hr H1 d j0 _ fun is H2 kp2 d2 j2 len rs => ⟨sz_of (by rw [List.length_map, len]; exact few), fun p np => by
    have eN := Ex.new (o := .lst (is.map V.int)) np
    obtain ⟨n1, n2⟩ := Kp.free d2 np
    refine hi _ (d2.ex eN) (st _ _ j2 (Kp.ex eN)) _ fun r H3 kp3 d3 j3 r01 => ?_
    obtain ⟨j, rfl⟩ : ∃ j : Nat, r = j := ⟨r.toNat, by omega⟩
    have jl : j < is.length := by omega
    have at3 : H3 p = some (.lst (is.map V.int)) := kp3 p _ n1 n2 upd_same
    exact ⟨p, _, (j : Int), .int is[j], rfl, rfl, sq_of at3, atI_nat (by rw [List.getElem?_map, List.getElem?_eq_getElem jl]; rfl), q _ H3 ((kp2.trans (Kp.ex eN)).trans kp3) d3 j3 (rs _ (List.getElem_mem jl))⟩⟩
end
section
variable {σ : L2.St} {H : Hp} {t u : TT} {Q : Bool → Hp → Prop}
theorem t_and {a : Bool} (h : EvT t σ H a) (hT : a = true → ∀ H1, Ex H H1 → u σ H1 Q) (hF : a = false → ∀ H1, Ex H H1 → Q false H1) : tAnd t u σ H Q := h H (Ex.refl H) _ fun H1 e => by
  cases a with
  | true => exact hT rfl H1 e
  | false => exact hF rfl H1 e
end
/-! ### trips that are drawn -/
structure TripOk (c : Int) (ws rs : List Bed) : Prop where
  asc : Asc (rs.map (·.1))
  row : ∀ r ∈ rs, ∃ w, (r.1, w) ∈ ws ∧ 1 ≤ r.2 ∧ r.2 ≤ w
  sum : (rs.map (·.2)).sum ≤ c
  non : rs = [] → ∀ b ∈ ws, b.2 ≤ 0
  len : rs.length ≤ 40
def spTrip : Sp := fun vs H Q _ => ∃ D C m g t c bs W ws, vs = [.ref D, g, .ref W] ∧ Deck D C m H ∧ m ≤ 800000000 ∧ Tp H g (gardenD t c bs) ∧ 1 ≤ c ∧ c ≤ 1000000 ∧ H W = some (.dK (dictOf ws)) ∧ (ws.map (·.1)).Nodup ∧ ws.length ≤ 40 ∧
  ∀ v rs H', TripOk c ws rs → Tp H' v (bedsD rs) → Kp D C H H' → Deck D C (m + 200) H' → Q v H'
theorem Kp.dict {D C W : Addr} {m : Int} {H : Hp} {kvs : List (Key × V)} (d : Deck D C m H) (h : H W = some (.dK kvs)) : W ≠ D ∧ W ≠ C := by
  obtain ⟨n, cs, d, _⟩ := d
  exact ⟨ne_of h d.hD (by intro z; cases z), ne_of h d.hC (by intro z; cases z)⟩
theorem eqv_nil (ds : List PyData) : PyData.eqv (.list ds) (.list []) = ds.isEmpty := by
  cases ds with
  | nil => simp [PyData.eqv, PyData.eqvAll]
  | cons d r => simp [PyData.eqv, PyData.eqvAll]
end Cn

namespace Cn
open PySem PySem.Spec PyProof.Rows L2 Evl
section
variable {K : PySem.W.Frag} {σ : L2.St} {H : Hp} {ta tb te td ty tl : TE} {t u : TT} {v : V} {d : PyData} {ds es : List PyData}
/-- new list[:k] -/
theorem el_take {xs : List V} {tn : TE} {k : Nat} (h : EvL te σ H xs) (hn : Ev tn σ H (.int k)) : EvL (tSl (rSlL K) te tNoPart (tPart tn)) σ H (xs.take k) := fun H1 e1 Q q =>
  h H1 e1 _ fun p H2 hp e2 h2 => hn H2 (e1.trans e2) _ fun H3 e3 => ⟨k, rfl, p, xs, rfl, sq_of (e3 p _ h2), fun r hr => by
    refine q r _ (fresh_back (e2.trans e3) hr) ((e2.trans e3).trans (Ex.new hr)) ?_
    rw [upd_same]
    unfold cutV
    rw [show HT.sIx xs.length xs.length (some (k : Int)) = min k xs.length from HT.sIx_nat xs.length xs.length k, HT.sIx_none, List.drop_zero, Nat.sub_zero, ← List.take_eq_take_min]⟩
/-- repr of a new list -/
theorem ev_reprL (h : EvLd te σ H ds) (sh : Sh (.list ds) 1000000 50) : Ev (tCB (rRepr K) (tCons te tNil)) σ H (.str (PyData.list ds).shown) := fun H1 e1 Q q =>
  h H1 e1 _ fun p xs H2 hp e2 h2 t2 => ⟨.ref p, .list ds, rfl, .lst (sq_of h2) (t2.dp (nd_smAll sh.1)), sh.1, sh.2.1, sh.2.2, q H2 e2⟩
/-- new list == new list -/
theorem ev_eqL (ha : EvLd ta σ H ds) (hb : EvLd tb σ H es) (sd : SeqAt.shaped (.list ds) = true) (se : SeqAt.shaped (.list es) = true) : Ev (tOp (rEqD K) ta tb) σ H (.bl (PyData.eqv (.list ds) (.list es))) := fun H1 e1 Q q =>
  ha H1 e1 _ fun p xs H2 hp e2 h2 t2 => hb H2 (e1.trans e2) _ fun p' ys H3 hp' e3 h3 t3 => ⟨.list ds, .list es, .lst (sq_of (e3 p _ h2)) ((t2.mono (Tk.ex e3)).dp (nd_shapedL sd)), .lst (sq_of h3) (t3.dp (nd_shapedL se)), sd, se, q H3 (e2.trans e3)⟩
/-- a != b of data -/
theorem ev_neD {e : PyData} (ha : EvD ta σ H d) (hb : EvD tb σ H e) (sd : SeqAt.shaped d = true) (se : SeqAt.shaped e = true) : Ev (tOp (rNeD K) ta tb) σ H (.bl (!PyData.eqv d e)) := fun H1 e1 Q q =>
  ha H1 e1 _ fun v H2 e2 t2 => hb H2 (e1.trans e2) _ fun v' H3 e3 t3 => ⟨d, e, (t2.mono (Tk.ex e3)).dp (nd_shaped sd), t3.dp (nd_shaped se), sd, se, q H3 (e2.trans e3)⟩
/-- [.. for x in a list by its name, if ..] -/
theorem eld_data {α : Type} {a : Addr} {xs : List V} {j : Nat} {vs : List Nat} (l : List α) (rep : α → PyData) (h : Ev tl σ H (.ref a)) (ha : H a = some (.lst xs)) (hx : TpAll H xs (l.map rep)) (few : l.length ≤ 50000) (f : α → Bool) (dd : α → PyData)
    (hw : ∀ x, wipe ((wipe σ vs).set j (some x)) vs = wipe σ vs) (ht : ∀ y ∈ l, ∀ v, Tp H v (rep y) → EvT t ((wipe σ vs).set j (some v)) H (f y)) (he : ∀ y ∈ l, ∀ v, Tp H v (rep y) → f y = true → EvD te ((wipe σ vs).set j (some v)) H (dd y)) :
    EvLd (tLc (iList K tl) (gName j) t te vs) σ H ((l.filter f).map dd) := fun H0 e0 Q q => h H0 e0 _ fun H1 e1 => by
  have e01 := e0.trans e1
  have lx : xs.length = l.length := by rw [hx.length, List.length_map]
  refine ⟨a, rfl, ⟨_, sq_of (e01 a _ ha)⟩, ?_⟩
  have gl := giv_list l f dd (fun i => match l[i]? with | some b => f b | none => false) (fun i => match l[i]? with | some b => dd b | none => .none) (fun i a e => by simp [e])
  refine lc_pure (walk_list (K := K) (a := a) (xs := xs)) (by omega) (fun i => match l[i]? with | some b => f b | none => false) (fun i => match l[i]? with | some b => dd b | none => .none) (fun H' e => sq_of (e a _ (e01 a _ ha))) ?_ ?_
  · rintro k x H2 _ hk e2 ⟨rfl, hxk⟩
    have hk' : k < l.length := by omega
    have hbk : l[k]? = some l[k] := List.getElem?_eq_getElem hk'
    obtain ⟨v, hv, tv⟩ := hx.get (i := k) (d := rep l[k]) (by rw [List.getElem?_map, hbk]; rfl)
    rw [hxk] at hv
    cases hv
    have hm : l[k] ∈ l := List.getElem_mem hk'
    refine ⟨Ex.refl _, _, fun R r => r, hw _, ?_, ?_⟩
    · simp only [hbk]
      exact (ht _ hm _ tv).mono (e01.trans e2)
    · simp only [hbk]
      exact fun hf => (he _ hm _ tv hf).mono (e01.trans e2)
  · intro p ys H2 hp e2 h2 t2
    refine q p ys H2 (fresh_back e1 hp) (e1.trans e2) h2 ?_
    rw [← gl, ← lx]
    exact t2
/-- a list by its name + a new list, of data -/
theorem eld_catV {p : Addr} {xs : List V} (ha : Ev ta σ H (.ref p)) (hp : H p = some (.lst xs)) (hx : TpAll H xs ds) (hb : EvLd tb σ H es) (hl : ds.length + es.length ≤ 100000) : EvLd (tOp rCat ta tb) σ H (ds ++ es) := fun H1 e Q q =>
  ha H1 e _ fun H2 e2 => hb H2 (e.trans e2) _ fun p' ys H3 hp' e3 h3 t3 => ⟨p, p', xs, ys, rfl, rfl, ((e.trans e2).trans e3) p _ hp, h3, sz_of (by rw [hx.length, t3.length]; exact hl), fun r hr => q r _ _ (fresh_back (e2.trans e3) hr) ((e2.trans e3).trans (Ex.new hr)) upd_same
    (((hx.mono (Tk.ex ((e.trans e2).trans e3))).append t3).mono (Tk.ex (Ex.new hr)))⟩
/-- new list + new list, of data -/
theorem eld_cat (ha : EvLd ta σ H ds) (hb : EvLd tb σ H es) (hl : ds.length + es.length ≤ 100000) : EvLd (tOp rCat ta tb) σ H (ds ++ es) := fun H1 e Q q =>
  ha H1 e _ fun p xs H2 hp e2 h2 t2 => hb H2 (e.trans e2) _ fun p' ys H3 hp' e3 h3 t3 => ⟨p, p', xs, ys, rfl, rfl, e3 p _ h2, h3, sz_of (by rw [t2.length, t3.length]; exact hl), fun r hr => q r _ _ (fresh_back (e2.trans e3) hr) ((e2.trans e3).trans (Ex.new hr)) upd_same
    (((t2.mono (Tk.ex e3)).append t3).mono (Tk.ex (Ex.new hr)))⟩
end
theorem ed_call2 {σ : L2.St} {H : Hp} {ta tb : TE} {sp : Sp} {E : XK} {v1 : V} {d d2 : PyData} (h1 : Ev ta σ H v1) (h2 : EvD tb σ H d2) (hs : ∀ v2 H1, Ex H H1 → Tp H1 v2 d2 → ∀ Q : VK, (∀ z H2, Ex H1 H2 → Tp H2 z d → Q z H2) → ∀ E : XK, sp [v1, v2] H1 Q E) : EvD (tCall sp [] E (tCons ta (tCons tb tNil))) σ H d := fun H1 e Q q =>
  h1 H1 e _ fun H2 e2 => h2 H2 (e.trans e2) _ fun v H3 e3 t3 => hs v H3 ((e.trans e2).trans e3) t3 Q (fun z H4 e4 t4 => q z H4 ((e2.trans e3).trans e4) t4) E
theorem q_asgLd {σ : L2.St} {H : Hp} {te : TE} {ds : List PyData} {D : Ends} {tz : TS} {i : Nat} (h : EvLd te σ H ds) (k : ∀ p xs H1, H p = none → Ex H H1 → H1 p = some (.lst xs) → TpAll H1 xs ds → tz D (σ.set i (some (.ref p))) H1) : tSeq (tAsg te (gName i)) tz D σ H := h H (Ex.refl H) _ k
theorem seq_asg {te : TE} {g : TG} {tz : TS} {D : Ends} {σ : L2.St} {H : Hp} : tSeq (tAsg te g) tz D σ H = te σ H fun x H1 => g x σ H1 (tz D) := rfl
theorem op_eq' {r : R2} {ta tb : TE} {σ : L2.St} {H : Hp} {Q : VK} : tOp r ta tb σ H Q = ta σ H fun x H1 => tb σ H1 fun y H2 => r x y H2 Q := rfl
/-- the pairs of a tuple of beds, for dict() -/
theorem beds_refs {K : PySem.W.Frag} {H : Hp} : ∀ {bs : List Bed} {xs : List V}, TpAll H xs (bs.map bedD) → ∃ ps : List Addr, xs = ps.map V.ref ∧ Paired (fun p kv => SqT K H p [kV kv.1, kv.2]) ps (dictOf bs)
  | [], _, h => by
    cases h
    exact ⟨[], rfl, .nil⟩
  | b :: bs, _, h => by
    cases h with
    | cons h1 h2 =>
      obtain ⟨a, rfl, ha⟩ := bed_inv h1
      obtain ⟨ps, rfl, pr⟩ := beds_refs (K := K) h2
      exact ⟨a :: ps, rfl, .cons (sr ha) pr⟩
/-! ### comprehensions that draw -/
theorem da_list {K : PySem.W.Frag} {D C : Addr} {ta : TA} {te : TE} {σ : L2.St} {H : Hp} {j : Nat} {vs : List Nat} {n : Nat} {Q : VK} (M st : Int) (Pd : PyData → Prop) (h : EvA ta σ H [.int n]) (few : n ≤ 50000) (hs : 0 ≤ st) (dk : Deck D C M H) (hw : ∀ x, wipe ((wipe σ vs).set j (some x)) vs = wipe σ vs)
    (he : ∀ (i : Nat) H', i < n → Kp D C H H' → Deck D C (M + st * i) H' → ∀ Q : VK, (∀ v d H2, Pd d → Tp H2 v d → Kp D C H' H2 → Deck D C (M + st * i + st) H2 → Q v H2) → te ((wipe σ vs).set j (some (.int (i : Int)))) H' Q)
    (q : ∀ p xs ds H', H p = none → Kp D C H H' → Deck D C (M + st * n) H' → H' p = some (.lst xs) → TpAll H' xs ds → ds.length = n → (∀ d ∈ ds, Pd d) → Q (.ref p) H') : tLc (iRng1 ta) (gName j) tYes te vs σ H Q :=
  h H (Ex.refl H) _ fun H1 e1 => ⟨(n : Int), rfl, by omega, by omega, fun N nN => by
    have dk1 := dk.ex e1
    obtain ⟨nD, nC⟩ := Kp.free dk1 nN
    have nH : H N = none := fresh_back e1 nN
    refine lc_range (lo := 0) (n := ((n : Int)).toNat) (fun i H' => Kp D C H H' ∧ Deck D C (M + st * i) H' ∧ ∃ xs ds, H' N = some (.lst xs) ∧ TpAll H' xs ds ∧ ds.length = i ∧ ∀ d ∈ ds, Pd d) ?_ ?_ ?_
    · exact ⟨(Kp.ex e1).mut nH, (dk1.mut nD nC).mono (by simp), [], [], upd_same, .nil, rfl, fun _ h => nomatch h⟩
    · rintro i H2 hi ⟨kp2, dk2, xs, ds, h2, t2, len, ok⟩
      refine ⟨hw _, ?_⟩
      dsimp only [tYes]
      rw [if_pos rfl, show (0 : Int) + (i : Int) = i by omega]
      refine he i H2 (by omega) kp2 dk2 _ fun v d H3 pd tv kp3 dk3 => ?_
      have h3 := kp3 N _ nD nC h2
      refine ⟨xs, h3, sz_lt (by rw [t2.length]; omega), (kp2.trans kp3).mut nH, (dk3.mut nD nC).mono (by rw [show ((i + 1 : Nat) : Int) = (i : Int) + 1 by omega, Int.mul_add]; omega), xs ++ [v], ds ++ [d], upd_same, ?_, by simp [len], fun e he' => ?_⟩
      · exact ((t2.mono (Kp.tk dk2 kp3)).append (.cons tv .nil)).mono (Tk.lst h3)
      · rcases List.mem_append.mp he' with z | z
        · exact ok e z
        · rw [List.mem_singleton.mp z]; exact pd
    · rintro H2 ⟨kp2, dk2, xs, ds, h2, t2, len, ok⟩
      rw [show ((n : Int)).toNat = n by omega] at dk2 len
      exact q N xs ds H2 nH kp2 dk2 h2 t2 len ok⟩
theorem all_trips {P : List Bed → Prop} : ∀ {ds : List PyData}, (∀ d ∈ ds, ∃ rs, d = bedsD rs ∧ P rs) → ∃ trs : List (List Bed), ds = trs.map bedsD ∧ ∀ rs ∈ trs, P rs
  | [], _ => ⟨[], rfl, fun _ h => nomatch h⟩
  | d :: ds, h => by
    obtain ⟨rs, rfl, hp⟩ := h d (List.mem_cons_self ..)
    obtain ⟨trs, rfl, ht⟩ := all_trips (P := P) (ds := ds) fun e he => h e (List.mem_cons_of_mem _ he)
    exact ⟨rs :: trs, rfl, fun x hx => by
      rcases List.mem_cons.mp hx with z | z
      · rw [z]; exact hp
      · exact ht x z⟩
theorem Tk.dict {H : Hp} {W : Addr} {kvs : List (Key × V)} {o : HO} (h : H W = some (.dK kvs)) : Tk H (upd H W o) := ⟨fun a zs e => rd_upd e (by
  rcases e with e | ⟨z, e⟩
  · exact ne_of e h (by intro z; cases z)
  · exact ne_of e h (by intro z; cases z)), fun a z u e => by rw [upd_ne (ne_of e h (by intro z; cases z))]; exact e⟩
theorem GAt.dict {H : Hp} {v : V} {t c : Int} {bs : List Bed} {W : Addr} {kvs : List (Key × V)} {o : HO} (h : GAt H v t c bs) (hW : H W = some (.dK kvs)) : GAt (upd H W o) v t c bs := by
  obtain ⟨g, b, xs, ob, rfl, hg, hb, hd, hx⟩ := h
  have tk : Tk H (upd H W o) := Tk.dict hW
  exact ⟨g, b, xs, ob, rfl, tk.1 _ _ hg, by rw [upd_ne (ne_of hb hW (by intro z; cases z))]; exact hb, hd, hx.mono tk⟩
structure TrOk (rs : List Bed) : Prop where
  asc : Asc (rs.map (·.1))
  len : rs.length ≤ 40
  p0 : ∀ r ∈ rs, -1000000 ≤ r.1
  p1 : ∀ r ∈ rs, r.1 ≤ 1000000
  l0 : ∀ r ∈ rs, 1 ≤ r.2
  l1 : ∀ r ∈ rs, r.2 ≤ 10000000000
theorem TrOk.sh {rs : List Bed} (h : TrOk rs) : Sh (bedsD rs) 9000 2 := by
  have big : (10 : Int) ^ 39 = 1000000000000000000000000000000000000000 := by decide
  refine sh_tup (k := 207) (n := 1) (fun d hd => ?_) (by rw [List.length_map]; have := h.len; omega)
  obtain ⟨b, m, rfl⟩ := List.mem_map.mp hd
  have := h.p0 b m
  have := h.p1 b m
  have := h.l0 b m
  have := h.l1 b m
  exact sh_bed (by omega) (by omega) (by omega) (by omega)
theorem eqv_tup0 (rs : List Bed) : PyData.eqv (bedsD rs) (.tuple []) = rs.isEmpty := by
  cases rs with
  | nil => simp [bedsD, PyData.eqv, PyData.eqvAll]
  | cons d r => simp [bedsD, PyData.eqv, PyData.eqvAll]
/-! ### the way of a trip -/
def wstep (t : Int) (a : Int × Int) (r : Bed) : Int × Int := if r.1 < t then (max a.1 (t - r.1), a.2) else (a.1, max a.2 (r.1 - t))
def wayOf (t : Int) (rs : List Bed) : Int := 2 * (rs.foldl (wstep t) (0, 0)).1 + 2 * (rs.foldl (wstep t) (0, 0)).2
theorem wfold_asc {t : Int} : ∀ {rs : List Bed} {a b : Int} {r0 r1 : Bed}, 0 ≤ a → 0 ≤ b → Asc (rs.map (·.1)) → rs.head? = some r0 → rs.getLast? = some r1 → rs.foldl (wstep t) (a, b) = (max a (max 0 (t - r0.1)), max b (max 0 (r1.1 - t)))
  | [], _, _, _, _, _, _, _, h, _ => by simp at h
  | [r], a, b, r0, r1, ha, hb, _, h0, h1 => by
    simp at h0 h1
    subst h0 h1
    simp only [List.foldl_cons, List.foldl_nil, wstep]
    split
    · congr 1 <;> omega
    · congr 1 <;> omega
  | r :: s :: rs, a, b, r0, r1, ha, hb, asc, h0, h1 => by
    simp at h0
    subst h0
    have asc' := List.pairwise_cons.mp (show Asc (r.1 :: (s :: rs).map (·.1)) from asc)
    have hs : r.1 < s.1 := asc'.1 _ (by simp)
    have h1' : (s :: rs).getLast? = some r1 := by rw [List.getLast?_cons_cons] at h1; exact h1
    have hr1 : r.1 < r1.1 := asc'.1 _ (List.mem_map_of_mem (List.mem_of_getLast? h1'))
    rw [List.foldl_cons]
    by_cases c : r.1 < t
    · have e : wstep t (a, b) r = (max a (t - r.1), b) := by simp [wstep, c]
      rw [e, wfold_asc (t := t) (rs := s :: rs) (a := max a (t - r.1)) (b := b) (r0 := s) (by omega) hb asc'.2 rfl h1']
      congr 1 <;> omega
    · have e : wstep t (a, b) r = (a, max b (r.1 - t)) := by simp [wstep, c]
      rw [e, wfold_asc (t := t) (rs := s :: rs) (a := a) (b := max b (r.1 - t)) (r0 := s) ha (by omega) asc'.2 rfl h1']
      congr 1 <;> omega
theorem way_ends {t : Int} {rs : List Bed} {r0 r1 : Bed} (asc : Asc (rs.map (·.1))) (h0 : rs.head? = some r0) (h1 : rs.getLast? = some r1) : wayOf t rs = 2 * (max 0 (t - r0.1) + max 0 (r1.1 - t)) := by
  unfold wayOf
  rw [wfold_asc (Int.le_refl 0) (Int.le_refl 0) asc h0 h1]
  simp only
  omega
end Cn

namespace Cb
open PySem PySem.Spec PyProof.Rows L2 Evl Cn
theorem cons_eq {ta : TE} {tr : TA} {σ : L2.St} {H : Hp} {Q : List V → Hp → Prop} : tCons ta tr σ H Q = ta σ H fun x H1 => tr σ H1 fun xs H2 => Q (x :: xs) H2 := rfl
theorem c_eq {v : V} {σ : L2.St} {H : Hp} {Q : VK} : tC v σ H Q = Q v H := rfl
/-! ### any state that numbers are drawn from: M its own objects -/
def Kp (M : Addr → Prop) (H H' : Hp) : Prop := ∀ a o, ¬ M a → H a = some o → H' a = some o
section
variable {M : Addr → Prop} {H H1 H2 : Hp}
theorem Kp.refl : Kp M H H := fun _ _ _ h => h
theorem Kp.trans (a : Kp M H H1) (b : Kp M H1 H2) : Kp M H H2 := fun p o n h => b p o n (a p o n h)
theorem Kp.ex (e : Ex H H1) : Kp M H H1 := fun p o _ h => e p o h
theorem Kp.set {p : Addr} {o : HO} (h : M p) : Kp M H (upd H p o) := fun a u n e => by
  rw [upd_ne (fun z => n (by rw [z]; exact h))]
  exact e
theorem Kp.mut {p : Addr} {o : HO} (k : Kp M H H1) (h : H p = none) : Kp M H (upd H1 p o) := fun a u n e => by
  rw [upd_ne (ne_of_none e h)]
  exact k a u n e
theorem Kp.back (k : Kp M H H1) {p : Addr} (n : ¬ M p) (h : H1 p = none) : H p = none := by
  cases e : H p with
  | none => rfl
  | some o => rw [k p o n e] at h; cases h
end
structure Drw (M : Addr → Prop) (Dk : Int → Hp → Prop) : Prop where
  ex : ∀ {m H H1}, Ex H H1 → Dk m H → Dk m H1
  mono : ∀ {m m' H}, m ≤ m' → Dk m H → Dk m' H
  put : ∀ {m H p o}, ¬ M p → Dk m H → Dk m (upd H p o)
  lst : ∀ {m H a}, M a → Dk m H → ∃ xs, H a = some (.lst xs)
section
variable {M : Addr → Prop} {Dk : Int → Hp → Prop} {m : Int} {H H1 : Hp}
theorem Drw.free (w : Drw M Dk) (d : Dk m H) {p : Addr} (hp : H p = none) : ¬ M p := fun z => by
  obtain ⟨xs, h⟩ := w.lst z d
  rw [h] at hp
  cases hp
theorem Drw.tk (w : Drw M Dk) (d : Dk m H) (k : Kp M H H1) : Tk H H1 := by
  refine ⟨fun a xs h => ?_, fun a o u h => k a _ (fun z => by
    obtain ⟨ys, h'⟩ := w.lst z d
    exact ne_of h h' (by intro z; cases z) rfl) h⟩
  have n : ¬ M a := fun z => by
    obtain ⟨ys, h'⟩ := w.lst z d
    exact rd_ne h h' rfl
  rcases h with h | ⟨z, h⟩
  · exact .inl (k a _ n h)
  · exact .inr ⟨z, k a _ n h⟩
theorem Drw.gat (w : Drw M Dk) (d : Dk m H) (k : Kp M H H1) {v : V} {t c : Int} {bs : List Bed} (h : GAt H v t c bs) : GAt H1 v t c bs := by
  obtain ⟨g, b, xs, o, rfl, hg, hb, hd, hx⟩ := h
  have tk := w.tk d k
  refine ⟨g, b, xs, o, rfl, tk.1 _ _ hg, k b _ (fun z => ?_) hb, hd, hx.mono tk⟩
  obtain ⟨ys, h'⟩ := w.lst z d
  rw [hb] at h'
  cases h'
end
/-! ### evaluation that draws -/
def DrJ (M : Addr → Prop) (Dk : Int → Hp → Prop) (J : Hp → Prop) (te : TE) (σ : L2.St) (m m' : Int) (R : Int → Prop) : Prop := ∀ H1, Dk m H1 → J H1 → ∀ Q : VK, (∀ i H2, Kp M H1 H2 → Dk m' H2 → J H2 → R i → Q (.int i) H2) → te σ H1 Q
def DrK (M : Addr → Prop) (Dk : Int → Hp → Prop) (J : Hp → Prop) (ta : TA) (σ : L2.St) (m m' : Int) (n : Nat) (R : Int → Prop) : Prop := ∀ H1, Dk m H1 → J H1 → ∀ Q : List V → Hp → Prop, (∀ (is : List Int) H2, Kp M H1 H2 → Dk m' H2 → J H2 → is.length = n → (∀ i ∈ is, R i) → Q (is.map V.int) H2) → ta σ H1 Q
def Sta (M : Addr → Prop) (J : Hp → Prop) : Prop := ∀ H H', J H → Kp M H H' → J H'
theorem sta_true {M : Addr → Prop} : Sta M (fun _ => True) := fun _ _ _ _ => trivial
section
variable {M : Addr → Prop} {Dk : Int → Hp → Prop} {K : PySem.W.Frag} {J : Hp → Prop} {σ : L2.St} {m m1 m2 : Int} {R R1 R2 : Int → Prop} {ta tb te : TE} {n : Nat}
theorem dj_pure {i : Int} (w : Drw M Dk) (st : Sta M J) (h : ∀ H, J H → Ev te σ H (.int i)) (r : R i) : DrJ M Dk J te σ m m R := fun H1 d j Q q => h H1 j H1 (Ex.refl H1) Q fun H2 e2 => q i H2 (Kp.ex e2) (w.ex e2 d) (st _ _ j (Kp.ex e2)) r
theorem dj_imp (h : DrJ M Dk J te σ m m1 R1) (k : ∀ i, R1 i → R i) : DrJ M Dk J te σ m m1 R := fun H1 d j Q q => h H1 d j Q fun i H2 k2 d2 j2 r => q i H2 k2 d2 j2 (k i r)
theorem dj_op {f : Int → Int → Int} (ha : DrJ M Dk J ta σ m m1 R1) (hb : DrJ M Dk J tb σ m1 m2 R2) (k : ∀ i j, R1 i → R2 j → R (f i j)) : DrJ M Dk J (tOp (rI0 fun i j => .int (f i j)) ta tb) σ m m2 R := fun H1 d j Q q =>
  ha H1 d j _ fun i H2 kp2 d2 j2 r1 => hb H2 d2 j2 _ fun i' H3 kp3 d3 j3 r2 => ⟨i, i', rfl, rfl, q _ H3 (kp2.trans kp3) d3 j3 (k i i' r1 r2)⟩
theorem dk_nil : DrK M Dk J tNil σ m m 0 R := fun H1 d j Q q => q [] H1 Kp.refl d j rfl (fun _ h => nomatch h)
theorem dk_cons {tr : TA} (ha : DrJ M Dk J ta σ m m1 R) (hr : DrK M Dk J tr σ m1 m2 n R) : DrK M Dk J (tCons ta tr) σ m m2 (n + 1) R := fun H1 d j Q q =>
  ha H1 d j _ fun i H2 kp2 d2 j2 r1 => hr H2 d2 j2 _ fun is H3 kp3 d3 j3 len rs => q (i :: is) H3 (kp2.trans kp3) d3 j3 (by simp [len]) (fun k hk => by
    rcases List.mem_cons.mp hk with e | e
    · rw [e]; exact r1
    · exact rs k e)
theorem dj_pick {tr : TA} (w : Drw M Dk) (st : Sta M J) (hr : DrK M Dk J tr σ m m1 n R) (hi : DrJ M Dk J te σ m1 m2 (fun r => 0 ≤ r ∧ r < (n : Int))) (few : n ≤ 100000) : DrJ M Dk J (tOp (rIxL K) (tLst tr) te) σ m m2 R := fun H1 d j0 Q q =>
  hr H1 d j0 _ fun is H2 kp2 d2 j2 len rs => ⟨sz_of (by rw [List.length_map, len]; exact few), fun p np => by
    have eN := Ex.new (o := .lst (is.map V.int)) np
    have nM := w.free d2 np
    refine hi _ (w.ex eN d2) (st _ _ j2 (Kp.ex eN)) _ fun r H3 kp3 d3 j3 r01 => ?_
    obtain ⟨j, rfl⟩ : ∃ j : Nat, r = j := ⟨r.toNat, by omega⟩
    have jl : j < is.length := by omega
    have at3 : H3 p = some (.lst (is.map V.int)) := kp3 p _ nM upd_same
    exact ⟨p, _, (j : Int), .int is[j], rfl, rfl, sq_of at3, atI_nat (by rw [List.getElem?_map, List.getElem?_eq_getElem jl]; rfl), q _ H3 ((kp2.trans (Kp.ex eN)).trans kp3) d3 j3 (rs _ (List.getElem_mem jl))⟩⟩
/-- [a, b, c][j], j known -/
theorem dj_pick3 {m3 : Int} {tc : TE} {R0 R1 R2 : Int → Prop} {j : Nat} (w : Drw M Dk) (st : Sta M J) (h0 : DrJ M Dk J ta σ m m1 R0) (h1 : DrJ M Dk J tb σ m1 m2 R1) (h2 : DrJ M Dk J tc σ m2 m3 R2) (hi : ∀ H, J H → Ev te σ H (.int j)) (hj : j < 3) :
    DrJ M Dk J (tOp (rIxL K) (tLst (tCons ta (tCons tb (tCons tc tNil)))) te) σ m m3 (fun z => (j = 0 → R0 z) ∧ (j = 1 → R1 z) ∧ (j = 2 → R2 z)) := fun H1 d j0 Q q =>
  h0 H1 d j0 _ fun a H2 kp2 d2 j2 ra => h1 H2 d2 j2 _ fun b H3 kp3 d3 j3 rb => h2 H3 d3 j3 _ fun c H4 kp4 d4 j4 rc => ⟨sz_of (by simp), fun p np => by
    have eN := Ex.new (o := .lst [.int a, .int b, .int c]) np
    have d5 := w.ex eN d4
    have j5 := st _ _ j4 (Kp.ex eN)
    have k5 : Kp M H1 (upd H4 p (.lst [.int a, .int b, .int c])) := ((kp2.trans kp3).trans kp4).trans (Kp.ex eN)
    refine hi _ j5 _ (Ex.refl _) _ fun H6 e6 => ?_
    have at6 : H6 p = some (.lst [.int a, .int b, .int c]) := e6 p _ upd_same
    have fin : ∀ z : Int, ([V.int a, V.int b, V.int c])[j]? = some (.int z) → ((j = 0 → R0 z) ∧ (j = 1 → R1 z) ∧ (j = 2 → R2 z)) → rIxL K (.ref p) (.int j) H6 Q := fun z hz hr =>
      ⟨p, _, (j : Int), .int z, rfl, rfl, sq_of at6, atI_nat hz, q z H6 (k5.trans (Kp.ex e6)) (w.ex e6 d5) (st _ _ j5 (Kp.ex e6)) hr⟩
    match j, hj with
    | 0, _ => exact fin a rfl ⟨fun _ => ra, fun h => by omega, fun h => by omega⟩
    | 1, _ => exact fin b rfl ⟨fun h => by omega, fun _ => rb, fun h => by omega⟩
    | 2, _ => exact fin c rfl ⟨fun h => by omega, fun h => by omega, fun _ => rc⟩⟩
/-- [.. for k in range(n)], each turn draws and gives data -/
theorem da_list {ta : TA} {H : Hp} {j : Nat} {vs : List Nat} {Q : VK} (w : Drw M Dk) (B st : Int) (Pd : PyData → Prop) (h : EvA ta σ H [.int n]) (few : n ≤ 50000) (hs : 0 ≤ st) (dk : Dk B H) (hw : ∀ x, wipe ((wipe σ vs).set j (some x)) vs = wipe σ vs)
    (he : ∀ (i : Nat) H', i < n → Kp M H H' → Dk (B + st * i) H' → ∀ Q : VK, (∀ v d H2, Pd d → Tp H2 v d → Kp M H' H2 → Dk (B + st * i + st) H2 → Q v H2) → te ((wipe σ vs).set j (some (.int (i : Int)))) H' Q)
    (q : ∀ p xs ds H', H p = none → Kp M H H' → Dk (B + st * n) H' → H' p = some (.lst xs) → TpAll H' xs ds → ds.length = n → (∀ d ∈ ds, Pd d) → Q (.ref p) H') : tLc (iRng1 ta) (gName j) tYes te vs σ H Q :=
  h H (Ex.refl H) _ fun H1 e1 => ⟨(n : Int), rfl, by omega, by omega, fun N nN => by
    have dk1 := w.ex e1 dk
    have nM := w.free dk1 nN
    have nH : H N = none := fresh_back e1 nN
    refine lc_range (lo := 0) (n := ((n : Int)).toNat) (fun i H' => Kp M H H' ∧ Dk (B + st * i) H' ∧ ∃ xs ds, H' N = some (.lst xs) ∧ TpAll H' xs ds ∧ ds.length = i ∧ ∀ d ∈ ds, Pd d) ?_ ?_ ?_
    · exact ⟨(Kp.ex e1).mut nH, w.mono (by simp) (w.put nM dk1), [], [], upd_same, .nil, rfl, fun _ h => nomatch h⟩
    · rintro i H2 hi ⟨kp2, dk2, xs, ds, h2, t2, len, ok⟩
      refine ⟨hw _, ?_⟩
      dsimp only [tYes]
      rw [if_pos rfl, show (0 : Int) + (i : Int) = i by omega]
      refine he i H2 (by omega) kp2 dk2 _ fun v d H3 pd tv kp3 dk3 => ?_
      have h3 := kp3 N _ nM h2
      refine ⟨xs, h3, sz_lt (by rw [t2.length]; omega), (kp2.trans kp3).mut nH, w.mono (by rw [show ((i + 1 : Nat) : Int) = (i : Int) + 1 by omega, Int.mul_add]; omega) (w.put nM dk3), xs ++ [v], ds ++ [d], upd_same, ?_, by simp [len], fun e he' => ?_⟩
      · exact ((t2.mono (w.tk dk2 kp3)).append (.cons tv .nil)).mono (Tk.lst h3)
      · rcases List.mem_append.mp he' with z | z
        · exact ok e z
        · rw [List.mem_singleton.mp z]; exact pd
    · rintro H2 ⟨kp2, dk2, xs, ds, h2, t2, len, ok⟩
      rw [show ((n : Int)).toNat = n by omega] at dk2 len
      exact q N xs ds H2 nH kp2 dk2 h2 t2 len ok⟩
end
/-! ### the state of _law_draws: cells, count, rests -/
structure StN (S C R : Addr) (n : Int) (cs rs : List Int) (H : Hp) : Prop where
  hS : H S = some (.lst [.ref C, .int n, .ref R])
  hC : H C = some (.lst (cs.map V.int))
  hR : H R = some (.lst (rs.map V.int))
def MS (S C R : Addr) (a : Addr) : Prop := a = S ∨ a = C ∨ a = R
def SD (S C R : Addr) (m : Int) (H : Hp) : Prop := ∃ n cs rs, StN S C R n cs rs H ∧ S ≠ C ∧ S ≠ R ∧ C ≠ R ∧ 0 ≤ n ∧ n ≤ m ∧ cs.length = rs.length ∧ 1 ≤ cs.length ∧ cs.length ≤ 63 ∧ (∀ x ∈ cs, 0 ≤ x) ∧ ∀ x ∈ rs, 0 ≤ x
theorem StN.ex {S C R : Addr} {n : Int} {cs rs : List Int} {H H1 : Hp} (e : Ex H H1) (d : StN S C R n cs rs H) : StN S C R n cs rs H1 := ⟨e _ _ d.hS, e _ _ d.hC, e _ _ d.hR⟩
theorem drw {S C R : Addr} : Drw (MS S C R) (SD S C R) where
  ex := fun e ⟨n, cs, rs, d, r⟩ => ⟨n, cs, rs, d.ex e, r⟩
  mono := fun h ⟨n, cs, rs, d, a, b, c, n0, nm, r⟩ => ⟨n, cs, rs, d, a, b, c, n0, by omega, r⟩
  put := fun {m H p o} np ⟨n, cs, rs, d, r⟩ => ⟨n, cs, rs, ⟨by rw [upd_ne (fun z => np (.inl z.symm))]; exact d.hS, by rw [upd_ne (fun z => np (.inr (.inl z.symm)))]; exact d.hC, by rw [upd_ne (fun z => np (.inr (.inr z.symm)))]; exact d.hR⟩, r⟩
  lst := fun {m H a} ma ⟨n, cs, rs, d, r⟩ => by
    rcases ma with rfl | rfl | rfl
    · exact ⟨_, d.hS⟩
    · exact ⟨_, d.hC⟩
    · exact ⟨_, d.hR⟩
/-- _law_next -/
def spNext : Sp := fun vs H Q _ => ∃ S C R m k, vs = [.ref S, .int k] ∧ SD S C R m H ∧ m ≤ 10000000 ∧ 1 ≤ k ∧ k ≤ 1000000001 ∧ ∀ r H', 0 ≤ r → r < k → Kp (MS S C R) H H' → SD S C R (m + 1) H' → Q (.int r) H'
/-- _law_draws -/
def spDraws (K : PySem.W.Frag) : Sp := fun vs H Q _ => ∃ (a : Addr) (ns : List Int), vs = [.ref a] ∧ SqL K H a (ns.map V.int) ∧ ns.length ≤ 63 ∧ ∀ S C R H', Ex H H' → SD S C R 0 H' → Q (.ref S) H'
/-- _law_one -/
def spOne : Sp := fun vs H Q _ => ∃ S C R m L xs, vs = [.ref S, .ref L] ∧ SD S C R m H ∧ m ≤ 9500000 ∧ H L = some (.lst xs) ∧ ¬ MS S C R L ∧ 1 ≤ xs.length ∧ xs.length ≤ 1000 ∧ ∀ v H', v ∈ xs → Kp (MS S C R) H H' → SD S C R (m + 1) H' → Q v H'
theorem dj_next {S C R : Addr} {J : Hp → Prop} {σ : L2.St} {m m1 : Int} {tk : TE} {E : XK} {k : Int} (st : Sta (MS S C R) J) (h0 : σ[0]? = some (some (.ref S))) (hk : ∀ H, J H → Ev tk σ H (.int k)) (mb : m ≤ 10000000) (k1 : 1 ≤ k) (k2 : k ≤ 1000000001) (hm : m1 = m + 1 := by omega) : DrJ (MS S C R) (SD S C R) J (tCall spNext [] E (tCons (tVar 0) (tCons tk tNil))) σ m m1 (fun r => 0 ≤ r ∧ r < k) := hm ▸ fun H1 d j Q q =>
  ⟨.ref S, h0, hk H1 j H1 (Ex.refl H1) _ fun H2 e2 => ⟨S, C, R, m, k, rfl, drw.ex e2 d, mb, k1, k2, fun r H3 r0 r1 kp d3 => q r H3 ((Kp.ex e2).trans kp) d3 (st _ _ j ((Kp.ex e2).trans kp)) ⟨r0, r1⟩⟩⟩
/-- _law_garden of this kind -/
structure G2 (most : Int) (t c : Int) (bs : List Bed) : Prop where
  t0 : -1000000 ≤ t
  t1 : t ≤ 1000000
  c0 : 1 ≤ c
  c1 : c ≤ 1000000
  asc : Asc (bs.map (·.1))
  p0 : ∀ b ∈ bs, -1000000 ≤ b.1
  p1 : ∀ b ∈ bs, b.1 ≤ 1000000
  l0 : ∀ b ∈ bs, 1 ≤ b.2
  l1 : ∀ b ∈ bs, b.2 ≤ 1000000000
  few : (bs.length : Int) ≤ most
def spGarden2 : Sp := fun vs H Q _ => ∃ S C R m most way, vs = [.ref S, .int most, .int way] ∧ SD S C R m H ∧ m ≤ 9000000 ∧ 1 ≤ most ∧ most ≤ 12 ∧ 0 ≤ way ∧
  ∀ v t c bs H', G2 most t c bs → (way % 3 ≠ 2 → ∀ b ∈ bs, b.2 ≤ 27) → GAt H' v t c bs → Kp (MS S C R) H H' → SD S C R (m + 100) H' → Q v H'
end Cb

namespace Wp
open PySem PySem.Spec PyProof.Rows L2 Evl
/-! ### data: what never changes -/
def keyD : Key → PyData
  | .inl i => .int i
  | .inr x => .str x
mutual
inductive Dt (H : Hp) : V → PyData → Prop
  | non : Dt H .non .none
  | bl (b : Bool) : Dt H (.bl b) (.bool b)
  | int (i : Int) : Dt H (.int i) (.int i)
  | str (x : Str) : Dt H (.str x) (.str x)
  | tup {a : Addr} {o : Obj} {xs : List V} {ds : List PyData} : H a = some (.frz o (.tup xs)) → o.dict = none → DtAll H xs ds → Dt H (.ref a) (.tuple ds)
  | lst {a : Addr} {o : Obj} {xs : List V} {ds : List PyData} : H a = some (.frz o (.lst xs)) → DtAll H xs ds → Dt H (.ref a) (.list ds)
  | dic {a : Addr} {o : Obj} {kvs : List (Key × V)} {vs : List V} {ds : List PyData} : H a = some (.frz o (.dK kvs)) → vs = kvs.map (·.2) → DtAll H vs ds → Dt H (.ref a) (.dict ((kvs.map fun p => keyD p.1).zip ds))
inductive DtAll (H : Hp) : List V → List PyData → Prop
  | nil : DtAll H [] []
  | cons {v : V} {vs : List V} {d : PyData} {ds : List PyData} : Dt H v d → DtAll H vs ds → DtAll H (v :: vs) (d :: ds)
end
/-- what is locked stays -/
def Fk (H H' : Hp) : Prop := ∀ a o u, H a = some (.frz o u) → H' a = some (.frz o u)
theorem Fk.ex {H H' : Hp} (e : Ex H H') : Fk H H' := fun a _ _ h => e a _ h
theorem Fk.trans {H H1 H2 : Hp} (a : Fk H H1) (b : Fk H1 H2) : Fk H H2 := fun p o u h => b p o u (a p o u h)
mutual
theorem Dt.mono {H H' : Hp} (k : Fk H H') : ∀ {d : PyData} {v : V}, Dt H v d → Dt H' v d
  | _, _, .non => .non
  | _, _, .bl b => .bl b
  | _, _, .int i => .int i
  | _, _, .str x => .str x
  | _, _, .tup h n a => .tup (k _ _ _ h) n (DtAll.mono k a)
  | _, _, .lst h a => .lst (k _ _ _ h) (DtAll.mono k a)
  | _, _, .dic h e a => .dic (k _ _ _ h) e (DtAll.mono k a)
theorem DtAll.mono {H H' : Hp} (k : Fk H H') : ∀ {ds : List PyData} {vs : List V}, DtAll H vs ds → DtAll H' vs ds
  | _, _, .nil => .nil
  | _, _, .cons a b => .cons (Dt.mono k a) (DtAll.mono k b)
end
section
variable {H H' : Hp}
theorem Dt.tup_inv {v : V} {ds : List PyData} (h : Dt H v (.tuple ds)) : ∃ a o xs, v = .ref a ∧ H a = some (.frz o (.tup xs)) ∧ o.dict = none ∧ DtAll H xs ds := by
  cases h with
  | tup a n b => exact ⟨_, _, _, rfl, a, n, b⟩
theorem Dt.lst_inv {v : V} {ds : List PyData} (h : Dt H v (.list ds)) : ∃ a o xs, v = .ref a ∧ H a = some (.frz o (.lst xs)) ∧ DtAll H xs ds := by
  cases h with
  | lst a b => exact ⟨_, _, _, rfl, a, b⟩
theorem DtAll.length : ∀ {xs : List V} {ds : List PyData}, DtAll H xs ds → xs.length = ds.length
  | _, _, .nil => rfl
  | _, _, .cons _ b => by simp [b.length]
theorem DtAll.get : ∀ {xs : List V} {ds : List PyData} {i : Nat} {v : V}, DtAll H xs ds → xs[i]? = some v → ∃ d, ds[i]? = some d ∧ Dt H v d
  | _, _, _, _, .nil, e => by simp at e
  | _, _, 0, _, .cons a _, e => by simp at e; subst e; exact ⟨_, rfl, a⟩
  | _, _, i + 1, _, .cons _ b, e => by
    obtain ⟨v, h1, h2⟩ := b.get (i := i) (by simpa using e)
    exact ⟨v, by simpa using h1, h2⟩
theorem DtAll.getD : ∀ {xs : List V} {ds : List PyData} {i : Nat} {d : PyData}, DtAll H xs ds → ds[i]? = some d → ∃ v, xs[i]? = some v ∧ Dt H v d
  | _, _, _, _, .nil, e => by simp at e
  | _, _, 0, _, .cons a _, e => by simp at e; subst e; exact ⟨_, rfl, a⟩
  | _, _, i + 1, _, .cons _ b, e => by
    obtain ⟨v, h1, h2⟩ := b.getD (i := i) (by simpa using e)
    exact ⟨v, by simpa using h1, h2⟩
theorem DtAll.append : ∀ {xs ys : List V} {ds es : List PyData}, DtAll H xs ds → DtAll H ys es → DtAll H (xs ++ ys) (ds ++ es)
  | _, _, _, _, .nil, b => b
  | _, _, _, _, .cons a r, b => .cons a (r.append b)
theorem DtAll.take : ∀ {xs : List V} {ds : List PyData} (n : Nat), DtAll H xs ds → DtAll H (xs.take n) (ds.take n)
  | _, _, 0, _ => .nil
  | _, _, _ + 1, .nil => .nil
  | _, _, n + 1, .cons a b => .cons a (b.take n)
theorem DtAll.drop : ∀ {xs : List V} {ds : List PyData} (n : Nat), DtAll H xs ds → DtAll H (xs.drop n) (ds.drop n)
  | _, _, 0, h => h
  | _, _, _ + 1, .nil => .nil
  | _, _, n + 1, .cons _ b => b.drop n
theorem DtAll.reverse : ∀ {xs : List V} {ds : List PyData}, DtAll H xs ds → DtAll H xs.reverse ds.reverse
  | _, _, .nil => .nil
  | _, _, .cons a b => by
    rw [List.reverse_cons, List.reverse_cons]
    exact (DtAll.reverse b).append (.cons a .nil)
theorem DtAll.ints : ∀ ns : List Int, DtAll H (ns.map V.int) (ns.map PyData.int)
  | [] => .nil
  | n :: ns => .cons (.int n) (DtAll.ints ns)
theorem DtAll.ints_inv : ∀ {ns : List Int} {xs : List V}, DtAll H xs (ns.map PyData.int) → xs = ns.map V.int
  | [], _, h => by cases h; rfl
  | n :: ns, _, h => by
    cases h with
    | cons a b => cases a; rw [List.map_cons, b.ints_inv]
theorem DtAll.mem : ∀ {xs : List V} {ds : List PyData} {v : V}, DtAll H xs ds → v ∈ xs → ∃ d ∈ ds, Dt H v d
  | _, _, _, .nil, e => nomatch e
  | _, _, _, .cons a b, e => by
    rcases List.mem_cons.mp e with rfl | e
    · exact ⟨_, List.mem_cons_self .., a⟩
    · obtain ⟨d, h1, h2⟩ := b.mem e
      exact ⟨d, List.mem_cons_of_mem _ h1, h2⟩
end
/-! ### the state that numbers are drawn from -/
def Kp (M : Addr → Prop) (H H' : Hp) : Prop := ∀ a o, ¬ M a → H a = some o → H' a = some o
section
variable {M : Addr → Prop} {H H1 H2 : Hp}
theorem Kp.refl : Kp M H H := fun _ _ _ h => h
theorem Kp.trans (a : Kp M H H1) (b : Kp M H1 H2) : Kp M H H2 := fun p o n h => b p o n (a p o n h)
theorem Kp.ex (e : Ex H H1) : Kp M H H1 := fun p o _ h => e p o h
theorem Kp.mut {p : Addr} {o : HO} (k : Kp M H H1) (h : H p = none) : Kp M H (upd H1 p o) := fun a u n e => by
  rw [upd_ne (ne_of_none e h)]
  exact k a u n e
theorem Kp.back (k : Kp M H H1) {p : Addr} (n : ¬ M p) (h : H1 p = none) : H p = none := by
  cases e : H p with
  | none => rfl
  | some o => rw [k p o n e] at h; cases h
end
/-- the states that the laws draw from: 1, a deck; 2, cells, count and rests -/
def IsK : Nat → Addr → (Addr → Prop) → (Nat → Hp → Prop) → Prop
  | 1, r, M, Dk => ∃ C, (∀ a, M a ↔ (a = r ∨ a = C)) ∧ ∀ m H, Dk m H ↔ Cn.Deck r C m H
  | 2, r, M, Dk => ∃ C R, (∀ a, M a ↔ Cb.MS r C R a) ∧ ∀ m H, Dk m H ↔ Cb.SD r C R m H
  | _, _, _, _ => True
structure Wld where
  M : Addr → Prop
  root : Addr
  Dk : Nat → Hp → Prop
  kd : Nat
  isK : IsK kd root M Dk
  ex : ∀ {m : Nat} {H H1 : Hp}, Ex H H1 → Dk m H → Dk m H1
  put : ∀ {m : Nat} {H : Hp} {p : Addr} {o : HO}, ¬ M p → Dk m H → Dk m (upd H p o)
  lst : ∀ {m : Nat} {H : Hp} {a : Addr}, M a → Dk m H → ∃ xs, H a = some (.lst xs)
section
variable {W : Wld} {m : Nat} {H H1 : Hp}
theorem Wld.free (d : W.Dk m H) {p : Addr} (hp : H p = none) : ¬ W.M p := fun z => by
  obtain ⟨xs, h⟩ := W.lst z d
  rw [h] at hp
  cases hp
theorem Wld.frz (d : W.Dk m H) {p : Addr} {o : Obj} {u : HO} (hp : H p = some (.frz o u)) : ¬ W.M p := fun z => by
  obtain ⟨xs, h⟩ := W.lst z d
  rw [h] at hp
  cases hp
theorem Wld.fk (d : W.Dk m H) (k : Kp W.M H H1) : Fk H H1 := fun a o u h => k a _ (W.frz d h) h
end
/-- what a name holds: data; an own list; an own dict (int and text keys); the same of a caller; the state -/
inductive Sl where
  | no
  | d (d : PyData)
  | l (ds : List PyData)
  | m (kvs : List (Key × PyData))
  | n (kvs : List (NestedKey × PyData))
  | rl (ds : List PyData)
  | rm (kvs : List (Key × PyData))
  | rn (kvs : List (NestedKey × PyData))
  | s (k : Nat)
abbrev Env := List Sl
inductive DtK (H : Hp) : List (Key × V) → List (Key × PyData) → Prop
  | nil : DtK H [] []
  | cons {k : Key} {v : V} {d : PyData} {xs : List (Key × V)} {ds : List (Key × PyData)} : Dt H v d → DtK H xs ds → DtK H ((k, v) :: xs) ((k, d) :: ds)
theorem DtK.mono {H H' : Hp} (k : Fk H H') : ∀ {ds : List (Key × PyData)} {vs : List (Key × V)}, DtK H vs ds → DtK H' vs ds
  | _, _, .nil => .nil
  | _, _, .cons a b => .cons (Dt.mono k a) (DtK.mono k b)
/-- an own list at a, an own dict at a -/
def LsAt (W : Wld) (H : Hp) (a : Addr) (ds : List PyData) : Prop := ¬ W.M a ∧ ∃ xs, H a = some (.lst xs) ∧ DtAll H xs ds
def DcAt (W : Wld) (H : Hp) (a : Addr) (ds : List (Key × PyData)) : Prop := ¬ W.M a ∧ ∃ kvs, H a = some (.dK kvs) ∧ DtK H kvs ds
/-- a dict whose keys are tuples -/
def NcAt (W : Wld) (H : Hp) (a : Addr) (ds : List (NestedKey × PyData)) : Prop := False
def SlR (W : Wld) (H0 H : Hp) (v : Option V) : Sl → Prop
  | .no => True
  | .d d => ∃ x, v = some x ∧ Dt H x d
  | .l ds => ∃ a, v = some (.ref a) ∧ H0 a = none ∧ LsAt W H a ds
  | .m ds => ∃ a, v = some (.ref a) ∧ H0 a = none ∧ DcAt W H a ds
  | .n ds => ∃ a, v = some (.ref a) ∧ H0 a = none ∧ NcAt W H a ds
  | .rl ds => ∃ a, v = some (.ref a) ∧ H0 a ≠ none ∧ LsAt W H a ds
  | .rm ds => ∃ a, v = some (.ref a) ∧ H0 a ≠ none ∧ DcAt W H a ds
  | .rn ds => ∃ a, v = some (.ref a) ∧ H0 a ≠ none ∧ NcAt W H a ds
  | .s k => v = some (.ref W.root) ∧ W.kd = k
def isOwn : Sl → Bool
  | .l _ => true
  | .m _ => true
  | .n _ => true
  | _ => false
/-- the heap at the def's entry; a heap whose locked things stand still -/
structure Bs where
  h0 : Hp
  hf : Hp
structure Sit (W : Wld) (H0 : Bs) (σ : L2.St) (H : Hp) (E : Env) (b : Nat) : Prop where
  len : σ.length = E.length
  at_ : ∀ (i : Nat) (s : Sl), E[i]? = some s → ∃ v, σ[i]? = some v ∧ SlR W H0.h0 H v s
  apart : ∀ (i j : Nat) (s t : Sl) (a : Addr), i ≠ j → E[i]? = some s → isOwn s = true → E[j]? = some t → isOwn t = true → σ[i]? = some (some (.ref a)) → σ[j]? ≠ some (some (.ref a))
  kp : Kp W.M H0.h0 H
  dk : W.Dk b H
  fk : Fk H0.hf H
section
variable {W : Wld} {H0 H H1 : Hp} {B : Bs} {σ : L2.St} {E : Env} {b b1 : Nat}
theorem LsAt.step {a : Addr} {ds : List PyData} (d : W.Dk b H) (k : Kp W.M H H1) (h : LsAt W H a ds) : LsAt W H1 a ds := by
  obtain ⟨n, xs, h, t⟩ := h
  exact ⟨n, xs, k a _ n h, t.mono (W.fk d k)⟩
theorem DcAt.step {a : Addr} {ds : List (Key × PyData)} (d : W.Dk b H) (k : Kp W.M H H1) (h : DcAt W H a ds) : DcAt W H1 a ds := by
  obtain ⟨n, xs, h, t⟩ := h
  exact ⟨n, xs, k a _ n h, t.mono (W.fk d k)⟩
theorem NcAt.step {a : Addr} {ds : List (NestedKey × PyData)} (d : W.Dk b H) (k : Kp W.M H H1) (h : NcAt W H a ds) : NcAt W H1 a ds := h.elim
theorem SlR.step {v : Option V} {s : Sl} (d : W.Dk b H) (k : Kp W.M H H1) (h : SlR W H0 H v s) : SlR W H0 H1 v s := by
  cases s with
  | no => trivial
  | d x => obtain ⟨u, e, t⟩ := h; exact ⟨u, e, t.mono (W.fk d k)⟩
  | l x => obtain ⟨u, e, n, t⟩ := h; exact ⟨u, e, n, t.step d k⟩
  | m x => obtain ⟨u, e, n, t⟩ := h; exact ⟨u, e, n, t.step d k⟩
  | n x => obtain ⟨u, e, n, t⟩ := h; exact ⟨u, e, n, t.step d k⟩
  | rl x => obtain ⟨u, e, n, t⟩ := h; exact ⟨u, e, n, t.step d k⟩
  | rm x => obtain ⟨u, e, n, t⟩ := h; exact ⟨u, e, n, t.step d k⟩
  | rn x => obtain ⟨u, e, n, t⟩ := h; exact ⟨u, e, n, t.step d k⟩
  | s _ => exact h
theorem Sit.step (S : Sit W B σ H E b) (k : Kp W.M H H1) (d : W.Dk b1 H1) : Sit W B σ H1 E b1 :=
  ⟨S.len, fun i s e => by obtain ⟨v, h1, h2⟩ := S.at_ i s e; exact ⟨v, h1, h2.step S.dk k⟩, S.apart, S.kp.trans k, d, S.fk.trans (W.fk S.dk k)⟩
theorem Sit.ex (S : Sit W B σ H E b) (e : Ex H H1) : Sit W B σ H1 E b := S.step (Kp.ex e) (W.ex e S.dk)
/-- a name is set to data -/
theorem Sit.setD {i : Nat} {v : V} {d : PyData} (S : Sit W B σ H E b) (t : Dt H v d) : Sit W B (σ.set i (some v)) H (E.set i (.d d)) b := by
  refine ⟨by simp [S.len], fun j s e => ?_, fun p q s t a ne h1 o1 h2 o2 e => ?_, S.kp, S.dk, S.fk⟩
  · by_cases hj : i = j
    · subst hj
      have hl : i < E.length := by have := (List.getElem?_eq_some_iff.mp e).1; simpa using this
      rw [List.getElem?_set_self hl] at e
      cases e
      exact ⟨some v, List.getElem?_set_self (by rw [S.len]; exact hl), v, rfl, t⟩
    · rw [List.getElem?_set_ne hj] at e
      obtain ⟨u, h1, h2⟩ := S.at_ j s e
      exact ⟨u, by rw [List.getElem?_set_ne hj]; exact h1, h2⟩
  · have np : i ≠ p := fun z => by
      subst z
      have hl : i < E.length := by have := (List.getElem?_eq_some_iff.mp h1).1; simpa using this
      rw [List.getElem?_set_self hl] at h1
      cases h1; cases o1
    have nq : i ≠ q := fun z => by
      subst z
      have hl : i < E.length := by have := (List.getElem?_eq_some_iff.mp h2).1; simpa using this
      rw [List.getElem?_set_self hl] at h2
      cases h2; cases o2
    rw [List.getElem?_set_ne np] at h1 e
    rw [List.getElem?_set_ne nq] at h2 ⊢
    exact S.apart p q s t a ne h1 o1 h2 o2 e
end
/-! ### models -/
abbrev WE := Env → Nat → (PyData → Nat → Prop) → Prop
abbrev WL := Env → Nat → (List PyData → Nat → Prop) → Prop
abbrev WT := Env → Nat → (Bool → Nat → Prop) → Prop
abbrev WG := Env → Nat → (List Sl → Nat → Prop) → Prop
structure WEnds where
  nx : Env → Nat → Prop
  rt : PyData → Nat → Prop
  bk : Env → Nat → Prop := fun _ _ => False
  ct : Env → Nat → Prop := fun _ _ => False
abbrev WS := Env → Nat → WEnds → Prop
/-- data, or a list that is not locked -/
def Dq (W : Wld) (H : Hp) (v : V) (d : PyData) : Prop := Dt H v d ∨ ∃ a ds, v = .ref a ∧ d = .list ds ∧ LsAt W H a ds
theorem Dq.step {W : Wld} {H H1 : Hp} {b : Nat} {v : V} {d : PyData} (dk : W.Dk b H) (k : Kp W.M H H1) (h : Dq W H v d) : Dq W H1 v d := by
  rcases h with h | ⟨a, ds, h1, h2, h3⟩
  · exact .inl (h.mono (W.fk dk k))
  · exact .inr ⟨a, ds, h1, h2, h3.step dk k⟩
def tE (m : WE) : TE := fun σ H Q => ∃ W H0 E b R, Sit W H0 σ H E b ∧ m E b R ∧ ∀ d b' v H', R d b' → Kp W.M H H' → W.Dk b' H' → Dt H' v d → Q v H'
def tQ (m : WE) : TE := fun σ H Q => ∃ W H0 E b R, Sit W H0 σ H E b ∧ m E b R ∧ ∀ d b' v H', R d b' → Kp W.M H H' → W.Dk b' H' → Dq W H' v d → Q v H'
def tL (m : WL) : TE := fun σ H Q => ∃ W H0 E b R, Sit W H0 σ H E b ∧ m E b R ∧ ∀ ds b' a xs H', R ds b' → Kp W.M H H' → W.Dk b' H' → H a = none → H' a = some (.lst xs) → DtAll H' xs ds → Q (.ref a) H'
def tA (m : WL) : TA := fun σ H Q => ∃ W H0 E b R, Sit W H0 σ H E b ∧ m E b R ∧ ∀ ds b' vs H', R ds b' → Kp W.M H H' → W.Dk b' H' → DtAll H' vs ds → Q vs H'
def tT (m : WT) : TT := fun σ H Q => ∃ W H0 E b R, Sit W H0 σ H E b ∧ m E b R ∧ ∀ c b' H', R c b' → Kp W.M H H' → W.Dk b' H' → Q c H'
/-- an argument: the same of a caller -/
def ArR (W : Wld) (H : Hp) (v : V) : Sl → Prop
  | .d d => Dt H v d
  | .rl ds => ∃ a, v = .ref a ∧ LsAt W H a ds
  | .rm ds => ∃ a, v = .ref a ∧ DcAt W H a ds
  | .rn ds => ∃ a, v = .ref a ∧ NcAt W H a ds
  | .s k => v = .ref W.root ∧ W.kd = k
  | _ => False
abbrev ArsR (W : Wld) (H : Hp) : List V → List Sl → Prop := Paired (ArR W H)
def tG (m : WG) : TA := fun σ H Q => ∃ W H0 E b R, Sit W H0 σ H E b ∧ m E b R ∧ ∀ as b' vs H', R as b' → Kp W.M H H' → W.Dk b' H' → ArsR W H' vs as → Q vs H'
structure Acc (W : Wld) (H0 : Bs) (F : WEnds) (D : Ends) : Prop where
  nx : ∀ σ H E b, Sit W H0 σ H E b → F.nx E b → D.nx σ H
  bk : ∀ σ H E b, Sit W H0 σ H E b → F.bk E b → D.bk σ H
  ct : ∀ σ H E b, Sit W H0 σ H E b → F.ct E b → D.ct σ H
  rt : ∀ d b v H, F.rt d b → Kp W.M H0.h0 H → W.Dk b H → Dt H v d → D.rt v H
def tS (m : WS) : TS := fun D σ H => ∃ W H0 E b F, Sit W H0 σ H E b ∧ m E b F ∧ Acc W H0 F D
/-- a def by its model -/
abbrev WF := List Sl → Nat → (PyData → Nat → Prop) → Prop
def spOf (mf : WF) : Sp := fun vs H Q _ => ∃ W as b R, ArsR W H vs as ∧ W.Dk b H ∧ mf as b R ∧ ∀ d b' v H', R d b' → Kp W.M H H' → W.Dk b' H' → Dt H' v d → Q v H'
end Wp

namespace Wp
open PySem PySem.Spec PyProof.Rows L2 Evl
/-! ### reading -/
structure XO (X : Cx) : Prop where
  gd : X.A.guards = some []
  un : X.A.units + 64 < cLine
  calm : X.calm = true
  sm : ∃ o, X.base.get? sysModules = some o
theorem XO.free {X : Cx} (h : XO X) {pins : List (Addr × Obj)} {σ : L2.St} {H : Hp} {s : Shared} (I : Inv X pins σ H s) : H sysModules = none := by
  obtain ⟨o, e⟩ := h.sm
  exact (I.bs _ _ e).2
section
variable {X : Cx} {pins : List (Addr × Obj)} {σ : L2.St} {H : Hp} {s : Shared}
mutual
theorem Dt.reads (I : Inv X pins σ H s) : ∀ (d : PyData) (v : V) (u : Value), Dt H v d → RelV v u → ∃ as, Reads s.heap u d as ∧ (H sysModules = none → sysModules ∉ as)
  | .none, _, _, h, r => by
    cases h
    cases r
    exact ⟨_, Reads.none, by simp⟩
  | .bool b, _, _, h, r => by
    cases h
    cases r
    exact ⟨_, Reads.bool b, by simp⟩
  | .int i, _, _, h, r => by
    cases h
    obtain ⟨t, rfl⟩ := r
    exact ⟨_, Reads.int i t, by simp⟩
  | .str x, _, _, h, r => by
    cases h
    obtain ⟨t, rfl⟩ := r
    exact ⟨_, Reads.str x t, by simp⟩
  | .list ds, _, _, h, r => by
    cases h with
    | lst hs ha =>
      cases r
      obtain ⟨its, rv, ⟨o, n, ho, hc, _, hd⟩, _⟩ := I.list (xs := _) (show SqL X.K H _ _ from .inl (.inr ⟨_, hs⟩))
      obtain ⟨as, hr, na⟩ := DtAll.reads I ds _ its ha rv
      exact ⟨_, Reads.list ho hc hd hr, fun n => by simp [na n]; intro z; rw [← z, n] at hs; cases hs⟩
  | .tuple ds, _, _, h, r => by
    cases h with
    | tup hs _ ha =>
      cases r
      obtain ⟨its, rv, ⟨o, ho, hc, n, hd⟩, _⟩ := I.tuple (show SqT X.K H _ _ from .inl (.inr ⟨_, hs⟩))
      obtain ⟨as, hr, na⟩ := DtAll.reads I ds _ its ha rv
      exact ⟨_, Reads.tuple ho hc hd hr, na⟩
  | .dict ds, v, u, h, r => by
    generalize hd0 : PyData.dict ds = dd at h
    cases h with
    | non => cases hd0
    | bl _ => cases hd0
    | int _ => cases hd0
    | str _ => cases hd0
    | tup _ _ _ => cases hd0
    | lst _ _ => cases hd0
    | @dic a o kvs vs ds' hs ev ha =>
      cases r
      injection hd0 with e0
      obtain ⟨_, hsm, us, kv, o, es, ep, ho, hx, hd, _, hp, _⟩ := dk_rd I.hok (.inr ⟨_, hs⟩)
      have len : vs.length = ds'.length := ha.length
      have sz : ∀ d' ∈ ds', sizeOf d' < sizeOf ds := by
        intro d' hd'
        rw [e0]
        have key : ∀ (ks : List PyData) (es : List PyData), ks.length = es.length → d' ∈ es → sizeOf d' < sizeOf (ks.zip es) := by
          intro ks
          induction ks with
          | nil => intro es h1 h2; cases es with | nil => exact nomatch h2 | cons _ _ => simp at h1
          | cons k ks ih =>
            intro es h1 h2
            cases es with
            | nil => exact nomatch h2
            | cons e es =>
              rcases List.mem_cons.mp h2 with rfl | h2
              · simp only [List.zip_cons_cons, List.cons.sizeOf_spec, Prod.mk.sizeOf_spec]; omega
              · have := ih es (by simpa using h1) h2
                simp only [List.zip_cons_cons, List.cons.sizeOf_spec, Prod.mk.sizeOf_spec]; omega
        exact key _ _ (by rw [List.length_map, ← len, ev, List.length_map]) hd'
      have keys : ∀ {es : List DictEntry} {us : List (Key × Value)} {kvs : List (Key × V)}, Pairs (mixKind X.prog X.w) es us → KV kvs us → ReadsAll s.heap (es.map (·.key)) (kvs.map fun p => keyD p.1) [] := by
        intro es us kvs hp
        induction hp generalizing kvs with
        | nil => intro kv; cases kv; exact .nil
        | cons k1 k2 k3 ih =>
          intro kv
          cases kv with
          | cons q1 q2 =>
            have h2 := ih q2
            have k1' : keyIs _ _ = true := k1
            rw [← q1.1] at k1'
            rcases keyIs_shape k1' with ⟨i, t, ek, ev⟩ | ⟨x, t, ek, ev⟩
            · simp only [List.map_cons, ek, ev, keyD]; exact .cons (as := []) (bs := []) (.int i t) h2
            · simp only [List.map_cons, ek, ev, keyD]; exact .cons (as := []) (bs := []) (.str x t) h2
      have vals : ∀ {es : List DictEntry} {us : List (Key × Value)} {kvs : List (Key × V)}, Pairs (mixKind X.prog X.w) es us → KV kvs us → Vals (kvs.map (·.2)) (es.map (·.val)) := by
        intro es us kvs hp
        induction hp generalizing kvs with
        | nil => intro kv; cases kv; exact .nil
        | cons k1 k2 k3 ih =>
          intro kv
          cases kv with
          | cons q1 q2 =>
            refine .cons ?_ (ih q2)
            dsimp only
            rw [k2]
            exact q1.2
      have r1 := keys hp kv
      have all : ∀ (l : List PyData) (xs : List V) (ys : List Value), (∀ d' ∈ l, d' ∈ ds') → DtAll H xs l → Vals xs ys → ∃ bs, ReadsAll s.heap ys l bs ∧ (H sysModules = none → sysModules ∉ bs) := by
        intro l
        induction l with
        | nil => intro xs ys _ h1 h2; cases h1; cases h2; exact ⟨_, .nil, by simp⟩
        | cons d' l ih =>
          intro xs ys hm h1 h2
          cases h1 with
          | cons a1 a2 =>
            cases h2 with
            | cons b1 b2 =>
              have := sz d' (hm d' (List.mem_cons_self ..))
              obtain ⟨as1, q1, n1⟩ := Dt.reads I d' _ _ a1 b1
              obtain ⟨bs1, q2, n2⟩ := ih _ _ (fun e he => hm e (List.mem_cons_of_mem _ he)) a2 b2
              exact ⟨_, .cons q1 q2, fun n => by simp [n1 n, n2 n]⟩
      obtain ⟨bs, r2, nb⟩ := all ds' vs _ (fun _ h => h) ha (by rw [ev]; exact vals hp kv)
      have l1 : (kvs.map fun p => keyD p.1).length = ds'.length := by rw [List.length_map, ← len, ev, List.length_map]
      refine ⟨_, Reads.dict (kvs := (kvs.map fun p => keyD p.1).zip ds') ho hx.1 hd (as := []) (bs := bs) ?_ ?_, fun n => ?_⟩
      · rw [List.map_fst_zip (by omega)]; exact r1
      · rw [List.map_snd_zip (by omega)]; exact r2
      · simp [nb n]
        exact (beq_eq_false_iff_ne.mp hsm).symm
termination_by d => sizeOf d
theorem DtAll.reads (I : Inv X pins σ H s) : ∀ (ds : List PyData) (vs : List V) (us : List Value), DtAll H vs ds → Vals vs us → ∃ as, ReadsAll s.heap us ds as ∧ (H sysModules = none → sysModules ∉ as)
  | [], _, _, h, r => by
    cases h
    cases r
    exact ⟨_, ReadsAll.nil, by simp⟩
  | d :: ds, _, _, h, r => by
    cases h with
    | cons h1 h2 =>
      cases r with
      | cons r1 r2 =>
        obtain ⟨as, q1, n1⟩ := Dt.reads I d _ _ h1 r1
        obtain ⟨bs, q2, n2⟩ := DtAll.reads I ds _ _ h2 r2
        exact ⟨_, ReadsAll.cons q1 q2, fun n => by simp [n1 n, n2 n]⟩
termination_by ds => sizeOf ds
end
theorem Dq.reads {W : Wld} (I : Inv X pins σ H s) {d : PyData} {v : V} {u : Value} (h : Dq W H v d) (r : RelV v u) : ∃ as, Reads s.heap u d as ∧ (H sysModules = none → sysModules ∉ as) := by
  rcases h with h | ⟨a, ds, rfl, rfl, _, xs, ha, hx⟩
  · exact Dt.reads I d v u h r
  · cases r
    obtain ⟨its, rv, ⟨o, n, ho, hc, _, hd⟩, _⟩ := I.list (show SqL X.K H a xs from .inl (.inl ha))
    obtain ⟨as, hr, na⟩ := DtAll.reads I ds _ its hx rv
    exact ⟨_, Reads.list ho hc hd hr, fun n => by simp [na n]; intro z; rw [← z, n] at ha; cases ha⟩
end
theorem Dq.seqL {W : Wld} {K : PySem.W.Frag} {H : Hp} {v : V} {ds : List PyData} (h : Dq W H v (.list ds)) : ∃ a xs, v = .ref a ∧ SqL K H a xs ∧ DtAll H xs ds := by
  rcases h with h | ⟨a, ds', rfl, e, _, xs, ha, hx⟩
  · obtain ⟨a, o, xs, rfl, h1, h2⟩ := h.lst_inv
    exact ⟨a, xs, rfl, .inl (.inr ⟨o, h1⟩), h2⟩
  · cases e
    exact ⟨a, xs, rfl, .inl (.inl ha), hx⟩
theorem Dq.seqT {W : Wld} {K : PySem.W.Frag} {H : Hp} {v : V} {ds : List PyData} (h : Dq W H v (.tuple ds)) : ∃ a o xs, v = .ref a ∧ H a = some (.frz o (.tup xs)) ∧ o.dict = none ∧ SqT K H a xs ∧ DtAll H xs ds := by
  rcases h with h | ⟨a, ds', rfl, e, _⟩
  · obtain ⟨a, o, xs, rfl, h1, h2, h3⟩ := h.tup_inv
    exact ⟨a, o, xs, rfl, h1, h2, .inl (.inr ⟨o, h1⟩), h3⟩
  · cases e
theorem Dq.int {W : Wld} {H : Hp} {v : V} {i : Int} (h : Dq W H v (.int i)) : v = .int i := by
  rcases h with h | ⟨a, ds', rfl, e, _⟩
  · cases h; rfl
  · cases e
theorem Dq.bool {W : Wld} {H : Hp} {v : V} {i : Bool} (h : Dq W H v (.bool i)) : v = .bl i := by
  rcases h with h | ⟨a, ds', rfl, e, _⟩
  · cases h; rfl
  · cases e
theorem Dq.str {W : Wld} {H : Hp} {v : V} {i : Str} (h : Dq W H v (.str i)) : v = .str i := by
  rcases h with h | ⟨a, ds', rfl, e, _⟩
  · cases h; rfl
  · cases e
end Wp

namespace Wp
open PySem PySem.Spec PyProof.Rows L2 Evl
abbrev W1 := PyData → (PyData → Prop) → Prop
abbrev W2 := PyData → PyData → (PyData → Prop) → Prop
def rD (w : W2) : R2 := fun x y H Q => ∃ (W : Wld) (d e : PyData) (R : PyData → Prop), Dq W H x d ∧ Dq W H y e ∧ w d e R ∧ ∀ z v H', R z → Ex H H' → Dt H' v z → Q v H'
/-! ### expressions: weakening -/
section
variable {X : Cx} {e a b : Expr} {t t' : TE} {m ma mb : WE} {pos : Pos}
theorem _root_.L2.PE.weak (h : PE X e t) (k : ∀ σ H Q, t' σ H Q → t σ H Q) : PE X e t' := ⟨fun pins s σ H Q I q => h.run pins s σ H Q I (k σ H Q q)⟩
theorem _root_.L2.PT.weak {t t' : TT} (h : PT X e t) (k : ∀ σ H Q, t' σ H Q → t σ H Q) : PT X e t' := ⟨fun pins s σ H Q I q => h.run pins s σ H Q I (k σ H Q q)⟩
theorem _root_.L2.PA.weak {es : List Expr} {t t' : TA} (h : PA X es t) (k : ∀ σ H Q, t' σ H Q → t σ H Q) : PA X es t' := ⟨fun p pins s σ H Q I q => h.run p pins s σ H Q I (k σ H Q q)⟩
/-- data may be read as data or a list -/
theorem _root_.L2.PE.q (h : PE X e (tE m)) : PE X e (tQ m) := h.weak fun σ H Q ⟨W, H0, E, b, R, S, hm, k⟩ => ⟨W, H0, E, b, R, S, hm, fun d b' v H' r kp dk t => k d b' v H' r kp dk (.inl t)⟩
/-! names, constants -/
def mV (i : Nat) : WE := fun E b R => match E[i]? with
  | some (.d d) => R d b
  | _ => False
def mC (d : PyData) : WE := fun _ b R => R d b
theorem mV_some {i : Nat} {E : Env} {b : Nat} {R : PyData → Nat → Prop} (h : mV i E b R) : ∃ d, E[i]? = some (.d d) ∧ R d b := by
  unfold mV at h
  split at h
  · exact ⟨_, by assumption, h⟩
  · exact h.elim
theorem pm_var {i : Nat} {x : Str} (h : PE X (.Name x pos) (tVar i)) : PE X (.Name x pos) (tE (mV i)) := h.weak fun σ H Q ⟨W, H0, E, b, R, S, hm, k⟩ => by
  obtain ⟨d, he, hr⟩ := mV_some hm
  obtain ⟨v, h1, x, rfl, t⟩ := S.at_ i _ he
  exact ⟨x, h1, k d b x H hr Kp.refl S.dk t⟩
theorem pm_c {v : V} {d : PyData} (h : PE X e (tC v)) (t : ∀ H, Dt H v d) : PE X e (tE (mC d)) := h.weak fun σ H Q ⟨W, H0, E, b, R, S, hm, k⟩ => k d b v H hm Kp.refl S.dk (t H)
theorem pm_int {i : Int} {j : Nat} : PE X (.Constant (.int i) j pos) (tE (mC (.int i))) := pm_c pe_int fun _ => .int i
theorem pm_bl {i : Bool} {j : Nat} : PE X (.Constant (.bool i) j pos) (tE (mC (.bool i))) := pm_c pe_bl fun _ => .bl i
theorem pm_str {i : Str} {j : Nat} : PE X (.Constant (.str i) j pos) (tE (mC (.str i))) := pm_c pe_str fun _ => .str i
theorem pm_non {j : Nat} : PE X (.Constant .none j pos) (tE (mC .none)) := pm_c pe_non fun _ => .non
/-- a global constant -/
theorem pm_gi {x : Str} {i : Int} {t : Tok} (hg : Gl X x) (hm : X.mg x = some (.int i t)) (hd : (x == ("__debug__" : Str)) = false := by decide) : PE X (.Name x pos) (tE (mC (.int i))) := pm_c (pe_glob (v := .int i) hg hm ⟨t, rfl⟩ hd) fun _ => .int i
/-- a list of one's own, or of a caller's, read -/
def mO (i : Nat) : WE := fun E b R => match E[i]? with
  | some (.l ds) => R (.list ds) b
  | some (.rl ds) => R (.list ds) b
  | _ => False
theorem pm_own {i : Nat} {x : Str} (h : PE X (.Name x pos) (tVar i)) : PE X (.Name x pos) (tQ (mO i)) := h.weak fun σ H Q ⟨W, H0, E, b, R, S, hm, k⟩ => by
  unfold mO at hm
  split at hm
  · obtain ⟨v, h1, a, rfl, _, t⟩ := S.at_ i _ (by assumption)
    exact ⟨_, h1, k _ b _ H hm Kp.refl S.dk (.inr ⟨a, _, rfl, rfl, t⟩)⟩
  · obtain ⟨v, h1, a, rfl, _, t⟩ := S.at_ i _ (by assumption)
    exact ⟨_, h1, k _ b _ H hm Kp.refl S.dk (.inr ⟨a, _, rfl, rfl, t⟩)⟩
  · exact hm.elim
/-! operations -/
def mOp (w : W2) (ma mb : WE) : WE := fun E b R => ma E b fun x b1 => mb E b1 fun y b2 => w x y fun z => R z b2
def mUn (w : W1) (ma : WE) : WE := fun E b R => ma E b fun x b1 => w x fun z => R z b1
theorem tOp_of {w : W2} {σ : L2.St} {H : Hp} {Q : VK} (h : tE (mOp w ma mb) σ H Q) : tOp (rD w) (tQ ma) (tQ mb) σ H Q := by
  obtain ⟨W, H0, E, b, R, S, hm, k⟩ := h
  refine ⟨W, H0, E, b, _, S, hm, fun x b1 v H1 h1 k1 d1 t1 => ⟨W, H0, E, b1, _, S.step k1 d1, h1, fun y b2 u H2 h2 k2 d2 t2 => ?_⟩⟩
  exact ⟨W, x, y, _, t1.step d1 k2, t2, h2, fun z v' H3 hz e3 t3 => k z b2 v' H3 hz ((k1.trans k2).trans (Kp.ex e3)) (W.ex e3 d2) t3⟩
theorem pm_op {op : Operator} {w : W2} (ho : OpR X (binaryOp op) (rD w)) (ha : PE X a (tQ ma)) (hb : PE X b (tQ mb)) : PE X (.BinOp a op b pos) (tE (mOp w ma mb)) := (pe_op ho ha hb).weak fun _ _ _ => tOp_of
theorem pm_cmp {op : CmpOp} {w : W2} (ho : OpR X (compareOp op) (rD w)) (ha : PE X a (tQ ma)) (hb : PE X b (tQ mb)) (hm : behindInMarks op b = false) : PE X (.Compare a [op] [b] pos) (tE (mOp w ma mb)) := (pe_cmpR ho ha hb hm).weak fun _ _ _ => tOp_of
theorem pm_ix {w : W2} (ho : IxR X (rD w)) (ha : PE X a (tQ ma)) (hb : PE X b (tQ mb)) (hs : PlainIx b) : PE X (.Subscript a b pos) (tE (mOp w ma mb)) := (pe_ix ho ha hb hs).weak fun _ _ _ => tOp_of
/-- a test: an expression whose value is a bool -/
def mT (m : WE) : WT := fun E b R => m E b fun d b1 => match d with
  | .bool c => R c b1
  | _ => False
theorem tB_of {σ : L2.St} {H : Hp} {Q : Bool → Hp → Prop} (h : tT (mT m) σ H Q) : tE m σ H fun x H1 => ∃ c, x = .bl c ∧ Q c H1 := by
  obtain ⟨W, H0, E, b, R, S, hm, k⟩ := h
  refine ⟨W, H0, E, b, _, S, hm, fun x b1 v H1 h1 k1 d1 t1 => ?_⟩
  cases x <;> first | exact h1.elim | skip
  cases t1
  exact ⟨_, rfl, k _ b1 H1 h1 k1 d1⟩
theorem pm_tcmp {op : CmpOp} {w : W2} (ho : OpR X (compareOp op) (rD w)) (ha : PE X a (tQ ma)) (hb : PE X b (tQ mb)) (hm : behindInMarks op b = false) : PT X (.Compare a [op] [b] pos) (tT (mT (mOp w ma mb))) :=
  (pt_cmpR ho ha hb hm).weak fun σ H Q h => tOp_of (tB_of h)
theorem pm_tval (h : PE X e (tE m)) (he : ∀ whole, isTrue e X.env whole = (do let v ← whole; standAt e.pos; holding [v] (truthy v)) := by intro _; rfl) : PT X e (tT (mT m)) := (pt_val h he).weak fun σ H Q h => tB_of h
def mNotT (m : WT) : WT := fun E b R => m E b fun c b1 => R (!c) b1
def mAndT (m n : WT) : WT := fun E b R => m E b fun c b1 => if c = true then n E b1 R else R false b1
def mOrT (m n : WT) : WT := fun E b R => m E b fun c b1 => if c = true then R true b1 else n E b1 R
theorem pm_tnot {m : WT} (h : PT X e (tT m)) : PT X (.UnaryOp .Not e pos) (tT (mNotT m)) := (pt_not h).weak fun σ H Q ⟨W, H0, E, b, R, S, hm, k⟩ => ⟨W, H0, E, b, _, S, hm, fun c b' H' r kp dk => k _ b' H' r kp dk⟩
section
variable {rest : List Expr} {m n : WT}
theorem _root_.L2.PW.weak {t t' : TT} (h : PW X e t) (k : ∀ σ H Q, t' σ H Q → t σ H Q) : PW X e t' := ⟨fun w pins s σ H Q I q => h.run w pins s σ H Q I (k σ H Q q)⟩
theorem pm_wand1 (ha : PT X a (tT m)) : PW X (.BoolOp .And [a] pos) (tT m) := pw_and1 ha
theorem pm_wor1 (ha : PT X a (tT m)) : PW X (.BoolOp .Or [a] pos) (tT m) := pw_or1 ha
theorem pm_wand (ha : PT X a (tT m)) (hb : PW X (.BoolOp .And (b :: rest) pos) (tT n)) : PW X (.BoolOp .And (a :: b :: rest) pos) (tT (mAndT m n)) := (pw_and ha hb).weak fun σ H Q ⟨W, H0, E, b, R, S, hm, k⟩ => by
  refine ⟨W, H0, E, b, _, S, hm, fun c b1 H1 h1 k1 d1 => ?_⟩
  cases c with
  | true => exact ⟨W, H0, E, b1, _, S.step k1 d1, h1, fun c b2 H2 h2 k2 d2 => k c b2 H2 h2 (k1.trans k2) d2⟩
  | false => exact k false b1 H1 h1 k1 d1
theorem pm_wor (ha : PT X a (tT m)) (hb : PW X (.BoolOp .Or (b :: rest) pos) (tT n)) : PW X (.BoolOp .Or (a :: b :: rest) pos) (tT (mOrT m n)) := (pw_or ha hb).weak fun σ H Q ⟨W, H0, E, b, R, S, hm, k⟩ => by
  refine ⟨W, H0, E, b, _, S, hm, fun c b1 H1 h1 k1 d1 => ?_⟩
  cases c with
  | false => exact ⟨W, H0, E, b1, _, S.step k1 d1, h1, fun c b2 H2 h2 k2 d2 => k c b2 H2 h2 (k1.trans k2) d2⟩
  | true => exact k true b1 H1 h1 k1 d1
end
/-- and, or, not as values -/
def mAnd (m n : WE) : WE := fun E b R => m E b fun d b1 => match d with
  | .bool true => n E b1 R
  | .bool false => R (.bool false) b1
  | _ => False
def mOr (m n : WE) : WE := fun E b R => m E b fun d b1 => match d with
  | .bool true => R (.bool true) b1
  | .bool false => n E b1 R
  | _ => False
def mNot (m : WE) : WE := fun E b R => m E b fun d b1 => match d with
  | .bool c => R (.bool (!c)) b1
  | _ => False
section
variable {rest : List Expr} {n : WE}
theorem pm_and (ha : PE X a (tE m)) (hb : PE X (.BoolOp .And (b :: rest) pos) (tE n)) : PE X (.BoolOp .And (a :: b :: rest) pos) (tE (mAnd m n)) := (pe_and ha hb).weak fun σ H Q ⟨W, H0, E, b, R, S, hm, k⟩ => by
  refine ⟨W, H0, E, b, _, S, hm, fun c b1 v H1 h1 k1 d1 t1 => ?_⟩
  cases c <;> first | exact h1.elim | skip
  rename_i c
  cases t1
  refine ⟨c, rfl, ?_⟩
  cases c with
  | true => exact ⟨W, H0, E, b1, _, S.step k1 d1, h1, fun d b2 v H2 h2 k2 d2 t2 => k d b2 v H2 h2 (k1.trans k2) d2 t2⟩
  | false => exact k _ b1 _ H1 h1 k1 d1 (.bl false)
theorem pm_or (ha : PE X a (tE m)) (hb : PE X (.BoolOp .Or (b :: rest) pos) (tE n)) : PE X (.BoolOp .Or (a :: b :: rest) pos) (tE (mOr m n)) := (pe_or ha hb).weak fun σ H Q ⟨W, H0, E, b, R, S, hm, k⟩ => by
  refine ⟨W, H0, E, b, _, S, hm, fun c b1 v H1 h1 k1 d1 t1 => ?_⟩
  cases c <;> first | exact h1.elim | skip
  rename_i c
  cases t1
  refine ⟨c, rfl, ?_⟩
  cases c with
  | false => exact ⟨W, H0, E, b1, _, S.step k1 d1, h1, fun d b2 v H2 h2 k2 d2 t2 => k d b2 v H2 h2 (k1.trans k2) d2 t2⟩
  | true => exact k _ b1 _ H1 h1 k1 d1 (.bl true)
theorem pm_one {op} (h : PE X a (tE m)) : PE X (.BoolOp op [a] pos) (tE m) := pe_one h
theorem pm_not (ha : PE X a (tE m)) : PE X (.UnaryOp .Not a pos) (tE (mNot m)) := (pe_not ha).weak fun σ H Q ⟨W, H0, E, b, R, S, hm, k⟩ => by
  refine ⟨W, H0, E, b, _, S, hm, fun c b1 v H1 h1 k1 d1 t1 => ?_⟩
  cases c <;> first | exact h1.elim | skip
  rename_i c
  cases t1
  exact ⟨c, rfl, k _ b1 _ H1 h1 k1 d1 (.bl _)⟩
end
def mIf (c : WT) (m n : WE) : WE := fun E b R => c E b fun c b1 => if c = true then m E b1 R else n E b1 R
theorem pm_ifE {c : Expr} {mc : WT} (hc : PT X c (tT mc)) (ha : PE X a (tE ma)) (hb : PE X b (tE mb)) : PE X (.IfExp c a b pos) (tE (mIf mc ma mb)) := (pe_ifExp hc ha hb).weak fun σ H Q ⟨W, H0, E, b, R, S, hm, k⟩ => by
  refine ⟨W, H0, E, b, _, S, hm, fun c b1 H1 h1 k1 d1 => ?_⟩
  cases c with
  | true => exact ⟨W, H0, E, b1, _, S.step k1 d1, h1, fun d b2 v H2 h2 k2 d2 t2 => k d b2 v H2 h2 (k1.trans k2) d2 t2⟩
  | false => exact ⟨W, H0, E, b1, _, S.step k1 d1, h1, fun d b2 v H2 h2 k2 d2 t2 => k d b2 v H2 h2 (k1.trans k2) d2 t2⟩
/-- -x -/
def negW : W1 := fun d R => match d with
  | .int i => R (.int (-i))
  | _ => False
theorem pm_neg (ha : PE X a (tE ma)) : PE X (.UnaryOp .USub a pos) (tE (mUn negW ma)) := (pe_un un_neg ha).weak fun σ H Q ⟨W, H0, E, b, R, S, hm, k⟩ => by
  refine ⟨W, H0, E, b, _, S, hm, fun c b1 v H1 h1 k1 d1 t1 => ?_⟩
  cases c <;> first | exact h1.elim | skip
  cases t1
  exact ⟨_, rfl, k _ b1 _ H1 h1 k1 d1 (.int _)⟩
/-- a comparison of three -/
def mChain (w w' : W2) (ma mb mc : WE) : WE := fun E b R => ma E b fun x b1 => mb E b1 fun y b2 => w x y fun z => match z with
  | .bool true => mc E b2 fun u b3 => w' y u fun z => R z b3
  | .bool false => R (.bool false) b2
  | _ => False
theorem tChain_of {w w' : W2} {mc : WE} {σ : L2.St} {H : Hp} {Q : VK} (h : tE (mChain w w' ma mb mc) σ H Q) : tChain (rD w) (rD w') (tQ ma) (tQ mb) (tQ mc) σ H Q := by
  obtain ⟨W, H0, E, b, R, S, hm, k⟩ := h
  refine ⟨W, H0, E, b, _, S, hm, fun x b1 v H1 h1 k1 d1 t1 => ⟨W, H0, E, b1, _, S.step k1 d1, h1, fun y b2 u H2 h2 k2 d2 t2 => ?_⟩⟩
  refine ⟨W, x, y, _, t1.step d1 k2, t2, h2, fun z v' H3 hz e3 t3 => ?_⟩
  cases z <;> first | exact hz.elim | skip
  rename_i c
  cases t3
  refine ⟨c, rfl, ?_⟩
  have k13 := (k1.trans k2).trans (Kp.ex (M := W.M) e3)
  have d3 := W.ex e3 d2
  cases c with
  | false => exact k _ b2 _ H3 hz k13 d3 (.bl false)
  | true =>
    refine ⟨W, H0, E, b2, _, S.step k13 d3, hz, fun q b4 v4 H4 h4 k4 d4 t4 => ?_⟩
    exact ⟨W, y, q, _, (t2.step d2 (Kp.ex e3)).step d3 k4, t4, h4, fun z5 v5 H5 h5 e5 t5 => k z5 b4 v5 H5 h5 ((k13.trans k4).trans (Kp.ex e5)) (W.ex e5 d4) t5⟩
theorem pm_chain {c : Expr} {op op' : CmpOp} {w w' : W2} {mc : WE} (ho : OpR X (compareOp op) (rD w)) (ho' : OpR X (compareOp op') (rD w')) (ha : PE X a (tQ ma)) (hb : PE X b (tQ mb)) (hc : PE X c (tQ mc)) (hm : lastMarks [op, op'] [b, c] = false := by with_unfolding_all rfl) : PE X (.Compare a [op, op'] [b, c] pos) (tE (mChain w w' ma mb mc)) := (pe_chain ho ho' ha hb hc hm).weak fun _ _ _ => tChain_of
theorem pm_tchain {c : Expr} {op op' : CmpOp} {w w' : W2} {mc : WE} (ho : OpR X (compareOp op) (rD w)) (ho' : OpR X (compareOp op') (rD w')) (ha : PE X a (tQ ma)) (hb : PE X b (tQ mb)) (hc : PE X c (tQ mc)) (hm : lastMarks [op, op'] [b, c] = false := by with_unfolding_all rfl) : PT X (.Compare a [op, op'] [b, c] pos) (tT (mT (mChain w w' ma mb mc))) := (pt_chain ho ho' ha hb hc hm).weak fun σ H Q h => tChain_of (tB_of h)
end
end Wp

namespace Wp
open PySem PySem.Spec PyProof.Rows L2 Evl
/-! ### what the operations do to data -/
def b2z (b : Bool) : Int := if b = true then 1 else 0
def addW : W2 := fun d e R => match d, e with
  | .int i, .int j => R (.int (i + j))
  | .int i, .bool j => R (.int (i + b2z j))
  | .bool i, .int j => R (.int (b2z i + j))
  | .str x, .str y => x.length + y.length ≤ 100000 ∧ R (.str (x ++ y))
  | .tuple xs, .tuple ys => xs.length + ys.length ≤ 100000 ∧ R (.tuple (xs ++ ys))
  | .list xs, .list ys => xs.length + ys.length ≤ 100000 ∧ R (.list (xs ++ ys))
  | _, _ => False
def subW : W2 := fun d e R => match d, e with
  | .int i, .int j => R (.int (i - j))
  | .int i, .bool j => R (.int (i - b2z j))
  | .bool i, .int j => R (.int (b2z i - j))
  | _, _ => False
def mulW : W2 := fun d e R => match d, e with
  | .int i, .int j => CMul i j ∧ R (.int (i * j))
  | _, _ => False
def fdivW : W2 := fun d e R => match d, e with
  | .int i, .int j => (0 < j ∧ j < 1073741824) ∧ R (.int (i / j))
  | _, _ => False
def modW : W2 := fun d e R => match d, e with
  | .int i, .int j => 0 < j ∧ R (.int (i % j))
  | _, _ => False
def powW : W2 := fun d e R => match d, e with
  | .int i, .int j => (0 ≤ j ∧ j ≤ 1000000 ∧ i.natAbs < 2 ^ 64) ∧ R (.int (i ^ j.toNat))
  | _, _ => False
/-- data that == is asked of -/
def okEq (d e : PyData) : Prop := d.plain = true ∧ e.plain = true ∧ min d.depth e.depth ≤ 50
def eqW : W2 := fun d e R => match d, e with
  | .int i, .int j => R (.bool (decide (i = j)))
  | .str i, .str j => R (.bool (decide (i = j)))
  | .tuple ds, .tuple [] => R (.bool ds.isEmpty)
  | .list ds, .list [] => R (.bool ds.isEmpty)
  | d, e => okEq d e ∧ R (.bool (PyData.eqv d e))
def neW : W2 := fun d e R => match d, e with
  | .int i, .int j => R (.bool (!decide (i = j)))
  | .str i, .str j => R (.bool (!decide (i = j)))
  | .tuple ds, .tuple [] => R (.bool (!ds.isEmpty))
  | .list ds, .list [] => R (.bool (!ds.isEmpty))
  | d, e => okEq d e ∧ R (.bool (!PyData.eqv d e))
def okLt (d e : PyData) : Prop := PySem.W.alike d e = true ∧ d ≠ .none ∧ min d.depth e.depth ≤ 50
def ltW : W2 := fun d e R => match d, e with
  | .int i, .int j => R (.bool (decide (i < j)))
  | d, e => okLt d e ∧ R (.bool (PySem.W.dataLt d e))
def leW : W2 := fun d e R => match d, e with
  | .int i, .int j => R (.bool (decide (i ≤ j)))
  | d, e => okLt d e ∧ R (.bool (!PySem.W.dataLt e d))
def gtW : W2 := fun d e R => match d, e with
  | .int i, .int j => R (.bool (decide (j < i)))
  | d, e => okLt d e ∧ R (.bool (PySem.W.dataLt e d))
def geW : W2 := fun d e R => match d, e with
  | .int i, .int j => R (.bool (decide (j ≤ i)))
  | d, e => okLt d e ∧ R (.bool (!PySem.W.dataLt d e))
def isNn : PyData → Bool
  | .none => true
  | _ => false
def isW : W2 := fun d e R => match e with
  | .none => R (.bool (isNn d))
  | _ => False
def isntW : W2 := fun d e R => match e with
  | .none => R (.bool (!isNn d))
  | _ => False
def inW : W2 := fun d e R => match e with
  | .list xs => (PyData.plainAll xs = true ∧ d.plain = true ∧ min (PyData.depthAll xs) d.depth ≤ 50) ∧ R (.bool (xs.any fun y => PyData.eqv y d))
  | .tuple xs => (PyData.plainAll xs = true ∧ d.plain = true ∧ min (PyData.depthAll xs) d.depth ≤ 50) ∧ R (.bool (xs.any fun y => PyData.eqv y d))
  | _ => False
def ninW : W2 := fun d e R => match e with
  | .list xs => (PyData.plainAll xs = true ∧ d.plain = true ∧ min (PyData.depthAll xs) d.depth ≤ 50) ∧ R (.bool (!xs.any fun y => PyData.eqv y d))
  | .tuple xs => (PyData.plainAll xs = true ∧ d.plain = true ∧ min (PyData.depthAll xs) d.depth ≤ 50) ∧ R (.bool (!xs.any fun y => PyData.eqv y d))
  | _ => False
/-- x[i] -/
def ixW : W2 := fun d e R => match d, e with
  | .list xs, .int i => ∃ z, atI xs i = some z ∧ R z
  | .tuple xs, .int i => ∃ z, atI xs i = some z ∧ R z
  | _, _ => False
section
variable {X : Cx}
theorem DtAll.atI {H : Hp} {xs : List V} {ds : List PyData} {i : Int} {z : PyData} (h : DtAll H xs ds) (e : L2.atI ds i = some z) : ∃ v, L2.atI xs i = some v ∧ Dt H v z := by
  unfold L2.atI at e ⊢
  rw [h.length]
  cases hj : ixN ds.length i with
  | none => rw [hj] at e; cases e
  | some j =>
    rw [hj] at e
    exact h.getD e
theorem ixr_W {K : PySem.W.Frag} (hK : X.K = K) : IxR X (rD ixW) := by
  intro value slice pins s σ H x y v u Q I rx ry h hs
  obtain ⟨W, d, e, R, h1, h2, hw, k⟩ := h
  cases d <;> cases e <;> first | exact hw.elim | skip
  · obtain ⟨z, hz, hr⟩ := hw
    obtain ⟨a, xs, rfl, sq, al⟩ := h1.seqL (K := X.K)
    obtain ⟨w, hw, t⟩ := al.atI hz
    exact ix_list value slice pins s σ H _ _ v u Q I rx ry ⟨a, xs, _, w, rfl, h2.int, sq, hw, k z w H hr (Ex.refl H) t⟩ hs
  · obtain ⟨z, hz, hr⟩ := hw
    obtain ⟨a, o, xs, rfl, _, _, sq, al⟩ := h1.seqT (K := X.K)
    obtain ⟨w, hw, t⟩ := al.atI hz
    exact ix_tup value slice pins s σ H _ _ v u Q I rx ry ⟨a, xs, _, w, rfl, h2.int, sq, hw, k z w H hr (Ex.refl H) t⟩ hs
theorem op_subW : OpR X (binaryOp .Sub) (rD subW) := by
  intro pins s σ H x y v u Q I rx ry h
  obtain ⟨W, d, e, R, h1, h2, hw, k⟩ := h
  cases d <;> cases e <;> first | exact hw.elim | skip
  · obtain rfl := h1.bool; obtain rfl := h2.int; cases rx; obtain ⟨t, rfl⟩ := ry
    exact PySem.IntBool.sub_bool_int ⟨.int _, H, I.tok _, ⟨_, rfl⟩, k _ _ H hw (Ex.refl H) (.int _)⟩
  · obtain rfl := h1.int; obtain rfl := h2.bool; cases ry; obtain ⟨t, rfl⟩ := rx
    exact PySem.IntBool.sub_int_bool ⟨.int _, H, I.tok _, ⟨_, rfl⟩, k _ _ H hw (Ex.refl H) (.int _)⟩
  · obtain rfl := h1.int; obtain rfl := h2.int
    exact op_sub pins s σ H _ _ v u Q I rx ry ⟨_, _, rfl, rfl, k _ _ H hw (Ex.refl H) (.int _)⟩
theorem op_mulW : OpR X (binaryOp .Mult) (rD mulW) := by
  intro pins s σ H x y v u Q I rx ry h
  obtain ⟨W, d, e, R, h1, h2, hw, k⟩ := h
  cases d <;> cases e <;> first | exact hw.elim | skip
  obtain rfl := h1.int; obtain rfl := h2.int
  exact op_mul pins s σ H _ _ v u Q I rx ry ⟨_, _, rfl, rfl, hw.1, k _ _ H hw.2 (Ex.refl H) (.int _)⟩
theorem op_fdivW : OpR X (binaryOp .FloorDiv) (rD fdivW) := by
  intro pins s σ H x y v u Q I rx ry h
  obtain ⟨W, d, e, R, h1, h2, hw, k⟩ := h
  cases d <;> cases e <;> first | exact hw.elim | skip
  obtain rfl := h1.int; obtain rfl := h2.int
  exact op_fdiv pins s σ H _ _ v u Q I rx ry ⟨_, _, rfl, rfl, hw.1, k _ _ H hw.2 (Ex.refl H) (.int _)⟩
theorem op_modW : OpR X (binaryOp .Mod) (rD modW) := by
  intro pins s σ H x y v u Q I rx ry h
  obtain ⟨W, d, e, R, h1, h2, hw, k⟩ := h
  cases d <;> cases e <;> first | exact hw.elim | skip
  obtain rfl := h1.int; obtain rfl := h2.int
  exact op_mod pins s σ H _ _ v u Q I rx ry ⟨_, _, rfl, rfl, hw.1, k _ _ H hw.2 (Ex.refl H) (.int _)⟩
theorem op_powW : OpR X (binaryOp .Pow) (rD powW) := by
  intro pins s σ H x y v u Q I rx ry h
  obtain ⟨W, d, e, R, h1, h2, hw, k⟩ := h
  cases d <;> cases e <;> first | exact hw.elim | skip
  obtain rfl := h1.int; obtain rfl := h2.int
  exact op_pow pins s σ H _ _ v u Q I rx ry ⟨_, _, rfl, rfl, hw.1, k _ _ H hw.2 (Ex.refl H) (.int _)⟩
/-! tuples -/
theorem op_catZ {pins : List (Addr × Obj)} {s : Shared} {σ : L2.St} {H : Hp} {Q : VK} {a b : Addr} {o o2 : Obj} {xs ys : List V} {ds es : List PyData} (I : Inv X pins σ H s) (ha : H a = some (.frz o (.tup xs))) (na : o.dict = none) (hx : DtAll H xs ds) (hb : H b = some (.frz o2 (.tup ys))) (nb : o2.dict = none) (hy : DtAll H ys es)
    (few : xs.length + ys.length ≤ 100000) (q : ∀ v H', Ex H H' → Dt H' v (.tuple (ds ++ es)) → Q v H') : wpAny (model X.prog X.w) X.A (binaryOp .Add (.ref a) (.ref b)) (EP X pins σ Q) X.xe s := by
  obtain ⟨its, r1, p1, _⟩ := I.tuple (show SqT X.K H a xs from .inl (.inr ⟨o, ha⟩))
  obtain ⟨its2, r2, p2, _⟩ := I.tuple (show SqT X.K H b ys from .inl (.inr ⟨o2, hb⟩))
  by_cases h0 : its = []
  · subst h0
    cases r1
    cases hx
    exact cat_tup0 p1 p2 ⟨.ref b, H, I, rfl, q _ H (Ex.refl H) (.tup hb nb hy)⟩
  · have l1 := r1.length
    have l2 := r2.length
    refine HT.cat_tup p1 p2 h0 (fun z => ?_) (fun z => ?_) (by rw [← l1, ← l2]; exact sz_of few)
    · subst z
      cases r2
      cases hy
      exact ⟨.ref a, H, I, rfl, q _ H (Ex.refl H) (by rw [List.append_nil]; exact .tup ha na hx)⟩
    · have nf : H s.heap.objs.size = none := I.hok.fresh (Nat.le_refl _)
      have here : (s.heap.push { cls := .type "tuple", data := .seq (its ++ its2).toArray }).get? s.heap.objs.size = some { cls := .type "tuple", data := .seq (its ++ its2).toArray } := Heap.get?_push_size _ rfl
      refine ⟨.ref s.heap.objs.size, _, I.laid (t' := s.toks) (o := .frz { cls := .type "tuple", data := .seq (its ++ its2).toArray } (.tup (xs ++ ys))) (fun b ob q => Heap.get?_push_of_some _ q) (Nat.le_refl _) ⟨here, ?_⟩, rfl, q _ _ (Ex.new nf) (.tup upd_same rfl ((hx.append hy).mono (Fk.ex (Ex.new nf))))⟩
      exact ⟨by rw [List.length_append]; exact sz_of few, _, r1.append r2, ⟨_, here, rfl, _, rfl⟩⟩
theorem Dq.lobj {W : Wld} {pins : List (Addr × Obj)} {s : Shared} {σ : L2.St} {H : Hp} {x : V} {v : Value} {ds : List PyData} (I : Inv X pins σ H s) (h : Dq W H x (.list ds)) (r : RelV x v) :
    ∃ a xs its n, v = .ref a ∧ DtAll H xs ds ∧ Vals xs its ∧ s.heap.get? a = some { cls := .type "list", data := .seq its.toArray n } := by
  rcases h with h | ⟨a, ds', rfl, e, _, xs, ha, hx⟩
  · obtain ⟨a, o, xs, rfl, h1, h2⟩ := h.lst_inv
    cases r
    obtain ⟨_, z, its, n, rv, ho⟩ := (show ObjOk X.prog X.w H s.heap a (.frz o (.lst xs)) from I.hok a _ h1)
    exact ⟨a, xs, its, n, rfl, h2, rv, ho⟩
  · cases e
    cases r
    obtain ⟨z, its, n, rv, ho⟩ := (show ObjOk X.prog X.w H s.heap a (.lst xs) from I.hok a _ ha)
    exact ⟨a, xs, its, n, rfl, hx, rv, ho⟩
/-- a new list, locked from the start -/
theorem Inv.lz {pins : List (Addr × Obj)} {s : Shared} {σ : L2.St} {H : Hp} {ys : List V} {its : List Value} (I : Inv X pins σ H s) (hv : Vals ys its) (hz : ys.length ≤ sizeLine) : Inv X pins σ (upd H s.heap.objs.size (.frz { cls := .type "list", data := .seq its.toArray } (.lst ys))) { s with heap := s.heap.push { cls := .type "list", data := .seq its.toArray } } := by
  have here : (s.heap.push { cls := .type "list", data := .seq its.toArray }).get? s.heap.objs.size = some { cls := .type "list", data := .seq its.toArray } := Heap.get?_push_size _ rfl
  exact I.laid (t' := s.toks) (fun _ _ q => Heap.get?_push_of_some _ q) (Nat.le_refl _) ⟨here, hz, its, 0, hv, here⟩
theorem op_addW : OpR X (binaryOp .Add) (rD addW) := by
  intro pins s σ H x y v u Q I rx ry h
  obtain ⟨W, d, e, R, h1, h2, hw, k⟩ := h
  cases d <;> cases e <;> first | exact hw.elim | skip
  · obtain rfl := h1.bool; obtain rfl := h2.int; cases rx; obtain ⟨t, rfl⟩ := ry
    exact PySem.IntBool.add_bool_int ⟨.int _, H, I.tok _, ⟨_, rfl⟩, k _ _ H hw (Ex.refl H) (.int _)⟩
  · obtain rfl := h1.int; obtain rfl := h2.bool; cases ry; obtain ⟨t, rfl⟩ := rx
    exact add_int_bool ⟨.int _, H, I.tok _, ⟨_, rfl⟩, k _ _ H hw (Ex.refl H) (.int _)⟩
  · obtain rfl := h1.int; obtain rfl := h2.int
    exact op_add pins s σ H _ _ v u Q I rx ry ⟨_, _, rfl, rfl, k _ _ H hw (Ex.refl H) (.int _)⟩
  · obtain rfl := h1.str; obtain rfl := h2.str
    exact op_add_str pins s σ H _ _ v u Q I rx ry ⟨_, _, rfl, rfl, sz_of hw.1, k _ _ H hw.2 (Ex.refl H) (.str _)⟩
  · obtain ⟨a, xs, its, n, rfl, t1, r1, e1⟩ := h1.lobj I rx
    obtain ⟨b, ys, its2, n2, rfl, t2, r2, e2⟩ := h2.lobj I ry
    have l1 := r1.length
    have l2 := r2.length
    have l3 := t1.length
    have l4 := t2.length
    have sz := sz_of hw.1
    refine PySem.P.add_list e1 e2 ?_ (by rw [List.size_toArray, List.size_toArray]; omega)
    have ea : its.toArray ++ its2.toArray = (its ++ its2).toArray := by simp
    rw [ea]
    have nf : H s.heap.objs.size = none := I.hok.fresh (Nat.le_refl _)
    exact ⟨.ref _, _, Inv.lz I (r1.append r2) (by rw [List.length_append]; omega), rfl, k _ _ _ hw.2 (Ex.new nf) (.lst upd_same ((t1.append t2).mono (Fk.ex (Ex.new nf))))⟩
  · obtain ⟨a, o, xs, rfl, ha, na, _, hx⟩ := h1.seqT (K := X.K)
    obtain ⟨b, o2, ys, rfl, hb, nb, _, hy⟩ := h2.seqT (K := X.K)
    cases rx
    cases ry
    exact op_catZ I ha na hx hb nb hy (by rw [hx.length, hy.length]; exact hw.1) fun v H' e t => k _ v H' hw.2 e t
/-! comparisons -/
theorem op_eq_gen (ho : XO X) {pins : List (Addr × Obj)} {s : Shared} {σ : L2.St} {H : Hp} {Q : VK} {W : Wld} {x y : V} {v u : Value} {d e : PyData} (I : Inv X pins σ H s) (h1 : Dq W H x d) (h2 : Dq W H y e) (rx : RelV x v) (ry : RelV y u) (ok : okEq d e) (q : Q (.bl (PyData.eqv d e)) H) :
    wpAny (model X.prog X.w) X.A (compareOp .Eq v u) (EP X pins σ Q) X.xe s := by
  obtain ⟨as, r1, _⟩ := h1.reads I rx
  obtain ⟨bs, r2, _⟩ := h2.reads I ry
  have := ho.un
  exact SeqAt.eq_plain r1 r2 ok.1 ok.2.1 (by have := ok.2.2; omega) ⟨.bl _, H, I, rfl, q⟩
theorem op_ne_gen (ho : XO X) {pins : List (Addr × Obj)} {s : Shared} {σ : L2.St} {H : Hp} {Q : VK} {W : Wld} {x y : V} {v u : Value} {d e : PyData} (I : Inv X pins σ H s) (h1 : Dq W H x d) (h2 : Dq W H y e) (rx : RelV x v) (ry : RelV y u) (ok : okEq d e) (q : Q (.bl (!PyData.eqv d e)) H) :
    wpAny (model X.prog X.w) X.A (compareOp .NotEq v u) (EP X pins σ Q) X.xe s := by
  obtain ⟨as, r1, _⟩ := h1.reads I rx
  obtain ⟨bs, r2, _⟩ := h2.reads I ry
  have := ho.un
  exact SeqAt.ne_plain r1 r2 ok.1 ok.2.1 (by have := ok.2.2; omega) ⟨.bl _, H, I, rfl, q⟩
theorem emptyL {W : Wld} {pins : List (Addr × Obj)} {s : Shared} {σ : L2.St} {H : Hp} {x : V} {v : Value} {ds : List PyData} (I : Inv X pins σ H s) (h : Dq W H x (.list ds)) (r : RelV x v) : ∃ a its, v = .ref a ∧ s.heap.IsList a its ∧ its.size = ds.length := by
  obtain ⟨a, xs, rfl, sq, al⟩ := h.seqL (K := X.K)
  cases r
  obtain ⟨its, rv, pl, _⟩ := I.list sq
  exact ⟨a, its.toArray, rfl, pl.isList, by rw [List.size_toArray, ← rv.length, al.length]⟩
theorem emptyT {W : Wld} {pins : List (Addr × Obj)} {s : Shared} {σ : L2.St} {H : Hp} {x : V} {v : Value} {ds : List PyData} (I : Inv X pins σ H s) (h : Dq W H x (.tuple ds)) (r : RelV x v) : ∃ a its, v = .ref a ∧ IsTup s.heap a its ∧ its.size = ds.length := by
  obtain ⟨a, o, xs, rfl, _, _, sq, al⟩ := h.seqT (K := X.K)
  cases r
  obtain ⟨its, rv, pl, _⟩ := I.tuple sq
  exact ⟨a, its.toArray, rfl, pl, by rw [List.size_toArray, ← rv.length, al.length]⟩
theorem op_eqW (ho : XO X) : OpR X (compareOp .Eq) (rD eqW) := by
  intro pins s σ H x y v u Q I rx ry h
  obtain ⟨W, d, e, R, h1, h2, hw, k⟩ := h
  have un := ho.un
  have fin : ∀ c, R (.bool c) → Q (.bl c) H := fun c r => k _ _ H r (Ex.refl H) (.bl c)
  unfold eqW at hw
  split at hw
  · obtain rfl := h1.int; obtain rfl := h2.int
    obtain ⟨t, rfl⟩ := rx; obtain ⟨t', rfl⟩ := ry
    exact eq_int (by rw [Bool.beq_eq_decide_eq]; exact ⟨.bl _, H, I, rfl, fin _ hw⟩)
  · obtain rfl := h1.str; obtain rfl := h2.str
    exact op_eq pins s σ H _ _ v u Q I rx ry ⟨rfl, by have := fin _ hw; simpa using this⟩
  · obtain ⟨a, its, rfl, ta, la⟩ := emptyT I h1 rx
    obtain ⟨b, its2, rfl, tb, lb⟩ := emptyT I h2 ry
    rename_i ds
    refine SeqAt.RcAt.tuples (e := fun _ => true) ta tb (by omega) (fun j h1 h2 => by simp [lb] at h2) X.prog X.w X.xe _ ⟨.bl ds.isEmpty, H, I, ?_, fin _ hw⟩
    show _ = _
    congr 1
    cases ds <;> simp_all
  · obtain ⟨a, its, rfl, ta, la⟩ := emptyL I h1 rx
    obtain ⟨b, its2, rfl, tb, lb⟩ := emptyL I h2 ry
    rename_i ds
    cases ds with
    | nil => exact SeqAt.RcAt.lists (e := fun _ => true) ta tb (by rw [la, lb]) (by omega) (fun j h1 h2 => by simp [lb] at h2) X.prog X.w X.xe _ ⟨.bl true, H, I, by show _ = _; congr 1; simp, fin _ hw⟩
    | cons d ds => exact SeqAt.RcAt.lists_lengths ta tb (by rw [la, lb]; simp) (by omega) X.prog X.w X.xe _ ⟨.bl false, H, I, rfl, fin _ hw⟩
  · exact op_eq_gen ho I h1 h2 rx ry hw.1 (fin _ hw.2)
theorem op_neW (ho : XO X) : OpR X (compareOp .NotEq) (rD neW) := by
  intro pins s σ H x y v u Q I rx ry h
  obtain ⟨W, d, e, R, h1, h2, hw, k⟩ := h
  have un := ho.un
  have fin : ∀ c, R (.bool c) → Q (.bl c) H := fun c r => k _ _ H r (Ex.refl H) (.bl c)
  unfold neW at hw
  split at hw
  · obtain rfl := h1.int; obtain rfl := h2.int
    obtain ⟨t, rfl⟩ := rx; obtain ⟨t', rfl⟩ := ry
    exact ne_int (by rw [bne, Bool.beq_eq_decide_eq]; exact ⟨.bl _, H, I, rfl, fin _ hw⟩)
  · obtain rfl := h1.str; obtain rfl := h2.str
    exact op_ne pins s σ H _ _ v u Q I rx ry ⟨rfl, by have := fin _ hw; simpa using this⟩
  · obtain ⟨a, its, rfl, ta, la⟩ := emptyT I h1 rx
    obtain ⟨b, its2, rfl, tb, lb⟩ := emptyT I h2 ry
    rename_i ds
    refine SeqAt.RcNeAt.tuples (e := fun _ => true) ta tb (by omega) (fun j h1 h2 => by simp [lb] at h2) X.prog X.w X.xe _ ⟨.bl (!ds.isEmpty), H, I, ?_, fin _ hw⟩
    show _ = _
    congr 1
    cases ds <;> simp_all
  · obtain ⟨a, its, rfl, ta, la⟩ := emptyL I h1 rx
    obtain ⟨b, its2, rfl, tb, lb⟩ := emptyL I h2 ry
    rename_i ds
    cases ds with
    | nil => exact SeqAt.RcNeAt.lists (e := fun _ => true) ta tb (by rw [la, lb]) (by omega) (fun j h1 h2 => by simp [lb] at h2) X.prog X.w X.xe _ ⟨.bl false, H, I, by show _ = _; congr 1; simp, fin _ hw⟩
    | cons d ds => exact SeqAt.RcNeAt.lists_lengths ta tb (by rw [la, lb]; simp) (by omega) X.prog X.w X.xe _ ⟨.bl true, H, I, rfl, fin _ hw⟩
  · exact op_ne_gen ho I h1 h2 rx ry hw.1 (fin _ hw.2)
theorem ord_gen (ho : XO X) {op : CmpOp} {w : W2} {f : PyData → PyData → Bool} {g : Int → Int → Bool} (rule : ∀ {A : Around} {s : Shared} {a b : Value} {da db : PyData} {as bs : List Addr} {Q : Value → Shared → Prop}, Reads s.heap a da as → Reads s.heap b db bs → PySem.W.alike da db = true → da ≠ .none → A.units + min da.depth db.depth < cLine → Q (.bool (f da db)) s → wpAny (model X.prog X.w) A (compareOp op a b) Q X.xe s)
    (hints : OpR X (compareOp op) (rI0 fun i j => .bl (g i j))) (hw : ∀ d e R, w d e R → (∃ i j, d = .int i ∧ e = .int j ∧ R (.bool (g i j))) ∨ (okLt d e ∧ R (.bool (f d e)))) : OpR X (compareOp op) (rD w) := by
  intro pins s σ H x y v u Q I rx ry h
  obtain ⟨W, d, e, R, h1, h2, hw', k⟩ := h
  have un := ho.un
  rcases hw d e R hw' with ⟨i, j, rfl, rfl, r⟩ | ⟨ok, r⟩
  · obtain rfl := h1.int; obtain rfl := h2.int
    exact hints pins s σ H _ _ v u Q I rx ry ⟨_, _, rfl, rfl, k _ _ H r (Ex.refl H) (.bl _)⟩
  · obtain ⟨as, r1, _⟩ := h1.reads I rx
    obtain ⟨bs, r2, _⟩ := h2.reads I ry
    exact rule r1 r2 ok.1 ok.2.1 (by have := ok.2.2; omega) ⟨.bl _, H, I, rfl, k _ _ H r (Ex.refl H) (.bl _)⟩
theorem op_ltW (ho : XO X) : OpR X (compareOp .Lt) (rD ltW) := ord_gen ho (f := fun d e => PySem.W.dataLt d e) (fun a b c d e f => PySem.W.lt_data a b c d e f) op_lt fun d e R h => by
  unfold ltW at h
  split at h
  · exact .inl ⟨_, _, rfl, rfl, h⟩
  · exact .inr h
theorem op_leW (ho : XO X) : OpR X (compareOp .LtE) (rD leW) := ord_gen ho (f := fun d e => !PySem.W.dataLt e d) (fun a b c d e f => PySem.W.le_data a b c d e f) op_le fun d e R h => by
  unfold leW at h
  split at h
  · exact .inl ⟨_, _, rfl, rfl, h⟩
  · exact .inr h
theorem op_gtW (ho : XO X) : OpR X (compareOp .Gt) (rD gtW) := ord_gen ho (f := fun d e => PySem.W.dataLt e d) (fun a b c d e f => PySem.W.gt_data a b c d e f) op_gt fun d e R h => by
  unfold gtW at h
  split at h
  · exact .inl ⟨_, _, rfl, rfl, h⟩
  · exact .inr h
theorem op_geW (ho : XO X) : OpR X (compareOp .GtE) (rD geW) := ord_gen ho (f := fun d e => !PySem.W.dataLt d e) (fun a b c d e f => PySem.W.ge_data a b c d e f) op_ge fun d e R h => by
  unfold geW at h
  split at h
  · exact .inl ⟨_, _, rfl, rfl, h⟩
  · exact .inr h
theorem Dq.isNn {W : Wld} {H : Hp} {v : V} {d : PyData} (h : Dq W H v d) : decide (v = .non) = isNn d := by
  rcases h with h | ⟨a, ds', rfl, rfl, _⟩
  · cases h <;> simp [Wp.isNn]
  · simp [Wp.isNn]
theorem op_isW : OpR X (compareOp .Is) (rD isW) := by
  intro pins s σ H x y v u Q I rx ry h
  obtain ⟨W, d, e, R, h1, h2, hw, k⟩ := h
  unfold isW at hw
  split at hw
  · have : y = .non := by rcases h2 with h2 | ⟨_, _, _, z, _⟩; cases h2; rfl; cases z
    exact op_isN pins s σ H _ _ v u Q I rx ry ⟨this, by rw [h1.isNn]; exact k _ _ H hw (Ex.refl H) (.bl _)⟩
  · exact hw.elim
theorem op_isntW : OpR X (compareOp .IsNot) (rD isntW) := by
  intro pins s σ H x y v u Q I rx ry h
  obtain ⟨W, d, e, R, h1, h2, hw, k⟩ := h
  unfold isntW at hw
  split at hw
  · have : y = .non := by rcases h2 with h2 | ⟨_, _, _, z, _⟩; cases h2; rfl; cases z
    exact op_notN pins s σ H _ _ v u Q I rx ry ⟨this, by rw [h1.isNn]; exact k _ _ H hw (Ex.refl H) (.bl _)⟩
  · exact hw.elim
theorem op_inW (ho : XO X) : OpR X (compareOp .In) (rD inW) := by
  intro pins s σ H x y v u Q I rx ry h
  obtain ⟨W, d, e, R, h1, h2, hw, k⟩ := h
  have un := ho.un
  obtain ⟨as, r1, _⟩ := h1.reads I rx
  obtain ⟨bs, r2, _⟩ := h2.reads I ry
  cases e <;> first | exact hw.elim | skip
  · obtain ⟨⟨a, b, c⟩, r⟩ := hw
    exact SeqAt.in_list_data r2 r1 a b (by omega) ⟨.bl _, H, I, rfl, k _ _ H r (Ex.refl H) (.bl _)⟩
  · obtain ⟨⟨a, b, c⟩, r⟩ := hw
    exact SeqAt.in_tuple_data r2 r1 a b (by omega) ⟨.bl _, H, I, rfl, k _ _ H r (Ex.refl H) (.bl _)⟩
theorem op_ninW (ho : XO X) : OpR X (compareOp .NotIn) (rD ninW) := by
  intro pins s σ H x y v u Q I rx ry h
  obtain ⟨W, d, e, R, h1, h2, hw, k⟩ := h
  have un := ho.un
  obtain ⟨as, r1, _⟩ := h1.reads I rx
  obtain ⟨bs, r2, _⟩ := h2.reads I ry
  cases e <;> first | exact hw.elim | skip
  · obtain ⟨⟨a, b, c⟩, r⟩ := hw
    exact SeqAt.notIn_list_data r2 r1 a b (by omega) ⟨.bl _, H, I, rfl, k _ _ H r (Ex.refl H) (.bl _)⟩
  · obtain ⟨⟨a, b, c⟩, r⟩ := hw
    exact SeqAt.notIn_tuple_data r2 r1 a b (by omega) ⟨.bl _, H, I, rfl, k _ _ H r (Ex.refl H) (.bl _)⟩
end
end Wp

namespace Wp
open PySem PySem.Spec PyProof.Rows L2 Evl
/-! ### displays -/
def mNil : WL := fun _ b R => R [] b
def mCons (m : WE) (ms : WL) : WL := fun E b R => m E b fun d b1 => ms E b1 fun ds b2 => R (d :: ds) b2
def mTup (ms : WL) : WE := fun E b R => ms E b fun ds b1 => ds.length ≤ 100000 ∧ R (.tuple ds) b1
def mLst (ms : WL) : WL := fun E b R => ms E b fun ds b1 => ds.length ≤ 100000 ∧ R ds b1
def mLk (m : WL) : WE := fun E b R => m E b fun ds b1 => R (.list ds) b1
section
variable {X : Cx} {e a b : Expr} {es : List Expr} {m ma mb : WE} {ms : WL} {pos : Pos}
theorem pm_anil : PA X [] (tA mNil) := pa_nil.weak fun σ H Q ⟨W, H0, E, b, R, S, hm, k⟩ => k [] b [] H hm Kp.refl S.dk .nil
theorem pm_acons (ha : PE X e (tE m)) (hr : PA X es (tA ms)) (hs : starEach (e :: es) X.env = (false, eval e X.env) :: starEach es X.env := by rfl) : PA X (e :: es) (tA (mCons m ms)) := (pa_cons ha hr hs).weak fun σ H Q ⟨W, H0, E, b, R, S, hm, k⟩ =>
  ⟨W, H0, E, b, _, S, hm, fun d b1 v H1 h1 k1 d1 t1 => ⟨W, H0, E, b1, _, S.step k1 d1, h1, fun ds b2 vs H2 h2 k2 d2 t2 => k _ b2 _ H2 h2 (k1.trans k2) d2 (.cons (t1.mono (W.fk d1 k2)) t2)⟩⟩
def tTupZ (t : TA) : TE := fun σ H Q => t σ H fun xs H1 => xs.length ≤ sizeLine ∧ ∀ p o, H1 p = none → o.dict = none → Q (.ref p) (upd H1 p (.frz o (.tup xs)))
theorem pe_tupZ {k : Nat} {t : TA} (h : PA X es t) : PE X (.Tuple es k pos) (tTupZ t) := by
  refine ⟨fun pins s σ H Q I hq => ?_⟩
  refine wpAny_Tuple_spliced (thn (h.run pos pins s σ H _ I hq) fun us s1 ⟨xs, H1, I1, r, z, q⟩ => ⟨by rw [← r.length]; exact z, ?_⟩)
  have nf : H1 s1.heap.objs.size = none := I1.hok.fresh (Nat.le_refl _)
  have here : (s1.heap.push { cls := .type "tuple", data := .seq us.toArray }).get? s1.heap.objs.size = some { cls := .type "tuple", data := .seq us.toArray } := Heap.get?_push_size _ rfl
  exact ⟨.ref s1.heap.objs.size, upd H1 s1.heap.objs.size (.frz { cls := .type "tuple", data := .seq us.toArray } (.tup xs)), I1.laid (t' := s1.toks) (fun b u e => Heap.get?_push_of_some _ e) (Nat.le_refl _) ⟨here, z, us, r, ⟨_, here, rfl, _, rfl⟩⟩, rfl, q _ _ nf rfl⟩
theorem pm_tup {k : Nat} (h : PA X es (tA ms)) : PE X (.Tuple es k pos) (tE (mTup ms)) := (pe_tupZ h).weak fun σ H Q ⟨W, H0, E, b, R, S, hm, k⟩ =>
  ⟨W, H0, E, b, _, S, hm, fun ds b1 vs H1 h1 k1 d1 t1 => ⟨sz_of (by rw [t1.length]; exact h1.1), fun p o np no => k _ b1 _ _ h1.2 (k1.trans (Kp.ex (Ex.new np))) (W.ex (Ex.new np) d1) (.tup upd_same no (t1.mono (Fk.ex (Ex.new np))))⟩⟩
theorem pm_lst (h : PA X es (tA ms)) : PE X (.List es pos) (tL (mLst ms)) := (pe_lst h).weak fun σ H Q ⟨W, H0, E, b, R, S, hm, k⟩ =>
  ⟨W, H0, E, b, _, S, hm, fun ds b1 vs H1 h1 k1 d1 t1 => ⟨sz_of (by rw [t1.length]; exact h1.1), fun p np => k _ b1 p vs _ h1.2 (k1.trans (Kp.ex (Ex.new np))) (W.ex (Ex.new np) d1) (k1.back (W.free d1 np) np) upd_same (t1.mono (Fk.ex (Ex.new np)))⟩⟩
/-- a new list is locked -/
def tLz (t : TE) : TE := fun σ H Q => t σ H fun v H1 => ∃ a xs, v = .ref a ∧ H1 a = some (.lst xs) ∧ ∀ o, Q (.ref a) (upd H1 a (.frz o (.lst xs)))
theorem pe_lz {t : TE} (h : PE X e t) : PE X e (tLz t) := by
  refine ⟨fun pins s σ H Q I hq => thn (h.run pins s σ H _ I hq) fun u s1 ⟨v, H1, I1, r, a, xs, ev, ha, q⟩ => ?_⟩
  subst ev
  obtain ⟨z, its, n, rv, ho⟩ := (show ObjOk X.prog X.w H1 s1.heap a (.lst xs) from I1.hok a _ ha)
  refine ⟨.ref a, upd H1 a (.frz { cls := .type "list", data := .seq its.toArray n } (.lst xs)), ?_, r, q _⟩
  exact I1.write (t' := s1.toks) (h' := s1.heap) (by rw [ha]; exact True.intro) (.inl rfl) (fun b u _ e => e) ⟨_, ho⟩ ⟨ho, z, its, n, rv, ho⟩
theorem lock_ex {H H1 : Hp} {M : Addr → Prop} {a : Addr} {o : HO} (k : Kp M H H1) (hn : H a = none) : Kp M H (upd H1 a o) := k.mut hn
theorem fk_lock {H : Hp} {a : Addr} {o : Obj} {xs : List V} (h : H a = some (.lst xs)) : Fk H (upd H a (.frz o (.lst xs))) := fun p o' u e => by
  rw [upd_ne (ne_of e h (by intro z; cases z))]
  exact e
theorem _root_.L2.PE.lk (h : PE X e (tL ms)) : PE X e (tE (mLk ms)) := (pe_lz h).weak fun σ H Q ⟨W, H0, E, b, R, S, hm, k⟩ =>
  ⟨W, H0, E, b, _, S, hm, fun ds b1 a xs H1 h1 k1 d1 na ha t1 => ⟨a, xs, rfl, ha, fun o => k _ b1 _ _ h1 (k1.mut na) (W.put (W.free S.dk na) d1) (.lst upd_same (t1.mono (fk_lock ha)))⟩⟩
theorem _root_.L2.PE.lq (h : PE X e (tL ms)) : PE X e (tQ (mLk ms)) := h.weak fun σ H Q ⟨W, H0, E, b, R, S, hm, k⟩ =>
  ⟨W, H0, E, b, _, S, hm, fun ds b1 a xs H1 h1 k1 d1 na ha t1 => k _ b1 _ _ h1 k1 d1 (.inr ⟨a, ds, rfl, rfl, W.free S.dk na, xs, ha, t1⟩)⟩
/-! ### list + list -/
def mCat (ma mb : WE) : WL := fun E b R => ma E b fun x b1 => mb E b1 fun y b2 => match x, y with
  | .list xs, .list ys => xs.length + ys.length ≤ 100000 ∧ R (xs ++ ys) b2
  | _, _ => False
def rCatD : R2 := fun x y H Q => ∃ (W : Wld) (ds es : List PyData), Dq W H x (.list ds) ∧ Dq W H y (.list es) ∧ ds.length + es.length ≤ 100000 ∧ ∀ a xs, H a = none → DtAll H xs (ds ++ es) → Q (.ref a) (upd H a (.lst xs))
theorem op_catD : OpR X (binaryOp .Add) rCatD := by
  intro pins s σ H x y v u Q I rx ry h
  obtain ⟨W, ds, es, h1, h2, few, q⟩ := h
  obtain ⟨a, xs, its, n, rfl, t1, r1, e1⟩ := h1.lobj I rx
  obtain ⟨b, ys, its2, n2, rfl, t2, r2, e2⟩ := h2.lobj I ry
  have l1 := r1.length
  have l2 := r2.length
  have l3 := t1.length
  have l4 := t2.length
  have sz := sz_of few
  refine PySem.P.add_list e1 e2 ?_ (by rw [List.size_toArray, List.size_toArray]; omega)
  have ea : its.toArray ++ its2.toArray = (its ++ its2).toArray := by simp
  rw [ea]
  exact ⟨.ref _, _, I.lnew (t' := s.toks) (r1.append r2) (by rw [List.length_append]; omega), rfl, q _ _ I.fresh (t1.append t2)⟩
theorem pm_cat (ha : PE X a (tQ ma)) (hb : PE X b (tQ mb)) : PE X (.BinOp a .Add b pos) (tL (mCat ma mb)) := (pe_op op_catD ha hb).weak fun σ H Q ⟨W, H0, E, b, R, S, hm, k⟩ => by
  refine ⟨W, H0, E, b, _, S, hm, fun x b1 v H1 h1 k1 d1 t1 => ⟨W, H0, E, b1, _, S.step k1 d1, h1, fun y b2 u H2 h2 k2 d2 t2 => ?_⟩⟩
  cases x <;> first | exact h2.elim | skip
  cases y <;> first | exact h2.elim | skip
  refine ⟨W, _, _, t1.step d1 k2, t2, h2.1, fun a xs na hx => ?_⟩
  exact k _ b2 a xs _ h2.2 ((k1.trans k2).trans (Kp.ex (Ex.new na))) (W.ex (Ex.new na) d2) (k1.back (W.free d1 (k2.back (W.free d2 na) na)) (k2.back (W.free d2 na) na)) upd_same (hx.mono (Fk.ex (Ex.new na)))
/-! ### builtins over data -/
abbrev WB := List PyData → (PyData → Prop) → Prop
abbrev WBL := List PyData → (List PyData → Prop) → Prop
abbrev DqAll (W : Wld) (H : Hp) : List V → List PyData → Prop := Paired (Dq W H)
theorem DqAll.step {W : Wld} {H H1 : Hp} {n : Nat} (dk : W.Dk n H) (k : Kp W.M H H1) : ∀ {vs : List V} {ds : List PyData}, DqAll W H vs ds → DqAll W H1 vs ds
  | _, _, .nil => .nil
  | _, _, .cons a r => .cons (a.step dk k) (DqAll.step dk k r)
def tAq (m : WL) : TA := fun σ H Q => ∃ W H0 E b R, Sit W H0 σ H E b ∧ m E b R ∧ ∀ ds b' vs H', R ds b' → Kp W.M H H' → W.Dk b' H' → DqAll W H' vs ds → Q vs H'
theorem pm_qnil : PA X [] (tAq mNil) := pa_nil.weak fun σ H Q ⟨W, H0, E, b, R, S, hm, k⟩ => k [] b [] H hm Kp.refl S.dk .nil
theorem pm_qcons (ha : PE X e (tQ m)) (hr : PA X es (tAq ms)) (hs : starEach (e :: es) X.env = (false, eval e X.env) :: starEach es X.env := by rfl) : PA X (e :: es) (tAq (mCons m ms)) := (pa_cons ha hr hs).weak fun σ H Q ⟨W, H0, E, b, R, S, hm, k⟩ =>
  ⟨W, H0, E, b, _, S, hm, fun d b1 v H1 h1 k1 d1 t1 => ⟨W, H0, E, b1, _, S.step k1 d1, h1, fun ds b2 vs H2 h2 k2 d2 t2 => k _ b2 _ H2 h2 (k1.trans k2) d2 (.cons (t1.step d1 k2) t2)⟩⟩
def rC (w : WB) : List V → Hp → VK → Prop := fun vs H Q => ∃ (W : Wld) (ds : List PyData) (R : PyData → Prop), DqAll W H vs ds ∧ w ds R ∧ ∀ z v H', R z → Ex H H' → Dt H' v z → Q v H'
def rCL (w : WBL) : List V → Hp → VK → Prop := fun vs H Q => ∃ (W : Wld) (ds : List PyData) (R : List PyData → Prop), DqAll W H vs ds ∧ w ds R ∧ ∀ zs a xs H', R zs → Ex H H' → H a = none → H' a = some (.lst xs) → DtAll H' xs zs → Q (.ref a) H'
def mCB (w : WB) (ms : WL) : WE := fun E b R => ms E b fun ds b1 => w ds fun z => R z b1
def mCL (w : WBL) (ms : WL) : WL := fun E b R => ms E b fun ds b1 => w ds fun z => R z b1
theorem tCB_of {w : WB} {σ : L2.St} {H : Hp} {Q : VK} (h : tE (mCB w ms) σ H Q) : tCB (rC w) (tAq ms) σ H Q := by
  obtain ⟨W, H0, E, b, R, S, hm, k⟩ := h
  exact ⟨W, H0, E, b, _, S, hm, fun ds b1 vs H1 h1 k1 d1 t1 => ⟨W, ds, _, t1, h1, fun z v H2 hz e2 t2 => k z b1 v H2 hz (k1.trans (Kp.ex e2)) (W.ex e2 d1) t2⟩⟩
theorem tCL_of {w : WBL} {σ : L2.St} {H : Hp} {Q : VK} (h : tL (mCL w ms) σ H Q) : tCB (rCL w) (tAq ms) σ H Q := by
  obtain ⟨W, H0, E, b, R, S, hm, k⟩ := h
  exact ⟨W, H0, E, b, _, S, hm, fun ds b1 vs H1 h1 k1 d1 t1 => ⟨W, ds, _, t1, h1, fun zs a xs H2 hz e2 na ha t2 => k zs b1 a xs H2 hz (k1.trans (Kp.ex e2)) (W.ex e2 d1) (k1.back (W.free d1 na) na) ha t2⟩⟩
variable {x : Str} {p : Pos} {id T : String}
theorem pm_callB {w : WB} (hc : CallR X (.builtin id) (rC w)) (hg : Gl X x) (hm : X.mg x = none) (hv : bootBuiltins x = some (.builtin id)) (ha : PA X (e :: es) (tAq ms)) (hn : x ≠ "__name__" := by decide) (hdb : (x == ("__debug__" : Str)) = false := by decide)
    (he : starEach (e :: es) X.env = (false, eval e X.env) :: starEach es X.env := by rfl) (hpl : (backTo pos (starEach es X.env)).any (·.1) = false := by rfl) : PE X (.Call (.Name x p) (e :: es) [] pos) (tE (mCB w ms)) := (pe_callB hc hg hm hv ha hn hdb he hpl).weak fun _ _ _ => tCB_of
theorem pm_callTy {w : WB} (hc : CallR X (.type T) (rC w)) (hg : Gl X x) (hm : X.mg x = none) (hv : bootBuiltins x = some (.type T)) (ha : PA X (e :: es) (tAq ms)) (hn : x ≠ "__name__" := by decide) (hdb : (x == ("__debug__" : Str)) = false := by decide)
    (he : starEach (e :: es) X.env = (false, eval e X.env) :: starEach es X.env := by rfl) (hpl : (backTo pos (starEach es X.env)).any (·.1) = false := by rfl) : PE X (.Call (.Name x p) (e :: es) [] pos) (tE (mCB w ms)) := (pe_callTy hc hg hm hv ha hn hdb he hpl).weak fun _ _ _ => tCB_of
theorem pm_callBL {w : WBL} (hc : CallR X (.builtin id) (rCL w)) (hg : Gl X x) (hm : X.mg x = none) (hv : bootBuiltins x = some (.builtin id)) (ha : PA X (e :: es) (tAq ms)) (hn : x ≠ "__name__" := by decide) (hdb : (x == ("__debug__" : Str)) = false := by decide)
    (he : starEach (e :: es) X.env = (false, eval e X.env) :: starEach es X.env := by rfl) (hpl : (backTo pos (starEach es X.env)).any (·.1) = false := by rfl) : PE X (.Call (.Name x p) (e :: es) [] pos) (tL (mCL w ms)) := (pe_callB hc hg hm hv ha hn hdb he hpl).weak fun _ _ _ => tCL_of
theorem pm_callTyL {w : WBL} (hc : CallR X (.type T) (rCL w)) (hg : Gl X x) (hm : X.mg x = none) (hv : bootBuiltins x = some (.type T)) (ha : PA X (e :: es) (tAq ms)) (hn : x ≠ "__name__" := by decide) (hdb : (x == ("__debug__" : Str)) = false := by decide)
    (he : starEach (e :: es) X.env = (false, eval e X.env) :: starEach es X.env := by rfl) (hpl : (backTo pos (starEach es X.env)).any (·.1) = false := by rfl) : PE X (.Call (.Name x p) (e :: es) [] pos) (tL (mCL w ms)) := (pe_callTy hc hg hm hv ha hn hdb he hpl).weak fun _ _ _ => tCL_of
/-! len, abs, sum, min, max, all, any, tuple, list, int -/
def lenW : WB := fun ds R => match ds with
  | [.list xs] => R (.int xs.length)
  | [.tuple xs] => R (.int xs.length)
  | _ => False
def absW : WB := fun ds R => match ds with
  | [.int i] => R (.int (if i < 0 then -i else i))
  | _ => False
def sumW : WB := fun ds R => match ds with
  | [.list xs] => ∃ ns : List Int, xs = ns.map PyData.int ∧ R (.int ns.sum)
  | _ => False
def minW : WB := fun ds R => match ds with
  | [.int i, .int j] => R (.int (if j < i then j else i))
  | [.list xs] => ∃ ns : List Int, xs = ns.map PyData.int ∧ 0 < ns.length ∧ ∀ m, m ∈ ns → (∀ y ∈ ns, m ≤ y) → R (.int m)
  | _ => False
def maxW : WB := fun ds R => match ds with
  | [.int i, .int j] => R (.int (if j > i then j else i))
  | [.list xs] => ∃ ns : List Int, xs = ns.map PyData.int ∧ 0 < ns.length ∧ ∀ m, m ∈ ns → (∀ y ∈ ns, y ≤ m) → R (.int m)
  | _ => False
def allW : WB := fun ds R => match ds with
  | [.list xs] => ∃ bs : List Bool, xs = bs.map PyData.bool ∧ R (.bool (bs.all _root_.id))
  | _ => False
def anyW : WB := fun ds R => match ds with
  | [.list xs] => ∃ bs : List Bool, xs = bs.map PyData.bool ∧ R (.bool (bs.any _root_.id))
  | _ => False
def tupW : WB := fun ds R => match ds with
  | [.list xs] => R (.tuple xs)
  | [.tuple xs] => R (.tuple xs)
  | _ => False
def lstW : WBL := fun ds R => match ds with
  | [.list xs] => R xs
  | [.tuple xs] => R xs
  | _ => False
def intW : WB := fun ds R => match ds with
  | [.int i] => R (.int i)
  | [.bool c] => R (.int (if c then 1 else 0))
  | _ => False
theorem dq1 {W : Wld} {H : Hp} {vs : List V} {d : PyData} (h : DqAll W H vs [d]) : ∃ v, vs = [v] ∧ Dq W H v d := by
  cases h with
  | cons a r => cases r; exact ⟨_, rfl, a⟩
theorem dq2 {W : Wld} {H : Hp} {vs : List V} {d e : PyData} (h : DqAll W H vs [d, e]) : ∃ v u, vs = [v, u] ∧ Dq W H v d ∧ Dq W H u e := by
  cases h with
  | cons a r => cases r with | cons b r => cases r; exact ⟨_, _, rfl, a, b⟩
theorem DtAll.bools_inv {H : Hp} : ∀ {ns : List Bool} {xs : List V}, DtAll H xs (ns.map PyData.bool) → xs = ns.map V.bl
  | [], _, h => by cases h; rfl
  | n :: ns, _, h => by
    cases h with
    | cons a b => cases a; rw [List.map_cons, b.bools_inv]
theorem Dq.ints {W : Wld} {K : PySem.W.Frag} {H : Hp} {v : V} {ns : List Int} (h : Dq W H v (.list (ns.map PyData.int))) : ∃ a, v = .ref a ∧ SqL K H a (ns.map V.int) := by
  obtain ⟨a, xs, rfl, sq, al⟩ := h.seqL (K := K)
  rw [al.ints_inv] at sq
  exact ⟨a, rfl, sq⟩
theorem Dq.bools {W : Wld} {K : PySem.W.Frag} {H : Hp} {v : V} {ns : List Bool} (h : Dq W H v (.list (ns.map PyData.bool))) : ∃ a, v = .ref a ∧ SqL K H a (ns.map V.bl) := by
  obtain ⟨a, xs, rfl, sq, al⟩ := h.seqL (K := K)
  rw [al.bools_inv] at sq
  exact ⟨a, rfl, sq⟩
theorem cr_lenW : CallR X (.builtin "len") (rC lenW) := by
  intro pins s σ H vs us Q I r h
  obtain ⟨W, ds, R, h1, hw, k⟩ := h
  unfold lenW at hw
  split at hw
  · obtain ⟨v, rfl, t⟩ := dq1 h1
    obtain ⟨a, xs, rfl, sq, al⟩ := t.seqL (K := X.K)
    exact call_len_seq pins s σ H _ us Q I r ⟨a, xs, rfl, .inl sq, k _ _ H (by rw [al.length]; exact hw) (Ex.refl H) (.int _)⟩
  · obtain ⟨v, rfl, t⟩ := dq1 h1
    obtain ⟨a, o, xs, rfl, _, _, sq, al⟩ := t.seqT (K := X.K)
    exact call_len_seq pins s σ H _ us Q I r ⟨a, xs, rfl, .inr sq, k _ _ H (by rw [al.length]; exact hw) (Ex.refl H) (.int _)⟩
  · exact hw.elim
theorem cr_absW : CallR X (.builtin "abs") (rC absW) := by
  intro pins s σ H vs us Q I r h
  obtain ⟨W, ds, R, h1, hw, k⟩ := h
  unfold absW at hw
  split at hw
  · obtain ⟨v, rfl, t⟩ := dq1 h1
    obtain rfl := t.int
    exact call_abs pins s σ H _ us Q I r ⟨_, rfl, k _ _ H hw (Ex.refl H) (.int _)⟩
  · exact hw.elim
theorem cr_sumW (ho : XO X) : CallR X (.builtin "sum") (rC sumW) := by
  intro pins s σ H vs us Q I r h
  obtain ⟨W, ds, R, h1, hw, k⟩ := h
  unfold sumW at hw
  split at hw
  · obtain ⟨ns, rfl, hr⟩ := hw
    obtain ⟨v, rfl, t⟩ := dq1 h1
    obtain ⟨a, rfl, sq⟩ := t.ints (K := X.K)
    exact cr_sum ho.calm pins s σ H _ us Q I r ⟨a, ns, rfl, sq, k _ _ H hr (Ex.refl H) (.int _)⟩
  · exact hw.elim
theorem cr_minW (ho : XO X) : CallR X (.builtin "min") (rC minW) := by
  intro pins s σ H vs us Q I r h
  obtain ⟨W, ds, R, h1, hw, k⟩ := h
  unfold minW at hw
  split at hw
  · obtain ⟨v, u, rfl, t, t'⟩ := dq2 h1
    obtain rfl := t.int
    obtain rfl := t'.int
    exact call_min2 ho.calm pins s σ H _ us Q I r ⟨_, _, rfl, k _ _ H hw (Ex.refl H) (.int _)⟩
  · obtain ⟨ns, rfl, h0, hr⟩ := hw
    obtain ⟨v, rfl, t⟩ := dq1 h1
    obtain ⟨a, rfl, sq⟩ := t.ints (K := X.K)
    exact cr_min ho.calm pins s σ H _ us Q I r ⟨a, ns, rfl, sq, h0, fun m m1 m2 => k _ _ H (hr m m1 m2) (Ex.refl H) (.int _)⟩
  · exact hw.elim
theorem cr_maxW (ho : XO X) : CallR X (.builtin "max") (rC maxW) := by
  intro pins s σ H vs us Q I r h
  obtain ⟨W, ds, R, h1, hw, k⟩ := h
  unfold maxW at hw
  split at hw
  · obtain ⟨v, u, rfl, t, t'⟩ := dq2 h1
    obtain rfl := t.int
    obtain rfl := t'.int
    exact call_max2 ho.calm pins s σ H _ us Q I r ⟨_, _, rfl, k _ _ H hw (Ex.refl H) (.int _)⟩
  · obtain ⟨ns, rfl, h0, hr⟩ := hw
    obtain ⟨v, rfl, t⟩ := dq1 h1
    obtain ⟨a, rfl, sq⟩ := t.ints (K := X.K)
    exact cr_max ho.calm pins s σ H _ us Q I r ⟨a, ns, rfl, sq, h0, fun m m1 m2 => k _ _ H (hr m m1 m2) (Ex.refl H) (.int _)⟩
  · exact hw.elim
theorem cr_allW (ho : XO X) : CallR X (.builtin "all") (rC allW) := by
  intro pins s σ H vs us Q I r h
  obtain ⟨W, ds, R, h1, hw, k⟩ := h
  unfold allW at hw
  split at hw
  · obtain ⟨ns, rfl, hr⟩ := hw
    obtain ⟨v, rfl, t⟩ := dq1 h1
    obtain ⟨a, rfl, sq⟩ := t.bools (K := X.K)
    exact cr_all ho.calm pins s σ H _ us Q I r ⟨a, ns, rfl, sq, k _ _ H hr (Ex.refl H) (.bl _)⟩
  · exact hw.elim
theorem cr_anyW (ho : XO X) : CallR X (.builtin "any") (rC anyW) := by
  intro pins s σ H vs us Q I r h
  obtain ⟨W, ds, R, h1, hw, k⟩ := h
  unfold anyW at hw
  split at hw
  · obtain ⟨ns, rfl, hr⟩ := hw
    obtain ⟨v, rfl, t⟩ := dq1 h1
    obtain ⟨a, rfl, sq⟩ := t.bools (K := X.K)
    exact cr_any ho.calm pins s σ H _ us Q I r ⟨a, ns, rfl, sq, k _ _ H hr (Ex.refl H) (.bl _)⟩
  · exact hw.elim
theorem cr_intW : CallR X (.type "int") (rC intW) := by
  intro pins s σ H vs us Q I r h
  obtain ⟨W, ds, R, h1, hw, k⟩ := h
  unfold intW at hw
  split at hw
  · obtain ⟨v, rfl, t⟩ := dq1 h1
    obtain rfl := t.int
    exact call_int1 pins s σ H _ us Q I r (.inl ⟨_, rfl, k _ _ H hw (Ex.refl H) (.int _)⟩)
  · obtain ⟨v, rfl, t⟩ := dq1 h1
    obtain rfl := t.bool
    exact call_int1 pins s σ H _ us Q I r (.inr ⟨_, rfl, k _ _ H hw (Ex.refl H) (.int _)⟩)
  · exact hw.elim
theorem cr_lstW : CallR X (.type "list") (rCL lstW) := by
  intro pins s σ H vs us Q I r h
  obtain ⟨W, ds, R, h1, hw, k⟩ := h
  unfold lstW at hw
  split at hw
  · obtain ⟨v, rfl, t⟩ := dq1 h1
    obtain ⟨a, xs, rfl, sq, al⟩ := t.seqL (K := X.K)
    exact call_list_of pins s σ H _ us Q I r ⟨a, xs, rfl, .inl sq, fun l hl => k _ l xs _ hw (Ex.new hl) hl upd_same (al.mono (Fk.ex (Ex.new hl)))⟩
  · obtain ⟨v, rfl, t⟩ := dq1 h1
    obtain ⟨a, o, xs, rfl, _, _, sq, al⟩ := t.seqT (K := X.K)
    exact call_list_of pins s σ H _ us Q I r ⟨a, xs, rfl, .inr sq, fun l hl => k _ l xs _ hw (Ex.new hl) hl upd_same (al.mono (Fk.ex (Ex.new hl)))⟩
  · exact hw.elim
theorem cr_tupW : CallR X (.type "tuple") (rC tupW) := by
  intro pins s σ H vs us Q I r h
  obtain ⟨W, ds, R, h1, hw, k⟩ := h
  unfold tupW at hw
  split at hw
  · obtain ⟨v, rfl, t⟩ := dq1 h1
    obtain ⟨a, ys, rfl, sq, al⟩ := t.seqL (K := X.K)
    obtain ⟨_, rfl, rp⟩ := vals1 r
    cases rp
    obtain ⟨its, rv, pl, size⟩ := I.list sq
    have len := rv.length
    refine call_tuple_list pl.isList (fun h' kp => ?_) (by simp only [List.size_toArray]; omega)
    have I1 := I.kept (h' := h') (t' := s.toks) kp
    have nf : H h'.objs.size = none := I1.hok.fresh (Nat.le_refl _)
    have here : (h'.push { cls := .type "tuple", data := .seq its.toArray }).get? h'.objs.size = some { cls := .type "tuple", data := .seq its.toArray } := Heap.get?_push_size _ rfl
    exact ⟨.ref h'.objs.size, _, I1.laid (o := .frz { cls := .type "tuple", data := .seq its.toArray } (.tup ys)) (t' := s.toks) (fun b o e => Heap.get?_push_of_some _ e) (Nat.le_refl _) ⟨here, size, its, rv, ⟨_, here, rfl, _, rfl⟩⟩, rfl,
      k _ _ _ hw (Ex.new nf) (.tup upd_same rfl (al.mono (Fk.ex (Ex.new nf))))⟩
  · obtain ⟨v, rfl, t⟩ := dq1 h1
    obtain ⟨a, o, xs, rfl, ha, na, sq, al⟩ := t.seqT (K := X.K)
    exact call_tupleT pins s σ H _ us Q I r ⟨a, xs, rfl, sq, k _ _ H hw (Ex.refl H) (.tup ha na al)⟩
  · exact hw.elim
end
end Wp

namespace Wp
open PySem PySem.Spec PyProof.Rows L2 Evl
/-! ### values that a name takes -/
abbrev WV := Env → Nat → (Sl → Nat → Prop) → Prop
def Own (H : Hp) (v : V) (s : Sl) : Prop := isOwn s = true → ∃ a, v = .ref a ∧ H a = none
def tV (m : WV) : TE := fun σ H Q => ∃ W H0 E b R, Sit W H0 σ H E b ∧ m E b R ∧ ∀ s b' v H', R s b' → Kp W.M H H' → W.Dk b' H' → SlR W H0.h0 H' (some v) s → Own H v s → Q v H'
def vD (m : WE) : WV := fun E b R => m E b fun d b1 => R (.d d) b1
def vL (m : WL) : WV := fun E b R => m E b fun ds b1 => R (.l ds) b1
section
variable {W : Wld} {H H1 : Hp} {H0 : Bs} {σ : L2.St} {E : Env} {b b1 : Nat}
/-- an own thing of the env stands in the heap -/
theorem Sit.there (S : Sit W H0 σ H E b) {j : Nat} {t : Sl} (e : E[j]? = some t) (o : isOwn t = true) : ∃ a, σ[j]? = some (some (.ref a)) ∧ H a ≠ none := by
  obtain ⟨u, h1, h2⟩ := S.at_ j t e
  cases t <;> simp [isOwn] at o
  · obtain ⟨a, rfl, _, _, xs, h', _⟩ := h2; exact ⟨a, h1, by rw [h']; simp⟩
  · obtain ⟨a, rfl, _, _, xs, h', _⟩ := h2; exact ⟨a, h1, by rw [h']; simp⟩
  · obtain ⟨a, rfl, _, h'⟩ := h2; exact h'.elim
theorem Sit.setV {i : Nat} {v : V} {s : Sl} (S : Sit W H0 σ H E b) (h : SlR W H0.h0 H (some v) s) (ap : isOwn s = true → ∀ (j : Nat) (t : Sl), j ≠ i → E[j]? = some t → isOwn t = true → σ[j]? ≠ some (some v)) : Sit W H0 (σ.set i (some v)) H (E.set i s) b := by
  refine ⟨by simp [S.len], fun j t e => ?_, fun p q s1 t a' ne h1 o1 h2 o2 e => ?_, S.kp, S.dk, S.fk⟩
  · by_cases hj : i = j
    · subst hj
      have hl : i < E.length := by have := (List.getElem?_eq_some_iff.mp e).1; simpa using this
      rw [List.getElem?_set_self hl] at e
      cases e
      exact ⟨_, List.getElem?_set_self (by rw [S.len]; exact hl), h⟩
    · rw [List.getElem?_set_ne hj] at e
      obtain ⟨u, h1, h2⟩ := S.at_ j t e
      exact ⟨u, by rw [List.getElem?_set_ne hj]; exact h1, h2⟩
  · by_cases hp : i = p
    · subst hp
      have hl : i < E.length := by have := (List.getElem?_eq_some_iff.mp h1).1; simpa using this
      rw [List.getElem?_set_self (by rw [S.len]; exact hl)] at e
      rw [List.getElem?_set_self hl] at h1
      cases e
      cases h1
      rw [List.getElem?_set_ne ne] at h2 ⊢
      exact ap o1 q t (Ne.symm ne) h2 o2
    · rw [List.getElem?_set_ne hp] at h1 e
      by_cases hq : i = q
      · subst hq
        intro z
        have hl : i < E.length := by have := (List.getElem?_eq_some_iff.mp h2).1; simpa using this
        rw [List.getElem?_set_self (by rw [S.len]; exact hl)] at z
        rw [List.getElem?_set_self hl] at h2
        cases z
        cases h2
        exact ap o2 p s1 ne h1 o1 e
      · rw [List.getElem?_set_ne hq] at h2 ⊢
        exact S.apart p q s1 t a' ne h1 o1 h2 o2 e
end
section
variable {X : Cx} {e a b : Expr} {es : List Expr} {m ma mb : WE} {ms : WL} {pos : Pos}
theorem _root_.L2.PE.vd (h : PE X e (tE m)) : PE X e (tV (vD m)) := h.weak fun σ H Q ⟨W, H0, E, b, R, S, hm, k⟩ =>
  ⟨W, H0, E, b, _, S, hm, fun d b1 v H1 h1 k1 d1 t1 => k _ b1 v H1 h1 k1 d1 ⟨v, rfl, t1⟩ (fun o => by cases o)⟩
theorem _root_.L2.PE.vl (h : PE X e (tL ms)) : PE X e (tV (vL ms)) := h.weak fun σ H Q ⟨W, H0, E, b, R, S, hm, k⟩ =>
  ⟨W, H0, E, b, _, S, hm, fun ds b1 a xs H1 h1 k1 d1 na ha t1 => k _ b1 _ H1 h1 k1 d1 ⟨a, rfl, S.kp.back (W.free S.dk na) na, W.free S.dk na, xs, ha, t1⟩ (fun _ => ⟨a, rfl, na⟩)⟩
/-- {} -/
def vM0 : WV := fun _ b R => R (.m []) b
theorem pm_d0 : PE X (.Dict [] [] pos) (tV vM0) := pe_dnewK.weak fun σ H Q ⟨W, H0, E, b, R, S, hm, k⟩ p np =>
  k _ b _ _ hm (Kp.ex (Ex.new np)) (W.ex (Ex.new np) S.dk) ⟨p, rfl, S.kp.back (W.free S.dk np) np, W.free S.dk np, [], upd_same, .nil⟩ (fun _ => ⟨p, rfl, np⟩)
/-! ### statements -/
theorem _root_.L2.PS.weak {st : Stmt} {t t' : TS} (h : PS X st t) (k : ∀ D σ H, t' D σ H → t D σ H) : PS X st t' := ⟨fun pins s σ H D I q => h.run pins s σ H D I (k D σ H q)⟩
theorem _root_.L2.PSs.weak {st : List Stmt} {t t' : TS} (h : PSs X st t) (k : ∀ D σ H, t' D σ H → t D σ H) : PSs X st t' := ⟨fun pins s σ H D I q => h.run pins s σ H D I (k D σ H q)⟩
def mSkip : WS := fun E b F => F.nx E b
def mSeq (m n : WS) : WS := fun E b F => m E b { F with nx := fun E' b' => n E' b' F }
def mAsg (i : Nat) (m : WV) : WS := fun E b F => m E b fun s b1 => F.nx (E.set i s) b1
def mRet (m : WE) : WS := fun E b F => m E b F.rt
def mIfS (c : WT) (m n : WS) : WS := fun E b F => c E b fun c b1 => if c = true then m E b1 F else n E b1 F
def mDrop (m : WE) : WS := fun E b F => m E b fun _ b1 => F.nx E b1
theorem pm_skip : PSs X [] (tS mSkip) := pss_nil.weak fun D σ H ⟨W, H0, E, b, F, S, hm, k⟩ => k.nx σ H E b S hm
theorem pm_one1 {st : Stmt} {n : WS} (h : PS X st (tS n)) : PSs X [st] (tS n) := pss_one h
theorem pm_seq {st : Stmt} {rest : List Stmt} {m n : WS} (h1 : PS X st (tS m)) (h2 : PSs X rest (tS n)) : PSs X (st :: rest) (tS (mSeq m n)) := (pss_cons h1 h2).weak fun D σ H ⟨W, H0, E, b, F, S, hm, k⟩ =>
  ⟨W, H0, E, b, _, S, hm, ⟨fun σ' H' E' b' S' h' => ⟨W, H0, E', b', F, S', h', k⟩, k.bk, k.ct, k.rt⟩⟩
theorem pm_ret (he : PE X e (tE m)) : PS X (.Return (some e) pos) (tS (mRet m)) := (ps_ret he).weak fun D σ H ⟨W, H0, E, b, F, S, hm, k⟩ =>
  ⟨W, H0, E, b, _, S, hm, fun d b1 v H1 h1 k1 d1 t1 => k.rt d b1 v H1 h1 (S.kp.trans k1) d1 t1⟩
theorem pm_retN : PS X (.Return none pos) (tS (mRet (mC .none))) := ps_retN.weak fun D σ H ⟨W, H0, E, b, F, S, hm, k⟩ => k.rt _ b _ H hm S.kp S.dk .non
theorem pm_if {c : Expr} {p q : List Stmt} {mc : WT} {m n : WS} (hc : PT X c (tT mc)) (ha : PSs X p (tS m)) (hb : PSs X q (tS n)) : PS X (.If c p q pos) (tS (mIfS mc m n)) := (ps_if hc ha hb).weak fun D σ H ⟨W, H0, E, b, F, S, hm, k⟩ => by
  refine ⟨W, H0, E, b, _, S, hm, fun c b1 H1 h1 k1 d1 => ?_⟩
  cases c with
  | true => exact ⟨W, H0, E, b1, F, S.step k1 d1, h1, k⟩
  | false => exact ⟨W, H0, E, b1, F, S.step k1 d1, h1, k⟩
theorem pm_drop (he : PE X e (tE m)) (hs : swapsWith e none pos.line X.env = pure false := by rfl) : PS X (.Expr e pos) (tS (mDrop m)) := (ps_expr he hs).weak fun D σ H ⟨W, H0, E, b, F, S, hm, k⟩ =>
  ⟨W, H0, E, b, _, S, hm, fun d b1 v H1 h1 k1 d1 t1 => k.nx σ H1 E b1 (S.step k1 d1) h1⟩
theorem apart_new {W : Wld} {H H1 : Hp} {H0 : Bs} {σ : L2.St} {E : Env} {b : Nat} {v : V} {s : Sl} {i : Nat} (S : Sit W H0 σ H E b) (o : Own H v s) : isOwn s = true → ∀ (j : Nat) (t : Sl), j ≠ i → E[j]? = some t → isOwn t = true → σ[j]? ≠ some (some v) := fun os j t _ e ot z => by
  obtain ⟨a, rfl, na⟩ := o os
  obtain ⟨a', h1, h2⟩ := S.there e ot
  rw [h1] at z
  cases z
  exact h2 na
theorem pm_asg {i : Nat} {x : Str} {n : WV} {pos' : Pos} (hN : X.N.Nodup) (hi : X.N[i]? = some x) (hx : Loc X.env.scope x) (he : PE X e (tV n)) (hs : swapsWith e (some (.Name x pos')) pos.line X.env = pure false := by rfl) (hf : X.fn x = true ∨ X.env.scope.names.lookup x = some .local := by first | exact .inl rfl | exact .inr rfl | assumption) :
    PS X (.Assign [.Name x pos'] e pos) (tS (mAsg i n)) := (ps_set hN hi hx he hs hf).weak fun D σ H ⟨W, H0, E, b, F, S, hm, k⟩ =>
  ⟨W, H0, E, b, _, S, hm, fun s b1 v H1 h1 k1 d1 t1 o => k.nx _ H1 _ b1 ((S.step k1 d1).setV t1 (apart_new (H1 := H1) S o)) h1⟩
/-! several values at once -/
abbrev WVs := Env → Nat → (List Sl → Nat → Prop) → Prop
inductive Vs (W : Wld) (H0 H H' : Hp) : List V → List Sl → Prop
  | nil : Vs W H0 H H' [] []
  | cons {v : V} {vs : List V} {s : Sl} {ss : List Sl} : SlR W H0 H' (some v) s → Own H v s → (isOwn s = true → ∀ (j : Nat) (t : Sl), ss[j]? = some t → isOwn t = true → vs[j]? ≠ some v) → Vs W H0 H H' vs ss → Vs W H0 H H' (v :: vs) (s :: ss)
def tVs (m : WVs) : TA := fun σ H Q => ∃ W H0 E b R, Sit W H0 σ H E b ∧ m E b R ∧ ∀ ss b' vs H', R ss b' → Kp W.M H H' → W.Dk b' H' → Vs W H0.h0 H H' vs ss → Q vs H'
def vNil : WVs := fun _ b R => R [] b
def vCons (m : WV) (ms : WVs) : WVs := fun E b R => m E b fun s b1 => ms E b1 fun ss b2 => R (s :: ss) b2
theorem pm_vnil : PA X [] (tVs vNil) := pa_nil.weak fun σ H Q ⟨W, H0, E, b, R, S, hm, k⟩ => k [] b [] H hm Kp.refl S.dk .nil
theorem Vs.back {W : Wld} {H0 H H1 H2 : Hp} {n : Nat} (dk : W.Dk n H1) (k : Kp W.M H H1) : ∀ {vs : List V} {ss : List Sl}, (∀ a, H a ≠ none → H1 a ≠ none) → Vs W H0 H1 H2 vs ss → Vs W H0 H H2 vs ss
  | _, _, _, .nil => .nil
  | _, _, hk, .cons a o n r => .cons a (fun os => by
      obtain ⟨p, e, z⟩ := o os
      exact ⟨p, e, Classical.byContradiction fun w => hk p w z⟩) n (Vs.back dk k hk r)
theorem kp_some {W : Wld} {H H1 : Hp} {n n1 : Nat} (d : W.Dk n H) (d1 : W.Dk n1 H1) (k : Kp W.M H H1) (a : Addr) (h : H a ≠ none) : H1 a ≠ none := by
  by_cases z : W.M a
  · obtain ⟨xs, e⟩ := W.lst z d1
    rw [e]; simp
  · cases e : H a with
    | none => exact absurd e h
    | some o => rw [k a o z e]; simp
theorem Vs.notin {W : Wld} {H0 H H' : Hp} {a : Addr} (h : H a ≠ none) : ∀ {vs : List V} {ss : List Sl}, Vs W H0 H H' vs ss → ∀ (j : Nat) (t : Sl), ss[j]? = some t → isOwn t = true → vs[j]? ≠ some (.ref a)
  | _, _, .nil, j, t, e, _ => by simp at e
  | _, _, .cons q o n r, 0, t, e, ot => by
    simp at e
    subst e
    obtain ⟨p, rfl, z⟩ := o ot
    simp
    intro w
    subst w
    exact h z
  | _, _, .cons q o n r, j + 1, t, e, ot => by
    simpa using Vs.notin h r j t (by simpa using e) ot
theorem pm_vcons {n : WV} {ns : WVs} (ha : PE X e (tV n)) (hr : PA X es (tVs ns)) (hs : starEach (e :: es) X.env = (false, eval e X.env) :: starEach es X.env := by rfl) : PA X (e :: es) (tVs (vCons n ns)) := (pa_cons ha hr hs).weak fun σ H Q ⟨W, H0, E, b, R, S, hm, k⟩ => by
  refine ⟨W, H0, E, b, _, S, hm, fun s b1 v H1 h1 k1 d1 t1 o1 => ⟨W, H0, E, b1, _, S.step k1 d1, h1, fun ss b2 vs H2 h2 k2 d2 t2 => k _ b2 _ H2 h2 (k1.trans k2) d2 ?_⟩⟩
  refine .cons (t1.step d1 k2) o1 (fun os => ?_) (t2.back d1 k1 (fun a => kp_some S.dk d1 k1 a))
  obtain ⟨a, rfl, na⟩ := o1 os
  have ha1 : H1 a ≠ none := by
    cases s <;> simp [isOwn] at os
    · obtain ⟨a', e', _, _, xs, h', _⟩ := t1; cases e'; rw [h']; simp
    · obtain ⟨a', e', _, _, xs, h', _⟩ := t1; cases e'; rw [h']; simp
    · obtain ⟨a', e', _, h'⟩ := t1; exact h'.elim
  exact t2.notin ha1
end
end Wp

namespace Wp
open PySem PySem.Spec PyProof.Rows L2 Evl
def stAll : List Nat → List V → L2.St → L2.St
  | i :: is, v :: vs, σ => stAll is vs (σ.set i (some v))
  | _, _, σ => σ
def enAll : List Nat → List Sl → Env → Env
  | i :: is, s :: ss, E => enAll is ss (E.set i s)
  | _, _, E => E
theorem Sit.setAll {W : Wld} {H0 : Bs} {H H' : Hp} {b : Nat} : ∀ {is : List Nat} {vs : List V} {ss : List Sl} {σ : L2.St} {E : Env}, Vs W H0.h0 H H' vs ss → is.length = vs.length → Sit W H0 σ H' E b →
    (∀ (j : Nat) (t : Sl) (a : Addr), E[j]? = some t → isOwn t = true → σ[j]? = some (some (.ref a)) → ∀ (k : Nat) (t' : Sl), ss[k]? = some t' → isOwn t' = true → vs[k]? ≠ some (.ref a)) → Sit W H0 (stAll is vs σ) H' (enAll is ss E) b
  | [], _, _, _, _, .nil, _, S, _ => S
  | [], _, _, _, _, .cons _ _ _ _, l, _, _ => by simp at l
  | _ :: _, _, _, _, _, .nil, l, _, _ => by simp at l
  | i :: is, v :: vs, s :: ss, σ, E, .cons h o n r, l, S, ap => by
    have refOf : isOwn s = true → ∃ a, v = .ref a := fun os => by obtain ⟨a, e, _⟩ := o os; exact ⟨a, e⟩
    have S1 : Sit W H0 (σ.set i (some v)) H' (E.set i s) b := S.setV h fun os j t nj e ot z => by
      obtain ⟨a, rfl⟩ := refOf os
      exact ap j t a e ot z 0 s rfl os rfl
    refine Sit.setAll (is := is) r (by simpa using l) S1 fun j t a e ot hz k t' ek ot' => ?_
    by_cases hj : i = j
    · subst hj
      have hl : i < E.length := by have := (List.getElem?_eq_some_iff.mp e).1; simpa using this
      rw [List.getElem?_set_self hl] at e
      rw [List.getElem?_set_self (by rw [S.len]; exact hl)] at hz
      cases e
      cases hz
      exact n ot k t' ek ot'
    · rw [List.getElem?_set_ne hj] at e hz
      have := ap j t a e ot hz (k + 1) t' (by simpa using ek) ot'
      simpa using this
theorem Sit.parAll {W : Wld} {H0 : Bs} {H H' : Hp} {b b' : Nat} {is : List Nat} {vs : List V} {ss : List Sl} {σ : L2.St} {E : Env} (S : Sit W H0 σ H E b) (k : Kp W.M H H') (d : W.Dk b' H') (h : Vs W H0.h0 H H' vs ss) (l : is.length = vs.length) : Sit W H0 (stAll is vs σ) H' (enAll is ss E) b' :=
  Sit.setAll h l (S.step k d) fun j t a e ot hz k t' ek ot' => by
    obtain ⟨a', h1, h2⟩ := S.there e ot
    rw [hz] at h1
    cases h1
    exact h.notin h2 k t' ek ot'
theorem Vs.length {W : Wld} {H0 H H' : Hp} : ∀ {vs : List V} {ss : List Sl}, Vs W H0 H H' vs ss → vs.length = ss.length
  | _, _, .nil => rfl
  | _, _, .cons _ _ _ r => by simp [r.length]
/-- a, b, .. = x, y, .. -/
def mPar (is : List Nat) (ms : WVs) : WS := fun E b F => ms E b fun ss b1 => ss.length = is.length ∧ F.nx (enAll is ss E) b1
section
variable {X : Cx} {e a b : Expr} {es : List Expr} {m ma mb : WE} {ms : WVs} {pos : Pos}
theorem pm_par2 {i j : Nat} {x y : Str} {px py pt : Pos} {kt k2 pt2} (hc : X.calm = true) (hN : X.N.Nodup) (hi : X.N[i]? = some x) (hj : X.N[j]? = some y) (hij : i ≠ j)
    (hx : X.env.scope.names.lookup x = some .local) (hy : X.env.scope.names.lookup y = some .local) (ha : PA X [a, b] (tVs ms))
    (hw : swappedStores [.Tuple [.Name x px, .Name y py] kt pt] (.Tuple [a, b] k2 pt2) X.env = pure (some [x, y]))
    (hs : swapsWithSole [.Tuple [.Name x px, .Name y py] kt pt] (.Tuple [a, b] k2 pt2) pos.line X.env = pure false := by rfl) :
    PS X (.Assign [.Tuple [.Name x px, .Name y py] kt pt] (.Tuple [a, b] k2 pt2) pos) (tS (mPar [i, j] ms)) := (ps_par hc hN hi hj hij hx hy ha hw hs).weak fun D σ H ⟨W, H0, E, b, F, S, hm, k⟩ => by
  refine ⟨W, H0, E, b, _, S, hm, fun ss b1 vs H1 h1 k1 d1 t1 => ?_⟩
  have l := t1.length
  rw [h1.1] at l
  match vs, l with
  | [v, w], _ => exact ⟨v, w, rfl, k.nx _ H1 _ b1 (S.parAll (is := [i, j]) k1 d1 t1 rfl) h1.2⟩
/-- .. by way of a tuple: names in a row -/
def gAll : List Nat → TGs
  | [] => gNil
  | i :: is => gCons (gName i) (gAll is)
theorem gAll_of {H : Hp} {Q : L2.St → Hp → Prop} : ∀ {is : List Nat} {vs : List V} {σ : L2.St}, is.length = vs.length → Q (stAll is vs σ) H → gAll is vs σ H Q
  | [], [], _, _, q => ⟨rfl, q⟩
  | [], _ :: _, _, l, _ => by simp at l
  | _ :: _, [], _, l, _ => by simp at l
  | i :: is, v :: vs, σ, l, q => ⟨v, vs, rfl, gAll_of (is := is) (by simpa using l) q⟩
theorem pm_parT {K : PySem.W.Frag} {is : List Nat} {tg : Expr} {k2 : Nat} {pt2 : Pos} (ha : PA X es (tVs ms)) (hg : PG X tg (gTup K is.length (gAll is))) (few : is.length ≤ 100) (hs : swapsWithSole [tg] (.Tuple es k2 pt2) pos.line X.env = pure false := by rfl) (hw : swappedStores [tg] (.Tuple es k2 pt2) X.env = pure none := by rfl)
    (h1 : (assignEach [tg] X.env).map (·.2) = [assign tg X.env] := by rfl) : PS X (.Assign [tg] (.Tuple es k2 pt2) pos) (tS (mPar is ms)) := (ps_asg (pe_tup ha) hg hs hw h1).weak fun D σ H ⟨W, H0, E, b, F, S, hm, k⟩ => by
  refine ⟨W, H0, E, b, _, S, hm, fun ss b1 vs H1 h1 k1 d1 t1 => ?_⟩
  have l := t1.length
  rw [h1.1] at l
  refine ⟨by have := sz_of (n := vs.length) (by omega); exact this, fun p np => ?_⟩
  refine ⟨p, vs, rfl, .inl (.inl upd_same), l, gAll_of l.symm ?_⟩
  exact k.nx _ _ _ b1 ((S.parAll k1 d1 t1 l.symm).ex (Ex.new np)) h1.2
/-! targets -/
abbrev WG1 := PyData → Env → (Env → Prop) → Prop
abbrev WGs := List PyData → Env → (Env → Prop) → Prop
def bName (i : Nat) : WG1 := fun x E R => R (E.set i (.d x))
def bTup (n : Nat) (t : WGs) : WG1 := fun x E R => match x with
  | .tuple xs => xs.length = n ∧ t xs E R
  | _ => False
def bNil : WGs := fun xs E R => match xs with
  | [] => R E
  | _ => False
def bCons (t : WG1) (u : WGs) : WGs := fun xs E R => match xs with
  | x :: r => t x E fun E1 => u r E1 R
  | [] => False
def Sm (ws : List Nat) (σ σ' : L2.St) : Prop := σ'.length = σ.length ∧ ∀ j, j ∉ ws → σ'[j]? = σ[j]?
theorem Sm.refl {ws : List Nat} {σ : L2.St} : Sm ws σ σ := ⟨rfl, fun _ _ => rfl⟩
/-- what is bound: data, or a new tuple of data -/
def Bd (K : PySem.W.Frag) (H : Hp) (v : V) (x : PyData) : Prop := ∃ a vs xs, v = .ref a ∧ x = .tuple xs ∧ SqT K H a vs ∧ DtAll H vs xs
structure GB (B : Hp → V → PyData → Prop) (ws : List Nat) (g : TG) (t : WG1) : Prop where
  run : ∀ {W : Wld} {H0 : Bs} {H : Hp} {σ : L2.St} {E : Env} {b : Nat} {v : V} {x : PyData} {R : Env → Prop} {Q : L2.St → Hp → Prop}, Sit W H0 σ H E b → B H v x → t x E R → (∀ σ' E', R E' → Sm ws σ σ' → Sit W H0 σ' H E' b → Q σ' H) → g v σ H Q
structure GBs (ws : List Nat) (g : TGs) (t : WGs) : Prop where
  run : ∀ {W : Wld} {H0 : Bs} {H : Hp} {σ : L2.St} {E : Env} {b : Nat} {vs : List V} {xs : List PyData} {R : Env → Prop} {Q : L2.St → Hp → Prop}, Sit W H0 σ H E b → DtAll H vs xs → t xs E R → (∀ σ' E', R E' → Sm ws σ σ' → Sit W H0 σ' H E' b → Q σ' H) → g vs σ H Q
theorem gb_name {i : Nat} : GB Dt [i] (gName i) (bName i) := ⟨fun S t h k => k _ _ h ⟨by simp, fun j hj => List.getElem?_set_ne (fun z => hj (by simp [z]))⟩ (S.setD t)⟩
theorem gb_nil : GBs [] gNil bNil := by
  refine ⟨fun {W H0 H σ E b vs xs R Q} S t h k => ?_⟩
  cases t with
  | nil => exact ⟨rfl, k _ _ h Sm.refl S⟩
  | cons _ _ => exact h.elim
theorem gb_cons {w1 w2 : List Nat} {g : TG} {gs : TGs} {t : WG1} {u : WGs} (h1 : GB Dt w1 g t) (h2 : GBs w2 gs u) : GBs (w1 ++ w2) (gCons g gs) (bCons t u) := by
  refine ⟨fun {W H0 H σ E b vs xs R Q} S a h k => ?_⟩
  cases a with
  | nil => exact h.elim
  | cons a r =>
    refine ⟨_, _, rfl, h1.run S a h fun σ1 E1 hr s1 S1 => h2.run S1 r hr fun σ2 E2 hr2 s2 S2 => k σ2 E2 hr2 ⟨s2.1.trans s1.1, fun j hj => ?_⟩ S2⟩
    have hj' : j ∉ w1 ∧ j ∉ w2 := by simpa using hj
    rw [s2.2 j hj'.2, s1.2 j hj'.1]
theorem gt_tup {K : PySem.W.Frag} {ws : List Nat} {n : Nat} {gs : TGs} {u : WGs} (h : GBs ws gs u) : GB (Bd K) ws (gTup K n gs) (bTup n u) := by
  refine ⟨fun {W H0 H σ E b v x R Q} S a hb k => ?_⟩
  obtain ⟨p, vs, xs, rfl, rfl, sq, al⟩ := a
  exact ⟨p, vs, rfl, sq, by rw [al.length]; exact hb.1, h.run S al hb.2 k⟩
theorem gb_tup {K : PySem.W.Frag} {ws : List Nat} {n : Nat} {gs : TGs} {u : WGs} (h : GBs ws gs u) : GB Dt ws (gTup K n gs) (bTup n u) := by
  refine ⟨fun {W H0 H σ E b v x R Q} S a hb k => ?_⟩
  unfold bTup at hb
  split at hb
  · obtain ⟨p, o, xs, rfl, ha, _, al⟩ := a.tup_inv
    exact ⟨p, xs, rfl, .inl (.inr ⟨o, ha⟩), by rw [al.length]; exact hb.1, h.run S al hb.2 k⟩
  · exact hb.elim
/-- a, b = e, e data -/
def mUnp (t : WG1) (m : WE) : WS := fun E b F => m E b fun d b1 => t d E fun E1 => F.nx E1 b1
theorem pm_unp {tg : Expr} {g : TG} {t : WG1} {ws : List Nat} (he : PE X e (tE m)) (hg : PG X tg g) (hb : GB Dt ws g t) (hs : swapsWithSole [tg] e pos.line X.env = pure false := by rfl) (hw : swappedStores [tg] e X.env = pure none := by rfl)
    (h1 : (assignEach [tg] X.env).map (·.2) = [assign tg X.env] := by rfl) : PS X (.Assign [tg] e pos) (tS (mUnp t m)) := (ps_asg he hg hs hw h1).weak fun D σ H ⟨W, H0, E, b, F, S, hm, k⟩ =>
  ⟨W, H0, E, b, _, S, hm, fun d b1 v H1 h1 k1 d1 t1 => hb.run (S.step k1 d1) t1 h1 fun σ' E' hr _ S' => k.nx σ' H1 E' b1 S' hr⟩
/-! ### loops -/
def mTurns (t : WG1) (m : WS) : List PyData → WS
  | [] => fun E b F => F.nx E b
  | x :: xs => fun E b F => t x E fun E1 => m E1 b { F with nx := fun E2 b2 => mTurns t m xs E2 b2 F, ct := fun E2 b2 => mTurns t m xs E2 b2 F, bk := F.nx }
def itemsOf : PyData → Option (List PyData)
  | .list xs => some xs
  | .tuple xs => some xs
  | _ => none
/-- for t in e -/
def mFor (t : WG1) (me : WE) (m : WS) : WS := fun E b F => me E b fun d b1 => match d with
  | .list xs => mTurns t m xs E b1 F
  | .tuple xs => mTurns t m xs E b1 F
  | _ => False
theorem turns_for {J : It} {n : Nat} {G : Hp → Prop} {Y : Nat → Hp → V → Hp → Prop} (w : Walk J n G Y) {W : Wld} {H0 : Bs} {H : Hp} {σ : L2.St} {E : Env} {b : Nat} {F : WEnds} {D : Ends} {g : TG} {t : WG1} {m : WS} {xs : List PyData} {B : Hp → V → PyData → Prop} {ws : List Nat} (gb : GB B ws g t) (S : Sit W H0 σ H E b) (k : Acc W H0 F D)
    (hn : xs.length = n) (hG : ∀ H', Fk H H' → G H') (hm : mTurns t m xs E b F) (hY : ∀ i H1 v H2, Fk H H1 → Y i H1 v H2 → Ex H1 H2 ∧ ∃ x, xs[i]? = some x ∧ B H2 v x) :
    ∃ P : Nat → Nat → L2.St → Hp → Prop, (∃ c, P 0 c σ H) ∧ ∀ i c σ H, P i c σ H → (J.stop i H ∧ D.nx σ H) ∨ (J.go i H ∧ ∃ N : L2.St → Hp → Prop, (∀ σ' H', N σ' H' → ∃ c', c' < c ∧ P (i + 1) c' σ' H') ∧ ∀ x H', J.yld i H x H' → g x σ H' fun σ2 H2 => tS m { D with nx := N, ct := N, bk := D.nx } σ2 H2) := by
  have wk : ∀ {σ' H' E' b'}, Sit W ⟨H0.h0, H⟩ σ' H' E' b' → Sit W H0 σ' H' E' b' := fun S' => ⟨S'.len, S'.at_, S'.apart, S'.kp, S'.dk, S.fk.trans S'.fk⟩
  refine for_it w (fun i σ' H' => ∃ E' b', Sit W ⟨H0.h0, H⟩ σ' H' E' b' ∧ mTurns t m (xs.drop i) E' b' F) ⟨E, b, ⟨S.len, S.at_, S.apart, S.kp, S.dk, fun _ _ _ h => h⟩, by simpa using hm⟩ (fun i σ' H' _ ⟨E', b', S', _⟩ => hG H' S'.fk) ?_ ?_
  · rintro i v σ' H1 H2 hi ⟨E', b', S', hm'⟩ hy
    obtain ⟨e12, x, hx, tx⟩ := hY i H1 v H2 S'.fk hy
    have hd : xs.drop i = x :: xs.drop (i + 1) := by
      obtain ⟨hl, e⟩ := List.getElem?_eq_some_iff.mp hx
      rw [List.drop_eq_getElem_cons hl, e]
    rw [hd] at hm'
    refine gb.run (S'.ex e12) tx hm' fun σ2 E2 h2 _ S2 => ?_
    exact ⟨W, ⟨H0.h0, H⟩, E2, b', _, S2, h2, ⟨fun σ3 H3 E3 b3 S3 h3 => ⟨E3, b3, S3, h3⟩, fun σ3 H3 E3 b3 S3 h3 => k.nx σ3 H3 E3 b3 (wk S3) h3, fun σ3 H3 E3 b3 S3 h3 => ⟨E3, b3, S3, h3⟩, k.rt⟩⟩
  · rintro σ' H' ⟨E', b', S', hm'⟩
    rw [← hn, List.drop_length] at hm'
    exact k.nx σ' H' E' b' (wk S') hm'
/-- a walk over a list or a tuple, whichever it is -/
def iSq (K : PySem.W.Frag) (tl : TE) : TI := fun σ H R => tl σ H fun x H1 => ∃ a, x = .ref a ∧ ((∃ xs, SqL K H1 a xs ∧ R (Itl K a) H1) ∨ ∃ xs, SqT K H1 a xs ∧ R (Itt K a) H1)
theorem pi_sq {tg l : Expr} {tl : TE} {K : PySem.W.Frag} (hK : X.K = K) (hl : PE X l tl) : PI X tg l (iSq K tl) := by
  subst hK
  refine ⟨fun pins s σ H R I h => thn (hl.run pins s σ H _ I h) fun v s1 ⟨x, H1, I1, r1, a, ex, q1⟩ => ?_⟩
  subst ex
  cases r1
  have nf := I1.hok.fresh (Nat.le_refl s1.heap.objs.size)
  have fin : ∀ c ∈ [s1.heap.objs.size], FpOk X pins H1 c := fun c hc => by rw [List.mem_singleton.mp hc]; exact I1.fpOk (Nat.le_refl _) nf
  rcases q1 with ⟨xs, hq, q⟩ | ⟨xs, hq, q⟩
  · obtain ⟨its, _, pl, _⟩ := I1.list hq
    exact wpAny_pyIter_list pl.isList ⟨_, [s1.heap.objs.size], _, _, H1, rfl, I1.kept (t' := s1.toks) (fun _ _ z => Heap.get?_push_of_some _ z), turn_list a _, ⟨_, Heap.get?_push_size _ rfl, rfl, rfl⟩, fin, q⟩
  · obtain ⟨its, _, pl, _⟩ := I1.tuple hq
    exact wpAny_pyIter_tuple pl ⟨_, [s1.heap.objs.size], _, _, H1, rfl, I1.kept (t' := s1.toks) (fun _ _ z => Heap.get?_push_of_some _ z), turn_tuple a _, ⟨_, Heap.get?_push_size _ rfl, rfl, rfl⟩, fin, q⟩
theorem pm_for {ws : List Nat} {K : PySem.W.Frag} {tg iter : Expr} {body : List Stmt} {g : TG} {t : WG1} {m : WS} {me : WE} (hK : X.K = K) (hp : PassesOwn (model X.prog X.w) X.A X.env X.xe) (hc : X.calm = true) (hi : PE X iter (tE me)) (hg : PG X tg g) (gb : GB Dt ws g t) (hb : PSs X body (tS m)) (hs : ∀ x, foldedSetIterable iter X.env x = pure x := by intro _; rfl) : PS X (.For tg iter body [] pos) (tS (mFor t me m)) :=
  (ps_for hp hc (pi_sq hK hi) hg hb hs).weak fun D σ H ⟨W, H0, E, b, F, S, hm, k⟩ => by
    refine ⟨W, H0, E, b, _, S, hm, fun d b1 v H1 h1 k1 d1 t1 => ?_⟩
    have S1 := S.step k1 d1
    cases d <;> first | exact h1.elim | skip
    · obtain ⟨a, o, xs, rfl, ha, al⟩ := t1.lst_inv
      refine ⟨a, rfl, .inl ⟨xs, .inl (.inr ⟨o, ha⟩), ?_⟩⟩
      refine turns_for (walk_list (K := K) (a := a) (xs := xs)) gb S1 k al.length.symm (fun H' f => .inl (.inr ⟨o, f _ _ _ ha⟩)) h1 ?_
      rintro i H2 x _ f ⟨rfl, hx⟩
      obtain ⟨dd, h2, h3⟩ := al.get hx
      exact ⟨Ex.refl _, dd, h2, h3.mono f⟩
    · obtain ⟨a, o, xs, rfl, ha, _, al⟩ := t1.tup_inv
      refine ⟨a, rfl, .inr ⟨xs, .inl (.inr ⟨o, ha⟩), ?_⟩⟩
      refine turns_for (walk_tup (K := K) (a := a) (xs := xs)) gb S1 k al.length.symm (fun H' f => .inl (.inr ⟨o, f _ _ _ ha⟩)) h1 ?_
      rintro i H2 x _ f ⟨rfl, hx⟩
      obtain ⟨dd, h2, h3⟩ := al.get hx
      exact ⟨Ex.refl _, dd, h2, h3.mono f⟩
/-- for t in range(n) -/
def rngD (lo : Int) (n : Nat) : List PyData := (List.range n).map fun i : Nat => PyData.int (lo + (i : Int))
def mForR (t : WG1) (ms : WL) (m : WS) : WS := fun E b F => ms E b fun ds b1 => match ds with
  | [.int j] => (-(2 ^ 62) ≤ j ∧ j < 2 ^ 62) ∧ mTurns t m (rngD 0 j.toNat) E b1 F
  | _ => False
def mForR2 (t : WG1) (ms : WL) (m : WS) : WS := fun E b F => ms E b fun ds b1 => match ds with
  | [.int i, .int j] => (-(2 ^ 62) ≤ i ∧ i < 2 ^ 62 ∧ -(2 ^ 62) ≤ j ∧ j < 2 ^ 62) ∧ mTurns t m (rngD i (j - i).toNat) E b1 F
  | _ => False
theorem rngD_get {lo : Int} {n i : Nat} (h : i < n) : (rngD lo n)[i]? = some (.int (lo + (i : Int))) := by simp [rngD, h]
theorem rngD_len {lo : Int} {n : Nat} : (rngD lo n).length = n := by simp [rngD]
theorem turns_rng {ws : List Nat} {W : Wld} {H0 : Bs} {H : Hp} {σ : L2.St} {E : Env} {b : Nat} {F : WEnds} {D : Ends} {g : TG} {t : WG1} {m : WS} {lo : Int} {n : Nat} (gb : GB Dt ws g t) (S : Sit W H0 σ H E b) (k : Acc W H0 F D) (hm : mTurns t m (rngD lo n) E b F) :
    ∃ P : Nat → Nat → L2.St → Hp → Prop, (∃ c, P 0 c σ H) ∧ ∀ i c σ H, P i c σ H → ((Itr lo n).stop i H ∧ D.nx σ H) ∨ ((Itr lo n).go i H ∧ ∃ N : L2.St → Hp → Prop, (∀ σ' H', N σ' H' → ∃ c', c' < c ∧ P (i + 1) c' σ' H') ∧ ∀ x H', (Itr lo n).yld i H x H' → g x σ H' fun σ2 H2 => tS m { D with nx := N, ct := N, bk := D.nx } σ2 H2) := by
  have w : Walk (Itr lo n) n (fun _ => True) (fun i H x H' => i < n ∧ H' = H ∧ x = .int (lo + i)) := ⟨fun _ _ hi _ => hi, fun _ _ => Nat.le_refl _, fun i _ _ _ hi _ y => ⟨hi, y⟩⟩
  refine turns_for w gb S k rngD_len (fun _ _ => trivial) hm ?_
  rintro i H1 x H2 _ ⟨hi, rfl, rfl⟩
  exact ⟨Ex.refl _, _, rngD_get hi, .int _⟩
theorem pm_forR {ws : List Nat} {tg e1 : Expr} {p pos' : Pos} {body : List Stmt} {g : TG} {t : WG1} {m : WS} {me : WL} (hp : PassesOwn (model X.prog X.w) X.A X.env X.xe) (hc : X.calm = true) (hgl : Gl X "range") (hm0 : X.mg "range" = none) (ha : PA X [e1] (tA me)) (hg : PG X tg g) (gb : GB Dt ws g t) (hb : PSs X body (tS m))
    (hs1 : starEach [e1] X.env = [(false, eval e1 X.env)] := by rfl) (hs : ∀ x, foldedSetIterable (.Call (.Name "range" p) [e1] [] pos') X.env x = pure x := by intro _; rfl) : PS X (.For tg (.Call (.Name "range" p) [e1] [] pos') body [] pos) (tS (mForR t me m)) :=
  (ps_for hp hc (pi_range1 hgl hm0 ha hs1) hg hb hs).weak fun D σ H ⟨W, H0, E, b, F, S, hm, k⟩ => by
    refine ⟨W, H0, E, b, _, S, hm, fun ds b1 vs H1 h1 k1 d1 t1 => ?_⟩
    have S1 := S.step k1 d1
    match ds, h1, t1 with
    | [.int j], h1, .cons (.int _) .nil => exact ⟨j, rfl, h1.1.1, h1.1.2, turns_rng gb S1 k h1.2⟩
theorem pm_forR2 {ws : List Nat} {tg e1 e2 : Expr} {p pos' : Pos} {body : List Stmt} {g : TG} {t : WG1} {m : WS} {me : WL} (hp : PassesOwn (model X.prog X.w) X.A X.env X.xe) (hc : X.calm = true) (hgl : Gl X "range") (hm0 : X.mg "range" = none) (ha : PA X [e1, e2] (tA me)) (hg : PG X tg g) (gb : GB Dt ws g t) (hb : PSs X body (tS m))
    (hi : ∀ (ta : TA), PA X [e1, e2] ta → PI X tg (.Call (.Name "range" p) [e1, e2] [] pos') (iRng2 ta)) (hs : ∀ x, foldedSetIterable (.Call (.Name "range" p) [e1, e2] [] pos') X.env x = pure x := by intro _; rfl) : PS X (.For tg (.Call (.Name "range" p) [e1, e2] [] pos') body [] pos) (tS (mForR2 t me m)) :=
  (ps_for hp hc (hi _ ha) hg hb hs).weak fun D σ H ⟨W, H0, E, b, F, S, hm, k⟩ => by
    refine ⟨W, H0, E, b, _, S, hm, fun ds b1 vs H1 h1 k1 d1 t1 => ?_⟩
    have S1 := S.step k1 d1
    match ds, h1, t1 with
    | [.int i, .int j], h1, .cons (.int _) (.cons (.int _) .nil) => exact ⟨i, j, rfl, h1.1, turns_rng gb S1 k h1.2⟩
/-! ### append -/
def mApp (i : Nat) (m : WE) : WS := fun E b F => match E[i]? with
  | some (.l ds) => m E b fun d b1 => ds.length < 100000 ∧ F.nx (E.set i (.l (ds ++ [d]))) b1
  | _ => False
theorem Sit.put {W : Wld} {H0 : Bs} {H : Hp} {σ : L2.St} {E : Env} {b i : Nat} {a : Addr} {s s' : Sl} {o o' : HO} (S : Sit W H0 σ H E b) (hE : E[i]? = some s) (os : isOwn s = true) (os' : isOwn s' = true) (hσ : σ[i]? = some (some (.ref a))) (h0 : H0.h0 a = none) (nM : ¬ W.M a) (ha : H a = some o) (nf : ∀ q u, o ≠ .frz q u)
    (h : SlR W H0.h0 (upd H a o') (some (.ref a)) s') : Sit W H0 σ (upd H a o') (E.set i s') b := by
  have fk : Fk H (upd H a o') := fun p q u e => by
    rw [upd_ne (fun z => by subst z; rw [ha] at e; cases e; exact nf _ _ rfl)]
    exact e
  have hl : i < E.length := (List.getElem?_eq_some_iff.mp hE).1
  refine ⟨by simp [S.len], fun j t e => ?_, fun p q s1 t a' ne h1 o1 h2 o2 e => ?_, S.kp.mut h0, W.put nM S.dk, S.fk.trans fk⟩
  · by_cases hj : i = j
    · subst hj
      rw [List.getElem?_set_self hl] at e
      cases e
      exact ⟨_, hσ, h⟩
    · rw [List.getElem?_set_ne hj] at e
      obtain ⟨u, h1, h2⟩ := S.at_ j t e
      refine ⟨u, h1, ?_⟩
      have nea : ∀ a', u = some (.ref a') → isOwn t = true → a' ≠ a := fun a' eu ot z => by
        subst z
        exact S.apart i j s t a' hj hE os e ot hσ (by rw [h1, eu])
      have neb : ∀ a', H0.h0 a' ≠ none → a' ≠ a := fun a' z w => z (by rw [w]; exact h0)
      cases t with
      | no => trivial
      | d x => obtain ⟨v, e1, t1⟩ := h2; exact ⟨v, e1, t1.mono fk⟩
      | l x => obtain ⟨v, rfl, e2, nm, xs, hx, t1⟩ := h2; exact ⟨v, rfl, e2, nm, xs, by rw [upd_ne (nea v rfl rfl)]; exact hx, t1.mono fk⟩
      | m x => obtain ⟨v, rfl, e2, nm, xs, hx, t1⟩ := h2; exact ⟨v, rfl, e2, nm, xs, by rw [upd_ne (nea v rfl rfl)]; exact hx, t1.mono fk⟩
      | n x => obtain ⟨v, rfl, e2, nm⟩ := h2; exact nm.elim
      | rl x => obtain ⟨v, rfl, e2, nm, xs, hx, t1⟩ := h2; exact ⟨v, rfl, e2, nm, xs, by rw [upd_ne (neb v e2)]; exact hx, t1.mono fk⟩
      | rm x => obtain ⟨v, rfl, e2, nm, xs, hx, t1⟩ := h2; exact ⟨v, rfl, e2, nm, xs, by rw [upd_ne (neb v e2)]; exact hx, t1.mono fk⟩
      | rn x => obtain ⟨v, rfl, e2, nm⟩ := h2; exact nm.elim
      | s _ => exact h2
  · have q1 : ∃ s0, E[p]? = some s0 ∧ isOwn s0 = true := by
      by_cases hp : i = p
      · subst hp; exact ⟨s, hE, os⟩
      · rw [List.getElem?_set_ne hp] at h1; exact ⟨s1, h1, o1⟩
    have q2 : ∃ s0, E[q]? = some s0 ∧ isOwn s0 = true := by
      by_cases hp : i = q
      · subst hp; exact ⟨s, hE, os⟩
      · rw [List.getElem?_set_ne hp] at h2; exact ⟨t, h2, o2⟩
    obtain ⟨s2, e2, k2⟩ := q1
    obtain ⟨s3, e3, k3⟩ := q2
    exact S.apart p q s2 s3 a' ne e2 k2 e3 k3 e
theorem mApp_some {i : Nat} {E : Env} {b : Nat} {F : WEnds} (h : mApp i m E b F) : ∃ ds, E[i]? = some (.l ds) ∧ m E b fun d b1 => ds.length < 100000 ∧ F.nx (E.set i (.l (ds ++ [d]))) b1 := by
  unfold mApp at h
  split at h
  · exact ⟨_, by assumption, h⟩
  · exact h.elim
/-- what a list of one's own was ahead -/
theorem Sit.ownL {W : Wld} {H0 : Bs} {H : Hp} {σ : L2.St} {E : Env} {b i : Nat} {ds : List PyData} (S : Sit W H0 σ H E b) (h : E[i]? = some (.l ds)) : ∃ a xs, σ[i]? = some (some (.ref a)) ∧ H0.h0 a = none ∧ ¬ W.M a ∧ H a = some (.lst xs) ∧ DtAll H xs ds := by
  obtain ⟨v, h1, a, rfl, h2, h3, xs, h4, h5⟩ := S.at_ i _ h
  exact ⟨a, xs, h1, h2, h3, h4, h5⟩
theorem fk_put {H : Hp} {a : Addr} {xs : List V} {o : HO} (h : H a = some (.lst xs)) : Fk H (upd H a o) := fun p q u e => by
  rw [upd_ne (ne_of e h (by intro z; cases z))]
  exact e
theorem pm_app {K : PySem.W.Frag} {i : Nat} {c : Expr} (h : PE X c (tBM K "list" rAppend (tVar i) (tCons (tE m) tNil))) (hs : swapsWith c none pos.line X.env = pure false := by rfl) : PS X (.Expr c pos) (tS (mApp i m)) :=
  (ps_expr h hs).weak fun D σ H ⟨W, H0, E, b, F, S, hm, k⟩ => by
    obtain ⟨ds, hE, hm⟩ := mApp_some hm
    obtain ⟨a, xs, hσ, h0, nM, ha, al⟩ := S.ownL hE
    refine ⟨_, hσ, .inl ⟨rfl, xs, .inl (.inl ha)⟩, W, H0, E, b, _, S, hm, fun d b1 v H1 h1 k1 d1 t1 => ?_⟩
    have ha1 := k1 a _ nM ha
    have al1 := al.mono (W.fk S.dk k1)
    refine ⟨a, xs, v, rfl, rfl, ha1, sz_lt (by rw [al.length]; exact h1.1), ?_⟩
    have S1 := S.step k1 d1
    exact k.nx _ _ _ b1 (S1.put (s' := .l (ds ++ [d])) hE rfl rfl hσ h0 nM ha1 (fun q u z => by cases z) ⟨a, rfl, h0, nM, xs ++ [v], upd_same, ((al1.append (.cons t1 .nil)).mono (fk_put ha1))⟩) h1.2
end
end Wp

namespace Wp
open PySem PySem.Spec PyProof.Rows L2 Evl
/-! ### comprehensions -/
def wipeE (E : Env) : List Nat → Env
  | [] => E
  | v :: vs => (wipeE E vs).set v .no
def mYes : WT := fun _ b R => R true b
def mComp (t : WG1) (mt : WT) (ml : WE) (E : Env) : List PyData → List PyData → Nat → (List PyData → Nat → Prop) → Prop
  | [], acc, b, R => R acc b
  | x :: xs, acc, b, R => t x E fun E1 => mt E1 b fun c b1 => if c = true then ml E1 b1 fun y b2 => acc.length < 100000 ∧ mComp t mt ml E xs (acc ++ [y]) b2 R else mComp t mt ml E xs acc b1 R
/-- [ml for t in me if mt] -/
def mLc (t : WG1) (me : WE) (mt : WT) (ml : WE) (vs : List Nat) : WL := fun E b R => me E b fun d b1 => match d with
  | .list xs => mComp t mt ml (wipeE E vs) xs [] b1 R
  | .tuple xs => mComp t mt ml (wipeE E vs) xs [] b1 R
  | _ => False
def mLcR (t : WG1) (ms : WL) (mt : WT) (ml : WE) (vs : List Nat) : WL := fun E b R => ms E b fun ds b1 => match ds with
  | [.int j] => (-(2 ^ 62) ≤ j ∧ j < 2 ^ 62) ∧ mComp t mt ml (wipeE E vs) (rngD 0 j.toNat) [] b1 R
  | _ => False
def mLcR2 (t : WG1) (ms : WL) (mt : WT) (ml : WE) (vs : List Nat) : WL := fun E b R => ms E b fun ds b1 => match ds with
  | [.int i, .int j] => (-(2 ^ 62) ≤ i ∧ i < 2 ^ 62 ∧ -(2 ^ 62) ≤ j ∧ j < 2 ^ 62) ∧ mComp t mt ml (wipeE E vs) (rngD i (j - i).toNat) [] b1 R
  | _ => False
def zipD : List PyData → List PyData → List PyData
  | x :: xs, y :: ys => .tuple [x, y] :: zipD xs ys
  | _, _ => []
def mLcZ (t : WG1) (ms : WL) (mt : WT) (ml : WE) (vs : List Nat) : WL := fun E b R => ms E b fun ds b1 => match ds with
  | [.list xs, .list ys] => mComp t mt ml (wipeE E vs) (zipD xs ys) [] b1 R
  | _ => False
section
variable {W : Wld} {H0 : Bs} {H H1 : Hp} {σ : L2.St} {E : Env} {b b1 : Nat}
theorem Sit.no {i : Nat} (S : Sit W H0 σ H E b) : Sit W H0 (σ.set i none) H (E.set i .no) b := by
  refine ⟨by simp [S.len], fun j t e => ?_, fun p q s1 t a' ne h1 o1 h2 o2 e => ?_, S.kp, S.dk, S.fk⟩
  · by_cases hj : i = j
    · subst hj
      have hl : i < E.length := by have := (List.getElem?_eq_some_iff.mp e).1; simpa using this
      rw [List.getElem?_set_self hl] at e
      cases e
      exact ⟨_, List.getElem?_set_self (by rw [S.len]; exact hl), trivial⟩
    · rw [List.getElem?_set_ne hj] at e
      obtain ⟨u, h1, h2⟩ := S.at_ j t e
      exact ⟨u, by rw [List.getElem?_set_ne hj]; exact h1, h2⟩
  · have np : i ≠ p := fun z => by
      subst z
      have hl : i < E.length := by have := (List.getElem?_eq_some_iff.mp h1).1; simpa using this
      rw [List.getElem?_set_self hl] at h1
      cases h1; cases o1
    have nq : i ≠ q := fun z => by
      subst z
      have hl : i < E.length := by have := (List.getElem?_eq_some_iff.mp h2).1; simpa using this
      rw [List.getElem?_set_self hl] at h2
      cases h2; cases o2
    rw [List.getElem?_set_ne np] at h1 e
    rw [List.getElem?_set_ne nq] at h2 ⊢
    exact S.apart p q s1 t a' ne h1 o1 h2 o2 e
theorem Sit.wipe (S : Sit W H0 σ H E b) : ∀ vs : List Nat, Sit W H0 (L2.wipe σ vs) H (wipeE E vs) b
  | [] => S
  | v :: vs => (Sit.wipe S vs).no
theorem wipe_in {σ : L2.St} {i : Nat} : ∀ {vs : List Nat}, i ∈ vs → i < σ.length → (L2.wipe σ vs)[i]? = some none
  | v :: vs, h, l => by
    show ((L2.wipe σ vs).set v none)[i]? = _
    by_cases e : v = i
    · subst e
      rw [List.getElem?_set_self (by rw [wipe_length]; exact l)]
    · rw [List.getElem?_set_ne e]
      rcases List.mem_cons.mp h with z | z
      · exact absurd z.symm e
      · exact wipe_in z l
theorem wipe_sm {ws vs : List Nat} {σ σ' : L2.St} (h : Sm ws (L2.wipe σ vs) σ') (hw : ∀ i ∈ ws, i ∈ vs) : L2.wipe σ' vs = L2.wipe σ vs := by
  have l : σ'.length = σ.length := h.1.trans (wipe_length σ vs)
  refine List.ext_getElem? fun j => ?_
  by_cases hj : j ∈ vs
  · by_cases hl : j < σ.length
    · rw [wipe_in hj (by omega), wipe_in hj hl]
    · rw [List.getElem?_eq_none (by rw [wipe_length]; omega), List.getElem?_eq_none (by rw [wipe_length]; omega)]
  · rw [wipe_out hj, h.2 j (fun z => hj (hw j z))]
/-- the turns of a comprehension -/
theorem comp_core {J : It} {n : Nat} {G : Hp → Prop} {Y : Nat → Hp → V → Hp → Prop} (w : Walk J n G Y) {g : TG} {t : WG1} {mt : WT} {ml : WE} {vs ws : List Nat} {xs : List PyData} {B : Hp → V → PyData → Prop} {R : List PyData → Nat → Prop} {Q : VK} (gb : GB B ws g t) (hw : ∀ i ∈ ws, i ∈ vs) (S : Sit W H0 σ H E b)
    (hn : xs.length = n) (hG : ∀ H', Fk H H' → Kp W.M H H' → G H') (hm : mComp t mt ml (wipeE E vs) xs [] b R) (hY : ∀ i H1 v H2, Fk H H1 → Y i H1 v H2 → Ex H1 H2 ∧ ∃ x, xs[i]? = some x ∧ B H2 v x)
    (q : ∀ ds b' a zs H', R ds b' → Kp W.M H H' → W.Dk b' H' → H a = none → H' a = some (.lst zs) → DtAll H' zs ds → Q (.ref a) H') :
    ∀ D, H D = none → ∃ P : Nat → Nat → Hp → Prop, (∃ m, P 0 m (upd H D (.lst []))) ∧ ∀ i m H', P i m H' →
      (J.stop i H' ∧ Q (.ref D) H') ∨ (J.go i H' ∧ ∃ Nx : Hp → Prop, (∀ H2, Nx H2 → ∃ m', m' < m ∧ P (i + 1) m' H2) ∧ ∀ x H2, J.yld i H' x H2 → g x (L2.wipe σ vs) H2 fun σ2 H2 => L2.wipe σ2 vs = L2.wipe σ vs ∧ tT mt σ2 H2 fun b H3 =>
        if b = true then tE ml σ2 H3 fun y H4 => ∃ acc, H4 D = some (.lst acc) ∧ acc.length < sizeLine ∧ Nx (upd H4 D (.lst (acc ++ [y]))) else Nx H3) := by
  intro D hD
  have nM : ¬ W.M D := W.free S.dk hD
  refine lc_it w (Qd := fun H' => Q (.ref D) H') (fun i H' => ∃ b' zs acc, Kp W.M H H' ∧ W.Dk b' H' ∧ H' D = some (.lst zs) ∧ DtAll H' zs acc ∧ mComp t mt ml (wipeE E vs) (xs.drop i) acc b' R)
    ⟨b, [], [], Kp.ex (Ex.new hD), W.ex (Ex.new hD) S.dk, upd_same, .nil, by simpa using hm⟩ (fun i H' _ ⟨b', zs, acc, k, _⟩ => hG H' (W.fk S.dk k) k) ?_ ?_
  · rintro i v H1 H2 hi ⟨b', zs, acc, k1, d1, h1, t1, hm'⟩ hy
    obtain ⟨e12, x, hx, bx⟩ := hY i H1 v H2 (W.fk S.dk k1) hy
    have hd : xs.drop i = x :: xs.drop (i + 1) := by
      obtain ⟨hl, e⟩ := List.getElem?_eq_some_iff.mp hx
      rw [List.drop_eq_getElem_cons hl, e]
    rw [hd] at hm'
    have k2 : Kp W.M H H2 := k1.trans (Kp.ex e12)
    have d2 : W.Dk b' H2 := W.ex e12 d1
    have S2 : Sit W H0 (L2.wipe σ vs) H2 (wipeE E vs) b' := (S.step k2 d2).wipe vs
    refine gb.run S2 bx hm' fun σ3 E3 h3 s3 S3 => ⟨wipe_sm s3 hw, W, H0, E3, b', _, S3, h3, fun c b4 H4 h4 k4 d4 => ?_⟩
    have S4 := S3.step k4 d4
    have k24 : Kp W.M H1 H4 := (Kp.ex e12).trans k4
    cases c with
    | false => exact ⟨b4, zs, acc, k2.trans k4, d4, k24 D _ nM h1, t1.mono (W.fk d1 k24), h4⟩
    | true =>
      refine ⟨W, H0, E3, b4, _, S4, h4, fun y b5 u H5 h5 k5 d5 t5 => ?_⟩
      have k25 := k24.trans k5
      have h5D := k25 D _ nM h1
      have t15 := t1.mono (W.fk d1 k25)
      refine ⟨zs, h5D, sz_lt (by rw [t1.length]; exact h5.1), b5, zs ++ [u], acc ++ [y], ((k2.trans k4).trans k5).mut hD, W.put nM d5, upd_same, ?_, h5.2⟩
      exact ((t15.append (.cons t5 .nil)).mono (fk_put h5D))
  · rintro H' ⟨b', zs, acc, k1, d1, h1, t1, hm'⟩
    rw [← hn, List.drop_length] at hm'
    exact q acc b' D zs H' hm' k1 d1 hD h1 t1
end
section
variable {X : Cx} {e a b : Expr} {es : List Expr} {m ma mb : WE} {ms : WL} {pos : Pos}
theorem _root_.L2.PTs.weak {ifs : List Expr} {t t' : TT} (h : PTs X ifs t) (k : ∀ σ H Q, t' σ H Q → t σ H Q) : PTs X ifs t' := ⟨fun pins s σ H Q I q => h.run pins s σ H Q I (k σ H Q q)⟩
theorem pm_yes : PTs X [] (tT mYes) := pts_nil.weak fun σ H Q ⟨W, H0, E, b, R, S, hm, k⟩ => k true b H hm Kp.refl S.dk
theorem lc_of {K : PySem.W.Frag} {g : TG} {t : WG1} {ws vs : List Nat} {me : WE} {mt : WT} {ml : WE} {σ : L2.St} {H : Hp} {Q : VK} (gb : GB Dt ws g t) (hw : ∀ i ∈ ws, i ∈ vs) (h : tL (mLc t me mt ml vs) σ H Q) : tLc (iSq K (tQ me)) g (tT mt) (tE ml) vs σ H Q := by
  obtain ⟨W, H0, E, b, R, S, hm, k⟩ := h
  refine ⟨W, H0, E, b, _, S, hm, fun d b1 v H1 h1 k1 d1 t1 => ?_⟩
  have S1 := S.step k1 d1
  have fin : ∀ ds b' a zs H', R ds b' → Kp W.M H1 H' → W.Dk b' H' → H1 a = none → H' a = some (.lst zs) → DtAll H' zs ds → Q (.ref a) H' := fun ds b' a zs H' r kp dk na ha ta => k ds b' a zs H' r (k1.trans kp) dk (k1.back (W.free d1 na) na) ha ta
  rcases t1 with t1 | ⟨a, ds, rfl, rfl, nM, xs, ha, al⟩
  · cases d <;> first | exact h1.elim | skip
    · obtain ⟨a, o, xs, rfl, ha, al⟩ := t1.lst_inv
      refine ⟨a, rfl, .inl ⟨xs, .inl (.inr ⟨o, ha⟩), ?_⟩⟩
      refine comp_core (walk_list (K := K) (a := a) (xs := xs)) gb hw S1 al.length.symm (fun H' f _ => .inl (.inr ⟨o, f _ _ _ ha⟩)) h1 ?_ fin
      rintro i H2 x _ f ⟨rfl, hx⟩
      obtain ⟨dd, h2, h3⟩ := al.get hx
      exact ⟨Ex.refl _, dd, h2, h3.mono f⟩
    · obtain ⟨a, o, xs, rfl, ha, _, al⟩ := t1.tup_inv
      refine ⟨a, rfl, .inr ⟨xs, .inl (.inr ⟨o, ha⟩), ?_⟩⟩
      refine comp_core (walk_tup (K := K) (a := a) (xs := xs)) gb hw S1 al.length.symm (fun H' f _ => .inl (.inr ⟨o, f _ _ _ ha⟩)) h1 ?_ fin
      rintro i H2 x _ f ⟨rfl, hx⟩
      obtain ⟨dd, h2, h3⟩ := al.get hx
      exact ⟨Ex.refl _, dd, h2, h3.mono f⟩
  · refine ⟨a, rfl, .inl ⟨xs, .inl (.inl ha), ?_⟩⟩
    refine comp_core (walk_list (K := K) (a := a) (xs := xs)) gb hw S1 al.length.symm (fun H' _ kp => .inl (.inl (kp a _ nM ha))) h1 ?_ fin
    rintro i H2 x _ f ⟨rfl, hx⟩
    obtain ⟨dd, h2, h3⟩ := al.get hx
    exact ⟨Ex.refl _, dd, h2, h3.mono f⟩
theorem lcR_of {g : TG} {t : WG1} {ws vs : List Nat} {me : WL} {mt : WT} {ml : WE} {σ : L2.St} {H : Hp} {Q : VK} (gb : GB Dt ws g t) (hw : ∀ i ∈ ws, i ∈ vs) (h : tL (mLcR t me mt ml vs) σ H Q) : tLc (iRng1 (tA me)) g (tT mt) (tE ml) vs σ H Q := by
  obtain ⟨W, H0, E, b, R, S, hm, k⟩ := h
  refine ⟨W, H0, E, b, _, S, hm, fun ds b1 vs' H1 h1 k1 d1 t1 => ?_⟩
  have S1 := S.step k1 d1
  match ds, h1, t1 with
  | [.int j], h1, .cons (.int _) .nil =>
    refine ⟨j, rfl, h1.1.1, h1.1.2, ?_⟩
    have w : Walk (Itr 0 j.toNat) j.toNat (fun _ => True) (fun i H x H' => i < j.toNat ∧ H' = H ∧ x = .int (0 + i)) := ⟨fun _ _ hi _ => hi, fun _ _ => Nat.le_refl _, fun i _ _ _ hi _ y => ⟨hi, y⟩⟩
    refine comp_core w gb hw S1 rngD_len (fun _ _ _ => trivial) h1.2 ?_ fun ds b' a zs H' r kp dk na ha ta => k ds b' a zs H' r (k1.trans kp) dk (k1.back (W.free d1 na) na) ha ta
    rintro i H1 x H2 _ ⟨hi, rfl, rfl⟩
    exact ⟨Ex.refl _, _, rngD_get hi, .int _⟩
theorem lcR2_of {g : TG} {t : WG1} {ws vs : List Nat} {me : WL} {mt : WT} {ml : WE} {σ : L2.St} {H : Hp} {Q : VK} (gb : GB Dt ws g t) (hw : ∀ i ∈ ws, i ∈ vs) (h : tL (mLcR2 t me mt ml vs) σ H Q) : tLc (iRng2 (tA me)) g (tT mt) (tE ml) vs σ H Q := by
  obtain ⟨W, H0, E, b, R, S, hm, k⟩ := h
  refine ⟨W, H0, E, b, _, S, hm, fun ds b1 vs' H1 h1 k1 d1 t1 => ?_⟩
  have S1 := S.step k1 d1
  match ds, h1, t1 with
  | [.int i, .int j], h1, .cons (.int _) (.cons (.int _) .nil) =>
    refine ⟨i, j, rfl, h1.1, ?_⟩
    have w : Walk (Itr i (j - i).toNat) (j - i).toNat (fun _ => True) (fun l H x H' => l < (j - i).toNat ∧ H' = H ∧ x = .int (i + l)) := ⟨fun _ _ hi _ => hi, fun _ _ => Nat.le_refl _, fun i _ _ _ hi _ y => ⟨hi, y⟩⟩
    refine comp_core w gb hw S1 rngD_len (fun _ _ _ => trivial) h1.2 ?_ fun ds b' a zs H' r kp dk na ha ta => k ds b' a zs H' r (k1.trans kp) dk (k1.back (W.free d1 na) na) ha ta
    rintro l H1 x H2 _ ⟨hi, rfl, rfl⟩
    exact ⟨Ex.refl _, _, rngD_get hi, .int _⟩
theorem zipD_get : ∀ {xs ys : List PyData} {i : Nat} {x y : PyData}, xs[i]? = some x → ys[i]? = some y → (zipD xs ys)[i]? = some (.tuple [x, y])
  | x :: xs, y :: ys, 0, _, _, h1, h2 => by simp at h1 h2; subst h1 h2; rfl
  | x :: xs, y :: ys, i + 1, _, _, h1, h2 => by simpa [zipD] using zipD_get (xs := xs) (ys := ys) (i := i) (by simpa using h1) (by simpa using h2)
  | [], _, _, _, _, h1, _ => by simp at h1
  | _ :: _, [], _, _, _, _, h2 => by simp at h2
theorem zipD_len : ∀ {xs ys : List PyData}, (zipD xs ys).length = min xs.length ys.length
  | [], _ => by simp [zipD]
  | _ :: _, [] => by simp [zipD]
  | x :: xs, y :: ys => by simp [zipD, zipD_len (xs := xs) (ys := ys)]
theorem lcZ_of {K : PySem.W.Frag} {g : TG} {t : WG1} {ws vs : List Nat} {me : WL} {mt : WT} {ml : WE} {σ : L2.St} {H : Hp} {Q : VK} (gb : GB (Bd K) ws g t) (hw : ∀ i ∈ ws, i ∈ vs) (h : tL (mLcZ t me mt ml vs) σ H Q) : tLc (iZip K (tAq me)) g (tT mt) (tE ml) vs σ H Q := by
  obtain ⟨W, H0, E, b, R, S, hm, k⟩ := h
  refine ⟨W, H0, E, b, _, S, hm, fun ds b1 vs' H1 h1 k1 d1 t1 => ?_⟩
  have S1 := S.step k1 d1
  split at h1
  · rename_i xs ys
    obtain ⟨v, u, rfl, q1, q2⟩ := dq2 t1
    obtain ⟨a1, us, rfl, s1, al1⟩ := q1.seqL (K := K)
    obtain ⟨a2, ws', rfl, s2, al2⟩ := q2.seqL (K := K)
    refine ⟨a1, a2, us, ws', rfl, s1, s2, ?_⟩
    have keep : ∀ {a : Addr} {zs : List V} {ds : List PyData}, Dq W H1 (.ref a) (.list ds) → SqL K H1 a zs → ∀ H', Kp W.M H1 H' → SqL K H' a zs := by
      intro a zs ds hq hs H' kp
      rcases hs with (hs | ⟨o, hs⟩) | hs
      · refine .inl (.inl (kp a _ ?_ hs))
        rcases hq with hq | ⟨a', ds', e1, e2, nM, _⟩
        · obtain ⟨a', o, xs, e1, h', _⟩ := hq.lst_inv
          cases e1
          rw [hs] at h'; cases h'
        · cases e1; exact nM
      · exact .inl (.inr ⟨o, W.fk d1 kp _ _ _ hs⟩)
      · exact .inr hs
    refine comp_core (walk_zip (K := K) (a := a1) (b := a2) (xs := us) (ys := ws') rfl) gb hw S1 (by rw [zipD_len, al1.length, al2.length]) (fun H' f kp => ⟨keep q1 s1 H' kp, keep q2 s2 H' kp⟩) h1 ?_ fun ds b' a zs H' r kp dk na ha ta => k ds b' a zs H' r (k1.trans kp) dk (k1.back (W.free d1 na) na) ha ta
    rintro i H2 x H3 f ⟨T, p, q, rfl, nT, rfl, hp, hq⟩
    obtain ⟨dp, e1, t1⟩ := al1.get hp
    obtain ⟨dq, e2, t2⟩ := al2.get hq
    have eN : Ex H2 (upd H2 T (.tup [p, q])) := Ex.new nT
    exact ⟨eN, _, zipD_get e1 e2, T, [p, q], [dp, dq], rfl, rfl, .inl (.inl upd_same), .cons ((t1.mono f).mono (Fk.ex eN)) (.cons ((t2.mono f).mono (Fk.ex eN)) .nil)⟩
  · exact h1.elim
/-- x = [..]: an own list, or one that is locked at once -/
theorem pm_setO {st : Stmt} {i : Nat} (h : PS X st (tAsg (tL ms) (gName i))) : PS X st (tS (mAsg i (vL ms))) := h.weak fun D σ H ⟨W, H0, E, b, F, S, hm, k⟩ =>
  ⟨W, H0, E, b, _, S, hm, fun ds b1 a xs H1 h1 k1 d1 na ha t1 => k.nx _ H1 _ b1 ((S.step k1 d1).setV (s := .l ds) ⟨a, rfl, S.kp.back (W.free S.dk na) na, W.free S.dk na, xs, ha, t1⟩ (apart_new (H1 := H1) S fun _ => ⟨a, rfl, na⟩)) h1⟩
theorem pm_setL {st : Stmt} {i : Nat} (h : PS X st (tAsg (tL ms) (gName i))) : PS X st (tS (mAsg i (vD (mLk ms)))) := by
  refine ⟨fun pins s σ H D I ⟨W, H0, E, b, F, S, hm, k⟩ => thn (h.run pins s σ H { D with nx := fun σ' H' => ∃ a xs, H' a = some (.lst xs) ∧ ∀ o, D.nx σ' (upd H' a (.frz o (.lst xs))) } I ?_) ?_⟩
  · refine ⟨W, H0, E, b, _, S, hm, fun ds b1 a xs H1 h1 k1 d1 na ha t1 => ⟨a, xs, ha, fun o => ?_⟩⟩
    have S1 : Sit W H0 σ (upd H1 a (.frz o (.lst xs))) E b1 := S.step (k1.mut na) (W.put (W.free S.dk na) d1)
    exact k.nx _ _ _ b1 (S1.setV (s := .d (.list ds)) ⟨_, rfl, .lst upd_same (t1.mono (fk_lock ha))⟩ (fun z => by cases z)) h1
  · rintro (_ | u | _ | _) s' z
    · obtain ⟨σ', H', I', a, xs, ha, q⟩ := z
      obtain ⟨sz, its, n, rv, ho⟩ := (show ObjOk X.prog X.w H' s'.heap a (.lst xs) from I'.hok a _ ha)
      exact ⟨σ', _, I'.write (t' := s'.toks) (h' := s'.heap) (o := .frz { cls := .type "list", data := .seq its.toArray n } (.lst xs)) (by rw [ha]; exact True.intro) (.inl rfl) (fun b u _ e => e) ⟨_, ho⟩ ⟨ho, sz, its, n, rv, ho⟩, q _⟩
    all_goals exact z
/-! ### calls of defs -/
def gNo : WG := fun _ b R => R [] b
def gE (m : WE) (ms : WG) : WG := fun E b R => m E b fun d b1 => ms E b1 fun ss b2 => R (.d d :: ss) b2
def gO (i : Nat) (ms : WG) : WG := fun E b R => match E[i]? with
  | some (.l ds) => ms E b fun ss b2 => R (.rl ds :: ss) b2
  | some (.rl ds) => ms E b fun ss b2 => R (.rl ds :: ss) b2
  | some (.m ds) => ms E b fun ss b2 => R (.rm ds :: ss) b2
  | some (.rm ds) => ms E b fun ss b2 => R (.rm ds :: ss) b2
  | some (.s k) => ms E b fun ss b2 => R (.s k :: ss) b2
  | _ => False
theorem ArR.step {W : Wld} {H H1 : Hp} {n : Nat} {v : V} {s : Sl} (dk : W.Dk n H) (k : Kp W.M H H1) (h : ArR W H v s) : ArR W H1 v s := by
  cases s with
  | d x => exact Dt.mono (W.fk dk k) h
  | rl x => obtain ⟨a, e, t⟩ := h; exact ⟨a, e, t.step dk k⟩
  | rm x => obtain ⟨a, e, t⟩ := h; exact ⟨a, e, t.step dk k⟩
  | rn x => obtain ⟨a, e, t⟩ := h; exact ⟨a, e, t.step dk k⟩
  | s _ => exact h
  | _ => exact h.elim
theorem pm_gno : PA X [] (tG gNo) := pa_nil.weak fun σ H Q ⟨W, H0, E, b, R, S, hm, k⟩ => k [] b [] H hm Kp.refl S.dk .nil
theorem pm_ge {gs : WG} (ha : PE X e (tE m)) (hr : PA X es (tG gs)) (hs : starEach (e :: es) X.env = (false, eval e X.env) :: starEach es X.env := by rfl) : PA X (e :: es) (tG (gE m gs)) := (pa_cons ha hr hs).weak fun σ H Q ⟨W, H0, E, b, R, S, hm, k⟩ =>
  ⟨W, H0, E, b, _, S, hm, fun d b1 v H1 h1 k1 d1 t1 => ⟨W, H0, E, b1, _, S.step k1 d1, h1, fun ss b2 vs H2 h2 k2 d2 t2 => k _ b2 _ H2 h2 (k1.trans k2) d2 (.cons (ArR.step (s := .d d) d1 k2 t1) t2)⟩⟩
theorem pm_go {gs : WG} {i : Nat} (ha : PE X e (tVar i)) (hr : PA X es (tG gs)) (hs : starEach (e :: es) X.env = (false, eval e X.env) :: starEach es X.env := by rfl) : PA X (e :: es) (tG (gO i gs)) := (pa_cons ha hr hs).weak fun σ H Q ⟨W, H0, E, b, R, S, hm, k⟩ => by
  unfold gO at hm
  have fin : ∀ (v : V) (s : Sl), σ[i]? = some (some v) → ArR W H v s → (gs E b fun ss b2 => R (s :: ss) b2) → tCons (tVar i) (tG gs) σ H Q := fun v s hv ar hg =>
    ⟨v, hv, W, H0, E, b, _, S, hg, fun ss b2 vs H2 h2 k2 d2 t2 => k _ b2 _ H2 h2 k2 d2 (.cons (ar.step S.dk k2) t2)⟩
  split at hm
  · obtain ⟨v, h1, a, rfl, _, t⟩ := S.at_ i _ (by assumption); exact fin _ (.rl _) h1 ⟨a, rfl, t⟩ hm
  · obtain ⟨v, h1, a, rfl, _, t⟩ := S.at_ i _ (by assumption); exact fin _ (.rl _) h1 ⟨a, rfl, t⟩ hm
  · obtain ⟨v, h1, a, rfl, _, t⟩ := S.at_ i _ (by assumption); exact fin _ (.rm _) h1 ⟨a, rfl, t⟩ hm
  · obtain ⟨v, h1, a, rfl, _, t⟩ := S.at_ i _ (by assumption); exact fin _ (.rm _) h1 ⟨a, rfl, t⟩ hm
  · obtain ⟨v, h1, e1⟩ := S.at_ i _ (by assumption)
    obtain ⟨e1, e2⟩ := e1
    subst e1
    exact fin _ (.s _) h1 ⟨rfl, e2⟩ hm
  · exact hm.elim
def mCall (mf : WF) (ms : WG) : WE := fun E b R => ms E b fun ss b1 => mf ss b1 R
theorem pm_call {k : Nat} {f : Addr} {fd : FuncData} {ps : List Str} {mf : WF} {gs : WG} {x : Str} {p : Pos} (F : Cn.FnG X.prog X.w X.K X.mg X.base k f fd ps (spOf mf)) (gd : X.A.guards = some []) (room : Room k X.A) (gl : Gl X x) (hm : X.mg x = some (.ref f)) (kp : PySem.W.keepIn X.K (.ref f) = true) (bd : Binds X.K fd ps [])
    (ha : PA X (e :: es) (tG gs)) (hdb : (x == ("__debug__" : Str)) = false := by decide) (he : starEach (e :: es) X.env = (false, eval e X.env) :: starEach es X.env := by rfl) (hpl : (backTo pos (starEach es X.env)).any (·.1) = false := by rfl) :
    PE X (.Call (.Name x p) (e :: es) [] pos) (tE (mCall mf gs)) := (Cn.pe_callG F gd room gl hm kp bd ha hdb he hpl).weak fun σ H Q ⟨W, H0, E, b, R, S, hm, k⟩ =>
  ⟨W, H0, E, b, _, S, hm, fun ss b1 vs H1 h1 k1 d1 t1 => by
    show spOf mf (vs ++ []) H1 Q E0
    rw [List.append_nil]
    exact ⟨W, ss, b1, _, t1, d1, h1, fun d b' v H' r kp dk t => k d b' v H' r (k1.trans kp) dk t⟩⟩
/-! ### defs -/
def mFn (np n : Nat) (mb : WS) : WF := fun as b R => as.length = np ∧ mb (as ++ List.replicate (n - np) .no) b { nx := fun _ b' => R .none b', rt := R }
theorem start_sit {W : Wld} {H : Hp} {b : Nat} {N : List Str} {vs : List V} {as : List Sl} (h : ArsR W H vs as) (d : W.Dk b H) (l : as.length ≤ N.length) : Sit W ⟨H, H⟩ (L2.start N vs) H (as ++ List.replicate (N.length - as.length) .no) b := by
  have hl : vs.length = as.length := h.length
  have get : ∀ (i : Nat) (s : Sl), as[i]? = some s → ∃ v, vs[i]? = some v ∧ ArR W H v s := by
    intro i s
    clear hl l
    induction h generalizing i with
    | nil => intro e; simp at e
    | cons a r ih =>
      intro e
      cases i with
      | zero => simp at e; subst e; exact ⟨_, rfl, a⟩
      | succ i => simpa using ih i (by simpa using e)
  have own : ∀ (i : Nat) (s : Sl), as[i]? = some s → isOwn s = false := fun i s e => by
    obtain ⟨v, _, ar⟩ := get i s e
    cases s <;> first | rfl | exact ar.elim
  refine ⟨by simp [L2.start]; omega, fun i s e => ?_, fun i j s t a _ h1 o1 => ?_, Kp.refl, d, fun _ _ _ z => z⟩
  · by_cases hi : i < as.length
    · rw [List.getElem?_append_left hi] at e
      obtain ⟨v, hv, ar⟩ := get i s e
      refine ⟨some v, ?_, ?_⟩
      · unfold L2.start
        rw [List.getElem?_append_left (by simpa [hl] using hi), List.getElem?_map, hv]
        rfl
      · cases s with
        | d x => exact ⟨v, rfl, ar⟩
        | rl x => obtain ⟨a, rfl, nm, xs, h1, h2⟩ := ar; exact ⟨a, rfl, by show H a ≠ none; rw [h1]; simp, nm, xs, h1, h2⟩
        | rm x => obtain ⟨a, rfl, nm, xs, h1, h2⟩ := ar; exact ⟨a, rfl, by show H a ≠ none; rw [h1]; simp, nm, xs, h1, h2⟩
        | rn x => obtain ⟨a, rfl, nm⟩ := ar; exact nm.elim
        | s _ => exact ⟨congrArg some ar.1, ar.2⟩
        | _ => exact ar.elim
    · have hi' : as.length ≤ i := by omega
      rw [List.getElem?_append_right hi', List.getElem?_replicate] at e
      split at e
      · cases e
        refine ⟨none, ?_, trivial⟩
        unfold L2.start
        rw [List.getElem?_append_right (by simp; omega), List.getElem?_replicate, if_pos (by simp; omega)]
      · cases e
  · exfalso
    by_cases hi : i < as.length
    · rw [List.getElem?_append_left hi] at h1
      rw [own i s h1] at o1
      cases o1
    · rw [List.getElem?_append_right (by omega), List.getElem?_replicate] at h1
      split at h1
      · cases h1; cases o1
      · cases h1
theorem fn_of {P : Program} {w : World} {K : PySem.W.Frag} {mg : Str → Option Value} {base : Heap} {x qual : Str} {st : Stmt} {f : Addr} {fd : FuncData} {N ps : List Str} {k : Nat} {mb : WS} (F : Fun K x qual st f fd) (S : FnScope N ps (defScope st)) (hps : ps.length ≤ N.length)
    (body : ∀ (cdv : Value) (A : Around) (out : List PySem.Env) (s : Shared) (H : Hp) (E : XK), A.guards = some [] → Room k (A.deeper (envOfC qual (defScope st) s.heap.objs.size f cdv)) → PSs (cxOf CX0 P w K mg base N qual (defScope st) f cdv A out s H E).nox (defBody st) (tS mb)) :
    Cn.FnG P w K mg base (k + 1) f fd ps (spOf (mFn ps.length N.length mb)) := by
  refine Cn.okG F S (fun vs H Q E h => ?_) (fun cdv A out s H vs Q E gd hr h => ⟨_, body cdv A out s H E gd hr, ?_⟩)
  · obtain ⟨W, as, b, R, ar, _, hm, _⟩ := h
    exact ar.length.trans hm.1
  · obtain ⟨W, as, b, R, ar, dk, ⟨hl, hm⟩, q⟩ := h
    have S := start_sit (N := N) ar dk (by rw [hl]; exact hps)
    rw [hl] at S
    exact ⟨W, ⟨H, H⟩, _, b, _, S, hm, ⟨fun σ' H' E' b' S' h' => q _ b' _ H' h' S'.kp S'.dk .non, fun _ _ _ _ _ z => z.elim, fun _ _ _ _ _ z => z.elim, fun d b' v H' r kp d' t => q d b' v H' r kp d' t⟩⟩
end
end Wp

namespace Wp
open PySem PySem.Spec PyProof.Rows L2 Evl
/-! ### repr, str -/
def reprW : WB := fun ds R => match ds with
  | [d] => (d.showable = true ∧ d.shown.length ≤ 1000000 ∧ d.depth ≤ 50) ∧ R (.str d.shown)
  | _ => False
def strW : WB := fun ds R => match ds with
  | [.int i] => i.natAbs.log2 < 1920 ∧ R (.str (toString i))
  | [.bool c] => R (.str (if c then "True" else "False"))
  | _ => False
section
variable {X : Cx} {e a b : Expr} {es : List Expr} {m ma mb : WE} {ms : WL} {pos : Pos}
theorem cr_reprW (ho : XO X) : CallR X (.builtin "repr") (rC reprW) := by
  intro pins s σ H vs us Q I r h
  obtain ⟨W, ds, R, h1, hw, k⟩ := h
  unfold reprW at hw
  split at hw
  · rename_i d
    obtain ⟨v, rfl, t⟩ := dq1 h1
    obtain ⟨⟨s1, s2, s3⟩, hr⟩ := hw
    obtain ⟨u, rfl, ru⟩ := vals1 r
    obtain ⟨as, rd, na⟩ := t.reads I ru
    have na' := na (ho.free I)
    have hz : d.shown.length ≤ sizeLine := Nat.le_trans s2 (by decide)
    have un := ho.un
    have leaf : ∀ {h' : Heap} {t u : Nat}, (∀ b o, s.heap.get? b = some o → h'.get? b = some o) → EP X pins σ Q (.str d.shown u) { s with heap := h', toks := t } :=
      fun k' => ⟨.str _, H, I.kept k', ⟨_, rfl⟩, k _ _ H hr (Ex.refl H) (.str _)⟩
    have big : ∀ {a : Addr} (rd : Reads s.heap (.ref a) d as), wpAny (model X.prog X.w) X.A (call (.builtin "repr") [.ref a]) (EP X pins σ Q) X.xe s := fun rd =>
      repr_of_reads' rd s1 (fun _ => na') ho.gd (by omega) (fun _ _ e => e) (fun h' u tk k => leaf k) hz
    cases rd with
    | none => simp only [PyData.shown] at leaf; exact PySem.P.repr_of_none (leaf fun _ _ e => e)
    | bool b => simp only [PyData.shown] at leaf; exact PySem.P.repr_of_bool (leaf fun _ _ e => e)
    | int i t => simp only [PyData.shown] at leaf; exact PySem.P.repr_of_int (by simpa only [PyData.showable, decide_eq_true_eq] using s1) (leaf fun _ _ e => e)
    | str x t => simp only [PyData.shown] at leaf hz; exact PySem.P.repr_of_str (leaf fun _ _ e => e) hz
    | list a b c e => exact big (.list a b c e)
    | tuple a b c e => exact big (.tuple a b c e)
    | dict a b c e f => exact big (.dict a b c e f)
  · exact hw.elim
theorem cr_strW : CallR X (.type "str") (rC strW) := by
  intro pins s σ H vs us Q I r h
  obtain ⟨W, ds, R, h1, hw, k⟩ := h
  unfold strW at hw
  split at hw
  · obtain ⟨v, rfl, t⟩ := dq1 h1
    obtain rfl := t.int
    obtain ⟨u, rfl, t, rfl⟩ := vals1 r
    exact PySem.P.str_of_int hw.1 ⟨.str _, H, I.tok _, ⟨_, rfl⟩, k _ _ H hw.2 (Ex.refl H) (.str _)⟩
  · obtain ⟨v, rfl, t⟩ := dq1 h1
    obtain rfl := t.bool
    obtain ⟨u, rfl, ru⟩ := vals1 r
    cases ru
    exact PySem.P.str_of_bool ⟨.str _, H, I.tok _, ⟨_, rfl⟩, k _ _ H hw (Ex.refl H) (.str _)⟩
  · exact hw.elim
/-! ### isinstance -/
def tyD : PyData → String
  | .none => "NoneType"
  | .bool _ => "bool"
  | .int _ => "int"
  | .str _ => "str"
  | .list _ => "list"
  | .tuple _ => "tuple"
  | .dict _ => "dict"
def isI : PyData → Bool
  | .int _ => true
  | .bool _ => true
  | _ => false
def isB : PyData → Bool
  | .bool _ => true
  | _ => false
def isT : PyData → Bool
  | .tuple _ => true
  | _ => false
def isS : PyData → Bool
  | .str _ => true
  | _ => false
def isL : PyData → Bool
  | .list _ => true
  | _ => false
theorem kit_int (d : PyData) : kitB (tyD d) "int" = some (isI d) := by cases d <;> simp only [tyD, isI] <;> decide +kernel
theorem kit_bool (d : PyData) : kitB (tyD d) "bool" = some (isB d) := by cases d <;> simp only [tyD, isB] <;> decide +kernel
theorem kit_tuple (d : PyData) : kitB (tyD d) "tuple" = some (isT d) := by cases d <;> simp only [tyD, isT] <;> decide +kernel
theorem kit_str (d : PyData) : kitB (tyD d) "str" = some (isS d) := by cases d <;> simp only [tyD, isS] <;> decide +kernel
theorem kit_list (d : PyData) : kitB (tyD d) "list" = some (isL d) := by cases d <;> simp only [tyD, isL] <;> decide +kernel
theorem Dt.tyx {K : PySem.W.Frag} {H : Hp} {v : V} {d : PyData} (h : Dt H v d) : TyX K H v (.type (tyD d)) := by
  cases h with
  | non => exact .base .non
  | bl b => exact .base (.bl b)
  | int i => exact .base (.int i)
  | str x => exact .base (.str x)
  | tup h _ _ => exact .fTuple h
  | lst h _ => exact .base (.frz h)
  | dic h _ _ => exact .fDict h
def mIsi (f : PyData → Bool) (m : WE) : WE := fun E b R => m E b fun d b1 => R (.bool (f d)) b1
theorem pm_isi {p p2 : Pos} {T : Str} {c : String} {f : PyData → Bool} (hk : ∀ d, kitB (tyD d) c = some (f d)) (hg : Gl X "isinstance") (hm : X.mg "isinstance" = none) (he : PE X e (tE m)) (hc : PE X (.Name T p2) (tC (.ty c))) (hs1 : starEach [e, .Name T p2] X.env = (false, eval e X.env) :: starEach [.Name T p2] X.env := by rfl) (hs2 : starEach [.Name T p2] X.env = (false, eval (.Name T p2) X.env) :: starEach [] X.env := by rfl) (hpl : (backTo pos (starEach [.Name T p2] X.env)).any (·.1) = false := by rfl) :
    PE X (.Call (.Name "isinstance" p) [e, .Name T p2] [] pos) (tE (mIsi f m)) := (pe_callB (id := "isinstance") call_isi hg hm (by decide +kernel) (pa_cons he (pa_cons hc pa_nil hs2) hs1) (by decide) (by decide) hs1 hpl).weak fun σ H Q ⟨W, H0, E, b, R, S, hm, k⟩ =>
  ⟨W, H0, E, b, _, S, hm, fun d b1 v H1 h1 k1 d1 t1 => ⟨v, .ty c, .type (tyD d), .type c, f d, rfl, .ty c, t1.tyx, kit_ty (hk d), k _ b1 _ H1 h1 k1 d1 (.bl _)⟩⟩
/-! ### sorted -/
def srt (xs : List PyData) : List PyData := xs.mergeSort (PySem.W.dataLe false fun d => d)
def okSrt (xs : List PyData) : Prop := PySem.W.AllAlike xs ∧ PySem.W.Sortable xs ∧ (∀ d ∈ xs, d.depth ≤ 50) ∧ xs.length ≤ 100000
def sortW : WBL := fun ds R => match ds with
  | [.list xs] => okSrt xs ∧ R (srt xs)
  | [.tuple xs] => okSrt xs ∧ R (srt xs)
  | _ => False
end
section
variable {prog : Program} {w : World} {A : Around} {E : Value → Shared → Prop} {s : Shared}
theorem collect_tup {l : Addr} {vs : List Value} {Q : List Value → Shared → Prop} (hl : s.heap.IsTuple l vs.toArray)
    (h : Q vs { s with heap := (s.heap.push (seqObj "list" #[] 0)).update s.heap.objs.size (Obj.mapSeq (· ++ vs.toArray)) }) (hsz : vs.length ≤ sizeLine) : wpAny (model prog w) A (collect (.ref l)) Q E s := by
  obtain ⟨o, ho, hc, n, hd⟩ := hl
  unfold collect; refine wpAny_bind (wpAny_runValue (codeAny_builtin entry_proto_collect' ?_))
  show wpAny _ _ (do again (.builtin "list.__iadd__" ⟨[← newList [], .ref l], []⟩)) _ _ s; refine wpAny_bind (wpAny_newList (wpAny_pure ⟨Code.quiet_builtin _ (by decide +kernel), codeAny_builtin entry_list_iadd' ?_⟩))
  show wpAny _ _ (Builtin.List.listExtendWith (.ref s.heap.objs.size) (.ref l) (.ref s.heap.objs.size)) _ _ { s with heap := s.heap.push (seqObj "list" #[] 0) }; unfold Builtin.List.listExtendWith
  have ho2 : (s.heap.push (seqObj "list" #[] 0)).get? l = some o := Heap.get?_push_of_some _ ho
  refine wpAny_bind (wpAny_typeOf (T := "tuple") ⟨o, ho2, hc⟩ ?_); rw [if_pos (by simp)]
  refine wpAny_bind (listItems_at ho2 hd (wpAny_bind (listItems_at (xs := #[]) (n := 0) (Heap.get?_push_size _ rfl) rfl ?_))); rw [if_neg (by simp)]
  have room : (#[] ++ vs.toArray).size ≤ sizeLine + 1 := by simp only [Array.size_append, List.size_toArray, List.length_nil]; omega
  refine wpAny_bind (listUpdate_at (xs := #[]) (n := 0) (Heap.get?_push_size _ rfl) rfl (wpAny_pure ?_) (Nat.zero_le _) room)
  show wpAny (model prog w) A (do
      let q ← load s.heap.objs.size
      match q.data with
      | .seq zs _ => pure zs.toList
      | _ => unsupported "internal:collect") Q E { s with heap := (s.heap.push (seqObj "list" #[] 0)).update s.heap.objs.size (Obj.mapSeq (· ++ vs.toArray)) }
  refine wpAny_bind (wpAny_load (get?_update_seq (Heap.get?_push_size _ rfl) _) (show wpAny _ _ (pure ((#[] : Array Value) ++ vs.toArray).toList) Q E _ from ?_))
  have e : ((#[] : Array Value) ++ vs.toArray).toList = vs := by simp
  rw [e]; exact wpAny_pure h
open PySem.W in
theorem sorted_tup {κ : PyProof.Rows.KeyKind} {l : Addr} {vs : List Value} {Q : Value → Shared → Prop} (hl : s.heap.IsTuple l vs.toArray) (S : SortsAt prog w A.in1.in1 { s with heap := sortingHeap (copyHeap s.heap vs) (s.heap.objs.size + 1) vs } κ vs) (hL : vs.length ≤ sizeLine)
    (h : Q (.ref (s.heap.objs.size + 1)) { s with heap := sortedAll s.heap vs (sortVals κ false vs vs).toArray }) : wpAny (model prog w) A (call (.builtin "sorted") [.ref l]) Q E s := by
  refine call_function_entry_kw kind_sorted plain_sorted entry_sorted (args_sorted1 _) ?_; unfold Builtin.«sorted»
  refine wpAny_bind (m := checkCount "sorted" 1 1 _) (wpAny_pure (wpAny_bind (collect_tup hl (wpAny_bind (wpAny_newList ?_ hL)) hL)))
  have hsz : ((s.heap.push (seqObj "list" #[] 0)).update s.heap.objs.size (Obj.mapSeq (· ++ vs.toArray))).objs.size = s.heap.objs.size + 1 := by rw [Heap.size_update, size_push']
  show wpAny _ _ _ _ _ { s with heap := copyHeap s.heap vs }; rw [hsz]
  refine wpAny_bind (wpAny_holding (wpAny_call_entry_kw slot_list_sort ⟨_, copyHeap_at s.heap vs, rfl⟩ entry_list_sort (?_ : wpAny (model prog w) A.in1.in1 (Builtin.«list.sort» ⟨[.ref (s.heap.objs.size + 1)], []⟩) _ _ _) (args_list_sort _)))
  refine wpAny_mono (list_sort_vals (κ := κ) (P := fun f s' => f = .done (.ret .none) ∧ Q (.ref (s.heap.objs.size + 1)) s') (s := { s with heap := copyHeap s.heap vs }) (copyHeap_at s.heap vs) S hL ⟨rfl, h⟩) (fun f s' hf => ?_) fun _ _ e => e
  obtain ⟨rfl, hq⟩ := hf
  exact ⟨_, rfl, wpAny_pure ⟨_, rfl, hq⟩⟩
open PySem.W in
/-- sorted(xs), xs a list or a tuple of data -/
theorem sorted_vd {R : Value → V × PyData → Prop} {l : Addr} {vs : List Value} {bs : List (V × PyData)} {Q : Value → Shared → Prop} (hl : s.heap.IsList l vs.toArray ∨ s.heap.IsTuple l vs.toArray) (e : EachIs R vs bs) (er : EachIs (fun v b => ∃ as, Reads s.heap v b.2 as) vs bs) (hal : AllAlike (bs.map (·.2))) (hk : Sortable (bs.map (·.2))) (hL : bs.length ≤ sizeLine)
    (hu : ∀ b, b ∈ bs → A.units + 2 + b.2.depth < cLine) (h : ∀ out, out.length = bs.length → EachIs R out (bs.mergeSort (dataLe false (·.2))) → Q (.ref (s.heap.objs.size + 1)) { s with heap := sortedAll s.heap vs (List.toArray out) }) :
    wpAny (model prog w) A (call (.builtin "sorted") [.ref l]) Q E s := by
  rcases hl with hl | hl
  · exact sorted_data (enc := (·.2)) hl e er hal hk hL hu h
  · have er' : EachIs (fun v (b : V × PyData) => ∃ as, Reads (sortingHeap (copyHeap s.heap vs) (s.heap.objs.size + 1) vs) v b.2 as) vs bs := er.mono fun _ _ ⟨as, r⟩ => ⟨as, PyProof.Rows.Reads.keeps (fun _ _ z => sorting_copy_old z) r⟩
    have sa := SortsAt.data (prog := prog) (w := w) (A := A.in1.in1) (s := { s with heap := sortingHeap (copyHeap s.heap vs) (s.heap.objs.size + 1) vs }) (each_map (R := fun v d => ∃ as, Reads (sortingHeap (copyHeap s.heap vs) (s.heap.objs.size + 1) vs) v d as) (fun b : V × PyData => b.2) er') hal hk (bound_map (enc := fun b : V × PyData => b.2) hu)
    exact sorted_tup hl sa (by rw [e.length]; exact hL) (h _ (by rw [sortVals_length false rfl]; exact e.length) (sortVals_data (enc := (·.2)) false e er' hal))
end
section
variable {X : Cx}
theorem each_of {H : Hp} {pins : List (Addr × Obj)} {σ : L2.St} {s : Shared} (I : Inv X pins σ H s) : ∀ {xs : List V} {us : List Value} {ds : List PyData}, Vals xs us → DtAll H xs ds → PySem.W.EachIs (fun u (b : V × PyData) => RelV b.1 u) us (xs.zip ds) ∧ PySem.W.EachIs (fun u (b : V × PyData) => ∃ as, Reads s.heap u b.2 as) us (xs.zip ds)
  | _, _, _, .nil, .nil => ⟨.nil, .nil⟩
  | _, _, _, .cons r rs, .cons t ts => by
    obtain ⟨h1, h2⟩ := each_of I rs ts
    obtain ⟨as, hr, _⟩ := Dt.reads I _ _ _ t r
    exact ⟨.cons r h1, .cons ⟨as, hr⟩ h2⟩
theorem vals_each : ∀ {us : List Value} {bs : List (V × PyData)}, PySem.W.EachIs (fun u (b : V × PyData) => RelV b.1 u) us bs → Vals (bs.map (·.1)) us
  | _, _, .nil => .nil
  | _, _, .cons r rs => .cons r (vals_each rs)
theorem dt_zip {H : Hp} : ∀ {xs : List V} {ds : List PyData}, DtAll H xs ds → ∀ p ∈ xs.zip ds, Dt H p.1 p.2
  | _, _, .nil, p, h => by simp at h
  | _, _, .cons t ts, p, h => by
    simp only [List.zip_cons_cons, List.mem_cons] at h
    rcases h with rfl | h
    · exact t
    · exact dt_zip ts p h
theorem all_map {H : Hp} : ∀ {bs : List (V × PyData)}, (∀ p ∈ bs, Dt H p.1 p.2) → DtAll H (bs.map (·.1)) (bs.map (·.2))
  | [], _ => .nil
  | b :: bs, h => .cons (h b (List.mem_cons_self ..)) (all_map fun p hp => h p (List.mem_cons_of_mem _ hp))
theorem cr_sortW (ho : XO X) : CallR X (.builtin "sorted") (rCL sortW) := by
  intro pins s σ H vs us Q I r h
  obtain ⟨W, ds, R, h1, hw, k⟩ := h
  have un := ho.un
  have fin : ∀ (zs : List PyData) (a : Addr) (xs : List V) (its : List Value), vs = [.ref a] → Vals xs its → DtAll H xs zs → (s.heap.IsList a its.toArray ∨ s.heap.IsTuple a its.toArray) → okSrt zs → R (srt zs) → wpAny (model X.prog X.w) X.A (call (.builtin "sorted") us) (EP X pins σ Q) X.xe s := by
    intro zs a xs its ev rv al hl ok hr
    subst ev
    rw [Vals.ref1 r]
    have l1 := al.length
    have e2 : (xs.zip zs).map (·.2) = zs := List.map_snd_zip (by omega)
    obtain ⟨q1, q2⟩ := each_of I rv al
    refine sorted_vd hl q1 q2 (by rw [e2]; exact ok.1) (by rw [e2]; exact ok.2.1) (by rw [List.length_zip]; have := ok.2.2.2; exact sz_of (by omega)) (fun b hb => ?_) fun out lo eo => ?_
    · have := ok.2.2.1 b.2 (by rw [← e2]; exact List.mem_map_of_mem hb)
      omega
    · have pm : ((xs.zip zs).mergeSort (PySem.W.dataLe false (·.2))).Perm (xs.zip zs) := List.mergeSort_perm _ _
      have dts : ∀ p ∈ (xs.zip zs).mergeSort (PySem.W.dataLe false (·.2)), Dt H p.1 p.2 := fun p hp => dt_zip al p (pm.mem_iff.mp hp)
      have em : ((xs.zip zs).mergeSort (PySem.W.dataLe false (·.2))).map (·.2) = srt zs := by
        have := List.map_mergeSort (r := PySem.W.dataLe false (fun b : V × PyData => b.2)) (s := PySem.W.dataLe false fun d => d) (f := fun b : V × PyData => b.2) (l := xs.zip zs) (fun a _ b _ => rfl)
        rw [this, e2]
        rfl
      have nf : H (s.heap.objs.size + 1) = none := I.hok.fresh (Nat.le_succ _)
      obtain ⟨ep, he'⟩ := PyProof.Rows.sortedAll_at s.heap its out.toArray
      have vo := vals_each eo
      have am := all_map dts
      rw [em] at am
      refine ⟨.ref _, upd H (s.heap.objs.size + 1) (.lst (((xs.zip zs).mergeSort (PySem.W.dataLe false (·.2))).map (·.1))), I.laid (t' := s.toks) (fun _ _ z => PyProof.Rows.sortedAll_old z) (Nat.le_succ _) ⟨?_, out, ep, vo, he'⟩, rfl, k _ _ _ _ hr (Ex.new nf) nf upd_same (am.mono (Fk.ex (Ex.new nf)))⟩
      rw [vo.length, lo, List.length_zip]
      have := ok.2.2.2
      exact sz_of (by omega)
  unfold sortW at hw
  split at hw
  · obtain ⟨v, rfl, t⟩ := dq1 h1
    obtain ⟨u, rfl, ru⟩ := vals1 r
    obtain ⟨a, xs, rfl, sq, al⟩ := t.seqL (K := X.K)
    obtain ⟨its, rv, pl, _⟩ := I.list sq
    exact fin _ a xs its rfl rv al (.inl pl.isList) hw.1 hw.2
  · obtain ⟨v, rfl, t⟩ := dq1 h1
    obtain ⟨a, o, xs, rfl, _, _, sq, al⟩ := t.seqT (K := X.K)
    obtain ⟨its, rv, pl, _⟩ := I.tuple sq
    exact fin _ a xs its rfl rv al (.inr pl) hw.1 hw.2
  · exact hw.elim
end
end Wp

namespace Wp
open PySem PySem.Spec PyProof.Rows L2 Evl
/-! ### sorted(set(..)) of ints -/
section
variable {X : Cx} {e a b : Expr} {es : List Expr} {m ma mb : WE} {ms : WL} {pos : Pos}
def mSS (m : WE) : WL := fun E b R => m E b fun d b1 => match d with
  | .list xs => ∃ ns : List Int, xs = ns.map PyData.int ∧ ns.length < 64 ∧ R ((Cn.sortU ns).map PyData.int) b1
  | _ => False
theorem pm_ss {K : PySem.W.Frag} {w : World} {q : Expr} (h : PE X q (tCB (rSortedSet w) (tCons (tCB (Cn.rSetL K w) (tCons (tQ m) tNil)) tNil))) : PE X q (tL (mSS m)) := h.weak fun σ H Q ⟨W, H0, E, b, R, S, hm, k⟩ => by
  refine ⟨W, H0, E, b, _, S, hm, fun d b1 v H1 h1 k1 d1 t1 => ?_⟩
  cases d <;> first | exact h1.elim | skip
  obtain ⟨ns, rfl, few, hr⟩ := h1
  obtain ⟨a, rfl, sq⟩ := t1.ints (K := K)
  refine Cn.sortset ⟨a, ns, rfl, sq, few, fun ms' p H2 asc mem np e2 hp => ?_⟩
  rw [Cn.sortU_eq asc mem] at hp
  exact k _ b1 p _ H2 hr (k1.trans (Kp.ex e2)) (W.ex e2 d1) (k1.back (W.free d1 np) np) hp (DtAll.ints _)
/-! ### slices -/
def cutD (ds : List PyData) (lo hi : Option Int) : List PyData := (ds.drop (HT.sIx ds.length 0 lo)).take (HT.sIx ds.length ds.length hi - HT.sIx ds.length 0 lo)
def slW (d : PyData) (lo hi : Option Int) (R : PyData → Prop) : Prop := match d with
  | .tuple xs => R (.tuple (cutD xs lo hi))
  | .list xs => R (.list (cutD xs lo hi))
  | _ => False
abbrev WO := Env → Nat → (Option Int → Nat → Prop) → Prop
def mNo : WO := fun _ b R => R none b
def mPt (m : WE) : WO := fun E b R => m E b fun d b1 => match d with
  | .int i => R (some i) b1
  | _ => False
def tO (m : WO) : TO := fun σ H Q => ∃ W H0 E b R, Sit W H0 σ H E b ∧ m E b R ∧ ∀ o b' H', R o b' → Kp W.M H H' → W.Dk b' H' → Q o H'
theorem pm_pno : PO X none (tO mNo) := ⟨fun pins s σ H Q I ⟨W, H0, E, b, R, S, hm, k⟩ => po_none.run pins s σ H Q I (k none b H hm Kp.refl S.dk)⟩
theorem pm_pt (h : PE X e (tE m)) : PO X (some e) (tO (mPt m)) := ⟨fun pins s σ H Q I ⟨W, H0, E, b, R, S, hm, k⟩ => (po_some h).run pins s σ H Q I ⟨W, H0, E, b, _, S, hm, fun d b1 v H1 h1 k1 d1 t1 => by
  cases d <;> first | exact h1.elim | skip
  cases t1
  exact ⟨_, rfl, k _ b1 H1 h1 k1 d1⟩⟩⟩
def rSlD : V → Option Int → Option Int → Hp → VK → Prop := fun x lo hi H Q => ∃ (W : Wld) (d : PyData) (R : PyData → Prop), Dq W H x d ∧ slW d lo hi R ∧ ∀ z v H', R z → Ex H H' → Dt H' v z → Q v H'
theorem sl_D : L2.SlR X rSlD := by
  intro pins s σ H x v vl vu lo hi sl Q I rx hs pl pu h
  obtain ⟨W, d, R, hq, hw, k⟩ := h
  have nf : H s.heap.objs.size = none := I.hok.fresh (Nat.le_refl _)
  cases d <;> first | exact hw.elim | skip
  · rename_i ds
    obtain ⟨a, xs, rfl, sq, al⟩ := hq.seqL (K := X.K)
    cases rx
    obtain ⟨its, r, ht, hz⟩ := I.list sq
    have hlen := r.length
    have hl2 := al.length
    refine ⟨"list", _, slot_list_getitem.lookup, ht.isList.typeIs, wpAny_getItem_list_slice ht.isList hs pl pu .none (by simp) ?_ (by rw [List.size_toArray] <;> omega)⟩
    rw [slicePick_cut, ← hlen]
    refine ⟨.ref s.heap.objs.size, _, Inv.lz I ((r.drop (HT.sIx xs.length 0 lo)).take (HT.sIx xs.length xs.length hi - HT.sIx xs.length 0 lo)) (Nat.le_trans (cutV_length xs lo hi) hz), rfl, k _ _ _ hw (Ex.new nf) (.lst upd_same ?_)⟩
    unfold cutD
    rw [← hl2]
    exact ((al.drop _).take _).mono (Fk.ex (Ex.new nf))
  · rename_i ds
    obtain ⟨a, o, xs, rfl, ha, na, sq, al⟩ := hq.seqT (K := X.K)
    cases rx
    obtain ⟨its, r, ht, hz⟩ := I.tuple sq
    have hl2 := al.length
    have hlen : its.toArray.size = xs.length := by rw [List.size_toArray]; exact r.length.symm
    refine ⟨"tuple", _, PyProof.Rows.slot_tuple_getitem.lookup, ht.typeIs, ?_⟩
    by_cases hw2 : HT.sIx xs.length 0 lo = 0 ∧ HT.sIx xs.length xs.length hi = xs.length
    · refine getItem_tuple_whole ht hs pl pu (by rw [hlen]; exact hw2) ⟨.ref a, H, I, rfl, k _ _ H hw (Ex.refl H) (.tup ha na ?_)⟩
      unfold cutD
      rw [← hl2, hw2.1, hw2.2, hl2]
      simpa using al
    · refine HT.getItem_tuple_cut ht hs pl pu (by rw [hlen]; exact hw2) ?_ (by rw [hlen]; exact hz)
      rw [hlen]
      have vr : Vals (cutV xs lo hi) ((its.drop (HT.sIx xs.length 0 lo)).take (HT.sIx xs.length xs.length hi - HT.sIx xs.length 0 lo)) := (r.drop _).take _
      refine ⟨.ref s.heap.objs.size, _, I.laid (t' := s.toks) (o := .frz { cls := .type "tuple", data := .seq ((its.drop (HT.sIx xs.length 0 lo)).take (HT.sIx xs.length xs.length hi - HT.sIx xs.length 0 lo)).toArray } (.tup (cutV xs lo hi))) (fun b ob q => Heap.get?_push_of_some _ q) (Nat.le_refl _) ?_, rfl, k _ _ _ hw (Ex.new nf) (.tup upd_same rfl ?_)⟩
      · have here := Heap.get?_push_size s.heap (o := { cls := .type "tuple", data := .seq ((its.drop (HT.sIx xs.length 0 lo)).take (HT.sIx xs.length xs.length hi - HT.sIx xs.length 0 lo)).toArray }) rfl
        exact ⟨here, Nat.le_trans (cutV_length xs lo hi) hz, _, vr, ⟨_, here, rfl, _, rfl⟩⟩
      · unfold cutD
        rw [← hl2]
        exact ((al.drop _).take _).mono (Fk.ex (Ex.new nf))
def mSl (m : WE) (lo hi : WO) : WE := fun E b R => m E b fun d b1 => lo E b1 fun l b2 => hi E b2 fun u b3 => slW d l u fun z => R z b3
theorem pm_sl {lo hi : Option Expr} {mlo mhi : WO} {p2 : Pos} (he : PE X e (tQ m)) (hl : PO X lo (tO mlo)) (hh : PO X hi (tO mhi)) : PE X (.Subscript e (.Slice lo hi none p2) pos) (tE (mSl m mlo mhi)) := (pe_slice sl_D he hl hh).weak fun σ H Q ⟨W, H0, E, b, R, S, hm, k⟩ =>
  ⟨W, H0, E, b, _, S, hm, fun d b1 v H1 h1 k1 d1 t1 => ⟨W, H0, E, b1, _, S.step k1 d1, h1, fun l b2 H2 h2 k2 d2 => ⟨W, H0, E, b2, _, (S.step k1 d1).step k2 d2, h2, fun u b3 H3 h3 k3 d3 =>
    ⟨W, d, _, (t1.step d1 k2).step d2 k3, h3, fun z v' H' r e' t' => k z b3 v' H' r (((k1.trans k2).trans k3).trans (Kp.ex e')) (W.ex e' d3) t'⟩⟩⟩⟩
/-! ### dicts of one's own -/
def dKey : PyData → Option Key
  | .int i => some (.inl i)
  | .str x => some (.inr x)
  | _ => none
def lookD (kvs : List (Key × PyData)) (k : Key) : Option PyData := (kvs.find? fun kv => decide (kv.1 = k)).map (·.2)
def putD (kvs : List (Key × PyData)) (k : Key) (v : PyData) : List (Key × PyData) := if (kvs.any fun kv => decide (kv.1 = k)) = true then kvs.map (fun kv => if kv.1 = k then (kv.1, v) else kv) else kvs ++ [(k, v)]
theorem DtK.look {H : Hp} {k : Key} : ∀ {xs : List (Key × V)} {ds : List (Key × PyData)}, DtK H xs ds → (∀ d, lookD ds k = some d → ∃ v, valV xs k = some v ∧ Dt H v d) ∧ (lookD ds k = none → valV xs k = none)
  | _, _, .nil => ⟨fun d h => by simp [lookD] at h, fun _ => rfl⟩
  | _, _, .cons (k := k') (v := v) (d := d) (xs := xs) (ds := ds) t r => by
    obtain ⟨h1, h2⟩ := DtK.look (k := k) r
    by_cases e : k' = k
    · subst e
      refine ⟨fun d' h => ⟨v, valV_pos rfl, ?_⟩, fun h => ?_⟩
      · simp [lookD] at h; subst h; exact t
      · simp [lookD] at h
    · have e1 : valV ((k', v) :: xs) k = valV xs k := valV_neg (p := (k', v)) e
      have e2 : lookD ((k', d) :: ds) k = lookD ds k := by simp [lookD, List.find?_cons, e]
      rw [e1, e2]
      exact ⟨h1, h2⟩
theorem DtK.any {H : Hp} {k : Key} : ∀ {xs : List (Key × V)} {ds : List (Key × PyData)}, DtK H xs ds → (xs.any fun kv => decide (kv.1 = k)) = (ds.any fun kv => decide (kv.1 = k))
  | _, _, .nil => rfl
  | _, _, .cons _ r => by simp only [List.any_cons, DtK.any r]
theorem DtK.app {H : Hp} {k : Key} {v : V} {d : PyData} (t : Dt H v d) : ∀ {xs : List (Key × V)} {ds : List (Key × PyData)}, DtK H xs ds → DtK H (xs ++ [(k, v)]) (ds ++ [(k, d)])
  | _, _, .nil => .cons t .nil
  | _, _, .cons a r => .cons a (DtK.app t r)
theorem DtK.upd {H : Hp} {k : Key} {v : V} {d : PyData} (t : Dt H v d) : ∀ {xs : List (Key × V)} {ds : List (Key × PyData)}, DtK H xs ds → DtK H (xs.map fun kv => if kv.1 = k then (kv.1, v) else kv) (ds.map fun kv => if kv.1 = k then (kv.1, d) else kv)
  | _, _, .nil => .nil
  | _, _, .cons (k := k') a r => by
    simp only [List.map_cons]
    by_cases e : k' = k
    · simp only [e, if_true]; exact .cons t (DtK.upd t r)
    · simp only [e, if_false]; exact .cons a (DtK.upd t r)
theorem DtK.put {H : Hp} {k : Key} {v : V} {d : PyData} (t : Dt H v d) {xs : List (Key × V)} {ds : List (Key × PyData)} (h : DtK H xs ds) : DtK H (putK xs k v) (putD ds k d) := by
  unfold putK putD
  rw [h.any]
  split
  · exact h.upd t
  · exact h.app t
theorem DtK.length {H : Hp} : ∀ {xs : List (Key × V)} {ds : List (Key × PyData)}, DtK H xs ds → xs.length = ds.length
  | _, _, .nil => rfl
  | _, _, .cons _ r => by simp [r.length]
theorem DtK.keys {H : Hp} : ∀ {xs : List (Key × V)} {ds : List (Key × PyData)}, DtK H xs ds → xs.map (·.1) = ds.map (·.1)
  | _, _, .nil => rfl
  | _, _, .cons _ r => by simp [r.keys]
theorem Dt.key {H : Hp} {v : V} {d : PyData} {k : Key} (h : Dt H v d) (e : dKey d = some k) : v = kV k := by
  cases h <;> simp [dKey] at e <;> subst e <;> rfl
def asM : Sl → Option (List (Key × PyData))
  | .m kvs => some kvs
  | .rm kvs => some kvs
  | _ => none
theorem Sit.dic {W : Wld} {H0 : Bs} {H : Hp} {σ : L2.St} {E : Env} {b i : Nat} {s : Sl} {ds : List (Key × PyData)} (S : Sit W H0 σ H E b) (h : E[i]? = some s) (hs : asM s = some ds) : ∃ a kvs, σ[i]? = some (some (.ref a)) ∧ ¬ W.M a ∧ H a = some (.dK kvs) ∧ DtK H kvs ds := by
  cases s <;> simp [asM] at hs <;> subst hs
  · obtain ⟨v, h1, a, rfl, _, n, kvs, h2, h3⟩ := S.at_ i _ h; exact ⟨a, kvs, h1, n, h2, h3⟩
  · obtain ⟨v, h1, a, rfl, _, n, kvs, h2, h3⟩ := S.at_ i _ h; exact ⟨a, kvs, h1, n, h2, h3⟩
/-- d[k] -/
def mDG (i : Nat) (mk : WE) : WE := fun E b R => ∃ s ds, E[i]? = some s ∧ asM s = some ds ∧ mk E b fun d b1 => ∃ k v, dKey d = some k ∧ lookD ds k = some v ∧ R v b1
theorem pm_dg {i : Nat} {q k : Expr} {mk : WE} (h : PE X q (tDGet (tVar i) (tE mk))) : PE X q (tE (mDG i mk)) := h.weak fun σ H Q ⟨W, H0, E, b, R, S, ⟨s, ds, hE, hs, hm⟩, k⟩ => by
  obtain ⟨a, kvs, hσ, nM, ha, hd⟩ := S.dic hE hs
  refine ⟨_, hσ, W, H0, E, b, _, S, hm, fun d b1 v H1 ⟨k', z, e1, e2, hr⟩ k1 d1 t1 => ?_⟩
  have hd1 := hd.mono (W.fk S.dk k1)
  obtain ⟨w, hv, tw⟩ := (hd1.look (k := k')).1 z e2
  exact ⟨a, w, rfl, .inl ⟨kvs, k', .inl (k1 a _ nM ha), t1.key e1, hv.symm⟩, k _ b1 w H1 hr k1 d1 tw⟩
/-- d.get(k, x) -/
def mDGd (i : Nat) (mk mx : WE) : WE := fun E b R => ∃ s ds, E[i]? = some s ∧ asM s = some ds ∧ mk E b fun d b1 => mx E b1 fun x b2 => ∃ k, dKey d = some k ∧ R ((lookD ds k).getD x) b2
theorem pm_dgd {i : Nat} {q : Expr} {mk mx : WE} (h : PE X q (tDGet2 (tVar i) (tE mk) (tE mx))) : PE X q (tE (mDGd i mk mx)) := h.weak fun σ H Q ⟨W, H0, E, b, R, S, ⟨s, ds, hE, hs, hm⟩, k⟩ => by
  obtain ⟨a, kvs, hσ, nM, ha, hd⟩ := S.dic hE hs
  refine ⟨_, hσ, a, rfl, .inl ⟨kvs, .inl ha⟩, W, H0, E, b, _, S, hm, fun d b1 v H1 h1 k1 d1 t1 => ⟨W, H0, E, b1, _, S.step k1 d1, h1, fun x b2 u H2 ⟨k', e1, hr⟩ k2 d2 t2 => ?_⟩⟩
  have k12 := k1.trans k2
  have hd1 := hd.mono (W.fk S.dk k12)
  refine ⟨valV kvs k', .inl ⟨kvs, k', .inl (k12 a _ nM ha), t1.key e1, rfl⟩, ?_⟩
  cases hl : lookD ds k' with
  | none =>
    rw [(hd1.look (k := k')).2 hl]
    rw [hl] at hr
    exact k _ b2 u H2 hr k12 d2 t2
  | some z =>
    obtain ⟨w, hv, tw⟩ := (hd1.look (k := k')).1 z hl
    rw [hv]
    rw [hl] at hr
    exact k _ b2 w H2 hr k12 d2 tw
/-- k in d -/
def mDIn (i : Nat) (mk : WE) : WE := fun E b R => ∃ s ds, E[i]? = some s ∧ asM s = some ds ∧ mk E b fun d b1 => ∃ k, dKey d = some k ∧ R (.bool (lookD ds k).isSome) b1
/-- d[k] = v -/
def mPut (i : Nat) (mk mv : WE) : WS := fun E b F => ∃ ds, E[i]? = some (.m ds) ∧ mv E b fun v b1 => mk E b1 fun d b2 => ∃ k, dKey d = some k ∧ ds.length < 100000 ∧ F.nx (E.set i (.m (putD ds k v))) b2
theorem pm_put {i : Nat} {st : Stmt} {mk mv : WE} (h : PS X st (sDPut (tVar i) (tE mk) (tE mv))) : PS X st (tS (mPut i mk mv)) := h.weak fun D σ H ⟨W, H0, E, b, F, S, ⟨ds, hE, hm⟩, k⟩ => by
  obtain ⟨u, hσ', a, rfl, h0, nM, kvs, ha, hd⟩ := S.at_ i _ hE
  refine ⟨W, H0, E, b, _, S, hm, fun v b1 w H1 h1 k1 d1 t1 => ⟨_, hσ', W, H0, E, b1, _, S.step k1 d1, h1, fun d b2 y H2 ⟨k', e1, few, hF⟩ k2 d2 t2 => ?_⟩⟩
  have k12 := k1.trans k2
  have ha2 := k12 a _ nM ha
  have hd2 := hd.mono (W.fk S.dk k12)
  have t12 := t1.mono (W.fk d1 k2)
  refine ⟨a, _, rfl, .inl ⟨kvs, k', ha2, t2.key e1, sz_lt (by rw [hd.length]; exact few), rfl⟩, ?_⟩
  have fk : Fk H2 (upd H2 a (.dK (putK kvs k' w))) := fun p o u e => by
    rw [upd_ne (ne_of e ha2 (by intro z; cases z))]
    exact e
  exact k.nx _ _ _ b2 (((S.step k1 d1).step k2 d2).put (s' := .m (putD ds k' v)) hE rfl rfl hσ' h0 nM ha2 (fun q u z => by cases z) ⟨a, rfl, h0, nM, _, upd_same, (hd2.put t12).mono fk⟩) hF
/-- sorted(d), int keys -/
def mSD (i : Nat) : WL := fun E b R => ∃ s ds, E[i]? = some s ∧ asM s = some ds ∧ ∃ ks : List Int, ds.map (·.1) = ks.map Sum.inl ∧ ks.length < 64 ∧ ∀ ys : List Int, ys.Perm ks → ys.Pairwise (· ≤ ·) → R (ys.map PyData.int) b
def rSDI : List V → Hp → VK → Prop := fun xs H Q => ∃ (a : Addr) (kvs : List (Key × V)) (ks : List Int), xs = [.ref a] ∧ Rd H a (.dK kvs) ∧ kvs.map (·.1) = ks.map Sum.inl ∧ ks.length < 64 ∧ ∀ (ys : List Int) (p : Addr), ys.Perm ks → ys.Pairwise (· ≤ ·) → H p = none → Q (.ref p) (upd H p (.lst (ys.map V.int)))
theorem pm_sd {i : Nat} {q : Expr} (h : PE X q (tCB rSDI (tCons (tVar i) tNil))) : PE X q (tL (mSD i)) := h.weak fun σ H Q ⟨W, H0, E, b, R, S, ⟨s, ds, hE, hs, ks, hk, few, hr⟩, k⟩ => by
  obtain ⟨a, kvs, hσ, nM, ha, hd⟩ := S.dic hE hs
  exact ⟨_, hσ, a, kvs, ks, rfl, .inl ha, hd.keys.trans hk, few, fun ys p pm srt np => k _ b p _ _ (hr ys pm srt) (Kp.ex (Ex.new np)) (W.ex (Ex.new np) S.dk) np upd_same (DtAll.ints ys)⟩
end
end Wp

namespace Wp
open PySem PySem.Spec PyProof.Rows L2 Evl
theorem FnG.weak {P : Program} {w : World} {K : PySem.W.Frag} {mg : Str → Option Value} {base : Heap} {k : Nat} {f : Addr} {fd : FuncData} {ps : List Str} {sp sp' : Sp} (F : Cn.FnG P w K mg base k f fd ps sp) (h : ∀ vs H Q E, sp' vs H Q E → sp vs H Q E) : Cn.FnG P w K mg base k f fd ps sp' :=
  ⟨fun vs H Q E q => F.len vs H Q E (h vs H Q E q), fun A out s H args us vs Q E g r e b v q => F.run A out s H args us vs Q E g r e b v (h vs H Q E q)⟩
/-! ### decks -/
def deckW (D C : Addr) : Wld where
  M := fun a => a = D ∨ a = C
  root := D
  Dk := fun m H => Cn.Deck D C m H
  kd := 1
  isK := ⟨C, fun a => Iff.rfl, fun m H => Iff.rfl⟩
  ex := fun e d => d.ex e
  put := fun n d => d.mut (fun z => n (.inl z)) (fun z => n (.inr z))
  lst := fun ma ⟨n, cs, d, _⟩ => by
    rcases ma with rfl | rfl
    · exact ⟨_, d.hD⟩
    · exact ⟨_, d.hC⟩
def mDraw : WF := fun as b R => match as with
  | [.s 1, .d (.int k)] => (b ≤ 1000000000 ∧ 1 ≤ k ∧ k ≤ 1000000001) ∧ ∀ r : Int, 0 ≤ r → r < k → R (.int r) (b + 1)
  | _ => False
theorem draw_of {vs : List V} {H : Hp} {Q : VK} {E : XK} (h : spOf mDraw vs H Q E) : Cn.spDraw vs H Q E := by
  obtain ⟨W, as, b, R, ar, dk, hm, k⟩ := h
  unfold mDraw at hm
  split at hm
  · cases ar with
    | cons a1 r =>
      cases r with
      | cons a2 r =>
        cases r
        obtain ⟨rfl, hk⟩ := a1
        have a2 : Dt H _ (.int _) := a2
        cases a2
        have ik := W.isK
        rw [hk] at ik
        obtain ⟨C, hM, hD⟩ := ik
        obtain ⟨⟨b1, k1, k2⟩, hr⟩ := hm
        refine ⟨W.root, C, b, _, rfl, (hD b H).mp dk, by omega, k1, k2, fun r H' r0 r1 kp d' => ?_⟩
        refine k _ (b + 1) _ H' (hr r r0 r1) (fun a o na e => kp a o (fun z => na ((hM a).mpr (.inl z))) (fun z => na ((hM a).mpr (.inr z))) e) ((hD _ H').mpr (by simpa using d')) (.int r)
  · exact hm.elim
/-- what the law wants -/
def lawF : WEnds := { nx := fun _ _ => False, rt := fun d _ => d = .bool true }
theorem law_run {K : PySem.W.Frag} {N : List Str} {a : Addr} {ns : List Int} {H : Hp} {Q : VK} {mr : WS} (hs : SqL K H a (ns.map V.int)) (few : ns.length ≤ 63) (hN : 2 ≤ N.length) (hm : mr (.no :: .s 1 :: List.replicate (N.length - 2) .no) 0 lawF) (q : ∀ H', Q (.bl true) H') :
    tSeq (tAsg (tCall (Cn.spDeck K) [] E0 (tCons (tVar 0) tNil)) (gName 1)) (tS mr) { nx := fun _ H' => Q .non H', rt := Q } (L2.start N [.ref a]) H := by
  refine ⟨.ref a, by simp [L2.start], a, ns, rfl, hs, few, fun D C H' nD nC e' dk => ?_⟩
  refine ⟨deckW D C, ⟨H', H'⟩, _, 0, lawF, ⟨?_, ?_, ?_, Kp.refl, dk, fun _ _ _ z => z⟩, hm, ⟨fun _ _ _ _ _ z => z.elim, fun _ _ _ _ _ z => z.elim, fun _ _ _ _ _ z => z.elim, fun d b v H2 r _ _ t => ?_⟩⟩
  · simp [L2.start]; omega
  · intro i s e
    match i with
    | 0 => simp at e; subst e; exact ⟨some (.ref a), by simp [L2.start], trivial⟩
    | 1 =>
      simp at e
      subst e
      refine ⟨some (.ref D), ?_, rfl, rfl⟩
      simp only [gName, L2.start]
      rw [List.getElem?_set_self (by simp; omega)]
    | i + 2 =>
      have e : (List.replicate (N.length - 2) Sl.no)[i]? = some s := by simpa using e
      rw [List.getElem?_replicate] at e
      split at e
      · cases e
        rename_i hi
        refine ⟨none, ?_, trivial⟩
        simp only [L2.start]
        rw [List.getElem?_set_ne (by omega)]
        simp [List.getElem?_replicate]
        omega
      · cases e
  · intro i j s t a' _ h1 o1
    exfalso
    match i with
    | 0 => simp at h1; subst h1; cases o1
    | 1 => simp at h1; subst h1; cases o1
    | i + 2 =>
      have e : (List.replicate (N.length - 2) Sl.no)[i]? = some s := by simpa using h1
      rw [List.getElem?_replicate] at e
      split at e
      · cases e; cases o1
      · cases e
  · have r : d = .bool true := r
    subst r
    cases t
    exact q H2
end Wp

namespace Cn
open PySem PySem.Spec PyProof.Rows L2 Evl
/-! ### sizes of values of any kind -/
def odKv : List (PyData × PyData) → Bool
  | [] => true
  | [(.str x, .int i)] => decide (x = "a") && decide (i = 1)
  | _ => false
mutual
def okV (B : Nat) : PyData → Bool
  | .none => true
  | .bool _ => true
  | .int i => decide (i.natAbs ≤ B)
  | .str x => decide ((reprText x).length ≤ 1000)
  | .list xs => okVAll B xs
  | .tuple xs => okVAll B xs
  | .dict kvs => odKv kvs
def okVAll (B : Nat) : List PyData → Bool
  | [] => true
  | x :: xs => okV B x && okVAll B xs
end
mutual
def wv : PyData → Nat
  | .none => 10
  | .bool _ => 10
  | .int _ => 100
  | .str _ => 1000
  | .list xs => wvAll xs + 3
  | .tuple xs => wvAll xs + 3
  | .dict _ => 20
def wvAll : List PyData → Nat
  | [] => 0
  | x :: xs => (wv x + 2) + wvAll xs
end
mutual
def dv : PyData → Nat
  | .list xs => dvAll xs + 1
  | .tuple xs => dvAll xs + 1
  | .dict _ => 1
  | _ => 0
def dvAll : List PyData → Nat
  | [] => 0
  | x :: xs => max (dv x) (dvAll xs)
end
theorem odKv_inv : ∀ {kvs : List (PyData × PyData)}, odKv kvs = true → kvs = [] ∨ kvs = [(.str "a", .int 1)]
  | [], _ => .inl rfl
  | [(.str x, .int i)], h => by
    simp only [odKv, Bool.and_eq_true, decide_eq_true_eq] at h
    rw [h.1, h.2]
    exact .inr rfl
  | [(.none, _)], h => by simp [odKv] at h
  | [(.bool _, _)], h => by simp [odKv] at h
  | [(.int _, _)], h => by simp [odKv] at h
  | [(.list _, _)], h => by simp [odKv] at h
  | [(.tuple _, _)], h => by simp [odKv] at h
  | [(.dict _, _)], h => by simp [odKv] at h
  | [(.str _, .none)], h => by simp [odKv] at h
  | [(.str _, .bool _)], h => by simp [odKv] at h
  | [(.str _, .str _)], h => by simp [odKv] at h
  | [(.str _, .list _)], h => by simp [odKv] at h
  | [(.str _, .tuple _)], h => by simp [odKv] at h
  | [(.str _, .dict _)], h => by simp [odKv] at h
  | _ :: _ :: _, h => by simp [odKv] at h
mutual
theorem okV_show {B : Nat} (hB : B < 10 ^ 40) : ∀ d : PyData, okV B d = true → d.showable = true ∧ d.shown.length ≤ wv d ∧ d.depth ≤ dv d
  | .none, _ => ⟨rfl, by simp only [PyData.shown, wv]; decide, by simp only [PyData.depth]; omega⟩
  | .bool b, _ => ⟨rfl, by simp only [PyData.shown, wv]; cases b <;> decide, by simp only [PyData.depth]; omega⟩
  | .int i, h => by
    have h1 : i.natAbs < 10 ^ 40 := by
      simp only [okV, decide_eq_true_eq] at h
      omega
    have h2 : i.natAbs < 2 ^ 1920 := Nat.lt_of_lt_of_le h1 (by decide +kernel)
    refine ⟨?_, ?_, by simp only [PyData.depth]; omega⟩
    · simp only [PyData.showable, decide_eq_true_eq]
      by_cases h0 : i.natAbs = 0
      · rw [h0]; decide
      · exact (Nat.log2_lt h0).2 h2
    · have := int_text_length_le10 (a := i) (k := 40) (by decide) h1
      simp only [PyData.shown, wv]
      rw [PySem.ofString_length]
      omega
  | .str x, h => by
    have h1 : (reprText x).length ≤ 1000 := by simpa only [okV, decide_eq_true_eq] using h
    exact ⟨rfl, by simp only [PyData.shown, wv]; exact h1, by simp only [PyData.depth]; omega⟩
  | .list xs, h => by
    obtain ⟨a, b, c⟩ := okV_showAll hB xs (by simpa only [okV] using h)
    have := listText_le (PyData.shownAll xs)
    refine ⟨by simpa only [PyData.showable] using a, by simp only [PyData.shown, wv]; omega, by simp only [PyData.depth, dv]; omega⟩
  | .tuple xs, h => by
    obtain ⟨a, b, c⟩ := okV_showAll hB xs (by simpa only [okV] using h)
    have := tupleText_le (PyData.shownAll xs)
    refine ⟨by simpa only [PyData.showable] using a, by simp only [PyData.shown, wv]; omega, by simp only [PyData.depth, dv]; omega⟩
  | .dict kvs, h => by
    rcases odKv_inv (by simpa only [okV] using h) with rfl | rfl
    · exact ⟨rfl, by simp only [PyData.shown, PyData.shownKv, wv]; decide, by simp only [PyData.depth, PyData.depthKv, dv]; omega⟩
    · exact ⟨rfl, by simp only [PyData.shown, PyData.shownKv, wv]; decide +kernel, by simp only [PyData.depth, PyData.depthKv, dv]; decide⟩
theorem okV_showAll {B : Nat} (hB : B < 10 ^ 40) : ∀ ds : List PyData, okVAll B ds = true → PyData.showableAll ds = true ∧ piled (PyData.shownAll ds) ≤ wvAll ds ∧ PyData.depthAll ds ≤ dvAll ds
  | [], _ => ⟨rfl, by simp only [PyData.shownAll, wvAll]; exact Nat.le_refl _, by simp only [PyData.depthAll]; omega⟩
  | x :: xs, h => by
    simp only [okVAll, Bool.and_eq_true] at h
    obtain ⟨a, b, c⟩ := okV_show hB x h.1
    obtain ⟨a', b', c'⟩ := okV_showAll hB xs h.2
    refine ⟨by simp only [PyData.showableAll, a, a', Bool.and_self], ?_, by simp only [PyData.depthAll, dvAll]; omega⟩
    simp only [PyData.shownAll, wvAll]
    rw [piled_cons]; omega
end
theorem okVAll_iff {B : Nat} : ∀ {ds : List PyData}, okVAll B ds = true ↔ ∀ d ∈ ds, okV B d = true
  | [] => by simp [okVAll]
  | x :: xs => by simp [okVAll, okVAll_iff (ds := xs)]
theorem dvAll_iff {k : Nat} : ∀ {ds : List PyData}, dvAll ds ≤ k ↔ ∀ d ∈ ds, dv d ≤ k
  | [] => by simp [dvAll]
  | x :: xs => by
    have := dvAll_iff (k := k) (ds := xs)
    simp only [dvAll, List.mem_cons, forall_eq_or_imp, ← this]
    omega
theorem wvAll_append : ∀ (a b : List PyData), wvAll (a ++ b) = wvAll a + wvAll b
  | [], b => by simp [wvAll]
  | x :: a, b => by simp only [List.cons_append, wvAll, wvAll_append a b]; omega
theorem wvAll_take : ∀ (n : Nat) (a : List PyData), wvAll (a.take n) ≤ wvAll a
  | 0, a => by simp [wvAll]
  | n + 1, [] => by simp [wvAll]
  | n + 1, x :: a => by have := wvAll_take n a; simp only [List.take_succ_cons, wvAll]; omega
theorem wvAll_drop : ∀ (n : Nat) (a : List PyData), wvAll (a.drop n) ≤ wvAll a
  | 0, a => by simp [wvAll]
  | n + 1, [] => by simp [wvAll]
  | n + 1, x :: a => by have := wvAll_drop n a; simp only [List.drop_succ_cons, wvAll]; omega
theorem wvAll_reverse : ∀ (a : List PyData), wvAll a.reverse = wvAll a
  | [] => rfl
  | x :: a => by simp only [List.reverse_cons, wvAll_append, wvAll, wvAll_reverse a]; omega
theorem wv_mem : ∀ {ds : List PyData} {d : PyData}, d ∈ ds → wv d + 2 ≤ wvAll ds
  | [], _, h => nomatch h
  | x :: xs, d, h => by
    rcases List.mem_cons.mp h with rfl | h
    · simp only [wvAll]; omega
    · have := wv_mem h; simp only [wvAll]; omega
theorem len_wv : ∀ (ds : List PyData), 2 * ds.length ≤ wvAll ds
  | [] => by simp
  | x :: xs => by have := len_wv xs; simp only [List.length_cons, wvAll]; omega
/-- a value of at most k signs, at most n deep, whole numbers up to B -/
structure Sz (B k n : Nat) (d : PyData) : Prop where
  ok : okV B d = true
  w : wv d ≤ k
  p : dv d ≤ n
theorem Sz.mono {B B' k k' n n' : Nat} {d : PyData} (h : Sz B k n d) (b : B ≤ B') (a : k ≤ k') (c : n ≤ n') : Sz B' k' n' d := by
  have key : (∀ d : PyData, okV B d = true → okV B' d = true) := by
    intro d
    refine PyData.rec (motive_1 := fun d => okV B d = true → okV B' d = true) (motive_2 := fun ds => okVAll B ds = true → okVAll B' ds = true) (motive_3 := fun _ => True) (motive_4 := fun _ => True) ?_ ?_ ?_ ?_ ?_ ?_ ?_ ?_ ?_ ?_ ?_ ?_ d
    all_goals first
      | (intros; trivial)
      | (intro i h; simp only [okV, decide_eq_true_eq] at h ⊢; omega)
      | (intro x y h1 h2 h; simp only [okVAll, Bool.and_eq_true] at h ⊢; exact ⟨h1 h.1, h2 h.2⟩)
      | (intro x h1 h; simp only [okV] at h ⊢; exact h1 h)
      | (intros; simpa only [okV] using ‹_›)
  exact ⟨key d h.ok, Nat.le_trans h.w a, Nat.le_trans h.p c⟩
theorem sz_tup {B k n : Nat} {ds : List PyData} (h : ∀ d ∈ ds, okV B d = true) (hw : wvAll ds + 3 ≤ k) (hp : ∀ d ∈ ds, dv d + 1 ≤ n) (hn : 1 ≤ n) : Sz B k n (.tuple ds) := by
  refine ⟨by simp only [okV]; exact okVAll_iff.mpr h, by simp only [wv]; exact hw, ?_⟩
  have : dvAll ds ≤ n - 1 := dvAll_iff.mpr fun d hd => by have := hp d hd; omega
  simp only [dv]; omega
theorem sz_lst {B k n : Nat} {ds : List PyData} (h : ∀ d ∈ ds, okV B d = true) (hw : wvAll ds + 3 ≤ k) (hp : ∀ d ∈ ds, dv d + 1 ≤ n) (hn : 1 ≤ n) : Sz B k n (.list ds) := by
  refine ⟨by simp only [okV]; exact okVAll_iff.mpr h, by simp only [wv]; exact hw, ?_⟩
  have : dvAll ds ≤ n - 1 := dvAll_iff.mpr fun d hd => by have := hp d hd; omega
  simp only [dv]; omega
theorem Sz.items {B k n : Nat} {ds : List PyData} (h : Sz B k n (.tuple ds)) : (∀ d ∈ ds, okV B d = true) ∧ wvAll ds + 3 ≤ k ∧ (∀ d ∈ ds, dv d + 1 ≤ n) ∧ 1 ≤ n := by
  obtain ⟨a, b, c⟩ := h
  simp only [okV] at a
  simp only [wv] at b
  simp only [dv] at c
  have : dvAll ds ≤ n - 1 := by omega
  exact ⟨okVAll_iff.mp a, b, fun d hd => by have := dvAll_iff.mp this d hd; omega, by omega⟩
/-! ### reading -/
section
variable {X : Cx} {pins : List (Addr × Obj)} {σ : L2.St} {H : Hp} {s : Shared}
mutual
theorem Tp.reads (I : Inv X pins σ H s) : ∀ (d : PyData) (v : V) (u : Value), Tp H v d → RelV v u → ∃ as, Reads s.heap u d as ∧ sysModules ∉ as
  | .none, _, _, h, r => by
    cases h
    cases r
    exact ⟨_, Reads.none, by simp⟩
  | .bool b, _, _, h, r => by
    cases h
    cases r
    exact ⟨_, Reads.bool b, by simp⟩
  | .int i, _, _, h, r => by
    cases h
    obtain ⟨t, rfl⟩ := r
    exact ⟨_, Reads.int i t, by simp⟩
  | .str x, _, _, h, r => by
    cases h
    obtain ⟨t, rfl⟩ := r
    exact ⟨_, Reads.str x t, by simp⟩
  | .list ds, _, _, h, r => by
    cases h with
    | lst hs hn ha =>
      cases r
      obtain ⟨its, rv, ⟨o, n, ho, hc, _, hd⟩, _⟩ := I.list (xs := _) (show SqL X.K H _ _ from .inl (.inr ⟨_, hs⟩))
      obtain ⟨as, hr, na⟩ := Tp.readsAll I ds _ its ha rv
      exact ⟨_, Reads.list ho hc hd hr, by simp [na]; exact fun z => hn z.symm⟩
  | .tuple ds, _, _, h, r => by
    cases h with
    | tup hs ha =>
      cases r
      obtain ⟨its, rv, ⟨o, ho, hc, n, hd⟩, _⟩ := I.tuple (sr (K := X.K) hs)
      obtain ⟨as, hr, na⟩ := Tp.readsAll I ds _ its ha rv
      exact ⟨_, Reads.tuple ho hc hd hr, na⟩
  | .dict ds, _, _, h, r => by
    cases h with
    | dic hs od =>
      cases r
      obtain ⟨_, hsm, vs, kv, o, es, ep, ho, hx, hd, _, hp, _⟩ := dk_rd I.hok (.inr ⟨_, hs⟩)
      have nsm := (beq_eq_false_iff_ne.mp hsm).symm
      rcases od with ⟨rfl, rfl⟩ | ⟨rfl, rfl⟩
      · cases kv
        have e0 : es.toList = [] := by cases h : es.toList with | nil => rfl | cons e r => rw [h] at hp; cases hp
        refine ⟨_, Reads.dict (kvs := []) (as := []) (bs := []) ho hx.1 hd (by rw [e0]; exact .nil) (by rw [e0]; exact .nil), by simp [nsm]⟩
      · cases kv with
        | @cons _ q _ _ h1 h2 =>
          cases h2
          obtain ⟨qk, qv⟩ := q
          obtain ⟨e1, t, e2⟩ := h1
          dsimp only at e1 e2
          subst e1 e2
          cases h : es.toList with
          | nil => rw [h] at hp; cases hp
          | cons e r =>
            rw [h] at hp
            cases hp with
            | cons k1 k2 k3 =>
              cases k3
              rcases keyIs_shape (k := .inr "a") (v := e.key) k1 with ⟨i, t', z, _⟩ | ⟨x, t', z, ek⟩
              · cases z
              · cases z
                refine ⟨_, Reads.dict (kvs := [(.str "a", .int 1)]) ho hx.1 hd (as := [] ++ []) (bs := [] ++ []) (by rw [h]; simp only [List.map_cons, List.map_nil, ek]; exact .cons (.str _ _) .nil) (by rw [h]; simp only [List.map_cons, List.map_nil, k2]; exact .cons (.int _ _) .nil), by simp [nsm]⟩
theorem Tp.readsAll (I : Inv X pins σ H s) : ∀ (ds : List PyData) (vs : List V) (us : List Value), TpAll H vs ds → Vals vs us → ∃ as, ReadsAll s.heap us ds as ∧ sysModules ∉ as
  | [], _, _, h, r => by
    cases h
    cases r
    exact ⟨_, ReadsAll.nil, by simp⟩
  | d :: ds, _, _, h, r => by
    cases h with
    | cons h1 h2 =>
      cases r with
      | cons r1 r2 =>
        obtain ⟨as, q1, n1⟩ := Tp.reads I d _ _ h1 r1
        obtain ⟨bs, q2, n2⟩ := Tp.readsAll I ds _ _ h2 r2
        exact ⟨_, ReadsAll.cons q1 q2, by simp [n1, n2]⟩
end
end
/-! ### repr -/
/-- what repr is asked of: a value, or a list of values that was just made -/
def Tq (H : Hp) (v : V) (d : PyData) : Prop := Tp H v d ∨ ∃ a xs ds, v = .ref a ∧ d = .list ds ∧ H a = some (.lst xs) ∧ a ≠ sysModules ∧ TpAll H xs ds
section
variable {X : Cx}
theorem Tq.reads {pins : List (Addr × Obj)} {σ : L2.St} {H : Hp} {s : Shared} (I : Inv X pins σ H s) {d : PyData} {v : V} {u : Value} (h : Tq H v d) (r : RelV v u) : ∃ as, Reads s.heap u d as ∧ sysModules ∉ as := by
  rcases h with h | ⟨a, xs, ds, rfl, rfl, ha, hn, hx⟩
  · exact Tp.reads I d v u h r
  · cases r
    obtain ⟨its, rv, ⟨o, n, ho, hc, _, hd⟩, _⟩ := I.list (show SqL X.K H a xs from sq_of ha)
    obtain ⟨as, hr, na⟩ := Tp.readsAll I ds _ its hx rv
    exact ⟨_, Reads.list ho hc hd hr, by simp [na]; exact fun z => hn z.symm⟩
def rReprV : List V → Hp → VK → Prop := fun xs H Q => ∃ v d, xs = [v] ∧ Tq H v d ∧ Sz (10 ^ 39 + 10) 1000000 50 d ∧ Q (.str d.shown) H
theorem call_reprV (hg : X.A.guards = some []) (hu : X.A.units + 64 < cLine) : CallR X (.builtin "repr") rReprV := by
  intro pins s σ H xs us Q I r h
  obtain ⟨v, d, rfl, hd, hs, q⟩ := h
  obtain ⟨u, rfl, ru⟩ := vals1 r
  obtain ⟨as, rd, na⟩ := hd.reads I ru
  obtain ⟨s1, s3, s4⟩ := okV_show (by decide) d hs.ok
  have hw := hs.w
  have hp := hs.p
  have hz : d.shown.length ≤ sizeLine := Nat.le_trans (Nat.le_trans s3 hw) (by decide)
  have leaf : ∀ {h' : Heap} {t u : Nat}, (∀ b o, s.heap.get? b = some o → h'.get? b = some o) → EP X pins σ Q (.str d.shown u) { s with heap := h', toks := t } :=
    fun k => ⟨.str _, H, I.kept k, ⟨_, rfl⟩, q⟩
  have big : ∀ {a : Addr} (rd : Reads s.heap (.ref a) d as), wpAny (model X.prog X.w) X.A (call (.builtin "repr") [.ref a]) (EP X pins σ Q) X.xe s := fun rd =>
    repr_of_reads' rd s1 (fun _ => na) hg (by omega) (fun _ _ e => e) (fun h' u tk k => leaf k) hz
  cases rd with
  | none =>
    simp only [PyData.shown] at leaf
    exact PySem.P.repr_of_none (leaf fun _ _ e => e)
  | bool b =>
    simp only [PyData.shown] at leaf
    exact PySem.P.repr_of_bool (leaf fun _ _ e => e)
  | int i t =>
    simp only [PyData.shown] at leaf
    exact PySem.P.repr_of_int (by simpa only [PyData.showable, decide_eq_true_eq] using s1) (leaf fun _ _ e => e)
  | str x t =>
    simp only [PyData.shown] at leaf hz
    exact PySem.P.repr_of_str (leaf fun _ _ e => e) hz
  | list a b c e => exact big (.list a b c e)
  | tuple a b c e => exact big (.tuple a b c e)
  | dict a b c e f => exact big (.dict a b c e f)
/-! ### lists, dicts that are locked at once -/
def tLstZ (t : TA) : TE := fun σ H Q => t σ H fun xs H1 => xs.length ≤ sizeLine ∧ ∀ p o, H1 p = none → p ≠ sysModules → Q (.ref p) (upd H1 p (.frz o (.lst xs)))
def tLstN (t : TA) : TE := fun σ H Q => t σ H fun xs H1 => xs.length ≤ sizeLine ∧ ∀ p, H1 p = none → p ≠ sysModules → Q (.ref p) (upd H1 p (.lst xs))
theorem pe_lstZ {es : List Expr} {t : TA} {pos : Pos} (h : PA X es t) : PE X (.List es pos) (tLstZ t) := by
  refine ⟨fun pins s σ H Q I hq => ?_⟩
  refine wpAny_List_spliced (thn (h.run pos pins s σ H _ I hq) fun us s1 ⟨xs, H1, I1, r, z, q⟩ => ⟨by rw [← r.length]; exact z, ?_⟩)
  have hf : H1 s1.heap.objs.size = none := I1.hok.fresh (Nat.le_refl _)
  have e : (s1.heap.push { cls := .type "list", data := .seq us.toArray }).get? s1.heap.objs.size = some { cls := .type "list", data := .seq us.toArray } := Heap.get?_push_size _ rfl
  exact ⟨.ref s1.heap.objs.size, upd H1 s1.heap.objs.size (.frz { cls := .type "list", data := .seq us.toArray } (.lst xs)), I1.laid (t' := s1.toks) (fun b u e => Heap.get?_push_of_some _ e) (Nat.le_refl _) ⟨e, z, us, 0, r, e⟩, rfl, q _ _ hf (Nat.ne_of_gt I1.big)⟩
theorem pe_lstN {es : List Expr} {t : TA} {pos : Pos} (h : PA X es t) : PE X (.List es pos) (tLstN t) := by
  refine ⟨fun pins s σ H Q I hq => ?_⟩
  refine wpAny_List_spliced (thn (h.run pos pins s σ H _ I hq) fun us s1 ⟨xs, H1, I1, r, z, q⟩ => ⟨by rw [← r.length]; exact z, ?_⟩)
  have hf : H1 s1.heap.objs.size = none := I1.hok.fresh (Nat.le_refl _)
  exact ⟨.ref s1.heap.objs.size, upd H1 s1.heap.objs.size (.lst xs), I1.laid (t' := s1.toks) (fun b u e => Heap.get?_push_of_some _ e) (Nat.le_refl _) ⟨z, us, 0, r, Heap.get?_push_size _ rfl⟩, rfl, q _ hf (Nat.ne_of_gt I1.big)⟩
/-- an expression that gives a new dict: it is locked -/
def tDz (t : TE) : TE := fun σ H Q => t σ H fun v H1 => ∃ a kvs, v = .ref a ∧ H1 a = some (.dK kvs) ∧ ∀ o, Q (.ref a) (upd H1 a (.frz o (.dK kvs)))
theorem pe_dz {e : Expr} {t : TE} (h : PE X e t) : PE X e (tDz t) := by
  refine ⟨fun pins s σ H Q I hq => thn (h.run pins s σ H _ I hq) fun u s1 ⟨v, H1, I1, r, a, kvs, ev, ha, q⟩ => ?_⟩
  subst ev
  obtain ⟨z, hd, vs, kv, o, es, ep, ho, rest⟩ := dk_of I1.hok ha
  refine ⟨.ref a, upd H1 a (.frz o (.dK kvs)), ?_, r, q o⟩
  exact I1.write (t' := s1.toks) (h' := s1.heap) (by rw [ha]; exact True.intro) (.inl rfl) (fun b u _ e => e) ⟨o, ho⟩ ⟨ho, z, hd, vs, kv, o, es, ep, ho, rest⟩
/-- list(tuple), locked -/
def rListZ (K : PySem.W.Frag) : List V → Hp → VK → Prop := fun xs H Q => ∃ p ys, xs = [.ref p] ∧ SqT K H p ys ∧ ∀ l o, H l = none → l ≠ sysModules → Q (.ref l) (upd H l (.frz o (.lst ys)))
theorem call_listZ : CallR X (.type "list") (rListZ X.K) := by
  intro pins s σ H xs us Q I r h
  obtain ⟨p, ys, rfl, hq, q⟩ := h
  obtain ⟨u, rfl, rx⟩ := vals1 r
  cases rx
  obtain ⟨its, r', pl, hz⟩ := I.tuple hq
  have hlen := r'.length
  obtain ⟨o, ho, hc, n, hd⟩ := pl
  exact call_list_seq p (.inr rfl) ho hc hd (fun h' c' kp e => ⟨.ref s.heap.objs.size, _, I.laid (t' := s.toks) (o := .frz _ (.lst ys)) kp (Nat.le_refl _) ⟨e, hz, its, c', r', e⟩, rfl, q _ _ (I.hok.fresh (Nat.le_refl _)) (Nat.ne_of_gt I.big)⟩) (by simp only [List.size_toArray] <;> omega)
end
end Cn

namespace HT
open PySem PySem.Spec PyProof.Rows
section
variable {prog : Program} {w : World} {A : Around} {E : Value → Shared → Prop} {s : Shared}
theorem places_back (n : Nat) : Builtin.Slice.slicePlaces ((n : Int) - 1) (-1) (-1) = n := by
  unfold Builtin.Slice.slicePlaces
  have h1 : ¬ ((-1 : Int) > 0) := by omega
  simp only [h1, if_false]
  split
  · simp
  · omega
theorem adjust_back (n : Nat) : Builtin.Slice.sliceAdjust none none (-1) (n : Int) = ((n : Int) - 1, -1) := by
  unfold Builtin.Slice.sliceAdjust
  simp
theorem sliceApplied_back {sl : Addr} {vl vu vs : Value} {n : Nat} {Q : Int × Int × Nat → Shared → Prop} (hs : s.heap.IsSliceOf sl vl vu vs) (pl : IsPart vl none) (pu : IsPart vu none) (ps : IsPart vs (some (-1)))
    (h : Q ((n : Int) - 1, -1, n) s) : wpAny (model prog w) A (Builtin.Slice.sliceApplied (.ref sl) (pure (n : Int))) Q E s := by
  obtain ⟨os, hos, hcs, hds⟩ := id hs
  unfold Builtin.Slice.sliceApplied Builtin.Slice.sliceFields
  refine wpAny_bind (wpAny_bind (wpAny_field hos hds (x := vl) rfl (wpAny_bind (wpAny_field hos hds (x := vu) rfl (wpAny_bind (wpAny_field hos hds (x := vs) rfl (wpAny_pure ?_)))))))
  refine wpAny_bind (slicePart_ ps ?_)
  show wpAny _ _ (if ((-1 : Int) == 0) = true then _ else _) _ _ s
  rw [if_neg (by decide)]
  refine wpAny_bind (slicePart_ pl (wpAny_bind (slicePart_ pu (wpAny_bind (wpAny_pure ?_)))))
  show wpAny _ _ (match Builtin.Slice.sliceAdjust none none (-1) (n : Int) with | (lo, hi) => pure (lo, (-1 : Int), Builtin.Slice.slicePlaces lo hi (-1))) _ _ s
  rw [adjust_back n]
  show wpAny _ _ (pure ((n : Int) - 1, (-1 : Int), Builtin.Slice.slicePlaces ((n : Int) - 1) (-1) (-1))) _ _ s
  rw [places_back]
  exact wpAny_pure h
theorem fm_congr {α β : Type} {f g : α → Option β} : ∀ l : List α, (∀ x ∈ l, f x = g x) → l.filterMap f = l.filterMap g
  | [], _ => rfl
  | x :: l, h => by
    rw [List.filterMap_cons, List.filterMap_cons, h x (List.mem_cons_self ..), fm_congr l fun y hy => h y (List.mem_cons_of_mem _ hy)]
theorem pick_back (xs : Array Value) : ((List.range xs.size).filterMap fun (m : Nat) => xs[(((xs.size : Int) - 1) + (m : Int) * (-1)).toNat]?).toArray = xs.toList.reverse.toArray := by
  have h := PySem.W.krv_range xs.size
  have e : ((List.range xs.size).filterMap fun (m : Nat) => xs[(((xs.size : Int) - 1) + (m : Int) * (-1)).toNat]?) = (((List.range xs.size).map fun k => xs.size - 1 - k).filterMap (xs[·]?)) := by
    rw [List.filterMap_map]
    refine fm_congr _ fun m hm => ?_
    have : (((xs.size : Int) - 1) + (m : Int) * (-1)).toNat = xs.size - 1 - m := by omega
    rw [this]
    all_goals rfl
  rw [e, h, List.filterMap_reverse, PySem.W.krv_all]
theorem getItem_tuple_back {t sl : Addr} {items : Array Value} {vl vu vs : Value} {Q : Value → Shared → Prop} (ht : IsTup s.heap t items) (hs : s.heap.IsSliceOf sl vl vu vs) (pl : IsPart vl none) (pu : IsPart vu none) (ps : IsPart vs (some (-1)))
    (h : Q (.ref s.heap.objs.size) { s with heap := s.heap.push { cls := .type "tuple", data := .seq items.toList.reverse.toArray } })
    (hsz : items.size ≤ sizeLine) : wpAny (model prog w) A (getItem (.ref t) (.ref sl)) Q E s := by
  have htake : sizeOk (.seq items.toList.reverse.toArray) := by
    show items.toList.reverse.toArray.size ≤ sizeLine
    rw [List.size_toArray, List.length_reverse, Array.length_toList]
    exact hsz
  obtain ⟨os, hos, hcs, hds⟩ := id hs
  have hTs : s.TypeIs (.ref sl) "slice" := ⟨os, hos, hcs⟩
  unfold getItem
  try with_reducible refine wpAny_holding ?_
  first | refine wpAny_bind (wpAny_pure ?_) | skip
  refine wpAny_bind (wpAny_sequenceKey ht.typeIs (by decide) ?_)
  refine wpAny_bind (wpAny_callSpecial?_slot (name := Str.ofString "__getitem__") ht.typeIs PyProof.Rows.slot_tuple_getitem
    (wpAny_call_entry PyProof.Rows.slot_tuple_getitem ht.typeIs entry_tuple_getitem ?_ (args_tuple_getitem _ _)))
  show wpAny _ _ (Builtin.Tuple.tupleItemsOf (.ref t) >>= _) _ _ s
  refine wpAny_bind (tupleItemsOf_ ht ?_)
  refine wpAny_bind (wpAny_typeOf hTs ?_)
  rw [if_pos (by decide)]
  refine wpAny_bind (sliceApplied_back hs pl pu ps ?_)
  show wpAny _ _ (if ((((items.size : Int) - 1)) == 0 && (-1 : Int) == 1 && items.size == items.size) = true then _ else _) _ _ s
  rw [if_neg (by simp), pick_back]
  first
    | exact wpAny_bind (m := Builtin.Tuple.tupleExact _) (wpAny_newObj_type (wpAny_pure ⟨_, rfl, wpAny_pure h⟩) htake)
    | exact wpAny_bind (m := Builtin.Tuple.tupleExact _) (wpAny_newObj_type (wpAny_bind (wpAny_pure (wpAny_pure ⟨_, rfl, wpAny_pure h⟩))) htake)
    | exact wpAny_bind (wpAny_bind (m := Builtin.Tuple.tupleExact _) (wpAny_newObj_type (wpAny_pure (wpAny_pure ⟨_, rfl, wpAny_pure h⟩)) htake))
    | exact wpAny_bind (wpAny_bind (m := Builtin.Tuple.tupleExact _) (wpAny_newObj_type (wpAny_pure ⟨_, rfl, wpAny_pure h⟩) htake))
end
end HT
namespace Cn
open PySem PySem.Spec PyProof.Rows L2 Evl
section
variable {X : Cx}
/-- t[::-1] -/
def tRevT (K : PySem.W.Frag) (te : TE) : TE := fun σ H Q => te σ H fun x H1 => ∃ a xs, x = .ref a ∧ SqT K H1 a xs ∧ ∀ p, H1 p = none → Q (.ref p) (upd H1 p (.tup xs.reverse))
theorem vals_rev : ∀ {xs : List V} {us : List Value}, Vals xs us → Vals xs.reverse us.reverse
  | _, _, .nil => .nil
  | _, _, .cons r t => by
    rw [List.reverse_cons, List.reverse_cons]
    exact Vals.append (vals_rev t) (.cons r .nil)
theorem pe_revT {e : Expr} {te : TE} {k : Nat} {p1 p2 p3 pos : Pos} (he : PE X e te) : PE X (.Subscript e (.Slice none none (some (.UnaryOp .USub (.Constant (.int 1) k p1) p2)) p3) pos) (tRevT X.K te) := by
  refine ⟨fun pins s σ H Q I h => ?_⟩
  refine Subscript_ (thn (he.run pins s σ H _ I h) fun v s1 ⟨x, H1, I1, r1, q1⟩ => ?_)
  obtain ⟨a, xs, ex, hx, q⟩ := q1
  subst ex
  cases r1
  have hst : PO X (some (.UnaryOp .USub (.Constant (.int 1) k p1) p2)) (tPart (tUn (rU fun i => .int (-i)) (tC (.int 1)))) := po_some (pe_un un_neg pe_int)
  refine wpAny_Slice (thn (po_none.run pins s1 σ H1 (fun o H2 => o = none ∧ H2 = H1) I1 ⟨rfl, rfl⟩) fun vl s2 ⟨l, H2, I2, pl, el, e2⟩ => ?_)
  subst el e2
  refine thn (po_none.run pins s2 σ H2 (fun o H3 => o = none ∧ H3 = H2) I2 ⟨rfl, rfl⟩) fun vu s3 ⟨u, H3, I3, pu, eu, e3⟩ => ?_
  subst eu e3
  refine thn (hst.run pins s3 σ H3 (fun o H4 => o = some (-1) ∧ H4 = H3) I3 ⟨1, rfl, -1, rfl, rfl, rfl⟩) fun vs s4 ⟨o, H4, I4, ps, eo, e4⟩ => ?_
  subst eo e4
  have I5 : Inv X pins σ H4 { s4 with heap := s4.heap.push { cls := .type "slice", data := .fields #[vl, vu, vs] } } := I4.kept (t' := s4.toks) fun b ob q => Heap.get?_push_of_some _ q
  obtain ⟨its, r, ht, hz⟩ := I5.tuple hx
  have hlen := r.length
  show wpAny (model X.prog X.w) X.A (subscriptTail e (.Slice none none (some (.UnaryOp .USub (.Constant (.int 1) k p1) p2)) p3) (.ref a) (.ref s4.heap.objs.size)) (EP X pins σ Q) X.xe { s4 with heap := s4.heap.push { cls := .type "slice", data := .fields #[vl, vu, vs] } }
  refine tail_any (ops := [.ref a, .ref s4.heap.objs.size]) ht.typeIs (PyProof.Rows.slot_tuple_getitem.lookup) ?_ (by with_unfolding_all rfl)
  refine HT.getItem_tuple_back ht (Heap.IsSliceOf.new _ vl vu vs) pl pu ps ?_ (by rw [List.size_toArray]; omega)
  refine ⟨.ref _, _, I5.laid (t' := s4.toks) (o := .tup xs.reverse) (fun b ob q => Heap.get?_push_of_some _ q) (Nat.le_refl _) ?_, rfl, q _ (I5.hok.fresh (Nat.le_refl _))⟩
  exact ⟨by rw [List.length_reverse]; exact hz, its.reverse, vals_rev r, ⟨_, Heap.get?_push_size _ rfl, rfl, _, rfl⟩⟩
/-- str(int), str(bool) -/
def rStrV : List V → Hp → VK → Prop := fun xs H Q => (∃ i, xs = [.int i] ∧ i.natAbs.log2 < 1920 ∧ Q (.str (toString i)) H) ∨ ∃ b, xs = [.bl b] ∧ Q (.str (if b then "True" else "False")) H
theorem call_strV : CallR X (.type "str") rStrV := by
  intro pins s σ H xs us Q I r h
  rcases h with ⟨i, rfl, hz, q⟩ | ⟨b, rfl, q⟩
  · obtain ⟨u, rfl, t, rfl⟩ := vals1 r
    exact PySem.P.str_of_int hz ⟨.str _, H, I.tok _, ⟨_, rfl⟩, q⟩
  · obtain ⟨u, rfl, ru⟩ := vals1 r
    cases ru
    exact PySem.P.str_of_bool ⟨.str _, H, I.tok _, ⟨_, rfl⟩, q⟩
end
end Cn

namespace Wp
open PySem PySem.Spec PyProof.Rows L2 Evl
section
variable {X : Cx} {e a b : Expr} {es : List Expr} {m ma mb : WE} {ms : WL} {pos : Pos}
/-- return of an own list: it is locked -/
def mRetO (i : Nat) : WS := fun E b F => match E[i]? with
  | some (.l ds) => F.rt (.list ds) b
  | _ => False
theorem pm_retO {i : Nat} (h : PE X e (tVar i)) : PS X (.Return (some e) pos) (tS (mRetO i)) := (ps_ret (pe_lz h)).weak fun D σ H ⟨W, H0, E, b, F, S, hm, k⟩ => by
  unfold mRetO at hm
  split at hm
  · obtain ⟨a, xs, hσ, h0, nM, ha, al⟩ := S.ownL (by assumption)
    exact ⟨_, hσ, a, xs, rfl, ha, fun o => k.rt _ b _ _ hm (S.kp.mut h0) (W.put nM S.dk) (.lst upd_same (al.mono (fk_lock ha)))⟩
  · exact hm.elim
/-! dicts as data -/
theorem pm_dd0 : PE X (.Dict [] [] pos) (tE (mC (.dict []))) := (Cn.pe_dz pe_dnewK).weak fun σ H Q ⟨W, H0, E, b, R, S, hm, k⟩ p np =>
  ⟨p, [], rfl, upd_same, fun o => by
    rw [upd_upd]
    exact k _ b _ _ hm (Kp.ex (Ex.new np)) (W.ex (Ex.new np) S.dk) (.dic (kvs := []) (vs := []) (ds := []) upd_same rfl .nil)⟩
theorem pm_dd1' {x : Str} {i : Int} {q : Expr} (h : PE X q (tDisp [(tC (.str x), tC (.int i))])) : PE X q (tE (mC (.dict [(.str x, .int i)]))) := (Cn.pe_dz h).weak fun σ H Q ⟨W, H0, E, b, R, S, hm, k⟩ p np =>
  ⟨upd_same, [(.inr x, .int i)], rfl, by simp, p, _, rfl, upd_same, fun o => by
    rw [upd_upd, upd_upd]
    exact k _ b _ _ hm (Kp.ex (Ex.new np)) (W.ex (Ex.new np) S.dk) (.dic (kvs := [(.inr x, .int i)]) (vs := [.int i]) (ds := [.int i]) upd_same rfl (.cons (.int i) .nil))⟩
/-! x[::-1] -/
def revW : W1 := fun d R => match d with
  | .tuple xs => R (.tuple xs.reverse)
  | .list xs => R (.list xs.reverse)
  | _ => False
theorem pm_rev {k : Nat} {p1 p2 p3 : Pos} (he : PE X e (tQ m)) : PE X (.Subscript e (.Slice none none (some (.UnaryOp .USub (.Constant (.int 1) k p1) p2)) p3) pos) (tE (mUn revW m)) := by
  refine ⟨fun pins s σ H Q I ⟨W, H0, E, b, R, S, hm, kk⟩ => ?_⟩
  refine Subscript_ (thn (he.run pins s σ H (fun x H1 => ∃ d b1, Dq W H1 x d ∧ Kp W.M H H1 ∧ W.Dk b1 H1 ∧ revW d fun z => R z b1) I ⟨W, H0, E, b, _, S, hm, fun d b1 v H1 h1 k1 d1 t1 => ⟨d, b1, t1, k1, d1, h1⟩⟩) fun v s1 ⟨x, H1, I1, r1, d, b1, t1, k1, d1, hr⟩ => ?_)
  have hst : PO X (some (.UnaryOp .USub (.Constant (.int 1) k p1) p2)) (tPart (tUn (rU fun i => .int (-i)) (tC (.int 1)))) := po_some (pe_un un_neg pe_int)
  refine wpAny_Slice (thn (po_none.run pins s1 σ H1 (fun o H2 => o = none ∧ H2 = H1) I1 ⟨rfl, rfl⟩) fun vl s2 ⟨l, H2, I2, pl, el, e2⟩ => ?_); subst el e2
  refine thn (po_none.run pins s2 σ H2 (fun o H3 => o = none ∧ H3 = H2) I2 ⟨rfl, rfl⟩) fun vu s3 ⟨u, H3, I3, pu, eu, e3⟩ => ?_; subst eu e3
  refine thn (hst.run pins s3 σ H3 (fun o H4 => o = some (-1) ∧ H4 = H3) I3 ⟨1, rfl, -1, rfl, rfl, rfl⟩) fun vs s4 ⟨o, H4, I4, ps, eo, e4⟩ => ?_; subst eo e4
  have I5 : Inv X pins σ H4 { s4 with heap := s4.heap.push { cls := .type "slice", data := .fields #[vl, vu, vs] } } := I4.kept (t' := s4.toks) fun b ob q => Heap.get?_push_of_some _ q
  have nf : H4 (s4.heap.push { cls := .type "slice", data := .fields #[vl, vu, vs] }).objs.size = none := I5.hok.fresh (Nat.le_refl _)
  unfold revW at hr
  split at hr
  · obtain ⟨a, ob, xs, rfl, ha, na, sq, al⟩ := t1.seqT (K := X.K)
    cases r1
    obtain ⟨its, r, ht, hz⟩ := I5.tuple sq
    have hlen := r.length
    show wpAny (model X.prog X.w) X.A (subscriptTail e (.Slice none none (some (.UnaryOp .USub (.Constant (.int 1) k p1) p2)) p3) (.ref a) (.ref s4.heap.objs.size)) (EP X pins σ Q) X.xe { s4 with heap := s4.heap.push { cls := .type "slice", data := .fields #[vl, vu, vs] } }; refine tail_any (ops := [.ref a, .ref s4.heap.objs.size]) ht.typeIs (PyProof.Rows.slot_tuple_getitem.lookup) ?_ (by with_unfolding_all rfl)
    refine HT.getItem_tuple_back ht (Heap.IsSliceOf.new _ vl vu vs) pl pu ps ?_ (by rw [List.size_toArray]; omega)
    have here := Heap.get?_push_size (s4.heap.push { cls := .type "slice", data := .fields #[vl, vu, vs] }) (o := { cls := .type "tuple", data := .seq its.reverse.toArray }) rfl
    exact ⟨.ref _, _, I5.laid (t' := s4.toks) (o := .frz { cls := .type "tuple", data := .seq its.reverse.toArray } (.tup xs.reverse)) (fun b ob q => Heap.get?_push_of_some _ q) (Nat.le_refl _) ⟨here, by rw [List.length_reverse]; exact hz, its.reverse, Cn.vals_rev r, ⟨_, here, rfl, _, rfl⟩⟩, rfl,
      kk _ b1 _ _ hr (k1.trans (Kp.ex (Ex.new nf))) (W.ex (Ex.new nf) d1) (.tup upd_same rfl (al.reverse.mono (Fk.ex (Ex.new nf))))⟩
  · obtain ⟨a, xs, rfl, sq, al⟩ := t1.seqL (K := X.K)
    cases r1
    obtain ⟨its, r, ht, hz⟩ := I5.list sq
    have hlen := r.length
    show wpAny (model X.prog X.w) X.A (subscriptTail e (.Slice none none (some (.UnaryOp .USub (.Constant (.int 1) k p1) p2)) p3) (.ref a) (.ref s4.heap.objs.size)) (EP X pins σ Q) X.xe { s4 with heap := s4.heap.push { cls := .type "slice", data := .fields #[vl, vu, vs] } }; refine tail_any (ops := [.ref a, .ref s4.heap.objs.size]) ht.isList.typeIs (PySem.slot_list_getitem.lookup) ?_ (by with_unfolding_all rfl)
    refine wpAny_getItem_list_slice ht.isList (Heap.IsSliceOf.new _ vl vu vs) pl pu ps (by decide) ?_ (by rw [List.size_toArray]; omega); rw [PySem.W.krv_pick]
    exact ⟨.ref _, _, Inv.lz I5 r.reverse (by rw [List.length_reverse]; exact hz), rfl, kk _ b1 _ _ hr (k1.trans (Kp.ex (Ex.new nf))) (W.ex (Ex.new nf) d1) (.lst upd_same (al.reverse.mono (Fk.ex (Ex.new nf))))⟩
  · exact hr.elim
/-! dict(tuple of pairs) -/
def pairK : PyData → Option (Key × PyData)
  | .tuple [k, v] => (dKey k).map fun k' => (k', v)
  | _ => none
def mergeD (kvs : List (Key × PyData)) (more : List (Key × PyData)) : List (Key × PyData) := more.foldl (fun acc kv => putD acc kv.1 kv.2) kvs
def vDof (m : WE) : WV := fun E b R => m E b fun d b1 => match d with
  | .tuple ds => ∃ kvs : List (Key × PyData), ds.map pairK = kvs.map some ∧ R (.m (mergeD [] kvs)) b1
  | _ => False
theorem DtK.merge {H : Hp} : ∀ {more : List (Key × PyData)} {mv : List (Key × V)}, DtK H mv more → ∀ {xs : List (Key × V)} {ds : List (Key × PyData)}, DtK H xs ds → DtK H (mergeK xs mv) (mergeD ds more)
  | [], _, .nil, _, _, h => h
  | _ :: _, _, .cons t r, _, _, h => DtK.merge r (h.put t)
theorem pairs_of {K : PySem.W.Frag} {H : Hp} : ∀ {ds : List PyData} {kvs : List (Key × PyData)} {xs : List V}, ds.map pairK = kvs.map some → DtAll H xs ds → ∃ (ps : List Addr) (vs : List (Key × V)), xs = ps.map V.ref ∧ Paired (fun p kv => SqT K H p [kV kv.1, kv.2]) ps vs ∧ DtK H vs kvs
  | [], kvs, _, h, .nil => by
    cases kvs with
    | nil => exact ⟨[], [], rfl, .nil, .nil⟩
    | cons _ _ => simp at h
  | d :: ds, kvs, _, h, .cons t r => by
    cases kvs with
    | nil => simp at h
    | cons kv kvs =>
      simp only [List.map_cons, List.cons.injEq] at h
      obtain ⟨ps, vs, rfl, pr, dk⟩ := pairs_of (K := K) h.2 r
      have h1 := h.1
      unfold pairK at h1
      split at h1
      · rename_i k v
        cases hk : dKey k with
        | none => rw [hk] at h1; cases h1
        | some k' =>
          rw [hk] at h1
          simp only [Option.map_some, Option.some.injEq] at h1
          subst h1
          obtain ⟨a, o, zs, rfl, ha, _, al⟩ := t.tup_inv
          cases al with
          | cons t1 al =>
            cases al with
            | cons t2 al =>
              cases al
              obtain rfl := t1.key hk
              exact ⟨a :: ps, (k', _) :: vs, rfl, .cons (.inl (.inr ⟨o, ha⟩)) pr, .cons t2 dk⟩
      · cases h1
theorem pm_dof' {K : PySem.W.Frag} {q : Expr} (h : PE X q (tCB (Cn.rDictT K) (tCons (tE m) tNil))) : PE X q (tV (vDof m)) := h.weak fun σ H Q ⟨W, H0, E, b, R, S, hm, k⟩ => by
  refine ⟨W, H0, E, b, _, S, hm, fun d b1 v H1 h1 k1 d1 t1 => ?_⟩
  cases d <;> first | exact h1.elim | skip
  obtain ⟨kvs, hk, hr⟩ := h1
  obtain ⟨a, o, xs, rfl, ha, na, al⟩ := t1.tup_inv
  obtain ⟨ps, vs, rfl, pr, dk⟩ := pairs_of (K := K) hk al
  refine ⟨a, o, ps, vs, rfl, ha, na, pr, fun p np => ?_⟩
  have np0 := k1.back (W.free d1 np) np
  exact k _ b1 _ _ hr (k1.trans (Kp.ex (Ex.new np))) (W.ex (Ex.new np) d1) ⟨p, rfl, S.kp.back (W.free S.dk np0) np0, W.free d1 np, _, upd_same, (dk.merge .nil).mono (Fk.ex (Ex.new np))⟩ (fun _ => ⟨p, rfl, np0⟩)
theorem pm_par3 {i j l : Nat} {ns : WVs} {st : Stmt} (h : PS X st (tPar3 i j l (tVs ns))) : PS X st (tS (mPar [i, j, l] ns)) := h.weak fun D σ H ⟨W, H0, E, b, F, S, hm, k⟩ => by
  refine ⟨W, H0, E, b, _, S, hm, fun ss b1 vs H1 h1 k1 d1 t1 => ?_⟩
  have ln := t1.length
  rw [h1.1] at ln
  match vs, ln with
  | [v, w, u], _ => exact ⟨v, w, u, rfl, k.nx _ H1 _ b1 (S.parAll (is := [i, j, l]) k1 d1 t1 rfl) h1.2⟩
/-! for over zip -/
def mForZ (t : WG1) (ms : WL) (m : WS) : WS := fun E b F => ms E b fun ds b1 => match ds with
  | [.list xs, .list ys] => mTurns t m (zipD xs ys) E b1 F
  | _ => False
theorem pm_forZ {K : PySem.W.Frag} {ws : List Nat} {tg iter : Expr} {body : List Stmt} {g : TG} {t : WG1} {m : WS} {me : WL} (hK : X.K = K) (hp : PassesOwn (model X.prog X.w) X.A X.env X.xe) (hc : X.calm = true) (hi : PI X tg iter (iZip X.K (tA me))) (hg : PG X tg g) (gb : GB (Bd K) ws g t) (hb : PSs X body (tS m)) (hs : ∀ x, foldedSetIterable iter X.env x = pure x := by intro _; rfl) : PS X (.For tg iter body [] pos) (tS (mForZ t me m)) := by
  subst hK
  refine (ps_for hp hc hi hg hb hs).weak fun D σ H ⟨W, H0, E, b, F, S, hm, k⟩ => ?_
  refine ⟨W, H0, E, b, _, S, hm, fun ds b1 vs H1 h1 k1 d1 t1 => ?_⟩
  have S1 := S.step k1 d1
  split at h1
  · rename_i xs ys
    cases t1 with
    | cons q1 t1 =>
      cases t1 with
      | cons q2 t1 =>
        cases t1
        obtain ⟨a1, o1, us, rfl, s1, al1⟩ := q1.lst_inv
        obtain ⟨a2, o2, ws', rfl, s2, al2⟩ := q2.lst_inv
        refine ⟨a1, a2, us, ws', rfl, .inl (.inr ⟨o1, s1⟩), .inl (.inr ⟨o2, s2⟩), ?_⟩
        refine turns_for (walk_zip (K := X.K) (a := a1) (b := a2) (xs := us) (ys := ws') rfl) gb S1 k (by rw [zipD_len, al1.length, al2.length]) (fun H' f => ⟨.inl (.inr ⟨o1, f _ _ _ s1⟩), .inl (.inr ⟨o2, f _ _ _ s2⟩)⟩) h1 ?_
        rintro i H2 x H3 f ⟨T, p, q, rfl, nT, rfl, hp, hq⟩
        obtain ⟨dp, e1, t1⟩ := al1.get hp
        obtain ⟨dq, e2, t2⟩ := al2.get hq
        have eN : Ex H2 (upd H2 T (.tup [p, q])) := Ex.new nT
        exact ⟨eN, _, zipD_get e1 e2, T, [p, q], [dp, dq], rfl, rfl, .inl (.inl upd_same), .cons ((t1.mono f).mono (Fk.ex eN)) (.cons ((t2.mono f).mono (Fk.ex eN)) .nil)⟩
  · exact h1.elim
end
end Wp

namespace Wp
open PySem PySem.Spec PyProof.Rows L2 Evl
/-! ### models, reasoned with -/
section
variable {R : PyData → Prop}
theorem pow6 : powW (.int 10) (.int 6) R = R (.int 1000000) := propext ⟨fun h => h.2, fun h => ⟨by decide, h⟩⟩
theorem pow9 : powW (.int 10) (.int 9) R = R (.int 1000000000) := propext ⟨fun h => h.2, fun h => ⟨by decide, h⟩⟩
theorem pow7 : powW (.int 10) (.int 7) R = R (.int 10000000) := propext ⟨fun h => h.2, fun h => ⟨by decide, h⟩⟩
theorem pow15 : powW (.int 10) (.int 15) R = R (.int 1000000000000000) := propext ⟨fun h => h.2, fun h => ⟨by decide, h⟩⟩
theorem pow18 : powW (.int 10) (.int 18) R = R (.int 1000000000000000000) := propext ⟨fun h => h.2, fun h => ⟨by decide, h⟩⟩
theorem pow39 : powW (.int 10) (.int 39) R = R (.int 1000000000000000000000000000000000000000) := propext ⟨fun h => h.2, fun h => ⟨by decide, h⟩⟩
end
section
variable {R : PyData → Prop} {i j : Int} {x y : Str} {c c' : Bool} {xs ys ds : List PyData} {d e : PyData} {lo hi : Option Int} {Q : List PyData → Prop}
theorem addW_ii : addW (.int i) (.int j) R = R (.int (i + j)) := rfl
theorem addW_ib : addW (.int i) (.bool c) R = R (.int (i + b2z c)) := rfl
theorem addW_bi : addW (.bool c) (.int j) R = R (.int (b2z c + j)) := rfl
theorem addW_tt : addW (.tuple xs) (.tuple ys) R = (xs.length + ys.length ≤ 100000 ∧ R (.tuple (xs ++ ys))) := rfl
theorem addW_ll : addW (.list xs) (.list ys) R = (xs.length + ys.length ≤ 100000 ∧ R (.list (xs ++ ys))) := rfl
theorem subW_ii : subW (.int i) (.int j) R = R (.int (i - j)) := rfl
theorem subW_ib : subW (.int i) (.bool c) R = R (.int (i - b2z c)) := rfl
theorem subW_bi : subW (.bool c) (.int j) R = R (.int (b2z c - j)) := rfl
theorem mulW_ii : mulW (.int i) (.int j) R = (CMul i j ∧ R (.int (i * j))) := rfl
theorem fdivW_ii : fdivW (.int i) (.int j) R = ((0 < j ∧ j < 1073741824) ∧ R (.int (i / j))) := rfl
theorem modW_ii : modW (.int i) (.int j) R = (0 < j ∧ R (.int (i % j))) := rfl
theorem negW_i : negW (.int i) R = R (.int (-i)) := rfl
theorem eqW_ii : eqW (.int i) (.int j) R = R (.bool (decide (i = j))) := rfl
theorem eqW_ss : eqW (.str x) (.str y) R = R (.bool (decide (x = y))) := rfl
theorem eqW_t0 : eqW (.tuple ds) (.tuple []) R = R (.bool ds.isEmpty) := rfl
theorem eqW_l0 : eqW (.list ds) (.list []) R = R (.bool ds.isEmpty) := rfl
theorem neW_ii : neW (.int i) (.int j) R = R (.bool (!decide (i = j))) := rfl
theorem neW_ss : neW (.str x) (.str y) R = R (.bool (!decide (x = y))) := rfl
theorem neW_t0 : neW (.tuple ds) (.tuple []) R = R (.bool (!ds.isEmpty)) := rfl
theorem neW_l0 : neW (.list ds) (.list []) R = R (.bool (!ds.isEmpty)) := rfl
theorem ltW_ii : ltW (.int i) (.int j) R = R (.bool (decide (i < j))) := rfl
theorem leW_ii : leW (.int i) (.int j) R = R (.bool (decide (i ≤ j))) := rfl
theorem gtW_ii : gtW (.int i) (.int j) R = R (.bool (decide (j < i))) := rfl
theorem geW_ii : geW (.int i) (.int j) R = R (.bool (decide (j ≤ i))) := rfl
theorem isW_n : isW d .none R = R (.bool (isNn d)) := rfl
theorem isntW_n : isntW d .none R = R (.bool (!isNn d)) := rfl
theorem ixW_l : ixW (.list xs) (.int i) R = ∃ z, L2.atI xs i = some z ∧ R z := rfl
theorem ixW_t : ixW (.tuple xs) (.int i) R = ∃ z, L2.atI xs i = some z ∧ R z := rfl
theorem lenW_l : lenW [.list xs] R = R (.int xs.length) := rfl
theorem lenW_t : lenW [.tuple xs] R = R (.int xs.length) := rfl
theorem absW_i : absW [.int i] R = R (.int (if i < 0 then -i else i)) := rfl
theorem intW_i : intW [.int i] R = R (.int i) := rfl
theorem intW_b : intW [.bool c] R = R (.int (if c then 1 else 0)) := rfl
theorem tupW_l : tupW [.list xs] R = R (.tuple xs) := rfl
theorem tupW_t : tupW [.tuple xs] R = R (.tuple xs) := rfl
theorem lstW_l : lstW [.list xs] Q = Q xs := rfl
theorem lstW_t : lstW [.tuple xs] Q = Q xs := rfl
theorem sumW_l : sumW [.list xs] R = ∃ ns : List Int, xs = ns.map PyData.int ∧ R (.int ns.sum) := rfl
theorem allW_l : allW [.list xs] R = ∃ bs : List Bool, xs = bs.map PyData.bool ∧ R (.bool (bs.all id)) := rfl
theorem anyW_l : anyW [.list xs] R = ∃ bs : List Bool, xs = bs.map PyData.bool ∧ R (.bool (bs.any id)) := rfl
theorem minW_2 : minW [.int i, .int j] R = R (.int (if j < i then j else i)) := rfl
theorem maxW_2 : maxW [.int i, .int j] R = R (.int (if j > i then j else i)) := rfl
theorem slW_t : slW (.tuple xs) lo hi R = R (.tuple (cutD xs lo hi)) := rfl
theorem slW_l : slW (.list xs) lo hi R = R (.list (cutD xs lo hi)) := rfl
theorem revW_t : revW (.tuple xs) R = R (.tuple xs.reverse) := rfl
theorem revW_l : revW (.list xs) R = R (.list xs.reverse) := rfl
theorem reprW_1 : reprW [d] R = ((d.showable = true ∧ d.shown.length ≤ 1000000 ∧ d.depth ≤ 50) ∧ R (.str d.shown)) := rfl
theorem strW_i : strW [.int i] R = (i.natAbs.log2 < 1920 ∧ R (.str (toString i))) := rfl
theorem strW_b : strW [.bool c] R = R (.str (if c then "True" else "False")) := rfl
theorem sortW_l : sortW [.list xs] Q = (okSrt xs ∧ Q (srt xs)) := rfl
theorem sortW_t : sortW [.tuple xs] Q = (okSrt xs ∧ Q (srt xs)) := rfl
end
theorem atI_of {α : Type} {l : List α} {r : Int} (h0 : 0 ≤ r) (h1 : r < l.length) : ∃ z, L2.atI l r = some z ∧ z ∈ l := by
  obtain ⟨j, rfl⟩ : ∃ j : Nat, r = j := ⟨r.toNat, by omega⟩
  have hj : j < l.length := by omega
  exact ⟨l[j], atI_nat (List.getElem?_eq_getElem hj), List.getElem_mem hj⟩
/-- [..][drawn], ints -/
theorem pick_int {l : List PyData} {r : Int} {Q : PyData → Prop} (is : List Int) (hl : l = is.map PyData.int) (h0 : 0 ≤ r) (h1 : r < is.length) (q : ∀ i ∈ is, Q (.int i)) : ∃ z, L2.atI l r = some z ∧ Q z := by
  obtain ⟨z, h2, h3⟩ := atI_of (l := l) h0 (by rw [hl, List.length_map]; exact h1)
  rw [hl] at h3
  obtain ⟨i, hi, rfl⟩ := List.mem_map.mp h3
  exact ⟨_, h2, q i hi⟩
theorem pick_any {l : List PyData} {r : Int} {Q : PyData → Prop} (h0 : 0 ≤ r) (h1 : r < l.length) (q : ∀ z ∈ l, Q z) : ∃ z, L2.atI l r = some z ∧ Q z := by
  obtain ⟨z, h2, h3⟩ := atI_of (l := l) h0 h1
  exact ⟨z, h2, q z h3⟩
/-! comprehensions -/
section
variable {t : WG1} {mt : WT} {ml : WE} {E : Env}
/-- each turn gives something of P and draws at most c times -/
theorem comp_each (P : PyData → Prop) (c : Nat) : ∀ (xs acc : List PyData) (b : Nat) (R : List PyData → Nat → Prop), (∀ x ∈ xs, ∀ b' Q, b' + c ≤ b + c * xs.length → (∀ y b2, P y → b2 ≤ b' + c → Q y b2) → t x E fun E1 => ml E1 b' Q) →
    acc.length + xs.length ≤ 100000 → (∀ ys b2, ys.length = xs.length → (∀ y ∈ ys, P y) → b2 ≤ b + c * xs.length → R (acc ++ ys) b2) → mComp t mYes ml E xs acc b R
  | [], acc, b, R, _, _, q => by
    have := q [] b rfl (fun _ h => nomatch h) (by simp)
    simpa [mComp] using this
  | x :: xs, acc, b, R, h, few, q => by
    simp only [mComp, mYes, if_true]
    refine h x (List.mem_cons_self ..) b _ (by simp only [List.length_cons, Nat.mul_add]; omega) fun y b2 py hb2 => ⟨by simp at few; omega, ?_⟩
    refine comp_each P c xs (acc ++ [y]) b2 R (fun x' hx' b' Q hb' k => h x' (List.mem_cons_of_mem _ hx') b' Q (by simp only [List.length_cons, Nat.mul_add]; omega) k) (by simp at few ⊢; omega) fun ys b3 hl hp hb3 => ?_
    have := q (y :: ys) b3 (by simp [hl]) (fun z hz => by
      rcases List.mem_cons.mp hz with rfl | hz
      · exact py
      · exact hp z hz) (by simp only [List.length_cons, Nat.mul_add]; omega)
    simpa using this
/-- no draw: what each turn gives is f x, where p x -/
theorem comp_if (f : PyData → PyData) (p : PyData → Bool) : ∀ (xs acc : List PyData) (b : Nat) (R : List PyData → Nat → Prop), (∀ x ∈ xs, ∀ C : Option PyData → Nat → Prop, C (if p x = true then some (f x) else none) b → t x E fun E1 => mt E1 b fun c b1 => if c = true then ml E1 b1 (fun y b2 => C (some y) b2) else C none b1) →
    acc.length + xs.length ≤ 100000 → R (acc ++ (xs.filter p).map f) b → mComp t mt ml E xs acc b R
  | [], acc, b, R, _, _, q => by simpa [mComp] using q
  | x :: xs, acc, b, R, h, few, q => by
    refine h x (List.mem_cons_self ..) (fun o b' => match o with | some y => acc.length < 100000 ∧ mComp t mt ml E xs (acc ++ [y]) b' R | none => mComp t mt ml E xs acc b' R) ?_
    simp at few
    cases hp : p x with
    | true =>
      refine ⟨by omega, comp_if f p xs (acc ++ [f x]) b R (fun y hy => h y (List.mem_cons_of_mem _ hy)) (by simp; omega) ?_⟩
      simpa [hp] using q
    | false => exact comp_if f p xs acc b R (fun y hy => h y (List.mem_cons_of_mem _ hy)) (by omega) (by simpa [hp] using q)
theorem comp_map (f : PyData → PyData) : ∀ (xs acc : List PyData) (b : Nat) (R : List PyData → Nat → Prop), (∀ x ∈ xs, ∀ Q : PyData → Nat → Prop, Q (f x) b → t x E fun E1 => ml E1 b Q) → acc.length + xs.length ≤ 100000 → R (acc ++ xs.map f) b → mComp t mYes ml E xs acc b R := fun xs acc b R h few q =>
  comp_if f (fun _ => true) xs acc b R (fun x hx C hc => h x hx (fun y b2 => C (some y) b2) (by simpa using hc)) few (by rw [List.filter_eq_self.mpr (fun _ _ => rfl)]; exact q)
end
def fstD : PyData → PyData
  | .tuple [p, _] => p
  | _ => .none
def sndD : PyData → PyData
  | .tuple [_, p] => p
  | _ => .none
/-! gardens -/
abbrev Bed := Int × Int
def bedD (b : Bed) : PyData := .tuple [.int b.1, .int b.2]
def bedsD (bs : List Bed) : PyData := .tuple (bs.map bedD)
def gardenD (t c : Int) (bs : List Bed) : PyData := .tuple [.int t, .int c, bedsD bs]
end Wp

namespace Wp
open PySem PySem.Spec PyProof.Rows L2 Evl
/-! ### one step of a model -/

theorem mV_e {i : Nat} {E : Env} {b : Nat} {R : PyData → Nat → Prop} : mV i E b R = (match E[i]? with
  | some (.d d) => R d b
  | _ => False) := propext Iff.rfl
theorem mC_e {d : PyData} {E : Env} {b : Nat} {R : PyData → Nat → Prop} : mC d E b R = (R d b) := propext Iff.rfl
theorem mO_e {i : Nat} {E : Env} {b : Nat} {R : PyData → Nat → Prop} : mO i E b R = (match E[i]? with
  | some (.l ds) => R (.list ds) b
  | some (.rl ds) => R (.list ds) b
  | _ => False) := propext Iff.rfl
theorem mOp_e {w : W2} {ma mb : WE} {E : Env} {b : Nat} {R : PyData → Nat → Prop} : mOp w ma mb E b R = (ma E b fun x b1 => mb E b1 fun y b2 => w x y fun z => R z b2) := propext Iff.rfl
theorem mUn_e {w : W1} {ma : WE} {E : Env} {b : Nat} {R : PyData → Nat → Prop} : mUn w ma E b R = (ma E b fun x b1 => w x fun z => R z b1) := propext Iff.rfl
theorem mT_e {m : WE} {E : Env} {b : Nat} {R : Bool → Nat → Prop} : mT m E b R = (m E b fun d b1 => match d with
  | .bool c => R c b1
  | _ => False) := propext Iff.rfl
theorem mNotT_e {m : WT} {E : Env} {b : Nat} {R : Bool → Nat → Prop} : mNotT m E b R = (m E b fun c b1 => R (!c) b1) := propext Iff.rfl
theorem mAndT_e {m n : WT} {E : Env} {b : Nat} {R : Bool → Nat → Prop} : mAndT m n E b R = (m E b fun c b1 => if c = true then n E b1 R else R false b1) := propext Iff.rfl
theorem mOrT_e {m n : WT} {E : Env} {b : Nat} {R : Bool → Nat → Prop} : mOrT m n E b R = (m E b fun c b1 => if c = true then R true b1 else n E b1 R) := propext Iff.rfl
theorem mAnd_e {m n : WE} {E : Env} {b : Nat} {R : PyData → Nat → Prop} : mAnd m n E b R = (m E b fun d b1 => match d with
  | .bool true => n E b1 R
  | .bool false => R (.bool false) b1
  | _ => False) := propext Iff.rfl
theorem mOr_e {m n : WE} {E : Env} {b : Nat} {R : PyData → Nat → Prop} : mOr m n E b R = (m E b fun d b1 => match d with
  | .bool true => R (.bool true) b1
  | .bool false => n E b1 R
  | _ => False) := propext Iff.rfl
theorem mNot_e {m : WE} {E : Env} {b : Nat} {R : PyData → Nat → Prop} : mNot m E b R = (m E b fun d b1 => match d with
  | .bool c => R (.bool (!c)) b1
  | _ => False) := propext Iff.rfl
theorem mIf_e {c : WT} {m n : WE} {E : Env} {b : Nat} {R : PyData → Nat → Prop} : mIf c m n E b R = (c E b fun c b1 => if c = true then m E b1 R else n E b1 R) := propext Iff.rfl
theorem mChain_e {w w' : W2} {ma mb mc : WE} {E : Env} {b : Nat} {R : PyData → Nat → Prop} : mChain w w' ma mb mc E b R = (ma E b fun x b1 => mb E b1 fun y b2 => w x y fun z => match z with
  | .bool true => mc E b2 fun u b3 => w' y u fun z => R z b3
  | .bool false => R (.bool false) b2
  | _ => False) := propext Iff.rfl
theorem mNil_e {E : Env} {b : Nat} {R : List PyData → Nat → Prop} : mNil E b R = (R [] b) := propext Iff.rfl
theorem mCons_e {m : WE} {ms : WL} {E : Env} {b : Nat} {R : List PyData → Nat → Prop} : mCons m ms E b R = (m E b fun d b1 => ms E b1 fun ds b2 => R (d :: ds) b2) := propext Iff.rfl
theorem mTup_e {ms : WL} {E : Env} {b : Nat} {R : PyData → Nat → Prop} : mTup ms E b R = (ms E b fun ds b1 => ds.length ≤ 100000 ∧ R (.tuple ds) b1) := propext Iff.rfl
theorem mLst_e {ms : WL} {E : Env} {b : Nat} {R : List PyData → Nat → Prop} : mLst ms E b R = (ms E b fun ds b1 => ds.length ≤ 100000 ∧ R ds b1) := propext Iff.rfl
theorem mLk_e {m : WL} {E : Env} {b : Nat} {R : PyData → Nat → Prop} : mLk m E b R = (m E b fun ds b1 => R (.list ds) b1) := propext Iff.rfl
theorem mCat_e {ma mb : WE} {E : Env} {b : Nat} {R : List PyData → Nat → Prop} : mCat ma mb E b R = (ma E b fun x b1 => mb E b1 fun y b2 => match x, y with
  | .list xs, .list ys => xs.length + ys.length ≤ 100000 ∧ R (xs ++ ys) b2
  | _, _ => False) := propext Iff.rfl
theorem mCB_e {w : WB} {ms : WL} {E : Env} {b : Nat} {R : PyData → Nat → Prop} : mCB w ms E b R = (ms E b fun ds b1 => w ds fun z => R z b1) := propext Iff.rfl
theorem mCL_e {w : WBL} {ms : WL} {E : Env} {b : Nat} {R : List PyData → Nat → Prop} : mCL w ms E b R = (ms E b fun ds b1 => w ds fun z => R z b1) := propext Iff.rfl
theorem vD_e {m : WE} {E : Env} {b : Nat} {R : Sl → Nat → Prop} : vD m E b R = (m E b fun d b1 => R (.d d) b1) := propext Iff.rfl
theorem vL_e {m : WL} {E : Env} {b : Nat} {R : Sl → Nat → Prop} : vL m E b R = (m E b fun ds b1 => R (.l ds) b1) := propext Iff.rfl
theorem vM0_e {E : Env} {b : Nat} {R : Sl → Nat → Prop} : vM0 E b R = (R (.m []) b) := propext Iff.rfl
theorem mSkip_e {E : Env} {b : Nat} {F : WEnds} : mSkip E b F = (F.nx E b) := propext Iff.rfl
theorem mSeq_e {m n : WS} {E : Env} {b : Nat} {F : WEnds} : mSeq m n E b F = (m E b { F with nx := fun E' b' => n E' b' F }) := propext Iff.rfl
theorem mAsg_e {i : Nat} {m : WV} {E : Env} {b : Nat} {F : WEnds} : mAsg i m E b F = (m E b fun s b1 => F.nx (E.set i s) b1) := propext Iff.rfl
theorem mRet_e {m : WE} {E : Env} {b : Nat} {F : WEnds} : mRet m E b F = (m E b F.rt) := propext Iff.rfl
theorem mIfS_e {c : WT} {m n : WS} {E : Env} {b : Nat} {F : WEnds} : mIfS c m n E b F = (c E b fun c b1 => if c = true then m E b1 F else n E b1 F) := propext Iff.rfl
theorem mDrop_e {m : WE} {E : Env} {b : Nat} {F : WEnds} : mDrop m E b F = (m E b fun _ b1 => F.nx E b1) := propext Iff.rfl
theorem vNil_e {E : Env} {b : Nat} {R : List Sl → Nat → Prop} : vNil E b R = (R [] b) := propext Iff.rfl
theorem vCons_e {m : WV} {ms : WVs} {E : Env} {b : Nat} {R : List Sl → Nat → Prop} : vCons m ms E b R = (m E b fun s b1 => ms E b1 fun ss b2 => R (s :: ss) b2) := propext Iff.rfl
theorem mPar_e {is : List Nat} {ms : WVs} {E : Env} {b : Nat} {F : WEnds} : mPar is ms E b F = (ms E b fun ss b1 => ss.length = is.length ∧ F.nx (enAll is ss E) b1) := propext Iff.rfl
theorem bName_e {i : Nat} {x : PyData} {E : Env} {R : Env → Prop} : bName i x E R = (R (E.set i (.d x))) := propext Iff.rfl
theorem bTup_e {n : Nat} {t : WGs} {x : PyData} {E : Env} {R : Env → Prop} : bTup n t x E R = (match x with
  | .tuple xs => xs.length = n ∧ t xs E R
  | _ => False) := propext Iff.rfl
theorem bNil_e {xs : List PyData} {E : Env} {R : Env → Prop} : bNil xs E R = (match xs with
  | [] => R E
  | _ => False) := propext Iff.rfl
theorem bCons_e {t : WG1} {u : WGs} {xs : List PyData} {E : Env} {R : Env → Prop} : bCons t u xs E R = (match xs with
  | x :: r => t x E fun E1 => u r E1 R
  | [] => False) := propext Iff.rfl
theorem mUnp_e {t : WG1} {m : WE} {E : Env} {b : Nat} {F : WEnds} : mUnp t m E b F = (m E b fun d b1 => t d E fun E1 => F.nx E1 b1) := propext Iff.rfl
theorem mFor_e {t : WG1} {me : WE} {m : WS} {E : Env} {b : Nat} {F : WEnds} : mFor t me m E b F = (me E b fun d b1 => match d with
  | .list xs => mTurns t m xs E b1 F
  | .tuple xs => mTurns t m xs E b1 F
  | _ => False) := propext Iff.rfl
theorem mForR_e {t : WG1} {ms : WL} {m : WS} {E : Env} {b : Nat} {F : WEnds} : mForR t ms m E b F = (ms E b fun ds b1 => match ds with
  | [.int j] => (-(2 ^ 62) ≤ j ∧ j < 2 ^ 62) ∧ mTurns t m (rngD 0 j.toNat) E b1 F
  | _ => False) := propext Iff.rfl
theorem mForR2_e {t : WG1} {ms : WL} {m : WS} {E : Env} {b : Nat} {F : WEnds} : mForR2 t ms m E b F = (ms E b fun ds b1 => match ds with
  | [.int i, .int j] => (-(2 ^ 62) ≤ i ∧ i < 2 ^ 62 ∧ -(2 ^ 62) ≤ j ∧ j < 2 ^ 62) ∧ mTurns t m (rngD i (j - i).toNat) E b1 F
  | _ => False) := propext Iff.rfl
theorem mApp_e {i : Nat} {m : WE} {E : Env} {b : Nat} {F : WEnds} : mApp i m E b F = (match E[i]? with
  | some (.l ds) => m E b fun d b1 => ds.length < 100000 ∧ F.nx (E.set i (.l (ds ++ [d]))) b1
  | _ => False) := propext Iff.rfl
theorem mYes_e {E : Env} {b : Nat} {R : Bool → Nat → Prop} : mYes E b R = (R true b) := propext Iff.rfl
theorem mLc_e {t : WG1} {me : WE} {mt : WT} {ml : WE} {vs : List Nat} {E : Env} {b : Nat} {R : List PyData → Nat → Prop} : mLc t me mt ml vs E b R = (me E b fun d b1 => match d with
  | .list xs => mComp t mt ml (wipeE E vs) xs [] b1 R
  | .tuple xs => mComp t mt ml (wipeE E vs) xs [] b1 R
  | _ => False) := propext Iff.rfl
theorem mLcR_e {t : WG1} {ms : WL} {mt : WT} {ml : WE} {vs : List Nat} {E : Env} {b : Nat} {R : List PyData → Nat → Prop} : mLcR t ms mt ml vs E b R = (ms E b fun ds b1 => match ds with
  | [.int j] => (-(2 ^ 62) ≤ j ∧ j < 2 ^ 62) ∧ mComp t mt ml (wipeE E vs) (rngD 0 j.toNat) [] b1 R
  | _ => False) := propext Iff.rfl
theorem mLcR2_e {t : WG1} {ms : WL} {mt : WT} {ml : WE} {vs : List Nat} {E : Env} {b : Nat} {R : List PyData → Nat → Prop} : mLcR2 t ms mt ml vs E b R = (ms E b fun ds b1 => match ds with
  | [.int i, .int j] => (-(2 ^ 62) ≤ i ∧ i < 2 ^ 62 ∧ -(2 ^ 62) ≤ j ∧ j < 2 ^ 62) ∧ mComp t mt ml (wipeE E vs) (rngD i (j - i).toNat) [] b1 R
  | _ => False) := propext Iff.rfl
theorem mLcZ_e {t : WG1} {ms : WL} {mt : WT} {ml : WE} {vs : List Nat} {E : Env} {b : Nat} {R : List PyData → Nat → Prop} : mLcZ t ms mt ml vs E b R = (ms E b fun ds b1 => match ds with
  | [.list xs, .list ys] => mComp t mt ml (wipeE E vs) (zipD xs ys) [] b1 R
  | _ => False) := propext Iff.rfl
theorem gNo_e {E : Env} {b : Nat} {R : List Sl → Nat → Prop} : gNo E b R = (R [] b) := propext Iff.rfl
theorem gE_e {m : WE} {ms : WG} {E : Env} {b : Nat} {R : List Sl → Nat → Prop} : gE m ms E b R = (m E b fun d b1 => ms E b1 fun ss b2 => R (.d d :: ss) b2) := propext Iff.rfl
theorem gO_e {i : Nat} {ms : WG} {E : Env} {b : Nat} {R : List Sl → Nat → Prop} : gO i ms E b R = (match E[i]? with
  | some (.l ds) => ms E b fun ss b2 => R (.rl ds :: ss) b2
  | some (.rl ds) => ms E b fun ss b2 => R (.rl ds :: ss) b2
  | some (.m ds) => ms E b fun ss b2 => R (.rm ds :: ss) b2
  | some (.rm ds) => ms E b fun ss b2 => R (.rm ds :: ss) b2
  | some (.s k) => ms E b fun ss b2 => R (.s k :: ss) b2
  | _ => False) := propext Iff.rfl
theorem mCall_e {mf : WF} {ms : WG} {E : Env} {b : Nat} {R : PyData → Nat → Prop} : mCall mf ms E b R = (ms E b fun ss b1 => mf ss b1 R) := propext Iff.rfl
theorem mFn_e {np n : Nat} {mb : WS} {as : List Sl} {b : Nat} {R : PyData → Nat → Prop} : mFn np n mb as b R = (as.length = np ∧ mb (as ++ List.replicate (n - np) .no) b { nx := fun _ b' => R .none b', rt := R }) := propext Iff.rfl
theorem mIsi_e {f : PyData → Bool} {m : WE} {E : Env} {b : Nat} {R : PyData → Nat → Prop} : mIsi f m E b R = (m E b fun d b1 => R (.bool (f d)) b1) := propext Iff.rfl
theorem mSS_e {m : WE} {E : Env} {b : Nat} {R : List PyData → Nat → Prop} : mSS m E b R = (m E b fun d b1 => match d with
  | .list xs => ∃ ns : List Int, xs = ns.map PyData.int ∧ ns.length < 64 ∧ R ((Cn.sortU ns).map PyData.int) b1
  | _ => False) := propext Iff.rfl
theorem mNo_e {E : Env} {b : Nat} {R : Option Int → Nat → Prop} : mNo E b R = (R none b) := propext Iff.rfl
theorem mPt_e {m : WE} {E : Env} {b : Nat} {R : Option Int → Nat → Prop} : mPt m E b R = (m E b fun d b1 => match d with
  | .int i => R (some i) b1
  | _ => False) := propext Iff.rfl
theorem mSl_e {m : WE} {lo hi : WO} {E : Env} {b : Nat} {R : PyData → Nat → Prop} : mSl m lo hi E b R = (m E b fun d b1 => lo E b1 fun l b2 => hi E b2 fun u b3 => slW d l u fun z => R z b3) := propext Iff.rfl
theorem mDG_e {i : Nat} {mk : WE} {E : Env} {b : Nat} {R : PyData → Nat → Prop} : mDG i mk E b R = (∃ s ds, E[i]? = some s ∧ asM s = some ds ∧ mk E b fun d b1 => ∃ k v, dKey d = some k ∧ lookD ds k = some v ∧ R v b1) := propext Iff.rfl
theorem mDGd_e {i : Nat} {mk mx : WE} {E : Env} {b : Nat} {R : PyData → Nat → Prop} : mDGd i mk mx E b R = (∃ s ds, E[i]? = some s ∧ asM s = some ds ∧ mk E b fun d b1 => mx E b1 fun x b2 => ∃ k, dKey d = some k ∧ R ((lookD ds k).getD x) b2) := propext Iff.rfl
theorem mDIn_e {i : Nat} {mk : WE} {E : Env} {b : Nat} {R : PyData → Nat → Prop} : mDIn i mk E b R = (∃ s ds, E[i]? = some s ∧ asM s = some ds ∧ mk E b fun d b1 => ∃ k, dKey d = some k ∧ R (.bool (lookD ds k).isSome) b1) := propext Iff.rfl
theorem mPut_e {i : Nat} {mk mv : WE} {E : Env} {b : Nat} {F : WEnds} : mPut i mk mv E b F = (∃ ds, E[i]? = some (.m ds) ∧ mv E b fun v b1 => mk E b1 fun d b2 => ∃ k, dKey d = some k ∧ ds.length < 100000 ∧ F.nx (E.set i (.m (putD ds k v))) b2) := propext Iff.rfl
theorem mSD_e {i : Nat} {E : Env} {b : Nat} {R : List PyData → Nat → Prop} : mSD i E b R = (∃ s ds, E[i]? = some s ∧ asM s = some ds ∧ ∃ ks : List Int, ds.map (·.1) = ks.map Sum.inl ∧ ks.length < 64 ∧ ∀ ys : List Int, ys.Perm ks → ys.Pairwise (· ≤ ·) → R (ys.map PyData.int) b) := propext Iff.rfl
theorem mRetO_e {i : Nat} {E : Env} {b : Nat} {F : WEnds} : mRetO i E b F = (match E[i]? with
  | some (.l ds) => F.rt (.list ds) b
  | _ => False) := propext Iff.rfl
theorem vDof_e {m : WE} {E : Env} {b : Nat} {R : Sl → Nat → Prop} : vDof m E b R = (m E b fun d b1 => match d with
  | .tuple ds => ∃ kvs : List (Key × PyData), ds.map pairK = kvs.map some ∧ R (.m (mergeD [] kvs)) b1
  | _ => False) := propext Iff.rfl
theorem mForZ_e {t : WG1} {ms : WL} {m : WS} {E : Env} {b : Nat} {F : WEnds} : mForZ t ms m E b F = (ms E b fun ds b1 => match ds with
  | [.list xs, .list ys] => mTurns t m (zipD xs ys) E b1 F
  | _ => False) := propext Iff.rfl
end Wp

namespace Wp
open PySem PySem.Spec PyProof.Rows L2 Evl
def S_l_garden_1 : WS := (mRet (mTup (mCons (mOp ixW (mV 6) (mCall mDraw (gO 0 (gE (mCB lenW (mCons (mV 6) mNil)) gNo)))) (mCons (mV 5) (mCons (mCB tupW (mCons (mO 10) mNil)) mNil)))))
def S_l_garden_2 : WS := (mAsg 6 (vD (mOp addW (mLk (mLst (mCons (mOp addW (mV 3) (mCall mDraw (gO 0 (gE (mV 8) gNo)))) (mCons (mV 3) (mCons (mOp addW (mV 3) (mV 8)) mNil))))) (mLk (mLc (bTup 2 (bCons (bName 4) (bCons (bName 12) bNil))) (mO 10) mYes (mV 4) [4, 12])))))
def S_l_garden_3 : WS := (mAsg 5 (vD (mOp ixW (mLk (mLst (mCons (mC (.int 1)) (mCons (mOp addW (mC (.int 1)) (mCall mDraw (gO 0 (gE (mC (.int 4)) gNo)))) (mCons (mOp addW (mC (.int 1)) (mCall mDraw (gO 0 (gE (mC (.int 30)) gNo)))) (mCons (mOp addW (mC (.int 1)) (mCall mDraw (gO 0 (gE (mOp powW (mC (.int 10)) (mC (.int 6))) gNo)))) mNil)))))) (mCall mDraw (gO 0 (gE (mC (.int 4)) gNo))))))
def S_l_garden_4 : WS := (mApp 10 (mTup (mCons (mV 4) (mCons (mOp addW (mC (.int 1)) (mCall mDraw (gO 0 (gE (mV 9) gNo)))) mNil))))
def S_l_garden_5 : WS := (mFor (bName 4) (mLk (mSS (mLk (mLcR (bName 11) (mCons (mV 7) mNil) mYes (mOp addW (mV 3) (mCall mDraw (gO 0 (gE (mV 8) gNo)))) [11]))))
      S_l_garden_4)
def S_l_garden_6 : WS := (mPar [9, 10] (vCons (vD (mOp ixW (mLk (mLst (mCons (mC (.int 3)) (mCons (mC (.int 12)) (mCons (mV 2) mNil))))) (mCall mDraw (gO 0 (gE (mC (.int 3)) gNo))))) (vCons (vL (mLst mNil)) vNil)))
def S_l_garden_7 : WS := (mAsg 3 (vD (mOp ixW (mLk (mLst (mCons (mOp subW (mC (.int 0)) (mOp fdivW (mV 8) (mC (.int 2)))) (mCons (mOp subW (mOp powW (mC (.int 10)) (mC (.int 6))) (mV 8)) (mCons (mUn negW (mOp powW (mC (.int 10)) (mC (.int 6)))) (mCons (mOp subW (mC (.int 0)) (mCall mDraw (gO 0 (gE (mV 8) gNo)))) mNil)))))) (mCall mDraw (gO 0 (gE (mC (.int 4)) gNo))))))
def S_l_garden_8 : WS := (mPar [7, 8] (vCons (vD (mOp ixW (mLk (mLst (mCons (mCall mDraw (gO 0 (gE (mOp addW (mV 1) (mC (.int 1))) gNo))) (mCons (mV 1) mNil)))) (mCall mDraw (gO 0 (gE (mC (.int 2)) gNo))))) (vCons (vD (mOp ixW (mLk (mLst (mCons (mOp addW (mV 1) (mC (.int 2))) (mCons (mC (.int 40)) (mCons (mOp powW (mC (.int 10)) (mC (.int 6))) mNil))))) (mCall mDraw (gO 0 (gE (mC (.int 3)) gNo))))) vNil)))
def B_l_garden : WS := (mSeq S_l_garden_8
    (mSeq S_l_garden_7
    (mSeq S_l_garden_6
    (mSeq S_l_garden_5
    (mSeq S_l_garden_3
    (mSeq S_l_garden_2
    S_l_garden_1))))))
def M_l_garden : WF := mFn 3 13 B_l_garden

def S_l_trip_1 : WS := (mRet (mCB tupW (mCons (mO 4) mNil)))
def S_l_trip_2 : WS := (mAsg 4 (vL (mLc (bName 3) (mV 6) mYes (mTup (mCons (mV 3) (mCons (mOp addW (mC (.int 1)) (mCall mDraw (gO 0 (gE (mCB minW (mCons (mV 5) (mCons (mDG 2 (mV 3)) mNil))) gNo)))) mNil))) [3])))
def S_l_trip_3 : WS := (mAsg 6 (vD (mSl (mLk (mLc (bName 3) (mLk (mSD 2)) (mT (mOp gtW (mDG 2 (mV 3)) (mC (.int 0)))) (mV 3) [3])) mNo (mPt (mC (.int 1))))))
def S_l_trip_4 : WS := (mIfS (mT (mOp eqW (mO 4) (mLk (mLst mNil)))) (mSeq S_l_trip_3
    S_l_trip_2) mSkip)
def S_l_trip_5 : WS := (mAsg 5 (vD (mOp subW (mV 5) (mV 7))))
def S_l_trip_6 : WS := (mApp 4 (mTup (mCons (mV 3) (mCons (mV 7) mNil))))
def S_l_trip_7 : WS := (mAsg 7 (vD (mOp ixW (mLk (mLst (mCons (mV 7) (mCons (mCB minW (mCons (mV 5) (mCons (mDG 2 (mV 3)) mNil))) mNil)))) (mCall mDraw (gO 0 (gE (mC (.int 2)) gNo))))))
def S_l_trip_8 : WS := (mAsg 7 (vD (mOp addW (mC (.int 1)) (mCall mDraw (gO 0 (gE (mCB minW (mCons (mV 5) (mCons (mDG 2 (mV 3)) mNil))) gNo))))))
def S_l_trip_9 : WS := (mIfS (mAndT (mT (mOp gtW (mDG 2 (mV 3)) (mC (.int 0)))) (mAndT (mT (mOp gtW (mV 5) (mC (.int 0)))) (mT (mOp eqW (mCall mDraw (gO 0 (gE (mC (.int 2)) gNo))) (mC (.int 0)))))) (mSeq S_l_trip_8
    (mSeq S_l_trip_7
    (mSeq S_l_trip_6
    S_l_trip_5))) mSkip)
def S_l_trip_10 : WS := (mFor (bName 3) (mLk (mSD 2))
      S_l_trip_9)
def S_l_trip_11 : WS := (mPar [4, 5] (vCons (vL (mLst mNil)) (vCons (vD (mOp ixW (mV 1) (mC (.int 1)))) vNil)))
def B_l_trip : WS := (mSeq S_l_trip_11
    (mSeq S_l_trip_10
    (mSeq S_l_trip_4
    S_l_trip_1)))
def M_l_trip : WF := mFn 3 8 B_l_trip

def S_l_odd_1 : WS := (mRet (mOp ixW (mOp addW (mV 1) (mLk (mLst (mCons (mTup (mCons (mC (.int 0)) (mCons (mC (.int 1)) mNil))) (mCons (mTup (mCons (mTup (mCons (mC (.int 0)) (mCons (mC (.int 1)) mNil))) mNil)) (mCons (mTup (mCons (mC (.int 0)) (mCons (mC (.int 1)) (mCons (mTup mNil) mNil)))) (mCons (mTup (mCons (mTup (mCons (mTup (mCons (mC (.int 0)) (mCons (mC (.int 1)) mNil))) mNil)) (mCons (mC (.int 1)) mNil))) (mCons (mTup (mCons (mTup mNil) mNil)) (mCons (mC (.dict [(.str "a", .int 1)])) (mCons (mUn negW (mOp powW (mC (.int 10)) (mC (.int 6)))) mNil)))))))))) (mCall mDraw (gO 0 (gE (mC (.int 24)) gNo)))))
def S_l_odd_2 : WS := (mAsg 1 (vD (mLk (mLst (mCons (mC .none) (mCons (mC (.bool true)) (mCons (mC (.bool false)) (mCons (mUn negW (mC (.int 1))) (mCons (mC (.int 0)) (mCons (mC (.int 1)) (mCons (mOp powW (mC (.int 10)) (mC (.int 6))) (mCons (mOp addW (mOp powW (mC (.int 10)) (mC (.int 6))) (mC (.int 1))) (mCons (mOp powW (mC (.int 10)) (mC (.int 39))) (mCons (mC (.str "")) (mCons (mC (.str "1")) (mCons (mTup mNil) (mCons (mLk (mLst mNil)) (mCons (mC (.dict [])) (mCons (mTup (mCons (mC (.int 0)) mNil)) (mCons (mLk (mLst (mCons (mC (.int 1)) mNil))) (mCons (mTup (mCons (mC (.bool true)) mNil)) mNil)))))))))))))))))))))
def B_l_odd : WS := (mSeq S_l_odd_2
    S_l_odd_1)
def M_l_odd : WF := mFn 1 2 B_l_odd

def S_l_part_1 (M_self : WF) : WS := (mRet (mCall M_l_odd (gO 0 gNo)))
def S_l_part_2 (M_self : WF) : WS := (mRet (mOp ixW (mLk (mLst (mCons (mSl (mV 1) (mPt (mC (.int 1))) mNo) (mCons (mSl (mV 1) mNo (mPt (mUn negW (mC (.int 1))))) (mCons (mOp addW (mV 1) (mSl (mV 1) (mPt (mUn negW (mC (.int 1)))) mNo)) (mCons (mUn revW (mV 1)) (mCons (mLk (mCL lstW (mCons (mV 1) mNil))) (mCons (mOp addW (mV 1) (mTup (mCons (mC (.int 0)) mNil))) (mCons (mTup mNil) mNil))))))))) (mV 3)))
def S_l_part_3 (M_self : WF) : WS := (mIfS (mAndT (mT (mIsi isT (mV 1))) (mT (mOp ltW (mV 3) (mC (.int 7))))) (S_l_part_2 M_self) mSkip)
def S_l_part_4 (M_self : WF) : WS := (mRet (mOp ixW (mLk (mLst (mCons (mOp addW (mV 1) (mC (.int 1))) (mCons (mOp subW (mV 1) (mC (.int 1))) (mCons (mOp subW (mC (.int 0)) (mV 1)) (mCons (mOp eqW (mV 1) (mC (.int 1))) (mCons (mCB strW (mCons (mV 1) mNil)) (mCons (mTup (mCons (mV 1) mNil)) (mCons (mC (.int 0)) mNil))))))))) (mV 3)))
def S_l_part_5 (M_self : WF) : WS := (mIfS (mAndT (mT (mIsi isI (mV 1))) (mT (mOp ltW (mV 3) (mC (.int 7))))) (S_l_part_4 M_self) mSkip)
def S_l_part_6 (M_self : WF) : WS := (mAsg 3 (vD (mCall mDraw (gO 0 (gE (mC (.int 8)) gNo)))))
def S_l_part_7 (M_self : WF) : WS := (mRet (mOp addW (mOp addW (mSl (mV 1) mNo (mPt (mV 4))) (mTup (mCons (mCall M_self (gO 0 (gE (mOp ixW (mV 1) (mV 4)) (gE (mOp subW (mV 2) (mC (.int 1))) gNo)))) mNil))) (mSl (mV 1) (mPt (mOp addW (mV 4) (mC (.int 1)))) mNo)))
def S_l_part_8 (M_self : WF) : WS := (mAsg 4 (vD (mCall mDraw (gO 0 (gE (mCB lenW (mCons (mV 1) mNil)) gNo)))))
def S_l_part_9 (M_self : WF) : WS := (mIfS (mAndT (mT (mOp gtW (mV 2) (mC (.int 0)))) (mAndT (mT (mIsi isT (mV 1))) (mAndT (mT (mOp neW (mV 1) (mTup mNil))) (mT (mOp gtW (mCall mDraw (gO 0 (gE (mC (.int 4)) gNo))) (mC (.int 0))))))) (mSeq (S_l_part_8 M_self)
    (S_l_part_7 M_self)) mSkip)
def B_l_part (M_self : WF) : WS := (mSeq (S_l_part_9 M_self)
    (mSeq (S_l_part_6 M_self)
    (mSeq (S_l_part_5 M_self)
    (mSeq (S_l_part_3 M_self)
    (S_l_part_1 M_self)))))
def M_l_part : Nat → WF
  | 0 => fun _ _ _ => False
  | n + 1 => mFn 3 5 (B_l_part (M_l_part n))

def S_is_number_1 : WS := (mRet (mAnd (mIsi isI (mV 0)) (mNot (mIsi isB (mV 0)))))
def B_is_number : WS := S_is_number_1
def M_is_number : WF := mFn 1 1 B_is_number

def S_is_number_from_1 : WS := (mRet (mAnd (mCall M_is_number (gE (mV 0) gNo)) (mOp leW (mV 1) (mV 0))))
def B_is_number_from : WS := S_is_number_from_1
def M_is_number_from : WF := mFn 2 2 B_is_number_from

def S_is_tuple_of_1 : WS := (mRet (mAnd (mIsi isT (mV 0)) (mOp eqW (mCB lenW (mCons (mV 0) mNil)) (mV 1))))
def B_is_tuple_of : WS := S_is_tuple_of_1
def M_is_tuple_of : WF := mFn 2 2 B_is_tuple_of

def S_ascends_1 : WS := (mRet (mCB allW (mCons (mLk (mLcZ (bTup 2 (bCons (bName 1) (bCons (bName 2) bNil))) (mCons (mV 0) (mCons (mSl (mV 0) (mPt (mC (.int 1))) mNo) mNil)) mYes (mOp ltW (mV 1) (mV 2)) [1, 2])) mNil)))
def B_ascends : WS := S_ascends_1
def M_ascends : WF := mFn 1 3 B_ascends

def S_is_row_1 : WS := (mRet (mAnd (mCall M_is_number (gE (mV 2) gNo)) (mAnd (mOp inW (mV 2) (mV 0)) (mCall M_is_number_from (gE (mV 3) (gE (mC (.int 1)) gNo))))))
def S_is_row_2 : WS := (mUnp (bTup 2 (bCons (bName 2) (bCons (bName 3) bNil))) (mV 1))
def S_is_row_3 : WS := (mRet (mC (.bool false)))
def S_is_row_4 : WS := (mIfS (mNotT (mT (mCall M_is_tuple_of (gE (mV 1) (gE (mC (.int 2)) gNo))))) S_is_row_3 mSkip)
def B_is_row : WS := (mSeq S_is_row_4
    (mSeq S_is_row_2
    S_is_row_1))
def M_is_row : WF := mFn 2 4 B_is_row

def S_is_trip_1 : WS := (mRet (mOp leW (mCB sumW (mCons (mLk (mLc (bTup 2 (bCons (bName 6) (bCons (bName 7) bNil))) (mV 1) mYes (mV 7) [6, 7])) mNil)) (mV 4)))
def S_is_trip_2 : WS := (mRet (mC (.bool false)))
def S_is_trip_3 : WS := (mIfS (mNotT (mT (mCall M_ascends (gE (mLk (mLc (bTup 2 (bCons (bName 6) (bCons (bName 7) bNil))) (mV 1) mYes (mV 6) [6, 7])) gNo)))) S_is_trip_2 mSkip)
def S_is_trip_4 : WS := (mRet (mC (.bool false)))
def S_is_trip_5 : WS := (mIfS (mNotT (mT (mCB allW (mCons (mLk (mLc (bName 8) (mV 1) mYes (mCall M_is_row (gE (mV 2) (gE (mV 8) gNo))) [8])) mNil)))) S_is_trip_4 mSkip)
def S_is_trip_6 : WS := (mAsg 2 (vD (mLk (mLc (bTup 2 (bCons (bName 6) (bCons (bName 7) bNil))) (mV 5) mYes (mV 6) [6, 7]))))
def S_is_trip_7 : WS := (mRet (mC (.bool false)))
def S_is_trip_8 : WS := (mIfS (mOrT (mNotT (mT (mIsi isT (mV 1)))) (mT (mOp eqW (mCB lenW (mCons (mV 1) mNil)) (mC (.int 0))))) S_is_trip_7 mSkip)
def S_is_trip_9 : WS := (mUnp (bTup 3 (bCons (bName 3) (bCons (bName 4) (bCons (bName 5) bNil)))) (mV 0))
def B_is_trip : WS := (mSeq S_is_trip_9
    (mSeq S_is_trip_8
    (mSeq S_is_trip_6
    (mSeq S_is_trip_5
    (mSeq S_is_trip_3
    S_is_trip_1)))))
def M_is_trip : WF := mFn 2 9 B_is_trip

def S_l_is_number_1 : WS := (mRet (mAnd (mIsi isI (mV 0)) (mAnd (mNot (mIsi isB (mV 0))) (mChain leW leW (mV 1) (mV 0) (mV 2)))))
def B_l_is_number : WS := S_l_is_number_1
def M_l_is_number : WF := mFn 3 3 B_l_is_number

def S_l_is_trip_1 : WS := (mRet (mOp leW (mV 8) (mV 4)))
def S_l_is_trip_2 : WS := (mPar [7, 8] (vCons (vD (mOp ixW (mV 2) (mC (.int 0)))) (vCons (vD (mOp addW (mV 8) (mOp ixW (mV 2) (mC (.int 1))))) vNil)))
def S_l_is_trip_3 : WS := (mRet (mC (.bool false)))
def S_l_is_trip_4 : WS := (mIfS (mOrT (mT (mOp ninW (mOp ixW (mV 2) (mC (.int 0))) (mV 6))) (mOrT (mT (mOp leW (mOp ixW (mV 2) (mC (.int 0))) (mV 7))) (mNotT (mT (mCall M_l_is_number (gE (mOp ixW (mV 2) (mC (.int 1))) (gE (mC (.int 1)) (gE (mV 4) gNo)))))))) S_l_is_trip_3 mSkip)
def S_l_is_trip_5 : WS := (mRet (mC (.bool false)))
def S_l_is_trip_6 : WS := (mIfS (mOrT (mNotT (mT (mIsi isT (mV 2)))) (mOrT (mT (mOp neW (mCB lenW (mCons (mV 2) mNil)) (mC (.int 2)))) (mNotT (mT (mCall M_l_is_number (gE (mOp ixW (mV 2) (mC (.int 0))) (gE (mUn negW (mOp powW (mC (.int 10)) (mC (.int 6)))) (gE (mOp powW (mC (.int 10)) (mC (.int 6))) gNo)))))))) S_l_is_trip_5 mSkip)
def S_l_is_trip_7 : WS := (mFor (bName 2) (mV 1)
      (mSeq S_l_is_trip_6
    (mSeq S_l_is_trip_4
    S_l_is_trip_2)))
def S_l_is_trip_8 : WS := (mPar [6, 7, 8] (vCons (vD (mLk (mLc (bTup 2 (bCons (bName 9) (bCons (bName 10) bNil))) (mV 5) mYes (mV 9) [9, 10]))) (vCons (vD (mOp subW (mUn negW (mOp powW (mC (.int 10)) (mC (.int 6)))) (mC (.int 1)))) (vCons (vD (mC (.int 0))) vNil))))
def S_l_is_trip_9 : WS := (mRet (mC (.bool false)))
def S_l_is_trip_10 : WS := (mIfS (mOrT (mNotT (mT (mIsi isT (mV 1)))) (mT (mOp eqW (mV 1) (mTup mNil)))) S_l_is_trip_9 mSkip)
def S_l_is_trip_11 : WS := (mUnp (bTup 3 (bCons (bName 3) (bCons (bName 4) (bCons (bName 5) bNil)))) (mV 0))
def B_l_is_trip : WS := (mSeq S_l_is_trip_11
    (mSeq S_l_is_trip_10
    (mSeq S_l_is_trip_8
    (mSeq S_l_is_trip_7
    S_l_is_trip_1))))
def M_l_is_trip : WF := mFn 2 11 B_l_is_trip


structure GOk (most top : Int) (t c : Int) (bs : List Bed) : Prop where
  t0 : -1000000 ≤ t
  t1 : t ≤ 1000000
  c0 : 1 ≤ c
  c1 : c ≤ 1000000
  asc : Cn.Asc (bs.map (·.1))
  p0 : ∀ b ∈ bs, -1000000 ≤ b.1
  p1 : ∀ b ∈ bs, b.1 ≤ 1000000
  l0 : ∀ b ∈ bs, 1 ≤ b.2
  l1 : ∀ b ∈ bs, b.2 ≤ 12 ∨ b.2 ≤ top
  few : (bs.length : Int) ≤ most
theorem mDraw_at {k : Int} {b : Nat} {R : PyData → Nat → Prop} (hb : b ≤ 1000000000) (h1 : 1 ≤ k) (h2 : k ≤ 1000000001) (q : ∀ r : Int, 0 ≤ r → r < k → R (.int r) (b + 1)) : mDraw [.s 1, .d (.int k)] b R := ⟨⟨hb, h1, h2⟩, q⟩
theorem ints_of {P : Int → Prop} : ∀ {ys : List PyData}, (∀ y ∈ ys, ∃ i, y = .int i ∧ P i) → ∃ ns : List Int, ys = ns.map PyData.int ∧ ∀ n ∈ ns, P n
  | [], _ => ⟨[], rfl, fun _ h => nomatch h⟩
  | y :: ys, h => by
    obtain ⟨i, rfl, hi⟩ := h y (List.mem_cons_self ..)
    obtain ⟨ns, rfl, hn⟩ := ints_of (ys := ys) fun z hz => h z (List.mem_cons_of_mem _ hz)
    exact ⟨i :: ns, rfl, fun n hn' => by
      rcases List.mem_cons.mp hn' with rfl | h'
      · exact hi
      · exact hn n h'⟩
theorem garden_loop {a1 a2 a3 a7 a8 : Sl} {bd : Int} {F : WEnds} (h1 : 1 ≤ bd) (h2 : bd ≤ 1000000000) : ∀ (ps : List Int) (acc : List Bed) (pl : Sl) (b : Nat), b + ps.length ≤ 950000000 → acc.length + ps.length ≤ 1000 →
    (∀ bs b2 pl', bs.map (·.1) = ps → (∀ x ∈ bs, 1 ≤ x.2 ∧ x.2 ≤ bd) → b2 ≤ b + ps.length → F.nx [.s 1, a1, a2, a3, pl', .no, .no, a7, a8, .d (.int bd), .l ((acc ++ bs).map bedD), .no, .no] b2) →
    mTurns (bName 4) S_l_garden_4 (ps.map PyData.int) [.s 1, a1, a2, a3, pl, .no, .no, a7, a8, .d (.int bd), .l (acc.map bedD), .no, .no] b F
  | [], acc, pl, b, _, _, q => by
    have := q [] b pl rfl (fun _ h => nomatch h) (by simp)
    simpa [mTurns] using this
  | p :: ps, acc, pl, b, hb, hl, q => by
    simp only [List.length_cons] at hb hl
    simp only [List.map_cons, mTurns, S_l_garden_4, mV_e, mC_e, mO_e, mOp_e, mUn_e, mT_e, mNotT_e, mAndT_e, mOrT_e, mAnd_e, mOr_e, mNot_e, mIf_e, mChain_e, mNil_e, mCons_e, mTup_e, mLst_e, mLk_e, mCat_e, mCB_e, mCL_e, vD_e, vL_e, vM0_e, mSkip_e, mSeq_e, mAsg_e, mRet_e, mIfS_e, mDrop_e, vNil_e, vCons_e, mPar_e, bName_e, bTup_e, bNil_e, bCons_e, mUnp_e, mFor_e, mForR_e, mForR2_e, mApp_e, mYes_e, mLc_e, mLcR_e, mLcR2_e, mLcZ_e, gNo_e, gE_e, gO_e, mCall_e, mFn_e, mIsi_e, mSS_e, mNo_e, mPt_e, mSl_e, mDG_e, mDGd_e, mDIn_e, mPut_e, mSD_e, mRetO_e, vDof_e, mForZ_e, wipeE, pow6, pow7, pow9, pow15, pow18, pow39, asM, List.replicate, List.cons_append, List.nil_append, List.getElem?_cons_zero, List.getElem?_cons_succ, enAll, List.set_cons_zero, List.set_cons_succ, Nat.reduceSub, List.length_cons, List.length_nil, decide_eq_true_eq, Nat.reduceAdd, Nat.reduceLeDiff, true_and, Bool.not_true, Bool.not_false, if_true, if_false, Bool.false_eq_true, Bool.not_eq_true', decide_eq_false_iff_not, Int.reduceLE, Int.reduceLT, Int.reduceNeg, Int.reduceSub, Int.reduceAdd, and_true, PyData.int.injEq, Nat.zero_add, Int.zero_add, Int.sub_zero, addW_ii, addW_ib, addW_bi, addW_tt, addW_ll, subW_ii, subW_ib, subW_bi, mulW_ii, fdivW_ii, modW_ii, negW_i, eqW_ii, eqW_ss, eqW_t0, eqW_l0, neW_ii, neW_ss, neW_t0, neW_l0, ltW_ii, leW_ii, gtW_ii, geW_ii, isW_n, isntW_n, ixW_l, ixW_t, lenW_l, lenW_t, absW_i, intW_i, intW_b, tupW_l, tupW_t, lstW_l, lstW_t, sumW_l, allW_l, anyW_l, minW_2, maxW_2, slW_t, slW_l, revW_t, revW_l, reprW_1, strW_i, strW_b, sortW_l, sortW_t, Option.some.injEq, exists_eq_left', exists_eq_left, dKey, exists_and_left, exists_const]
    refine mDraw_at (by omega) (by omega) (by omega) fun r r0 r1 => ?_
    simp only [mV_e, mC_e, mO_e, mOp_e, mUn_e, mT_e, mNotT_e, mAndT_e, mOrT_e, mAnd_e, mOr_e, mNot_e, mIf_e, mChain_e, mNil_e, mCons_e, mTup_e, mLst_e, mLk_e, mCat_e, mCB_e, mCL_e, vD_e, vL_e, vM0_e, mSkip_e, mSeq_e, mAsg_e, mRet_e, mIfS_e, mDrop_e, vNil_e, vCons_e, mPar_e, bName_e, bTup_e, bNil_e, bCons_e, mUnp_e, mFor_e, mForR_e, mForR2_e, mApp_e, mYes_e, mLc_e, mLcR_e, mLcR2_e, mLcZ_e, gNo_e, gE_e, gO_e, mCall_e, mFn_e, mIsi_e, mSS_e, mNo_e, mPt_e, mSl_e, mDG_e, mDGd_e, mDIn_e, mPut_e, mSD_e, mRetO_e, vDof_e, mForZ_e, wipeE, pow6, pow7, pow9, pow15, pow18, pow39, asM, List.replicate, List.cons_append, List.nil_append, List.getElem?_cons_zero, List.getElem?_cons_succ, enAll, List.set_cons_zero, List.set_cons_succ, Nat.reduceSub, List.length_cons, List.length_nil, decide_eq_true_eq, Nat.reduceAdd, Nat.reduceLeDiff, true_and, Bool.not_true, Bool.not_false, if_true, if_false, Bool.false_eq_true, Bool.not_eq_true', decide_eq_false_iff_not, Int.reduceLE, Int.reduceLT, Int.reduceNeg, Int.reduceSub, Int.reduceAdd, and_true, PyData.int.injEq, Nat.zero_add, Int.zero_add, Int.sub_zero, addW_ii, addW_ib, addW_bi, addW_tt, addW_ll, subW_ii, subW_ib, subW_bi, mulW_ii, fdivW_ii, modW_ii, negW_i, eqW_ii, eqW_ss, eqW_t0, eqW_l0, neW_ii, neW_ss, neW_t0, neW_l0, ltW_ii, leW_ii, gtW_ii, geW_ii, isW_n, isntW_n, ixW_l, ixW_t, lenW_l, lenW_t, absW_i, intW_i, intW_b, tupW_l, tupW_t, lstW_l, lstW_t, sumW_l, allW_l, anyW_l, minW_2, maxW_2, slW_t, slW_l, revW_t, revW_l, reprW_1, strW_i, strW_b, sortW_l, sortW_t, Option.some.injEq, exists_eq_left', exists_eq_left, dKey, exists_and_left, exists_const]
    refine ⟨by simp; omega, ?_⟩
    have e : acc.map bedD ++ [PyData.tuple [.int p, .int (1 + r)]] = (acc ++ [(p, 1 + r)]).map bedD := by simp [bedD]
    rw [e]
    refine garden_loop h1 h2 ps (acc ++ [(p, 1 + r)]) _ (b + 1) (by omega) (by simp; omega) fun bs b2 pl' e1 e2 e3 => ?_
    have := q ((p, 1 + r) :: bs) b2 pl' (by simp [e1]) (fun x hx => by
      rcases List.mem_cons.mp hx with rfl | hx
      · simp; omega
      · exact e2 x hx) (by simp; omega)
    simpa using this
theorem garden_ok {most top : Int} {b : Nat} {R : PyData → Nat → Prop} (h1 : 1 ≤ most) (h2 : most ≤ 12) (h3 : 1 ≤ top) (h4 : top ≤ 1000000000) (hb : b ≤ 900000000) (q : ∀ t c bs b', GOk most top t c bs → b' ≤ b + 60 → R (gardenD t c bs) b') : M_l_garden [.s 1, .d (.int most), .d (.int top)] b R := by
  simp only [M_l_garden, mFn_e, B_l_garden, mSeq_e, List.replicate, List.cons_append, List.nil_append, List.length_cons, List.length_nil, Nat.reduceSub, Nat.reduceAdd, true_and]
  simp only [S_l_garden_8, mV_e, mC_e, mO_e, mOp_e, mUn_e, mT_e, mNotT_e, mAndT_e, mOrT_e, mAnd_e, mOr_e, mNot_e, mIf_e, mChain_e, mNil_e, mCons_e, mTup_e, mLst_e, mLk_e, mCat_e, mCB_e, mCL_e, vD_e, vL_e, vM0_e, mSkip_e, mSeq_e, mAsg_e, mRet_e, mIfS_e, mDrop_e, vNil_e, vCons_e, mPar_e, bName_e, bTup_e, bNil_e, bCons_e, mUnp_e, mFor_e, mForR_e, mForR2_e, mApp_e, mYes_e, mLc_e, mLcR_e, mLcR2_e, mLcZ_e, gNo_e, gE_e, gO_e, mCall_e, mFn_e, mIsi_e, mSS_e, mNo_e, mPt_e, mSl_e, mDG_e, mDGd_e, mDIn_e, mPut_e, mSD_e, mRetO_e, vDof_e, mForZ_e, wipeE, pow6, pow7, pow9, pow15, pow18, pow39, asM, List.replicate, List.cons_append, List.nil_append, List.getElem?_cons_zero, List.getElem?_cons_succ, enAll, List.set_cons_zero, List.set_cons_succ, Nat.reduceSub, List.length_cons, List.length_nil, decide_eq_true_eq, Nat.reduceAdd, Nat.reduceLeDiff, true_and, Bool.not_true, Bool.not_false, if_true, if_false, Bool.false_eq_true, Bool.not_eq_true', decide_eq_false_iff_not, Int.reduceLE, Int.reduceLT, Int.reduceNeg, Int.reduceSub, Int.reduceAdd, and_true, PyData.int.injEq, Nat.zero_add, Int.zero_add, Int.sub_zero, addW_ii, addW_ib, addW_bi, addW_tt, addW_ll, subW_ii, subW_ib, subW_bi, mulW_ii, fdivW_ii, modW_ii, negW_i, eqW_ii, eqW_ss, eqW_t0, eqW_l0, neW_ii, neW_ss, neW_t0, neW_l0, ltW_ii, leW_ii, gtW_ii, geW_ii, isW_n, isntW_n, ixW_l, ixW_t, lenW_l, lenW_t, absW_i, intW_i, intW_b, tupW_l, tupW_t, lstW_l, lstW_t, sumW_l, allW_l, anyW_l, minW_2, maxW_2, slW_t, slW_l, revW_t, revW_l, reprW_1, strW_i, strW_b, sortW_l, sortW_t, Option.some.injEq, exists_eq_left', exists_eq_left, dKey, exists_and_left, exists_const]
  refine mDraw_at (by omega) (by omega) (by omega) fun r r0 r1 => mDraw_at (by omega) (by omega) (by omega) fun r' r0' r1' => ?_
  refine pick_int [r, most] rfl r0' (by simpa using r1') fun cnt hcnt => ?_
  have hc : 0 ≤ cnt ∧ cnt ≤ most := by simp at hcnt; omega
  refine mDraw_at (by omega) (by omega) (by omega) fun u u0 u1 => ?_
  refine pick_int [most + 2, 40, 1000000] rfl u0 (by simpa using u1) fun sp hsp => ?_
  have hs : 1 ≤ sp ∧ sp ≤ 1000000 := by simp at hsp; omega
  clear hcnt hsp r0 r1 r0' r1' u0 u1
  simp only [S_l_garden_7, mV_e, mC_e, mO_e, mOp_e, mUn_e, mT_e, mNotT_e, mAndT_e, mOrT_e, mAnd_e, mOr_e, mNot_e, mIf_e, mChain_e, mNil_e, mCons_e, mTup_e, mLst_e, mLk_e, mCat_e, mCB_e, mCL_e, vD_e, vL_e, vM0_e, mSkip_e, mSeq_e, mAsg_e, mRet_e, mIfS_e, mDrop_e, vNil_e, vCons_e, mPar_e, bName_e, bTup_e, bNil_e, bCons_e, mUnp_e, mFor_e, mForR_e, mForR2_e, mApp_e, mYes_e, mLc_e, mLcR_e, mLcR2_e, mLcZ_e, gNo_e, gE_e, gO_e, mCall_e, mFn_e, mIsi_e, mSS_e, mNo_e, mPt_e, mSl_e, mDG_e, mDGd_e, mDIn_e, mPut_e, mSD_e, mRetO_e, vDof_e, mForZ_e, wipeE, pow6, pow7, pow9, pow15, pow18, pow39, asM, List.replicate, List.cons_append, List.nil_append, List.getElem?_cons_zero, List.getElem?_cons_succ, enAll, List.set_cons_zero, List.set_cons_succ, Nat.reduceSub, List.length_cons, List.length_nil, decide_eq_true_eq, Nat.reduceAdd, Nat.reduceLeDiff, true_and, Bool.not_true, Bool.not_false, if_true, if_false, Bool.false_eq_true, Bool.not_eq_true', decide_eq_false_iff_not, Int.reduceLE, Int.reduceLT, Int.reduceNeg, Int.reduceSub, Int.reduceAdd, and_true, PyData.int.injEq, Nat.zero_add, Int.zero_add, Int.sub_zero, addW_ii, addW_ib, addW_bi, addW_tt, addW_ll, subW_ii, subW_ib, subW_bi, mulW_ii, fdivW_ii, modW_ii, negW_i, eqW_ii, eqW_ss, eqW_t0, eqW_l0, neW_ii, neW_ss, neW_t0, neW_l0, ltW_ii, leW_ii, gtW_ii, geW_ii, isW_n, isntW_n, ixW_l, ixW_t, lenW_l, lenW_t, absW_i, intW_i, intW_b, tupW_l, tupW_t, lstW_l, lstW_t, sumW_l, allW_l, anyW_l, minW_2, maxW_2, slW_t, slW_l, revW_t, revW_l, reprW_1, strW_i, strW_b, sortW_l, sortW_t, Option.some.injEq, exists_eq_left', exists_eq_left, dKey, exists_and_left, exists_const]
  refine mDraw_at (by omega) (by omega) (by omega) fun r r0 r1 => ?_
  simp only [mV_e, mC_e, mO_e, mOp_e, mUn_e, mT_e, mNotT_e, mAndT_e, mOrT_e, mAnd_e, mOr_e, mNot_e, mIf_e, mChain_e, mNil_e, mCons_e, mTup_e, mLst_e, mLk_e, mCat_e, mCB_e, mCL_e, vD_e, vL_e, vM0_e, mSkip_e, mSeq_e, mAsg_e, mRet_e, mIfS_e, mDrop_e, vNil_e, vCons_e, mPar_e, bName_e, bTup_e, bNil_e, bCons_e, mUnp_e, mFor_e, mForR_e, mForR2_e, mApp_e, mYes_e, mLc_e, mLcR_e, mLcR2_e, mLcZ_e, gNo_e, gE_e, gO_e, mCall_e, mFn_e, mIsi_e, mSS_e, mNo_e, mPt_e, mSl_e, mDG_e, mDGd_e, mDIn_e, mPut_e, mSD_e, mRetO_e, vDof_e, mForZ_e, wipeE, pow6, pow7, pow9, pow15, pow18, pow39, asM, List.replicate, List.cons_append, List.nil_append, List.getElem?_cons_zero, List.getElem?_cons_succ, enAll, List.set_cons_zero, List.set_cons_succ, Nat.reduceSub, List.length_cons, List.length_nil, decide_eq_true_eq, Nat.reduceAdd, Nat.reduceLeDiff, true_and, Bool.not_true, Bool.not_false, if_true, if_false, Bool.false_eq_true, Bool.not_eq_true', decide_eq_false_iff_not, Int.reduceLE, Int.reduceLT, Int.reduceNeg, Int.reduceSub, Int.reduceAdd, and_true, PyData.int.injEq, Nat.zero_add, Int.zero_add, Int.sub_zero, addW_ii, addW_ib, addW_bi, addW_tt, addW_ll, subW_ii, subW_ib, subW_bi, mulW_ii, fdivW_ii, modW_ii, negW_i, eqW_ii, eqW_ss, eqW_t0, eqW_l0, neW_ii, neW_ss, neW_t0, neW_l0, ltW_ii, leW_ii, gtW_ii, geW_ii, isW_n, isntW_n, ixW_l, ixW_t, lenW_l, lenW_t, absW_i, intW_i, intW_b, tupW_l, tupW_t, lstW_l, lstW_t, sumW_l, allW_l, anyW_l, minW_2, maxW_2, slW_t, slW_l, revW_t, revW_l, reprW_1, strW_i, strW_b, sortW_l, sortW_t, Option.some.injEq, exists_eq_left', exists_eq_left, dKey, exists_and_left, exists_const]
  refine mDraw_at (by omega) (by omega) (by omega) fun r' r0' r1' => ?_
  simp only [mV_e, mC_e, mO_e, mOp_e, mUn_e, mT_e, mNotT_e, mAndT_e, mOrT_e, mAnd_e, mOr_e, mNot_e, mIf_e, mChain_e, mNil_e, mCons_e, mTup_e, mLst_e, mLk_e, mCat_e, mCB_e, mCL_e, vD_e, vL_e, vM0_e, mSkip_e, mSeq_e, mAsg_e, mRet_e, mIfS_e, mDrop_e, vNil_e, vCons_e, mPar_e, bName_e, bTup_e, bNil_e, bCons_e, mUnp_e, mFor_e, mForR_e, mForR2_e, mApp_e, mYes_e, mLc_e, mLcR_e, mLcR2_e, mLcZ_e, gNo_e, gE_e, gO_e, mCall_e, mFn_e, mIsi_e, mSS_e, mNo_e, mPt_e, mSl_e, mDG_e, mDGd_e, mDIn_e, mPut_e, mSD_e, mRetO_e, vDof_e, mForZ_e, wipeE, pow6, pow7, pow9, pow15, pow18, pow39, asM, List.replicate, List.cons_append, List.nil_append, List.getElem?_cons_zero, List.getElem?_cons_succ, enAll, List.set_cons_zero, List.set_cons_succ, Nat.reduceSub, List.length_cons, List.length_nil, decide_eq_true_eq, Nat.reduceAdd, Nat.reduceLeDiff, true_and, Bool.not_true, Bool.not_false, if_true, if_false, Bool.false_eq_true, Bool.not_eq_true', decide_eq_false_iff_not, Int.reduceLE, Int.reduceLT, Int.reduceNeg, Int.reduceSub, Int.reduceAdd, and_true, PyData.int.injEq, Nat.zero_add, Int.zero_add, Int.sub_zero, addW_ii, addW_ib, addW_bi, addW_tt, addW_ll, subW_ii, subW_ib, subW_bi, mulW_ii, fdivW_ii, modW_ii, negW_i, eqW_ii, eqW_ss, eqW_t0, eqW_l0, neW_ii, neW_ss, neW_t0, neW_l0, ltW_ii, leW_ii, gtW_ii, geW_ii, isW_n, isntW_n, ixW_l, ixW_t, lenW_l, lenW_t, absW_i, intW_i, intW_b, tupW_l, tupW_t, lstW_l, lstW_t, sumW_l, allW_l, anyW_l, minW_2, maxW_2, slW_t, slW_l, revW_t, revW_l, reprW_1, strW_i, strW_b, sortW_l, sortW_t, Option.some.injEq, exists_eq_left', exists_eq_left, dKey, exists_and_left, exists_const]
  refine pick_int [0 - sp / 2, 1000000 - sp, -1000000, 0 - r] rfl r0' (by simpa using r1') fun lo hlo => ?_
  have hl : -1000000 ≤ lo ∧ lo + sp ≤ 1000000 := by simp at hlo; omega
  clear hlo r0 r1 r0' r1'
  simp only [S_l_garden_6, mV_e, mC_e, mO_e, mOp_e, mUn_e, mT_e, mNotT_e, mAndT_e, mOrT_e, mAnd_e, mOr_e, mNot_e, mIf_e, mChain_e, mNil_e, mCons_e, mTup_e, mLst_e, mLk_e, mCat_e, mCB_e, mCL_e, vD_e, vL_e, vM0_e, mSkip_e, mSeq_e, mAsg_e, mRet_e, mIfS_e, mDrop_e, vNil_e, vCons_e, mPar_e, bName_e, bTup_e, bNil_e, bCons_e, mUnp_e, mFor_e, mForR_e, mForR2_e, mApp_e, mYes_e, mLc_e, mLcR_e, mLcR2_e, mLcZ_e, gNo_e, gE_e, gO_e, mCall_e, mFn_e, mIsi_e, mSS_e, mNo_e, mPt_e, mSl_e, mDG_e, mDGd_e, mDIn_e, mPut_e, mSD_e, mRetO_e, vDof_e, mForZ_e, wipeE, pow6, pow7, pow9, pow15, pow18, pow39, asM, List.replicate, List.cons_append, List.nil_append, List.getElem?_cons_zero, List.getElem?_cons_succ, enAll, List.set_cons_zero, List.set_cons_succ, Nat.reduceSub, List.length_cons, List.length_nil, decide_eq_true_eq, Nat.reduceAdd, Nat.reduceLeDiff, true_and, Bool.not_true, Bool.not_false, if_true, if_false, Bool.false_eq_true, Bool.not_eq_true', decide_eq_false_iff_not, Int.reduceLE, Int.reduceLT, Int.reduceNeg, Int.reduceSub, Int.reduceAdd, and_true, PyData.int.injEq, Nat.zero_add, Int.zero_add, Int.sub_zero, addW_ii, addW_ib, addW_bi, addW_tt, addW_ll, subW_ii, subW_ib, subW_bi, mulW_ii, fdivW_ii, modW_ii, negW_i, eqW_ii, eqW_ss, eqW_t0, eqW_l0, neW_ii, neW_ss, neW_t0, neW_l0, ltW_ii, leW_ii, gtW_ii, geW_ii, isW_n, isntW_n, ixW_l, ixW_t, lenW_l, lenW_t, absW_i, intW_i, intW_b, tupW_l, tupW_t, lstW_l, lstW_t, sumW_l, allW_l, anyW_l, minW_2, maxW_2, slW_t, slW_l, revW_t, revW_l, reprW_1, strW_i, strW_b, sortW_l, sortW_t, Option.some.injEq, exists_eq_left', exists_eq_left, dKey, exists_and_left, exists_const]
  refine mDraw_at (by omega) (by omega) (by omega) fun r r0 r1 => ?_
  simp only [mV_e, mC_e, mO_e, mOp_e, mUn_e, mT_e, mNotT_e, mAndT_e, mOrT_e, mAnd_e, mOr_e, mNot_e, mIf_e, mChain_e, mNil_e, mCons_e, mTup_e, mLst_e, mLk_e, mCat_e, mCB_e, mCL_e, vD_e, vL_e, vM0_e, mSkip_e, mSeq_e, mAsg_e, mRet_e, mIfS_e, mDrop_e, vNil_e, vCons_e, mPar_e, bName_e, bTup_e, bNil_e, bCons_e, mUnp_e, mFor_e, mForR_e, mForR2_e, mApp_e, mYes_e, mLc_e, mLcR_e, mLcR2_e, mLcZ_e, gNo_e, gE_e, gO_e, mCall_e, mFn_e, mIsi_e, mSS_e, mNo_e, mPt_e, mSl_e, mDG_e, mDGd_e, mDIn_e, mPut_e, mSD_e, mRetO_e, vDof_e, mForZ_e, wipeE, pow6, pow7, pow9, pow15, pow18, pow39, asM, List.replicate, List.cons_append, List.nil_append, List.getElem?_cons_zero, List.getElem?_cons_succ, enAll, List.set_cons_zero, List.set_cons_succ, Nat.reduceSub, List.length_cons, List.length_nil, decide_eq_true_eq, Nat.reduceAdd, Nat.reduceLeDiff, true_and, Bool.not_true, Bool.not_false, if_true, if_false, Bool.false_eq_true, Bool.not_eq_true', decide_eq_false_iff_not, Int.reduceLE, Int.reduceLT, Int.reduceNeg, Int.reduceSub, Int.reduceAdd, and_true, PyData.int.injEq, Nat.zero_add, Int.zero_add, Int.sub_zero, addW_ii, addW_ib, addW_bi, addW_tt, addW_ll, subW_ii, subW_ib, subW_bi, mulW_ii, fdivW_ii, modW_ii, negW_i, eqW_ii, eqW_ss, eqW_t0, eqW_l0, neW_ii, neW_ss, neW_t0, neW_l0, ltW_ii, leW_ii, gtW_ii, geW_ii, isW_n, isntW_n, ixW_l, ixW_t, lenW_l, lenW_t, absW_i, intW_i, intW_b, tupW_l, tupW_t, lstW_l, lstW_t, sumW_l, allW_l, anyW_l, minW_2, maxW_2, slW_t, slW_l, revW_t, revW_l, reprW_1, strW_i, strW_b, sortW_l, sortW_t, Option.some.injEq, exists_eq_left', exists_eq_left, dKey, exists_and_left, exists_const]
  refine pick_int [3, 12, top] rfl r0 (by simpa using r1) fun bd hbd => ?_
  have hbo : 1 ≤ bd ∧ bd ≤ 1000000000 ∧ (bd ≤ 12 ∨ bd ≤ top) := by simp at hbd; omega
  clear hbd r0 r1
  simp only [S_l_garden_5, mV_e, mC_e, mO_e, mOp_e, mUn_e, mT_e, mNotT_e, mAndT_e, mOrT_e, mAnd_e, mOr_e, mNot_e, mIf_e, mChain_e, mNil_e, mCons_e, mTup_e, mLst_e, mLk_e, mCat_e, mCB_e, mCL_e, vD_e, vL_e, vM0_e, mSkip_e, mSeq_e, mAsg_e, mRet_e, mIfS_e, mDrop_e, vNil_e, vCons_e, mPar_e, bName_e, bTup_e, bNil_e, bCons_e, mUnp_e, mFor_e, mForR_e, mForR2_e, mApp_e, mYes_e, mLc_e, mLcR_e, mLcR2_e, mLcZ_e, gNo_e, gE_e, gO_e, mCall_e, mFn_e, mIsi_e, mSS_e, mNo_e, mPt_e, mSl_e, mDG_e, mDGd_e, mDIn_e, mPut_e, mSD_e, mRetO_e, vDof_e, mForZ_e, wipeE, pow6, pow7, pow9, pow15, pow18, pow39, asM, List.replicate, List.cons_append, List.nil_append, List.getElem?_cons_zero, List.getElem?_cons_succ, enAll, List.set_cons_zero, List.set_cons_succ, Nat.reduceSub, List.length_cons, List.length_nil, decide_eq_true_eq, Nat.reduceAdd, Nat.reduceLeDiff, true_and, Bool.not_true, Bool.not_false, if_true, if_false, Bool.false_eq_true, Bool.not_eq_true', decide_eq_false_iff_not, Int.reduceLE, Int.reduceLT, Int.reduceNeg, Int.reduceSub, Int.reduceAdd, and_true, PyData.int.injEq, Nat.zero_add, Int.zero_add, Int.sub_zero, addW_ii, addW_ib, addW_bi, addW_tt, addW_ll, subW_ii, subW_ib, subW_bi, mulW_ii, fdivW_ii, modW_ii, negW_i, eqW_ii, eqW_ss, eqW_t0, eqW_l0, neW_ii, neW_ss, neW_t0, neW_l0, ltW_ii, leW_ii, gtW_ii, geW_ii, isW_n, isntW_n, ixW_l, ixW_t, lenW_l, lenW_t, absW_i, intW_i, intW_b, tupW_l, tupW_t, lstW_l, lstW_t, sumW_l, allW_l, anyW_l, minW_2, maxW_2, slW_t, slW_l, revW_t, revW_l, reprW_1, strW_i, strW_b, sortW_l, sortW_t, Option.some.injEq, exists_eq_left', exists_eq_left, dKey, exists_and_left, exists_const]
  have p62 : (2 : Int) ^ 62 = 4611686018427387904 := by decide
  refine ⟨by omega, ?_⟩
  refine comp_each (fun y => ∃ i, y = .int i ∧ lo ≤ i ∧ i < lo + sp) 1 _ _ _ _ (fun x hx b' Q hb' k => ?_) (by simp [rngD_len]; omega) fun ys b2 hl2 hp hb2 => ?_
  · simp only [rngD_len] at hb'
    simp only [mV_e, mC_e, mO_e, mOp_e, mUn_e, mT_e, mNotT_e, mAndT_e, mOrT_e, mAnd_e, mOr_e, mNot_e, mIf_e, mChain_e, mNil_e, mCons_e, mTup_e, mLst_e, mLk_e, mCat_e, mCB_e, mCL_e, vD_e, vL_e, vM0_e, mSkip_e, mSeq_e, mAsg_e, mRet_e, mIfS_e, mDrop_e, vNil_e, vCons_e, mPar_e, bName_e, bTup_e, bNil_e, bCons_e, mUnp_e, mFor_e, mForR_e, mForR2_e, mApp_e, mYes_e, mLc_e, mLcR_e, mLcR2_e, mLcZ_e, gNo_e, gE_e, gO_e, mCall_e, mFn_e, mIsi_e, mSS_e, mNo_e, mPt_e, mSl_e, mDG_e, mDGd_e, mDIn_e, mPut_e, mSD_e, mRetO_e, vDof_e, mForZ_e, wipeE, pow6, pow7, pow9, pow15, pow18, pow39, asM, List.replicate, List.cons_append, List.nil_append, List.getElem?_cons_zero, List.getElem?_cons_succ, enAll, List.set_cons_zero, List.set_cons_succ, Nat.reduceSub, List.length_cons, List.length_nil, decide_eq_true_eq, Nat.reduceAdd, Nat.reduceLeDiff, true_and, Bool.not_true, Bool.not_false, if_true, if_false, Bool.false_eq_true, Bool.not_eq_true', decide_eq_false_iff_not, Int.reduceLE, Int.reduceLT, Int.reduceNeg, Int.reduceSub, Int.reduceAdd, and_true, PyData.int.injEq, Nat.zero_add, Int.zero_add, Int.sub_zero, addW_ii, addW_ib, addW_bi, addW_tt, addW_ll, subW_ii, subW_ib, subW_bi, mulW_ii, fdivW_ii, modW_ii, negW_i, eqW_ii, eqW_ss, eqW_t0, eqW_l0, neW_ii, neW_ss, neW_t0, neW_l0, ltW_ii, leW_ii, gtW_ii, geW_ii, isW_n, isntW_n, ixW_l, ixW_t, lenW_l, lenW_t, absW_i, intW_i, intW_b, tupW_l, tupW_t, lstW_l, lstW_t, sumW_l, allW_l, anyW_l, minW_2, maxW_2, slW_t, slW_l, revW_t, revW_l, reprW_1, strW_i, strW_b, sortW_l, sortW_t, Option.some.injEq, exists_eq_left', exists_eq_left, dKey, exists_and_left, exists_const]
    refine mDraw_at (by omega) (by omega) (by omega) fun r r0 r1 => ?_
    simp only [mV_e, mC_e, mO_e, mOp_e, mUn_e, mT_e, mNotT_e, mAndT_e, mOrT_e, mAnd_e, mOr_e, mNot_e, mIf_e, mChain_e, mNil_e, mCons_e, mTup_e, mLst_e, mLk_e, mCat_e, mCB_e, mCL_e, vD_e, vL_e, vM0_e, mSkip_e, mSeq_e, mAsg_e, mRet_e, mIfS_e, mDrop_e, vNil_e, vCons_e, mPar_e, bName_e, bTup_e, bNil_e, bCons_e, mUnp_e, mFor_e, mForR_e, mForR2_e, mApp_e, mYes_e, mLc_e, mLcR_e, mLcR2_e, mLcZ_e, gNo_e, gE_e, gO_e, mCall_e, mFn_e, mIsi_e, mSS_e, mNo_e, mPt_e, mSl_e, mDG_e, mDGd_e, mDIn_e, mPut_e, mSD_e, mRetO_e, vDof_e, mForZ_e, wipeE, pow6, pow7, pow9, pow15, pow18, pow39, asM, List.replicate, List.cons_append, List.nil_append, List.getElem?_cons_zero, List.getElem?_cons_succ, enAll, List.set_cons_zero, List.set_cons_succ, Nat.reduceSub, List.length_cons, List.length_nil, decide_eq_true_eq, Nat.reduceAdd, Nat.reduceLeDiff, true_and, Bool.not_true, Bool.not_false, if_true, if_false, Bool.false_eq_true, Bool.not_eq_true', decide_eq_false_iff_not, Int.reduceLE, Int.reduceLT, Int.reduceNeg, Int.reduceSub, Int.reduceAdd, and_true, PyData.int.injEq, Nat.zero_add, Int.zero_add, Int.sub_zero, addW_ii, addW_ib, addW_bi, addW_tt, addW_ll, subW_ii, subW_ib, subW_bi, mulW_ii, fdivW_ii, modW_ii, negW_i, eqW_ii, eqW_ss, eqW_t0, eqW_l0, neW_ii, neW_ss, neW_t0, neW_l0, ltW_ii, leW_ii, gtW_ii, geW_ii, isW_n, isntW_n, ixW_l, ixW_t, lenW_l, lenW_t, absW_i, intW_i, intW_b, tupW_l, tupW_t, lstW_l, lstW_t, sumW_l, allW_l, anyW_l, minW_2, maxW_2, slW_t, slW_l, revW_t, revW_l, reprW_1, strW_i, strW_b, sortW_l, sortW_t, Option.some.injEq, exists_eq_left', exists_eq_left, dKey, exists_and_left, exists_const]
    exact k _ _ ⟨_, rfl, by omega, by omega⟩ (by omega)
  rw [rngD_len] at hl2 hb2
  obtain ⟨ns, rfl, hn⟩ := ints_of hp
  rw [List.length_map] at hl2
  refine ⟨ns, by simp, by omega, ?_⟩
  have sl := Cn.len_sortU ns
  refine garden_loop (acc := []) hbo.1 hbo.2.1 (Cn.sortU ns) _ b2 (by omega) (by simp; omega) fun bs b3 pl e1 e2 e3 => ?_
  have lb : bs.length = (Cn.sortU ns).length := by rw [← e1, List.length_map]
  simp only [S_l_garden_3, mV_e, mC_e, mO_e, mOp_e, mUn_e, mT_e, mNotT_e, mAndT_e, mOrT_e, mAnd_e, mOr_e, mNot_e, mIf_e, mChain_e, mNil_e, mCons_e, mTup_e, mLst_e, mLk_e, mCat_e, mCB_e, mCL_e, vD_e, vL_e, vM0_e, mSkip_e, mSeq_e, mAsg_e, mRet_e, mIfS_e, mDrop_e, vNil_e, vCons_e, mPar_e, bName_e, bTup_e, bNil_e, bCons_e, mUnp_e, mFor_e, mForR_e, mForR2_e, mApp_e, mYes_e, mLc_e, mLcR_e, mLcR2_e, mLcZ_e, gNo_e, gE_e, gO_e, mCall_e, mFn_e, mIsi_e, mSS_e, mNo_e, mPt_e, mSl_e, mDG_e, mDGd_e, mDIn_e, mPut_e, mSD_e, mRetO_e, vDof_e, mForZ_e, wipeE, pow6, pow7, pow9, pow15, pow18, pow39, asM, List.replicate, List.cons_append, List.nil_append, List.getElem?_cons_zero, List.getElem?_cons_succ, enAll, List.set_cons_zero, List.set_cons_succ, Nat.reduceSub, List.length_cons, List.length_nil, decide_eq_true_eq, Nat.reduceAdd, Nat.reduceLeDiff, true_and, Bool.not_true, Bool.not_false, if_true, if_false, Bool.false_eq_true, Bool.not_eq_true', decide_eq_false_iff_not, Int.reduceLE, Int.reduceLT, Int.reduceNeg, Int.reduceSub, Int.reduceAdd, and_true, PyData.int.injEq, Nat.zero_add, Int.zero_add, Int.sub_zero, addW_ii, addW_ib, addW_bi, addW_tt, addW_ll, subW_ii, subW_ib, subW_bi, mulW_ii, fdivW_ii, modW_ii, negW_i, eqW_ii, eqW_ss, eqW_t0, eqW_l0, neW_ii, neW_ss, neW_t0, neW_l0, ltW_ii, leW_ii, gtW_ii, geW_ii, isW_n, isntW_n, ixW_l, ixW_t, lenW_l, lenW_t, absW_i, intW_i, intW_b, tupW_l, tupW_t, lstW_l, lstW_t, sumW_l, allW_l, anyW_l, minW_2, maxW_2, slW_t, slW_l, revW_t, revW_l, reprW_1, strW_i, strW_b, sortW_l, sortW_t, Option.some.injEq, exists_eq_left', exists_eq_left, dKey, exists_and_left, exists_const]
  refine mDraw_at (by omega) (by omega) (by omega) fun r r0 r1 => ?_
  simp only [mV_e, mC_e, mO_e, mOp_e, mUn_e, mT_e, mNotT_e, mAndT_e, mOrT_e, mAnd_e, mOr_e, mNot_e, mIf_e, mChain_e, mNil_e, mCons_e, mTup_e, mLst_e, mLk_e, mCat_e, mCB_e, mCL_e, vD_e, vL_e, vM0_e, mSkip_e, mSeq_e, mAsg_e, mRet_e, mIfS_e, mDrop_e, vNil_e, vCons_e, mPar_e, bName_e, bTup_e, bNil_e, bCons_e, mUnp_e, mFor_e, mForR_e, mForR2_e, mApp_e, mYes_e, mLc_e, mLcR_e, mLcR2_e, mLcZ_e, gNo_e, gE_e, gO_e, mCall_e, mFn_e, mIsi_e, mSS_e, mNo_e, mPt_e, mSl_e, mDG_e, mDGd_e, mDIn_e, mPut_e, mSD_e, mRetO_e, vDof_e, mForZ_e, wipeE, pow6, pow7, pow9, pow15, pow18, pow39, asM, List.replicate, List.cons_append, List.nil_append, List.getElem?_cons_zero, List.getElem?_cons_succ, enAll, List.set_cons_zero, List.set_cons_succ, Nat.reduceSub, List.length_cons, List.length_nil, decide_eq_true_eq, Nat.reduceAdd, Nat.reduceLeDiff, true_and, Bool.not_true, Bool.not_false, if_true, if_false, Bool.false_eq_true, Bool.not_eq_true', decide_eq_false_iff_not, Int.reduceLE, Int.reduceLT, Int.reduceNeg, Int.reduceSub, Int.reduceAdd, and_true, PyData.int.injEq, Nat.zero_add, Int.zero_add, Int.sub_zero, addW_ii, addW_ib, addW_bi, addW_tt, addW_ll, subW_ii, subW_ib, subW_bi, mulW_ii, fdivW_ii, modW_ii, negW_i, eqW_ii, eqW_ss, eqW_t0, eqW_l0, neW_ii, neW_ss, neW_t0, neW_l0, ltW_ii, leW_ii, gtW_ii, geW_ii, isW_n, isntW_n, ixW_l, ixW_t, lenW_l, lenW_t, absW_i, intW_i, intW_b, tupW_l, tupW_t, lstW_l, lstW_t, sumW_l, allW_l, anyW_l, minW_2, maxW_2, slW_t, slW_l, revW_t, revW_l, reprW_1, strW_i, strW_b, sortW_l, sortW_t, Option.some.injEq, exists_eq_left', exists_eq_left, dKey, exists_and_left, exists_const]
  refine mDraw_at (by omega) (by omega) (by omega) fun r' r0' r1' => ?_
  simp only [mV_e, mC_e, mO_e, mOp_e, mUn_e, mT_e, mNotT_e, mAndT_e, mOrT_e, mAnd_e, mOr_e, mNot_e, mIf_e, mChain_e, mNil_e, mCons_e, mTup_e, mLst_e, mLk_e, mCat_e, mCB_e, mCL_e, vD_e, vL_e, vM0_e, mSkip_e, mSeq_e, mAsg_e, mRet_e, mIfS_e, mDrop_e, vNil_e, vCons_e, mPar_e, bName_e, bTup_e, bNil_e, bCons_e, mUnp_e, mFor_e, mForR_e, mForR2_e, mApp_e, mYes_e, mLc_e, mLcR_e, mLcR2_e, mLcZ_e, gNo_e, gE_e, gO_e, mCall_e, mFn_e, mIsi_e, mSS_e, mNo_e, mPt_e, mSl_e, mDG_e, mDGd_e, mDIn_e, mPut_e, mSD_e, mRetO_e, vDof_e, mForZ_e, wipeE, pow6, pow7, pow9, pow15, pow18, pow39, asM, List.replicate, List.cons_append, List.nil_append, List.getElem?_cons_zero, List.getElem?_cons_succ, enAll, List.set_cons_zero, List.set_cons_succ, Nat.reduceSub, List.length_cons, List.length_nil, decide_eq_true_eq, Nat.reduceAdd, Nat.reduceLeDiff, true_and, Bool.not_true, Bool.not_false, if_true, if_false, Bool.false_eq_true, Bool.not_eq_true', decide_eq_false_iff_not, Int.reduceLE, Int.reduceLT, Int.reduceNeg, Int.reduceSub, Int.reduceAdd, and_true, PyData.int.injEq, Nat.zero_add, Int.zero_add, Int.sub_zero, addW_ii, addW_ib, addW_bi, addW_tt, addW_ll, subW_ii, subW_ib, subW_bi, mulW_ii, fdivW_ii, modW_ii, negW_i, eqW_ii, eqW_ss, eqW_t0, eqW_l0, neW_ii, neW_ss, neW_t0, neW_l0, ltW_ii, leW_ii, gtW_ii, geW_ii, isW_n, isntW_n, ixW_l, ixW_t, lenW_l, lenW_t, absW_i, intW_i, intW_b, tupW_l, tupW_t, lstW_l, lstW_t, sumW_l, allW_l, anyW_l, minW_2, maxW_2, slW_t, slW_l, revW_t, revW_l, reprW_1, strW_i, strW_b, sortW_l, sortW_t, Option.some.injEq, exists_eq_left', exists_eq_left, dKey, exists_and_left, exists_const]
  refine mDraw_at (by omega) (by omega) (by omega) fun r'' r0'' r1'' => ?_
  simp only [mV_e, mC_e, mO_e, mOp_e, mUn_e, mT_e, mNotT_e, mAndT_e, mOrT_e, mAnd_e, mOr_e, mNot_e, mIf_e, mChain_e, mNil_e, mCons_e, mTup_e, mLst_e, mLk_e, mCat_e, mCB_e, mCL_e, vD_e, vL_e, vM0_e, mSkip_e, mSeq_e, mAsg_e, mRet_e, mIfS_e, mDrop_e, vNil_e, vCons_e, mPar_e, bName_e, bTup_e, bNil_e, bCons_e, mUnp_e, mFor_e, mForR_e, mForR2_e, mApp_e, mYes_e, mLc_e, mLcR_e, mLcR2_e, mLcZ_e, gNo_e, gE_e, gO_e, mCall_e, mFn_e, mIsi_e, mSS_e, mNo_e, mPt_e, mSl_e, mDG_e, mDGd_e, mDIn_e, mPut_e, mSD_e, mRetO_e, vDof_e, mForZ_e, wipeE, pow6, pow7, pow9, pow15, pow18, pow39, asM, List.replicate, List.cons_append, List.nil_append, List.getElem?_cons_zero, List.getElem?_cons_succ, enAll, List.set_cons_zero, List.set_cons_succ, Nat.reduceSub, List.length_cons, List.length_nil, decide_eq_true_eq, Nat.reduceAdd, Nat.reduceLeDiff, true_and, Bool.not_true, Bool.not_false, if_true, if_false, Bool.false_eq_true, Bool.not_eq_true', decide_eq_false_iff_not, Int.reduceLE, Int.reduceLT, Int.reduceNeg, Int.reduceSub, Int.reduceAdd, and_true, PyData.int.injEq, Nat.zero_add, Int.zero_add, Int.sub_zero, addW_ii, addW_ib, addW_bi, addW_tt, addW_ll, subW_ii, subW_ib, subW_bi, mulW_ii, fdivW_ii, modW_ii, negW_i, eqW_ii, eqW_ss, eqW_t0, eqW_l0, neW_ii, neW_ss, neW_t0, neW_l0, ltW_ii, leW_ii, gtW_ii, geW_ii, isW_n, isntW_n, ixW_l, ixW_t, lenW_l, lenW_t, absW_i, intW_i, intW_b, tupW_l, tupW_t, lstW_l, lstW_t, sumW_l, allW_l, anyW_l, minW_2, maxW_2, slW_t, slW_l, revW_t, revW_l, reprW_1, strW_i, strW_b, sortW_l, sortW_t, Option.some.injEq, exists_eq_left', exists_eq_left, dKey, exists_and_left, exists_const]
  refine mDraw_at (by omega) (by omega) (by omega) fun w w0 w1 => ?_
  simp only [mV_e, mC_e, mO_e, mOp_e, mUn_e, mT_e, mNotT_e, mAndT_e, mOrT_e, mAnd_e, mOr_e, mNot_e, mIf_e, mChain_e, mNil_e, mCons_e, mTup_e, mLst_e, mLk_e, mCat_e, mCB_e, mCL_e, vD_e, vL_e, vM0_e, mSkip_e, mSeq_e, mAsg_e, mRet_e, mIfS_e, mDrop_e, vNil_e, vCons_e, mPar_e, bName_e, bTup_e, bNil_e, bCons_e, mUnp_e, mFor_e, mForR_e, mForR2_e, mApp_e, mYes_e, mLc_e, mLcR_e, mLcR2_e, mLcZ_e, gNo_e, gE_e, gO_e, mCall_e, mFn_e, mIsi_e, mSS_e, mNo_e, mPt_e, mSl_e, mDG_e, mDGd_e, mDIn_e, mPut_e, mSD_e, mRetO_e, vDof_e, mForZ_e, wipeE, pow6, pow7, pow9, pow15, pow18, pow39, asM, List.replicate, List.cons_append, List.nil_append, List.getElem?_cons_zero, List.getElem?_cons_succ, enAll, List.set_cons_zero, List.set_cons_succ, Nat.reduceSub, List.length_cons, List.length_nil, decide_eq_true_eq, Nat.reduceAdd, Nat.reduceLeDiff, true_and, Bool.not_true, Bool.not_false, if_true, if_false, Bool.false_eq_true, Bool.not_eq_true', decide_eq_false_iff_not, Int.reduceLE, Int.reduceLT, Int.reduceNeg, Int.reduceSub, Int.reduceAdd, and_true, PyData.int.injEq, Nat.zero_add, Int.zero_add, Int.sub_zero, addW_ii, addW_ib, addW_bi, addW_tt, addW_ll, subW_ii, subW_ib, subW_bi, mulW_ii, fdivW_ii, modW_ii, negW_i, eqW_ii, eqW_ss, eqW_t0, eqW_l0, neW_ii, neW_ss, neW_t0, neW_l0, ltW_ii, leW_ii, gtW_ii, geW_ii, isW_n, isntW_n, ixW_l, ixW_t, lenW_l, lenW_t, absW_i, intW_i, intW_b, tupW_l, tupW_t, lstW_l, lstW_t, sumW_l, allW_l, anyW_l, minW_2, maxW_2, slW_t, slW_l, revW_t, revW_l, reprW_1, strW_i, strW_b, sortW_l, sortW_t, Option.some.injEq, exists_eq_left', exists_eq_left, dKey, exists_and_left, exists_const]
  refine pick_int [1, 1 + r, 1 + r', 1 + r''] rfl w0 (by simpa using w1) fun c hc' => ?_
  have hcan : 1 ≤ c ∧ c ≤ 1000000 := by simp at hc'; omega
  clear hc' r0 r1 r0' r1' r0'' r1'' w0 w1
  simp only [S_l_garden_2, mV_e, mC_e, mO_e, mOp_e, mUn_e, mT_e, mNotT_e, mAndT_e, mOrT_e, mAnd_e, mOr_e, mNot_e, mIf_e, mChain_e, mNil_e, mCons_e, mTup_e, mLst_e, mLk_e, mCat_e, mCB_e, mCL_e, vD_e, vL_e, vM0_e, mSkip_e, mSeq_e, mAsg_e, mRet_e, mIfS_e, mDrop_e, vNil_e, vCons_e, mPar_e, bName_e, bTup_e, bNil_e, bCons_e, mUnp_e, mFor_e, mForR_e, mForR2_e, mApp_e, mYes_e, mLc_e, mLcR_e, mLcR2_e, mLcZ_e, gNo_e, gE_e, gO_e, mCall_e, mFn_e, mIsi_e, mSS_e, mNo_e, mPt_e, mSl_e, mDG_e, mDGd_e, mDIn_e, mPut_e, mSD_e, mRetO_e, vDof_e, mForZ_e, wipeE, pow6, pow7, pow9, pow15, pow18, pow39, asM, List.replicate, List.cons_append, List.nil_append, List.getElem?_cons_zero, List.getElem?_cons_succ, enAll, List.set_cons_zero, List.set_cons_succ, Nat.reduceSub, List.length_cons, List.length_nil, decide_eq_true_eq, Nat.reduceAdd, Nat.reduceLeDiff, true_and, Bool.not_true, Bool.not_false, if_true, if_false, Bool.false_eq_true, Bool.not_eq_true', decide_eq_false_iff_not, Int.reduceLE, Int.reduceLT, Int.reduceNeg, Int.reduceSub, Int.reduceAdd, and_true, PyData.int.injEq, Nat.zero_add, Int.zero_add, Int.sub_zero, addW_ii, addW_ib, addW_bi, addW_tt, addW_ll, subW_ii, subW_ib, subW_bi, mulW_ii, fdivW_ii, modW_ii, negW_i, eqW_ii, eqW_ss, eqW_t0, eqW_l0, neW_ii, neW_ss, neW_t0, neW_l0, ltW_ii, leW_ii, gtW_ii, geW_ii, isW_n, isntW_n, ixW_l, ixW_t, lenW_l, lenW_t, absW_i, intW_i, intW_b, tupW_l, tupW_t, lstW_l, lstW_t, sumW_l, allW_l, anyW_l, minW_2, maxW_2, slW_t, slW_l, revW_t, revW_l, reprW_1, strW_i, strW_b, sortW_l, sortW_t, Option.some.injEq, exists_eq_left', exists_eq_left, dKey, exists_and_left, exists_const]
  refine mDraw_at (by omega) (by omega) (by omega) fun r r0 r1 => ?_
  simp only [mV_e, mC_e, mO_e, mOp_e, mUn_e, mT_e, mNotT_e, mAndT_e, mOrT_e, mAnd_e, mOr_e, mNot_e, mIf_e, mChain_e, mNil_e, mCons_e, mTup_e, mLst_e, mLk_e, mCat_e, mCB_e, mCL_e, vD_e, vL_e, vM0_e, mSkip_e, mSeq_e, mAsg_e, mRet_e, mIfS_e, mDrop_e, vNil_e, vCons_e, mPar_e, bName_e, bTup_e, bNil_e, bCons_e, mUnp_e, mFor_e, mForR_e, mForR2_e, mApp_e, mYes_e, mLc_e, mLcR_e, mLcR2_e, mLcZ_e, gNo_e, gE_e, gO_e, mCall_e, mFn_e, mIsi_e, mSS_e, mNo_e, mPt_e, mSl_e, mDG_e, mDGd_e, mDIn_e, mPut_e, mSD_e, mRetO_e, vDof_e, mForZ_e, wipeE, pow6, pow7, pow9, pow15, pow18, pow39, asM, List.replicate, List.cons_append, List.nil_append, List.getElem?_cons_zero, List.getElem?_cons_succ, enAll, List.set_cons_zero, List.set_cons_succ, Nat.reduceSub, List.length_cons, List.length_nil, decide_eq_true_eq, Nat.reduceAdd, Nat.reduceLeDiff, true_and, Bool.not_true, Bool.not_false, if_true, if_false, Bool.false_eq_true, Bool.not_eq_true', decide_eq_false_iff_not, Int.reduceLE, Int.reduceLT, Int.reduceNeg, Int.reduceSub, Int.reduceAdd, and_true, PyData.int.injEq, Nat.zero_add, Int.zero_add, Int.sub_zero, addW_ii, addW_ib, addW_bi, addW_tt, addW_ll, subW_ii, subW_ib, subW_bi, mulW_ii, fdivW_ii, modW_ii, negW_i, eqW_ii, eqW_ss, eqW_t0, eqW_l0, neW_ii, neW_ss, neW_t0, neW_l0, ltW_ii, leW_ii, gtW_ii, geW_ii, isW_n, isntW_n, ixW_l, ixW_t, lenW_l, lenW_t, absW_i, intW_i, intW_b, tupW_l, tupW_t, lstW_l, lstW_t, sumW_l, allW_l, anyW_l, minW_2, maxW_2, slW_t, slW_l, revW_t, revW_l, reprW_1, strW_i, strW_b, sortW_l, sortW_t, Option.some.injEq, exists_eq_left', exists_eq_left, dKey, exists_and_left, exists_const]
  refine comp_map fstD _ _ _ _ (fun x hx Q hq => ?_) (by simp; omega) ?_
  · obtain ⟨z, hz, rfl⟩ := List.mem_map.mp hx
    simp only [bedD, mV_e, mC_e, mO_e, mOp_e, mUn_e, mT_e, mNotT_e, mAndT_e, mOrT_e, mAnd_e, mOr_e, mNot_e, mIf_e, mChain_e, mNil_e, mCons_e, mTup_e, mLst_e, mLk_e, mCat_e, mCB_e, mCL_e, vD_e, vL_e, vM0_e, mSkip_e, mSeq_e, mAsg_e, mRet_e, mIfS_e, mDrop_e, vNil_e, vCons_e, mPar_e, bName_e, bTup_e, bNil_e, bCons_e, mUnp_e, mFor_e, mForR_e, mForR2_e, mApp_e, mYes_e, mLc_e, mLcR_e, mLcR2_e, mLcZ_e, gNo_e, gE_e, gO_e, mCall_e, mFn_e, mIsi_e, mSS_e, mNo_e, mPt_e, mSl_e, mDG_e, mDGd_e, mDIn_e, mPut_e, mSD_e, mRetO_e, vDof_e, mForZ_e, wipeE, pow6, pow7, pow9, pow15, pow18, pow39, asM, List.replicate, List.cons_append, List.nil_append, List.getElem?_cons_zero, List.getElem?_cons_succ, enAll, List.set_cons_zero, List.set_cons_succ, Nat.reduceSub, List.length_cons, List.length_nil, decide_eq_true_eq, Nat.reduceAdd, Nat.reduceLeDiff, true_and, Bool.not_true, Bool.not_false, if_true, if_false, Bool.false_eq_true, Bool.not_eq_true', decide_eq_false_iff_not, Int.reduceLE, Int.reduceLT, Int.reduceNeg, Int.reduceSub, Int.reduceAdd, and_true, PyData.int.injEq, Nat.zero_add, Int.zero_add, Int.sub_zero, addW_ii, addW_ib, addW_bi, addW_tt, addW_ll, subW_ii, subW_ib, subW_bi, mulW_ii, fdivW_ii, modW_ii, negW_i, eqW_ii, eqW_ss, eqW_t0, eqW_l0, neW_ii, neW_ss, neW_t0, neW_l0, ltW_ii, leW_ii, gtW_ii, geW_ii, isW_n, isntW_n, ixW_l, ixW_t, lenW_l, lenW_t, absW_i, intW_i, intW_b, tupW_l, tupW_t, lstW_l, lstW_t, sumW_l, allW_l, anyW_l, minW_2, maxW_2, slW_t, slW_l, revW_t, revW_l, reprW_1, strW_i, strW_b, sortW_l, sortW_t, Option.some.injEq, exists_eq_left', exists_eq_left, dKey, exists_and_left, exists_const]
    exact hq
  have mem : ∀ z ∈ bs, lo ≤ z.1 ∧ z.1 < lo + sp := fun z hz => hn z.1 (Cn.mem_sortU.mp (by rw [← e1]; exact List.mem_map_of_mem hz))
  have em : (bs.map bedD).map fstD = (bs.map (·.1)).map PyData.int := by simp [bedD, fstD, Function.comp_def]
  rw [List.nil_append, em]
  refine ⟨by simp; omega, ?_⟩
  simp only [S_l_garden_1, mV_e, mC_e, mO_e, mOp_e, mUn_e, mT_e, mNotT_e, mAndT_e, mOrT_e, mAnd_e, mOr_e, mNot_e, mIf_e, mChain_e, mNil_e, mCons_e, mTup_e, mLst_e, mLk_e, mCat_e, mCB_e, mCL_e, vD_e, vL_e, vM0_e, mSkip_e, mSeq_e, mAsg_e, mRet_e, mIfS_e, mDrop_e, vNil_e, vCons_e, mPar_e, bName_e, bTup_e, bNil_e, bCons_e, mUnp_e, mFor_e, mForR_e, mForR2_e, mApp_e, mYes_e, mLc_e, mLcR_e, mLcR2_e, mLcZ_e, gNo_e, gE_e, gO_e, mCall_e, mFn_e, mIsi_e, mSS_e, mNo_e, mPt_e, mSl_e, mDG_e, mDGd_e, mDIn_e, mPut_e, mSD_e, mRetO_e, vDof_e, mForZ_e, wipeE, pow6, pow7, pow9, pow15, pow18, pow39, asM, List.replicate, List.cons_append, List.nil_append, List.getElem?_cons_zero, List.getElem?_cons_succ, enAll, List.set_cons_zero, List.set_cons_succ, Nat.reduceSub, List.length_cons, List.length_nil, decide_eq_true_eq, Nat.reduceAdd, Nat.reduceLeDiff, true_and, Bool.not_true, Bool.not_false, if_true, if_false, Bool.false_eq_true, Bool.not_eq_true', decide_eq_false_iff_not, Int.reduceLE, Int.reduceLT, Int.reduceNeg, Int.reduceSub, Int.reduceAdd, and_true, PyData.int.injEq, Nat.zero_add, Int.zero_add, Int.sub_zero, addW_ii, addW_ib, addW_bi, addW_tt, addW_ll, subW_ii, subW_ib, subW_bi, mulW_ii, fdivW_ii, modW_ii, negW_i, eqW_ii, eqW_ss, eqW_t0, eqW_l0, neW_ii, neW_ss, neW_t0, neW_l0, ltW_ii, leW_ii, gtW_ii, geW_ii, isW_n, isntW_n, ixW_l, ixW_t, lenW_l, lenW_t, absW_i, intW_i, intW_b, tupW_l, tupW_t, lstW_l, lstW_t, sumW_l, allW_l, anyW_l, minW_2, maxW_2, slW_t, slW_l, revW_t, revW_l, reprW_1, strW_i, strW_b, sortW_l, sortW_t, Option.some.injEq, exists_eq_left', exists_eq_left, dKey, exists_and_left, exists_const]
  refine mDraw_at (by omega) (by simp; omega) (by simp; omega) fun w w0 w1 => ?_
  refine pick_int ((lo + r) :: lo :: (lo + sp) :: bs.map (·.1)) rfl w0 (by simpa using w1) fun t ht => ?_
  have hta : -1000000 ≤ t ∧ t ≤ 1000000 := by
    simp only [List.mem_cons] at ht
    rcases ht with rfl | rfl | rfl | ht
    · omega
    · omega
    · omega
    · obtain ⟨z, hz, rfl⟩ := List.mem_map.mp ht
      have := mem z hz
      omega
  refine q t c bs _ ⟨hta.1, hta.2, hcan.1, hcan.2, by rw [e1]; exact Cn.asc_sortU ns, fun z hz => by have := mem z hz; omega, fun z hz => by have := mem z hz; omega, fun z hz => (e2 z hz).1, fun z hz => ?_, by omega⟩ (by omega)
  have := e2 z hz
  omega
end Wp

namespace Wp
open PySem PySem.Spec PyProof.Rows L2 Evl
/-! ### trips that are drawn -/
def dictD (ws : List Bed) : List (Key × PyData) := ws.map fun b => (Sum.inl b.1, PyData.int b.2)
theorem lookD_dict {p w : Int} : ∀ {ws : List Bed}, (ws.map (·.1)).Nodup → (p, w) ∈ ws → lookD (dictD ws) (.inl p) = some (.int w)
  | [], _, h => nomatch h
  | b :: ws, nd, h => by
    have nd' := List.nodup_cons.mp (show (b.1 :: ws.map (·.1)).Nodup from nd)
    rcases List.mem_cons.mp h with e | e
    · subst e
      simp [lookD, dictD]
    · have ne : b.1 ≠ p := fun z => nd'.1 (z ▸ List.mem_map_of_mem (f := (·.1)) e)
      have ih := lookD_dict nd'.2 e
      unfold lookD dictD at ih ⊢
      rw [List.map_cons, List.find?_cons_of_neg (by simpa using ne)]
      exact ih
theorem dictD_keys (ws : List Bed) : (dictD ws).map (·.1) = (ws.map (·.1)).map Sum.inl := by simp [dictD, Function.comp_def]
structure TripOk (c : Int) (ws rs : List Bed) : Prop where
  asc : Cn.Asc (rs.map (·.1))
  row : ∀ r ∈ rs, ∃ w, (r.1, w) ∈ ws ∧ 1 ≤ r.2 ∧ r.2 ≤ w
  sum : (rs.map (·.2)).sum ≤ c
  non : rs = [] → ∀ b ∈ ws, b.2 ≤ 0
  len : rs.length ≤ 40
theorem trip_loop {ws : List Bed} {g : Sl} {F : WEnds} (nd : (ws.map (·.1)).Nodup) : ∀ (ys : List Int) (acc : List Bed) (left : Int) (s3 s7 : Sl) (b : Nat), (∀ y ∈ ys, ∃ w, (y, w) ∈ ws) → 0 ≤ left → left ≤ 1000000 → b + 3 * ys.length ≤ 950000000 → acc.length + ys.length ≤ 1000 →
    (∀ rs left' s3' s7' b2, (rs.map (·.1)).Sublist ys → (∀ r ∈ rs, ∃ w, (r.1, w) ∈ ws ∧ 1 ≤ r.2 ∧ r.2 ≤ w) → (rs.map (·.2)).sum + left' = left → 0 ≤ left' → b2 ≤ b + 3 * ys.length → F.nx [.s 1, g, .rm (dictD ws), s3', .l ((acc ++ rs).map bedD), .d (.int left'), .no, s7'] b2) →
    mTurns (bName 3) S_l_trip_9 (ys.map PyData.int) [.s 1, g, .rm (dictD ws), s3, .l (acc.map bedD), .d (.int left), .no, s7] b F
  | [], acc, left, s3, s7, b, _, _, _, _, _, q => by
    have := q [] left s3 s7 b (by simp) (fun _ h => nomatch h) (by simp) (by omega) (by simp)
    simpa [mTurns] using this
  | y :: ys, acc, left, s3, s7, b, hy, l0, l1, hb, hl, q => by
    simp only [List.length_cons] at hb hl
    obtain ⟨w, hw⟩ := hy y (List.mem_cons_self ..)
    have look := lookD_dict nd hw
    have skip : ∀ s3 s7 b', b' ≤ b + 3 → mTurns (bName 3) S_l_trip_9 (ys.map PyData.int) [.s 1, g, .rm (dictD ws), s3, .l (acc.map bedD), .d (.int left), .no, s7] b' F := fun s3 s7 b' hb' =>
      trip_loop nd ys acc left s3 s7 b' (fun z hz => hy z (List.mem_cons_of_mem _ hz)) l0 l1 (by omega) (by omega) fun rs left' s3' s7' b2 e1 e2 e3 e4 e5 => q rs left' s3' s7' b2 (e1.cons _) e2 e3 e4 (by simp only [List.length_cons]; omega)
    simp only [List.map_cons, mTurns, S_l_trip_9, look, mV_e, mC_e, mO_e, mOp_e, mUn_e, mT_e, mNotT_e, mAndT_e, mOrT_e, mAnd_e, mOr_e, mNot_e, mIf_e, mChain_e, mNil_e, mCons_e, mTup_e, mLst_e, mLk_e, mCat_e, mCB_e, mCL_e, vD_e, vL_e, vM0_e, mSkip_e, mSeq_e, mAsg_e, mRet_e, mIfS_e, mDrop_e, vNil_e, vCons_e, mPar_e, bName_e, bTup_e, bNil_e, bCons_e, mUnp_e, mFor_e, mForR_e, mForR2_e, mApp_e, mYes_e, mLc_e, mLcR_e, mLcR2_e, mLcZ_e, gNo_e, gE_e, gO_e, mCall_e, mFn_e, mIsi_e, mSS_e, mNo_e, mPt_e, mSl_e, mDG_e, mDGd_e, mDIn_e, mPut_e, mSD_e, mRetO_e, vDof_e, mForZ_e, wipeE, pow6, pow7, pow9, pow15, pow18, pow39, asM, List.replicate, List.cons_append, List.nil_append, List.getElem?_cons_zero, List.getElem?_cons_succ, enAll, List.set_cons_zero, List.set_cons_succ, Nat.reduceSub, List.length_cons, List.length_nil, decide_eq_true_eq, Nat.reduceAdd, Nat.reduceLeDiff, true_and, Bool.not_true, Bool.not_false, if_true, if_false, Bool.false_eq_true, Bool.not_eq_true', decide_eq_false_iff_not, Int.reduceLE, Int.reduceLT, Int.reduceNeg, Int.reduceSub, Int.reduceAdd, and_true, PyData.int.injEq, Nat.zero_add, Int.zero_add, Int.sub_zero, addW_ii, addW_ib, addW_bi, addW_tt, addW_ll, subW_ii, subW_ib, subW_bi, mulW_ii, fdivW_ii, modW_ii, negW_i, eqW_ii, eqW_ss, eqW_t0, eqW_l0, neW_ii, neW_ss, neW_t0, neW_l0, ltW_ii, leW_ii, gtW_ii, geW_ii, isW_n, isntW_n, ixW_l, ixW_t, lenW_l, lenW_t, absW_i, intW_i, intW_b, tupW_l, tupW_t, lstW_l, lstW_t, sumW_l, allW_l, anyW_l, minW_2, maxW_2, slW_t, slW_l, revW_t, revW_l, reprW_1, strW_i, strW_b, sortW_l, sortW_t, Option.some.injEq, exists_eq_left', exists_eq_left, dKey, exists_and_left, exists_const]
    by_cases w0 : 0 < w
    · rw [if_pos w0]
      by_cases l2 : 0 < left
      · rw [if_pos l2]
        refine mDraw_at (by omega) (by omega) (by omega) fun r r0 r1 => ?_
        simp only [mV_e, mC_e, mO_e, mOp_e, mUn_e, mT_e, mNotT_e, mAndT_e, mOrT_e, mAnd_e, mOr_e, mNot_e, mIf_e, mChain_e, mNil_e, mCons_e, mTup_e, mLst_e, mLk_e, mCat_e, mCB_e, mCL_e, vD_e, vL_e, vM0_e, mSkip_e, mSeq_e, mAsg_e, mRet_e, mIfS_e, mDrop_e, vNil_e, vCons_e, mPar_e, bName_e, bTup_e, bNil_e, bCons_e, mUnp_e, mFor_e, mForR_e, mForR2_e, mApp_e, mYes_e, mLc_e, mLcR_e, mLcR2_e, mLcZ_e, gNo_e, gE_e, gO_e, mCall_e, mFn_e, mIsi_e, mSS_e, mNo_e, mPt_e, mSl_e, mDG_e, mDGd_e, mDIn_e, mPut_e, mSD_e, mRetO_e, vDof_e, mForZ_e, wipeE, pow6, pow7, pow9, pow15, pow18, pow39, asM, List.replicate, List.cons_append, List.nil_append, List.getElem?_cons_zero, List.getElem?_cons_succ, enAll, List.set_cons_zero, List.set_cons_succ, Nat.reduceSub, List.length_cons, List.length_nil, decide_eq_true_eq, Nat.reduceAdd, Nat.reduceLeDiff, true_and, Bool.not_true, Bool.not_false, if_true, if_false, Bool.false_eq_true, Bool.not_eq_true', decide_eq_false_iff_not, Int.reduceLE, Int.reduceLT, Int.reduceNeg, Int.reduceSub, Int.reduceAdd, and_true, PyData.int.injEq, Nat.zero_add, Int.zero_add, Int.sub_zero, addW_ii, addW_ib, addW_bi, addW_tt, addW_ll, subW_ii, subW_ib, subW_bi, mulW_ii, fdivW_ii, modW_ii, negW_i, eqW_ii, eqW_ss, eqW_t0, eqW_l0, neW_ii, neW_ss, neW_t0, neW_l0, ltW_ii, leW_ii, gtW_ii, geW_ii, isW_n, isntW_n, ixW_l, ixW_t, lenW_l, lenW_t, absW_i, intW_i, intW_b, tupW_l, tupW_t, lstW_l, lstW_t, sumW_l, allW_l, anyW_l, minW_2, maxW_2, slW_t, slW_l, revW_t, revW_l, reprW_1, strW_i, strW_b, sortW_l, sortW_t, Option.some.injEq, exists_eq_left', exists_eq_left, dKey, exists_and_left, exists_const]
        by_cases rz : r = 0
        · rw [if_pos rz]
          simp only [S_l_trip_8, look, mV_e, mC_e, mO_e, mOp_e, mUn_e, mT_e, mNotT_e, mAndT_e, mOrT_e, mAnd_e, mOr_e, mNot_e, mIf_e, mChain_e, mNil_e, mCons_e, mTup_e, mLst_e, mLk_e, mCat_e, mCB_e, mCL_e, vD_e, vL_e, vM0_e, mSkip_e, mSeq_e, mAsg_e, mRet_e, mIfS_e, mDrop_e, vNil_e, vCons_e, mPar_e, bName_e, bTup_e, bNil_e, bCons_e, mUnp_e, mFor_e, mForR_e, mForR2_e, mApp_e, mYes_e, mLc_e, mLcR_e, mLcR2_e, mLcZ_e, gNo_e, gE_e, gO_e, mCall_e, mFn_e, mIsi_e, mSS_e, mNo_e, mPt_e, mSl_e, mDG_e, mDGd_e, mDIn_e, mPut_e, mSD_e, mRetO_e, vDof_e, mForZ_e, wipeE, pow6, pow7, pow9, pow15, pow18, pow39, asM, List.replicate, List.cons_append, List.nil_append, List.getElem?_cons_zero, List.getElem?_cons_succ, enAll, List.set_cons_zero, List.set_cons_succ, Nat.reduceSub, List.length_cons, List.length_nil, decide_eq_true_eq, Nat.reduceAdd, Nat.reduceLeDiff, true_and, Bool.not_true, Bool.not_false, if_true, if_false, Bool.false_eq_true, Bool.not_eq_true', decide_eq_false_iff_not, Int.reduceLE, Int.reduceLT, Int.reduceNeg, Int.reduceSub, Int.reduceAdd, and_true, PyData.int.injEq, Nat.zero_add, Int.zero_add, Int.sub_zero, addW_ii, addW_ib, addW_bi, addW_tt, addW_ll, subW_ii, subW_ib, subW_bi, mulW_ii, fdivW_ii, modW_ii, negW_i, eqW_ii, eqW_ss, eqW_t0, eqW_l0, neW_ii, neW_ss, neW_t0, neW_l0, ltW_ii, leW_ii, gtW_ii, geW_ii, isW_n, isntW_n, ixW_l, ixW_t, lenW_l, lenW_t, absW_i, intW_i, intW_b, tupW_l, tupW_t, lstW_l, lstW_t, sumW_l, allW_l, anyW_l, minW_2, maxW_2, slW_t, slW_l, revW_t, revW_l, reprW_1, strW_i, strW_b, sortW_l, sortW_t, Option.some.injEq, exists_eq_left', exists_eq_left, dKey, exists_and_left, exists_const]
          have mn : (if w < left then w else left) ≤ left ∧ (if w < left then w else left) ≤ w ∧ 1 ≤ (if w < left then w else left) := by split <;> omega
          generalize (if w < left then w else left) = mi at mn
          refine mDraw_at (by omega) (by omega) (by omega) fun u u0 u1 => ?_
          simp only [S_l_trip_7, look, mV_e, mC_e, mO_e, mOp_e, mUn_e, mT_e, mNotT_e, mAndT_e, mOrT_e, mAnd_e, mOr_e, mNot_e, mIf_e, mChain_e, mNil_e, mCons_e, mTup_e, mLst_e, mLk_e, mCat_e, mCB_e, mCL_e, vD_e, vL_e, vM0_e, mSkip_e, mSeq_e, mAsg_e, mRet_e, mIfS_e, mDrop_e, vNil_e, vCons_e, mPar_e, bName_e, bTup_e, bNil_e, bCons_e, mUnp_e, mFor_e, mForR_e, mForR2_e, mApp_e, mYes_e, mLc_e, mLcR_e, mLcR2_e, mLcZ_e, gNo_e, gE_e, gO_e, mCall_e, mFn_e, mIsi_e, mSS_e, mNo_e, mPt_e, mSl_e, mDG_e, mDGd_e, mDIn_e, mPut_e, mSD_e, mRetO_e, vDof_e, mForZ_e, wipeE, pow6, pow7, pow9, pow15, pow18, pow39, asM, List.replicate, List.cons_append, List.nil_append, List.getElem?_cons_zero, List.getElem?_cons_succ, enAll, List.set_cons_zero, List.set_cons_succ, Nat.reduceSub, List.length_cons, List.length_nil, decide_eq_true_eq, Nat.reduceAdd, Nat.reduceLeDiff, true_and, Bool.not_true, Bool.not_false, if_true, if_false, Bool.false_eq_true, Bool.not_eq_true', decide_eq_false_iff_not, Int.reduceLE, Int.reduceLT, Int.reduceNeg, Int.reduceSub, Int.reduceAdd, and_true, PyData.int.injEq, Nat.zero_add, Int.zero_add, Int.sub_zero, addW_ii, addW_ib, addW_bi, addW_tt, addW_ll, subW_ii, subW_ib, subW_bi, mulW_ii, fdivW_ii, modW_ii, negW_i, eqW_ii, eqW_ss, eqW_t0, eqW_l0, neW_ii, neW_ss, neW_t0, neW_l0, ltW_ii, leW_ii, gtW_ii, geW_ii, isW_n, isntW_n, ixW_l, ixW_t, lenW_l, lenW_t, absW_i, intW_i, intW_b, tupW_l, tupW_t, lstW_l, lstW_t, sumW_l, allW_l, anyW_l, minW_2, maxW_2, slW_t, slW_l, revW_t, revW_l, reprW_1, strW_i, strW_b, sortW_l, sortW_t, Option.some.injEq, exists_eq_left', exists_eq_left, dKey, exists_and_left, exists_const]
          have mn2 : (if w < left then w else left) ≤ left ∧ (if w < left then w else left) ≤ w ∧ 1 ≤ (if w < left then w else left) := by split <;> omega
          generalize (if w < left then w else left) = mi2 at mn2
          refine mDraw_at (by omega) (by omega) (by omega) fun v v0 v1 => ?_
          simp only [mV_e, mC_e, mO_e, mOp_e, mUn_e, mT_e, mNotT_e, mAndT_e, mOrT_e, mAnd_e, mOr_e, mNot_e, mIf_e, mChain_e, mNil_e, mCons_e, mTup_e, mLst_e, mLk_e, mCat_e, mCB_e, mCL_e, vD_e, vL_e, vM0_e, mSkip_e, mSeq_e, mAsg_e, mRet_e, mIfS_e, mDrop_e, vNil_e, vCons_e, mPar_e, bName_e, bTup_e, bNil_e, bCons_e, mUnp_e, mFor_e, mForR_e, mForR2_e, mApp_e, mYes_e, mLc_e, mLcR_e, mLcR2_e, mLcZ_e, gNo_e, gE_e, gO_e, mCall_e, mFn_e, mIsi_e, mSS_e, mNo_e, mPt_e, mSl_e, mDG_e, mDGd_e, mDIn_e, mPut_e, mSD_e, mRetO_e, vDof_e, mForZ_e, wipeE, pow6, pow7, pow9, pow15, pow18, pow39, asM, List.replicate, List.cons_append, List.nil_append, List.getElem?_cons_zero, List.getElem?_cons_succ, enAll, List.set_cons_zero, List.set_cons_succ, Nat.reduceSub, List.length_cons, List.length_nil, decide_eq_true_eq, Nat.reduceAdd, Nat.reduceLeDiff, true_and, Bool.not_true, Bool.not_false, if_true, if_false, Bool.false_eq_true, Bool.not_eq_true', decide_eq_false_iff_not, Int.reduceLE, Int.reduceLT, Int.reduceNeg, Int.reduceSub, Int.reduceAdd, and_true, PyData.int.injEq, Nat.zero_add, Int.zero_add, Int.sub_zero, addW_ii, addW_ib, addW_bi, addW_tt, addW_ll, subW_ii, subW_ib, subW_bi, mulW_ii, fdivW_ii, modW_ii, negW_i, eqW_ii, eqW_ss, eqW_t0, eqW_l0, neW_ii, neW_ss, neW_t0, neW_l0, ltW_ii, leW_ii, gtW_ii, geW_ii, isW_n, isntW_n, ixW_l, ixW_t, lenW_l, lenW_t, absW_i, intW_i, intW_b, tupW_l, tupW_t, lstW_l, lstW_t, sumW_l, allW_l, anyW_l, minW_2, maxW_2, slW_t, slW_l, revW_t, revW_l, reprW_1, strW_i, strW_b, sortW_l, sortW_t, Option.some.injEq, exists_eq_left', exists_eq_left, dKey, exists_and_left, exists_const]
          refine pick_int [1 + u, mi2] rfl v0 (by simpa using v1) fun li hli => ?_
          have hl3 : 1 ≤ li ∧ li ≤ left ∧ li ≤ w := by simp at hli; omega
          simp only [S_l_trip_6, S_l_trip_5, mV_e, mC_e, mO_e, mOp_e, mUn_e, mT_e, mNotT_e, mAndT_e, mOrT_e, mAnd_e, mOr_e, mNot_e, mIf_e, mChain_e, mNil_e, mCons_e, mTup_e, mLst_e, mLk_e, mCat_e, mCB_e, mCL_e, vD_e, vL_e, vM0_e, mSkip_e, mSeq_e, mAsg_e, mRet_e, mIfS_e, mDrop_e, vNil_e, vCons_e, mPar_e, bName_e, bTup_e, bNil_e, bCons_e, mUnp_e, mFor_e, mForR_e, mForR2_e, mApp_e, mYes_e, mLc_e, mLcR_e, mLcR2_e, mLcZ_e, gNo_e, gE_e, gO_e, mCall_e, mFn_e, mIsi_e, mSS_e, mNo_e, mPt_e, mSl_e, mDG_e, mDGd_e, mDIn_e, mPut_e, mSD_e, mRetO_e, vDof_e, mForZ_e, wipeE, pow6, pow7, pow9, pow15, pow18, pow39, asM, List.replicate, List.cons_append, List.nil_append, List.getElem?_cons_zero, List.getElem?_cons_succ, enAll, List.set_cons_zero, List.set_cons_succ, Nat.reduceSub, List.length_cons, List.length_nil, decide_eq_true_eq, Nat.reduceAdd, Nat.reduceLeDiff, true_and, Bool.not_true, Bool.not_false, if_true, if_false, Bool.false_eq_true, Bool.not_eq_true', decide_eq_false_iff_not, Int.reduceLE, Int.reduceLT, Int.reduceNeg, Int.reduceSub, Int.reduceAdd, and_true, PyData.int.injEq, Nat.zero_add, Int.zero_add, Int.sub_zero, addW_ii, addW_ib, addW_bi, addW_tt, addW_ll, subW_ii, subW_ib, subW_bi, mulW_ii, fdivW_ii, modW_ii, negW_i, eqW_ii, eqW_ss, eqW_t0, eqW_l0, neW_ii, neW_ss, neW_t0, neW_l0, ltW_ii, leW_ii, gtW_ii, geW_ii, isW_n, isntW_n, ixW_l, ixW_t, lenW_l, lenW_t, absW_i, intW_i, intW_b, tupW_l, tupW_t, lstW_l, lstW_t, sumW_l, allW_l, anyW_l, minW_2, maxW_2, slW_t, slW_l, revW_t, revW_l, reprW_1, strW_i, strW_b, sortW_l, sortW_t, Option.some.injEq, exists_eq_left', exists_eq_left, dKey, exists_and_left, exists_const]
          refine ⟨by simp; omega, ?_⟩
          have e : acc.map bedD ++ [PyData.tuple [.int y, .int li]] = (acc ++ [(y, li)]).map bedD := by simp [bedD]
          rw [e]
          refine trip_loop nd ys (acc ++ [(y, li)]) (left - li) _ _ _ (fun z hz => hy z (List.mem_cons_of_mem _ hz)) (by omega) (by omega) (by omega) (by simp; omega) fun rs left' s3' s7' b2 e1 e2 e3 e4 e5 => ?_
          have := q ((y, li) :: rs) left' s3' s7' b2 (by simpa using e1) (fun z hz => by
            rcases List.mem_cons.mp hz with rfl | hz
            · exact ⟨w, hw, hl3.1, hl3.2.2⟩
            · exact e2 z hz) (by simp; omega) e4 (by simp only [List.length_cons]; omega)
          simpa using this
        · rw [if_neg rz]
          exact skip _ _ _ (by omega)
      · rw [if_neg l2]
        exact skip _ _ _ (by omega)
    · rw [if_neg w0]
      exact skip _ _ _ (by omega)
theorem sum_nn : ∀ {l : List Int}, (∀ x ∈ l, 0 ≤ x) → 0 ≤ l.sum
  | [], _ => by simp
  | x :: r, h => by
    have h1 := h x (List.mem_cons_self ..)
    have h2 := sum_nn (l := r) fun y hy => h y (List.mem_cons_of_mem _ hy)
    simp only [List.sum_cons]
    omega
theorem trip_ok {t c : Int} {bs ws : List Bed} {b : Nat} {R : PyData → Nat → Prop} (nd : (ws.map (·.1)).Nodup) (c0 : 1 ≤ c) (c1 : c ≤ 1000000) (few : ws.length ≤ 40) (hb : b ≤ 800000000) (q : ∀ rs b', TripOk c ws rs → b' ≤ b + 200 → R (bedsD rs) b') : M_l_trip [.s 1, .d (gardenD t c bs), .rm (dictD ws)] b R := by
  simp only [M_l_trip, mFn_e, B_l_trip, mSeq_e, List.replicate, List.cons_append, List.nil_append, List.length_cons, List.length_nil, Nat.reduceSub, Nat.reduceAdd, true_and]
  simp only [S_l_trip_11, gardenD, mV_e, mC_e, mO_e, mOp_e, mUn_e, mT_e, mNotT_e, mAndT_e, mOrT_e, mAnd_e, mOr_e, mNot_e, mIf_e, mChain_e, mNil_e, mCons_e, mTup_e, mLst_e, mLk_e, mCat_e, mCB_e, mCL_e, vD_e, vL_e, vM0_e, mSkip_e, mSeq_e, mAsg_e, mRet_e, mIfS_e, mDrop_e, vNil_e, vCons_e, mPar_e, bName_e, bTup_e, bNil_e, bCons_e, mUnp_e, mFor_e, mForR_e, mForR2_e, mApp_e, mYes_e, mLc_e, mLcR_e, mLcR2_e, mLcZ_e, gNo_e, gE_e, gO_e, mCall_e, mFn_e, mIsi_e, mSS_e, mNo_e, mPt_e, mSl_e, mDG_e, mDGd_e, mDIn_e, mPut_e, mSD_e, mRetO_e, vDof_e, mForZ_e, wipeE, pow6, pow7, pow9, pow15, pow18, pow39, asM, List.replicate, List.cons_append, List.nil_append, List.getElem?_cons_zero, List.getElem?_cons_succ, enAll, List.set_cons_zero, List.set_cons_succ, Nat.reduceSub, List.length_cons, List.length_nil, decide_eq_true_eq, Nat.reduceAdd, Nat.reduceLeDiff, true_and, Bool.not_true, Bool.not_false, if_true, if_false, Bool.false_eq_true, Bool.not_eq_true', decide_eq_false_iff_not, Int.reduceLE, Int.reduceLT, Int.reduceNeg, Int.reduceSub, Int.reduceAdd, and_true, PyData.int.injEq, Nat.zero_add, Int.zero_add, Int.sub_zero, addW_ii, addW_ib, addW_bi, addW_tt, addW_ll, subW_ii, subW_ib, subW_bi, mulW_ii, fdivW_ii, modW_ii, negW_i, eqW_ii, eqW_ss, eqW_t0, eqW_l0, neW_ii, neW_ss, neW_t0, neW_l0, ltW_ii, leW_ii, gtW_ii, geW_ii, isW_n, isntW_n, ixW_l, ixW_t, lenW_l, lenW_t, absW_i, intW_i, intW_b, tupW_l, tupW_t, lstW_l, lstW_t, sumW_l, allW_l, anyW_l, minW_2, maxW_2, slW_t, slW_l, revW_t, revW_l, reprW_1, strW_i, strW_b, sortW_l, sortW_t, Option.some.injEq, exists_eq_left', exists_eq_left, dKey, exists_and_left, exists_const]
  refine ⟨_, rfl, ?_⟩
  simp only [S_l_trip_10, mV_e, mC_e, mO_e, mOp_e, mUn_e, mT_e, mNotT_e, mAndT_e, mOrT_e, mAnd_e, mOr_e, mNot_e, mIf_e, mChain_e, mNil_e, mCons_e, mTup_e, mLst_e, mLk_e, mCat_e, mCB_e, mCL_e, vD_e, vL_e, vM0_e, mSkip_e, mSeq_e, mAsg_e, mRet_e, mIfS_e, mDrop_e, vNil_e, vCons_e, mPar_e, bName_e, bTup_e, bNil_e, bCons_e, mUnp_e, mFor_e, mForR_e, mForR2_e, mApp_e, mYes_e, mLc_e, mLcR_e, mLcR2_e, mLcZ_e, gNo_e, gE_e, gO_e, mCall_e, mFn_e, mIsi_e, mSS_e, mNo_e, mPt_e, mSl_e, mDG_e, mDGd_e, mDIn_e, mPut_e, mSD_e, mRetO_e, vDof_e, mForZ_e, wipeE, pow6, pow7, pow9, pow15, pow18, pow39, asM, List.replicate, List.cons_append, List.nil_append, List.getElem?_cons_zero, List.getElem?_cons_succ, enAll, List.set_cons_zero, List.set_cons_succ, Nat.reduceSub, List.length_cons, List.length_nil, decide_eq_true_eq, Nat.reduceAdd, Nat.reduceLeDiff, true_and, Bool.not_true, Bool.not_false, if_true, if_false, Bool.false_eq_true, Bool.not_eq_true', decide_eq_false_iff_not, Int.reduceLE, Int.reduceLT, Int.reduceNeg, Int.reduceSub, Int.reduceAdd, and_true, PyData.int.injEq, Nat.zero_add, Int.zero_add, Int.sub_zero, addW_ii, addW_ib, addW_bi, addW_tt, addW_ll, subW_ii, subW_ib, subW_bi, mulW_ii, fdivW_ii, modW_ii, negW_i, eqW_ii, eqW_ss, eqW_t0, eqW_l0, neW_ii, neW_ss, neW_t0, neW_l0, ltW_ii, leW_ii, gtW_ii, geW_ii, isW_n, isntW_n, ixW_l, ixW_t, lenW_l, lenW_t, absW_i, intW_i, intW_b, tupW_l, tupW_t, lstW_l, lstW_t, sumW_l, allW_l, anyW_l, minW_2, maxW_2, slW_t, slW_l, revW_t, revW_l, reprW_1, strW_i, strW_b, sortW_l, sortW_t, Option.some.injEq, exists_eq_left', exists_eq_left, dKey, exists_and_left, exists_const]
  refine ⟨ws.map (·.1), dictD_keys ws, by simpa using (by omega : ws.length < 64), fun ys pm srt => ?_⟩
  have ya : Cn.Asc ys := by
    have nd' : ys.Nodup := pm.nodup_iff.mpr nd
    exact List.Pairwise.imp₂ (fun a b h1 h2 => by omega) srt nd'
  have yl : ys.length = ws.length := by rw [pm.length_eq, List.length_map]
  have ym : ∀ y ∈ ys, ∃ w, (y, w) ∈ ws := fun y hy => by
    obtain ⟨z, hz, rfl⟩ := List.mem_map.mp (pm.mem_iff.mp hy)
    exact ⟨z.2, hz⟩
  refine trip_loop (acc := []) nd ys c _ _ _ ym (by omega) (by omega) (by omega) (by simp; omega) fun rs left' s3' s7' b2 e1 e2 e3 e4 e5 => ?_
  have rl : rs.length ≤ ws.length := by have := e1.length_le; simpa [yl] using this
  simp only [S_l_trip_4, List.nil_append, mV_e, mC_e, mO_e, mOp_e, mUn_e, mT_e, mNotT_e, mAndT_e, mOrT_e, mAnd_e, mOr_e, mNot_e, mIf_e, mChain_e, mNil_e, mCons_e, mTup_e, mLst_e, mLk_e, mCat_e, mCB_e, mCL_e, vD_e, vL_e, vM0_e, mSkip_e, mSeq_e, mAsg_e, mRet_e, mIfS_e, mDrop_e, vNil_e, vCons_e, mPar_e, bName_e, bTup_e, bNil_e, bCons_e, mUnp_e, mFor_e, mForR_e, mForR2_e, mApp_e, mYes_e, mLc_e, mLcR_e, mLcR2_e, mLcZ_e, gNo_e, gE_e, gO_e, mCall_e, mFn_e, mIsi_e, mSS_e, mNo_e, mPt_e, mSl_e, mDG_e, mDGd_e, mDIn_e, mPut_e, mSD_e, mRetO_e, vDof_e, mForZ_e, wipeE, pow6, pow7, pow9, pow15, pow18, pow39, asM, List.replicate, List.cons_append, List.nil_append, List.getElem?_cons_zero, List.getElem?_cons_succ, enAll, List.set_cons_zero, List.set_cons_succ, Nat.reduceSub, List.length_cons, List.length_nil, decide_eq_true_eq, Nat.reduceAdd, Nat.reduceLeDiff, true_and, Bool.not_true, Bool.not_false, if_true, if_false, Bool.false_eq_true, Bool.not_eq_true', decide_eq_false_iff_not, Int.reduceLE, Int.reduceLT, Int.reduceNeg, Int.reduceSub, Int.reduceAdd, and_true, PyData.int.injEq, Nat.zero_add, Int.zero_add, Int.sub_zero, addW_ii, addW_ib, addW_bi, addW_tt, addW_ll, subW_ii, subW_ib, subW_bi, mulW_ii, fdivW_ii, modW_ii, negW_i, eqW_ii, eqW_ss, eqW_t0, eqW_l0, neW_ii, neW_ss, neW_t0, neW_l0, ltW_ii, leW_ii, gtW_ii, geW_ii, isW_n, isntW_n, ixW_l, ixW_t, lenW_l, lenW_t, absW_i, intW_i, intW_b, tupW_l, tupW_t, lstW_l, lstW_t, sumW_l, allW_l, anyW_l, minW_2, maxW_2, slW_t, slW_l, revW_t, revW_l, reprW_1, strW_i, strW_b, sortW_l, sortW_t, Option.some.injEq, exists_eq_left', exists_eq_left, dKey, exists_and_left, exists_const]
  by_cases hr : rs = []
  · subst hr
    simp only [List.map_nil, List.isEmpty_nil, if_true]
    have e3 : left' = c := by simpa using e3
    subst e3
    simp only [S_l_trip_3, mV_e, mC_e, mO_e, mOp_e, mUn_e, mT_e, mNotT_e, mAndT_e, mOrT_e, mAnd_e, mOr_e, mNot_e, mIf_e, mChain_e, mNil_e, mCons_e, mTup_e, mLst_e, mLk_e, mCat_e, mCB_e, mCL_e, vD_e, vL_e, vM0_e, mSkip_e, mSeq_e, mAsg_e, mRet_e, mIfS_e, mDrop_e, vNil_e, vCons_e, mPar_e, bName_e, bTup_e, bNil_e, bCons_e, mUnp_e, mFor_e, mForR_e, mForR2_e, mApp_e, mYes_e, mLc_e, mLcR_e, mLcR2_e, mLcZ_e, gNo_e, gE_e, gO_e, mCall_e, mFn_e, mIsi_e, mSS_e, mNo_e, mPt_e, mSl_e, mDG_e, mDGd_e, mDIn_e, mPut_e, mSD_e, mRetO_e, vDof_e, mForZ_e, wipeE, pow6, pow7, pow9, pow15, pow18, pow39, asM, List.replicate, List.cons_append, List.nil_append, List.getElem?_cons_zero, List.getElem?_cons_succ, enAll, List.set_cons_zero, List.set_cons_succ, Nat.reduceSub, List.length_cons, List.length_nil, decide_eq_true_eq, Nat.reduceAdd, Nat.reduceLeDiff, true_and, Bool.not_true, Bool.not_false, if_true, if_false, Bool.false_eq_true, Bool.not_eq_true', decide_eq_false_iff_not, Int.reduceLE, Int.reduceLT, Int.reduceNeg, Int.reduceSub, Int.reduceAdd, and_true, PyData.int.injEq, Nat.zero_add, Int.zero_add, Int.sub_zero, addW_ii, addW_ib, addW_bi, addW_tt, addW_ll, subW_ii, subW_ib, subW_bi, mulW_ii, fdivW_ii, modW_ii, negW_i, eqW_ii, eqW_ss, eqW_t0, eqW_l0, neW_ii, neW_ss, neW_t0, neW_l0, ltW_ii, leW_ii, gtW_ii, geW_ii, isW_n, isntW_n, ixW_l, ixW_t, lenW_l, lenW_t, absW_i, intW_i, intW_b, tupW_l, tupW_t, lstW_l, lstW_t, sumW_l, allW_l, anyW_l, minW_2, maxW_2, slW_t, slW_l, revW_t, revW_l, reprW_1, strW_i, strW_b, sortW_l, sortW_t, Option.some.injEq, exists_eq_left', exists_eq_left, dKey, exists_and_left, exists_const]
    refine ⟨ws.map (·.1), dictD_keys ws, by simpa using (by omega : ws.length < 64), fun ys' pm' srt' => ?_⟩
    have yn : ys' = ys := by
      have nd' : ys'.Nodup := pm'.nodup_iff.mpr nd
      exact Cn.asc_unique (List.Pairwise.imp₂ (fun a b h1 h2 => by omega) srt' nd') ya fun k => pm'.mem_iff.trans pm.mem_iff.symm
    subst yn
    let p : PyData → Bool := fun d => match d with | .int y => (match lookD (dictD ws) (.inl y) with | some (.int w) => decide (0 < w) | _ => false) | _ => false
    refine comp_if (fun d => d) p _ _ _ _ (fun x hx C hc => ?_) (by simp; omega) ?_
    · obtain ⟨y, hy, rfl⟩ := List.mem_map.mp hx
      obtain ⟨w, hw⟩ := ym y hy
      have look := lookD_dict nd hw
      simp only [look, mV_e, mC_e, mO_e, mOp_e, mUn_e, mT_e, mNotT_e, mAndT_e, mOrT_e, mAnd_e, mOr_e, mNot_e, mIf_e, mChain_e, mNil_e, mCons_e, mTup_e, mLst_e, mLk_e, mCat_e, mCB_e, mCL_e, vD_e, vL_e, vM0_e, mSkip_e, mSeq_e, mAsg_e, mRet_e, mIfS_e, mDrop_e, vNil_e, vCons_e, mPar_e, bName_e, bTup_e, bNil_e, bCons_e, mUnp_e, mFor_e, mForR_e, mForR2_e, mApp_e, mYes_e, mLc_e, mLcR_e, mLcR2_e, mLcZ_e, gNo_e, gE_e, gO_e, mCall_e, mFn_e, mIsi_e, mSS_e, mNo_e, mPt_e, mSl_e, mDG_e, mDGd_e, mDIn_e, mPut_e, mSD_e, mRetO_e, vDof_e, mForZ_e, wipeE, pow6, pow7, pow9, pow15, pow18, pow39, asM, List.replicate, List.cons_append, List.nil_append, List.getElem?_cons_zero, List.getElem?_cons_succ, enAll, List.set_cons_zero, List.set_cons_succ, Nat.reduceSub, List.length_cons, List.length_nil, decide_eq_true_eq, Nat.reduceAdd, Nat.reduceLeDiff, true_and, Bool.not_true, Bool.not_false, if_true, if_false, Bool.false_eq_true, Bool.not_eq_true', decide_eq_false_iff_not, Int.reduceLE, Int.reduceLT, Int.reduceNeg, Int.reduceSub, Int.reduceAdd, and_true, PyData.int.injEq, Nat.zero_add, Int.zero_add, Int.sub_zero, addW_ii, addW_ib, addW_bi, addW_tt, addW_ll, subW_ii, subW_ib, subW_bi, mulW_ii, fdivW_ii, modW_ii, negW_i, eqW_ii, eqW_ss, eqW_t0, eqW_l0, neW_ii, neW_ss, neW_t0, neW_l0, ltW_ii, leW_ii, gtW_ii, geW_ii, isW_n, isntW_n, ixW_l, ixW_t, lenW_l, lenW_t, absW_i, intW_i, intW_b, tupW_l, tupW_t, lstW_l, lstW_t, sumW_l, allW_l, anyW_l, minW_2, maxW_2, slW_t, slW_l, revW_t, revW_l, reprW_1, strW_i, strW_b, sortW_l, sortW_t, Option.some.injEq, exists_eq_left', exists_eq_left, dKey, exists_and_left, exists_const]
      simp only [p, look] at hc
      by_cases w0 : 0 < w <;> simpa [w0] using hc
    have hcut : ∀ l : List PyData, cutD l none (some 1) = l.take 1 := fun l => by
      unfold cutD
      rw [show HT.sIx l.length l.length (some 1) = min 1 l.length from HT.sIx_nat l.length l.length 1, HT.sIx_none, List.drop_zero, Nat.sub_zero]
      cases l <;> simp
    simp only [List.nil_append, List.map_id', hcut]
    simp only [S_l_trip_2, mV_e, mC_e, mO_e, mOp_e, mUn_e, mT_e, mNotT_e, mAndT_e, mOrT_e, mAnd_e, mOr_e, mNot_e, mIf_e, mChain_e, mNil_e, mCons_e, mTup_e, mLst_e, mLk_e, mCat_e, mCB_e, mCL_e, vD_e, vL_e, vM0_e, mSkip_e, mSeq_e, mAsg_e, mRet_e, mIfS_e, mDrop_e, vNil_e, vCons_e, mPar_e, bName_e, bTup_e, bNil_e, bCons_e, mUnp_e, mFor_e, mForR_e, mForR2_e, mApp_e, mYes_e, mLc_e, mLcR_e, mLcR2_e, mLcZ_e, gNo_e, gE_e, gO_e, mCall_e, mFn_e, mIsi_e, mSS_e, mNo_e, mPt_e, mSl_e, mDG_e, mDGd_e, mDIn_e, mPut_e, mSD_e, mRetO_e, vDof_e, mForZ_e, wipeE, pow6, pow7, pow9, pow15, pow18, pow39, asM, List.replicate, List.cons_append, List.nil_append, List.getElem?_cons_zero, List.getElem?_cons_succ, enAll, List.set_cons_zero, List.set_cons_succ, Nat.reduceSub, List.length_cons, List.length_nil, decide_eq_true_eq, Nat.reduceAdd, Nat.reduceLeDiff, true_and, Bool.not_true, Bool.not_false, if_true, if_false, Bool.false_eq_true, Bool.not_eq_true', decide_eq_false_iff_not, Int.reduceLE, Int.reduceLT, Int.reduceNeg, Int.reduceSub, Int.reduceAdd, and_true, PyData.int.injEq, Nat.zero_add, Int.zero_add, Int.sub_zero, addW_ii, addW_ib, addW_bi, addW_tt, addW_ll, subW_ii, subW_ib, subW_bi, mulW_ii, fdivW_ii, modW_ii, negW_i, eqW_ii, eqW_ss, eqW_t0, eqW_l0, neW_ii, neW_ss, neW_t0, neW_l0, ltW_ii, leW_ii, gtW_ii, geW_ii, isW_n, isntW_n, ixW_l, ixW_t, lenW_l, lenW_t, absW_i, intW_i, intW_b, tupW_l, tupW_t, lstW_l, lstW_t, sumW_l, allW_l, anyW_l, minW_2, maxW_2, slW_t, slW_l, revW_t, revW_l, reprW_1, strW_i, strW_b, sortW_l, sortW_t, Option.some.injEq, exists_eq_left', exists_eq_left, dKey, exists_and_left, exists_const]
    refine comp_each (fun d => ∃ y li w, d = bedD (y, li) ∧ (y, w) ∈ ws ∧ 1 ≤ li ∧ li ≤ w ∧ li ≤ left' ∧ .int y ∈ ((ys'.map PyData.int).filter p).take 1) 1 _ _ _ _ (fun x hx b' Q hb' k => ?_) (by simp; omega) fun zs b3 hl3 hz hb3 => ?_
    · have hx2 := List.mem_filter.mp (List.mem_of_mem_take hx)
      obtain ⟨y, hy, rfl⟩ := List.mem_map.mp hx2.1
      obtain ⟨w, hw⟩ := ym y hy
      have look := lookD_dict nd hw
      have w0 : 0 < w := by have := hx2.2; simpa [p, look] using this
      simp only [look, mV_e, mC_e, mO_e, mOp_e, mUn_e, mT_e, mNotT_e, mAndT_e, mOrT_e, mAnd_e, mOr_e, mNot_e, mIf_e, mChain_e, mNil_e, mCons_e, mTup_e, mLst_e, mLk_e, mCat_e, mCB_e, mCL_e, vD_e, vL_e, vM0_e, mSkip_e, mSeq_e, mAsg_e, mRet_e, mIfS_e, mDrop_e, vNil_e, vCons_e, mPar_e, bName_e, bTup_e, bNil_e, bCons_e, mUnp_e, mFor_e, mForR_e, mForR2_e, mApp_e, mYes_e, mLc_e, mLcR_e, mLcR2_e, mLcZ_e, gNo_e, gE_e, gO_e, mCall_e, mFn_e, mIsi_e, mSS_e, mNo_e, mPt_e, mSl_e, mDG_e, mDGd_e, mDIn_e, mPut_e, mSD_e, mRetO_e, vDof_e, mForZ_e, wipeE, pow6, pow7, pow9, pow15, pow18, pow39, asM, List.replicate, List.cons_append, List.nil_append, List.getElem?_cons_zero, List.getElem?_cons_succ, enAll, List.set_cons_zero, List.set_cons_succ, Nat.reduceSub, List.length_cons, List.length_nil, decide_eq_true_eq, Nat.reduceAdd, Nat.reduceLeDiff, true_and, Bool.not_true, Bool.not_false, if_true, if_false, Bool.false_eq_true, Bool.not_eq_true', decide_eq_false_iff_not, Int.reduceLE, Int.reduceLT, Int.reduceNeg, Int.reduceSub, Int.reduceAdd, and_true, PyData.int.injEq, Nat.zero_add, Int.zero_add, Int.sub_zero, addW_ii, addW_ib, addW_bi, addW_tt, addW_ll, subW_ii, subW_ib, subW_bi, mulW_ii, fdivW_ii, modW_ii, negW_i, eqW_ii, eqW_ss, eqW_t0, eqW_l0, neW_ii, neW_ss, neW_t0, neW_l0, ltW_ii, leW_ii, gtW_ii, geW_ii, isW_n, isntW_n, ixW_l, ixW_t, lenW_l, lenW_t, absW_i, intW_i, intW_b, tupW_l, tupW_t, lstW_l, lstW_t, sumW_l, allW_l, anyW_l, minW_2, maxW_2, slW_t, slW_l, revW_t, revW_l, reprW_1, strW_i, strW_b, sortW_l, sortW_t, Option.some.injEq, exists_eq_left', exists_eq_left, dKey, exists_and_left, exists_const]
      have mn : (if w < left' then w else left') ≤ left' ∧ (if w < left' then w else left') ≤ w ∧ 1 ≤ (if w < left' then w else left') := by split <;> omega
      generalize (if w < left' then w else left') = mi at mn
      have tl : (((ys'.map PyData.int).filter p).take 1).length ≤ 1 := by rw [List.length_take]; omega
      refine mDraw_at (by omega) (by omega) (by omega) fun u u0 u1 => ?_
      simp only [mV_e, mC_e, mO_e, mOp_e, mUn_e, mT_e, mNotT_e, mAndT_e, mOrT_e, mAnd_e, mOr_e, mNot_e, mIf_e, mChain_e, mNil_e, mCons_e, mTup_e, mLst_e, mLk_e, mCat_e, mCB_e, mCL_e, vD_e, vL_e, vM0_e, mSkip_e, mSeq_e, mAsg_e, mRet_e, mIfS_e, mDrop_e, vNil_e, vCons_e, mPar_e, bName_e, bTup_e, bNil_e, bCons_e, mUnp_e, mFor_e, mForR_e, mForR2_e, mApp_e, mYes_e, mLc_e, mLcR_e, mLcR2_e, mLcZ_e, gNo_e, gE_e, gO_e, mCall_e, mFn_e, mIsi_e, mSS_e, mNo_e, mPt_e, mSl_e, mDG_e, mDGd_e, mDIn_e, mPut_e, mSD_e, mRetO_e, vDof_e, mForZ_e, wipeE, pow6, pow7, pow9, pow15, pow18, pow39, asM, List.replicate, List.cons_append, List.nil_append, List.getElem?_cons_zero, List.getElem?_cons_succ, enAll, List.set_cons_zero, List.set_cons_succ, Nat.reduceSub, List.length_cons, List.length_nil, decide_eq_true_eq, Nat.reduceAdd, Nat.reduceLeDiff, true_and, Bool.not_true, Bool.not_false, if_true, if_false, Bool.false_eq_true, Bool.not_eq_true', decide_eq_false_iff_not, Int.reduceLE, Int.reduceLT, Int.reduceNeg, Int.reduceSub, Int.reduceAdd, and_true, PyData.int.injEq, Nat.zero_add, Int.zero_add, Int.sub_zero, addW_ii, addW_ib, addW_bi, addW_tt, addW_ll, subW_ii, subW_ib, subW_bi, mulW_ii, fdivW_ii, modW_ii, negW_i, eqW_ii, eqW_ss, eqW_t0, eqW_l0, neW_ii, neW_ss, neW_t0, neW_l0, ltW_ii, leW_ii, gtW_ii, geW_ii, isW_n, isntW_n, ixW_l, ixW_t, lenW_l, lenW_t, absW_i, intW_i, intW_b, tupW_l, tupW_t, lstW_l, lstW_t, sumW_l, allW_l, anyW_l, minW_2, maxW_2, slW_t, slW_l, revW_t, revW_l, reprW_1, strW_i, strW_b, sortW_l, sortW_t, Option.some.injEq, exists_eq_left', exists_eq_left, dKey, exists_and_left, exists_const]
      exact k _ _ ⟨y, 1 + u, w, rfl, hw, by omega, by omega, by omega, hx⟩ (by omega)
    · simp only [S_l_trip_1, List.nil_append, mV_e, mC_e, mO_e, mOp_e, mUn_e, mT_e, mNotT_e, mAndT_e, mOrT_e, mAnd_e, mOr_e, mNot_e, mIf_e, mChain_e, mNil_e, mCons_e, mTup_e, mLst_e, mLk_e, mCat_e, mCB_e, mCL_e, vD_e, vL_e, vM0_e, mSkip_e, mSeq_e, mAsg_e, mRet_e, mIfS_e, mDrop_e, vNil_e, vCons_e, mPar_e, bName_e, bTup_e, bNil_e, bCons_e, mUnp_e, mFor_e, mForR_e, mForR2_e, mApp_e, mYes_e, mLc_e, mLcR_e, mLcR2_e, mLcZ_e, gNo_e, gE_e, gO_e, mCall_e, mFn_e, mIsi_e, mSS_e, mNo_e, mPt_e, mSl_e, mDG_e, mDGd_e, mDIn_e, mPut_e, mSD_e, mRetO_e, vDof_e, mForZ_e, wipeE, pow6, pow7, pow9, pow15, pow18, pow39, asM, List.replicate, List.cons_append, List.nil_append, List.getElem?_cons_zero, List.getElem?_cons_succ, enAll, List.set_cons_zero, List.set_cons_succ, Nat.reduceSub, List.length_cons, List.length_nil, decide_eq_true_eq, Nat.reduceAdd, Nat.reduceLeDiff, true_and, Bool.not_true, Bool.not_false, if_true, if_false, Bool.false_eq_true, Bool.not_eq_true', decide_eq_false_iff_not, Int.reduceLE, Int.reduceLT, Int.reduceNeg, Int.reduceSub, Int.reduceAdd, and_true, PyData.int.injEq, Nat.zero_add, Int.zero_add, Int.sub_zero, addW_ii, addW_ib, addW_bi, addW_tt, addW_ll, subW_ii, subW_ib, subW_bi, mulW_ii, fdivW_ii, modW_ii, negW_i, eqW_ii, eqW_ss, eqW_t0, eqW_l0, neW_ii, neW_ss, neW_t0, neW_l0, ltW_ii, leW_ii, gtW_ii, geW_ii, isW_n, isntW_n, ixW_l, ixW_t, lenW_l, lenW_t, absW_i, intW_i, intW_b, tupW_l, tupW_t, lstW_l, lstW_t, sumW_l, allW_l, anyW_l, minW_2, maxW_2, slW_t, slW_l, revW_t, revW_l, reprW_1, strW_i, strW_b, sortW_l, sortW_t, Option.some.injEq, exists_eq_left', exists_eq_left, dKey, exists_and_left, exists_const]
      have tl : (((ys'.map PyData.int).filter p).take 1).length ≤ 1 := by rw [List.length_take]; omega
      match zs, hl3, hz with
      | [], hl3, _ =>
        refine q [] b3 ⟨.nil, (fun _ h => nomatch h), by simpa using (by omega : (0 : Int) ≤ left'), fun _ z hzm => ?_, by simp⟩ (by omega)
        have hf : (ys'.map PyData.int).filter p = [] := by
          cases hq : (ys'.map PyData.int).filter p with
          | nil => rfl
          | cons a r => rw [hq] at hl3; simp at hl3
        have := List.filter_eq_nil_iff.mp hf (.int z.1) (List.mem_map_of_mem (pm'.mem_iff.mpr (List.mem_map_of_mem (f := (·.1)) hzm)))
        have look := lookD_dict nd (show (z.1, z.2) ∈ ws from hzm)
        simpa [p, look] using this
      | [z], _, hz =>
        obtain ⟨y, li, w, rfl, hw, l0, l1, l2, _⟩ := hz z (List.mem_cons_self ..)
        exact q [(y, li)] b3 ⟨by simp [Cn.Asc], fun r hr => by rw [List.mem_singleton.mp hr]; exact ⟨w, hw, l0, l1⟩, by simpa using l2, (fun h => nomatch h), by simp⟩ (by omega)
      | _ :: _ :: _, hl3, _ => simp at hl3; omega
  · have he : (rs.map bedD).isEmpty = false := by cases rs <;> simp_all
    simp only [he, Bool.false_eq_true, if_false, S_l_trip_1, mV_e, mC_e, mO_e, mOp_e, mUn_e, mT_e, mNotT_e, mAndT_e, mOrT_e, mAnd_e, mOr_e, mNot_e, mIf_e, mChain_e, mNil_e, mCons_e, mTup_e, mLst_e, mLk_e, mCat_e, mCB_e, mCL_e, vD_e, vL_e, vM0_e, mSkip_e, mSeq_e, mAsg_e, mRet_e, mIfS_e, mDrop_e, vNil_e, vCons_e, mPar_e, bName_e, bTup_e, bNil_e, bCons_e, mUnp_e, mFor_e, mForR_e, mForR2_e, mApp_e, mYes_e, mLc_e, mLcR_e, mLcR2_e, mLcZ_e, gNo_e, gE_e, gO_e, mCall_e, mFn_e, mIsi_e, mSS_e, mNo_e, mPt_e, mSl_e, mDG_e, mDGd_e, mDIn_e, mPut_e, mSD_e, mRetO_e, vDof_e, mForZ_e, wipeE, pow6, pow7, pow9, pow15, pow18, pow39, asM, List.replicate, List.cons_append, List.nil_append, List.getElem?_cons_zero, List.getElem?_cons_succ, enAll, List.set_cons_zero, List.set_cons_succ, Nat.reduceSub, List.length_cons, List.length_nil, decide_eq_true_eq, Nat.reduceAdd, Nat.reduceLeDiff, true_and, Bool.not_true, Bool.not_false, if_true, if_false, Bool.false_eq_true, Bool.not_eq_true', decide_eq_false_iff_not, Int.reduceLE, Int.reduceLT, Int.reduceNeg, Int.reduceSub, Int.reduceAdd, and_true, PyData.int.injEq, Nat.zero_add, Int.zero_add, Int.sub_zero, addW_ii, addW_ib, addW_bi, addW_tt, addW_ll, subW_ii, subW_ib, subW_bi, mulW_ii, fdivW_ii, modW_ii, negW_i, eqW_ii, eqW_ss, eqW_t0, eqW_l0, neW_ii, neW_ss, neW_t0, neW_l0, ltW_ii, leW_ii, gtW_ii, geW_ii, isW_n, isntW_n, ixW_l, ixW_t, lenW_l, lenW_t, absW_i, intW_i, intW_b, tupW_l, tupW_t, lstW_l, lstW_t, sumW_l, allW_l, anyW_l, minW_2, maxW_2, slW_t, slW_l, revW_t, revW_l, reprW_1, strW_i, strW_b, sortW_l, sortW_t, Option.some.injEq, exists_eq_left', exists_eq_left, dKey, exists_and_left, exists_const]
    refine q rs b2 ⟨ya.sublist e1, e2, by omega, fun z => absurd z hr, by omega⟩ (by omega)
end Wp

namespace Cn
open PySem PySem.Spec PyProof.Rows L2 Evl
/-! ### enumerate(tuple) -/
theorem meets_enum1 {v : Value} {o : Obj} {H : Heap → Prop} (B : Begins v o H) :
    Meets (Builtin.«enumerate.__new__» ⟨[.type "enumerate", v], []⟩) (fun _ R s => H s.heap ∧
      R (.ok (.ret (.ref (s.heap.push o).objs.size))) { s with heap := (s.heap.push o).push { cls := .type "enumerate", data := .fields #[.none, .bool false, .ref s.heap.objs.size, rawInt 0, .none, .none] } }) :=
  .of_wp fun prog w A R s h => by
    obtain ⟨hp, g, d, tk, os⟩ := s; obtain ⟨h1, h⟩ := h
    have hsub := sub_enumerate
    have q1 : ∀ {A' : Around} {E : Value → Shared → Prop} {Q : Value → Shared → Prop}, Q (.ref hp.objs.size) ⟨hp.push o, g, d, tk, os⟩ → wpAny (model prog w) A' (pyIter v) Q E ⟨hp, g, d, tk, os⟩ :=
      fun q => B.iter prog w _ _ ⟨hp, g, d, tk, os⟩ _ h1 q
    wp_walk using q1
    refine wpAny_stack_any fun st => wpAny_pure ?_
    split
    · rename_i c _ _ _ _ _
      cases (c == Value.type "enumerate")
      · wp_walk using q1
        exact ⟨_, rfl, h⟩
      · wp_walk using q1
        exact ⟨_, rfl, h⟩
    · wp_walk using q1
      exact ⟨_, rfl, h⟩
theorem call_enum_tuple {prog : Program} {w : World} {A : Around} {E : Value → Shared → Prop} {s : Shared} {t : Addr} {items : Array Value} {Q : Value → Shared → Prop} (hT : s.heap.IsTuple t items)
    (h : ∀ h', IsEnum h' (s.heap.objs.size + 1) s.heap.objs.size 0 .none → h'.IsTupleIter s.heap.objs.size t 0 → h'.objs.size = s.heap.objs.size + 2 →
      (∀ b o, s.heap.get? b = some o → h'.get? b = some o) → Q (.ref (s.heap.objs.size + 1)) { s with heap := h' }) :
    wpAny (model prog w) A (call (.type "enumerate") [.ref t]) Q E s := by
  refine callType_new F.called_enumerate (by decide) (F.typeCall_enumerate_1 _) (F.newCall_enumerate_1 _) (fun obj => F.args_object_init_2 obj _) F.entry_enumerate_new
    (meets_enum1 (begins_tuple t items)) ⟨hT, ?_⟩
  have hz : (s.heap.push { cls := .type "tuple_iterator", data := .fields #[.ref t, .int 0 0] }).objs.size = s.heap.objs.size + 1 := Heap.size_push ..
  show _ ∧ _
  rw [hz]
  have he : IsEnum ((s.heap.push { cls := .type "tuple_iterator", data := .fields #[.ref t, .int 0 0] }).push
      { cls := .type "enumerate", data := .fields #[.none, .bool false, .ref s.heap.objs.size, rawInt 0, .none, .none] }) (s.heap.objs.size + 1) s.heap.objs.size 0 .none := by
    have := Heap.get?_push_size (s.heap.push { cls := .type "tuple_iterator", data := .fields #[.ref t, .int 0 0] })
      (o := { cls := .type "enumerate", data := .fields #[.none, .bool false, .ref s.heap.objs.size, rawInt 0, .none, .none] }) rfl
    rw [hz] at this; exact this
  refine ⟨⟨_, he, rfl⟩, h _ he ⟨_, Heap.get?_push_of_some _ (Heap.get?_push_size _ rfl), rfl, rfl⟩ (by rw [Heap.size_push, hz]) fun b o x => Heap.get?_push_of_some _ (Heap.get?_push_of_some _ x)⟩
theorem enum_tuple_end {prog : Program} {w : World} {A : Around} {E : Value → Shared → Prop} {s : Shared} {e it l : Addr} {i : Nat} {items : Array Value} {old : Value} {Q : Option Value → Shared → Prop} (hh : A.handled = none)
    (he : IsEnum s.heap e it i old) (hit : s.heap.IsTupleIter it l i) (hl : s.heap.IsTuple l items) (hx : items[i]? = none)
    (hQ : ∀ h', Heap.ExtBut it s.heap h' → Q none { s with heap := h' }) : wpAny (model prog w) A (pyNext (.ref e)) Q E s := by
  have hT : s.TypeIs (.ref e) "enumerate" := ⟨_, he, rfl⟩
  unfold pyNext
  refine wpAny_bind (wpAny_attempt (wpAny_callSpecial?_slot (name := Str.ofString "__next__") hT F.slot_enumerate_next
    (wpAny_call_entry F.slot_enumerate_next hT F.entry_enumerate_next ?_ (F.args_enumerate_next_1 _))))
  show wpAny _ _ (field (.ref e) 2 >>= _) _ _ _
  refine wpAny_bind (wpAny_field he rfl (x := .ref it) rfl ?_)
  refine wpAny_bind (wpAny_nextOf_tuple_end hh hit hl hx fun h' x he' hx' => ?_)
  obtain ⟨o, ho, hc⟩ := hx'
  refine wpAny_bind (wpAny_isInstance (T := "StopIteration") (b := true) ⟨o, ho, hc⟩ isSubtype_stop ?_)
  exact wpAny_pure (hQ _ he')
def IteT (K : PySem.W.Frag) (a : Addr) : It :=
  ⟨fun i H => ∃ (xs : List V) (x : V), SqT K H a xs ∧ xs[i]? = some x, fun i H v H' => ∃ T x, v = .ref T ∧ H T = none ∧ H' = upd H T (.tup [.int (i : Nat), x]) ∧ ∀ xs, SqT K H a xs → xs[i]? = some x, fun i H => ∃ xs : List V, SqT K H a xs ∧ xs.length ≤ i⟩
theorem turn_enumT {P : Program} {w : World} {K : PySem.W.Frag} {elts : List Expr} {kk : Nat} {tpos : Pos} (a e it : Addr) :
    Turn P w K (.Tuple elts kk tpos) (IteT K a) [e, it] e (fun i h => (∃ old, IsEnum h e it ((i : Nat) : Int) old) ∧ h.IsTupleIter it a i ∧ e ≠ it ∧ a ≠ it ∧ a ≠ e) where
  mem := by simp
  obj := fun i h st b hb => by
    obtain ⟨⟨old, he⟩, ⟨o, ho, hc, hd⟩, _⟩ := st
    have e' : b = e ∨ b = it := by simpa using hb
    rcases e' with z | z
    · rw [z]; exact ⟨_, he, fun v q => nomatch q⟩
    · rw [z]; exact ⟨o, ho, fun v q => by rw [hd] at q; cases q⟩
  keep := fun i h h' st k => let ⟨⟨old, he⟩, hi, hne⟩ := st; ⟨⟨old, k e (by simp) _ he⟩, hi.at fun o q => k it (by simp) o q, hne⟩
  item := by
    intro X hP hw hK hc i pins s σ H E I hf st hg
    subst hP hw hK
    obtain ⟨⟨old, he⟩, hit, hne, ha1, ha2⟩ := st
    obtain ⟨xs, x, hq, hx⟩ := hg
    obtain ⟨its, rv, p, hz⟩ := I.tuple hq
    obtain ⟨u, hu, ru⟩ := rv.get hx
    have hel : e < s.heap.objs.size := Heap.lt_size he
    have hil : it < s.heap.objs.size := by obtain ⟨_, q, _⟩ := hit; exact Heap.lt_size q
    have hlt : i < its.toArray.size := by rw [List.size_toArray]; exact (List.getElem?_eq_some_iff.mp hu).1
    refine wpAny_pyNext_enum_itemC (Draws.tuple (A := X.A.in1) (show X.A.in1.handled = none from I.ok.hd hc) it a ha1 its.toArray) he ⟨hit, p⟩ hlt hne (by simp [hne]; exact fun z => ha2 z.symm) fun y h' tk hP ho hst hT hsz hk => ?_
    have ey : y = u := by
      have hP' : its.toArray[i]? = some y := hP
      rw [List.getElem?_toArray, hu] at hP'
      exact (Option.some.inj hP').symm
    subst ey
    refine ⟨_, rfl, wpAny_letOwnedTupleGo_enum (s := { s with heap := h', toks := tk + 1 }) ho fun h'' he' sb => ?_⟩
    have hT2 : h''.get? s.heap.objs.size = some { cls := .type "tuple", data := .seq #[.int i tk, y] } := (sb.2 _ (Nat.ne_of_gt hel)).trans hT
    have new : ObjOk X.prog X.w (upd H s.heap.objs.size (.tup [.int (i : Nat), x])) h'' s.heap.objs.size (.tup [.int (i : Nat), x]) :=
      ⟨by show 2 ≤ sizeLine; decide, [.int i tk, y], .cons ⟨_, rfl⟩ (.cons ru .nil), ⟨_, hT2, rfl, _, rfl⟩⟩
    have I1 : Inv X pins σ (upd H s.heap.objs.size (.tup [.int (i : Nat), x])) { s with heap := h'', toks := tk + 1 } :=
      I.turnedNew (ch := [e, it]) (fun b ob hb q => (sb.2 b (fun z => hb (by simp [z]))).trans (hk b ob (fun z => hb (by simp [z])) (fun z => hb (by simp [z])) q)) hf (Nat.le_refl _) new
    refine ⟨.ref s.heap.objs.size, _, I1, rfl, ⟨_, x, rfl, I.hok.fresh (Nat.le_refl _), rfl, fun ys hy => by rw [I.tuple_inj hy hq]; exact hx⟩, ⟨⟨y, ?_⟩, hst.1.at fun o q => (sb.2 it (Ne.symm hne)).trans q, hne, ha1, ha2⟩, fun b hb => ?_⟩
    · have e1 : ((i + 1 : Nat) : Int) = (i : Int) + 1 := by omega
      rw [e1]; exact he'
    · have hb' : b < s.heap.objs.size := by
        have e' : b = e ∨ b = it := by simpa using hb
        rcases e' with z | z
        · rw [z]; exact hel
        · rw [z]; exact hil
      rw [upd_ne (Nat.ne_of_lt hb')]
      exact (hf b hb).1
  done := by
    intro X hP hw hK hc i pins s σ H E I hf st hg
    subst hP hw hK
    obtain ⟨⟨old, he⟩, hit, hne, ha1, ha2⟩ := st
    obtain ⟨xs, hq, hx⟩ := hg
    obtain ⟨its, rv, p, hz⟩ := I.tuple hq
    obtain ⟨f0, f1, f2, f3, f4, f5⟩ := hf it (by simp)
    have hl := rv.length
    exact enum_tuple_end (I.ok.hd hc) he hit p (by simp; omega) fun h' eb => ⟨rfl, I.turned (t' := s.toks) (fun b o hb q => eb b o hb q) f0 f1 f3 f4 f5⟩
  self := fun A i s Q E st h => let ⟨⟨_, he⟩, _⟩ := st; wpAny_pyIter_enum he h
def iEnumT (K : PySem.W.Frag) (ta : TA) : TI := fun σ H R => ta σ H fun vs H1 => ∃ a xs, vs = [.ref a] ∧ SqT K H1 a xs ∧ R (IteT K a) H1
theorem pi_enumT {X : Cx} {e : Expr} {ta : TA} {p pos tpos : Pos} {elts : List Expr} {kk : Nat} (hg : Gl X "enumerate") (hm : X.mg "enumerate" = none) (ha : PA X [e] ta) (hs : starEach [e] X.env = [(false, eval e X.env)] := by rfl) :
    PI X (.Tuple elts kk tpos) (.Call (.Name "enumerate" p) [e] [] pos) (iEnumT X.K ta) := by
  refine ⟨fun pins s σ H R I h => ?_⟩
  refine Call_ (ld_blt I hg hm boot_enumerate (PyProof.Rows.callWith_type1 (thn (ha.run pos pins s σ H _ I h) fun us s1 ⟨vs, H1, I1, r1, q1⟩ => ?_) hs rfl))
  obtain ⟨a, xs, ex, hq, q⟩ := q1
  subst ex
  cases r1 with
  | cons r rr =>
    cases rr
    cases r
    obtain ⟨its, rv, p', hz⟩ := I1.tuple hq
    have hal : a < s1.heap.objs.size := p'.lt
    refine call_enum_tuple p' fun h' he hit hsz hk => wpAny_pyIter_enum he ?_
    have I2 : Inv X pins σ H1 { s1 with heap := h' } := I1.kept (t' := s1.toks) hk
    refine ⟨s1.heap.objs.size + 1, [s1.heap.objs.size + 1, s1.heap.objs.size], _, _, H1, rfl, I2, turn_enumT a (s1.heap.objs.size + 1) s1.heap.objs.size, ⟨⟨.none, he⟩, hit, Nat.succ_ne_self _, Nat.ne_of_lt hal, Nat.ne_of_lt (Nat.lt_succ_of_lt hal)⟩, fun b hb => ?_, q⟩
    have e' : b = s1.heap.objs.size + 1 ∨ b = s1.heap.objs.size := by simpa using hb
    have hle : s1.heap.objs.size ≤ b := by
      rcases e' with z | z
      · rw [z]; exact Nat.le_add_right _ _
      · rw [z]; exact Nat.le_refl _
    exact I1.fpOk hle (I1.hok.fresh hle)
theorem walk_enumT {K : PySem.W.Frag} {a : Addr} {xs : List V} : Walk (IteT K a) xs.length (fun H => SqT K H a xs) (YPair (fun i => some (.int (i : Nat))) (fun i => xs[i]?)) := by
  refine ⟨fun i _ hi q => ⟨xs, xs[i], q, by simp [hi]⟩, fun _ q => ⟨xs, q, Nat.le_refl _⟩, fun i H v H' _ q y => ?_⟩
  obtain ⟨T, x, h1, h2, h3, h4⟩ := y
  exact ⟨T, .int (i : Nat), x, h1, h2, h3, rfl, h4 xs q⟩
end Cn

namespace Cn
open PySem PySem.Spec PyProof.Rows L2 Evl
/-! ### rules that name K, and arithmetic of bools -/
section
variable {X : Cx} {K : PySem.W.Frag}
theorem pe_gi {x : Str} {pos : Pos} {i : Int} {t : Tok} (hg : Gl X x) (hm : X.mg x = some (.int i t)) (hd : (x == ("__debug__" : Str)) = false := by decide) : PE X (.Name x pos) (tC (.int i)) := pe_glob (v := .int i) hg hm ⟨t, rfl⟩ hd
theorem call_isiN (h : X.K = K) : CallR X (.builtin "isinstance") (rIsi K) := h ▸ call_isi
theorem call_listZK (h : X.K = K) : CallR X (.type "list") (rListZ K) := h ▸ call_listZ
theorem pe_revTK {e : Expr} {te : TE} {k : Nat} {p1 p2 p3 pos : Pos} (h : X.K = K) (he : PE X e te) : PE X (.Subscript e (.Slice none none (some (.UnaryOp .USub (.Constant (.int 1) k p1) p2)) p3) pos) (tRevT K te) := h ▸ pe_revT he
theorem pi_enumTK {e : Expr} {ta : TA} {p pos tpos : Pos} {elts : List Expr} {kk : Nat} (h : X.K = K) (hg : Gl X "enumerate") (hm : X.mg "enumerate" = none) (ha : PA X [e] ta) (hs : starEach [e] X.env = [(false, eval e X.env)] := by rfl) :
    PI X (.Tuple elts kk tpos) (.Call (.Name "enumerate" p) [e] [] pos) (iEnumT K ta) := h ▸ pi_enumT hg hm ha hs
/-- a tuple and the empty one -/
def rNe0 (K : PySem.W.Frag) (neg : Bool) : R2 := fun x y H Q => ∃ a b xs, x = .ref a ∧ y = .ref b ∧ SqT K H a xs ∧ SqT K H b [] ∧ Q (.bl (neg != xs.isEmpty)) H
theorem op_ne0 (h : X.K = K) (hu : X.A.units + 64 < cLine) : OpR X (compareOp .NotEq) (rNe0 K true) := by
  subst h
  intro pins s σ H x y v u Q I rx ry h
  obtain ⟨a, b, xs, rfl, rfl, ha, hb, q⟩ := h
  cases rx
  cases ry
  obtain ⟨its, rv, ta, _⟩ := I.tuple ha
  obtain ⟨its2, rv2, tb, _⟩ := I.tuple hb
  cases rv2
  have l := rv.length
  refine SeqAt.RcNeAt.tuples (e := fun _ => true) ta tb (by omega) (fun j h1 h2 => by simp at h2) X.prog X.w X.xe _ ⟨.bl _, H, I, ?_, q⟩
  show _ = _
  congr 1
  cases its <;> cases xs <;> simp_all
theorem op_eq0 (h : X.K = K) (hu : X.A.units + 64 < cLine) : OpR X (compareOp .Eq) (rNe0 K false) := by
  subst h
  intro pins s σ H x y v u Q I rx ry h
  obtain ⟨a, b, xs, rfl, rfl, ha, hb, q⟩ := h
  cases rx
  cases ry
  obtain ⟨its, rv, ta, _⟩ := I.tuple ha
  obtain ⟨its2, rv2, tb, _⟩ := I.tuple hb
  cases rv2
  have l := rv.length
  refine SeqAt.RcAt.tuples (e := fun _ => true) ta tb (by omega) (fun j h1 h2 => by simp at h2) X.prog X.w X.xe _ ⟨.bl _, H, I, ?_, q⟩
  show _ = _
  congr 1
  cases its <;> cases xs <;> simp_all
/-- an int or a bool, as a number -/
def nbV : V → Option Int
  | .int i => some i
  | .bl b => some (if b = true then 1 else 0)
  | _ => none
def rNb (f : Int → Int → Int) : R2 := fun x y H Q => ∃ i j, nbV x = some i ∧ nbV y = some j ∧ ((∃ k, x = .int k) ∨ ∃ k, y = .int k) ∧ Q (.int (f i j)) H
theorem op_addB : OpR X (binaryOp .Add) (rNb (· + ·)) := by
  intro pins s σ H x y v u Q I rx ry h
  obtain ⟨i, j, hx, hy, hor, q⟩ := h
  cases x <;> simp only [nbV, reduceCtorEq, Option.some.injEq] at hx <;> cases y <;> simp only [nbV, reduceCtorEq, Option.some.injEq] at hy <;> subst hx hy
  · cases rx; cases ry; simp at hor
  · cases rx; obtain ⟨t, rfl⟩ := ry
    exact PySem.IntBool.add_bool_int ⟨.int _, H, I.tok _, ⟨_, rfl⟩, q⟩
  · obtain ⟨t, rfl⟩ := rx; cases ry
    exact add_int_bool ⟨.int _, H, I.tok _, ⟨_, rfl⟩, q⟩
  · obtain ⟨t, rfl⟩ := rx; obtain ⟨t, rfl⟩ := ry
    exact add_int ⟨.int _, H, I.tok _, ⟨_, rfl⟩, q⟩
theorem op_subB : OpR X (binaryOp .Sub) (rNb (· - ·)) := by
  intro pins s σ H x y v u Q I rx ry h
  obtain ⟨i, j, hx, hy, hor, q⟩ := h
  cases x <;> simp only [nbV, reduceCtorEq, Option.some.injEq] at hx <;> cases y <;> simp only [nbV, reduceCtorEq, Option.some.injEq] at hy <;> subst hx hy
  · cases rx; cases ry; simp at hor
  · cases rx; obtain ⟨t, rfl⟩ := ry
    exact PySem.IntBool.sub_bool_int ⟨.int _, H, I.tok _, ⟨_, rfl⟩, q⟩
  · obtain ⟨t, rfl⟩ := rx; cases ry
    exact PySem.IntBool.sub_int_bool ⟨.int _, H, I.tok _, ⟨_, rfl⟩, q⟩
  · obtain ⟨t, rfl⟩ := rx; obtain ⟨t, rfl⟩ := ry
    exact sub_int ⟨.int _, H, I.tok _, ⟨_, rfl⟩, q⟩
end
/-! ### kinds -/
def tyN : PyData → String
  | .none => "NoneType"
  | .bool _ => "bool"
  | .int _ => "int"
  | .str _ => "str"
  | .list _ => "list"
  | .tuple _ => "tuple"
  | .dict _ => "dict"
def isI : PyData → Bool
  | .int _ => true
  | .bool _ => true
  | _ => false
def isB : PyData → Bool
  | .bool _ => true
  | _ => false
def isT : PyData → Bool
  | .tuple _ => true
  | _ => false
theorem kit_int (d : PyData) : kitB (tyN d) "int" = some (isI d) := by cases d <;> simp only [tyN, isI] <;> decide +kernel
theorem kit_bool (d : PyData) : kitB (tyN d) "bool" = some (isB d) := by cases d <;> simp only [tyN, isB] <;> decide +kernel
theorem kit_tuple (d : PyData) : kitB (tyN d) "tuple" = some (isT d) := by cases d <;> simp only [tyN, isT] <;> decide +kernel
theorem Tp.tyx {K : PySem.W.Frag} {H : Hp} {v : V} {d : PyData} (h : Tp H v d) : TyX K H v (.type (tyN d)) := by
  cases h with
  | non => exact .base .non
  | bl b => exact .base (.bl b)
  | int i => exact .base (.int i)
  | str x => exact .base (.str x)
  | tup h _ =>
    rcases h with h | ⟨o, h⟩
    · exact .base (.tup h)
    · exact .fTuple h
  | lst h _ _ => exact .base (.frz h)
  | dic h _ => exact .fDict h
def nbD : PyData → Int
  | .int i => i
  | .bool b => if b = true then 1 else 0
  | _ => 0
theorem Tp.nb {H : Hp} {v : V} {d : PyData} (h : Tp H v d) (i : isI d = true) : nbV v = some (nbD d) := by
  cases h <;> simp [isI] at i <;> rfl
section
variable {K : PySem.W.Frag} {σ : L2.St} {H H' : Hp} {ta tb te tc : TE} {v : V} {d e : PyData} {ds es : List PyData}
/-- isinstance(x, c) -/
theorem ev_isi {c : String} {b : PyData → Bool} (hk : ∀ d, kitB (tyN d) c = some (b d)) (h : EvD te σ H d) : Ev (tCB (rIsi K) (tCons te (tCons (tC (.ty c)) tNil))) σ H (.bl (b d)) := fun H1 e1 Q q =>
  h H1 e1 _ fun v H2 e2 t2 => ⟨v, .ty c, .type (tyN d), .type c, b d, rfl, .ty c, t2.tyx, kit_ty (hk d), q H2 e2⟩
/-- a name that holds data -/
theorem ed_var {i : Nat} (h : σ[i]? = some (some v)) (t : Tp H v d) : EvD (tVar i) σ H d := ed_val (ev_var h) t
theorem ed_non : EvD (tC .non) σ H .none := fun H1 _ Q q => q _ H1 (Ex.refl H1) .non
theorem ed_bl {b : Bool} : EvD (tC (.bl b)) σ H (.bool b) := fun H1 _ Q q => q _ H1 (Ex.refl H1) (.bl b)
theorem ed_i {i : Int} : EvD (tC (.int i)) σ H (.int i) := fun H1 _ Q q => q _ H1 (Ex.refl H1) (.int i)
theorem ed_str {x : Str} : EvD (tC (.str x)) σ H (.str x) := fun H1 _ Q q => q _ H1 (Ex.refl H1) (.str x)
theorem ed_bv {b : Bool} (h : Ev te σ H (.bl b)) : EvD te σ H (.bool b) := fun H1 e Q q => h H1 e Q fun H2 e2 => q _ H2 e2 (.bl b)
/-- [..] that is locked -/
theorem ed_lstZ {tr : TA} (h : EvAd tr σ H ds) (hl : ds.length ≤ 100000) : EvD (tLstZ tr) σ H (.list ds) := fun H1 e Q q =>
  h H1 e _ fun vs H2 e2 t2 => ⟨sz_of (by rw [t2.length]; exact hl), fun p o hp hn => q _ _ (e2.trans (Ex.new hp)) (.lst upd_same hn (t2.mono (Tk.ex (Ex.new hp))))⟩
theorem ed_d0 : EvD (tDz tDNewK) σ H (.dict []) := fun H1 e Q q p hp => ⟨p, [], rfl, upd_same, fun o => q _ _ (fun a u ha => by
  rw [upd_upd, upd_ne (ne_of_none ha hp)]
  exact ha) (.dic upd_same (.inl ⟨rfl, rfl⟩))⟩
theorem ed_d1 : EvD (tDz (tDisp [(tC (.str "a"), tC (.int 1))])) σ H (.dict [(.str "a", .int 1)]) := fun H1 e Q q p hp =>
  ⟨upd_same, [(.inr "a", .int 1)], rfl, by decide, p, _, rfl, upd_same, fun o => q _ _ (fun a u ha => by
    rw [upd_upd, upd_upd, upd_ne (ne_of_none ha hp)]
    exact ha) (.dic upd_same (.inr ⟨rfl, rfl⟩))⟩
/-- list(tuple) that is locked -/
theorem ed_listZ (h : EvD te σ H (.tuple ds)) : EvD (tCB (rListZ K) (tCons te tNil)) σ H (.list ds) := fun H1 e Q q =>
  h H1 e _ fun v H2 e2 t2 => by
    obtain ⟨a, xs, rfl, ha, hx⟩ := t2.tup_inv
    exact ⟨a, xs, rfl, sr ha, fun l o hl hn => q _ _ (e2.trans (Ex.new hl)) (.lst upd_same hn (hx.mono (Tk.ex (Ex.new hl))))⟩
theorem TpAll.drop : ∀ {xs : List V} {ds : List PyData} (n : Nat), TpAll H xs ds → TpAll H (xs.drop n) (ds.drop n)
  | _, _, 0, h => h
  | _, _, _ + 1, .nil => .nil
  | _, _, n + 1, .cons _ b => b.drop n
theorem TpAll.reverse : ∀ {xs : List V} {ds : List PyData}, TpAll H xs ds → TpAll H xs.reverse ds.reverse
  | _, _, .nil => .nil
  | _, _, .cons a b => by
    rw [List.reverse_cons, List.reverse_cons]
    exact (TpAll.reverse b).append (.cons a .nil)
def cutD (ds : List PyData) (lo hi : Option Int) : List PyData := (ds.drop (HT.sIx ds.length 0 lo)).take (HT.sIx ds.length ds.length hi - HT.sIx ds.length 0 lo)
theorem cutD_mem {lo hi : Option Int} {d : PyData} (h : d ∈ cutD ds lo hi) : d ∈ ds := List.mem_of_mem_drop (List.mem_of_mem_take h)
theorem cutD_wv {lo hi : Option Int} : wvAll (cutD ds lo hi) ≤ wvAll ds := Nat.le_trans (wvAll_take _ _) (wvAll_drop _ _)
/-- t[lo:hi] -/
theorem ed_cut {tl th : TO} {lo hi : Option Int} (h : EvD te σ H (.tuple ds)) (hl : EvO tl σ H lo) (hh : EvO th σ H hi) : EvD (tSl (rSlA K) te tl th) σ H (.tuple (cutD ds lo hi)) := fun H1 e1 Q q =>
  h H1 e1 _ fun v H2 e2 tv => hl H2 (e1.trans e2) _ fun H3 e3 => hh H3 ((e1.trans e2).trans e3) _ fun H4 e4 => by
    obtain ⟨a, xs, rfl, ha, hb⟩ := (tv.mono (Tk.ex (e3.trans e4))).tup_inv
    have le := hb.length
    have e24 : Ex H1 H4 := e2.trans (e3.trans e4)
    refine ⟨a, xs, rfl, sr ha, fun hw => ?_, fun _ p hp => ?_⟩
    · refine q _ H4 e24 (.tup ha ?_)
      rw [le] at hw
      unfold cutD
      rw [hw.1, hw.2]
      simpa using hb
    · refine q _ _ (e24.trans (Ex.new hp)) (.tup (.inl upd_same) ?_)
      unfold cutD cutV
      rw [le]
      exact ((hb.drop _).take _).mono (Tk.ex (Ex.new hp))
/-- t + u -/
theorem ed_cat (ha : EvD ta σ H (.tuple ds)) (hb : EvD tb σ H (.tuple es)) (few : ds.length + es.length ≤ 100000) : EvD (tOp (rCatA K) ta tb) σ H (.tuple (ds ++ es)) := fun H1 e1 Q q =>
  ha H1 e1 _ fun v H2 e2 tv => hb H2 (e1.trans e2) _ fun u H3 e3 tu => by
    obtain ⟨a, xs, rfl, ha, hx⟩ := (tv.mono (Tk.ex e3)).tup_inv
    obtain ⟨b, ys, rfl, hb, hy⟩ := tu.tup_inv
    have lx := hx.length
    have ly := hy.length
    have e23 : Ex H1 H3 := e2.trans e3
    refine ⟨a, b, xs, ys, rfl, rfl, sr ha, sr hb, sz_of (by omega), fun hn => ?_, fun _ hn => ?_, fun _ _ p hp => ?_⟩
    · subst hn
      cases hx
      exact q _ H3 e23 (.tup hb hy)
    · subst hn
      cases hy
      refine q _ H3 e23 (.tup ha ?_)
      rw [List.append_nil]
      exact hx
    · exact q _ _ (e23.trans (Ex.new hp)) (.tup (.inl upd_same) ((hx.append hy).mono (Tk.ex (Ex.new hp))))
theorem cat_val {u : V} {Q : VK} (tv : Tp H v (.tuple ds)) (tu : Tp H u (.tuple es)) (few : ds.length + es.length ≤ 100000) (q : ∀ z H', Ex H H' → Tp H' z (.tuple (ds ++ es)) → Q z H') : rCatA K v u H Q :=
  ed_cat (σ := []) (ta := tC v) (tb := tC u) (ed_val ev_c tv) (ed_val ev_c tu) few H (Ex.refl H) Q q
/-- t[::-1] -/
theorem ed_rev (h : EvD te σ H (.tuple ds)) : EvD (tRevT K te) σ H (.tuple ds.reverse) := fun H1 e Q q =>
  h H1 e _ fun v H2 e2 t2 => by
    obtain ⟨a, xs, rfl, ha, hx⟩ := t2.tup_inv
    exact ⟨a, xs, rfl, sr ha, fun p hp => q _ _ (e2.trans (Ex.new hp)) (.tup (.inl upd_same) (hx.reverse.mono (Tk.ex (Ex.new hp))))⟩
/-- t[i], [..][i] -/
theorem ed_ixT {i : Nat} (h : EvD te σ H (.tuple ds)) (hi : Ev ta σ H (.int i)) (hd : ds[i]? = some d) : EvD (tOp (rIxT K) te ta) σ H d := fun H1 e Q q =>
  h H1 e _ fun v H2 e2 t2 => hi H2 (e.trans e2) _ fun H3 e3 => by
    obtain ⟨a, xs, rfl, ha, hx⟩ := (t2.mono (Tk.ex e3)).tup_inv
    obtain ⟨x, h1, h2⟩ := hx.get hd
    exact ⟨a, xs, (i : Int), x, rfl, rfl, sr ha, atI_nat h1, q _ H3 (e2.trans e3) h2⟩
theorem ed_ixL {i : Nat} (h : EvLd te σ H ds) (hi : Ev ta σ H (.int i)) (hd : ds[i]? = some d) : EvD (tOp (rIxL K) te ta) σ H d := fun H1 e Q q =>
  h H1 e _ fun p xs H2 hp e2 h2 t2 => hi H2 (e.trans e2) _ fun H3 e3 => by
    obtain ⟨x, h3, h4⟩ := (t2.mono (Tk.ex e3)).get hd
    exact ⟨p, xs, (i : Int), x, rfl, rfl, sq_of (e3 p _ h2), atI_nat h3, q _ H3 (e2.trans e3) h4⟩
/-- x + y, x - y of ints and bools -/
theorem ed_nb {f : Int → Int → Int} (ha : EvD ta σ H d) (hb : EvD tb σ H e) (id : isI d = true) (ie : isI e = true) (hor : (∃ k, d = .int k) ∨ ∃ k, e = .int k) : EvD (tOp (rNb f) ta tb) σ H (.int (f (nbD d) (nbD e))) := fun H1 e1 Q q =>
  ha H1 e1 _ fun v H2 e2 tv => hb H2 (e1.trans e2) _ fun u H3 e3 tu => by
    refine ⟨_, _, tv.nb id, tu.nb ie, ?_, q _ H3 (e2.trans e3) (.int _)⟩
    rcases hor with ⟨k, rfl⟩ | ⟨k, rfl⟩
    · exact .inl ⟨k, tv.int_inv⟩
    · exact .inr ⟨k, tu.int_inv⟩
/-- str(int), str(bool) -/
def sxD : PyData → Str
  | .int i => toString i
  | .bool b => if b then "True" else "False"
  | _ => ""
theorem ed_strV (h : EvD te σ H d) (id : isI d = true) (hb : (nbD d).natAbs < 10 ^ 40) : EvD (tCB rStrV (tCons te tNil)) σ H (.str (sxD d)) := fun H1 e1 Q q =>
  h H1 e1 _ fun v H2 e2 tv => by
    cases tv <;> simp [isI] at id
    · exact .inr ⟨_, rfl, q _ H2 e2 (.str _)⟩
    · rename_i i
      refine .inl ⟨i, rfl, ?_, q _ H2 e2 (.str _)⟩
      have h1 : i.natAbs < 10 ^ 40 := hb
      have h2 : i.natAbs < 2 ^ 1920 := Nat.lt_of_lt_of_le h1 (by decide +kernel)
      by_cases h0 : i.natAbs = 0
      · rw [h0]; decide
      · exact (Nat.log2_lt h0).2 h2
/-- tuple != (), tuple == () -/
theorem ev_ne0 {neg : Bool} (ha : EvD ta σ H (.tuple ds)) (hb : EvD tb σ H (.tuple [])) : Ev (tOp (rNe0 K neg) ta tb) σ H (.bl (neg != ds.isEmpty)) := fun H1 e1 Q q =>
  ha H1 e1 _ fun v H2 e2 tv => hb H2 (e1.trans e2) _ fun u H3 e3 tu => by
    obtain ⟨a, xs, rfl, ha, hx⟩ := (tv.mono (Tk.ex e3)).tup_inv
    obtain ⟨b, ys, rfl, hb, hy⟩ := tu.tup_inv
    cases hy
    refine ⟨a, b, xs, rfl, rfl, sr ha, sr hb, ?_⟩
    have e : xs.isEmpty = ds.isEmpty := by
      have := hx.length
      cases xs <;> cases ds <;> simp_all
    rw [e]
    exact q H3 (e2.trans e3)
/-- len(tuple) -/
theorem ev_lenT (h : EvD te σ H (.tuple ds)) : Ev (tCB (rLen K) (tCons te tNil)) σ H (.int (ds.length : Int)) := fun H1 e Q q =>
  h H1 e _ fun v H2 e2 t2 => by
    obtain ⟨a, xs, rfl, ha, hx⟩ := t2.tup_inv
    refine ⟨a, xs, rfl, .inr (sr ha), ?_⟩
    rw [hx.length]
    exact q H2 e2
/-- repr(x) -/
theorem ev_reprV (h : EvD te σ H d) (sz : Sz (10 ^ 39 + 10) 1000000 50 d) : Ev (tCB rReprV (tCons te tNil)) σ H (.str d.shown) := fun H1 e1 Q q =>
  h H1 e1 _ fun v H2 e2 t2 => ⟨v, d, rfl, .inl t2, sz, q H2 e2⟩
/-- and, or, not of values -/
theorem ev_and {a b : Bool} (h1 : Ev ta σ H (.bl a)) (h2 : a = true → Ev tb σ H (.bl b)) : Ev (tAndV ta tb) σ H (.bl (a && b)) := fun H1 e Q q => h1 H1 e _ fun H2 e2 => by
  refine ⟨a, rfl, ?_⟩
  cases a with
  | true => exact h2 rfl H2 (e.trans e2) Q fun H3 e3 => q H3 (e2.trans e3)
  | false => exact q H2 e2
theorem ev_not {a : Bool} (h1 : Ev ta σ H (.bl a)) : Ev (tNotV ta) σ H (.bl (!a)) := fun H1 e Q q => h1 H1 e _ fun H2 e2 => ⟨a, rfl, q H2 e2⟩
theorem ev_chain {f g : Int → Int → Bool} {i j k : Int} (ha : Ev ta σ H (.int i)) (hb : Ev tb σ H (.int j)) (hc : Ev tc σ H (.int k)) : Ev (tChain (rI0 fun i j => .bl (f i j)) (rI0 fun i j => .bl (g i j)) ta tb tc) σ H (.bl (f i j && g j k)) := by
  intro H1 e Q q
  refine ha H1 e _ fun H2 e2 => hb H2 (e.trans e2) _ fun H3 e3 => ⟨i, j, rfl, rfl, f i j, rfl, ?_⟩
  have e123 := e2.trans e3
  cases hf : f i j with
  | true =>
    rw [hf] at q
    exact hc H3 (e.trans e123) _ fun H4 e4 => ⟨j, k, rfl, rfl, q H4 (e123.trans e4)⟩
  | false =>
    rw [hf] at q
    exact q H3 e123
/-- a call whose promise is a value of the arguments -/
theorem ev_callV {sp : Sp} {E : XK} {tr : TA} {z : V} (h : EvAd tr σ H ds) (hs : ∀ vs H1, Ex H H1 → TpAll H1 vs ds → ∀ Q : VK, (∀ H2, Ex H1 H2 → Q z H2) → ∀ E : XK, sp vs H1 Q E) : Ev (tCall sp [] E tr) σ H z := fun H1 e Q q =>
  h H1 e _ fun vs H2 e2 t2 => by
    show sp (vs ++ []) H2 Q E
    rw [List.append_nil]
    exact hs vs H2 (e.trans e2) t2 Q (fun H3 e3 => q H3 (e2.trans e3)) E
theorem ed_callV {sp : Sp} {E : XK} {tr : TA} (h : EvAd tr σ H ds) (hs : ∀ vs H1, Ex H H1 → TpAll H1 vs ds → ∀ Q : VK, (∀ z H2, Ex H1 H2 → Tp H2 z d → Q z H2) → ∀ E : XK, sp vs H1 Q E) : EvD (tCall sp [] E tr) σ H d := fun H1 e Q q =>
  h H1 e _ fun vs H2 e2 t2 => by
    show sp (vs ++ []) H2 Q E
    rw [List.append_nil]
    exact hs vs H2 (e.trans e2) t2 Q (fun z H3 e3 t3 => q z H3 (e2.trans e3) t3) E
end
end Cn

namespace Cn
open PySem PySem.Spec PyProof.Rows L2 Evl
/-! ### gardens and their errors, as functions of any value -/
def isN (d : PyData) : Bool := isI d && !isB d
def inI (lo hi : Int) : PyData → Bool
  | .int i => decide (lo ≤ i) && decide (i ≤ hi)
  | _ => false
def fromI (lo : Int) : PyData → Bool
  | .int i => decide (lo ≤ i)
  | _ => false
def tupN (n : Int) : PyData → Bool
  | .tuple ds => decide ((ds.length : Int) = n)
  | _ => false
def bedOk : PyData → Bool
  | .tuple [p, l] => inI (-1000000) 1000000 p && inI 1 1000000000 l
  | _ => false
def placeOf : PyData → Int
  | .tuple (.int p :: _) => p
  | _ => 0
def bedErr (i : Nat) : PyData := .tuple [.int i, .str "bed"]
def berr : Nat → Int → List PyData → PyData
  | _, _, [] => .none
  | i, b, d :: ds => if bedOk d = true ∧ b < placeOf d then berr (i + 1) (placeOf d) ds else bedErr i
def firstOf : PyData → PyData
  | .tuple (p :: _) => p
  | _ => .none
def gErr (x : Str) : PyData := .tuple [.none, .str x]
def gerr : PyData → PyData
  | .tuple [t, c, b] => if inI (-1000000) 1000000 t = true then if inI 1 1000000 c = true then match b with
      | .tuple ds => if ds.length ≤ 12 then berr 0 (-1000001) ds else gErr "beds"
      | _ => gErr "beds"
    else gErr "can" else gErr "tap"
  | _ => gErr "garden"
def isNone : PyData → Bool
  | .none => true
  | _ => false
theorem isN_int {d : PyData} (h : isN d = true) : ∃ i, d = .int i := by
  cases d <;> simp [isN, isI, isB] at h
  exact ⟨_, rfl⟩
theorem isT_inv {d : PyData} (h : isT d = true) : ∃ ds, d = .tuple ds := by
  cases d <;> simp [isT] at h
  exact ⟨_, rfl⟩
theorem inI_isN {lo hi : Int} {d : PyData} (h : isN d = false) : inI lo hi d = false := by
  cases d <;> simp_all [isN, isI, isB, inI]
theorem fromI_isN {lo : Int} {d : PyData} (h : isN d = false) : fromI lo d = false := by
  cases d <;> simp_all [isN, isI, isB, fromI]
theorem tupN_inv {n : Nat} {d : PyData} (h : tupN n d = true) : ∃ ds, d = .tuple ds ∧ ds.length = n := by
  cases d <;> simp [tupN] at h
  exact ⟨_, rfl, by omega⟩
theorem tup2 {d : PyData} (h : tupN 2 d = true) : ∃ p l, d = .tuple [p, l] := by
  obtain ⟨ds, rfl, h⟩ := tupN_inv (n := 2) h
  match ds, h with
  | [p, l], _ => exact ⟨p, l, rfl⟩
theorem tup3 {d : PyData} (h : tupN 3 d = true) : ∃ a b c, d = .tuple [a, b, c] := by
  obtain ⟨ds, rfl, h⟩ := tupN_inv (n := 3) h
  match ds, h with
  | [p, l, c], _ => exact ⟨p, l, c, rfl⟩
theorem tup3_no {d : PyData} (h : tupN 3 d = false) : gerr d = gErr "garden" := by
  unfold gerr
  split
  · simp [tupN] at h
  · rfl
theorem tup2_no {d : PyData} (h : tupN 2 d = false) : bedOk d = false := by
  unfold bedOk
  split
  · simp [tupN] at h
  · rfl
theorem inI_int {lo hi : Int} {d : PyData} (h : inI lo hi d = true) : ∃ i, d = .int i ∧ lo ≤ i ∧ i ≤ hi := by
  cases d <;> simp [inI] at h
  exact ⟨_, rfl, h⟩
theorem bedOk_inv {d : PyData} (h : bedOk d = true) : ∃ p l : Int, d = .tuple [.int p, .int l] ∧ -1000000 ≤ p ∧ p ≤ 1000000 ∧ 1 ≤ l ∧ l ≤ 1000000000 := by
  unfold bedOk at h
  split at h
  · rw [Bool.and_eq_true] at h
    obtain ⟨p, rfl, h1, h2⟩ := inI_int h.1
    obtain ⟨l, rfl, h3, h4⟩ := inI_int h.2
    exact ⟨p, l, rfl, h1, h2, h3, h4⟩
  · cases h
section
variable {t c b : PyData}
theorem gerr_tap (h : inI (-1000000) 1000000 t = false) : gerr (.tuple [t, c, b]) = gErr "tap" := by cases b <;> simp [gerr, h]
theorem gerr_can (h : inI (-1000000) 1000000 t = true) (h2 : inI 1 1000000 c = false) : gerr (.tuple [t, c, b]) = gErr "can" := by cases b <;> simp [gerr, h, h2]
theorem gerr_beds (h : inI (-1000000) 1000000 t = true) (h2 : inI 1 1000000 c = true) (h3 : isT b = false) : gerr (.tuple [t, c, b]) = gErr "beds" := by cases b <;> simp [isT] at h3 <;> simp [gerr, h, h2]
theorem gerr_many {ds : List PyData} (h : inI (-1000000) 1000000 t = true) (h2 : inI 1 1000000 c = true) (h3 : ¬ ds.length ≤ 12) : gerr (.tuple [t, c, .tuple ds]) = gErr "beds" := by simp only [gerr, h, h2, if_true, if_neg h3]
theorem gerr_ok {ds : List PyData} (h : inI (-1000000) 1000000 t = true) (h2 : inI 1 1000000 c = true) (h3 : ds.length ≤ 12) : gerr (.tuple [t, c, .tuple ds]) = berr 0 (-1000001) ds := by simp only [gerr, h, h2, if_true, if_pos h3]
end
/-- the place ahead of the k-th bed -/
def befP (ds : List PyData) : Nat → Int
  | 0 => -1000001
  | k + 1 => match ds[k]? with | some d => placeOf d | none => 0
/-- the first k beds are right -/
def Fine (ds : List PyData) (k : Nat) : Prop := berr 0 (-1000001) ds = berr k (befP ds k) (ds.drop k) ∧ ∀ j, j < k → ∃ d, ds[j]? = some d ∧ bedOk d = true
theorem fine_0 (ds : List PyData) : Fine ds 0 := ⟨rfl, fun j h => absurd h (Nat.not_lt_zero _)⟩
theorem Fine.bef {ds : List PyData} {k : Nat} (h : Fine ds k) : -1000001 ≤ befP ds k := by
  cases k with
  | zero => exact Int.le_refl _
  | succ k =>
    obtain ⟨d, e, hd⟩ := h.2 k (Nat.lt_succ_self k)
    obtain ⟨p, l, rfl, h1, _⟩ := bedOk_inv hd
    simp only [befP, e, placeOf]
    omega
theorem Fine.next {ds : List PyData} {k : Nat} {d : PyData} (h : Fine ds k) (hd : ds[k]? = some d) (ok : bedOk d = true) (lt : befP ds k < placeOf d) : Fine ds (k + 1) := by
  have hk : k < ds.length := (List.getElem?_eq_some_iff.mp hd).1
  have e : ds.drop k = d :: ds.drop (k + 1) := by
    rw [List.drop_eq_getElem_cons hk, (List.getElem?_eq_some_iff.mp hd).2]
  refine ⟨?_, fun j hj => ?_⟩
  · rw [h.1, e, berr, if_pos ⟨ok, lt⟩]
    simp only [befP, hd]
  · by_cases hjk : j = k
    · subst hjk
      exact ⟨d, hd, ok⟩
    · exact h.2 j (by omega)
theorem Fine.bad {ds : List PyData} {k : Nat} {d : PyData} (h : Fine ds k) (hd : ds[k]? = some d) (no : ¬ (bedOk d = true ∧ befP ds k < placeOf d)) : berr 0 (-1000001) ds = bedErr k := by
  have hk : k < ds.length := (List.getElem?_eq_some_iff.mp hd).1
  have e : ds.drop k = d :: ds.drop (k + 1) := by
    rw [List.drop_eq_getElem_cons hk, (List.getElem?_eq_some_iff.mp hd).2]
  rw [h.1, e, berr, if_neg no]
theorem Fine.last {ds : List PyData} {k : Nat} (h : Fine ds k) (hk : ds.length ≤ k) : berr 0 (-1000001) ds = .none := by
  rw [h.1, List.drop_eq_nil_iff.mpr hk, berr]
theorem isNone_gerr_val {v : V} {H : Hp} {d : PyData} (h : Tp H v d) : decide (v = .non) = isNone d := by
  cases h <;> simp [isNone]
theorem befP_at {ds : List PyData} {k : Nat} {d : PyData} (h : ds[k]? = some d) : befP ds (k + 1) = placeOf d := by
  simp only [befP, h]
end Cn

namespace Cn
open PySem PySem.Spec PyProof.Rows L2 Evl
section
variable {σ : L2.St} {H : Hp}
theorem ev_p6 : Ev (tOp (rI CPow fun i j => .int (i ^ j.toNat)) (tC (.int 10)) (tC (.int 6))) σ H (.int 1000000) := ev_is (ev_op ev_c ev_c (rv_I (by refine ⟨by decide, by decide, by decide⟩))) (by rw [pow6])
theorem ev_p9 : Ev (tOp (rI CPow fun i j => .int (i ^ j.toNat)) (tC (.int 10)) (tC (.int 9))) σ H (.int 1000000000) := ev_is (ev_op ev_c ev_c (rv_I (by refine ⟨by decide, by decide, by decide⟩))) (by rw [pow9])
theorem pow39 : (10 : Int) ^ (39 : Int).toNat = 1000000000000000000000000000000000000000 := by decide
theorem ev_p39 : Ev (tOp (rI CPow fun i j => .int (i ^ j.toNat)) (tC (.int 10)) (tC (.int 39))) σ H (.int 1000000000000000000000000000000000000000) := ev_is (ev_op ev_c ev_c (rv_I (by refine ⟨by decide, by decide, by decide⟩))) (by rw [pow39])
theorem ev_m6 : Ev (tUn (rU fun i => .int (-i)) (tOp (rI CPow fun i j => .int (i ^ j.toNat)) (tC (.int 10)) (tC (.int 6)))) σ H (.int (-1000000)) := ev_un ev_p6 ru_neg
theorem ev_m1 : Ev (tUn (rU fun i => .int (-i)) (tC (.int 1))) σ H (.int (-1)) := ev_un ev_c ru_neg
end
/-! ### values of other kinds that are drawn -/
def oddA : List PyData := [.none, .bool true, .bool false, .int (-1), .int 0, .int 1, .int 1000000, .int 1000001, .int 1000000000000000000000000000000000000000, .str "", .str "1", .tuple [], .list [], .dict [], .tuple [.int 0], .list [.int 1], .tuple [.bool true]]
def oddB : List PyData := [.tuple [.int 0, .int 1], .tuple [.tuple [.int 0, .int 1]], .tuple [.int 0, .int 1, .tuple []], .tuple [.tuple [.tuple [.int 0, .int 1]], .int 1], .tuple [.tuple []], .dict [(.str "a", .int 1)], .int (-1000000)]
def oddL : List PyData := oddA ++ oddB
theorem odd_sz : ∀ d ∈ oddL, Sz (10 ^ 39) 2000 3 d := by
  have h : oddL.all (fun d => okV (10 ^ 39) d && decide (wv d ≤ 2000) && decide (dv d ≤ 3)) = true := by decide +kernel
  intro d hd
  have := List.all_eq_true.mp h d hd
  simp only [Bool.and_eq_true, decide_eq_true_eq] at this
  exact ⟨this.1.1, this.1.2, this.2⟩
def spOdd : Sp := fun vs H Q _ => ∃ D C m, vs = [.ref D] ∧ Deck D C m H ∧ m ≤ 900000000 ∧ ∀ v d H', d ∈ oddL → Tp H' v d → Kp D C H H' → Deck D C (m + 1) H' → Q v H'
def spPart (n : Nat) : Sp := fun vs H Q _ => ∃ D C m v d, ∃ k B kk nn : Nat, vs = [.ref D, v, .int k] ∧ k ≤ n ∧ Deck D C m H ∧ m + 2 * k ≤ 800000000 ∧ Tp H v d ∧ 10 ^ 39 ≤ B ∧ B ≤ 10 ^ 39 + 5 ∧ Sz B kk nn d ∧ kk ≤ 100000 ∧
  ∀ v' d' H', Sz (B + 1) (2 * kk + 2000) (nn + 4) d' → Tp H' v' d' → Kp D C H H' → Deck D C (m + 2 * k + 3) H' → Q v' H'
/-! ### what a changed part may be -/
section
variable {B k n : Nat} {d : PyData} {ds : List PyData}
theorem okV_mono {B B' : Nat} (b : B ≤ B') {d : PyData} (h : okV B d = true) : okV B' d = true := (Sz.mono (k := wv d) (n := dv d) ⟨h, Nat.le_refl _, Nat.le_refl _⟩ b (Nat.le_refl _) (Nat.le_refl _)).ok
theorem reprDigits {i : Int} (h : i.natAbs < 10 ^ 40) : (reprText (toString i)).length ≤ 1000 := by
  have h1 := int_text_length_le10 (a := i) (k := 40) (by decide) h
  have h2 : ((Str.ofString (toString i))).length ≤ 42 := by rw [PySem.ofString_length]; omega
  have h3 := PySem.StrLaws.reprText_len (Str.ofString (toString i)) (fun c hc => by
    have hc' : c ∈ ((toString i).toList.map Char.toNat) := by
      rw [← signs_ofString]
      exact hc
    obtain ⟨ch, _, rfl⟩ := List.mem_map.mp hc'
    have := ch.valid
    have hlt : ch.toNat < 0x110000 := by
      rcases ch.valid with z | z
      · have : ch.toNat < 0xd800 := z
        omega
      · exact z.2
    exact Nat.lt_of_lt_of_le hlt (by decide))
  have h4 : (reprText (Str.ofString (toString i))).length ≤ 10 * 42 + 2 := Nat.le_trans h3 (by omega)
  exact Nat.le_trans h4 (by decide)
/-- the seven things that become of an int (or a bool) -/
def intVar (d : PyData) : List PyData := [.int (nbD d + 1), .int (nbD d - 1), .int (0 - nbD d), .bool (PyData.eqv d (.int 1)), .str (sxD d), .tuple [d], .int 0]
theorem okV_nb (h : okV B d = true) (i : isI d = true) (hB : 1 ≤ B) : (nbD d).natAbs ≤ B := by
  cases d <;> simp [isI] at i
  · rename_i b
    cases b <;> simp [nbD] <;> omega
  · simp only [okV, decide_eq_true_eq] at h
    exact h
theorem intVar_sz (h : Sz B k n d) (i : isI d = true) (b1 : 10 ^ 39 ≤ B) (b2 : B ≤ 10 ^ 39 + 5) : ∀ e ∈ intVar d, Sz (B + 1) (2 * k + 2000) (n + 4) e := by
  have hn := okV_nb h.ok i (Nat.le_trans (by decide) b1)
  have hp := h.p
  have hw := h.w
  have num : ∀ z : Int, z.natAbs ≤ B + 1 → Sz (B + 1) (2 * k + 2000) (n + 4) (.int z) := fun z hz => ⟨by simp only [okV, decide_eq_true_eq]; exact hz, by simp only [wv]; omega, by simp only [dv]; omega⟩
  intro e he
  simp only [intVar, List.mem_cons, List.not_mem_nil, or_false] at he
  rcases he with rfl | rfl | rfl | rfl | rfl | rfl | rfl
  · exact num _ (by omega)
  · exact num _ (by omega)
  · exact num _ (by omega)
  · exact ⟨rfl, by simp only [wv]; omega, by simp only [dv]; omega⟩
  · refine ⟨?_, by simp only [wv]; omega, by simp only [dv]; omega⟩
    simp only [okV, decide_eq_true_eq]
    cases d <;> simp [isI] at i
    · rename_i b
      cases b <;> simp only [sxD] <;> decide +kernel
    · refine reprDigits ?_
      have : (10 : Nat) ^ 40 = 10 * 10 ^ 39 := by decide
      simp only [nbD] at hn
      have : (1 : Nat) ≤ 10 ^ 39 := by decide
      omega
  · refine sz_tup (fun x hx => ?_) ?_ (fun x hx => ?_) (by omega)
    · rw [List.mem_singleton.mp hx]; exact okV_mono (by omega) h.ok
    · simp only [wvAll]; omega
    · rw [List.mem_singleton.mp hx]; omega
  · exact num 0 (by simp)
/-- the seven things that become of a tuple -/
def tupVar (ds : List PyData) : List PyData := [.tuple (cutD ds (some 1) none), .tuple (cutD ds none (some (-1))), .tuple (ds ++ cutD ds (some (-1)) none), .tuple ds.reverse, .list ds, .tuple (ds ++ [.int 0]), .tuple []]
theorem tupVar_sz (h : Sz B k n (.tuple ds)) : ∀ e ∈ tupVar ds, Sz (B + 1) (2 * k + 2000) (n + 4) e := by
  obtain ⟨ho, hw, hp, hn⟩ := h.items
  have ho' : ∀ d ∈ ds, okV (B + 1) d = true := fun d hd => okV_mono (by omega) (ho d hd)
  have cut : ∀ lo hi, Sz (B + 1) (2 * k + 2000) (n + 4) (.tuple (cutD ds lo hi)) := fun lo hi => by
    have := cutD_wv (ds := ds) (lo := lo) (hi := hi)
    exact sz_tup (fun d hd => ho' d (cutD_mem hd)) (by omega) (fun d hd => by have := hp d (cutD_mem hd); omega) (by omega)
  intro e he
  simp only [tupVar, List.mem_cons, List.not_mem_nil, or_false] at he
  rcases he with rfl | rfl | rfl | rfl | rfl | rfl | rfl
  · exact cut _ _
  · exact cut _ _
  · have := cutD_wv (ds := ds) (lo := some (-1)) (hi := none)
    refine sz_tup (fun d hd => ?_) (by rw [wvAll_append]; omega) (fun d hd => ?_) (by omega)
    · rcases List.mem_append.mp hd with z | z
      · exact ho' d z
      · exact ho' d (cutD_mem z)
    · rcases List.mem_append.mp hd with z | z
      · have := hp d z; omega
      · have := hp d (cutD_mem z); omega
  · exact sz_tup (fun d hd => ho' d (List.mem_reverse.mp hd)) (by rw [wvAll_reverse]; omega) (fun d hd => by have := hp d (List.mem_reverse.mp hd); omega) (by omega)
  · exact sz_lst ho' (by omega) (fun d hd => by have := hp d hd; omega) (by omega)
  · refine sz_tup (fun d hd => ?_) (by rw [wvAll_append]; simp only [wvAll, wv]; omega) (fun d hd => ?_) (by omega)
    · rcases List.mem_append.mp hd with z | z
      · exact ho' d z
      · rw [List.mem_singleton.mp z]; simp [okV]
    · rcases List.mem_append.mp hd with z | z
      · have := hp d z; omega
      · rw [List.mem_singleton.mp z]; simp only [dv]; omega
  · exact sz_tup (fun d hd => nomatch hd) (by simp [wvAll]) (fun d hd => nomatch hd) (by omega)
/-- a part of a part -/
theorem nest_sz {i : Nat} {x e : PyData} (h : Sz B k n (.tuple ds)) (hi : ds[i]? = some x) (he : Sz (B + 1) (2 * wv x + 2000) (dv x + 4) e) : Sz (B + 1) (2 * k + 2000) (n + 4) (.tuple ((cutD ds none (some (i : Int)) ++ [e]) ++ cutD ds (some ((i : Int) + 1)) none)) := by
  obtain ⟨ho, hw, hp, hn⟩ := h.items
  have hil : i < ds.length := (List.getElem?_eq_some_iff.mp hi).1
  have hx : x ∈ ds := List.mem_of_getElem? hi
  have e1 : cutD ds none (some (i : Int)) = ds.take i := by
    unfold cutD
    rw [HT.sIx_none, HT.sIx_nat, List.drop_zero, Nat.min_eq_left (by omega), Nat.sub_zero]
  have e2 : cutD ds (some ((i : Int) + 1)) none = ds.drop (i + 1) := by
    unfold cutD
    rw [HT.sIx_none, show ((i : Int) + 1) = ((i + 1 : Nat) : Int) by omega, HT.sIx_nat, Nat.min_eq_left (by omega)]
    exact List.take_of_length_le (by rw [List.length_drop]; omega)
  rw [e1, e2]
  have split : wvAll ds = wvAll (ds.take i) + ((wv x + 2) + wvAll (ds.drop (i + 1))) := by
    have e3 : ds = ds.take i ++ (x :: ds.drop (i + 1)) := by
      have := List.take_append_drop i ds
      rw [List.drop_eq_getElem_cons hil, (List.getElem?_eq_some_iff.mp hi).2] at this
      exact this.symm
    have e4 := congrArg wvAll e3
    rw [wvAll_append] at e4
    simpa only [wvAll] using e4
  have hex := he.w
  have hep := he.p
  have hxp := hp x hx
  refine sz_tup (fun d hd => ?_) ?_ (fun d hd => ?_) (by omega)
  · rcases List.mem_append.mp hd with z | z
    · rcases List.mem_append.mp z with z | z
      · exact okV_mono (by omega) (ho d (List.mem_of_mem_take z))
      · rw [List.mem_singleton.mp z]; exact he.ok
    · exact okV_mono (by omega) (ho d (List.mem_of_mem_drop z))
  · rw [wvAll_append, wvAll_append]
    simp only [wvAll]
    omega
  · rcases List.mem_append.mp hd with z | z
    · rcases List.mem_append.mp z with z | z
      · have := hp d (List.mem_of_mem_take z); omega
      · rw [List.mem_singleton.mp z]; omega
    · have := hp d (List.mem_of_mem_drop z); omega
end
end Cn

namespace Wp
open PySem PySem.Spec PyProof.Rows L2 Evl
/-! ### values of other kinds -/
theorem odd_ok {b : Nat} {R : PyData → Nat → Prop} (hb : b ≤ 900000000) (q : ∀ d ∈ Cn.oddL, R d (b + 1)) : M_l_odd [.s 1] b R := by
  simp only [M_l_odd, mFn_e, B_l_odd, mSeq_e, List.replicate, List.cons_append, List.nil_append, List.length_cons, List.length_nil, Nat.reduceSub, Nat.reduceAdd, true_and]
  simp only [S_l_odd_2, mV_e, mC_e, mO_e, mOp_e, mUn_e, mT_e, mNotT_e, mAndT_e, mOrT_e, mAnd_e, mOr_e, mNot_e, mIf_e, mChain_e, mNil_e, mCons_e, mTup_e, mLst_e, mLk_e, mCat_e, mCB_e, mCL_e, vD_e, vL_e, vM0_e, mSkip_e, mSeq_e, mAsg_e, mRet_e, mIfS_e, mDrop_e, vNil_e, vCons_e, mPar_e, bName_e, bTup_e, bNil_e, bCons_e, mUnp_e, mFor_e, mForR_e, mForR2_e, mApp_e, mYes_e, mLc_e, mLcR_e, mLcR2_e, mLcZ_e, gNo_e, gE_e, gO_e, mCall_e, mFn_e, mIsi_e, mSS_e, mNo_e, mPt_e, mSl_e, mDG_e, mDGd_e, mDIn_e, mPut_e, mSD_e, mRetO_e, vDof_e, mForZ_e, wipeE, pow6, pow7, pow9, pow15, pow18, pow39, asM, List.replicate, List.cons_append, List.nil_append, List.getElem?_cons_zero, List.getElem?_cons_succ, enAll, List.set_cons_zero, List.set_cons_succ, Nat.reduceSub, List.length_cons, List.length_nil, decide_eq_true_eq, Nat.reduceAdd, Nat.reduceLeDiff, true_and, Bool.not_true, Bool.not_false, if_true, if_false, Bool.false_eq_true, Bool.not_eq_true', decide_eq_false_iff_not, Int.reduceLE, Int.reduceLT, Int.reduceNeg, Int.reduceSub, Int.reduceAdd, and_true, PyData.int.injEq, Nat.zero_add, Int.zero_add, Int.sub_zero, addW_ii, addW_ib, addW_bi, addW_tt, addW_ll, subW_ii, subW_ib, subW_bi, mulW_ii, fdivW_ii, modW_ii, negW_i, eqW_ii, eqW_ss, eqW_t0, eqW_l0, neW_ii, neW_ss, neW_t0, neW_l0, ltW_ii, leW_ii, gtW_ii, geW_ii, isW_n, isntW_n, ixW_l, ixW_t, lenW_l, lenW_t, absW_i, intW_i, intW_b, tupW_l, tupW_t, lstW_l, lstW_t, sumW_l, allW_l, anyW_l, minW_2, maxW_2, slW_t, slW_l, revW_t, revW_l, reprW_1, strW_i, strW_b, sortW_l, sortW_t, Option.some.injEq, exists_eq_left', exists_eq_left, dKey, exists_and_left, exists_const]
  simp only [S_l_odd_1, mV_e, mC_e, mO_e, mOp_e, mUn_e, mT_e, mNotT_e, mAndT_e, mOrT_e, mAnd_e, mOr_e, mNot_e, mIf_e, mChain_e, mNil_e, mCons_e, mTup_e, mLst_e, mLk_e, mCat_e, mCB_e, mCL_e, vD_e, vL_e, vM0_e, mSkip_e, mSeq_e, mAsg_e, mRet_e, mIfS_e, mDrop_e, vNil_e, vCons_e, mPar_e, bName_e, bTup_e, bNil_e, bCons_e, mUnp_e, mFor_e, mForR_e, mForR2_e, mApp_e, mYes_e, mLc_e, mLcR_e, mLcR2_e, mLcZ_e, gNo_e, gE_e, gO_e, mCall_e, mFn_e, mIsi_e, mSS_e, mNo_e, mPt_e, mSl_e, mDG_e, mDGd_e, mDIn_e, mPut_e, mSD_e, mRetO_e, vDof_e, mForZ_e, wipeE, pow6, pow7, pow9, pow15, pow18, pow39, asM, List.replicate, List.cons_append, List.nil_append, List.getElem?_cons_zero, List.getElem?_cons_succ, enAll, List.set_cons_zero, List.set_cons_succ, Nat.reduceSub, List.length_cons, List.length_nil, decide_eq_true_eq, Nat.reduceAdd, Nat.reduceLeDiff, true_and, Bool.not_true, Bool.not_false, if_true, if_false, Bool.false_eq_true, Bool.not_eq_true', decide_eq_false_iff_not, Int.reduceLE, Int.reduceLT, Int.reduceNeg, Int.reduceSub, Int.reduceAdd, and_true, PyData.int.injEq, Nat.zero_add, Int.zero_add, Int.sub_zero, addW_ii, addW_ib, addW_bi, addW_tt, addW_ll, subW_ii, subW_ib, subW_bi, mulW_ii, fdivW_ii, modW_ii, negW_i, eqW_ii, eqW_ss, eqW_t0, eqW_l0, neW_ii, neW_ss, neW_t0, neW_l0, ltW_ii, leW_ii, gtW_ii, geW_ii, isW_n, isntW_n, ixW_l, ixW_t, lenW_l, lenW_t, absW_i, intW_i, intW_b, tupW_l, tupW_t, lstW_l, lstW_t, sumW_l, allW_l, anyW_l, minW_2, maxW_2, slW_t, slW_l, revW_t, revW_l, reprW_1, strW_i, strW_b, sortW_l, sortW_t, Option.some.injEq, exists_eq_left', exists_eq_left, dKey, exists_and_left, exists_const]
  refine mDraw_at (by omega) (by omega) (by omega) fun r r0 r1 => ?_
  simp only [mV_e, mC_e, mO_e, mOp_e, mUn_e, mT_e, mNotT_e, mAndT_e, mOrT_e, mAnd_e, mOr_e, mNot_e, mIf_e, mChain_e, mNil_e, mCons_e, mTup_e, mLst_e, mLk_e, mCat_e, mCB_e, mCL_e, vD_e, vL_e, vM0_e, mSkip_e, mSeq_e, mAsg_e, mRet_e, mIfS_e, mDrop_e, vNil_e, vCons_e, mPar_e, bName_e, bTup_e, bNil_e, bCons_e, mUnp_e, mFor_e, mForR_e, mForR2_e, mApp_e, mYes_e, mLc_e, mLcR_e, mLcR2_e, mLcZ_e, gNo_e, gE_e, gO_e, mCall_e, mFn_e, mIsi_e, mSS_e, mNo_e, mPt_e, mSl_e, mDG_e, mDGd_e, mDIn_e, mPut_e, mSD_e, mRetO_e, vDof_e, mForZ_e, wipeE, pow6, pow7, pow9, pow15, pow18, pow39, asM, List.replicate, List.cons_append, List.nil_append, List.getElem?_cons_zero, List.getElem?_cons_succ, enAll, List.set_cons_zero, List.set_cons_succ, Nat.reduceSub, List.length_cons, List.length_nil, decide_eq_true_eq, Nat.reduceAdd, Nat.reduceLeDiff, true_and, Bool.not_true, Bool.not_false, if_true, if_false, Bool.false_eq_true, Bool.not_eq_true', decide_eq_false_iff_not, Int.reduceLE, Int.reduceLT, Int.reduceNeg, Int.reduceSub, Int.reduceAdd, and_true, PyData.int.injEq, Nat.zero_add, Int.zero_add, Int.sub_zero, addW_ii, addW_ib, addW_bi, addW_tt, addW_ll, subW_ii, subW_ib, subW_bi, mulW_ii, fdivW_ii, modW_ii, negW_i, eqW_ii, eqW_ss, eqW_t0, eqW_l0, neW_ii, neW_ss, neW_t0, neW_l0, ltW_ii, leW_ii, gtW_ii, geW_ii, isW_n, isntW_n, ixW_l, ixW_t, lenW_l, lenW_t, absW_i, intW_i, intW_b, tupW_l, tupW_t, lstW_l, lstW_t, sumW_l, allW_l, anyW_l, minW_2, maxW_2, slW_t, slW_l, revW_t, revW_l, reprW_1, strW_i, strW_b, sortW_l, sortW_t, Option.some.injEq, exists_eq_left', exists_eq_left, dKey, exists_and_left, exists_const]
  exact pick_any r0 (by simpa using r1) fun z hz => q z hz
theorem isT_inv {d : PyData} (h : isT d = true) : ∃ ds, d = .tuple ds := by
  cases d <;> simp [isT] at h
  exact ⟨_, rfl⟩
theorem strD_of {B k n : Nat} {d : PyData} (h : Cn.Sz B k n d) (b2 : B ≤ 10 ^ 39 + 5) (i : isI d = true) {R : PyData → Prop} (r : R (.str (Cn.sxD d))) : strW [d] R := by
  cases d <;> simp [isI] at i
  · exact r
  · rename_i z
    refine ⟨?_, r⟩
    have h1 : z.natAbs ≤ B := by have := h.ok; simpa only [Cn.okV, decide_eq_true_eq] using this
    have h2 : z.natAbs < 2 ^ 1920 := Nat.lt_of_le_of_lt (Nat.le_trans h1 b2) (by decide +kernel)
    by_cases h0 : z.natAbs = 0
    · rw [h0]; decide
    · exact (Nat.log2_lt h0).2 h2
theorem intD_ops {d : PyData} (i : isI d = true) {R : PyData → Prop} : (addW d (.int 1) R = R (.int (Cn.nbD d + 1))) ∧ (subW d (.int 1) R = R (.int (Cn.nbD d - 1))) ∧ (subW (.int 0) d R = R (.int (0 - Cn.nbD d))) ∧ (eqW d (.int 1) R = R (.bool (PyData.eqv d (.int 1)))) := by
  cases d <;> simp [isI] at i
  · rename_i c
    refine ⟨rfl, rfl, rfl, propext ⟨fun h => h.2, fun h => ⟨⟨rfl, rfl, by simp [PyData.depth]⟩, h⟩⟩⟩
  · rename_i z
    refine ⟨rfl, rfl, rfl, ?_⟩
    show R (.bool (decide (z = 1))) = R (.bool (PyData.eqv (.int z) (.int 1)))
    have e : decide (z = 1) = PyData.eqv (.int z) (.int 1) := by simp [PyData.eqv, Bool.beq_eq_decide_eq]
    rw [e]
theorem part_tail {Ms : WF} {d : PyData} {B kk nn b : Nat} {s2 : Sl} {R : PyData → Nat → Prop} (hb : b ≤ 800000010) (b1 : 10 ^ 39 ≤ B) (b2 : B ≤ 10 ^ 39 + 5) (sz : Cn.Sz B kk nn d) (few : kk ≤ 100000) (q : ∀ d' b', Cn.Sz (B + 1) (2 * kk + 2000) (nn + 4) d' → b' ≤ b + 2 → R d' b') :
    S_l_part_6 Ms [.s 1, .d d, s2, .no, .no] b { nx := fun E' b' => S_l_part_5 Ms E' b' { nx := fun E' b' => S_l_part_3 Ms E' b' { nx := fun E' b' => S_l_part_1 Ms E' b' { nx := fun _ b' => R .none b', rt := R }, rt := R }, rt := R }, rt := R } := by
  simp only [S_l_part_6, mV_e, mC_e, mO_e, mOp_e, mUn_e, mT_e, mNotT_e, mAndT_e, mOrT_e, mAnd_e, mOr_e, mNot_e, mIf_e, mChain_e, mNil_e, mCons_e, mTup_e, mLst_e, mLk_e, mCat_e, mCB_e, mCL_e, vD_e, vL_e, vM0_e, mSkip_e, mSeq_e, mAsg_e, mRet_e, mIfS_e, mDrop_e, vNil_e, vCons_e, mPar_e, bName_e, bTup_e, bNil_e, bCons_e, mUnp_e, mFor_e, mForR_e, mForR2_e, mApp_e, mYes_e, mLc_e, mLcR_e, mLcR2_e, mLcZ_e, gNo_e, gE_e, gO_e, mCall_e, mFn_e, mIsi_e, mSS_e, mNo_e, mPt_e, mSl_e, mDG_e, mDGd_e, mDIn_e, mPut_e, mSD_e, mRetO_e, vDof_e, mForZ_e, wipeE, pow6, pow7, pow9, pow15, pow18, pow39, asM, List.replicate, List.cons_append, List.nil_append, List.getElem?_cons_zero, List.getElem?_cons_succ, enAll, List.set_cons_zero, List.set_cons_succ, Nat.reduceSub, List.length_cons, List.length_nil, decide_eq_true_eq, Nat.reduceAdd, Nat.reduceLeDiff, true_and, Bool.not_true, Bool.not_false, if_true, if_false, Bool.false_eq_true, Bool.not_eq_true', decide_eq_false_iff_not, Int.reduceLE, Int.reduceLT, Int.reduceNeg, Int.reduceSub, Int.reduceAdd, and_true, PyData.int.injEq, Nat.zero_add, Int.zero_add, Int.sub_zero, addW_ii, addW_ib, addW_bi, addW_tt, addW_ll, subW_ii, subW_ib, subW_bi, mulW_ii, fdivW_ii, modW_ii, negW_i, eqW_ii, eqW_ss, eqW_t0, eqW_l0, neW_ii, neW_ss, neW_t0, neW_l0, ltW_ii, leW_ii, gtW_ii, geW_ii, isW_n, isntW_n, ixW_l, ixW_t, lenW_l, lenW_t, absW_i, intW_i, intW_b, tupW_l, tupW_t, lstW_l, lstW_t, sumW_l, allW_l, anyW_l, minW_2, maxW_2, slW_t, slW_l, revW_t, revW_l, reprW_1, strW_i, strW_b, sortW_l, sortW_t, Option.some.injEq, exists_eq_left', exists_eq_left, dKey, exists_and_left, exists_const]
  refine mDraw_at (by omega) (by omega) (by omega) fun r r0 r1 => ?_
  simp only [S_l_part_5, mV_e, mC_e, mO_e, mOp_e, mUn_e, mT_e, mNotT_e, mAndT_e, mOrT_e, mAnd_e, mOr_e, mNot_e, mIf_e, mChain_e, mNil_e, mCons_e, mTup_e, mLst_e, mLk_e, mCat_e, mCB_e, mCL_e, vD_e, vL_e, vM0_e, mSkip_e, mSeq_e, mAsg_e, mRet_e, mIfS_e, mDrop_e, vNil_e, vCons_e, mPar_e, bName_e, bTup_e, bNil_e, bCons_e, mUnp_e, mFor_e, mForR_e, mForR2_e, mApp_e, mYes_e, mLc_e, mLcR_e, mLcR2_e, mLcZ_e, gNo_e, gE_e, gO_e, mCall_e, mFn_e, mIsi_e, mSS_e, mNo_e, mPt_e, mSl_e, mDG_e, mDGd_e, mDIn_e, mPut_e, mSD_e, mRetO_e, vDof_e, mForZ_e, wipeE, pow6, pow7, pow9, pow15, pow18, pow39, asM, List.replicate, List.cons_append, List.nil_append, List.getElem?_cons_zero, List.getElem?_cons_succ, enAll, List.set_cons_zero, List.set_cons_succ, Nat.reduceSub, List.length_cons, List.length_nil, decide_eq_true_eq, Nat.reduceAdd, Nat.reduceLeDiff, true_and, Bool.not_true, Bool.not_false, if_true, if_false, Bool.false_eq_true, Bool.not_eq_true', decide_eq_false_iff_not, Int.reduceLE, Int.reduceLT, Int.reduceNeg, Int.reduceSub, Int.reduceAdd, and_true, PyData.int.injEq, Nat.zero_add, Int.zero_add, Int.sub_zero, addW_ii, addW_ib, addW_bi, addW_tt, addW_ll, subW_ii, subW_ib, subW_bi, mulW_ii, fdivW_ii, modW_ii, negW_i, eqW_ii, eqW_ss, eqW_t0, eqW_l0, neW_ii, neW_ss, neW_t0, neW_l0, ltW_ii, leW_ii, gtW_ii, geW_ii, isW_n, isntW_n, ixW_l, ixW_t, lenW_l, lenW_t, absW_i, intW_i, intW_b, tupW_l, tupW_t, lstW_l, lstW_t, sumW_l, allW_l, anyW_l, minW_2, maxW_2, slW_t, slW_l, revW_t, revW_l, reprW_1, strW_i, strW_b, sortW_l, sortW_t, Option.some.injEq, exists_eq_left', exists_eq_left, dKey, exists_and_left, exists_const]
  have odd : S_l_part_1 Ms [.s 1, .d d, s2, .d (.int r), .no] (b + 1) { nx := fun _ b' => R .none b', rt := R } := by
    simp only [S_l_part_1, mV_e, mC_e, mO_e, mOp_e, mUn_e, mT_e, mNotT_e, mAndT_e, mOrT_e, mAnd_e, mOr_e, mNot_e, mIf_e, mChain_e, mNil_e, mCons_e, mTup_e, mLst_e, mLk_e, mCat_e, mCB_e, mCL_e, vD_e, vL_e, vM0_e, mSkip_e, mSeq_e, mAsg_e, mRet_e, mIfS_e, mDrop_e, vNil_e, vCons_e, mPar_e, bName_e, bTup_e, bNil_e, bCons_e, mUnp_e, mFor_e, mForR_e, mForR2_e, mApp_e, mYes_e, mLc_e, mLcR_e, mLcR2_e, mLcZ_e, gNo_e, gE_e, gO_e, mCall_e, mFn_e, mIsi_e, mSS_e, mNo_e, mPt_e, mSl_e, mDG_e, mDGd_e, mDIn_e, mPut_e, mSD_e, mRetO_e, vDof_e, mForZ_e, wipeE, pow6, pow7, pow9, pow15, pow18, pow39, asM, List.replicate, List.cons_append, List.nil_append, List.getElem?_cons_zero, List.getElem?_cons_succ, enAll, List.set_cons_zero, List.set_cons_succ, Nat.reduceSub, List.length_cons, List.length_nil, decide_eq_true_eq, Nat.reduceAdd, Nat.reduceLeDiff, true_and, Bool.not_true, Bool.not_false, if_true, if_false, Bool.false_eq_true, Bool.not_eq_true', decide_eq_false_iff_not, Int.reduceLE, Int.reduceLT, Int.reduceNeg, Int.reduceSub, Int.reduceAdd, and_true, PyData.int.injEq, Nat.zero_add, Int.zero_add, Int.sub_zero, addW_ii, addW_ib, addW_bi, addW_tt, addW_ll, subW_ii, subW_ib, subW_bi, mulW_ii, fdivW_ii, modW_ii, negW_i, eqW_ii, eqW_ss, eqW_t0, eqW_l0, neW_ii, neW_ss, neW_t0, neW_l0, ltW_ii, leW_ii, gtW_ii, geW_ii, isW_n, isntW_n, ixW_l, ixW_t, lenW_l, lenW_t, absW_i, intW_i, intW_b, tupW_l, tupW_t, lstW_l, lstW_t, sumW_l, allW_l, anyW_l, minW_2, maxW_2, slW_t, slW_l, revW_t, revW_l, reprW_1, strW_i, strW_b, sortW_l, sortW_t, Option.some.injEq, exists_eq_left', exists_eq_left, dKey, exists_and_left, exists_const]
    refine odd_ok (by omega) fun e he => q e _ ?_ (by omega)
    exact (Cn.odd_sz e he).mono (by omega) (by omega) (by omega)
  have tup : S_l_part_3 Ms [.s 1, .d d, s2, .d (.int r), .no] (b + 1) { nx := fun E' b' => S_l_part_1 Ms E' b' { nx := fun _ b' => R .none b', rt := R }, rt := R } := by
    simp only [S_l_part_3, mV_e, mC_e, mO_e, mOp_e, mUn_e, mT_e, mNotT_e, mAndT_e, mOrT_e, mAnd_e, mOr_e, mNot_e, mIf_e, mChain_e, mNil_e, mCons_e, mTup_e, mLst_e, mLk_e, mCat_e, mCB_e, mCL_e, vD_e, vL_e, vM0_e, mSkip_e, mSeq_e, mAsg_e, mRet_e, mIfS_e, mDrop_e, vNil_e, vCons_e, mPar_e, bName_e, bTup_e, bNil_e, bCons_e, mUnp_e, mFor_e, mForR_e, mForR2_e, mApp_e, mYes_e, mLc_e, mLcR_e, mLcR2_e, mLcZ_e, gNo_e, gE_e, gO_e, mCall_e, mFn_e, mIsi_e, mSS_e, mNo_e, mPt_e, mSl_e, mDG_e, mDGd_e, mDIn_e, mPut_e, mSD_e, mRetO_e, vDof_e, mForZ_e, wipeE, pow6, pow7, pow9, pow15, pow18, pow39, asM, List.replicate, List.cons_append, List.nil_append, List.getElem?_cons_zero, List.getElem?_cons_succ, enAll, List.set_cons_zero, List.set_cons_succ, Nat.reduceSub, List.length_cons, List.length_nil, decide_eq_true_eq, Nat.reduceAdd, Nat.reduceLeDiff, true_and, Bool.not_true, Bool.not_false, if_true, if_false, Bool.false_eq_true, Bool.not_eq_true', decide_eq_false_iff_not, Int.reduceLE, Int.reduceLT, Int.reduceNeg, Int.reduceSub, Int.reduceAdd, and_true, PyData.int.injEq, Nat.zero_add, Int.zero_add, Int.sub_zero, addW_ii, addW_ib, addW_bi, addW_tt, addW_ll, subW_ii, subW_ib, subW_bi, mulW_ii, fdivW_ii, modW_ii, negW_i, eqW_ii, eqW_ss, eqW_t0, eqW_l0, neW_ii, neW_ss, neW_t0, neW_l0, ltW_ii, leW_ii, gtW_ii, geW_ii, isW_n, isntW_n, ixW_l, ixW_t, lenW_l, lenW_t, absW_i, intW_i, intW_b, tupW_l, tupW_t, lstW_l, lstW_t, sumW_l, allW_l, anyW_l, minW_2, maxW_2, slW_t, slW_l, revW_t, revW_l, reprW_1, strW_i, strW_b, sortW_l, sortW_t, Option.some.injEq, exists_eq_left', exists_eq_left, dKey, exists_and_left, exists_const]
    by_cases ht : isT d = true
    · rw [if_pos ht]
      by_cases h7 : r < 7
      · rw [if_pos h7]
        obtain ⟨ds, rfl⟩ := isT_inv ht
        obtain ⟨ho, hw, hp, hn⟩ := sz.items
        have len2 := Cn.len_wv ds
        have lcut : ∀ lo hi, (cutD ds lo hi).length ≤ ds.length := fun lo hi => by
          unfold cutD
          rw [List.length_take, List.length_drop]; omega
        simp only [S_l_part_2, mV_e, mC_e, mO_e, mOp_e, mUn_e, mT_e, mNotT_e, mAndT_e, mOrT_e, mAnd_e, mOr_e, mNot_e, mIf_e, mChain_e, mNil_e, mCons_e, mTup_e, mLst_e, mLk_e, mCat_e, mCB_e, mCL_e, vD_e, vL_e, vM0_e, mSkip_e, mSeq_e, mAsg_e, mRet_e, mIfS_e, mDrop_e, vNil_e, vCons_e, mPar_e, bName_e, bTup_e, bNil_e, bCons_e, mUnp_e, mFor_e, mForR_e, mForR2_e, mApp_e, mYes_e, mLc_e, mLcR_e, mLcR2_e, mLcZ_e, gNo_e, gE_e, gO_e, mCall_e, mFn_e, mIsi_e, mSS_e, mNo_e, mPt_e, mSl_e, mDG_e, mDGd_e, mDIn_e, mPut_e, mSD_e, mRetO_e, vDof_e, mForZ_e, wipeE, pow6, pow7, pow9, pow15, pow18, pow39, asM, List.replicate, List.cons_append, List.nil_append, List.getElem?_cons_zero, List.getElem?_cons_succ, enAll, List.set_cons_zero, List.set_cons_succ, Nat.reduceSub, List.length_cons, List.length_nil, decide_eq_true_eq, Nat.reduceAdd, Nat.reduceLeDiff, true_and, Bool.not_true, Bool.not_false, if_true, if_false, Bool.false_eq_true, Bool.not_eq_true', decide_eq_false_iff_not, Int.reduceLE, Int.reduceLT, Int.reduceNeg, Int.reduceSub, Int.reduceAdd, and_true, PyData.int.injEq, Nat.zero_add, Int.zero_add, Int.sub_zero, addW_ii, addW_ib, addW_bi, addW_tt, addW_ll, subW_ii, subW_ib, subW_bi, mulW_ii, fdivW_ii, modW_ii, negW_i, eqW_ii, eqW_ss, eqW_t0, eqW_l0, neW_ii, neW_ss, neW_t0, neW_l0, ltW_ii, leW_ii, gtW_ii, geW_ii, isW_n, isntW_n, ixW_l, ixW_t, lenW_l, lenW_t, absW_i, intW_i, intW_b, tupW_l, tupW_t, lstW_l, lstW_t, sumW_l, allW_l, anyW_l, minW_2, maxW_2, slW_t, slW_l, revW_t, revW_l, reprW_1, strW_i, strW_b, sortW_l, sortW_t, Option.some.injEq, exists_eq_left', exists_eq_left, dKey, exists_and_left, exists_const]
        refine ⟨by have := lcut (some (-1)) none; omega, by omega, ?_⟩
        exact pick_any r0 (by simpa using h7) fun z hz => q z _ (Cn.tupVar_sz sz z hz) (by omega)
      · rw [if_neg h7]; exact odd
    · rw [if_neg ht]; exact odd
  by_cases hi : isI d = true
  · rw [if_pos hi]
    by_cases h7 : r < 7
    · rw [if_pos h7]
      simp only [S_l_part_4, (intD_ops hi).1, (intD_ops hi).2.1, (intD_ops hi).2.2.1, (intD_ops hi).2.2.2, mV_e, mC_e, mO_e, mOp_e, mUn_e, mT_e, mNotT_e, mAndT_e, mOrT_e, mAnd_e, mOr_e, mNot_e, mIf_e, mChain_e, mNil_e, mCons_e, mTup_e, mLst_e, mLk_e, mCat_e, mCB_e, mCL_e, vD_e, vL_e, vM0_e, mSkip_e, mSeq_e, mAsg_e, mRet_e, mIfS_e, mDrop_e, vNil_e, vCons_e, mPar_e, bName_e, bTup_e, bNil_e, bCons_e, mUnp_e, mFor_e, mForR_e, mForR2_e, mApp_e, mYes_e, mLc_e, mLcR_e, mLcR2_e, mLcZ_e, gNo_e, gE_e, gO_e, mCall_e, mFn_e, mIsi_e, mSS_e, mNo_e, mPt_e, mSl_e, mDG_e, mDGd_e, mDIn_e, mPut_e, mSD_e, mRetO_e, vDof_e, mForZ_e, wipeE, pow6, pow7, pow9, pow15, pow18, pow39, asM, List.replicate, List.cons_append, List.nil_append, List.getElem?_cons_zero, List.getElem?_cons_succ, enAll, List.set_cons_zero, List.set_cons_succ, Nat.reduceSub, List.length_cons, List.length_nil, decide_eq_true_eq, Nat.reduceAdd, Nat.reduceLeDiff, true_and, Bool.not_true, Bool.not_false, if_true, if_false, Bool.false_eq_true, Bool.not_eq_true', decide_eq_false_iff_not, Int.reduceLE, Int.reduceLT, Int.reduceNeg, Int.reduceSub, Int.reduceAdd, and_true, PyData.int.injEq, Nat.zero_add, Int.zero_add, Int.sub_zero, addW_ii, addW_ib, addW_bi, addW_tt, addW_ll, subW_ii, subW_ib, subW_bi, mulW_ii, fdivW_ii, modW_ii, negW_i, eqW_ii, eqW_ss, eqW_t0, eqW_l0, neW_ii, neW_ss, neW_t0, neW_l0, ltW_ii, leW_ii, gtW_ii, geW_ii, isW_n, isntW_n, ixW_l, ixW_t, lenW_l, lenW_t, absW_i, intW_i, intW_b, tupW_l, tupW_t, lstW_l, lstW_t, sumW_l, allW_l, anyW_l, minW_2, maxW_2, slW_t, slW_l, revW_t, revW_l, reprW_1, strW_i, strW_b, sortW_l, sortW_t, Option.some.injEq, exists_eq_left', exists_eq_left, dKey, exists_and_left, exists_const]
      refine strD_of sz b2 hi ?_
      exact pick_any r0 (by simpa using h7) fun z hz => q z _ (Cn.intVar_sz sz hi b1 b2 z hz) (by omega)
    · rw [if_neg h7]; exact tup
  · rw [if_neg hi]; exact tup
theorem part_body {Ms : WF} {d : PyData} {k B kk nn b : Nat} {R : PyData → Nat → Prop} (hb : b + 2 * k ≤ 800000000) (b1 : 10 ^ 39 ≤ B) (b2 : B ≤ 10 ^ 39 + 5) (sz : Cn.Sz B kk nn d) (few : kk ≤ 100000)
    (q : ∀ d' b', Cn.Sz (B + 1) (2 * kk + 2000) (nn + 4) d' → b' ≤ b + 2 * k + 3 → R d' b')
    (self : ∀ k', k = k' + 1 → ∀ d' kk' nn' b' R', b' + 2 * k' ≤ 800000000 → Cn.Sz B kk' nn' d' → kk' ≤ 100000 → (∀ e b2, Cn.Sz (B + 1) (2 * kk' + 2000) (nn' + 4) e → b2 ≤ b' + 2 * k' + 3 → R' e b2) → Ms [.s 1, .d d', .d (.int (k' : Int))] b' R') :
    mFn 3 5 (B_l_part Ms) [.s 1, .d d, .d (.int (k : Int))] b R := by
  simp only [mFn_e, B_l_part, mSeq_e, List.replicate, List.cons_append, List.nil_append, List.length_cons, List.length_nil, Nat.reduceSub, Nat.reduceAdd, true_and]
  have tail : ∀ b', b' ≤ b + 1 → S_l_part_6 Ms [.s 1, .d d, .d (.int (k : Int)), .no, .no] b' { nx := fun E' b' => S_l_part_5 Ms E' b' { nx := fun E' b' => S_l_part_3 Ms E' b' { nx := fun E' b' => S_l_part_1 Ms E' b' { nx := fun _ b' => R .none b', rt := R }, rt := R }, rt := R }, rt := R } := fun b' hb' =>
    part_tail (by omega) b1 b2 sz few fun d' b'' s h => q d' b'' s (by omega)
  simp only [S_l_part_9, mV_e, mC_e, mO_e, mOp_e, mUn_e, mT_e, mNotT_e, mAndT_e, mOrT_e, mAnd_e, mOr_e, mNot_e, mIf_e, mChain_e, mNil_e, mCons_e, mTup_e, mLst_e, mLk_e, mCat_e, mCB_e, mCL_e, vD_e, vL_e, vM0_e, mSkip_e, mSeq_e, mAsg_e, mRet_e, mIfS_e, mDrop_e, vNil_e, vCons_e, mPar_e, bName_e, bTup_e, bNil_e, bCons_e, mUnp_e, mFor_e, mForR_e, mForR2_e, mApp_e, mYes_e, mLc_e, mLcR_e, mLcR2_e, mLcZ_e, gNo_e, gE_e, gO_e, mCall_e, mFn_e, mIsi_e, mSS_e, mNo_e, mPt_e, mSl_e, mDG_e, mDGd_e, mDIn_e, mPut_e, mSD_e, mRetO_e, vDof_e, mForZ_e, wipeE, pow6, pow7, pow9, pow15, pow18, pow39, asM, List.replicate, List.cons_append, List.nil_append, List.getElem?_cons_zero, List.getElem?_cons_succ, enAll, List.set_cons_zero, List.set_cons_succ, Nat.reduceSub, List.length_cons, List.length_nil, decide_eq_true_eq, Nat.reduceAdd, Nat.reduceLeDiff, true_and, Bool.not_true, Bool.not_false, if_true, if_false, Bool.false_eq_true, Bool.not_eq_true', decide_eq_false_iff_not, Int.reduceLE, Int.reduceLT, Int.reduceNeg, Int.reduceSub, Int.reduceAdd, and_true, PyData.int.injEq, Nat.zero_add, Int.zero_add, Int.sub_zero, addW_ii, addW_ib, addW_bi, addW_tt, addW_ll, subW_ii, subW_ib, subW_bi, mulW_ii, fdivW_ii, modW_ii, negW_i, eqW_ii, eqW_ss, eqW_t0, eqW_l0, neW_ii, neW_ss, neW_t0, neW_l0, ltW_ii, leW_ii, gtW_ii, geW_ii, isW_n, isntW_n, ixW_l, ixW_t, lenW_l, lenW_t, absW_i, intW_i, intW_b, tupW_l, tupW_t, lstW_l, lstW_t, sumW_l, allW_l, anyW_l, minW_2, maxW_2, slW_t, slW_l, revW_t, revW_l, reprW_1, strW_i, strW_b, sortW_l, sortW_t, Option.some.injEq, exists_eq_left', exists_eq_left, dKey, exists_and_left, exists_const]
  by_cases k0 : (0 : Int) < k
  · rw [if_pos k0]
    by_cases ht : isT d = true
    · rw [if_pos ht]
      obtain ⟨ds, rfl⟩ := isT_inv ht
      simp only [mV_e, mC_e, mO_e, mOp_e, mUn_e, mT_e, mNotT_e, mAndT_e, mOrT_e, mAnd_e, mOr_e, mNot_e, mIf_e, mChain_e, mNil_e, mCons_e, mTup_e, mLst_e, mLk_e, mCat_e, mCB_e, mCL_e, vD_e, vL_e, vM0_e, mSkip_e, mSeq_e, mAsg_e, mRet_e, mIfS_e, mDrop_e, vNil_e, vCons_e, mPar_e, bName_e, bTup_e, bNil_e, bCons_e, mUnp_e, mFor_e, mForR_e, mForR2_e, mApp_e, mYes_e, mLc_e, mLcR_e, mLcR2_e, mLcZ_e, gNo_e, gE_e, gO_e, mCall_e, mFn_e, mIsi_e, mSS_e, mNo_e, mPt_e, mSl_e, mDG_e, mDGd_e, mDIn_e, mPut_e, mSD_e, mRetO_e, vDof_e, mForZ_e, wipeE, pow6, pow7, pow9, pow15, pow18, pow39, asM, List.replicate, List.cons_append, List.nil_append, List.getElem?_cons_zero, List.getElem?_cons_succ, enAll, List.set_cons_zero, List.set_cons_succ, Nat.reduceSub, List.length_cons, List.length_nil, decide_eq_true_eq, Nat.reduceAdd, Nat.reduceLeDiff, true_and, Bool.not_true, Bool.not_false, if_true, if_false, Bool.false_eq_true, Bool.not_eq_true', decide_eq_false_iff_not, Int.reduceLE, Int.reduceLT, Int.reduceNeg, Int.reduceSub, Int.reduceAdd, and_true, PyData.int.injEq, Nat.zero_add, Int.zero_add, Int.sub_zero, addW_ii, addW_ib, addW_bi, addW_tt, addW_ll, subW_ii, subW_ib, subW_bi, mulW_ii, fdivW_ii, modW_ii, negW_i, eqW_ii, eqW_ss, eqW_t0, eqW_l0, neW_ii, neW_ss, neW_t0, neW_l0, ltW_ii, leW_ii, gtW_ii, geW_ii, isW_n, isntW_n, ixW_l, ixW_t, lenW_l, lenW_t, absW_i, intW_i, intW_b, tupW_l, tupW_t, lstW_l, lstW_t, sumW_l, allW_l, anyW_l, minW_2, maxW_2, slW_t, slW_l, revW_t, revW_l, reprW_1, strW_i, strW_b, sortW_l, sortW_t, Option.some.injEq, exists_eq_left', exists_eq_left, dKey, exists_and_left, exists_const]
      by_cases he : ds.isEmpty = true
      · simp only [he, Bool.not_true, Bool.false_eq_true, if_false]
        exact tail _ (by omega)
      · have he' : ds.isEmpty = false := by simpa using he
        simp only [he', Bool.not_false, if_true]
        refine mDraw_at (by omega) (by omega) (by omega) fun r r0 r1 => ?_
        simp only [mV_e, mC_e, mO_e, mOp_e, mUn_e, mT_e, mNotT_e, mAndT_e, mOrT_e, mAnd_e, mOr_e, mNot_e, mIf_e, mChain_e, mNil_e, mCons_e, mTup_e, mLst_e, mLk_e, mCat_e, mCB_e, mCL_e, vD_e, vL_e, vM0_e, mSkip_e, mSeq_e, mAsg_e, mRet_e, mIfS_e, mDrop_e, vNil_e, vCons_e, mPar_e, bName_e, bTup_e, bNil_e, bCons_e, mUnp_e, mFor_e, mForR_e, mForR2_e, mApp_e, mYes_e, mLc_e, mLcR_e, mLcR2_e, mLcZ_e, gNo_e, gE_e, gO_e, mCall_e, mFn_e, mIsi_e, mSS_e, mNo_e, mPt_e, mSl_e, mDG_e, mDGd_e, mDIn_e, mPut_e, mSD_e, mRetO_e, vDof_e, mForZ_e, wipeE, pow6, pow7, pow9, pow15, pow18, pow39, asM, List.replicate, List.cons_append, List.nil_append, List.getElem?_cons_zero, List.getElem?_cons_succ, enAll, List.set_cons_zero, List.set_cons_succ, Nat.reduceSub, List.length_cons, List.length_nil, decide_eq_true_eq, Nat.reduceAdd, Nat.reduceLeDiff, true_and, Bool.not_true, Bool.not_false, if_true, if_false, Bool.false_eq_true, Bool.not_eq_true', decide_eq_false_iff_not, Int.reduceLE, Int.reduceLT, Int.reduceNeg, Int.reduceSub, Int.reduceAdd, and_true, PyData.int.injEq, Nat.zero_add, Int.zero_add, Int.sub_zero, addW_ii, addW_ib, addW_bi, addW_tt, addW_ll, subW_ii, subW_ib, subW_bi, mulW_ii, fdivW_ii, modW_ii, negW_i, eqW_ii, eqW_ss, eqW_t0, eqW_l0, neW_ii, neW_ss, neW_t0, neW_l0, ltW_ii, leW_ii, gtW_ii, geW_ii, isW_n, isntW_n, ixW_l, ixW_t, lenW_l, lenW_t, absW_i, intW_i, intW_b, tupW_l, tupW_t, lstW_l, lstW_t, sumW_l, allW_l, anyW_l, minW_2, maxW_2, slW_t, slW_l, revW_t, revW_l, reprW_1, strW_i, strW_b, sortW_l, sortW_t, Option.some.injEq, exists_eq_left', exists_eq_left, dKey, exists_and_left, exists_const]
        by_cases rz : 0 < r
        · rw [if_pos rz]
          obtain ⟨ho, hw, hp, hn⟩ := sz.items
          have len2 := Cn.len_wv ds
          have len0 : 1 ≤ ds.length := by cases ds <;> simp at he' ⊢
          simp only [S_l_part_8, mV_e, mC_e, mO_e, mOp_e, mUn_e, mT_e, mNotT_e, mAndT_e, mOrT_e, mAnd_e, mOr_e, mNot_e, mIf_e, mChain_e, mNil_e, mCons_e, mTup_e, mLst_e, mLk_e, mCat_e, mCB_e, mCL_e, vD_e, vL_e, vM0_e, mSkip_e, mSeq_e, mAsg_e, mRet_e, mIfS_e, mDrop_e, vNil_e, vCons_e, mPar_e, bName_e, bTup_e, bNil_e, bCons_e, mUnp_e, mFor_e, mForR_e, mForR2_e, mApp_e, mYes_e, mLc_e, mLcR_e, mLcR2_e, mLcZ_e, gNo_e, gE_e, gO_e, mCall_e, mFn_e, mIsi_e, mSS_e, mNo_e, mPt_e, mSl_e, mDG_e, mDGd_e, mDIn_e, mPut_e, mSD_e, mRetO_e, vDof_e, mForZ_e, wipeE, pow6, pow7, pow9, pow15, pow18, pow39, asM, List.replicate, List.cons_append, List.nil_append, List.getElem?_cons_zero, List.getElem?_cons_succ, enAll, List.set_cons_zero, List.set_cons_succ, Nat.reduceSub, List.length_cons, List.length_nil, decide_eq_true_eq, Nat.reduceAdd, Nat.reduceLeDiff, true_and, Bool.not_true, Bool.not_false, if_true, if_false, Bool.false_eq_true, Bool.not_eq_true', decide_eq_false_iff_not, Int.reduceLE, Int.reduceLT, Int.reduceNeg, Int.reduceSub, Int.reduceAdd, and_true, PyData.int.injEq, Nat.zero_add, Int.zero_add, Int.sub_zero, addW_ii, addW_ib, addW_bi, addW_tt, addW_ll, subW_ii, subW_ib, subW_bi, mulW_ii, fdivW_ii, modW_ii, negW_i, eqW_ii, eqW_ss, eqW_t0, eqW_l0, neW_ii, neW_ss, neW_t0, neW_l0, ltW_ii, leW_ii, gtW_ii, geW_ii, isW_n, isntW_n, ixW_l, ixW_t, lenW_l, lenW_t, absW_i, intW_i, intW_b, tupW_l, tupW_t, lstW_l, lstW_t, sumW_l, allW_l, anyW_l, minW_2, maxW_2, slW_t, slW_l, revW_t, revW_l, reprW_1, strW_i, strW_b, sortW_l, sortW_t, Option.some.injEq, exists_eq_left', exists_eq_left, dKey, exists_and_left, exists_const]
          refine mDraw_at (by omega) (by omega) (by omega) fun j j0 j1 => ?_
          obtain ⟨i, rfl⟩ : ∃ i : Nat, j = i := ⟨j.toNat, by omega⟩
          have hi : i < ds.length := by omega
          have hx : ds[i]? = some ds[i] := List.getElem?_eq_getElem hi
          simp only [S_l_part_7, mV_e, mC_e, mO_e, mOp_e, mUn_e, mT_e, mNotT_e, mAndT_e, mOrT_e, mAnd_e, mOr_e, mNot_e, mIf_e, mChain_e, mNil_e, mCons_e, mTup_e, mLst_e, mLk_e, mCat_e, mCB_e, mCL_e, vD_e, vL_e, vM0_e, mSkip_e, mSeq_e, mAsg_e, mRet_e, mIfS_e, mDrop_e, vNil_e, vCons_e, mPar_e, bName_e, bTup_e, bNil_e, bCons_e, mUnp_e, mFor_e, mForR_e, mForR2_e, mApp_e, mYes_e, mLc_e, mLcR_e, mLcR2_e, mLcZ_e, gNo_e, gE_e, gO_e, mCall_e, mFn_e, mIsi_e, mSS_e, mNo_e, mPt_e, mSl_e, mDG_e, mDGd_e, mDIn_e, mPut_e, mSD_e, mRetO_e, vDof_e, mForZ_e, wipeE, pow6, pow7, pow9, pow15, pow18, pow39, asM, List.replicate, List.cons_append, List.nil_append, List.getElem?_cons_zero, List.getElem?_cons_succ, enAll, List.set_cons_zero, List.set_cons_succ, Nat.reduceSub, List.length_cons, List.length_nil, decide_eq_true_eq, Nat.reduceAdd, Nat.reduceLeDiff, true_and, Bool.not_true, Bool.not_false, if_true, if_false, Bool.false_eq_true, Bool.not_eq_true', decide_eq_false_iff_not, Int.reduceLE, Int.reduceLT, Int.reduceNeg, Int.reduceSub, Int.reduceAdd, and_true, PyData.int.injEq, Nat.zero_add, Int.zero_add, Int.sub_zero, addW_ii, addW_ib, addW_bi, addW_tt, addW_ll, subW_ii, subW_ib, subW_bi, mulW_ii, fdivW_ii, modW_ii, negW_i, eqW_ii, eqW_ss, eqW_t0, eqW_l0, neW_ii, neW_ss, neW_t0, neW_l0, ltW_ii, leW_ii, gtW_ii, geW_ii, isW_n, isntW_n, ixW_l, ixW_t, lenW_l, lenW_t, absW_i, intW_i, intW_b, tupW_l, tupW_t, lstW_l, lstW_t, sumW_l, allW_l, anyW_l, minW_2, maxW_2, slW_t, slW_l, revW_t, revW_l, reprW_1, strW_i, strW_b, sortW_l, sortW_t, Option.some.injEq, exists_eq_left', exists_eq_left, dKey, exists_and_left, exists_const]
          refine ⟨ds[i], atI_nat hx, ?_⟩
          obtain ⟨k', rfl⟩ : ∃ k', k = k' + 1 := ⟨k - 1, by omega⟩
          have ek : ((k' + 1 : Nat) : Int) - 1 = (k' : Int) := by omega
          rw [ek]
          have hwx := Cn.wv_mem (List.getElem_mem hi)
          refine self k' rfl ds[i] (Cn.wv ds[i]) (Cn.dv ds[i]) _ _ (by omega) ⟨ho _ (List.getElem_mem hi), Nat.le_refl _, Nat.le_refl _⟩ (by omega) fun e b3 sze hb3 => ?_
          have lcut : ∀ lo hi, (cutD ds lo hi).length ≤ ds.length := fun lo hi => by
            unfold cutD
            rw [List.length_take, List.length_drop]; omega
          have l1 := lcut none (some (i : Int))
          have l2 := lcut (some ((i : Int) + 1)) none
          refine ⟨by omega, by rw [List.length_append]; simp; omega, ?_⟩
          exact q _ _ (Cn.nest_sz sz hx sze) (by omega)
        · rw [if_neg rz]
          exact tail _ (by omega)
    · rw [if_neg ht]
      exact tail _ (by omega)
  · rw [if_neg k0]
    exact tail _ (by omega)
theorem part_ok : ∀ (n : Nat) {d : PyData} {k B kk nn b : Nat} {R : PyData → Nat → Prop}, k ≤ n → b + 2 * k ≤ 800000000 → 10 ^ 39 ≤ B → B ≤ 10 ^ 39 + 5 → Cn.Sz B kk nn d → kk ≤ 100000 →
    (∀ d' b', Cn.Sz (B + 1) (2 * kk + 2000) (nn + 4) d' → b' ≤ b + 2 * k + 3 → R d' b') → M_l_part (n + 1) [.s 1, .d d, .d (.int (k : Int))] b R
  | 0, d, k, B, kk, nn, b, R, hk, hb, b1, b2, sz, few, q => part_body hb b1 b2 sz few q fun k' e => by omega
  | n + 1, d, k, B, kk, nn, b, R, hk, hb, b1, b2, sz, few, q => part_body hb b1 b2 sz few q fun k' e d' kk' nn' b' R' h1 h2 h3 h4 => part_ok n (by omega) h1 b1 b2 h2 h3 h4
end Wp

namespace Wp
open PySem PySem.Spec PyProof.Rows L2 Evl
/-! ### trips, by the program and by the law -/
def isN (d : PyData) : Bool := isI d && !isB d
theorem isN_inv {d : PyData} (h : isN d = true) : ∃ i, d = .int i := by
  cases d <;> simp [isN, isI, isB] at h
  exact ⟨_, rfl⟩
theorem is_number_ok {d : PyData} {b : Nat} {R : PyData → Nat → Prop} (q : R (.bool (isN d)) b) : M_is_number [.d d] b R := by
  simp only [M_is_number, mFn_e, B_is_number, S_is_number_1, mV_e, mC_e, mO_e, mOp_e, mUn_e, mT_e, mNotT_e, mAndT_e, mOrT_e, mAnd_e, mOr_e, mNot_e, mIf_e, mChain_e, mNil_e, mCons_e, mTup_e, mLst_e, mLk_e, mCat_e, mCB_e, mCL_e, vD_e, vL_e, vM0_e, mSkip_e, mSeq_e, mAsg_e, mRet_e, mIfS_e, mDrop_e, vNil_e, vCons_e, mPar_e, bName_e, bTup_e, bNil_e, bCons_e, mUnp_e, mFor_e, mForR_e, mForR2_e, mApp_e, mYes_e, mLc_e, mLcR_e, mLcR2_e, mLcZ_e, gNo_e, gE_e, gO_e, mCall_e, mFn_e, mIsi_e, mSS_e, mNo_e, mPt_e, mSl_e, mDG_e, mDGd_e, mDIn_e, mPut_e, mSD_e, mRetO_e, vDof_e, mForZ_e, wipeE, pow6, pow7, pow9, pow15, pow18, pow39, asM, List.replicate, List.cons_append, List.nil_append, List.getElem?_cons_zero, List.getElem?_cons_succ, enAll, List.set_cons_zero, List.set_cons_succ, Nat.reduceSub, List.length_cons, List.length_nil, decide_eq_true_eq, Nat.reduceAdd, Nat.reduceLeDiff, true_and, Bool.not_true, Bool.not_false, if_true, if_false, Bool.false_eq_true, Bool.not_eq_true', decide_eq_false_iff_not, Int.reduceLE, Int.reduceLT, Int.reduceNeg, Int.reduceSub, Int.reduceAdd, and_true, PyData.int.injEq, Nat.zero_add, Int.zero_add, Int.sub_zero, addW_ii, addW_ib, addW_bi, addW_tt, addW_ll, subW_ii, subW_ib, subW_bi, mulW_ii, fdivW_ii, modW_ii, negW_i, eqW_ii, eqW_ss, eqW_t0, eqW_l0, neW_ii, neW_ss, neW_t0, neW_l0, ltW_ii, leW_ii, gtW_ii, geW_ii, isW_n, isntW_n, ixW_l, ixW_t, lenW_l, lenW_t, absW_i, intW_i, intW_b, tupW_l, tupW_t, lstW_l, lstW_t, sumW_l, allW_l, anyW_l, minW_2, maxW_2, slW_t, slW_l, revW_t, revW_l, reprW_1, strW_i, strW_b, sortW_l, sortW_t, Option.some.injEq, exists_eq_left', exists_eq_left, dKey, exists_and_left, exists_const]
  cases h : isI d
  · simpa [isN, h] using q
  · simpa [isN, h] using q
def fromI (lo : Int) : PyData → Bool
  | .int i => decide (lo ≤ i)
  | _ => false
def tupN (n : Int) : PyData → Bool
  | .tuple ds => decide ((ds.length : Int) = n)
  | _ => false
theorem is_number_from_ok {d : PyData} {lo : Int} {b : Nat} {R : PyData → Nat → Prop} (q : R (.bool (fromI lo d)) b) : M_is_number_from [.d d, .d (.int lo)] b R := by
  simp only [M_is_number_from, mFn_e, B_is_number_from, S_is_number_from_1, mV_e, mC_e, mO_e, mOp_e, mUn_e, mT_e, mNotT_e, mAndT_e, mOrT_e, mAnd_e, mOr_e, mNot_e, mIf_e, mChain_e, mNil_e, mCons_e, mTup_e, mLst_e, mLk_e, mCat_e, mCB_e, mCL_e, vD_e, vL_e, vM0_e, mSkip_e, mSeq_e, mAsg_e, mRet_e, mIfS_e, mDrop_e, vNil_e, vCons_e, mPar_e, bName_e, bTup_e, bNil_e, bCons_e, mUnp_e, mFor_e, mForR_e, mForR2_e, mApp_e, mYes_e, mLc_e, mLcR_e, mLcR2_e, mLcZ_e, gNo_e, gE_e, gO_e, mCall_e, mFn_e, mIsi_e, mSS_e, mNo_e, mPt_e, mSl_e, mDG_e, mDGd_e, mDIn_e, mPut_e, mSD_e, mRetO_e, vDof_e, mForZ_e, wipeE, pow6, pow7, pow9, pow15, pow18, pow39, asM, List.replicate, List.cons_append, List.nil_append, List.getElem?_cons_zero, List.getElem?_cons_succ, enAll, List.set_cons_zero, List.set_cons_succ, Nat.reduceSub, List.length_cons, List.length_nil, decide_eq_true_eq, Nat.reduceAdd, Nat.reduceLeDiff, true_and, Bool.not_true, Bool.not_false, if_true, if_false, Bool.false_eq_true, Bool.not_eq_true', decide_eq_false_iff_not, Int.reduceLE, Int.reduceLT, Int.reduceNeg, Int.reduceSub, Int.reduceAdd, and_true, PyData.int.injEq, Nat.zero_add, Int.zero_add, Int.sub_zero, addW_ii, addW_ib, addW_bi, addW_tt, addW_ll, subW_ii, subW_ib, subW_bi, mulW_ii, fdivW_ii, modW_ii, negW_i, eqW_ii, eqW_ss, eqW_t0, eqW_l0, neW_ii, neW_ss, neW_t0, neW_l0, ltW_ii, leW_ii, gtW_ii, geW_ii, isW_n, isntW_n, ixW_l, ixW_t, lenW_l, lenW_t, absW_i, intW_i, intW_b, tupW_l, tupW_t, lstW_l, lstW_t, sumW_l, allW_l, anyW_l, minW_2, maxW_2, slW_t, slW_l, revW_t, revW_l, reprW_1, strW_i, strW_b, sortW_l, sortW_t, Option.some.injEq, exists_eq_left', exists_eq_left, dKey, exists_and_left, exists_const]
  refine is_number_ok ?_
  cases d <;> simpa [isN, isI, isB, leW_ii, fromI] using q
theorem is_tuple_of_ok {d : PyData} {n : Int} {b : Nat} {R : PyData → Nat → Prop} (q : R (.bool (tupN n d)) b) : M_is_tuple_of [.d d, .d (.int n)] b R := by
  simp only [M_is_tuple_of, mFn_e, B_is_tuple_of, S_is_tuple_of_1, mV_e, mC_e, mO_e, mOp_e, mUn_e, mT_e, mNotT_e, mAndT_e, mOrT_e, mAnd_e, mOr_e, mNot_e, mIf_e, mChain_e, mNil_e, mCons_e, mTup_e, mLst_e, mLk_e, mCat_e, mCB_e, mCL_e, vD_e, vL_e, vM0_e, mSkip_e, mSeq_e, mAsg_e, mRet_e, mIfS_e, mDrop_e, vNil_e, vCons_e, mPar_e, bName_e, bTup_e, bNil_e, bCons_e, mUnp_e, mFor_e, mForR_e, mForR2_e, mApp_e, mYes_e, mLc_e, mLcR_e, mLcR2_e, mLcZ_e, gNo_e, gE_e, gO_e, mCall_e, mFn_e, mIsi_e, mSS_e, mNo_e, mPt_e, mSl_e, mDG_e, mDGd_e, mDIn_e, mPut_e, mSD_e, mRetO_e, vDof_e, mForZ_e, wipeE, pow6, pow7, pow9, pow15, pow18, pow39, asM, List.replicate, List.cons_append, List.nil_append, List.getElem?_cons_zero, List.getElem?_cons_succ, enAll, List.set_cons_zero, List.set_cons_succ, Nat.reduceSub, List.length_cons, List.length_nil, decide_eq_true_eq, Nat.reduceAdd, Nat.reduceLeDiff, true_and, Bool.not_true, Bool.not_false, if_true, if_false, Bool.false_eq_true, Bool.not_eq_true', decide_eq_false_iff_not, Int.reduceLE, Int.reduceLT, Int.reduceNeg, Int.reduceSub, Int.reduceAdd, and_true, PyData.int.injEq, Nat.zero_add, Int.zero_add, Int.sub_zero, addW_ii, addW_ib, addW_bi, addW_tt, addW_ll, subW_ii, subW_ib, subW_bi, mulW_ii, fdivW_ii, modW_ii, negW_i, eqW_ii, eqW_ss, eqW_t0, eqW_l0, neW_ii, neW_ss, neW_t0, neW_l0, ltW_ii, leW_ii, gtW_ii, geW_ii, isW_n, isntW_n, ixW_l, ixW_t, lenW_l, lenW_t, absW_i, intW_i, intW_b, tupW_l, tupW_t, lstW_l, lstW_t, sumW_l, allW_l, anyW_l, minW_2, maxW_2, slW_t, slW_l, revW_t, revW_l, reprW_1, strW_i, strW_b, sortW_l, sortW_t, Option.some.injEq, exists_eq_left', exists_eq_left, dKey, exists_and_left, exists_const]
  cases d <;> simpa [isT, lenW_t, eqW_ii, tupN] using q
def rowOf : PyData → Option Bed
  | .tuple [.int p, .int l] => some (p, l)
  | _ => none
def rowOk (ps : List Int) (d : PyData) : Bool := match rowOf d with
  | some r => ps.contains r.1 && decide (1 ≤ r.2)
  | none => false
theorem plain_ints : ∀ ps : List Int, PyData.plainAll (ps.map PyData.int) = true
  | [] => rfl
  | p :: ps => by rw [List.map_cons, PyData.plainAll, plain_ints ps]; rfl
theorem depth_ints : ∀ ps : List Int, PyData.depthAll (ps.map PyData.int) = 0
  | [] => by simp [PyData.depthAll]
  | p :: ps => by rw [List.map_cons, PyData.depthAll, depth_ints ps]; simp [PyData.depth]
theorem any_ints (ps : List Int) (p : Int) : ((ps.map PyData.int).any fun y => PyData.eqv y (.int p)) = ps.contains p := by
  induction ps with
  | nil => rfl
  | cons x r ih =>
    rw [List.map_cons, List.any_cons, ih, List.contains_cons]
    congr 1
    simp [PyData.eqv, Bool.beq_comm]
theorem in_ints {ps : List Int} {p : Int} {R : PyData → Prop} (q : R (.bool (ps.contains p))) : inW (.int p) (.list (ps.map PyData.int)) R :=
  ⟨⟨plain_ints ps, rfl, by rw [depth_ints]; omega⟩, by rw [any_ints]; exact q⟩
theorem nin_ints {ps : List Int} {p : Int} {R : PyData → Prop} (q : R (.bool (!ps.contains p))) : ninW (.int p) (.list (ps.map PyData.int)) R :=
  ⟨⟨plain_ints ps, rfl, by rw [depth_ints]; omega⟩, by rw [any_ints]; exact q⟩
theorem is_row_ok {ps : List Int} {d : PyData} {b : Nat} {R : PyData → Nat → Prop} (q : R (.bool (rowOk ps d)) b) : M_is_row [.d (.list (ps.map PyData.int)), .d d] b R := by
  simp only [M_is_row, mFn_e, B_is_row, mSeq_e, List.replicate, List.cons_append, List.nil_append, List.length_cons, List.length_nil, Nat.reduceSub, Nat.reduceAdd, true_and]
  simp only [S_is_row_4, mV_e, mC_e, mO_e, mOp_e, mUn_e, mT_e, mNotT_e, mAndT_e, mOrT_e, mAnd_e, mOr_e, mNot_e, mIf_e, mChain_e, mNil_e, mCons_e, mTup_e, mLst_e, mLk_e, mCat_e, mCB_e, mCL_e, vD_e, vL_e, vM0_e, mSkip_e, mSeq_e, mAsg_e, mRet_e, mIfS_e, mDrop_e, vNil_e, vCons_e, mPar_e, bName_e, bTup_e, bNil_e, bCons_e, mUnp_e, mFor_e, mForR_e, mForR2_e, mApp_e, mYes_e, mLc_e, mLcR_e, mLcR2_e, mLcZ_e, gNo_e, gE_e, gO_e, mCall_e, mFn_e, mIsi_e, mSS_e, mNo_e, mPt_e, mSl_e, mDG_e, mDGd_e, mDIn_e, mPut_e, mSD_e, mRetO_e, vDof_e, mForZ_e, wipeE, pow6, pow7, pow9, pow15, pow18, pow39, asM, List.replicate, List.cons_append, List.nil_append, List.getElem?_cons_zero, List.getElem?_cons_succ, enAll, List.set_cons_zero, List.set_cons_succ, Nat.reduceSub, List.length_cons, List.length_nil, decide_eq_true_eq, Nat.reduceAdd, Nat.reduceLeDiff, true_and, Bool.not_true, Bool.not_false, if_true, if_false, Bool.false_eq_true, Bool.not_eq_true', decide_eq_false_iff_not, Int.reduceLE, Int.reduceLT, Int.reduceNeg, Int.reduceSub, Int.reduceAdd, and_true, PyData.int.injEq, Nat.zero_add, Int.zero_add, Int.sub_zero, addW_ii, addW_ib, addW_bi, addW_tt, addW_ll, subW_ii, subW_ib, subW_bi, mulW_ii, fdivW_ii, modW_ii, negW_i, eqW_ii, eqW_ss, eqW_t0, eqW_l0, neW_ii, neW_ss, neW_t0, neW_l0, ltW_ii, leW_ii, gtW_ii, geW_ii, isW_n, isntW_n, ixW_l, ixW_t, lenW_l, lenW_t, absW_i, intW_i, intW_b, tupW_l, tupW_t, lstW_l, lstW_t, sumW_l, allW_l, anyW_l, minW_2, maxW_2, slW_t, slW_l, revW_t, revW_l, reprW_1, strW_i, strW_b, sortW_l, sortW_t, Option.some.injEq, exists_eq_left', exists_eq_left, dKey, exists_and_left, exists_const]
  refine is_tuple_of_ok ?_
  have no : ∀ {d}, rowOf d = none → rowOk ps d = false := fun h => by simp [rowOk, h]
  cases d with
  | tuple ds =>
    match ds with
    | [x, y] =>
      have l2 : tupN 2 (.tuple [x, y]) = true := rfl
      simp only [l2, Bool.not_true, Bool.false_eq_true, if_false]
      simp only [S_is_row_2, mV_e, mC_e, mO_e, mOp_e, mUn_e, mT_e, mNotT_e, mAndT_e, mOrT_e, mAnd_e, mOr_e, mNot_e, mIf_e, mChain_e, mNil_e, mCons_e, mTup_e, mLst_e, mLk_e, mCat_e, mCB_e, mCL_e, vD_e, vL_e, vM0_e, mSkip_e, mSeq_e, mAsg_e, mRet_e, mIfS_e, mDrop_e, vNil_e, vCons_e, mPar_e, bName_e, bTup_e, bNil_e, bCons_e, mUnp_e, mFor_e, mForR_e, mForR2_e, mApp_e, mYes_e, mLc_e, mLcR_e, mLcR2_e, mLcZ_e, gNo_e, gE_e, gO_e, mCall_e, mFn_e, mIsi_e, mSS_e, mNo_e, mPt_e, mSl_e, mDG_e, mDGd_e, mDIn_e, mPut_e, mSD_e, mRetO_e, vDof_e, mForZ_e, wipeE, pow6, pow7, pow9, pow15, pow18, pow39, asM, List.replicate, List.cons_append, List.nil_append, List.getElem?_cons_zero, List.getElem?_cons_succ, enAll, List.set_cons_zero, List.set_cons_succ, Nat.reduceSub, List.length_cons, List.length_nil, decide_eq_true_eq, Nat.reduceAdd, Nat.reduceLeDiff, true_and, Bool.not_true, Bool.not_false, if_true, if_false, Bool.false_eq_true, Bool.not_eq_true', decide_eq_false_iff_not, Int.reduceLE, Int.reduceLT, Int.reduceNeg, Int.reduceSub, Int.reduceAdd, and_true, PyData.int.injEq, Nat.zero_add, Int.zero_add, Int.sub_zero, addW_ii, addW_ib, addW_bi, addW_tt, addW_ll, subW_ii, subW_ib, subW_bi, mulW_ii, fdivW_ii, modW_ii, negW_i, eqW_ii, eqW_ss, eqW_t0, eqW_l0, neW_ii, neW_ss, neW_t0, neW_l0, ltW_ii, leW_ii, gtW_ii, geW_ii, isW_n, isntW_n, ixW_l, ixW_t, lenW_l, lenW_t, absW_i, intW_i, intW_b, tupW_l, tupW_t, lstW_l, lstW_t, sumW_l, allW_l, anyW_l, minW_2, maxW_2, slW_t, slW_l, revW_t, revW_l, reprW_1, strW_i, strW_b, sortW_l, sortW_t, Option.some.injEq, exists_eq_left', exists_eq_left, dKey, exists_and_left, exists_const]
      simp only [S_is_row_1, mV_e, mC_e, mO_e, mOp_e, mUn_e, mT_e, mNotT_e, mAndT_e, mOrT_e, mAnd_e, mOr_e, mNot_e, mIf_e, mChain_e, mNil_e, mCons_e, mTup_e, mLst_e, mLk_e, mCat_e, mCB_e, mCL_e, vD_e, vL_e, vM0_e, mSkip_e, mSeq_e, mAsg_e, mRet_e, mIfS_e, mDrop_e, vNil_e, vCons_e, mPar_e, bName_e, bTup_e, bNil_e, bCons_e, mUnp_e, mFor_e, mForR_e, mForR2_e, mApp_e, mYes_e, mLc_e, mLcR_e, mLcR2_e, mLcZ_e, gNo_e, gE_e, gO_e, mCall_e, mFn_e, mIsi_e, mSS_e, mNo_e, mPt_e, mSl_e, mDG_e, mDGd_e, mDIn_e, mPut_e, mSD_e, mRetO_e, vDof_e, mForZ_e, wipeE, pow6, pow7, pow9, pow15, pow18, pow39, asM, List.replicate, List.cons_append, List.nil_append, List.getElem?_cons_zero, List.getElem?_cons_succ, enAll, List.set_cons_zero, List.set_cons_succ, Nat.reduceSub, List.length_cons, List.length_nil, decide_eq_true_eq, Nat.reduceAdd, Nat.reduceLeDiff, true_and, Bool.not_true, Bool.not_false, if_true, if_false, Bool.false_eq_true, Bool.not_eq_true', decide_eq_false_iff_not, Int.reduceLE, Int.reduceLT, Int.reduceNeg, Int.reduceSub, Int.reduceAdd, and_true, PyData.int.injEq, Nat.zero_add, Int.zero_add, Int.sub_zero, addW_ii, addW_ib, addW_bi, addW_tt, addW_ll, subW_ii, subW_ib, subW_bi, mulW_ii, fdivW_ii, modW_ii, negW_i, eqW_ii, eqW_ss, eqW_t0, eqW_l0, neW_ii, neW_ss, neW_t0, neW_l0, ltW_ii, leW_ii, gtW_ii, geW_ii, isW_n, isntW_n, ixW_l, ixW_t, lenW_l, lenW_t, absW_i, intW_i, intW_b, tupW_l, tupW_t, lstW_l, lstW_t, sumW_l, allW_l, anyW_l, minW_2, maxW_2, slW_t, slW_l, revW_t, revW_l, reprW_1, strW_i, strW_b, sortW_l, sortW_t, Option.some.injEq, exists_eq_left', exists_eq_left, dKey, exists_and_left, exists_const]
      refine is_number_ok ?_
      cases hx : isN x with
      | false =>
        simp only
        rw [no (by cases x <;> simp [isN, isI, isB] at hx <;> rfl)] at q
        exact q
      | true =>
        obtain ⟨p, rfl⟩ := isN_inv hx
        simp only
        refine in_ints ?_
        cases hc : ps.contains p with
        | false =>
          have : rowOk ps (.tuple [.int p, y]) = false := by
            cases y <;> first | rfl | simp only [rowOk, rowOf, hc, Bool.false_and]
          rw [this] at q
          exact q
        | true =>
          simp only [mV_e, mC_e, mO_e, mOp_e, mUn_e, mT_e, mNotT_e, mAndT_e, mOrT_e, mAnd_e, mOr_e, mNot_e, mIf_e, mChain_e, mNil_e, mCons_e, mTup_e, mLst_e, mLk_e, mCat_e, mCB_e, mCL_e, vD_e, vL_e, vM0_e, mSkip_e, mSeq_e, mAsg_e, mRet_e, mIfS_e, mDrop_e, vNil_e, vCons_e, mPar_e, bName_e, bTup_e, bNil_e, bCons_e, mUnp_e, mFor_e, mForR_e, mForR2_e, mApp_e, mYes_e, mLc_e, mLcR_e, mLcR2_e, mLcZ_e, gNo_e, gE_e, gO_e, mCall_e, mFn_e, mIsi_e, mSS_e, mNo_e, mPt_e, mSl_e, mDG_e, mDGd_e, mDIn_e, mPut_e, mSD_e, mRetO_e, vDof_e, mForZ_e, wipeE, pow6, pow7, pow9, pow15, pow18, pow39, asM, List.replicate, List.cons_append, List.nil_append, List.getElem?_cons_zero, List.getElem?_cons_succ, enAll, List.set_cons_zero, List.set_cons_succ, Nat.reduceSub, List.length_cons, List.length_nil, decide_eq_true_eq, Nat.reduceAdd, Nat.reduceLeDiff, true_and, Bool.not_true, Bool.not_false, if_true, if_false, Bool.false_eq_true, Bool.not_eq_true', decide_eq_false_iff_not, Int.reduceLE, Int.reduceLT, Int.reduceNeg, Int.reduceSub, Int.reduceAdd, and_true, PyData.int.injEq, Nat.zero_add, Int.zero_add, Int.sub_zero, addW_ii, addW_ib, addW_bi, addW_tt, addW_ll, subW_ii, subW_ib, subW_bi, mulW_ii, fdivW_ii, modW_ii, negW_i, eqW_ii, eqW_ss, eqW_t0, eqW_l0, neW_ii, neW_ss, neW_t0, neW_l0, ltW_ii, leW_ii, gtW_ii, geW_ii, isW_n, isntW_n, ixW_l, ixW_t, lenW_l, lenW_t, absW_i, intW_i, intW_b, tupW_l, tupW_t, lstW_l, lstW_t, sumW_l, allW_l, anyW_l, minW_2, maxW_2, slW_t, slW_l, revW_t, revW_l, reprW_1, strW_i, strW_b, sortW_l, sortW_t, Option.some.injEq, exists_eq_left', exists_eq_left, dKey, exists_and_left, exists_const]
          refine is_number_from_ok ?_
          have : rowOk ps (.tuple [.int p, y]) = fromI 1 y := by
            cases y <;> first | rfl | simp only [rowOk, rowOf, hc, Bool.true_and, fromI]
          rw [this] at q
          exact q
    | [] => simpa [tupN, S_is_row_3, mRet_e, mC_e, rowOk, rowOf] using q
    | [x] => simpa [tupN, S_is_row_3, mRet_e, mC_e, rowOk, rowOf] using q
    | x :: y :: z :: r =>
      have l2 : tupN 2 (.tuple (x :: y :: z :: r)) = false := by simp [tupN]; omega
      simp only [l2, Bool.not_false, if_true, S_is_row_3, mRet_e, mC_e]
      simpa [rowOk, rowOf] using q
  | _ => simpa [tupN, S_is_row_3, mRet_e, mC_e, rowOk, rowOf] using q
def ltPairs : List Int → List Bool
  | x :: y :: r => decide (x < y) :: ltPairs (y :: r)
  | _ => []
def ascB (ns : List Int) : Bool := (ltPairs ns).all id
theorem cut_1 (l : List PyData) : cutD l (some 1) none = l.drop 1 := by
  unfold cutD
  rw [show HT.sIx l.length 0 (some 1) = min 1 l.length from HT.sIx_nat l.length 0 1, HT.sIx_none]
  cases l with
  | nil => rfl
  | cons x r =>
    have e : min 1 (x :: r).length = 1 := by simp
    rw [e]
    show r.take ((x :: r).length - 1) = r
    simp
def ltD : PyData → PyData
  | .tuple [.int x, .int y] => .bool (decide (x < y))
  | _ => .none
theorem zip_lt : ∀ ns : List Int, (zipD (ns.map PyData.int) ((ns.map PyData.int).drop 1)).map ltD = (ltPairs ns).map PyData.bool
  | [] => rfl
  | [_] => rfl
  | x :: y :: r => by
    have := zip_lt (y :: r)
    simp only [List.map_cons, List.drop_one, List.tail_cons, zipD, ltPairs] at this ⊢
    rw [this]
    rfl
theorem mem_zip : ∀ {xs ys : List PyData} {z : PyData}, z ∈ zipD xs ys → ∃ x y, z = .tuple [x, y] ∧ x ∈ xs ∧ y ∈ ys
  | [], _, _, h => by simp [zipD] at h
  | _ :: _, [], _, h => by simp [zipD] at h
  | x :: xs, y :: ys, z, h => by
    simp only [zipD, List.mem_cons] at h
    rcases h with rfl | h
    · exact ⟨x, y, rfl, by simp, by simp⟩
    · obtain ⟨a, b, e, h1, h2⟩ := mem_zip h
      exact ⟨a, b, e, List.mem_cons_of_mem _ h1, List.mem_cons_of_mem _ h2⟩
theorem ascends_ok {ns : List Int} {b : Nat} {R : PyData → Nat → Prop} (few : ns.length ≤ 100000) (q : R (.bool (ascB ns)) b) : M_ascends [.d (.list (ns.map PyData.int))] b R := by
  simp only [M_ascends, mFn_e, B_ascends, S_ascends_1, cut_1, mV_e, mC_e, mO_e, mOp_e, mUn_e, mT_e, mNotT_e, mAndT_e, mOrT_e, mAnd_e, mOr_e, mNot_e, mIf_e, mChain_e, mNil_e, mCons_e, mTup_e, mLst_e, mLk_e, mCat_e, mCB_e, mCL_e, vD_e, vL_e, vM0_e, mSkip_e, mSeq_e, mAsg_e, mRet_e, mIfS_e, mDrop_e, vNil_e, vCons_e, mPar_e, bName_e, bTup_e, bNil_e, bCons_e, mUnp_e, mFor_e, mForR_e, mForR2_e, mApp_e, mYes_e, mLc_e, mLcR_e, mLcR2_e, mLcZ_e, gNo_e, gE_e, gO_e, mCall_e, mFn_e, mIsi_e, mSS_e, mNo_e, mPt_e, mSl_e, mDG_e, mDGd_e, mDIn_e, mPut_e, mSD_e, mRetO_e, vDof_e, mForZ_e, wipeE, pow6, pow7, pow9, pow15, pow18, pow39, asM, List.replicate, List.cons_append, List.nil_append, List.getElem?_cons_zero, List.getElem?_cons_succ, enAll, List.set_cons_zero, List.set_cons_succ, Nat.reduceSub, List.length_cons, List.length_nil, decide_eq_true_eq, Nat.reduceAdd, Nat.reduceLeDiff, true_and, Bool.not_true, Bool.not_false, if_true, if_false, Bool.false_eq_true, Bool.not_eq_true', decide_eq_false_iff_not, Int.reduceLE, Int.reduceLT, Int.reduceNeg, Int.reduceSub, Int.reduceAdd, and_true, PyData.int.injEq, Nat.zero_add, Int.zero_add, Int.sub_zero, addW_ii, addW_ib, addW_bi, addW_tt, addW_ll, subW_ii, subW_ib, subW_bi, mulW_ii, fdivW_ii, modW_ii, negW_i, eqW_ii, eqW_ss, eqW_t0, eqW_l0, neW_ii, neW_ss, neW_t0, neW_l0, ltW_ii, leW_ii, gtW_ii, geW_ii, isW_n, isntW_n, ixW_l, ixW_t, lenW_l, lenW_t, absW_i, intW_i, intW_b, tupW_l, tupW_t, lstW_l, lstW_t, sumW_l, allW_l, anyW_l, minW_2, maxW_2, slW_t, slW_l, revW_t, revW_l, reprW_1, strW_i, strW_b, sortW_l, sortW_t, Option.some.injEq, exists_eq_left', exists_eq_left, dKey, exists_and_left, exists_const]
  refine comp_map ltD _ _ _ _ (fun x hx Q hq => ?_) (by simp only [List.length_nil, zipD_len]; simp; omega) ?_
  · obtain ⟨u, v, rfl, hu, hv⟩ := mem_zip hx
    obtain ⟨i, _, rfl⟩ := List.mem_map.mp hu
    obtain ⟨j, _, rfl⟩ := List.mem_map.mp (List.mem_of_mem_drop hv)
    simp only [mV_e, mC_e, mO_e, mOp_e, mUn_e, mT_e, mNotT_e, mAndT_e, mOrT_e, mAnd_e, mOr_e, mNot_e, mIf_e, mChain_e, mNil_e, mCons_e, mTup_e, mLst_e, mLk_e, mCat_e, mCB_e, mCL_e, vD_e, vL_e, vM0_e, mSkip_e, mSeq_e, mAsg_e, mRet_e, mIfS_e, mDrop_e, vNil_e, vCons_e, mPar_e, bName_e, bTup_e, bNil_e, bCons_e, mUnp_e, mFor_e, mForR_e, mForR2_e, mApp_e, mYes_e, mLc_e, mLcR_e, mLcR2_e, mLcZ_e, gNo_e, gE_e, gO_e, mCall_e, mFn_e, mIsi_e, mSS_e, mNo_e, mPt_e, mSl_e, mDG_e, mDGd_e, mDIn_e, mPut_e, mSD_e, mRetO_e, vDof_e, mForZ_e, wipeE, pow6, pow7, pow9, pow15, pow18, pow39, asM, List.replicate, List.cons_append, List.nil_append, List.getElem?_cons_zero, List.getElem?_cons_succ, enAll, List.set_cons_zero, List.set_cons_succ, Nat.reduceSub, List.length_cons, List.length_nil, decide_eq_true_eq, Nat.reduceAdd, Nat.reduceLeDiff, true_and, Bool.not_true, Bool.not_false, if_true, if_false, Bool.false_eq_true, Bool.not_eq_true', decide_eq_false_iff_not, Int.reduceLE, Int.reduceLT, Int.reduceNeg, Int.reduceSub, Int.reduceAdd, and_true, PyData.int.injEq, Nat.zero_add, Int.zero_add, Int.sub_zero, addW_ii, addW_ib, addW_bi, addW_tt, addW_ll, subW_ii, subW_ib, subW_bi, mulW_ii, fdivW_ii, modW_ii, negW_i, eqW_ii, eqW_ss, eqW_t0, eqW_l0, neW_ii, neW_ss, neW_t0, neW_l0, ltW_ii, leW_ii, gtW_ii, geW_ii, isW_n, isntW_n, ixW_l, ixW_t, lenW_l, lenW_t, absW_i, intW_i, intW_b, tupW_l, tupW_t, lstW_l, lstW_t, sumW_l, allW_l, anyW_l, minW_2, maxW_2, slW_t, slW_l, revW_t, revW_l, reprW_1, strW_i, strW_b, sortW_l, sortW_t, Option.some.injEq, exists_eq_left', exists_eq_left, dKey, exists_and_left, exists_const]
    exact hq
  · simp only [List.nil_append, zip_lt, mV_e, mC_e, mO_e, mOp_e, mUn_e, mT_e, mNotT_e, mAndT_e, mOrT_e, mAnd_e, mOr_e, mNot_e, mIf_e, mChain_e, mNil_e, mCons_e, mTup_e, mLst_e, mLk_e, mCat_e, mCB_e, mCL_e, vD_e, vL_e, vM0_e, mSkip_e, mSeq_e, mAsg_e, mRet_e, mIfS_e, mDrop_e, vNil_e, vCons_e, mPar_e, bName_e, bTup_e, bNil_e, bCons_e, mUnp_e, mFor_e, mForR_e, mForR2_e, mApp_e, mYes_e, mLc_e, mLcR_e, mLcR2_e, mLcZ_e, gNo_e, gE_e, gO_e, mCall_e, mFn_e, mIsi_e, mSS_e, mNo_e, mPt_e, mSl_e, mDG_e, mDGd_e, mDIn_e, mPut_e, mSD_e, mRetO_e, vDof_e, mForZ_e, wipeE, pow6, pow7, pow9, pow15, pow18, pow39, asM, List.replicate, List.cons_append, List.nil_append, List.getElem?_cons_zero, List.getElem?_cons_succ, enAll, List.set_cons_zero, List.set_cons_succ, Nat.reduceSub, List.length_cons, List.length_nil, decide_eq_true_eq, Nat.reduceAdd, Nat.reduceLeDiff, true_and, Bool.not_true, Bool.not_false, if_true, if_false, Bool.false_eq_true, Bool.not_eq_true', decide_eq_false_iff_not, Int.reduceLE, Int.reduceLT, Int.reduceNeg, Int.reduceSub, Int.reduceAdd, and_true, PyData.int.injEq, Nat.zero_add, Int.zero_add, Int.sub_zero, addW_ii, addW_ib, addW_bi, addW_tt, addW_ll, subW_ii, subW_ib, subW_bi, mulW_ii, fdivW_ii, modW_ii, negW_i, eqW_ii, eqW_ss, eqW_t0, eqW_l0, neW_ii, neW_ss, neW_t0, neW_l0, ltW_ii, leW_ii, gtW_ii, geW_ii, isW_n, isntW_n, ixW_l, ixW_t, lenW_l, lenW_t, absW_i, intW_i, intW_b, tupW_l, tupW_t, lstW_l, lstW_t, sumW_l, allW_l, anyW_l, minW_2, maxW_2, slW_t, slW_l, revW_t, revW_l, reprW_1, strW_i, strW_b, sortW_l, sortW_t, Option.some.injEq, exists_eq_left', exists_eq_left, dKey, exists_and_left, exists_const]
    exact ⟨_, rfl, q⟩
theorem rows_of {ps : List Int} : ∀ {ds : List PyData}, ds.all (rowOk ps) = true → ∃ rs : List Bed, ds = rs.map bedD ∧ ∀ r ∈ rs, ps.contains r.1 = true ∧ 1 ≤ r.2
  | [], _ => ⟨[], rfl, (fun _ h => nomatch h)⟩
  | d :: ds, h => by
    simp only [List.all_cons, Bool.and_eq_true] at h
    obtain ⟨rs, rfl, hr⟩ := rows_of h.2
    have h1 := h.1
    unfold rowOk at h1
    split at h1
    · rename_i r hd
      simp only [Bool.and_eq_true, decide_eq_true_eq] at h1
      unfold rowOf at hd
      split at hd
      · cases hd
        exact ⟨_ :: rs, rfl, fun z hz => by
          rcases List.mem_cons.mp hz with rfl | hz
          · exact h1
          · exact hr z hz⟩
      · cases hd
    · cases h1
/-- whether a value is a trip -/
def tripD (c : Int) (ps : List Int) : PyData → Bool
  | .tuple ds => !ds.isEmpty && (ds.all (rowOk ps) && (ascB ((ds.filterMap rowOf).map (·.1)) && decide (((ds.filterMap rowOf).map (·.2)).sum ≤ c)))
  | _ => false
theorem tripD_t (c : Int) (ps : List Int) (ds : List PyData) : tripD c ps (.tuple ds) = (!ds.isEmpty && (ds.all (rowOk ps) && (ascB ((ds.filterMap rowOf).map (·.1)) && decide (((ds.filterMap rowOf).map (·.2)).sum ≤ c)))) := rfl
theorem rowOf_bed (rs : List Bed) : (rs.map bedD).filterMap rowOf = rs := by
  induction rs with
  | nil => rfl
  | cons r rs ih => simp [rowOf, bedD, ih]
theorem fst_beds {b : Nat} {E : Env} {ml : WE} {i j : Nat} {rs : List Bed} {R : List PyData → Nat → Prop} (few : rs.length ≤ 100000) (h : ∀ r ∈ rs, ∀ Q : PyData → Nat → Prop, Q (.int r.1) b → ml ((E.set i (.d (.int r.1))).set j (.d (.int r.2))) b Q) (q : R ((rs.map (·.1)).map PyData.int) b) : mComp (bTup 2 (bCons (bName i) (bCons (bName j) bNil))) mYes ml E (rs.map bedD) [] b R := by
  refine comp_map fstD _ _ _ _ (fun x hx Q hq => ?_) (by simpa using few) ?_
  · obtain ⟨r, hr, rfl⟩ := List.mem_map.mp hx
    exact ⟨rfl, h r hr Q hq⟩
  · have : (rs.map bedD).map fstD = (rs.map (·.1)).map PyData.int := by simp [bedD, fstD, Function.comp_def]
    simpa [this] using q
theorem snd_beds {b : Nat} {E : Env} {ml : WE} {i j : Nat} {rs : List Bed} {R : List PyData → Nat → Prop} (few : rs.length ≤ 100000) (h : ∀ r ∈ rs, ∀ Q : PyData → Nat → Prop, Q (.int r.2) b → ml ((E.set i (.d (.int r.1))).set j (.d (.int r.2))) b Q) (q : R ((rs.map (·.2)).map PyData.int) b) : mComp (bTup 2 (bCons (bName i) (bCons (bName j) bNil))) mYes ml E (rs.map bedD) [] b R := by
  refine comp_map sndD _ _ _ _ (fun x hx Q hq => ?_) (by simpa using few) ?_
  · obtain ⟨r, hr, rfl⟩ := List.mem_map.mp hx
    exact ⟨rfl, h r hr Q hq⟩
  · have : (rs.map bedD).map sndD = (rs.map (·.2)).map PyData.int := by simp [bedD, sndD, Function.comp_def]
    simpa [this] using q
theorem is_trip_ok {t c : Int} {bs : List Bed} {d : PyData} {b : Nat} {R : PyData → Nat → Prop} (few : bs.length ≤ 1000) (fd : ∀ ds, d = .tuple ds → ds.length ≤ 100000) (q : R (.bool (tripD c (bs.map (·.1)) d)) b) : M_is_trip [.d (gardenD t c bs), .d d] b R := by
  simp only [M_is_trip, mFn_e, B_is_trip, mSeq_e, List.replicate, List.cons_append, List.nil_append, List.length_cons, List.length_nil, Nat.reduceSub, Nat.reduceAdd, true_and]
  simp only [S_is_trip_9, gardenD, mV_e, mC_e, mO_e, mOp_e, mUn_e, mT_e, mNotT_e, mAndT_e, mOrT_e, mAnd_e, mOr_e, mNot_e, mIf_e, mChain_e, mNil_e, mCons_e, mTup_e, mLst_e, mLk_e, mCat_e, mCB_e, mCL_e, vD_e, vL_e, vM0_e, mSkip_e, mSeq_e, mAsg_e, mRet_e, mIfS_e, mDrop_e, vNil_e, vCons_e, mPar_e, bName_e, bTup_e, bNil_e, bCons_e, mUnp_e, mFor_e, mForR_e, mForR2_e, mApp_e, mYes_e, mLc_e, mLcR_e, mLcR2_e, mLcZ_e, gNo_e, gE_e, gO_e, mCall_e, mFn_e, mIsi_e, mSS_e, mNo_e, mPt_e, mSl_e, mDG_e, mDGd_e, mDIn_e, mPut_e, mSD_e, mRetO_e, vDof_e, mForZ_e, wipeE, pow6, pow7, pow9, pow15, pow18, pow39, asM, List.replicate, List.cons_append, List.nil_append, List.getElem?_cons_zero, List.getElem?_cons_succ, enAll, List.set_cons_zero, List.set_cons_succ, Nat.reduceSub, List.length_cons, List.length_nil, decide_eq_true_eq, Nat.reduceAdd, Nat.reduceLeDiff, true_and, Bool.not_true, Bool.not_false, if_true, if_false, Bool.false_eq_true, Bool.not_eq_true', decide_eq_false_iff_not, Int.reduceLE, Int.reduceLT, Int.reduceNeg, Int.reduceSub, Int.reduceAdd, and_true, PyData.int.injEq, Nat.zero_add, Int.zero_add, Int.sub_zero, addW_ii, addW_ib, addW_bi, addW_tt, addW_ll, subW_ii, subW_ib, subW_bi, mulW_ii, fdivW_ii, modW_ii, negW_i, eqW_ii, eqW_ss, eqW_t0, eqW_l0, neW_ii, neW_ss, neW_t0, neW_l0, ltW_ii, leW_ii, gtW_ii, geW_ii, isW_n, isntW_n, ixW_l, ixW_t, lenW_l, lenW_t, absW_i, intW_i, intW_b, tupW_l, tupW_t, lstW_l, lstW_t, sumW_l, allW_l, anyW_l, minW_2, maxW_2, slW_t, slW_l, revW_t, revW_l, reprW_1, strW_i, strW_b, sortW_l, sortW_t, Option.some.injEq, exists_eq_left', exists_eq_left, dKey, exists_and_left, exists_const]
  simp only [S_is_trip_8, mV_e, mC_e, mO_e, mOp_e, mUn_e, mT_e, mNotT_e, mAndT_e, mOrT_e, mAnd_e, mOr_e, mNot_e, mIf_e, mChain_e, mNil_e, mCons_e, mTup_e, mLst_e, mLk_e, mCat_e, mCB_e, mCL_e, vD_e, vL_e, vM0_e, mSkip_e, mSeq_e, mAsg_e, mRet_e, mIfS_e, mDrop_e, vNil_e, vCons_e, mPar_e, bName_e, bTup_e, bNil_e, bCons_e, mUnp_e, mFor_e, mForR_e, mForR2_e, mApp_e, mYes_e, mLc_e, mLcR_e, mLcR2_e, mLcZ_e, gNo_e, gE_e, gO_e, mCall_e, mFn_e, mIsi_e, mSS_e, mNo_e, mPt_e, mSl_e, mDG_e, mDGd_e, mDIn_e, mPut_e, mSD_e, mRetO_e, vDof_e, mForZ_e, wipeE, pow6, pow7, pow9, pow15, pow18, pow39, asM, List.replicate, List.cons_append, List.nil_append, List.getElem?_cons_zero, List.getElem?_cons_succ, enAll, List.set_cons_zero, List.set_cons_succ, Nat.reduceSub, List.length_cons, List.length_nil, decide_eq_true_eq, Nat.reduceAdd, Nat.reduceLeDiff, true_and, Bool.not_true, Bool.not_false, if_true, if_false, Bool.false_eq_true, Bool.not_eq_true', decide_eq_false_iff_not, Int.reduceLE, Int.reduceLT, Int.reduceNeg, Int.reduceSub, Int.reduceAdd, and_true, PyData.int.injEq, Nat.zero_add, Int.zero_add, Int.sub_zero, addW_ii, addW_ib, addW_bi, addW_tt, addW_ll, subW_ii, subW_ib, subW_bi, mulW_ii, fdivW_ii, modW_ii, negW_i, eqW_ii, eqW_ss, eqW_t0, eqW_l0, neW_ii, neW_ss, neW_t0, neW_l0, ltW_ii, leW_ii, gtW_ii, geW_ii, isW_n, isntW_n, ixW_l, ixW_t, lenW_l, lenW_t, absW_i, intW_i, intW_b, tupW_l, tupW_t, lstW_l, lstW_t, sumW_l, allW_l, anyW_l, minW_2, maxW_2, slW_t, slW_l, revW_t, revW_l, reprW_1, strW_i, strW_b, sortW_l, sortW_t, Option.some.injEq, exists_eq_left', exists_eq_left, dKey, exists_and_left, exists_const]
  cases ht : isT d with
  | false =>
    have : tripD c (bs.map (·.1)) d = false := by cases d <;> simp [isT] at ht <;> rfl
    rw [this] at q
    simp only [S_is_trip_7, mV_e, mC_e, mO_e, mOp_e, mUn_e, mT_e, mNotT_e, mAndT_e, mOrT_e, mAnd_e, mOr_e, mNot_e, mIf_e, mChain_e, mNil_e, mCons_e, mTup_e, mLst_e, mLk_e, mCat_e, mCB_e, mCL_e, vD_e, vL_e, vM0_e, mSkip_e, mSeq_e, mAsg_e, mRet_e, mIfS_e, mDrop_e, vNil_e, vCons_e, mPar_e, bName_e, bTup_e, bNil_e, bCons_e, mUnp_e, mFor_e, mForR_e, mForR2_e, mApp_e, mYes_e, mLc_e, mLcR_e, mLcR2_e, mLcZ_e, gNo_e, gE_e, gO_e, mCall_e, mFn_e, mIsi_e, mSS_e, mNo_e, mPt_e, mSl_e, mDG_e, mDGd_e, mDIn_e, mPut_e, mSD_e, mRetO_e, vDof_e, mForZ_e, wipeE, pow6, pow7, pow9, pow15, pow18, pow39, asM, List.replicate, List.cons_append, List.nil_append, List.getElem?_cons_zero, List.getElem?_cons_succ, enAll, List.set_cons_zero, List.set_cons_succ, Nat.reduceSub, List.length_cons, List.length_nil, decide_eq_true_eq, Nat.reduceAdd, Nat.reduceLeDiff, true_and, Bool.not_true, Bool.not_false, if_true, if_false, Bool.false_eq_true, Bool.not_eq_true', decide_eq_false_iff_not, Int.reduceLE, Int.reduceLT, Int.reduceNeg, Int.reduceSub, Int.reduceAdd, and_true, PyData.int.injEq, Nat.zero_add, Int.zero_add, Int.sub_zero, addW_ii, addW_ib, addW_bi, addW_tt, addW_ll, subW_ii, subW_ib, subW_bi, mulW_ii, fdivW_ii, modW_ii, negW_i, eqW_ii, eqW_ss, eqW_t0, eqW_l0, neW_ii, neW_ss, neW_t0, neW_l0, ltW_ii, leW_ii, gtW_ii, geW_ii, isW_n, isntW_n, ixW_l, ixW_t, lenW_l, lenW_t, absW_i, intW_i, intW_b, tupW_l, tupW_t, lstW_l, lstW_t, sumW_l, allW_l, anyW_l, minW_2, maxW_2, slW_t, slW_l, revW_t, revW_l, reprW_1, strW_i, strW_b, sortW_l, sortW_t, Option.some.injEq, exists_eq_left', exists_eq_left, dKey, exists_and_left, exists_const]
    exact q
  | true =>
    obtain ⟨ds, rfl⟩ := isT_inv ht
    have fl := fd ds rfl
    simp only [mV_e, mC_e, mO_e, mOp_e, mUn_e, mT_e, mNotT_e, mAndT_e, mOrT_e, mAnd_e, mOr_e, mNot_e, mIf_e, mChain_e, mNil_e, mCons_e, mTup_e, mLst_e, mLk_e, mCat_e, mCB_e, mCL_e, vD_e, vL_e, vM0_e, mSkip_e, mSeq_e, mAsg_e, mRet_e, mIfS_e, mDrop_e, vNil_e, vCons_e, mPar_e, bName_e, bTup_e, bNil_e, bCons_e, mUnp_e, mFor_e, mForR_e, mForR2_e, mApp_e, mYes_e, mLc_e, mLcR_e, mLcR2_e, mLcZ_e, gNo_e, gE_e, gO_e, mCall_e, mFn_e, mIsi_e, mSS_e, mNo_e, mPt_e, mSl_e, mDG_e, mDGd_e, mDIn_e, mPut_e, mSD_e, mRetO_e, vDof_e, mForZ_e, wipeE, pow6, pow7, pow9, pow15, pow18, pow39, asM, List.replicate, List.cons_append, List.nil_append, List.getElem?_cons_zero, List.getElem?_cons_succ, enAll, List.set_cons_zero, List.set_cons_succ, Nat.reduceSub, List.length_cons, List.length_nil, decide_eq_true_eq, Nat.reduceAdd, Nat.reduceLeDiff, true_and, Bool.not_true, Bool.not_false, if_true, if_false, Bool.false_eq_true, Bool.not_eq_true', decide_eq_false_iff_not, Int.reduceLE, Int.reduceLT, Int.reduceNeg, Int.reduceSub, Int.reduceAdd, and_true, PyData.int.injEq, Nat.zero_add, Int.zero_add, Int.sub_zero, addW_ii, addW_ib, addW_bi, addW_tt, addW_ll, subW_ii, subW_ib, subW_bi, mulW_ii, fdivW_ii, modW_ii, negW_i, eqW_ii, eqW_ss, eqW_t0, eqW_l0, neW_ii, neW_ss, neW_t0, neW_l0, ltW_ii, leW_ii, gtW_ii, geW_ii, isW_n, isntW_n, ixW_l, ixW_t, lenW_l, lenW_t, absW_i, intW_i, intW_b, tupW_l, tupW_t, lstW_l, lstW_t, sumW_l, allW_l, anyW_l, minW_2, maxW_2, slW_t, slW_l, revW_t, revW_l, reprW_1, strW_i, strW_b, sortW_l, sortW_t, Option.some.injEq, exists_eq_left', exists_eq_left, dKey, exists_and_left, exists_const]
    by_cases h0 : (ds.length : Int) = 0
    · have e0 : ds = [] := by cases ds with | nil => rfl | cons _ _ => simp at h0; omega
      subst e0
      simp only [S_is_trip_7, List.length_nil, mV_e, mC_e, mO_e, mOp_e, mUn_e, mT_e, mNotT_e, mAndT_e, mOrT_e, mAnd_e, mOr_e, mNot_e, mIf_e, mChain_e, mNil_e, mCons_e, mTup_e, mLst_e, mLk_e, mCat_e, mCB_e, mCL_e, vD_e, vL_e, vM0_e, mSkip_e, mSeq_e, mAsg_e, mRet_e, mIfS_e, mDrop_e, vNil_e, vCons_e, mPar_e, bName_e, bTup_e, bNil_e, bCons_e, mUnp_e, mFor_e, mForR_e, mForR2_e, mApp_e, mYes_e, mLc_e, mLcR_e, mLcR2_e, mLcZ_e, gNo_e, gE_e, gO_e, mCall_e, mFn_e, mIsi_e, mSS_e, mNo_e, mPt_e, mSl_e, mDG_e, mDGd_e, mDIn_e, mPut_e, mSD_e, mRetO_e, vDof_e, mForZ_e, wipeE, pow6, pow7, pow9, pow15, pow18, pow39, asM, List.replicate, List.cons_append, List.nil_append, List.getElem?_cons_zero, List.getElem?_cons_succ, enAll, List.set_cons_zero, List.set_cons_succ, Nat.reduceSub, List.length_cons, List.length_nil, decide_eq_true_eq, Nat.reduceAdd, Nat.reduceLeDiff, true_and, Bool.not_true, Bool.not_false, if_true, if_false, Bool.false_eq_true, Bool.not_eq_true', decide_eq_false_iff_not, Int.reduceLE, Int.reduceLT, Int.reduceNeg, Int.reduceSub, Int.reduceAdd, and_true, PyData.int.injEq, Nat.zero_add, Int.zero_add, Int.sub_zero, addW_ii, addW_ib, addW_bi, addW_tt, addW_ll, subW_ii, subW_ib, subW_bi, mulW_ii, fdivW_ii, modW_ii, negW_i, eqW_ii, eqW_ss, eqW_t0, eqW_l0, neW_ii, neW_ss, neW_t0, neW_l0, ltW_ii, leW_ii, gtW_ii, geW_ii, isW_n, isntW_n, ixW_l, ixW_t, lenW_l, lenW_t, absW_i, intW_i, intW_b, tupW_l, tupW_t, lstW_l, lstW_t, sumW_l, allW_l, anyW_l, minW_2, maxW_2, slW_t, slW_l, revW_t, revW_l, reprW_1, strW_i, strW_b, sortW_l, sortW_t, Option.some.injEq, exists_eq_left', exists_eq_left, dKey, exists_and_left, exists_const]
      exact q
    · simp only [h0, if_false]
      simp only [S_is_trip_6, bedsD, mV_e, mC_e, mO_e, mOp_e, mUn_e, mT_e, mNotT_e, mAndT_e, mOrT_e, mAnd_e, mOr_e, mNot_e, mIf_e, mChain_e, mNil_e, mCons_e, mTup_e, mLst_e, mLk_e, mCat_e, mCB_e, mCL_e, vD_e, vL_e, vM0_e, mSkip_e, mSeq_e, mAsg_e, mRet_e, mIfS_e, mDrop_e, vNil_e, vCons_e, mPar_e, bName_e, bTup_e, bNil_e, bCons_e, mUnp_e, mFor_e, mForR_e, mForR2_e, mApp_e, mYes_e, mLc_e, mLcR_e, mLcR2_e, mLcZ_e, gNo_e, gE_e, gO_e, mCall_e, mFn_e, mIsi_e, mSS_e, mNo_e, mPt_e, mSl_e, mDG_e, mDGd_e, mDIn_e, mPut_e, mSD_e, mRetO_e, vDof_e, mForZ_e, wipeE, pow6, pow7, pow9, pow15, pow18, pow39, asM, List.replicate, List.cons_append, List.nil_append, List.getElem?_cons_zero, List.getElem?_cons_succ, enAll, List.set_cons_zero, List.set_cons_succ, Nat.reduceSub, List.length_cons, List.length_nil, decide_eq_true_eq, Nat.reduceAdd, Nat.reduceLeDiff, true_and, Bool.not_true, Bool.not_false, if_true, if_false, Bool.false_eq_true, Bool.not_eq_true', decide_eq_false_iff_not, Int.reduceLE, Int.reduceLT, Int.reduceNeg, Int.reduceSub, Int.reduceAdd, and_true, PyData.int.injEq, Nat.zero_add, Int.zero_add, Int.sub_zero, addW_ii, addW_ib, addW_bi, addW_tt, addW_ll, subW_ii, subW_ib, subW_bi, mulW_ii, fdivW_ii, modW_ii, negW_i, eqW_ii, eqW_ss, eqW_t0, eqW_l0, neW_ii, neW_ss, neW_t0, neW_l0, ltW_ii, leW_ii, gtW_ii, geW_ii, isW_n, isntW_n, ixW_l, ixW_t, lenW_l, lenW_t, absW_i, intW_i, intW_b, tupW_l, tupW_t, lstW_l, lstW_t, sumW_l, allW_l, anyW_l, minW_2, maxW_2, slW_t, slW_l, revW_t, revW_l, reprW_1, strW_i, strW_b, sortW_l, sortW_t, Option.some.injEq, exists_eq_left', exists_eq_left, dKey, exists_and_left, exists_const]
      refine fst_beds (by omega) (fun r hr Q hq => by simp only [mV_e, mC_e, mO_e, mOp_e, mUn_e, mT_e, mNotT_e, mAndT_e, mOrT_e, mAnd_e, mOr_e, mNot_e, mIf_e, mChain_e, mNil_e, mCons_e, mTup_e, mLst_e, mLk_e, mCat_e, mCB_e, mCL_e, vD_e, vL_e, vM0_e, mSkip_e, mSeq_e, mAsg_e, mRet_e, mIfS_e, mDrop_e, vNil_e, vCons_e, mPar_e, bName_e, bTup_e, bNil_e, bCons_e, mUnp_e, mFor_e, mForR_e, mForR2_e, mApp_e, mYes_e, mLc_e, mLcR_e, mLcR2_e, mLcZ_e, gNo_e, gE_e, gO_e, mCall_e, mFn_e, mIsi_e, mSS_e, mNo_e, mPt_e, mSl_e, mDG_e, mDGd_e, mDIn_e, mPut_e, mSD_e, mRetO_e, vDof_e, mForZ_e, wipeE, pow6, pow7, pow9, pow15, pow18, pow39, asM, List.replicate, List.cons_append, List.nil_append, List.getElem?_cons_zero, List.getElem?_cons_succ, enAll, List.set_cons_zero, List.set_cons_succ, Nat.reduceSub, List.length_cons, List.length_nil, decide_eq_true_eq, Nat.reduceAdd, Nat.reduceLeDiff, true_and, Bool.not_true, Bool.not_false, if_true, if_false, Bool.false_eq_true, Bool.not_eq_true', decide_eq_false_iff_not, Int.reduceLE, Int.reduceLT, Int.reduceNeg, Int.reduceSub, Int.reduceAdd, and_true, PyData.int.injEq, Nat.zero_add, Int.zero_add, Int.sub_zero, addW_ii, addW_ib, addW_bi, addW_tt, addW_ll, subW_ii, subW_ib, subW_bi, mulW_ii, fdivW_ii, modW_ii, negW_i, eqW_ii, eqW_ss, eqW_t0, eqW_l0, neW_ii, neW_ss, neW_t0, neW_l0, ltW_ii, leW_ii, gtW_ii, geW_ii, isW_n, isntW_n, ixW_l, ixW_t, lenW_l, lenW_t, absW_i, intW_i, intW_b, tupW_l, tupW_t, lstW_l, lstW_t, sumW_l, allW_l, anyW_l, minW_2, maxW_2, slW_t, slW_l, revW_t, revW_l, reprW_1, strW_i, strW_b, sortW_l, sortW_t, Option.some.injEq, exists_eq_left', exists_eq_left, dKey, exists_and_left, exists_const]; exact hq) ?_
      simp only [S_is_trip_5, mV_e, mC_e, mO_e, mOp_e, mUn_e, mT_e, mNotT_e, mAndT_e, mOrT_e, mAnd_e, mOr_e, mNot_e, mIf_e, mChain_e, mNil_e, mCons_e, mTup_e, mLst_e, mLk_e, mCat_e, mCB_e, mCL_e, vD_e, vL_e, vM0_e, mSkip_e, mSeq_e, mAsg_e, mRet_e, mIfS_e, mDrop_e, vNil_e, vCons_e, mPar_e, bName_e, bTup_e, bNil_e, bCons_e, mUnp_e, mFor_e, mForR_e, mForR2_e, mApp_e, mYes_e, mLc_e, mLcR_e, mLcR2_e, mLcZ_e, gNo_e, gE_e, gO_e, mCall_e, mFn_e, mIsi_e, mSS_e, mNo_e, mPt_e, mSl_e, mDG_e, mDGd_e, mDIn_e, mPut_e, mSD_e, mRetO_e, vDof_e, mForZ_e, wipeE, pow6, pow7, pow9, pow15, pow18, pow39, asM, List.replicate, List.cons_append, List.nil_append, List.getElem?_cons_zero, List.getElem?_cons_succ, enAll, List.set_cons_zero, List.set_cons_succ, Nat.reduceSub, List.length_cons, List.length_nil, decide_eq_true_eq, Nat.reduceAdd, Nat.reduceLeDiff, true_and, Bool.not_true, Bool.not_false, if_true, if_false, Bool.false_eq_true, Bool.not_eq_true', decide_eq_false_iff_not, Int.reduceLE, Int.reduceLT, Int.reduceNeg, Int.reduceSub, Int.reduceAdd, and_true, PyData.int.injEq, Nat.zero_add, Int.zero_add, Int.sub_zero, addW_ii, addW_ib, addW_bi, addW_tt, addW_ll, subW_ii, subW_ib, subW_bi, mulW_ii, fdivW_ii, modW_ii, negW_i, eqW_ii, eqW_ss, eqW_t0, eqW_l0, neW_ii, neW_ss, neW_t0, neW_l0, ltW_ii, leW_ii, gtW_ii, geW_ii, isW_n, isntW_n, ixW_l, ixW_t, lenW_l, lenW_t, absW_i, intW_i, intW_b, tupW_l, tupW_t, lstW_l, lstW_t, sumW_l, allW_l, anyW_l, minW_2, maxW_2, slW_t, slW_l, revW_t, revW_l, reprW_1, strW_i, strW_b, sortW_l, sortW_t, Option.some.injEq, exists_eq_left', exists_eq_left, dKey, exists_and_left, exists_const]
      refine comp_map (fun x => .bool (rowOk (bs.map (·.1)) x)) _ _ _ _ (fun x hx Q hq => ?_) (by simpa using fl) ?_
      · simp only [mV_e, mC_e, mO_e, mOp_e, mUn_e, mT_e, mNotT_e, mAndT_e, mOrT_e, mAnd_e, mOr_e, mNot_e, mIf_e, mChain_e, mNil_e, mCons_e, mTup_e, mLst_e, mLk_e, mCat_e, mCB_e, mCL_e, vD_e, vL_e, vM0_e, mSkip_e, mSeq_e, mAsg_e, mRet_e, mIfS_e, mDrop_e, vNil_e, vCons_e, mPar_e, bName_e, bTup_e, bNil_e, bCons_e, mUnp_e, mFor_e, mForR_e, mForR2_e, mApp_e, mYes_e, mLc_e, mLcR_e, mLcR2_e, mLcZ_e, gNo_e, gE_e, gO_e, mCall_e, mFn_e, mIsi_e, mSS_e, mNo_e, mPt_e, mSl_e, mDG_e, mDGd_e, mDIn_e, mPut_e, mSD_e, mRetO_e, vDof_e, mForZ_e, wipeE, pow6, pow7, pow9, pow15, pow18, pow39, asM, List.replicate, List.cons_append, List.nil_append, List.getElem?_cons_zero, List.getElem?_cons_succ, enAll, List.set_cons_zero, List.set_cons_succ, Nat.reduceSub, List.length_cons, List.length_nil, decide_eq_true_eq, Nat.reduceAdd, Nat.reduceLeDiff, true_and, Bool.not_true, Bool.not_false, if_true, if_false, Bool.false_eq_true, Bool.not_eq_true', decide_eq_false_iff_not, Int.reduceLE, Int.reduceLT, Int.reduceNeg, Int.reduceSub, Int.reduceAdd, and_true, PyData.int.injEq, Nat.zero_add, Int.zero_add, Int.sub_zero, addW_ii, addW_ib, addW_bi, addW_tt, addW_ll, subW_ii, subW_ib, subW_bi, mulW_ii, fdivW_ii, modW_ii, negW_i, eqW_ii, eqW_ss, eqW_t0, eqW_l0, neW_ii, neW_ss, neW_t0, neW_l0, ltW_ii, leW_ii, gtW_ii, geW_ii, isW_n, isntW_n, ixW_l, ixW_t, lenW_l, lenW_t, absW_i, intW_i, intW_b, tupW_l, tupW_t, lstW_l, lstW_t, sumW_l, allW_l, anyW_l, minW_2, maxW_2, slW_t, slW_l, revW_t, revW_l, reprW_1, strW_i, strW_b, sortW_l, sortW_t, Option.some.injEq, exists_eq_left', exists_eq_left, dKey, exists_and_left, exists_const]
        exact is_row_ok hq
      · simp only [List.nil_append, mV_e, mC_e, mO_e, mOp_e, mUn_e, mT_e, mNotT_e, mAndT_e, mOrT_e, mAnd_e, mOr_e, mNot_e, mIf_e, mChain_e, mNil_e, mCons_e, mTup_e, mLst_e, mLk_e, mCat_e, mCB_e, mCL_e, vD_e, vL_e, vM0_e, mSkip_e, mSeq_e, mAsg_e, mRet_e, mIfS_e, mDrop_e, vNil_e, vCons_e, mPar_e, bName_e, bTup_e, bNil_e, bCons_e, mUnp_e, mFor_e, mForR_e, mForR2_e, mApp_e, mYes_e, mLc_e, mLcR_e, mLcR2_e, mLcZ_e, gNo_e, gE_e, gO_e, mCall_e, mFn_e, mIsi_e, mSS_e, mNo_e, mPt_e, mSl_e, mDG_e, mDGd_e, mDIn_e, mPut_e, mSD_e, mRetO_e, vDof_e, mForZ_e, wipeE, pow6, pow7, pow9, pow15, pow18, pow39, asM, List.replicate, List.cons_append, List.nil_append, List.getElem?_cons_zero, List.getElem?_cons_succ, enAll, List.set_cons_zero, List.set_cons_succ, Nat.reduceSub, List.length_cons, List.length_nil, decide_eq_true_eq, Nat.reduceAdd, Nat.reduceLeDiff, true_and, Bool.not_true, Bool.not_false, if_true, if_false, Bool.false_eq_true, Bool.not_eq_true', decide_eq_false_iff_not, Int.reduceLE, Int.reduceLT, Int.reduceNeg, Int.reduceSub, Int.reduceAdd, and_true, PyData.int.injEq, Nat.zero_add, Int.zero_add, Int.sub_zero, addW_ii, addW_ib, addW_bi, addW_tt, addW_ll, subW_ii, subW_ib, subW_bi, mulW_ii, fdivW_ii, modW_ii, negW_i, eqW_ii, eqW_ss, eqW_t0, eqW_l0, neW_ii, neW_ss, neW_t0, neW_l0, ltW_ii, leW_ii, gtW_ii, geW_ii, isW_n, isntW_n, ixW_l, ixW_t, lenW_l, lenW_t, absW_i, intW_i, intW_b, tupW_l, tupW_t, lstW_l, lstW_t, sumW_l, allW_l, anyW_l, minW_2, maxW_2, slW_t, slW_l, revW_t, revW_l, reprW_1, strW_i, strW_b, sortW_l, sortW_t, Option.some.injEq, exists_eq_left', exists_eq_left, dKey, exists_and_left, exists_const]
        refine ⟨ds.map (rowOk (bs.map (·.1))), by simp, ?_⟩
        have ea : (ds.map (rowOk (bs.map (·.1)))).all id = ds.all (rowOk (bs.map (·.1))) := by simp [Function.comp_def]
        rw [ea]
        have ne : ds.isEmpty = false := by cases ds with | nil => simp at h0 | cons _ _ => rfl
        cases ha : ds.all (rowOk (bs.map (·.1))) with
        | false =>
          simp only [S_is_trip_4, mV_e, mC_e, mO_e, mOp_e, mUn_e, mT_e, mNotT_e, mAndT_e, mOrT_e, mAnd_e, mOr_e, mNot_e, mIf_e, mChain_e, mNil_e, mCons_e, mTup_e, mLst_e, mLk_e, mCat_e, mCB_e, mCL_e, vD_e, vL_e, vM0_e, mSkip_e, mSeq_e, mAsg_e, mRet_e, mIfS_e, mDrop_e, vNil_e, vCons_e, mPar_e, bName_e, bTup_e, bNil_e, bCons_e, mUnp_e, mFor_e, mForR_e, mForR2_e, mApp_e, mYes_e, mLc_e, mLcR_e, mLcR2_e, mLcZ_e, gNo_e, gE_e, gO_e, mCall_e, mFn_e, mIsi_e, mSS_e, mNo_e, mPt_e, mSl_e, mDG_e, mDGd_e, mDIn_e, mPut_e, mSD_e, mRetO_e, vDof_e, mForZ_e, wipeE, pow6, pow7, pow9, pow15, pow18, pow39, asM, List.replicate, List.cons_append, List.nil_append, List.getElem?_cons_zero, List.getElem?_cons_succ, enAll, List.set_cons_zero, List.set_cons_succ, Nat.reduceSub, List.length_cons, List.length_nil, decide_eq_true_eq, Nat.reduceAdd, Nat.reduceLeDiff, true_and, Bool.not_true, Bool.not_false, if_true, if_false, Bool.false_eq_true, Bool.not_eq_true', decide_eq_false_iff_not, Int.reduceLE, Int.reduceLT, Int.reduceNeg, Int.reduceSub, Int.reduceAdd, and_true, PyData.int.injEq, Nat.zero_add, Int.zero_add, Int.sub_zero, addW_ii, addW_ib, addW_bi, addW_tt, addW_ll, subW_ii, subW_ib, subW_bi, mulW_ii, fdivW_ii, modW_ii, negW_i, eqW_ii, eqW_ss, eqW_t0, eqW_l0, neW_ii, neW_ss, neW_t0, neW_l0, ltW_ii, leW_ii, gtW_ii, geW_ii, isW_n, isntW_n, ixW_l, ixW_t, lenW_l, lenW_t, absW_i, intW_i, intW_b, tupW_l, tupW_t, lstW_l, lstW_t, sumW_l, allW_l, anyW_l, minW_2, maxW_2, slW_t, slW_l, revW_t, revW_l, reprW_1, strW_i, strW_b, sortW_l, sortW_t, Option.some.injEq, exists_eq_left', exists_eq_left, dKey, exists_and_left, exists_const]
          simpa [tripD, ne, ha] using q
        | true =>
          obtain ⟨rs, rfl, hr⟩ := rows_of ha
          rw [List.length_map] at fl
          simp only [S_is_trip_3, mV_e, mC_e, mO_e, mOp_e, mUn_e, mT_e, mNotT_e, mAndT_e, mOrT_e, mAnd_e, mOr_e, mNot_e, mIf_e, mChain_e, mNil_e, mCons_e, mTup_e, mLst_e, mLk_e, mCat_e, mCB_e, mCL_e, vD_e, vL_e, vM0_e, mSkip_e, mSeq_e, mAsg_e, mRet_e, mIfS_e, mDrop_e, vNil_e, vCons_e, mPar_e, bName_e, bTup_e, bNil_e, bCons_e, mUnp_e, mFor_e, mForR_e, mForR2_e, mApp_e, mYes_e, mLc_e, mLcR_e, mLcR2_e, mLcZ_e, gNo_e, gE_e, gO_e, mCall_e, mFn_e, mIsi_e, mSS_e, mNo_e, mPt_e, mSl_e, mDG_e, mDGd_e, mDIn_e, mPut_e, mSD_e, mRetO_e, vDof_e, mForZ_e, wipeE, pow6, pow7, pow9, pow15, pow18, pow39, asM, List.replicate, List.cons_append, List.nil_append, List.getElem?_cons_zero, List.getElem?_cons_succ, enAll, List.set_cons_zero, List.set_cons_succ, Nat.reduceSub, List.length_cons, List.length_nil, decide_eq_true_eq, Nat.reduceAdd, Nat.reduceLeDiff, true_and, Bool.not_true, Bool.not_false, if_true, if_false, Bool.false_eq_true, Bool.not_eq_true', decide_eq_false_iff_not, Int.reduceLE, Int.reduceLT, Int.reduceNeg, Int.reduceSub, Int.reduceAdd, and_true, PyData.int.injEq, Nat.zero_add, Int.zero_add, Int.sub_zero, addW_ii, addW_ib, addW_bi, addW_tt, addW_ll, subW_ii, subW_ib, subW_bi, mulW_ii, fdivW_ii, modW_ii, negW_i, eqW_ii, eqW_ss, eqW_t0, eqW_l0, neW_ii, neW_ss, neW_t0, neW_l0, ltW_ii, leW_ii, gtW_ii, geW_ii, isW_n, isntW_n, ixW_l, ixW_t, lenW_l, lenW_t, absW_i, intW_i, intW_b, tupW_l, tupW_t, lstW_l, lstW_t, sumW_l, allW_l, anyW_l, minW_2, maxW_2, slW_t, slW_l, revW_t, revW_l, reprW_1, strW_i, strW_b, sortW_l, sortW_t, Option.some.injEq, exists_eq_left', exists_eq_left, dKey, exists_and_left, exists_const]
          refine fst_beds fl (fun r hr Q hq => by simp only [mV_e, mC_e, mO_e, mOp_e, mUn_e, mT_e, mNotT_e, mAndT_e, mOrT_e, mAnd_e, mOr_e, mNot_e, mIf_e, mChain_e, mNil_e, mCons_e, mTup_e, mLst_e, mLk_e, mCat_e, mCB_e, mCL_e, vD_e, vL_e, vM0_e, mSkip_e, mSeq_e, mAsg_e, mRet_e, mIfS_e, mDrop_e, vNil_e, vCons_e, mPar_e, bName_e, bTup_e, bNil_e, bCons_e, mUnp_e, mFor_e, mForR_e, mForR2_e, mApp_e, mYes_e, mLc_e, mLcR_e, mLcR2_e, mLcZ_e, gNo_e, gE_e, gO_e, mCall_e, mFn_e, mIsi_e, mSS_e, mNo_e, mPt_e, mSl_e, mDG_e, mDGd_e, mDIn_e, mPut_e, mSD_e, mRetO_e, vDof_e, mForZ_e, wipeE, pow6, pow7, pow9, pow15, pow18, pow39, asM, List.replicate, List.cons_append, List.nil_append, List.getElem?_cons_zero, List.getElem?_cons_succ, enAll, List.set_cons_zero, List.set_cons_succ, Nat.reduceSub, List.length_cons, List.length_nil, decide_eq_true_eq, Nat.reduceAdd, Nat.reduceLeDiff, true_and, Bool.not_true, Bool.not_false, if_true, if_false, Bool.false_eq_true, Bool.not_eq_true', decide_eq_false_iff_not, Int.reduceLE, Int.reduceLT, Int.reduceNeg, Int.reduceSub, Int.reduceAdd, and_true, PyData.int.injEq, Nat.zero_add, Int.zero_add, Int.sub_zero, addW_ii, addW_ib, addW_bi, addW_tt, addW_ll, subW_ii, subW_ib, subW_bi, mulW_ii, fdivW_ii, modW_ii, negW_i, eqW_ii, eqW_ss, eqW_t0, eqW_l0, neW_ii, neW_ss, neW_t0, neW_l0, ltW_ii, leW_ii, gtW_ii, geW_ii, isW_n, isntW_n, ixW_l, ixW_t, lenW_l, lenW_t, absW_i, intW_i, intW_b, tupW_l, tupW_t, lstW_l, lstW_t, sumW_l, allW_l, anyW_l, minW_2, maxW_2, slW_t, slW_l, revW_t, revW_l, reprW_1, strW_i, strW_b, sortW_l, sortW_t, Option.some.injEq, exists_eq_left', exists_eq_left, dKey, exists_and_left, exists_const]; exact hq) ?_
          refine ascends_ok (by simpa using fl) ?_
          cases hs : ascB (rs.map (·.1)) with
          | false =>
            simp only [S_is_trip_2, mV_e, mC_e, mO_e, mOp_e, mUn_e, mT_e, mNotT_e, mAndT_e, mOrT_e, mAnd_e, mOr_e, mNot_e, mIf_e, mChain_e, mNil_e, mCons_e, mTup_e, mLst_e, mLk_e, mCat_e, mCB_e, mCL_e, vD_e, vL_e, vM0_e, mSkip_e, mSeq_e, mAsg_e, mRet_e, mIfS_e, mDrop_e, vNil_e, vCons_e, mPar_e, bName_e, bTup_e, bNil_e, bCons_e, mUnp_e, mFor_e, mForR_e, mForR2_e, mApp_e, mYes_e, mLc_e, mLcR_e, mLcR2_e, mLcZ_e, gNo_e, gE_e, gO_e, mCall_e, mFn_e, mIsi_e, mSS_e, mNo_e, mPt_e, mSl_e, mDG_e, mDGd_e, mDIn_e, mPut_e, mSD_e, mRetO_e, vDof_e, mForZ_e, wipeE, pow6, pow7, pow9, pow15, pow18, pow39, asM, List.replicate, List.cons_append, List.nil_append, List.getElem?_cons_zero, List.getElem?_cons_succ, enAll, List.set_cons_zero, List.set_cons_succ, Nat.reduceSub, List.length_cons, List.length_nil, decide_eq_true_eq, Nat.reduceAdd, Nat.reduceLeDiff, true_and, Bool.not_true, Bool.not_false, if_true, if_false, Bool.false_eq_true, Bool.not_eq_true', decide_eq_false_iff_not, Int.reduceLE, Int.reduceLT, Int.reduceNeg, Int.reduceSub, Int.reduceAdd, and_true, PyData.int.injEq, Nat.zero_add, Int.zero_add, Int.sub_zero, addW_ii, addW_ib, addW_bi, addW_tt, addW_ll, subW_ii, subW_ib, subW_bi, mulW_ii, fdivW_ii, modW_ii, negW_i, eqW_ii, eqW_ss, eqW_t0, eqW_l0, neW_ii, neW_ss, neW_t0, neW_l0, ltW_ii, leW_ii, gtW_ii, geW_ii, isW_n, isntW_n, ixW_l, ixW_t, lenW_l, lenW_t, absW_i, intW_i, intW_b, tupW_l, tupW_t, lstW_l, lstW_t, sumW_l, allW_l, anyW_l, minW_2, maxW_2, slW_t, slW_l, revW_t, revW_l, reprW_1, strW_i, strW_b, sortW_l, sortW_t, Option.some.injEq, exists_eq_left', exists_eq_left, dKey, exists_and_left, exists_const]
            have e : tripD c (bs.map (·.1)) (.tuple (rs.map bedD)) = false := by rw [tripD_t, rowOf_bed, hs]; simp
            exact e ▸ q
          | true =>
            simp only [S_is_trip_1, mV_e, mC_e, mO_e, mOp_e, mUn_e, mT_e, mNotT_e, mAndT_e, mOrT_e, mAnd_e, mOr_e, mNot_e, mIf_e, mChain_e, mNil_e, mCons_e, mTup_e, mLst_e, mLk_e, mCat_e, mCB_e, mCL_e, vD_e, vL_e, vM0_e, mSkip_e, mSeq_e, mAsg_e, mRet_e, mIfS_e, mDrop_e, vNil_e, vCons_e, mPar_e, bName_e, bTup_e, bNil_e, bCons_e, mUnp_e, mFor_e, mForR_e, mForR2_e, mApp_e, mYes_e, mLc_e, mLcR_e, mLcR2_e, mLcZ_e, gNo_e, gE_e, gO_e, mCall_e, mFn_e, mIsi_e, mSS_e, mNo_e, mPt_e, mSl_e, mDG_e, mDGd_e, mDIn_e, mPut_e, mSD_e, mRetO_e, vDof_e, mForZ_e, wipeE, pow6, pow7, pow9, pow15, pow18, pow39, asM, List.replicate, List.cons_append, List.nil_append, List.getElem?_cons_zero, List.getElem?_cons_succ, enAll, List.set_cons_zero, List.set_cons_succ, Nat.reduceSub, List.length_cons, List.length_nil, decide_eq_true_eq, Nat.reduceAdd, Nat.reduceLeDiff, true_and, Bool.not_true, Bool.not_false, if_true, if_false, Bool.false_eq_true, Bool.not_eq_true', decide_eq_false_iff_not, Int.reduceLE, Int.reduceLT, Int.reduceNeg, Int.reduceSub, Int.reduceAdd, and_true, PyData.int.injEq, Nat.zero_add, Int.zero_add, Int.sub_zero, addW_ii, addW_ib, addW_bi, addW_tt, addW_ll, subW_ii, subW_ib, subW_bi, mulW_ii, fdivW_ii, modW_ii, negW_i, eqW_ii, eqW_ss, eqW_t0, eqW_l0, neW_ii, neW_ss, neW_t0, neW_l0, ltW_ii, leW_ii, gtW_ii, geW_ii, isW_n, isntW_n, ixW_l, ixW_t, lenW_l, lenW_t, absW_i, intW_i, intW_b, tupW_l, tupW_t, lstW_l, lstW_t, sumW_l, allW_l, anyW_l, minW_2, maxW_2, slW_t, slW_l, revW_t, revW_l, reprW_1, strW_i, strW_b, sortW_l, sortW_t, Option.some.injEq, exists_eq_left', exists_eq_left, dKey, exists_and_left, exists_const]
            refine snd_beds fl (fun r hr Q hq => by simp only [mV_e, mC_e, mO_e, mOp_e, mUn_e, mT_e, mNotT_e, mAndT_e, mOrT_e, mAnd_e, mOr_e, mNot_e, mIf_e, mChain_e, mNil_e, mCons_e, mTup_e, mLst_e, mLk_e, mCat_e, mCB_e, mCL_e, vD_e, vL_e, vM0_e, mSkip_e, mSeq_e, mAsg_e, mRet_e, mIfS_e, mDrop_e, vNil_e, vCons_e, mPar_e, bName_e, bTup_e, bNil_e, bCons_e, mUnp_e, mFor_e, mForR_e, mForR2_e, mApp_e, mYes_e, mLc_e, mLcR_e, mLcR2_e, mLcZ_e, gNo_e, gE_e, gO_e, mCall_e, mFn_e, mIsi_e, mSS_e, mNo_e, mPt_e, mSl_e, mDG_e, mDGd_e, mDIn_e, mPut_e, mSD_e, mRetO_e, vDof_e, mForZ_e, wipeE, pow6, pow7, pow9, pow15, pow18, pow39, asM, List.replicate, List.cons_append, List.nil_append, List.getElem?_cons_zero, List.getElem?_cons_succ, enAll, List.set_cons_zero, List.set_cons_succ, Nat.reduceSub, List.length_cons, List.length_nil, decide_eq_true_eq, Nat.reduceAdd, Nat.reduceLeDiff, true_and, Bool.not_true, Bool.not_false, if_true, if_false, Bool.false_eq_true, Bool.not_eq_true', decide_eq_false_iff_not, Int.reduceLE, Int.reduceLT, Int.reduceNeg, Int.reduceSub, Int.reduceAdd, and_true, PyData.int.injEq, Nat.zero_add, Int.zero_add, Int.sub_zero, addW_ii, addW_ib, addW_bi, addW_tt, addW_ll, subW_ii, subW_ib, subW_bi, mulW_ii, fdivW_ii, modW_ii, negW_i, eqW_ii, eqW_ss, eqW_t0, eqW_l0, neW_ii, neW_ss, neW_t0, neW_l0, ltW_ii, leW_ii, gtW_ii, geW_ii, isW_n, isntW_n, ixW_l, ixW_t, lenW_l, lenW_t, absW_i, intW_i, intW_b, tupW_l, tupW_t, lstW_l, lstW_t, sumW_l, allW_l, anyW_l, minW_2, maxW_2, slW_t, slW_l, revW_t, revW_l, reprW_1, strW_i, strW_b, sortW_l, sortW_t, Option.some.injEq, exists_eq_left', exists_eq_left, dKey, exists_and_left, exists_const]; exact hq) ?_
            refine ⟨_, rfl, ?_⟩
            have e : tripD c (bs.map (·.1)) (.tuple (rs.map bedD)) = decide ((rs.map (·.2)).sum ≤ c) := by rw [tripD_t, rowOf_bed, hs, ne, ha]; simp
            exact e ▸ q
end Wp

namespace Wp
open PySem PySem.Spec PyProof.Rows L2 Evl
/-! ### trips, as the law tells them -/
def inI (lo hi : Int) : PyData → Bool
  | .int i => decide (lo ≤ i) && decide (i ≤ hi)
  | _ => false
theorem l_is_number_ok {d : PyData} {lo hi : Int} {b : Nat} {R : PyData → Nat → Prop} (q : R (.bool (inI lo hi d)) b) : M_l_is_number [.d d, .d (.int lo), .d (.int hi)] b R := by
  simp only [M_l_is_number, mFn_e, B_l_is_number, S_l_is_number_1, mV_e, mC_e, mO_e, mOp_e, mUn_e, mT_e, mNotT_e, mAndT_e, mOrT_e, mAnd_e, mOr_e, mNot_e, mIf_e, mChain_e, mNil_e, mCons_e, mTup_e, mLst_e, mLk_e, mCat_e, mCB_e, mCL_e, vD_e, vL_e, vM0_e, mSkip_e, mSeq_e, mAsg_e, mRet_e, mIfS_e, mDrop_e, vNil_e, vCons_e, mPar_e, bName_e, bTup_e, bNil_e, bCons_e, mUnp_e, mFor_e, mForR_e, mForR2_e, mApp_e, mYes_e, mLc_e, mLcR_e, mLcR2_e, mLcZ_e, gNo_e, gE_e, gO_e, mCall_e, mFn_e, mIsi_e, mSS_e, mNo_e, mPt_e, mSl_e, mDG_e, mDGd_e, mDIn_e, mPut_e, mSD_e, mRetO_e, vDof_e, mForZ_e, wipeE, pow6, pow7, pow9, pow15, pow18, pow39, asM, List.replicate, List.cons_append, List.nil_append, List.getElem?_cons_zero, List.getElem?_cons_succ, enAll, List.set_cons_zero, List.set_cons_succ, Nat.reduceSub, List.length_cons, List.length_nil, decide_eq_true_eq, Nat.reduceAdd, Nat.reduceLeDiff, true_and, Bool.not_true, Bool.not_false, if_true, if_false, Bool.false_eq_true, Bool.not_eq_true', decide_eq_false_iff_not, Int.reduceLE, Int.reduceLT, Int.reduceNeg, Int.reduceSub, Int.reduceAdd, and_true, PyData.int.injEq, Nat.zero_add, Int.zero_add, Int.sub_zero, addW_ii, addW_ib, addW_bi, addW_tt, addW_ll, subW_ii, subW_ib, subW_bi, mulW_ii, fdivW_ii, modW_ii, negW_i, eqW_ii, eqW_ss, eqW_t0, eqW_l0, neW_ii, neW_ss, neW_t0, neW_l0, ltW_ii, leW_ii, gtW_ii, geW_ii, isW_n, isntW_n, ixW_l, ixW_t, lenW_l, lenW_t, absW_i, intW_i, intW_b, tupW_l, tupW_t, lstW_l, lstW_t, sumW_l, allW_l, anyW_l, minW_2, maxW_2, slW_t, slW_l, revW_t, revW_l, reprW_1, strW_i, strW_b, sortW_l, sortW_t, Option.some.injEq, exists_eq_left', exists_eq_left, dKey, exists_and_left, exists_const]
  cases d with
  | int i =>
    simp only [isI, isB, Bool.not_false, mV_e, mC_e, mO_e, mOp_e, mUn_e, mT_e, mNotT_e, mAndT_e, mOrT_e, mAnd_e, mOr_e, mNot_e, mIf_e, mChain_e, mNil_e, mCons_e, mTup_e, mLst_e, mLk_e, mCat_e, mCB_e, mCL_e, vD_e, vL_e, vM0_e, mSkip_e, mSeq_e, mAsg_e, mRet_e, mIfS_e, mDrop_e, vNil_e, vCons_e, mPar_e, bName_e, bTup_e, bNil_e, bCons_e, mUnp_e, mFor_e, mForR_e, mForR2_e, mApp_e, mYes_e, mLc_e, mLcR_e, mLcR2_e, mLcZ_e, gNo_e, gE_e, gO_e, mCall_e, mFn_e, mIsi_e, mSS_e, mNo_e, mPt_e, mSl_e, mDG_e, mDGd_e, mDIn_e, mPut_e, mSD_e, mRetO_e, vDof_e, mForZ_e, wipeE, pow6, pow7, pow9, pow15, pow18, pow39, asM, List.replicate, List.cons_append, List.nil_append, List.getElem?_cons_zero, List.getElem?_cons_succ, enAll, List.set_cons_zero, List.set_cons_succ, Nat.reduceSub, List.length_cons, List.length_nil, decide_eq_true_eq, Nat.reduceAdd, Nat.reduceLeDiff, true_and, Bool.not_true, Bool.not_false, if_true, if_false, Bool.false_eq_true, Bool.not_eq_true', decide_eq_false_iff_not, Int.reduceLE, Int.reduceLT, Int.reduceNeg, Int.reduceSub, Int.reduceAdd, and_true, PyData.int.injEq, Nat.zero_add, Int.zero_add, Int.sub_zero, addW_ii, addW_ib, addW_bi, addW_tt, addW_ll, subW_ii, subW_ib, subW_bi, mulW_ii, fdivW_ii, modW_ii, negW_i, eqW_ii, eqW_ss, eqW_t0, eqW_l0, neW_ii, neW_ss, neW_t0, neW_l0, ltW_ii, leW_ii, gtW_ii, geW_ii, isW_n, isntW_n, ixW_l, ixW_t, lenW_l, lenW_t, absW_i, intW_i, intW_b, tupW_l, tupW_t, lstW_l, lstW_t, sumW_l, allW_l, anyW_l, minW_2, maxW_2, slW_t, slW_l, revW_t, revW_l, reprW_1, strW_i, strW_b, sortW_l, sortW_t, Option.some.injEq, exists_eq_left', exists_eq_left, dKey, exists_and_left, exists_const]
    by_cases h : lo ≤ i
    · simpa [inI, h, leW_ii] using q
    · simpa [inI, h, leW_ii] using q
  | _ => simpa [isI, isB, inI] using q
def lawRows (c : Int) (ps : List Int) : Int → Int → List PyData → Bool
  | _, tot, [] => decide (tot ≤ c)
  | bf, tot, d :: ds => match rowOf d with
    | some r => (ps.contains r.1 && (decide (bf < r.1) && (decide (1 ≤ r.2) && decide (r.2 ≤ c)))) && lawRows c ps r.1 (tot + r.2) ds
    | none => false
theorem rows_nn {ps : List Int} : ∀ {ds : List PyData}, ds.all (rowOk ps) = true → 0 ≤ ((ds.filterMap rowOf).map (·.2)).sum := fun {ds} h => by
  obtain ⟨rs, rfl, hr⟩ := rows_of h
  rw [rowOf_bed]
  exact sum_nn fun x hx => by
    obtain ⟨r, hr', rfl⟩ := List.mem_map.mp hx
    have := (hr r hr').2
    omega
theorem asc_cons (x y : Int) (r : List Int) : ascB (x :: y :: r) = (decide (x < y) && ascB (y :: r)) := rfl
theorem lawRows_eq {c : Int} {ps : List Int} : ∀ (ds : List PyData) (bf tot : Int), 0 ≤ tot → lawRows c ps bf tot ds = (ds.all (rowOk ps) && (ascB (bf :: (ds.filterMap rowOf).map (·.1)) && decide (tot + ((ds.filterMap rowOf).map (·.2)).sum ≤ c)))
  | [], bf, tot, _ => by simp [lawRows, ascB, ltPairs]
  | d :: ds, bf, tot, h0 => by
    rw [List.all_cons]
    cases hd : rowOf d with
    | none => simp [lawRows, hd, rowOk]
    | some r =>
      have ok : rowOk ps d = (ps.contains r.1 && decide (1 ≤ r.2)) := by simp [rowOk, hd]
      rw [ok, List.filterMap_cons_some hd, List.map_cons, List.map_cons, asc_cons, List.sum_cons]
      simp only [lawRows, hd]
      by_cases h1 : 1 ≤ r.2
      · rw [lawRows_eq ds r.1 (tot + r.2) (by omega), ← Int.add_assoc]
        by_cases h2 : r.2 ≤ c
        · simp only [h1, h2, decide_true, Bool.and_true]
          cases ps.contains r.1 <;> cases decide (bf < r.1) <;> cases ds.all (rowOk ps) <;> rfl
        · cases ha : ds.all (rowOk ps) with
          | false => simp
          | true =>
            have := rows_nn ha
            have e : decide (tot + r.2 + ((ds.filterMap rowOf).map (·.2)).sum ≤ c) = false := by
              rw [decide_eq_false_iff_not]; omega
            rw [e]
            simp [h2]
      · simp [h1]
theorem lawRows_trip {c : Int} {ps : List Int} {ds : List PyData} (hp : ∀ p ∈ ps, -1000000 ≤ p) (ne : ds.isEmpty = false) : lawRows c ps (-1000001) 0 ds = tripD c ps (.tuple ds) := by
  rw [lawRows_eq ds _ 0 (by omega), tripD_t, ne, Int.zero_add]
  cases ha : ds.all (rowOk ps) with
  | false => simp
  | true =>
    obtain ⟨rs, rfl, hr⟩ := rows_of ha
    rw [rowOf_bed]
    cases rs with
    | nil => simp at ne
    | cons r rs =>
      have h1 := (hr r (List.mem_cons_self ..)).1
      have h2 := hp r.1 (by simpa using h1)
      rw [List.map_cons, asc_cons, show decide (-1000001 < r.1) = true by rw [decide_eq_true_eq]; omega]
      simp
theorem l_row_ok {c bf tot : Int} {ps : List Int} {g v s3 s5 s9 s10 : Sl} {F : WEnds} {d : PyData} {b : Nat} (hp : ∀ p ∈ ps, -1000000 ≤ p ∧ p ≤ 1000000) (no : rowOf d = none → F.rt (.bool false) b) (nr : ∀ r, rowOf d = some r → (ps.contains r.1 && (decide (bf < r.1) && (decide (1 ≤ r.2) && decide (r.2 ≤ c)))) = false → F.rt (.bool false) b)
    (q : ∀ r, rowOf d = some r → (ps.contains r.1 && (decide (bf < r.1) && (decide (1 ≤ r.2) && decide (r.2 ≤ c)))) = true → F.nx [g, v, .d d, s3, .d (.int c), s5, .d (.list (ps.map PyData.int)), .d (.int r.1), .d (.int (tot + r.2)), s9, s10] b) :
    (mSeq S_l_is_trip_6 (mSeq S_l_is_trip_4 S_l_is_trip_2)) [g, v, .d d, s3, .d (.int c), s5, .d (.list (ps.map PyData.int)), .d (.int bf), .d (.int tot), s9, s10] b F := by
  simp only [S_l_is_trip_6, S_l_is_trip_5, mV_e, mC_e, mO_e, mOp_e, mUn_e, mT_e, mNotT_e, mAndT_e, mOrT_e, mAnd_e, mOr_e, mNot_e, mIf_e, mChain_e, mNil_e, mCons_e, mTup_e, mLst_e, mLk_e, mCat_e, mCB_e, mCL_e, vD_e, vL_e, vM0_e, mSkip_e, mSeq_e, mAsg_e, mRet_e, mIfS_e, mDrop_e, vNil_e, vCons_e, mPar_e, bName_e, bTup_e, bNil_e, bCons_e, mUnp_e, mFor_e, mForR_e, mForR2_e, mApp_e, mYes_e, mLc_e, mLcR_e, mLcR2_e, mLcZ_e, gNo_e, gE_e, gO_e, mCall_e, mFn_e, mIsi_e, mSS_e, mNo_e, mPt_e, mSl_e, mDG_e, mDGd_e, mDIn_e, mPut_e, mSD_e, mRetO_e, vDof_e, mForZ_e, wipeE, pow6, pow7, pow9, pow15, pow18, pow39, asM, List.replicate, List.cons_append, List.nil_append, List.getElem?_cons_zero, List.getElem?_cons_succ, enAll, List.set_cons_zero, List.set_cons_succ, Nat.reduceSub, List.length_cons, List.length_nil, decide_eq_true_eq, Nat.reduceAdd, Nat.reduceLeDiff, true_and, Bool.not_true, Bool.not_false, if_true, if_false, Bool.false_eq_true, Bool.not_eq_true', decide_eq_false_iff_not, Int.reduceLE, Int.reduceLT, Int.reduceNeg, Int.reduceSub, Int.reduceAdd, and_true, PyData.int.injEq, Nat.zero_add, Int.zero_add, Int.sub_zero, addW_ii, addW_ib, addW_bi, addW_tt, addW_ll, subW_ii, subW_ib, subW_bi, mulW_ii, fdivW_ii, modW_ii, negW_i, eqW_ii, eqW_ss, eqW_t0, eqW_l0, neW_ii, neW_ss, neW_t0, neW_l0, ltW_ii, leW_ii, gtW_ii, geW_ii, isW_n, isntW_n, ixW_l, ixW_t, lenW_l, lenW_t, absW_i, intW_i, intW_b, tupW_l, tupW_t, lstW_l, lstW_t, sumW_l, allW_l, anyW_l, minW_2, maxW_2, slW_t, slW_l, revW_t, revW_l, reprW_1, strW_i, strW_b, sortW_l, sortW_t, Option.some.injEq, exists_eq_left', exists_eq_left, dKey, exists_and_left, exists_const]
  cases d with
  | tuple xs =>
    simp only [isT]
    match xs with
    | [x, y] =>
      simp only [List.length_cons, List.length_nil, Nat.zero_add, Nat.reduceAdd, mV_e, mC_e, mO_e, mOp_e, mUn_e, mT_e, mNotT_e, mAndT_e, mOrT_e, mAnd_e, mOr_e, mNot_e, mIf_e, mChain_e, mNil_e, mCons_e, mTup_e, mLst_e, mLk_e, mCat_e, mCB_e, mCL_e, vD_e, vL_e, vM0_e, mSkip_e, mSeq_e, mAsg_e, mRet_e, mIfS_e, mDrop_e, vNil_e, vCons_e, mPar_e, bName_e, bTup_e, bNil_e, bCons_e, mUnp_e, mFor_e, mForR_e, mForR2_e, mApp_e, mYes_e, mLc_e, mLcR_e, mLcR2_e, mLcZ_e, gNo_e, gE_e, gO_e, mCall_e, mFn_e, mIsi_e, mSS_e, mNo_e, mPt_e, mSl_e, mDG_e, mDGd_e, mDIn_e, mPut_e, mSD_e, mRetO_e, vDof_e, mForZ_e, wipeE, pow6, pow7, pow9, pow15, pow18, pow39, asM, List.replicate, List.cons_append, List.nil_append, List.getElem?_cons_zero, List.getElem?_cons_succ, enAll, List.set_cons_zero, List.set_cons_succ, Nat.reduceSub, List.length_cons, List.length_nil, decide_eq_true_eq, Nat.reduceAdd, Nat.reduceLeDiff, true_and, Bool.not_true, Bool.not_false, if_true, if_false, Bool.false_eq_true, Bool.not_eq_true', decide_eq_false_iff_not, Int.reduceLE, Int.reduceLT, Int.reduceNeg, Int.reduceSub, Int.reduceAdd, and_true, PyData.int.injEq, Nat.zero_add, Int.zero_add, Int.sub_zero, addW_ii, addW_ib, addW_bi, addW_tt, addW_ll, subW_ii, subW_ib, subW_bi, mulW_ii, fdivW_ii, modW_ii, negW_i, eqW_ii, eqW_ss, eqW_t0, eqW_l0, neW_ii, neW_ss, neW_t0, neW_l0, ltW_ii, leW_ii, gtW_ii, geW_ii, isW_n, isntW_n, ixW_l, ixW_t, lenW_l, lenW_t, absW_i, intW_i, intW_b, tupW_l, tupW_t, lstW_l, lstW_t, sumW_l, allW_l, anyW_l, minW_2, maxW_2, slW_t, slW_l, revW_t, revW_l, reprW_1, strW_i, strW_b, sortW_l, sortW_t, Option.some.injEq, exists_eq_left', exists_eq_left, dKey, exists_and_left, exists_const]
      refine ⟨x, rfl, l_is_number_ok ?_⟩
      cases x with
      | int p =>
        by_cases hr : -1000000 ≤ p ∧ p ≤ 1000000
        · have e : inI (-1000000) 1000000 (.int p) = true := by simp [inI, hr.1, hr.2]
          simp only [e, mV_e, mC_e, mO_e, mOp_e, mUn_e, mT_e, mNotT_e, mAndT_e, mOrT_e, mAnd_e, mOr_e, mNot_e, mIf_e, mChain_e, mNil_e, mCons_e, mTup_e, mLst_e, mLk_e, mCat_e, mCB_e, mCL_e, vD_e, vL_e, vM0_e, mSkip_e, mSeq_e, mAsg_e, mRet_e, mIfS_e, mDrop_e, vNil_e, vCons_e, mPar_e, bName_e, bTup_e, bNil_e, bCons_e, mUnp_e, mFor_e, mForR_e, mForR2_e, mApp_e, mYes_e, mLc_e, mLcR_e, mLcR2_e, mLcZ_e, gNo_e, gE_e, gO_e, mCall_e, mFn_e, mIsi_e, mSS_e, mNo_e, mPt_e, mSl_e, mDG_e, mDGd_e, mDIn_e, mPut_e, mSD_e, mRetO_e, vDof_e, mForZ_e, wipeE, pow6, pow7, pow9, pow15, pow18, pow39, asM, List.replicate, List.cons_append, List.nil_append, List.getElem?_cons_zero, List.getElem?_cons_succ, enAll, List.set_cons_zero, List.set_cons_succ, Nat.reduceSub, List.length_cons, List.length_nil, decide_eq_true_eq, Nat.reduceAdd, Nat.reduceLeDiff, true_and, Bool.not_true, Bool.not_false, if_true, if_false, Bool.false_eq_true, Bool.not_eq_true', decide_eq_false_iff_not, Int.reduceLE, Int.reduceLT, Int.reduceNeg, Int.reduceSub, Int.reduceAdd, and_true, PyData.int.injEq, Nat.zero_add, Int.zero_add, Int.sub_zero, addW_ii, addW_ib, addW_bi, addW_tt, addW_ll, subW_ii, subW_ib, subW_bi, mulW_ii, fdivW_ii, modW_ii, negW_i, eqW_ii, eqW_ss, eqW_t0, eqW_l0, neW_ii, neW_ss, neW_t0, neW_l0, ltW_ii, leW_ii, gtW_ii, geW_ii, isW_n, isntW_n, ixW_l, ixW_t, lenW_l, lenW_t, absW_i, intW_i, intW_b, tupW_l, tupW_t, lstW_l, lstW_t, sumW_l, allW_l, anyW_l, minW_2, maxW_2, slW_t, slW_l, revW_t, revW_l, reprW_1, strW_i, strW_b, sortW_l, sortW_t, Option.some.injEq, exists_eq_left', exists_eq_left, dKey, exists_and_left, exists_const]
          simp only [S_l_is_trip_4, S_l_is_trip_3, mV_e, mC_e, mO_e, mOp_e, mUn_e, mT_e, mNotT_e, mAndT_e, mOrT_e, mAnd_e, mOr_e, mNot_e, mIf_e, mChain_e, mNil_e, mCons_e, mTup_e, mLst_e, mLk_e, mCat_e, mCB_e, mCL_e, vD_e, vL_e, vM0_e, mSkip_e, mSeq_e, mAsg_e, mRet_e, mIfS_e, mDrop_e, vNil_e, vCons_e, mPar_e, bName_e, bTup_e, bNil_e, bCons_e, mUnp_e, mFor_e, mForR_e, mForR2_e, mApp_e, mYes_e, mLc_e, mLcR_e, mLcR2_e, mLcZ_e, gNo_e, gE_e, gO_e, mCall_e, mFn_e, mIsi_e, mSS_e, mNo_e, mPt_e, mSl_e, mDG_e, mDGd_e, mDIn_e, mPut_e, mSD_e, mRetO_e, vDof_e, mForZ_e, wipeE, pow6, pow7, pow9, pow15, pow18, pow39, asM, List.replicate, List.cons_append, List.nil_append, List.getElem?_cons_zero, List.getElem?_cons_succ, enAll, List.set_cons_zero, List.set_cons_succ, Nat.reduceSub, List.length_cons, List.length_nil, decide_eq_true_eq, Nat.reduceAdd, Nat.reduceLeDiff, true_and, Bool.not_true, Bool.not_false, if_true, if_false, Bool.false_eq_true, Bool.not_eq_true', decide_eq_false_iff_not, Int.reduceLE, Int.reduceLT, Int.reduceNeg, Int.reduceSub, Int.reduceAdd, and_true, PyData.int.injEq, Nat.zero_add, Int.zero_add, Int.sub_zero, addW_ii, addW_ib, addW_bi, addW_tt, addW_ll, subW_ii, subW_ib, subW_bi, mulW_ii, fdivW_ii, modW_ii, negW_i, eqW_ii, eqW_ss, eqW_t0, eqW_l0, neW_ii, neW_ss, neW_t0, neW_l0, ltW_ii, leW_ii, gtW_ii, geW_ii, isW_n, isntW_n, ixW_l, ixW_t, lenW_l, lenW_t, absW_i, intW_i, intW_b, tupW_l, tupW_t, lstW_l, lstW_t, sumW_l, allW_l, anyW_l, minW_2, maxW_2, slW_t, slW_l, revW_t, revW_l, reprW_1, strW_i, strW_b, sortW_l, sortW_t, Option.some.injEq, exists_eq_left', exists_eq_left, dKey, exists_and_left, exists_const]
          refine ⟨_, rfl, nin_ints ?_⟩
          cases hc : ps.contains p with
          | false =>
            simp only [mV_e, mC_e, mO_e, mOp_e, mUn_e, mT_e, mNotT_e, mAndT_e, mOrT_e, mAnd_e, mOr_e, mNot_e, mIf_e, mChain_e, mNil_e, mCons_e, mTup_e, mLst_e, mLk_e, mCat_e, mCB_e, mCL_e, vD_e, vL_e, vM0_e, mSkip_e, mSeq_e, mAsg_e, mRet_e, mIfS_e, mDrop_e, vNil_e, vCons_e, mPar_e, bName_e, bTup_e, bNil_e, bCons_e, mUnp_e, mFor_e, mForR_e, mForR2_e, mApp_e, mYes_e, mLc_e, mLcR_e, mLcR2_e, mLcZ_e, gNo_e, gE_e, gO_e, mCall_e, mFn_e, mIsi_e, mSS_e, mNo_e, mPt_e, mSl_e, mDG_e, mDGd_e, mDIn_e, mPut_e, mSD_e, mRetO_e, vDof_e, mForZ_e, wipeE, pow6, pow7, pow9, pow15, pow18, pow39, asM, List.replicate, List.cons_append, List.nil_append, List.getElem?_cons_zero, List.getElem?_cons_succ, enAll, List.set_cons_zero, List.set_cons_succ, Nat.reduceSub, List.length_cons, List.length_nil, decide_eq_true_eq, Nat.reduceAdd, Nat.reduceLeDiff, true_and, Bool.not_true, Bool.not_false, if_true, if_false, Bool.false_eq_true, Bool.not_eq_true', decide_eq_false_iff_not, Int.reduceLE, Int.reduceLT, Int.reduceNeg, Int.reduceSub, Int.reduceAdd, and_true, PyData.int.injEq, Nat.zero_add, Int.zero_add, Int.sub_zero, addW_ii, addW_ib, addW_bi, addW_tt, addW_ll, subW_ii, subW_ib, subW_bi, mulW_ii, fdivW_ii, modW_ii, negW_i, eqW_ii, eqW_ss, eqW_t0, eqW_l0, neW_ii, neW_ss, neW_t0, neW_l0, ltW_ii, leW_ii, gtW_ii, geW_ii, isW_n, isntW_n, ixW_l, ixW_t, lenW_l, lenW_t, absW_i, intW_i, intW_b, tupW_l, tupW_t, lstW_l, lstW_t, sumW_l, allW_l, anyW_l, minW_2, maxW_2, slW_t, slW_l, revW_t, revW_l, reprW_1, strW_i, strW_b, sortW_l, sortW_t, Option.some.injEq, exists_eq_left', exists_eq_left, dKey, exists_and_left, exists_const]
            cases y with
            | int l => exact nr (p, l) rfl (by simp only [hc, Bool.false_and])
            | _ => exact no rfl
          | true =>
            simp only [mV_e, mC_e, mO_e, mOp_e, mUn_e, mT_e, mNotT_e, mAndT_e, mOrT_e, mAnd_e, mOr_e, mNot_e, mIf_e, mChain_e, mNil_e, mCons_e, mTup_e, mLst_e, mLk_e, mCat_e, mCB_e, mCL_e, vD_e, vL_e, vM0_e, mSkip_e, mSeq_e, mAsg_e, mRet_e, mIfS_e, mDrop_e, vNil_e, vCons_e, mPar_e, bName_e, bTup_e, bNil_e, bCons_e, mUnp_e, mFor_e, mForR_e, mForR2_e, mApp_e, mYes_e, mLc_e, mLcR_e, mLcR2_e, mLcZ_e, gNo_e, gE_e, gO_e, mCall_e, mFn_e, mIsi_e, mSS_e, mNo_e, mPt_e, mSl_e, mDG_e, mDGd_e, mDIn_e, mPut_e, mSD_e, mRetO_e, vDof_e, mForZ_e, wipeE, pow6, pow7, pow9, pow15, pow18, pow39, asM, List.replicate, List.cons_append, List.nil_append, List.getElem?_cons_zero, List.getElem?_cons_succ, enAll, List.set_cons_zero, List.set_cons_succ, Nat.reduceSub, List.length_cons, List.length_nil, decide_eq_true_eq, Nat.reduceAdd, Nat.reduceLeDiff, true_and, Bool.not_true, Bool.not_false, if_true, if_false, Bool.false_eq_true, Bool.not_eq_true', decide_eq_false_iff_not, Int.reduceLE, Int.reduceLT, Int.reduceNeg, Int.reduceSub, Int.reduceAdd, and_true, PyData.int.injEq, Nat.zero_add, Int.zero_add, Int.sub_zero, addW_ii, addW_ib, addW_bi, addW_tt, addW_ll, subW_ii, subW_ib, subW_bi, mulW_ii, fdivW_ii, modW_ii, negW_i, eqW_ii, eqW_ss, eqW_t0, eqW_l0, neW_ii, neW_ss, neW_t0, neW_l0, ltW_ii, leW_ii, gtW_ii, geW_ii, isW_n, isntW_n, ixW_l, ixW_t, lenW_l, lenW_t, absW_i, intW_i, intW_b, tupW_l, tupW_t, lstW_l, lstW_t, sumW_l, allW_l, anyW_l, minW_2, maxW_2, slW_t, slW_l, revW_t, revW_l, reprW_1, strW_i, strW_b, sortW_l, sortW_t, Option.some.injEq, exists_eq_left', exists_eq_left, dKey, exists_and_left, exists_const]
            refine ⟨_, rfl, ?_⟩
            simp only [mV_e, mC_e, mO_e, mOp_e, mUn_e, mT_e, mNotT_e, mAndT_e, mOrT_e, mAnd_e, mOr_e, mNot_e, mIf_e, mChain_e, mNil_e, mCons_e, mTup_e, mLst_e, mLk_e, mCat_e, mCB_e, mCL_e, vD_e, vL_e, vM0_e, mSkip_e, mSeq_e, mAsg_e, mRet_e, mIfS_e, mDrop_e, vNil_e, vCons_e, mPar_e, bName_e, bTup_e, bNil_e, bCons_e, mUnp_e, mFor_e, mForR_e, mForR2_e, mApp_e, mYes_e, mLc_e, mLcR_e, mLcR2_e, mLcZ_e, gNo_e, gE_e, gO_e, mCall_e, mFn_e, mIsi_e, mSS_e, mNo_e, mPt_e, mSl_e, mDG_e, mDGd_e, mDIn_e, mPut_e, mSD_e, mRetO_e, vDof_e, mForZ_e, wipeE, pow6, pow7, pow9, pow15, pow18, pow39, asM, List.replicate, List.cons_append, List.nil_append, List.getElem?_cons_zero, List.getElem?_cons_succ, enAll, List.set_cons_zero, List.set_cons_succ, Nat.reduceSub, List.length_cons, List.length_nil, decide_eq_true_eq, Nat.reduceAdd, Nat.reduceLeDiff, true_and, Bool.not_true, Bool.not_false, if_true, if_false, Bool.false_eq_true, Bool.not_eq_true', decide_eq_false_iff_not, Int.reduceLE, Int.reduceLT, Int.reduceNeg, Int.reduceSub, Int.reduceAdd, and_true, PyData.int.injEq, Nat.zero_add, Int.zero_add, Int.sub_zero, addW_ii, addW_ib, addW_bi, addW_tt, addW_ll, subW_ii, subW_ib, subW_bi, mulW_ii, fdivW_ii, modW_ii, negW_i, eqW_ii, eqW_ss, eqW_t0, eqW_l0, neW_ii, neW_ss, neW_t0, neW_l0, ltW_ii, leW_ii, gtW_ii, geW_ii, isW_n, isntW_n, ixW_l, ixW_t, lenW_l, lenW_t, absW_i, intW_i, intW_b, tupW_l, tupW_t, lstW_l, lstW_t, sumW_l, allW_l, anyW_l, minW_2, maxW_2, slW_t, slW_l, revW_t, revW_l, reprW_1, strW_i, strW_b, sortW_l, sortW_t, Option.some.injEq, exists_eq_left', exists_eq_left, dKey, exists_and_left, exists_const]
            by_cases hl : p ≤ bf
            · rw [if_pos hl]
              have hb : decide (bf < p) = false := by rw [decide_eq_false_iff_not]; omega
              cases y with
              | int l => exact nr (p, l) rfl (by simp only [hb, Bool.false_and, Bool.and_false])
              | _ => exact no rfl
            · rw [if_neg hl]
              have hb : decide (bf < p) = true := by rw [decide_eq_true_eq]; omega
              refine ⟨_, rfl, l_is_number_ok ?_⟩
              cases y with
              | int l =>
                cases hi : inI 1 c (.int l) with
                | false =>
                  simp only [if_true]
                  exact nr (p, l) rfl (by simp only [hb, hc, Bool.true_and]; exact hi)
                | true =>
                  simp only [Bool.true_eq_false, if_false]
                  simp only [S_l_is_trip_2, mV_e, mC_e, mO_e, mOp_e, mUn_e, mT_e, mNotT_e, mAndT_e, mOrT_e, mAnd_e, mOr_e, mNot_e, mIf_e, mChain_e, mNil_e, mCons_e, mTup_e, mLst_e, mLk_e, mCat_e, mCB_e, mCL_e, vD_e, vL_e, vM0_e, mSkip_e, mSeq_e, mAsg_e, mRet_e, mIfS_e, mDrop_e, vNil_e, vCons_e, mPar_e, bName_e, bTup_e, bNil_e, bCons_e, mUnp_e, mFor_e, mForR_e, mForR2_e, mApp_e, mYes_e, mLc_e, mLcR_e, mLcR2_e, mLcZ_e, gNo_e, gE_e, gO_e, mCall_e, mFn_e, mIsi_e, mSS_e, mNo_e, mPt_e, mSl_e, mDG_e, mDGd_e, mDIn_e, mPut_e, mSD_e, mRetO_e, vDof_e, mForZ_e, wipeE, pow6, pow7, pow9, pow15, pow18, pow39, asM, List.replicate, List.cons_append, List.nil_append, List.getElem?_cons_zero, List.getElem?_cons_succ, enAll, List.set_cons_zero, List.set_cons_succ, Nat.reduceSub, List.length_cons, List.length_nil, decide_eq_true_eq, Nat.reduceAdd, Nat.reduceLeDiff, true_and, Bool.not_true, Bool.not_false, if_true, if_false, Bool.false_eq_true, Bool.not_eq_true', decide_eq_false_iff_not, Int.reduceLE, Int.reduceLT, Int.reduceNeg, Int.reduceSub, Int.reduceAdd, and_true, PyData.int.injEq, Nat.zero_add, Int.zero_add, Int.sub_zero, addW_ii, addW_ib, addW_bi, addW_tt, addW_ll, subW_ii, subW_ib, subW_bi, mulW_ii, fdivW_ii, modW_ii, negW_i, eqW_ii, eqW_ss, eqW_t0, eqW_l0, neW_ii, neW_ss, neW_t0, neW_l0, ltW_ii, leW_ii, gtW_ii, geW_ii, isW_n, isntW_n, ixW_l, ixW_t, lenW_l, lenW_t, absW_i, intW_i, intW_b, tupW_l, tupW_t, lstW_l, lstW_t, sumW_l, allW_l, anyW_l, minW_2, maxW_2, slW_t, slW_l, revW_t, revW_l, reprW_1, strW_i, strW_b, sortW_l, sortW_t, Option.some.injEq, exists_eq_left', exists_eq_left, dKey, exists_and_left, exists_const]
                  exact ⟨_, rfl, _, rfl, q (p, l) rfl (by simp only [hb, hc, Bool.true_and]; exact hi)⟩
              | _ => exact no rfl
        · have e : inI (-1000000) 1000000 (.int p) = false := by
            simp only [inI]
            rw [Bool.and_eq_false_iff, decide_eq_false_iff_not, decide_eq_false_iff_not]; omega
          simp only [e, if_true]
          have hc : ps.contains p = false := by
            cases h : ps.contains p with
            | false => rfl
            | true => exact absurd (hp p (by simpa using h)) hr
          cases y with
          | int l => exact nr (p, l) rfl (by simp only [hc, Bool.false_and])
          | _ => exact no rfl
      | _ => exact no rfl
    | [] => exact no rfl
    | [x] => exact no (by cases x <;> rfl)
    | x :: y :: z :: r =>
      have e : ¬ (((x :: y :: z :: r).length : Int) = 2) := by simp; omega
      have e2 : rowOf (.tuple (x :: y :: z :: r)) = none := by
        unfold rowOf
        split
        · rename_i h; cases h
        · rfl
      simp only [e, not_false_eq_true, if_true, mV_e, mC_e, mO_e, mOp_e, mUn_e, mT_e, mNotT_e, mAndT_e, mOrT_e, mAnd_e, mOr_e, mNot_e, mIf_e, mChain_e, mNil_e, mCons_e, mTup_e, mLst_e, mLk_e, mCat_e, mCB_e, mCL_e, vD_e, vL_e, vM0_e, mSkip_e, mSeq_e, mAsg_e, mRet_e, mIfS_e, mDrop_e, vNil_e, vCons_e, mPar_e, bName_e, bTup_e, bNil_e, bCons_e, mUnp_e, mFor_e, mForR_e, mForR2_e, mApp_e, mYes_e, mLc_e, mLcR_e, mLcR2_e, mLcZ_e, gNo_e, gE_e, gO_e, mCall_e, mFn_e, mIsi_e, mSS_e, mNo_e, mPt_e, mSl_e, mDG_e, mDGd_e, mDIn_e, mPut_e, mSD_e, mRetO_e, vDof_e, mForZ_e, wipeE, pow6, pow7, pow9, pow15, pow18, pow39, asM, List.replicate, List.cons_append, List.nil_append, List.getElem?_cons_zero, List.getElem?_cons_succ, enAll, List.set_cons_zero, List.set_cons_succ, Nat.reduceSub, List.length_cons, List.length_nil, decide_eq_true_eq, Nat.reduceAdd, Nat.reduceLeDiff, true_and, Bool.not_true, Bool.not_false, if_true, if_false, Bool.false_eq_true, Bool.not_eq_true', decide_eq_false_iff_not, Int.reduceLE, Int.reduceLT, Int.reduceNeg, Int.reduceSub, Int.reduceAdd, and_true, PyData.int.injEq, Nat.zero_add, Int.zero_add, Int.sub_zero, addW_ii, addW_ib, addW_bi, addW_tt, addW_ll, subW_ii, subW_ib, subW_bi, mulW_ii, fdivW_ii, modW_ii, negW_i, eqW_ii, eqW_ss, eqW_t0, eqW_l0, neW_ii, neW_ss, neW_t0, neW_l0, ltW_ii, leW_ii, gtW_ii, geW_ii, isW_n, isntW_n, ixW_l, ixW_t, lenW_l, lenW_t, absW_i, intW_i, intW_b, tupW_l, tupW_t, lstW_l, lstW_t, sumW_l, allW_l, anyW_l, minW_2, maxW_2, slW_t, slW_l, revW_t, revW_l, reprW_1, strW_i, strW_b, sortW_l, sortW_t, Option.some.injEq, exists_eq_left', exists_eq_left, dKey, exists_and_left, exists_const]
      exact no e2
  | _ => simpa [isT] using no rfl
theorem l_rows_ok {c : Int} {ps : List Int} {g v s3 s5 s9 s10 : Sl} {F : WEnds} (hp : ∀ p ∈ ps, -1000000 ≤ p ∧ p ≤ 1000000) : ∀ (ds : List PyData) (bf tot : Int) (s2 : Sl) (b : Nat), (lawRows c ps bf tot ds = false → F.rt (.bool false) b) →
    (∀ s2' bf' tot', lawRows c ps bf tot ds = decide (tot' ≤ c) → F.nx [g, v, s2', s3, .d (.int c), s5, .d (.list (ps.map PyData.int)), .d (.int bf'), .d (.int tot'), s9, s10] b) →
    mTurns (bName 2) (mSeq S_l_is_trip_6 (mSeq S_l_is_trip_4 S_l_is_trip_2)) ds [g, v, s2, s3, .d (.int c), s5, .d (.list (ps.map PyData.int)), .d (.int bf), .d (.int tot), s9, s10] b F
  | [], bf, tot, s2, b, qf, qn => by
    simpa [mTurns] using qn s2 bf tot rfl
  | d :: ds, bf, tot, s2, b, qf, qn => by
    simp only [mTurns, bName_e, List.set_cons_zero, List.set_cons_succ]
    refine l_row_ok hp (fun h => qf (by simp [lawRows, h])) (fun r h e => qf (by rw [lawRows, h]; simp only [e, Bool.false_and])) fun r h e => ?_
    have el : lawRows c ps bf tot (d :: ds) = lawRows c ps r.1 (tot + r.2) ds := by rw [lawRows, h]; simp only [e, Bool.true_and]
    rw [el] at qf qn
    exact l_rows_ok hp ds r.1 (tot + r.2) _ b qf qn
theorem l_is_trip_ok {t c : Int} {bs : List Bed} {d : PyData} {b : Nat} {R : PyData → Nat → Prop} (hp : ∀ b ∈ bs, -1000000 ≤ b.1 ∧ b.1 ≤ 1000000) (few : bs.length ≤ 1000) (q : R (.bool (tripD c (bs.map (·.1)) d)) b) : M_l_is_trip [.d (gardenD t c bs), .d d] b R := by
  simp only [M_l_is_trip, mFn_e, B_l_is_trip, mSeq_e, List.replicate, List.cons_append, List.nil_append, List.length_cons, List.length_nil, Nat.reduceSub, Nat.reduceAdd, true_and]
  simp only [S_l_is_trip_11, gardenD, mV_e, mC_e, mO_e, mOp_e, mUn_e, mT_e, mNotT_e, mAndT_e, mOrT_e, mAnd_e, mOr_e, mNot_e, mIf_e, mChain_e, mNil_e, mCons_e, mTup_e, mLst_e, mLk_e, mCat_e, mCB_e, mCL_e, vD_e, vL_e, vM0_e, mSkip_e, mSeq_e, mAsg_e, mRet_e, mIfS_e, mDrop_e, vNil_e, vCons_e, mPar_e, bName_e, bTup_e, bNil_e, bCons_e, mUnp_e, mFor_e, mForR_e, mForR2_e, mApp_e, mYes_e, mLc_e, mLcR_e, mLcR2_e, mLcZ_e, gNo_e, gE_e, gO_e, mCall_e, mFn_e, mIsi_e, mSS_e, mNo_e, mPt_e, mSl_e, mDG_e, mDGd_e, mDIn_e, mPut_e, mSD_e, mRetO_e, vDof_e, mForZ_e, wipeE, pow6, pow7, pow9, pow15, pow18, pow39, asM, List.replicate, List.cons_append, List.nil_append, List.getElem?_cons_zero, List.getElem?_cons_succ, enAll, List.set_cons_zero, List.set_cons_succ, Nat.reduceSub, List.length_cons, List.length_nil, decide_eq_true_eq, Nat.reduceAdd, Nat.reduceLeDiff, true_and, Bool.not_true, Bool.not_false, if_true, if_false, Bool.false_eq_true, Bool.not_eq_true', decide_eq_false_iff_not, Int.reduceLE, Int.reduceLT, Int.reduceNeg, Int.reduceSub, Int.reduceAdd, and_true, PyData.int.injEq, Nat.zero_add, Int.zero_add, Int.sub_zero, addW_ii, addW_ib, addW_bi, addW_tt, addW_ll, subW_ii, subW_ib, subW_bi, mulW_ii, fdivW_ii, modW_ii, negW_i, eqW_ii, eqW_ss, eqW_t0, eqW_l0, neW_ii, neW_ss, neW_t0, neW_l0, ltW_ii, leW_ii, gtW_ii, geW_ii, isW_n, isntW_n, ixW_l, ixW_t, lenW_l, lenW_t, absW_i, intW_i, intW_b, tupW_l, tupW_t, lstW_l, lstW_t, sumW_l, allW_l, anyW_l, minW_2, maxW_2, slW_t, slW_l, revW_t, revW_l, reprW_1, strW_i, strW_b, sortW_l, sortW_t, Option.some.injEq, exists_eq_left', exists_eq_left, dKey, exists_and_left, exists_const]
  simp only [S_l_is_trip_10, S_l_is_trip_9, mV_e, mC_e, mO_e, mOp_e, mUn_e, mT_e, mNotT_e, mAndT_e, mOrT_e, mAnd_e, mOr_e, mNot_e, mIf_e, mChain_e, mNil_e, mCons_e, mTup_e, mLst_e, mLk_e, mCat_e, mCB_e, mCL_e, vD_e, vL_e, vM0_e, mSkip_e, mSeq_e, mAsg_e, mRet_e, mIfS_e, mDrop_e, vNil_e, vCons_e, mPar_e, bName_e, bTup_e, bNil_e, bCons_e, mUnp_e, mFor_e, mForR_e, mForR2_e, mApp_e, mYes_e, mLc_e, mLcR_e, mLcR2_e, mLcZ_e, gNo_e, gE_e, gO_e, mCall_e, mFn_e, mIsi_e, mSS_e, mNo_e, mPt_e, mSl_e, mDG_e, mDGd_e, mDIn_e, mPut_e, mSD_e, mRetO_e, vDof_e, mForZ_e, wipeE, pow6, pow7, pow9, pow15, pow18, pow39, asM, List.replicate, List.cons_append, List.nil_append, List.getElem?_cons_zero, List.getElem?_cons_succ, enAll, List.set_cons_zero, List.set_cons_succ, Nat.reduceSub, List.length_cons, List.length_nil, decide_eq_true_eq, Nat.reduceAdd, Nat.reduceLeDiff, true_and, Bool.not_true, Bool.not_false, if_true, if_false, Bool.false_eq_true, Bool.not_eq_true', decide_eq_false_iff_not, Int.reduceLE, Int.reduceLT, Int.reduceNeg, Int.reduceSub, Int.reduceAdd, and_true, PyData.int.injEq, Nat.zero_add, Int.zero_add, Int.sub_zero, addW_ii, addW_ib, addW_bi, addW_tt, addW_ll, subW_ii, subW_ib, subW_bi, mulW_ii, fdivW_ii, modW_ii, negW_i, eqW_ii, eqW_ss, eqW_t0, eqW_l0, neW_ii, neW_ss, neW_t0, neW_l0, ltW_ii, leW_ii, gtW_ii, geW_ii, isW_n, isntW_n, ixW_l, ixW_t, lenW_l, lenW_t, absW_i, intW_i, intW_b, tupW_l, tupW_t, lstW_l, lstW_t, sumW_l, allW_l, anyW_l, minW_2, maxW_2, slW_t, slW_l, revW_t, revW_l, reprW_1, strW_i, strW_b, sortW_l, sortW_t, Option.some.injEq, exists_eq_left', exists_eq_left, dKey, exists_and_left, exists_const]
  cases d with
  | tuple ds =>
    simp only [isT, mV_e, mC_e, mO_e, mOp_e, mUn_e, mT_e, mNotT_e, mAndT_e, mOrT_e, mAnd_e, mOr_e, mNot_e, mIf_e, mChain_e, mNil_e, mCons_e, mTup_e, mLst_e, mLk_e, mCat_e, mCB_e, mCL_e, vD_e, vL_e, vM0_e, mSkip_e, mSeq_e, mAsg_e, mRet_e, mIfS_e, mDrop_e, vNil_e, vCons_e, mPar_e, bName_e, bTup_e, bNil_e, bCons_e, mUnp_e, mFor_e, mForR_e, mForR2_e, mApp_e, mYes_e, mLc_e, mLcR_e, mLcR2_e, mLcZ_e, gNo_e, gE_e, gO_e, mCall_e, mFn_e, mIsi_e, mSS_e, mNo_e, mPt_e, mSl_e, mDG_e, mDGd_e, mDIn_e, mPut_e, mSD_e, mRetO_e, vDof_e, mForZ_e, wipeE, pow6, pow7, pow9, pow15, pow18, pow39, asM, List.replicate, List.cons_append, List.nil_append, List.getElem?_cons_zero, List.getElem?_cons_succ, enAll, List.set_cons_zero, List.set_cons_succ, Nat.reduceSub, List.length_cons, List.length_nil, decide_eq_true_eq, Nat.reduceAdd, Nat.reduceLeDiff, true_and, Bool.not_true, Bool.not_false, if_true, if_false, Bool.false_eq_true, Bool.not_eq_true', decide_eq_false_iff_not, Int.reduceLE, Int.reduceLT, Int.reduceNeg, Int.reduceSub, Int.reduceAdd, and_true, PyData.int.injEq, Nat.zero_add, Int.zero_add, Int.sub_zero, addW_ii, addW_ib, addW_bi, addW_tt, addW_ll, subW_ii, subW_ib, subW_bi, mulW_ii, fdivW_ii, modW_ii, negW_i, eqW_ii, eqW_ss, eqW_t0, eqW_l0, neW_ii, neW_ss, neW_t0, neW_l0, ltW_ii, leW_ii, gtW_ii, geW_ii, isW_n, isntW_n, ixW_l, ixW_t, lenW_l, lenW_t, absW_i, intW_i, intW_b, tupW_l, tupW_t, lstW_l, lstW_t, sumW_l, allW_l, anyW_l, minW_2, maxW_2, slW_t, slW_l, revW_t, revW_l, reprW_1, strW_i, strW_b, sortW_l, sortW_t, Option.some.injEq, exists_eq_left', exists_eq_left, dKey, exists_and_left, exists_const]
    cases hd : ds.isEmpty with
    | true =>
      rw [tripD_t, hd] at q
      simpa using q
    | false =>
      simp only [if_false, Bool.false_eq_true]
      simp only [S_l_is_trip_8, bedsD, mV_e, mC_e, mO_e, mOp_e, mUn_e, mT_e, mNotT_e, mAndT_e, mOrT_e, mAnd_e, mOr_e, mNot_e, mIf_e, mChain_e, mNil_e, mCons_e, mTup_e, mLst_e, mLk_e, mCat_e, mCB_e, mCL_e, vD_e, vL_e, vM0_e, mSkip_e, mSeq_e, mAsg_e, mRet_e, mIfS_e, mDrop_e, vNil_e, vCons_e, mPar_e, bName_e, bTup_e, bNil_e, bCons_e, mUnp_e, mFor_e, mForR_e, mForR2_e, mApp_e, mYes_e, mLc_e, mLcR_e, mLcR2_e, mLcZ_e, gNo_e, gE_e, gO_e, mCall_e, mFn_e, mIsi_e, mSS_e, mNo_e, mPt_e, mSl_e, mDG_e, mDGd_e, mDIn_e, mPut_e, mSD_e, mRetO_e, vDof_e, mForZ_e, wipeE, pow6, pow7, pow9, pow15, pow18, pow39, asM, List.replicate, List.cons_append, List.nil_append, List.getElem?_cons_zero, List.getElem?_cons_succ, enAll, List.set_cons_zero, List.set_cons_succ, Nat.reduceSub, List.length_cons, List.length_nil, decide_eq_true_eq, Nat.reduceAdd, Nat.reduceLeDiff, true_and, Bool.not_true, Bool.not_false, if_true, if_false, Bool.false_eq_true, Bool.not_eq_true', decide_eq_false_iff_not, Int.reduceLE, Int.reduceLT, Int.reduceNeg, Int.reduceSub, Int.reduceAdd, and_true, PyData.int.injEq, Nat.zero_add, Int.zero_add, Int.sub_zero, addW_ii, addW_ib, addW_bi, addW_tt, addW_ll, subW_ii, subW_ib, subW_bi, mulW_ii, fdivW_ii, modW_ii, negW_i, eqW_ii, eqW_ss, eqW_t0, eqW_l0, neW_ii, neW_ss, neW_t0, neW_l0, ltW_ii, leW_ii, gtW_ii, geW_ii, isW_n, isntW_n, ixW_l, ixW_t, lenW_l, lenW_t, absW_i, intW_i, intW_b, tupW_l, tupW_t, lstW_l, lstW_t, sumW_l, allW_l, anyW_l, minW_2, maxW_2, slW_t, slW_l, revW_t, revW_l, reprW_1, strW_i, strW_b, sortW_l, sortW_t, Option.some.injEq, exists_eq_left', exists_eq_left, dKey, exists_and_left, exists_const]
      refine fst_beds (by omega) (fun r hr Q hq => by simp only [mV_e, mC_e, mO_e, mOp_e, mUn_e, mT_e, mNotT_e, mAndT_e, mOrT_e, mAnd_e, mOr_e, mNot_e, mIf_e, mChain_e, mNil_e, mCons_e, mTup_e, mLst_e, mLk_e, mCat_e, mCB_e, mCL_e, vD_e, vL_e, vM0_e, mSkip_e, mSeq_e, mAsg_e, mRet_e, mIfS_e, mDrop_e, vNil_e, vCons_e, mPar_e, bName_e, bTup_e, bNil_e, bCons_e, mUnp_e, mFor_e, mForR_e, mForR2_e, mApp_e, mYes_e, mLc_e, mLcR_e, mLcR2_e, mLcZ_e, gNo_e, gE_e, gO_e, mCall_e, mFn_e, mIsi_e, mSS_e, mNo_e, mPt_e, mSl_e, mDG_e, mDGd_e, mDIn_e, mPut_e, mSD_e, mRetO_e, vDof_e, mForZ_e, wipeE, pow6, pow7, pow9, pow15, pow18, pow39, asM, List.replicate, List.cons_append, List.nil_append, List.getElem?_cons_zero, List.getElem?_cons_succ, enAll, List.set_cons_zero, List.set_cons_succ, Nat.reduceSub, List.length_cons, List.length_nil, decide_eq_true_eq, Nat.reduceAdd, Nat.reduceLeDiff, true_and, Bool.not_true, Bool.not_false, if_true, if_false, Bool.false_eq_true, Bool.not_eq_true', decide_eq_false_iff_not, Int.reduceLE, Int.reduceLT, Int.reduceNeg, Int.reduceSub, Int.reduceAdd, and_true, PyData.int.injEq, Nat.zero_add, Int.zero_add, Int.sub_zero, addW_ii, addW_ib, addW_bi, addW_tt, addW_ll, subW_ii, subW_ib, subW_bi, mulW_ii, fdivW_ii, modW_ii, negW_i, eqW_ii, eqW_ss, eqW_t0, eqW_l0, neW_ii, neW_ss, neW_t0, neW_l0, ltW_ii, leW_ii, gtW_ii, geW_ii, isW_n, isntW_n, ixW_l, ixW_t, lenW_l, lenW_t, absW_i, intW_i, intW_b, tupW_l, tupW_t, lstW_l, lstW_t, sumW_l, allW_l, anyW_l, minW_2, maxW_2, slW_t, slW_l, revW_t, revW_l, reprW_1, strW_i, strW_b, sortW_l, sortW_t, Option.some.injEq, exists_eq_left', exists_eq_left, dKey, exists_and_left, exists_const]; exact hq) ?_
      have hp' : ∀ p ∈ bs.map (·.1), -1000000 ≤ p ∧ p ≤ 1000000 := fun p h => by
        obtain ⟨x, hx, rfl⟩ := List.mem_map.mp h
        exact hp x hx
      rw [← lawRows_trip (fun p h => (hp' p h).1) hd] at q
      simp only [S_l_is_trip_7, mV_e, mC_e, mO_e, mOp_e, mUn_e, mT_e, mNotT_e, mAndT_e, mOrT_e, mAnd_e, mOr_e, mNot_e, mIf_e, mChain_e, mNil_e, mCons_e, mTup_e, mLst_e, mLk_e, mCat_e, mCB_e, mCL_e, vD_e, vL_e, vM0_e, mSkip_e, mSeq_e, mAsg_e, mRet_e, mIfS_e, mDrop_e, vNil_e, vCons_e, mPar_e, bName_e, bTup_e, bNil_e, bCons_e, mUnp_e, mFor_e, mForR_e, mForR2_e, mApp_e, mYes_e, mLc_e, mLcR_e, mLcR2_e, mLcZ_e, gNo_e, gE_e, gO_e, mCall_e, mFn_e, mIsi_e, mSS_e, mNo_e, mPt_e, mSl_e, mDG_e, mDGd_e, mDIn_e, mPut_e, mSD_e, mRetO_e, vDof_e, mForZ_e, wipeE, pow6, pow7, pow9, pow15, pow18, pow39, asM, List.replicate, List.cons_append, List.nil_append, List.getElem?_cons_zero, List.getElem?_cons_succ, enAll, List.set_cons_zero, List.set_cons_succ, Nat.reduceSub, List.length_cons, List.length_nil, decide_eq_true_eq, Nat.reduceAdd, Nat.reduceLeDiff, true_and, Bool.not_true, Bool.not_false, if_true, if_false, Bool.false_eq_true, Bool.not_eq_true', decide_eq_false_iff_not, Int.reduceLE, Int.reduceLT, Int.reduceNeg, Int.reduceSub, Int.reduceAdd, and_true, PyData.int.injEq, Nat.zero_add, Int.zero_add, Int.sub_zero, addW_ii, addW_ib, addW_bi, addW_tt, addW_ll, subW_ii, subW_ib, subW_bi, mulW_ii, fdivW_ii, modW_ii, negW_i, eqW_ii, eqW_ss, eqW_t0, eqW_l0, neW_ii, neW_ss, neW_t0, neW_l0, ltW_ii, leW_ii, gtW_ii, geW_ii, isW_n, isntW_n, ixW_l, ixW_t, lenW_l, lenW_t, absW_i, intW_i, intW_b, tupW_l, tupW_t, lstW_l, lstW_t, sumW_l, allW_l, anyW_l, minW_2, maxW_2, slW_t, slW_l, revW_t, revW_l, reprW_1, strW_i, strW_b, sortW_l, sortW_t, Option.some.injEq, exists_eq_left', exists_eq_left, dKey, exists_and_left, exists_const]
      refine l_rows_ok hp' ds _ _ _ _ (fun h => ?_) fun s2 bf' tot' h => ?_
      · rw [h] at q
        exact q
      · rw [h] at q
        simp only [S_l_is_trip_1, mV_e, mC_e, mO_e, mOp_e, mUn_e, mT_e, mNotT_e, mAndT_e, mOrT_e, mAnd_e, mOr_e, mNot_e, mIf_e, mChain_e, mNil_e, mCons_e, mTup_e, mLst_e, mLk_e, mCat_e, mCB_e, mCL_e, vD_e, vL_e, vM0_e, mSkip_e, mSeq_e, mAsg_e, mRet_e, mIfS_e, mDrop_e, vNil_e, vCons_e, mPar_e, bName_e, bTup_e, bNil_e, bCons_e, mUnp_e, mFor_e, mForR_e, mForR2_e, mApp_e, mYes_e, mLc_e, mLcR_e, mLcR2_e, mLcZ_e, gNo_e, gE_e, gO_e, mCall_e, mFn_e, mIsi_e, mSS_e, mNo_e, mPt_e, mSl_e, mDG_e, mDGd_e, mDIn_e, mPut_e, mSD_e, mRetO_e, vDof_e, mForZ_e, wipeE, pow6, pow7, pow9, pow15, pow18, pow39, asM, List.replicate, List.cons_append, List.nil_append, List.getElem?_cons_zero, List.getElem?_cons_succ, enAll, List.set_cons_zero, List.set_cons_succ, Nat.reduceSub, List.length_cons, List.length_nil, decide_eq_true_eq, Nat.reduceAdd, Nat.reduceLeDiff, true_and, Bool.not_true, Bool.not_false, if_true, if_false, Bool.false_eq_true, Bool.not_eq_true', decide_eq_false_iff_not, Int.reduceLE, Int.reduceLT, Int.reduceNeg, Int.reduceSub, Int.reduceAdd, and_true, PyData.int.injEq, Nat.zero_add, Int.zero_add, Int.sub_zero, addW_ii, addW_ib, addW_bi, addW_tt, addW_ll, subW_ii, subW_ib, subW_bi, mulW_ii, fdivW_ii, modW_ii, negW_i, eqW_ii, eqW_ss, eqW_t0, eqW_l0, neW_ii, neW_ss, neW_t0, neW_l0, ltW_ii, leW_ii, gtW_ii, geW_ii, isW_n, isntW_n, ixW_l, ixW_t, lenW_l, lenW_t, absW_i, intW_i, intW_b, tupW_l, tupW_t, lstW_l, lstW_t, sumW_l, allW_l, anyW_l, minW_2, maxW_2, slW_t, slW_l, revW_t, revW_l, reprW_1, strW_i, strW_b, sortW_l, sortW_t, Option.some.injEq, exists_eq_left', exists_eq_left, dKey, exists_and_left, exists_const]
        exact q
  | _ => simpa [isT, tripD] using q
end Wp

namespace Wp
open PySem PySem.Spec PyProof.Rows L2 Evl
/-! ### values that may be trips -/
abbrev VOk (d : PyData) : Prop := Cn.Sz (10 ^ 39 + 2) 60000 10 d
structure P2 (d : PyData) : Prop where
  ok : Cn.okV (10 ^ 39) d = true
  w : Cn.wv d ≤ 300
  p : Cn.dv d ≤ 1
theorem ok_int {i : Int} (h : i.natAbs ≤ 10000000000) : Cn.okV (10 ^ 39) (.int i) = true := by
  simp only [Cn.okV, decide_eq_true_eq]
  exact Nat.le_trans h (by decide)
theorem p2 {i j : Int} (hi : i.natAbs ≤ 10000000000) (hj : j.natAbs ≤ 10000000000) : P2 (.tuple [.int i, .int j]) :=
  ⟨by simp only [Cn.okV, Cn.okVAll, Bool.and_true, Bool.and_eq_true]; exact ⟨ok_int hi, ok_int hj⟩, by simp [Cn.wv, Cn.wvAll], by simp [Cn.dv, Cn.dvAll]⟩
theorem p2b {i : Int} {c : Bool} (hi : i.natAbs ≤ 10000000000) : P2 (.tuple [.int i, .bool c]) :=
  ⟨by simp only [Cn.okV, Cn.okVAll, Bool.and_true]; exact ok_int hi, by simp [Cn.wv, Cn.wvAll], by simp [Cn.dv, Cn.dvAll]⟩
theorem p2_w : ∀ {ds : List PyData}, (∀ d ∈ ds, P2 d) → Cn.wvAll ds ≤ 302 * ds.length
  | [], _ => by simp [Cn.wvAll]
  | d :: ds, h => by
    have h1 := (h d (List.mem_cons_self ..)).w
    have h2 := p2_w fun e he => h e (List.mem_cons_of_mem _ he)
    simp only [Cn.wvAll, List.length_cons]
    omega
theorem sz_p2 {ds : List PyData} {k : Nat} (h : ∀ d ∈ ds, P2 d) (hk : 302 * ds.length + 3 ≤ k) : Cn.Sz (10 ^ 39) k 2 (.tuple ds) :=
  Cn.sz_tup (fun d hd => (h d hd).ok) (by have := p2_w h; omega) (fun d hd => by have := (h d hd).p; omega) (by omega)
theorem sz_p2l {ds : List PyData} {k : Nat} (h : ∀ d ∈ ds, P2 d) (hk : 302 * ds.length + 3 ≤ k) : Cn.Sz (10 ^ 39) k 2 (.list ds) :=
  Cn.sz_lst (fun d hd => (h d hd).ok) (by have := p2_w h; omega) (fun d hd => by have := (h d hd).p; omega) (by omega)
theorem vt {ds : List PyData} (h : ∀ d ∈ ds, P2 d) (hk : ds.length ≤ 100) : VOk (.tuple ds) := (sz_p2 (k := 60000) h (by omega)).mono (by decide) (by omega) (by omega)
theorem vl {ds : List PyData} (h : ∀ d ∈ ds, P2 d) (hk : ds.length ≤ 100) : VOk (.list ds) := (sz_p2l (k := 60000) h (by omega)).mono (by decide) (by omega) (by omega)
theorem vp {d : PyData} (h : P2 d) : VOk d := ⟨Cn.okV_mono (by decide) h.ok, by have := h.w; omega, by have := h.p; omega⟩
theorem put_new {ws : List Bed} {p w : Int} (h : p ∉ ws.map (·.1)) : putD (dictD ws) (.inl p) (.int w) = dictD (ws ++ [(p, w)]) := by
  have : ((dictD ws).any fun kv => decide (kv.1 = Sum.inl p)) = false := by
    rw [List.any_eq_false]
    intro kv hkv e
    obtain ⟨x, hx, rfl⟩ := List.mem_map.mp hkv
    have e : (Sum.inl x.1 : Key) = .inl p := by simpa using e
    exact h ((Sum.inl.inj e) ▸ List.mem_map_of_mem hx)
  unfold putD
  rw [this]
  simp [dictD]
end Wp

namespace Wp
open PySem PySem.Spec PyProof.Rows L2
def spLaw (K : PySem.W.Frag) : Sp := fun vs H Q _ => ∃ (a : Addr) (ns : List Int), vs = [.ref a] ∧ SqL K H a (ns.map V.int) ∧ ns.length ≤ 63 ∧ ∀ H', Q (.bl true) H'
/-! ### the end of a law, where what the interpreter keeps of its own is at hand -/
theorem lawM {P : Program} {w : World} {K : PySem.W.Frag} {mg mb : Str → Option Value} {k : Nat} {fa a : Addr} {fd : FuncData} {x : Str} {sp : Sp} {s : Shared} {vs : List Value} {ns : List Int}
    (inK : K.In s.heap) (gl : s.heap.Ns mainGlobals mg) (bt : s.heap.Ns builtinsNs mb) (boot : ∀ x : Str, x ≠ "__name__" → mb x = bootBuiltins x) (lim : s.heap.NoLimit) (mods : ∃ mm, s.heap.Ns sysModules mm) (gens : s.gens = #[])
    (at_a : s.heap.get? a = some { cls := .type "list", data := .seq vs.toArray }) (nums : IntsAre vs ns) (few : ns.length ≤ sizeLine) (room : Room k callerA)
    (F : ∀ base : Heap, K.In base → base.Ns mainGlobals mg → (∃ o, base.get? sysModules = some o) → Cn.FnG P w K mg base k fa fd [x] sp) (binds : ∀ (s : Shared) (u : Value), BindsTo s fd ⟨[u], []⟩ [(x, u)])
    (pr : ∀ H : Hp, Only H → SqL K H a (ns.map V.int) → sp [.ref a] H (fun v _ => v = .bl true) fun _ _ _ => False) :
    codeAny (model P w) callerA (.call (.ref fa) ⟨[.ref a], []⟩) (fun r s' => r = .ok (.ret (.bool true)) ∧ OldK s.heap s'.heap ∧ s'.os = s.os ∧ AllBare s'.gens) s := by
  have rel := vals_ints nums
  have main : ∀ H : Hp, Only H → SqL K H a (ns.map V.int) → HOk P w H s.heap → (∀ b, H b ≠ none → b = a ∧ K.lookup a = none) →
      codeAny (model P w) callerA (.call (.ref fa) ⟨[.ref a], []⟩) (fun r s' => r = .ok (.ret (.bool true)) ∧ OldK s.heap s'.heap ∧ s'.os = s.os ∧ AllBare s'.gens) s := by
    intro H only sq hok tr
    have names : ∀ {b : Addr} {m : Str → Option Value}, s.heap.Ns b m → (hidT s.heap H).Ns b m := by
      rintro b m ⟨o, es, ep, e, d, r⟩
      refine ⟨o, es, ep, hidT_get e (Classical.byContradiction fun n => ?_), d, r⟩
      obtain ⟨rfl, _⟩ := tr b n
      have z := at_a.symm.trans e
      injection z with z
      subst z
      exact Data.noConfusion d
    have inB : K.In (hidT s.heap H) := fun b o e => hidT_get (inK b o e) (Classical.byContradiction fun n => by
      obtain ⟨rfl, z⟩ := tr b n
      rw [z] at e
      cases e)
    have e0 : Env0 P w K mg (hidT s.heap H) callerA [] s H := by
      refine ⟨rfl, ⟨inB, names gl, ⟨mb, names bt, boot⟩, ?_⟩, fun b o e => of_hidT e, Nat.le_of_eq (hidT_size _ _), trivial, fun b z => ?_, hok, .of_eq gens⟩
      · obtain ⟨mc, h1, h2⟩ := lim
        exact ⟨mc, names h1, h2⟩
      · simp [frs] at z
    refine codeAny_mono ((F _ inB (names gl) (by obtain ⟨mm, hm⟩ := mods; obtain ⟨o, _, _, e, _⟩ := names hm; exact ⟨o, e⟩)).run callerA [] s H ⟨[.ref a], []⟩ [.ref a] [.ref a] _ _ rfl room e0 (binds s (.ref a)) (.cons rfl .nil) (pr H only sq)) ?_
    rintro (_ | _ | _ | _ | u) s' z
    case ok.ret =>
      obtain ⟨v, H', os, bare, un, hok', ru, rfl⟩ := z
      cases ru
      refine ⟨rfl, OldK.of_keep fun b o e => ?_, os, bare⟩
      rcases only b with n | ⟨ob, xs, fz⟩
      · exact un.keep b o e n (by simp [frs]) (by simp)
      · have o1 : s.heap.get? b = some ob := (hok b _ fz).1
        have o2 : s'.heap.get? b = some ob := (hok' b _ (un.frzs b ob _ fz)).1
        rw [o2, ← o1, e]
    all_goals exact z.elim
  cases lk : K.lookup a with
  | some o =>
    have e := (inK a o lk).symm.trans at_a
    injection e with e
    subst e
    exact main (fun _ => none) (fun _ => .inl rfl) (.inr ⟨_, vs.toArray, _, lk, rfl, rfl, rfl, by rw [List.size_toArray, nums.length]; exact few, by simpa using rel⟩) (fun b u z => nomatch z) (fun b z => absurd rfl z)
  | none =>
    let o : HO := .frz { cls := .type "list", data := .seq vs.toArray } (.lst (ns.map V.int))
    have off : ∀ b, b ≠ a → (upd (fun _ => none) a o) b = none := fun b n => upd_ne n
    refine main (upd (fun _ => none) a o) (fun b => ?_) (.inl (.inr ⟨_, upd_same⟩)) (fun b u z => ?_) (fun b z => ?_)
    · by_cases n : b = a
      · subst n; exact .inr ⟨_, _, upd_same⟩
      · exact .inl (off b n)
    · by_cases n : b = a
      · subst n
        rw [upd_same] at z
        injection z with z
        subst z
        exact ⟨at_a, by rw [List.length_map]; exact few, vs, _, rel, at_a⟩
      · rw [off b n] at z; cases z
    · by_cases n : b = a
      · exact ⟨n, lk⟩
      · exact absurd (off b n) z
/-- the end of a law's proof; the law's def is called with no repr under way -/
theorem walkM {l : PySem.W.OpenLaw} {n k : Nat} {q : Program} {loose : List Str} {XP : (Str → Option Value) → Heap → Prop} {YP : World → Heap → Prop} {d : DefRec} {K : Params → PySem.W.Frag} {sp : PySem.W.Frag → Sp} {x : Str}
    (most : l.most = some n) (few : n ≤ sizeLine) (nodef : d.params.defaults = []) (hi : importsNone q = true) (room : Room k callerA) (hY : ∀ (w : World) (h : Heap), YP w h → (K w.params).In h)
    (F : ∀ (w : World) (mg : Str → Option Value) (fa : Addr) (h : Heap), (K w.params).In h → h.Ns mainGlobals mg → mg d.name = some (.ref fa) →
      ∃ fd : FuncData, (∀ (s : Shared) (u : Value), BindsTo s fd ⟨[u], []⟩ [(x, u)]) ∧ ∀ base : Heap, (K w.params).In base → base.Ns mainGlobals mg → (∃ o, base.get? sysModules = some o) → Cn.FnG l.prog w (K w.params) mg base k fa fd [x] (sp (K w.params)))
    (pr : ∀ (K : PySem.W.Frag) (H : Hp) (a : Addr) (ns : List Int), ns.length ≤ n → SqL K H a (ns.map V.int) → sp K [.ref a] H (fun v _ => v = .bl true) fun _ _ _ => False) :
    PySem.W.WalkO q loose XP YP l.row.toRowW d [] (fun f vs => PySem.call f vs) := by
  refine Att.attach_call most nodef ?_
  intro w s₀ s mg mb fa o pm cd doc a vs ns G Y _ _ _ named at_a nums len gens
  obtain ⟨fd, bd, go⟩ := F w mg fa _ (hY w _ Y) G.T.g named
  exact lawM (hY w _ Y) G.T.g G.T.b G.T.builtins G.T.nolimit (by obtain ⟨mm, h, _⟩ := (G.T.seer hi).mods; exact ⟨mm, h⟩) gens at_a nums (Nat.le_trans len few) room go bd fun H _ sq => pr _ H a ns len sq
end Wp

namespace K2
open PySem PySem.Spec PyProof.Rows L2 Evl Wp
def topS (i : Nat) : Stmt := PySem.Challenge.pw_canpath_k02_trips_judged.main.body.getD i (.Pass ⟨0, 0, 0, 0⟩)

abbrev s_is_number : Stmt := topS 1
abbrev N_is_number : List Str := ["value"]
theorem sc_is_number : FnScope N_is_number ["value"] (defScope s_is_number) := ⟨rfl, rfl, rfl, by decide +kernel, rfl, by decide +kernel, by decide +kernel⟩

abbrev s_is_number_from : Stmt := topS 2
abbrev N_is_number_from : List Str := ["value", "low"]
theorem sc_is_number_from : FnScope N_is_number_from ["value", "low"] (defScope s_is_number_from) := ⟨rfl, rfl, rfl, by decide +kernel, rfl, by decide +kernel, by decide +kernel⟩

abbrev s_is_tuple_of : Stmt := topS 3
abbrev N_is_tuple_of : List Str := ["value", "many"]
theorem sc_is_tuple_of : FnScope N_is_tuple_of ["value", "many"] (defScope s_is_tuple_of) := ⟨rfl, rfl, rfl, by decide +kernel, rfl, by decide +kernel, by decide +kernel⟩

abbrev s_ascends : Stmt := topS 4
abbrev N_ascends : List Str := ["items", "low", "high"]
theorem sc_ascends : FnScope N_ascends ["items"] (defScope s_ascends) := ⟨rfl, rfl, rfl, by decide +kernel, rfl, by decide +kernel, by decide +kernel⟩

abbrev s_is_trip : Stmt := topS 6
abbrev N_is_trip : List Str := ["garden", "value", "bed_places", "tap", "can", "beds", "place", "litres", "row"]
theorem sc_is_trip : FnScope N_is_trip ["garden", "value"] (defScope s_is_trip) := ⟨rfl, rfl, rfl, by decide +kernel, rfl, by decide +kernel, by decide +kernel⟩

abbrev s_is_row : Stmt := topS 7
abbrev N_is_row : List Str := ["bed_places", "value", "place", "litres"]
theorem sc_is_row : FnScope N_is_row ["bed_places", "value"] (defScope s_is_row) := ⟨rfl, rfl, rfl, by decide +kernel, rfl, by decide +kernel, by decide +kernel⟩

abbrev s_l_deck : Stmt := topS 9
abbrev N_l_deck : List Str := ["_law_script", "_law_cell"]
theorem sc_l_deck : FnScope N_l_deck ["_law_script"] (defScope s_l_deck) := ⟨rfl, rfl, rfl, by decide +kernel, rfl, by decide +kernel, by decide +kernel⟩

abbrev s_l_draw : Stmt := topS 10
abbrev N_l_draw : List Str := ["_law_deck_here", "_law_limit", "_law_cell", "_law_index"]
theorem sc_l_draw : FnScope N_l_draw ["_law_deck_here", "_law_limit"] (defScope s_l_draw) := ⟨rfl, rfl, rfl, by decide +kernel, rfl, by decide +kernel, by decide +kernel⟩

abbrev s_l_is_number : Stmt := topS 11
abbrev N_l_is_number : List Str := ["_law_value", "_law_low", "_law_high"]
theorem sc_l_is_number : FnScope N_l_is_number ["_law_value", "_law_low", "_law_high"] (defScope s_l_is_number) := ⟨rfl, rfl, rfl, by decide +kernel, rfl, by decide +kernel, by decide +kernel⟩

abbrev s_l_garden : Stmt := topS 12
abbrev N_l_garden : List Str := ["_law_deck_here", "_law_most", "_law_top", "_law_low", "_law_place", "_law_can", "_law_taps", "_law_count", "_law_span", "_law_bound", "_law_beds", "_law_k", "_law_litres"]
theorem sc_l_garden : FnScope N_l_garden ["_law_deck_here", "_law_most", "_law_top"] (defScope s_l_garden) := ⟨rfl, rfl, rfl, by decide +kernel, rfl, by decide +kernel, by decide +kernel⟩

abbrev s_l_trip : Stmt := topS 13
abbrev N_l_trip : List Str := ["_law_deck_here", "_law_garden_here", "_law_wants", "_law_place", "_law_rows", "_law_left", "_law_some", "_law_litres"]
theorem sc_l_trip : FnScope N_l_trip ["_law_deck_here", "_law_garden_here", "_law_wants"] (defScope s_l_trip) := ⟨rfl, rfl, rfl, by decide +kernel, rfl, by decide +kernel, by decide +kernel⟩

abbrev s_l_odd : Stmt := topS 14
abbrev N_l_odd : List Str := ["_law_deck_here", "_law_some"]
theorem sc_l_odd : FnScope N_l_odd ["_law_deck_here"] (defScope s_l_odd) := ⟨rfl, rfl, rfl, by decide +kernel, rfl, by decide +kernel, by decide +kernel⟩

abbrev s_l_is_trip : Stmt := topS 15
abbrev N_l_is_trip : List Str := ["_law_garden_here", "_law_value", "_law_row", "_law_tap", "_law_can", "_law_beds", "_law_known", "_law_before", "_law_total", "_law_place", "_law_litres"]
theorem sc_l_is_trip : FnScope N_l_is_trip ["_law_garden_here", "_law_value"] (defScope s_l_is_trip) := ⟨rfl, rfl, rfl, by decide +kernel, rfl, by decide +kernel, by decide +kernel⟩

abbrev s_l_part : Stmt := topS 16
abbrev N_l_part : List Str := ["_law_deck_here", "_law_thing", "_law_depth", "_law_way", "_law_at"]
theorem sc_l_part : FnScope N_l_part ["_law_deck_here", "_law_thing", "_law_depth"] (defScope s_l_part) := ⟨rfl, rfl, rfl, by decide +kernel, rfl, by decide +kernel, by decide +kernel⟩

abbrev s_l_values : Stmt := topS 17
abbrev N_l_values : List Str := ["_law_deck_here", "_law_garden_here", "_law_trip_here", "_law_k", "_law_left", "_law_tap", "_law_can", "_law_beds", "_law_wide", "_law_found", "_law_place", "_law_litres", "_law_other", "_law_once", "_law_more"]
theorem sc_l_values : FnScope N_l_values ["_law_deck_here", "_law_garden_here"] (defScope s_l_values) := ⟨rfl, rfl, rfl, by decide +kernel, rfl, by decide +kernel, by decide +kernel⟩

abbrev s_law : Stmt := topS 18
abbrev N_law : List Str := ["_law_script", "_law_deck_here", "_law_turn", "_law_known", "_law_some", "_law_garden_here", "_law_value", "_law_before", "_law_due", "_law_again"]
theorem sc_law : FnScope N_law ["_law_script"] (defScope s_law) := ⟨rfl, rfl, rfl, by decide +kernel, rfl, by decide +kernel, by decide +kernel⟩

def S_l_values_1 : WS := (mRetO 9)
def S_l_values_2 : WS := (mAsg 9 (vL (mCat (mO 9) (mLk (mLc (bName 14) (mTup (mCons (mV 4) (mCons (mOp addW (mV 4) (mC (.int 1))) mNil))) mYes (mOp addW (mSl (mV 2) mNo (mPt (mUn negW (mC (.int 1))))) (mTup (mCons (mTup (mCons (mOp ixW (mOp ixW (mV 2) (mUn negW (mC (.int 1)))) (mC (.int 0))) (mCons (mOp addW (mOp ixW (mOp ixW (mV 2) (mUn negW (mC (.int 1)))) (mC (.int 1))) (mV 14)) mNil))) mNil))) [14])))))
def S_l_values_3 : WS := (mIfS (mT (mOp neW (mV 2) (mTup mNil))) S_l_values_2 mSkip)
def S_l_values_4 : WS := (mAsg 4 (vD (mOp subW (mV 6) (mCB sumW (mCons (mLk (mLc (bTup 2 (bCons (bName 10) (bCons (bName 11) bNil))) (mV 2) mYes (mV 11) [10, 11])) mNil)))))
def S_l_values_5 : WS := (mAsg 9 (vL (mCat (mO 9) (mLk (mLst (mCons (mV 12) (mCons (mV 2) (mCons (mOp addW (mV 12) (mV 2)) (mCons (mCB tupW (mCons (mLk (mCL sortW (mCons (mOp addW (mV 12) (mV 2)) mNil))) mNil)) (mCons (mV 13) (mCons (mCall (M_l_part 3) (gO 0 (gE (mV 13) (gE (mC (.int 2)) gNo)))) mNil)))))))))))
def S_l_values_6 : WS := (mAsg 13 (vD (mCall (M_l_part 3) (gO 0 (gE (mV 12) (gE (mC (.int 2)) gNo))))))
def S_l_values_7 : WS := (mAsg 12 (vD (mCall M_l_trip (gO 0 (gE (mV 1) (gO 8 gNo))))))
def S_l_values_8 : WS := (mForR (bName 3) (mCons (mC (.int 4)) mNil)
      (mSeq S_l_values_7
    (mSeq S_l_values_6
    S_l_values_5)))
def S_l_values_9 : WS := (mAsg 2 (vD (mCall M_l_trip (gO 0 (gE (mV 1) (gO 8 gNo))))))
def S_l_values_10 : WS := (mAsg 9 (vL (mCat (mO 9) (mLk (mLst (mCons (mTup (mCons (mTup (mCons (mV 10) (mCons (mC (.int 1)) mNil))) (mCons (mTup (mCons (mV 10) (mCons (mC (.int 1)) mNil))) mNil))) (mCons (mTup (mCons (mTup (mCons (mV 10) (mCons (mC (.int 1)) mNil))) (mCons (mTup (mCons (mOp addW (mV 10) (mC (.int 1))) (mCons (mC (.int 1)) mNil))) mNil))) (mCons (mLk (mLst (mCons (mTup (mCons (mV 10) (mCons (mC (.int 1)) mNil))) mNil))) (mCons (mTup (mCons (mTup (mCons (mV 10) (mCons (mUn negW (mC (.int 1))) mNil))) mNil)) mNil)))))))))
def S_l_values_11 : WS := (mApp 9 (mTup (mCons (mV 10) (mCons (mC (.int 1)) mNil))))
def S_l_values_12 : WS := (mAsg 9 (vL (mCat (mO 9) (mLk (mLst (mCons (mTup (mCons (mTup (mCons (mV 10) (mCons (mV 6) mNil))) mNil)) (mCons (mTup (mCons (mTup (mCons (mV 10) (mCons (mOp addW (mV 6) (mC (.int 1))) mNil))) mNil)) (mCons (mTup (mCons (mTup (mCons (mV 10) (mCons (mV 11) mNil))) mNil)) (mCons (mTup (mCons (mTup (mCons (mV 10) (mCons (mC (.bool true)) mNil))) mNil)) (mCons (mTup (mCons (mTup (mCons (mV 10) (mCons (mC (.int 0)) mNil))) mNil)) mNil))))))))))
def S_l_values_13 : WS := (mPut 8 (mV 10) (mOp addW (mV 11) (mC (.int 2))))
def S_l_values_14 : WS := (mFor (bTup 2 (bCons (bName 10) (bCons (bName 11) bNil))) (mV 7)
      (mSeq S_l_values_13
    (mSeq S_l_values_12
    (mSeq S_l_values_11
    S_l_values_10))))
def S_l_values_15 : WS := (mPar [8, 9] (vCons vM0 (vCons (vL (mLst (mCons (mTup mNil) (mCons (mC .none) (mCons (mTup (mCons (mTup (mCons (mV 5) (mCons (mC (.int 1)) mNil))) mNil)) (mCons (mTup (mCons (mTup (mCons (mOp addW (mV 5) (mC (.int 1))) (mCons (mC (.int 1)) mNil))) mNil)) (mCons (mCB tupW (mCons (mV 7) mNil)) (mCons (mCB tupW (mCons (mUn revW (mV 7)) mNil)) (mCons (mCall M_l_odd (gO 0 gNo)) mNil))))))))) vNil)))
def S_l_values_16 : WS := (mUnp (bTup 3 (bCons (bName 5) (bCons (bName 6) (bCons (bName 7) bNil)))) (mV 1))
def B_l_values : WS := (mSeq S_l_values_16
    (mSeq S_l_values_15
    (mSeq S_l_values_14
    (mSeq S_l_values_9
    (mSeq S_l_values_8
    (mSeq S_l_values_4
    (mSeq S_l_values_3
    S_l_values_1)))))))
def M_l_values : WF := mFn 2 15 B_l_values

def S_law_1 : WS := (mRet (mOp eqW (mLk (mLc (bName 6) (mO 4) mYes (mCall M_is_trip (gE (mV 3) (gE (mV 6) gNo))) [6])) (mLk (mLst (mCons (mC (.bool true)) (mCons (mC (.bool false)) (mCons (mC (.bool false)) (mCons (mC (.bool false)) (mCons (mC (.bool true)) (mCons (mC (.bool true)) mNil))))))))))
def S_law_2 : WS := (mApp 4 (mTup (mCons (mTup (mCons (mC (.int 1)) (mCons (mC (.int 2)) mNil))) mNil)))
def S_law_3 : WS := (mAsg 4 (vL (mLst (mCons (mTup (mCons (mTup (mCons (mC (.int 0)) (mCons (mC (.int 1)) mNil))) (mCons (mTup (mCons (mC (.int 1)) (mCons (mC (.int 1)) mNil))) mNil))) (mCons (mTup (mCons (mTup (mCons (mC (.bool false)) (mCons (mC (.int 1)) mNil))) (mCons (mTup (mCons (mC (.int 1)) (mCons (mC (.int 1)) mNil))) mNil))) (mCons (mTup (mCons (mTup (mCons (mC (.int 0)) (mCons (mC (.int 1)) mNil))) (mCons (mTup (mCons (mC (.int 1)) (mCons (mC (.bool true)) mNil))) mNil))) (mCons (mTup (mCons (mTup (mCons (mC (.int 0)) (mCons (mC (.int 1)) mNil))) (mCons (mTup (mCons (mC (.bool true)) (mCons (mC (.int 1)) mNil))) mNil))) (mCons (mTup (mCons (mTup (mCons (mC (.int 0)) (mCons (mC (.int 1)) mNil))) (mCons (mTup (mCons (mC (.int 1)) (mCons (mC (.int 1)) mNil))) mNil))) mNil))))))))
def S_law_4 : WS := (mAsg 3 (vD (mTup (mCons (mC (.int 0)) (mCons (mC (.int 2)) (mCons (mTup (mCons (mTup (mCons (mC (.int 0)) (mCons (mC (.int 1)) mNil))) (mCons (mTup (mCons (mC (.int 1)) (mCons (mC (.int 1)) mNil))) mNil))) mNil))))))
def S_law_5 : WS := (mRet (mC (.bool false)))
def S_law_6 : WS := (mIfS (mT (mOp neW (mCB reprW (mCons (mLk (mLst (mCons (mV 5) (mCons (mV 6) mNil)))) mNil)) (mV 7))) S_law_5 mSkip)
def S_law_7 : WS := (mRet (mC (.bool false)))
def S_law_8 : WS := (mIfS (mT (mOp neW (mLk (mLcR (bName 9) (mCons (mC (.int 2)) mNil) mYes (mCB reprW (mCons (mCall M_is_trip (gE (mV 5) (gE (mV 6) gNo))) mNil)) [9])) (mLk (mLst (mCons (mV 8) (mCons (mV 8) mNil)))))) S_law_7 mSkip)
def S_law_9 : WS := (mPar [7, 8] (vCons (vD (mCB reprW (mCons (mLk (mLst (mCons (mV 5) (mCons (mV 6) mNil)))) mNil))) (vCons (vD (mCB reprW (mCons (mCall M_l_is_trip (gE (mV 5) (gE (mV 6) gNo))) mNil))) vNil)))
def S_law_10 : WS := (mFor (bName 6) (mCall M_l_values (gO 1 (gE (mV 5) gNo)))
      (mSeq S_law_9
    (mSeq S_law_8
    S_law_6)))
def S_law_11 : WS := (mAsg 5 (vD (mCall M_l_garden (gO 1 (gE (mOp ixW (mLk (mLst (mCons (mC (.int 12)) (mCons (mC (.int 3)) (mCons (mC (.int 5)) mNil))))) (mOp modW (mV 2) (mC (.int 3)))) (gE (mOp ixW (mLk (mLst (mCons (mOp powW (mC (.int 10)) (mC (.int 9))) (mCons (mC (.int 9)) mNil)))) (mOp modW (mV 2) (mC (.int 2)))) gNo))))))
def S_law_12 : WS := (mForR (bName 2) (mCons (mC (.int 9)) mNil)
      (mSeq S_law_11
    S_law_10))
def B_law : WS := (mSeq S_law_12
    (mSeq S_law_4
    (mSeq S_law_3
    (mSeq S_law_2
    S_law_1))))
def M_law : WF := mFn 1 10 B_law

section
variable {P : Program} {w : World} {K : PySem.W.Frag} {mg : Str → Option Value} {base : Heap}

theorem ok_is_number {f : Addr} {fd : FuncData} (sm : ∃ o, base.get? sysModules = some o) (F : Fun K "is_number" "is_number" s_is_number f fd) (m_bool : mg "bool" = none) (m_int : mg "int" = none) (m_isinstance : mg "isinstance" = none) : Cn.FnG P w K mg base 1 f fd ["value"] (spOf M_is_number) :=
  fn_of F sc_is_number (by decide) fun cdv A outer s H E gd hr =>
    (pm_one1 (pm_ret (pm_and (pm_isi kit_int (by rfl) m_isinstance (pm_var (pv 0)) (pe_bltn (v := .ty "int") (by rfl) m_int (by decide +kernel) rfl)) (pm_one (pm_not (pm_isi kit_bool (by rfl) m_isinstance (pm_var (pv 0)) (pe_bltn (v := .ty "bool") (by rfl) m_bool (by decide +kernel) rfl)))))))

theorem ok_is_number_from {f : Addr} {fd : FuncData} (sm : ∃ o, base.get? sysModules = some o) (F : Fun K "is_number_from" "is_number_from" s_is_number_from f fd) {f_is_number : Addr} {fd_is_number : FuncData} (G_is_number : Cn.FnG P w K mg base 1 f_is_number fd_is_number ["value"] (spOf M_is_number)) (g_is_number : mg "is_number" = some (.ref f_is_number)) (F_is_number : Fun K "is_number" "is_number" s_is_number f_is_number fd_is_number) (b_is_number : Binds K fd_is_number ["value"] []) : Cn.FnG P w K mg base 2 f fd ["value", "low"] (spOf M_is_number_from) :=
  fn_of F sc_is_number_from (by decide) fun cdv A outer s H E gd hr =>
    (pm_one1 (pm_ret (pm_and (pm_call G_is_number gd (hr.mono (by first | decide | omega)) (by rfl) g_is_number F_is_number.kp b_is_number (pm_ge (pm_var (pv 0)) pm_gno)) (pm_one (pm_cmp (op_leW ⟨gd, hr.units, rfl, sm⟩) ((pm_var (pv 1))).q ((pm_var (pv 0))).q (by rfl))))))

theorem ok_is_tuple_of {f : Addr} {fd : FuncData} (sm : ∃ o, base.get? sysModules = some o) (F : Fun K "is_tuple_of" "is_tuple_of" s_is_tuple_of f fd) (m_isinstance : mg "isinstance" = none) (m_len : mg "len" = none) (m_tuple : mg "tuple" = none) : Cn.FnG P w K mg base 1 f fd ["value", "many"] (spOf M_is_tuple_of) :=
  fn_of F sc_is_tuple_of (by decide) fun cdv A outer s H E gd hr =>
    (pm_one1 (pm_ret (pm_and (pm_isi kit_tuple (by rfl) m_isinstance (pm_var (pv 0)) (pe_bltn (v := .ty "tuple") (by rfl) m_tuple (by decide +kernel) rfl)) (pm_one (pm_cmp (op_eqW ⟨gd, hr.units, rfl, sm⟩) ((pm_callB cr_lenW (by rfl) m_len (by decide +kernel) (pm_qcons ((pm_var (pv 0))).q pm_qnil))).q ((pm_var (pv 1))).q (by rfl))))))

theorem ok_ascends {f : Addr} {fd : FuncData} (sm : ∃ o, base.get? sysModules = some o) (F : Fun K "ascends" "ascends" s_ascends f fd) (m_all : mg "all" = none) (m_zip : mg "zip" = none) : Cn.FnG P w K mg base 1 f fd ["items"] (spOf M_ascends) :=
  fn_of F sc_ascends (by decide) fun cdv A outer s H E gd hr =>
    (pm_one1 (pm_ret (pm_callB (cr_allW ⟨gd, hr.units, rfl, sm⟩) (by rfl) m_all (by decide +kernel) (pm_qcons (((pe_lc (own := [("low", 1), ("high", 2)]) (g := (gTup K 2 (gCons (gName 1) (gCons (gName 2) gNil)))) rfl sc_ascends.nd (pi_zip (by rfl) m_zip (pm_qcons ((pm_var (pv 0))).q (pm_qcons ((pm_sl ((pm_var (pv 0))).q (pm_pt pm_int) pm_pno)).q pm_qnil))) (blkOk_by (N := N_ascends) (sc := defScope s_ascends) (by decide +kernel)) (fun _ _ _ _ _ => (pg_tup rfl (pgs_cons (pg_name (i := 1) sc_ascends.nd rfl (.inl rfl)) (pgs_cons (pg_name (i := 2) sc_ascends.nd rfl (.inl rfl)) pgs_nil)))) (fun _ _ _ _ _ => pm_yes) (fun _ _ _ _ _ => (pm_cmp (op_ltW ⟨gd, hr.units, rfl, sm⟩) ((pm_var (pv 1))).q ((pm_var (pv 2))).q (by rfl)))).weak fun _ _ _ h => lcZ_of (gt_tup (gb_cons gb_name (gb_cons gb_name gb_nil))) (by decide) h)).lq pm_qnil))))

theorem ok_is_row {f : Addr} {fd : FuncData} (sm : ∃ o, base.get? sysModules = some o) (F : Fun K "is_row" "is_row" s_is_row f fd) {f_is_number : Addr} {fd_is_number : FuncData} (G_is_number : Cn.FnG P w K mg base 1 f_is_number fd_is_number ["value"] (spOf M_is_number)) (g_is_number : mg "is_number" = some (.ref f_is_number)) (F_is_number : Fun K "is_number" "is_number" s_is_number f_is_number fd_is_number) (b_is_number : Binds K fd_is_number ["value"] []) {f_is_number_from : Addr} {fd_is_number_from : FuncData} (G_is_number_from : Cn.FnG P w K mg base 2 f_is_number_from fd_is_number_from ["value", "low"] (spOf M_is_number_from)) (g_is_number_from : mg "is_number_from" = some (.ref f_is_number_from)) (F_is_number_from : Fun K "is_number_from" "is_number_from" s_is_number_from f_is_number_from fd_is_number_from) (b_is_number_from : Binds K fd_is_number_from ["value", "low"] []) {f_is_tuple_of : Addr} {fd_is_tuple_of : FuncData} (G_is_tuple_of : Cn.FnG P w K mg base 1 f_is_tuple_of fd_is_tuple_of ["value", "many"] (spOf M_is_tuple_of)) (g_is_tuple_of : mg "is_tuple_of" = some (.ref f_is_tuple_of)) (F_is_tuple_of : Fun K "is_tuple_of" "is_tuple_of" s_is_tuple_of f_is_tuple_of fd_is_tuple_of) (b_is_tuple_of : Binds K fd_is_tuple_of ["value", "many"] []) : Cn.FnG P w K mg base 3 f fd ["bed_places", "value"] (spOf M_is_row) :=
  fn_of F sc_is_row (by decide) fun cdv A outer s H E gd hr =>
    (pm_seq (pm_if (pm_tnot (pm_tval (pm_call G_is_tuple_of gd (hr.mono (by first | decide | omega)) (by rfl) g_is_tuple_of F_is_tuple_of.kp b_is_tuple_of (pm_ge (pm_var (pv 1)) (pm_ge pm_int pm_gno))))) (pm_one1 (pm_ret pm_bl)) pm_skip)
    (pm_seq (pm_unp (pm_var (pv 1)) (pg_tup rfl (pgs_cons (pg_name (i := 2) sc_is_row.nd rfl (.inl rfl)) (pgs_cons (pg_name (i := 3) sc_is_row.nd rfl (.inl rfl)) pgs_nil))) (gb_tup (gb_cons gb_name (gb_cons gb_name gb_nil))))
    (pm_one1 (pm_ret (pm_and (pm_call G_is_number gd (hr.mono (by first | decide | omega)) (by rfl) g_is_number F_is_number.kp b_is_number (pm_ge (pm_var (pv 2)) pm_gno)) (pm_and (pm_cmp (op_inW ⟨gd, hr.units, rfl, sm⟩) ((pm_var (pv 2))).q ((pm_var (pv 0))).q (by rfl)) (pm_one (pm_call G_is_number_from gd (hr.mono (by first | decide | omega)) (by rfl) g_is_number_from F_is_number_from.kp b_is_number_from (pm_ge (pm_var (pv 3)) (pm_ge pm_int pm_gno))))))))))

theorem ok_is_trip {f : Addr} {fd : FuncData} (sm : ∃ o, base.get? sysModules = some o) (F : Fun K "is_trip" "is_trip" s_is_trip f fd) (m_all : mg "all" = none) (m_isinstance : mg "isinstance" = none) (m_len : mg "len" = none) (m_sum : mg "sum" = none) (m_tuple : mg "tuple" = none) {f_ascends : Addr} {fd_ascends : FuncData} (G_ascends : Cn.FnG P w K mg base 1 f_ascends fd_ascends ["items"] (spOf M_ascends)) (g_ascends : mg "ascends" = some (.ref f_ascends)) (F_ascends : Fun K "ascends" "ascends" s_ascends f_ascends fd_ascends) (b_ascends : Binds K fd_ascends ["items"] []) {f_is_row : Addr} {fd_is_row : FuncData} (G_is_row : Cn.FnG P w K mg base 3 f_is_row fd_is_row ["bed_places", "value"] (spOf M_is_row)) (g_is_row : mg "is_row" = some (.ref f_is_row)) (F_is_row : Fun K "is_row" "is_row" s_is_row f_is_row fd_is_row) (b_is_row : Binds K fd_is_row ["bed_places", "value"] []) : Cn.FnG P w K mg base 4 f fd ["garden", "value"] (spOf M_is_trip) :=
  fn_of F sc_is_trip (by decide) fun cdv A outer s H E gd hr =>
    (pm_seq (pm_unp (pm_var (pv 0)) (pg_tup rfl (pgs_cons (pg_name (i := 3) sc_is_trip.nd rfl (.inl rfl)) (pgs_cons (pg_name (i := 4) sc_is_trip.nd rfl (.inl rfl)) (pgs_cons (pg_name (i := 5) sc_is_trip.nd rfl (.inl rfl)) pgs_nil)))) (gb_tup (gb_cons gb_name (gb_cons gb_name (gb_cons gb_name gb_nil)))))
    (pm_seq (pm_if (PW.pt (pm_wor (pm_tnot (pm_tval (pm_isi kit_tuple (by rfl) m_isinstance (pm_var (pv 1)) (pe_bltn (v := .ty "tuple") (by rfl) m_tuple (by decide +kernel) rfl)))) (pm_wor1 (pm_tcmp (op_eqW ⟨gd, hr.units, rfl, sm⟩) ((pm_callB cr_lenW (by rfl) m_len (by decide +kernel) (pm_qcons ((pm_var (pv 1))).q pm_qnil))).q (pm_int).q (by rfl))))) (pm_one1 (pm_ret pm_bl)) pm_skip)
    (pm_seq (pm_asg (i := 2) sc_is_trip.nd rfl (.inr rfl) ((((pe_lc (own := [("place", 6), ("litres", 7)]) (g := (gTup K 2 (gCons (gName 6) (gCons (gName 7) gNil)))) rfl sc_is_trip.nd (pi_sq (K := K) rfl ((pm_var (pv 5))).q) (blkOk_by (N := N_is_trip) (sc := defScope s_is_trip) (by decide +kernel)) (fun _ _ _ _ _ => (pg_tup rfl (pgs_cons (pg_name (i := 6) sc_is_trip.nd rfl (.inl rfl)) (pgs_cons (pg_name (i := 7) sc_is_trip.nd rfl (.inl rfl)) pgs_nil)))) (fun _ _ _ _ _ => pm_yes) (fun _ _ _ _ _ => (pm_var (pv 6)))).weak fun _ _ _ h => lc_of (gb_tup (gb_cons gb_name (gb_cons gb_name gb_nil))) (by decide) h)).lk).vd)
    (pm_seq (pm_if (pm_tnot (pm_tval (pm_callB (cr_allW ⟨gd, hr.units, rfl, sm⟩) (by rfl) m_all (by decide +kernel) (pm_qcons (((pe_lc (own := [("row", 8)]) (g := (gName 8)) rfl sc_is_trip.nd (pi_sq (K := K) rfl ((pm_var (pv 1))).q) (blkOk_by (N := N_is_trip) (sc := defScope s_is_trip) (by decide +kernel)) (fun _ _ _ _ _ => (pg_name (i := 8) sc_is_trip.nd rfl (.inl rfl))) (fun _ _ _ _ _ => pm_yes) (fun _ _ _ _ _ => (pm_call G_is_row gd (hr.mono (by first | decide | omega)) (by rfl) g_is_row F_is_row.kp b_is_row (pm_ge (pm_var (pv 2)) (pm_ge (pm_var (pv 8)) pm_gno))))).weak fun _ _ _ h => lc_of gb_name (by decide) h)).lq pm_qnil)))) (pm_one1 (pm_ret pm_bl)) pm_skip)
    (pm_seq (pm_if (pm_tnot (pm_tval (pm_call G_ascends gd (hr.mono (by first | decide | omega)) (by rfl) g_ascends F_ascends.kp b_ascends (pm_ge (((pe_lc (own := [("place", 6), ("litres", 7)]) (g := (gTup K 2 (gCons (gName 6) (gCons (gName 7) gNil)))) rfl sc_is_trip.nd (pi_sq (K := K) rfl ((pm_var (pv 1))).q) (blkOk_by (N := N_is_trip) (sc := defScope s_is_trip) (by decide +kernel)) (fun _ _ _ _ _ => (pg_tup rfl (pgs_cons (pg_name (i := 6) sc_is_trip.nd rfl (.inl rfl)) (pgs_cons (pg_name (i := 7) sc_is_trip.nd rfl (.inl rfl)) pgs_nil)))) (fun _ _ _ _ _ => pm_yes) (fun _ _ _ _ _ => (pm_var (pv 6)))).weak fun _ _ _ h => lc_of (gb_tup (gb_cons gb_name (gb_cons gb_name gb_nil))) (by decide) h)).lk pm_gno)))) (pm_one1 (pm_ret pm_bl)) pm_skip)
    (pm_one1 (pm_ret (pm_cmp (op_leW ⟨gd, hr.units, rfl, sm⟩) ((pm_callB (cr_sumW ⟨gd, hr.units, rfl, sm⟩) (by rfl) m_sum (by decide +kernel) (pm_qcons (((pe_lc (own := [("place", 6), ("litres", 7)]) (g := (gTup K 2 (gCons (gName 6) (gCons (gName 7) gNil)))) rfl sc_is_trip.nd (pi_sq (K := K) rfl ((pm_var (pv 1))).q) (blkOk_by (N := N_is_trip) (sc := defScope s_is_trip) (by decide +kernel)) (fun _ _ _ _ _ => (pg_tup rfl (pgs_cons (pg_name (i := 6) sc_is_trip.nd rfl (.inl rfl)) (pgs_cons (pg_name (i := 7) sc_is_trip.nd rfl (.inl rfl)) pgs_nil)))) (fun _ _ _ _ _ => pm_yes) (fun _ _ _ _ _ => (pm_var (pv 7)))).weak fun _ _ _ h => lc_of (gb_tup (gb_cons gb_name (gb_cons gb_name gb_nil))) (by decide) h)).lq pm_qnil))).q ((pm_var (pv 4))).q (by rfl)))))))))

theorem ok_l_is_number {f : Addr} {fd : FuncData} (sm : ∃ o, base.get? sysModules = some o) (F : Fun K "_law_is_number" "_law_is_number" s_l_is_number f fd) (m_bool : mg "bool" = none) (m_int : mg "int" = none) (m_isinstance : mg "isinstance" = none) : Cn.FnG P w K mg base 1 f fd ["_law_value", "_law_low", "_law_high"] (spOf M_l_is_number) :=
  fn_of F sc_l_is_number (by decide) fun cdv A outer s H E gd hr =>
    (pm_one1 (pm_ret (pm_and (pm_isi kit_int (by rfl) m_isinstance (pm_var (pv 0)) (pe_bltn (v := .ty "int") (by rfl) m_int (by decide +kernel) rfl)) (pm_and (pm_not (pm_isi kit_bool (by rfl) m_isinstance (pm_var (pv 0)) (pe_bltn (v := .ty "bool") (by rfl) m_bool (by decide +kernel) rfl))) (pm_one (pm_chain (op_leW ⟨gd, hr.units, rfl, sm⟩) (op_leW ⟨gd, hr.units, rfl, sm⟩) ((pm_var (pv 1))).q ((pm_var (pv 0))).q ((pm_var (pv 2))).q))))))

theorem ok_l_garden {f : Addr} {fd : FuncData} (sm : ∃ o, base.get? sysModules = some o) (F : Fun K "_law_garden" "_law_garden" s_l_garden f fd) (m_len : mg "len" = none) (m_range : mg "range" = none) (m_set : mg "set" = none) (m_sorted : mg "sorted" = none) (m_tuple : mg "tuple" = none) {f_l_draw : Addr} {fd_l_draw : FuncData} (G_l_draw : Cn.FnG P w K mg base 1 f_l_draw fd_l_draw ["_law_deck_here", "_law_limit"] (spOf mDraw)) (g_l_draw : mg "_law_draw" = some (.ref f_l_draw)) (F_l_draw : Fun K "_law_draw" "_law_draw" s_l_draw f_l_draw fd_l_draw) (b_l_draw : Binds K fd_l_draw ["_law_deck_here", "_law_limit"] []) : Cn.FnG P w K mg base 2 f fd ["_law_deck_here", "_law_most", "_law_top"] (spOf M_l_garden) :=
  fn_of F sc_l_garden (by decide) fun cdv A outer s H E gd hr =>
    (pm_seq (pm_parT (K := K) (is := [7, 8]) (pm_vcons ((pm_ix (ixr_W (K := K) rfl) ((pm_lst (pm_acons (pm_call G_l_draw gd (hr.mono (by first | decide | omega)) (by rfl) g_l_draw F_l_draw.kp b_l_draw (pm_go (pv 0) (pm_ge (pm_op op_addW ((pm_var (pv 1))).q (pm_int).q) pm_gno))) (pm_acons (pm_var (pv 1)) pm_anil)))).lq ((pm_call G_l_draw gd (hr.mono (by first | decide | omega)) (by rfl) g_l_draw F_l_draw.kp b_l_draw (pm_go (pv 0) (pm_ge pm_int pm_gno)))).q (fun _ _ => rfl))).vd (pm_vcons ((pm_ix (ixr_W (K := K) rfl) ((pm_lst (pm_acons (pm_op op_addW ((pm_var (pv 1))).q (pm_int).q) (pm_acons pm_int (pm_acons (pm_op op_powW (pm_int).q (pm_int).q) pm_anil))))).lq ((pm_call G_l_draw gd (hr.mono (by first | decide | omega)) (by rfl) g_l_draw F_l_draw.kp b_l_draw (pm_go (pv 0) (pm_ge pm_int pm_gno)))).q (fun _ _ => rfl))).vd pm_vnil)) (pg_tup rfl (pgs_cons (pg_name (i := 7) sc_l_garden.nd rfl (.inl rfl)) (pgs_cons (pg_name (i := 8) sc_l_garden.nd rfl (.inr rfl)) pgs_nil))) (by decide))
    (pm_seq (pm_asg (i := 3) sc_l_garden.nd rfl (.inr rfl) ((pm_ix (ixr_W (K := K) rfl) ((pm_lst (pm_acons (pm_op op_subW (pm_int).q ((pm_op op_fdivW ((pm_var (pv 8))).q (pm_int).q)).q) (pm_acons (pm_op op_subW ((pm_op op_powW (pm_int).q (pm_int).q)).q ((pm_var (pv 8))).q) (pm_acons (pm_neg (pm_op op_powW (pm_int).q (pm_int).q)) (pm_acons (pm_op op_subW (pm_int).q ((pm_call G_l_draw gd (hr.mono (by first | decide | omega)) (by rfl) g_l_draw F_l_draw.kp b_l_draw (pm_go (pv 0) (pm_ge (pm_var (pv 8)) pm_gno)))).q) pm_anil)))))).lq ((pm_call G_l_draw gd (hr.mono (by first | decide | omega)) (by rfl) g_l_draw F_l_draw.kp b_l_draw (pm_go (pv 0) (pm_ge pm_int pm_gno)))).q (fun _ _ => rfl))).vd)
    (pm_seq (pm_par2 (i := 9) (j := 10) rfl sc_l_garden.nd rfl rfl (by decide) rfl rfl (pm_vcons ((pm_ix (ixr_W (K := K) rfl) ((pm_lst (pm_acons pm_int (pm_acons pm_int (pm_acons (pm_var (pv 2)) pm_anil))))).lq ((pm_call G_l_draw gd (hr.mono (by first | decide | omega)) (by rfl) g_l_draw F_l_draw.kp b_l_draw (pm_go (pv 0) (pm_ge pm_int pm_gno)))).q (fun _ _ => rfl))).vd (pm_vcons ((pm_lst pm_anil)).vl pm_vnil)) (by rfl))
    (pm_seq (pm_for (K := K) rfl PassesOwn.never rfl ((pm_ss (pe_callB (cr_sortedSet rfl) (by rfl) m_sorted (by decide +kernel) (pa_cons (pe_callTy (Cn.cr_setK (K := K) rfl rfl) (by rfl) m_set (by decide +kernel) (pa_cons (((pe_lc (own := [("_law_k", 11)]) (g := (gName 11)) rfl sc_l_garden.nd (pi_range1 (by rfl) m_range (pm_acons (pm_var (pv 7)) pm_anil)) (blkOk_by (N := N_l_garden) (sc := defScope s_l_garden) (by decide +kernel)) (fun _ _ _ _ _ => (pg_name (i := 11) sc_l_garden.nd rfl (.inl rfl))) (fun _ _ _ _ _ => pm_yes) (fun _ _ _ _ _ => (pm_op op_addW ((pm_var (pv 3))).q ((pm_call G_l_draw gd (hr.mono (by first | decide | omega)) (by rfl) g_l_draw F_l_draw.kp b_l_draw (pm_go (pv 0) (pm_ge (pm_var (pv 8)) pm_gno)))).q))).weak fun _ _ _ h => lcR_of gb_name (by decide) h)).lq pa_nil)) pa_nil)))).lk (pg_name (i := 4) sc_l_garden.nd rfl (.inl rfl)) gb_name
      (pm_one1 (pm_app (K := K) (pe_bm PySem.F.plainAttrs_list PySem.F.slot_list_append PySem.F.type_list_append mt_append (pv 10) (pa_cons (pm_tup (pm_acons (pm_var (pv 4)) (pm_acons (pm_op op_addW (pm_int).q ((pm_call G_l_draw gd (hr.mono (by first | decide | omega)) (by rfl) g_l_draw F_l_draw.kp b_l_draw (pm_go (pv 0) (pm_ge (pm_var (pv 9)) pm_gno)))).q) pm_anil))) pa_nil)))))
    (pm_seq (pm_asg (i := 5) sc_l_garden.nd rfl (.inl rfl) ((pm_ix (ixr_W (K := K) rfl) ((pm_lst (pm_acons pm_int (pm_acons (pm_op op_addW (pm_int).q ((pm_call G_l_draw gd (hr.mono (by first | decide | omega)) (by rfl) g_l_draw F_l_draw.kp b_l_draw (pm_go (pv 0) (pm_ge pm_int pm_gno)))).q) (pm_acons (pm_op op_addW (pm_int).q ((pm_call G_l_draw gd (hr.mono (by first | decide | omega)) (by rfl) g_l_draw F_l_draw.kp b_l_draw (pm_go (pv 0) (pm_ge pm_int pm_gno)))).q) (pm_acons (pm_op op_addW (pm_int).q ((pm_call G_l_draw gd (hr.mono (by first | decide | omega)) (by rfl) g_l_draw F_l_draw.kp b_l_draw (pm_go (pv 0) (pm_ge (pm_op op_powW (pm_int).q (pm_int).q) pm_gno)))).q) pm_anil)))))).lq ((pm_call G_l_draw gd (hr.mono (by first | decide | omega)) (by rfl) g_l_draw F_l_draw.kp b_l_draw (pm_go (pv 0) (pm_ge pm_int pm_gno)))).q (fun _ _ => rfl))).vd)
    (pm_seq (pm_asg (i := 6) sc_l_garden.nd rfl (.inl rfl) ((pm_op op_addW ((pm_lst (pm_acons (pm_op op_addW ((pm_var (pv 3))).q ((pm_call G_l_draw gd (hr.mono (by first | decide | omega)) (by rfl) g_l_draw F_l_draw.kp b_l_draw (pm_go (pv 0) (pm_ge (pm_var (pv 8)) pm_gno)))).q) (pm_acons (pm_var (pv 3)) (pm_acons (pm_op op_addW ((pm_var (pv 3))).q ((pm_var (pv 8))).q) pm_anil))))).lq (((pe_lc (own := [("_law_place", 4), ("_law_litres", 12)]) (g := (gTup K 2 (gCons (gName 4) (gCons (gName 12) gNil)))) rfl sc_l_garden.nd (pi_sq (K := K) rfl (pm_own (pv 10))) (blkOk_by (N := N_l_garden) (sc := defScope s_l_garden) (by decide +kernel)) (fun _ _ _ _ _ => (pg_tup rfl (pgs_cons (pg_name (i := 4) sc_l_garden.nd rfl (.inl rfl)) (pgs_cons (pg_name (i := 12) sc_l_garden.nd rfl (.inl rfl)) pgs_nil)))) (fun _ _ _ _ _ => pm_yes) (fun _ _ _ _ _ => (pm_var (pv 4)))).weak fun _ _ _ h => lc_of (gb_tup (gb_cons gb_name (gb_cons gb_name gb_nil))) (by decide) h)).lq)).vd)
    (pm_one1 (pm_ret (pm_tup (pm_acons (pm_ix (ixr_W (K := K) rfl) ((pm_var (pv 6))).q ((pm_call G_l_draw gd (hr.mono (by first | decide | omega)) (by rfl) g_l_draw F_l_draw.kp b_l_draw (pm_go (pv 0) (pm_ge (pm_callB cr_lenW (by rfl) m_len (by decide +kernel) (pm_qcons ((pm_var (pv 6))).q pm_qnil)) pm_gno)))).q (fun _ _ => rfl)) (pm_acons (pm_var (pv 5)) (pm_acons (pm_callTy cr_tupW (by rfl) m_tuple (by decide +kernel) (pm_qcons (pm_own (pv 10)) pm_qnil)) pm_anil))))))))))))

theorem ok_l_trip {f : Addr} {fd : FuncData} (sm : ∃ o, base.get? sysModules = some o) (F : Fun K "_law_trip" "_law_trip" s_l_trip f fd) (m_min : mg "min" = none) (m_sorted : mg "sorted" = none) (m_tuple : mg "tuple" = none) {f_l_draw : Addr} {fd_l_draw : FuncData} (G_l_draw : Cn.FnG P w K mg base 1 f_l_draw fd_l_draw ["_law_deck_here", "_law_limit"] (spOf mDraw)) (g_l_draw : mg "_law_draw" = some (.ref f_l_draw)) (F_l_draw : Fun K "_law_draw" "_law_draw" s_l_draw f_l_draw fd_l_draw) (b_l_draw : Binds K fd_l_draw ["_law_deck_here", "_law_limit"] []) : Cn.FnG P w K mg base 2 f fd ["_law_deck_here", "_law_garden_here", "_law_wants"] (spOf M_l_trip) :=
  fn_of F sc_l_trip (by decide) fun cdv A outer s H E gd hr =>
    (pm_seq (pm_parT (K := K) (is := [4, 5]) (pm_vcons ((pm_lst pm_anil)).vl (pm_vcons ((pm_ix (ixr_W (K := K) rfl) ((pm_var (pv 1))).q (pm_int).q (fun _ _ => rfl))).vd pm_vnil)) (pg_tup rfl (pgs_cons (pg_name (i := 4) sc_l_trip.nd rfl (.inl rfl)) (pgs_cons (pg_name (i := 5) sc_l_trip.nd rfl (.inr rfl)) pgs_nil))) (by decide))
    (pm_seq (pm_for (K := K) rfl PassesOwn.never rfl ((pm_sd (pe_callB (call_sortedDI rfl) (by rfl) m_sorted (by decide +kernel) (pa_cons (pv 2) pa_nil)))).lk (pg_name (i := 3) sc_l_trip.nd rfl (.inl rfl)) gb_name
      (pm_one1 (pm_if (PW.pt (pm_wand (pm_tcmp (op_gtW ⟨gd, hr.units, rfl, sm⟩) ((pm_dg (k := .Constant .none 0 ⟨0, 0, 0, 0⟩) (pe_dget (hu_of hr) (pv 2) (pm_var (pv 3)) (fun _ _ => rfl)))).q (pm_int).q (by rfl)) (pm_wand (pm_tcmp (op_gtW ⟨gd, hr.units, rfl, sm⟩) ((pm_var (pv 5))).q (pm_int).q (by rfl)) (pm_wand1 (pm_tcmp (op_eqW ⟨gd, hr.units, rfl, sm⟩) ((pm_call G_l_draw gd (hr.mono (by first | decide | omega)) (by rfl) g_l_draw F_l_draw.kp b_l_draw (pm_go (pv 0) (pm_ge pm_int pm_gno)))).q (pm_int).q (by rfl)))))) (pm_seq (pm_asg (i := 7) sc_l_trip.nd rfl (.inl rfl) ((pm_op op_addW (pm_int).q ((pm_call G_l_draw gd (hr.mono (by first | decide | omega)) (by rfl) g_l_draw F_l_draw.kp b_l_draw (pm_go (pv 0) (pm_ge (pm_callB (cr_minW ⟨gd, hr.units, rfl, sm⟩) (by rfl) m_min (by decide +kernel) (pm_qcons ((pm_var (pv 5))).q (pm_qcons ((pm_dg (k := .Constant .none 0 ⟨0, 0, 0, 0⟩) (pe_dget (hu_of hr) (pv 2) (pm_var (pv 3)) (fun _ _ => rfl)))).q pm_qnil))) pm_gno)))).q)).vd)
    (pm_seq (pm_asg (i := 7) sc_l_trip.nd rfl (.inl rfl) ((pm_ix (ixr_W (K := K) rfl) ((pm_lst (pm_acons (pm_var (pv 7)) (pm_acons (pm_callB (cr_minW ⟨gd, hr.units, rfl, sm⟩) (by rfl) m_min (by decide +kernel) (pm_qcons ((pm_var (pv 5))).q (pm_qcons ((pm_dg (k := .Constant .none 0 ⟨0, 0, 0, 0⟩) (pe_dget (hu_of hr) (pv 2) (pm_var (pv 3)) (fun _ _ => rfl)))).q pm_qnil))) pm_anil)))).lq ((pm_call G_l_draw gd (hr.mono (by first | decide | omega)) (by rfl) g_l_draw F_l_draw.kp b_l_draw (pm_go (pv 0) (pm_ge pm_int pm_gno)))).q (fun _ _ => rfl))).vd)
    (pm_seq (pm_app (K := K) (pe_bm PySem.F.plainAttrs_list PySem.F.slot_list_append PySem.F.type_list_append mt_append (pv 4) (pa_cons (pm_tup (pm_acons (pm_var (pv 3)) (pm_acons (pm_var (pv 7)) pm_anil))) pa_nil)))
    (pm_one1 (pm_asg (i := 5) sc_l_trip.nd rfl (.inr rfl) ((pm_op op_subW ((pm_var (pv 5))).q ((pm_var (pv 7))).q)).vd))))) pm_skip)))
    (pm_seq (pm_if (pm_tcmp (op_eqW ⟨gd, hr.units, rfl, sm⟩) (pm_own (pv 4)) ((pm_lst pm_anil)).lq (by rfl)) (pm_seq (pm_asg (i := 6) sc_l_trip.nd rfl (.inl rfl) ((pm_sl (((pe_lc (own := [("_law_place", 3)]) (g := (gName 3)) rfl sc_l_trip.nd (pi_sq (K := K) rfl ((pm_sd (pe_callB (call_sortedDI rfl) (by rfl) m_sorted (by decide +kernel) (pa_cons (pv 2) pa_nil)))).lq) (blkOk_by (N := N_l_trip) (sc := defScope s_l_trip) (by decide +kernel)) (fun _ _ _ _ _ => (pg_name (i := 3) sc_l_trip.nd rfl (.inl rfl))) (fun _ _ _ _ _ => (pts_one (pm_tcmp (op_gtW ⟨gd, hr.units, rfl, sm⟩) ((pm_dg (k := .Constant .none 0 ⟨0, 0, 0, 0⟩) (pe_dget (hu_of hr) (pv 2) (pm_var (pv 3)) (fun _ _ => rfl)))).q (pm_int).q (by rfl)))) (fun _ _ _ _ _ => (pm_var (pv 3)))).weak fun _ _ _ h => lc_of gb_name (by decide) h)).lq pm_pno (pm_pt pm_int))).vd)
    (pm_one1 (pm_setO ((ps_setLc (i := 4) (own := [("_law_place", 3)]) (g := (gName 3)) rfl sc_l_trip.nd rfl rfl (sw_true rfl rfl rfl (by decide +kernel)) (pi_sq (K := K) rfl ((pm_var (pv 6))).q) (blkOk_by (N := N_l_trip) (sc := defScope s_l_trip) (by decide +kernel)) (fun _ _ _ _ _ => (pg_name (i := 3) sc_l_trip.nd rfl (.inl rfl))) (fun _ _ _ _ _ => pm_yes) (fun _ _ _ _ _ => (pm_tup (pm_acons (pm_var (pv 3)) (pm_acons (pm_op op_addW (pm_int).q ((pm_call G_l_draw gd (hr.mono (by first | decide | omega)) (by rfl) g_l_draw F_l_draw.kp b_l_draw (pm_go (pv 0) (pm_ge (pm_callB (cr_minW ⟨gd, hr.units, rfl, sm⟩) (by rfl) m_min (by decide +kernel) (pm_qcons ((pm_var (pv 5))).q (pm_qcons ((pm_dg (k := .Constant .none 0 ⟨0, 0, 0, 0⟩) (pe_dget (hu_of hr) (pv 2) (pm_var (pv 3)) (fun _ _ => rfl)))).q pm_qnil))) pm_gno)))).q) pm_anil))))).weak fun _ _ _ h => lc_of gb_name (by decide) h)))) pm_skip)
    (pm_one1 (pm_ret (pm_callTy cr_tupW (by rfl) m_tuple (by decide +kernel) (pm_qcons (pm_own (pv 4)) pm_qnil)))))))

theorem ok_l_odd {f : Addr} {fd : FuncData} (sm : ∃ o, base.get? sysModules = some o) (F : Fun K "_law_odd" "_law_odd" s_l_odd f fd) {f_l_draw : Addr} {fd_l_draw : FuncData} (G_l_draw : Cn.FnG P w K mg base 1 f_l_draw fd_l_draw ["_law_deck_here", "_law_limit"] (spOf mDraw)) (g_l_draw : mg "_law_draw" = some (.ref f_l_draw)) (F_l_draw : Fun K "_law_draw" "_law_draw" s_l_draw f_l_draw fd_l_draw) (b_l_draw : Binds K fd_l_draw ["_law_deck_here", "_law_limit"] []) : Cn.FnG P w K mg base 2 f fd ["_law_deck_here"] (spOf M_l_odd) :=
  fn_of F sc_l_odd (by decide) fun cdv A outer s H E gd hr =>
    (pm_seq (pm_asg (i := 1) sc_l_odd.nd rfl (.inl rfl) (((pm_lst (pm_acons pm_non (pm_acons pm_bl (pm_acons pm_bl (pm_acons (pm_neg pm_int) (pm_acons pm_int (pm_acons pm_int (pm_acons (pm_op op_powW (pm_int).q (pm_int).q) (pm_acons (pm_op op_addW ((pm_op op_powW (pm_int).q (pm_int).q)).q (pm_int).q) (pm_acons (pm_op op_powW (pm_int).q (pm_int).q) (pm_acons pm_str (pm_acons pm_str (pm_acons (pm_tup pm_anil) (pm_acons ((pm_lst pm_anil)).lk (pm_acons pm_dd0 (pm_acons (pm_tup (pm_acons pm_int pm_anil)) (pm_acons ((pm_lst (pm_acons pm_int pm_anil))).lk (pm_acons (pm_tup (pm_acons pm_bl pm_anil)) pm_anil))))))))))))))))))).lk).vd)
    (pm_one1 (pm_ret (pm_ix (ixr_W (K := K) rfl) ((pm_op op_addW ((pm_var (pv 1))).q ((pm_lst (pm_acons (pm_tup (pm_acons pm_int (pm_acons pm_int pm_anil))) (pm_acons (pm_tup (pm_acons (pm_tup (pm_acons pm_int (pm_acons pm_int pm_anil))) pm_anil)) (pm_acons (pm_tup (pm_acons pm_int (pm_acons pm_int (pm_acons (pm_tup pm_anil) pm_anil)))) (pm_acons (pm_tup (pm_acons (pm_tup (pm_acons (pm_tup (pm_acons pm_int (pm_acons pm_int pm_anil))) pm_anil)) (pm_acons pm_int pm_anil))) (pm_acons (pm_tup (pm_acons (pm_tup pm_anil) pm_anil)) (pm_acons (pm_dd1' (pe_disp (pps_cons pe_str pe_int pps_nil) rfl rfl (by decide) (by decide))) (pm_acons (pm_neg (pm_op op_powW (pm_int).q (pm_int).q)) pm_anil))))))))).lq)).q ((pm_call G_l_draw gd (hr.mono (by first | decide | omega)) (by rfl) g_l_draw F_l_draw.kp b_l_draw (pm_go (pv 0) (pm_ge pm_int pm_gno)))).q (fun _ _ => rfl)))))

theorem ok_l_is_trip {f : Addr} {fd : FuncData} (sm : ∃ o, base.get? sysModules = some o) (F : Fun K "_law_is_trip" "_law_is_trip" s_l_is_trip f fd) (m_isinstance : mg "isinstance" = none) (m_len : mg "len" = none) (m_tuple : mg "tuple" = none) {f_l_is_number : Addr} {fd_l_is_number : FuncData} (G_l_is_number : Cn.FnG P w K mg base 1 f_l_is_number fd_l_is_number ["_law_value", "_law_low", "_law_high"] (spOf M_l_is_number)) (g_l_is_number : mg "_law_is_number" = some (.ref f_l_is_number)) (F_l_is_number : Fun K "_law_is_number" "_law_is_number" s_l_is_number f_l_is_number fd_l_is_number) (b_l_is_number : Binds K fd_l_is_number ["_law_value", "_law_low", "_law_high"] []) : Cn.FnG P w K mg base 2 f fd ["_law_garden_here", "_law_value"] (spOf M_l_is_trip) :=
  fn_of F sc_l_is_trip (by decide) fun cdv A outer s H E gd hr =>
    (pm_seq (pm_unp (pm_var (pv 0)) (pg_tup rfl (pgs_cons (pg_name (i := 3) sc_l_is_trip.nd rfl (.inl rfl)) (pgs_cons (pg_name (i := 4) sc_l_is_trip.nd rfl (.inl rfl)) (pgs_cons (pg_name (i := 5) sc_l_is_trip.nd rfl (.inl rfl)) pgs_nil)))) (gb_tup (gb_cons gb_name (gb_cons gb_name (gb_cons gb_name gb_nil)))))
    (pm_seq (pm_if (PW.pt (pm_wor (pm_tnot (pm_tval (pm_isi kit_tuple (by rfl) m_isinstance (pm_var (pv 1)) (pe_bltn (v := .ty "tuple") (by rfl) m_tuple (by decide +kernel) rfl)))) (pm_wor1 (pm_tcmp (op_eqW ⟨gd, hr.units, rfl, sm⟩) ((pm_var (pv 1))).q ((pm_tup pm_anil)).q (by rfl))))) (pm_one1 (pm_ret pm_bl)) pm_skip)
    (pm_seq (pm_par3 (ps_par3 (i := 6) (j := 7) (l := 8) rfl sc_l_is_trip.nd rfl rfl rfl (by decide) (by decide) (by decide) rfl rfl rfl (pm_vcons ((((pe_lc (own := [("_law_place", 9), ("_law_litres", 10)]) (g := (gTup K 2 (gCons (gName 9) (gCons (gName 10) gNil)))) rfl sc_l_is_trip.nd (pi_sq (K := K) rfl ((pm_var (pv 5))).q) (blkOk_by (N := N_l_is_trip) (sc := defScope s_l_is_trip) (by decide +kernel)) (fun _ _ _ _ _ => (pg_tup rfl (pgs_cons (pg_name (i := 9) sc_l_is_trip.nd rfl (.inl rfl)) (pgs_cons (pg_name (i := 10) sc_l_is_trip.nd rfl (.inl rfl)) pgs_nil)))) (fun _ _ _ _ _ => pm_yes) (fun _ _ _ _ _ => (pm_var (pv 9)))).weak fun _ _ _ h => lc_of (gb_tup (gb_cons gb_name (gb_cons gb_name gb_nil))) (by decide) h)).lk).vd (pm_vcons ((pm_op op_subW ((pm_neg (pm_op op_powW (pm_int).q (pm_int).q))).q (pm_int).q)).vd (pm_vcons (pm_int).vd pm_vnil))) (by rfl)))
    (pm_seq (pm_for (K := K) rfl PassesOwn.never rfl (pm_var (pv 1)) (pg_name (i := 2) sc_l_is_trip.nd rfl (.inl rfl)) gb_name
      (pm_seq (pm_if (PW.pt (pm_wor (pm_tnot (pm_tval (pm_isi kit_tuple (by rfl) m_isinstance (pm_var (pv 2)) (pe_bltn (v := .ty "tuple") (by rfl) m_tuple (by decide +kernel) rfl)))) (pm_wor (pm_tcmp (op_neW ⟨gd, hr.units, rfl, sm⟩) ((pm_callB cr_lenW (by rfl) m_len (by decide +kernel) (pm_qcons ((pm_var (pv 2))).q pm_qnil))).q (pm_int).q (by rfl)) (pm_wor1 (pm_tnot (pm_tval (pm_call G_l_is_number gd (hr.mono (by first | decide | omega)) (by rfl) g_l_is_number F_l_is_number.kp b_l_is_number (pm_ge (pm_ix (ixr_W (K := K) rfl) ((pm_var (pv 2))).q (pm_int).q (fun _ _ => rfl)) (pm_ge (pm_neg (pm_op op_powW (pm_int).q (pm_int).q)) (pm_ge (pm_op op_powW (pm_int).q (pm_int).q) pm_gno)))))))))) (pm_one1 (pm_ret pm_bl)) pm_skip)
    (pm_seq (pm_if (PW.pt (pm_wor (pm_tcmp (op_ninW ⟨gd, hr.units, rfl, sm⟩) ((pm_ix (ixr_W (K := K) rfl) ((pm_var (pv 2))).q (pm_int).q (fun _ _ => rfl))).q ((pm_var (pv 6))).q (by rfl)) (pm_wor (pm_tcmp (op_leW ⟨gd, hr.units, rfl, sm⟩) ((pm_ix (ixr_W (K := K) rfl) ((pm_var (pv 2))).q (pm_int).q (fun _ _ => rfl))).q ((pm_var (pv 7))).q (by rfl)) (pm_wor1 (pm_tnot (pm_tval (pm_call G_l_is_number gd (hr.mono (by first | decide | omega)) (by rfl) g_l_is_number F_l_is_number.kp b_l_is_number (pm_ge (pm_ix (ixr_W (K := K) rfl) ((pm_var (pv 2))).q (pm_int).q (fun _ _ => rfl)) (pm_ge pm_int (pm_ge (pm_var (pv 4)) pm_gno)))))))))) (pm_one1 (pm_ret pm_bl)) pm_skip)
    (pm_one1 (pm_par2 (i := 7) (j := 8) rfl sc_l_is_trip.nd rfl rfl (by decide) rfl rfl (pm_vcons ((pm_ix (ixr_W (K := K) rfl) ((pm_var (pv 2))).q (pm_int).q (fun _ _ => rfl))).vd (pm_vcons ((pm_op op_addW ((pm_var (pv 8))).q ((pm_ix (ixr_W (K := K) rfl) ((pm_var (pv 2))).q (pm_int).q (fun _ _ => rfl))).q)).vd pm_vnil)) (by rfl))))))
    (pm_one1 (pm_ret (pm_cmp (op_leW ⟨gd, hr.units, rfl, sm⟩) ((pm_var (pv 8))).q ((pm_var (pv 4))).q (by rfl))))))))

theorem ok_l_part {f_l_part : Addr} {fd_l_part : FuncData} (sm : ∃ o, base.get? sysModules = some o) (F_l_part : Fun K "_law_part" "_law_part" s_l_part f_l_part fd_l_part) (m_int : mg "int" = none) (m_isinstance : mg "isinstance" = none) (m_len : mg "len" = none) (m_list : mg "list" = none) (m_str : mg "str" = none) (m_tuple : mg "tuple" = none) {f_l_draw : Addr} {fd_l_draw : FuncData} (G_l_draw : Cn.FnG P w K mg base 1 f_l_draw fd_l_draw ["_law_deck_here", "_law_limit"] (spOf mDraw)) (g_l_draw : mg "_law_draw" = some (.ref f_l_draw)) (F_l_draw : Fun K "_law_draw" "_law_draw" s_l_draw f_l_draw fd_l_draw) (b_l_draw : Binds K fd_l_draw ["_law_deck_here", "_law_limit"] []) {f_l_odd : Addr} {fd_l_odd : FuncData} (G_l_odd : Cn.FnG P w K mg base 2 f_l_odd fd_l_odd ["_law_deck_here"] (spOf M_l_odd)) (g_l_odd : mg "_law_odd" = some (.ref f_l_odd)) (F_l_odd : Fun K "_law_odd" "_law_odd" s_l_odd f_l_odd fd_l_odd) (b_l_odd : Binds K fd_l_odd ["_law_deck_here"] []) (g_l_part : mg "_law_part" = some (.ref f_l_part)) (b_l_part : Binds K fd_l_part ["_law_deck_here", "_law_thing", "_law_depth"] []) : ∀ n : Nat, Cn.FnG P w K mg base (3 + n) f_l_part fd_l_part ["_law_deck_here", "_law_thing", "_law_depth"] (spOf (M_l_part n))
  | 0 => ⟨fun vs H Q E h => by obtain ⟨_, _, _, _, _, _, z, _⟩ := h; exact z.elim, fun A out s H args us vs Q E _ _ _ _ _ h => by obtain ⟨_, _, _, _, _, _, z, _⟩ := h; exact z.elim⟩
  | n + 1 => by
    have G_l_part := ok_l_part sm F_l_part m_int m_isinstance m_len m_list m_str m_tuple G_l_draw g_l_draw F_l_draw b_l_draw G_l_odd g_l_odd F_l_odd b_l_odd g_l_part b_l_part n
    exact fn_of (k := 3 + n) F_l_part sc_l_part (by decide) fun cdv A outer s H E gd hr =>
    (pm_seq (pm_if (PW.pt (pm_wand (pm_tcmp (op_gtW ⟨gd, hr.units, rfl, sm⟩) ((pm_var (pv 2))).q (pm_int).q (by rfl)) (pm_wand (pm_tval (pm_isi kit_tuple (by rfl) m_isinstance (pm_var (pv 1)) (pe_bltn (v := .ty "tuple") (by rfl) m_tuple (by decide +kernel) rfl))) (pm_wand (pm_tcmp (op_neW ⟨gd, hr.units, rfl, sm⟩) ((pm_var (pv 1))).q ((pm_tup pm_anil)).q (by rfl)) (pm_wand1 (pm_tcmp (op_gtW ⟨gd, hr.units, rfl, sm⟩) ((pm_call G_l_draw gd (hr.mono (by first | decide | omega)) (by rfl) g_l_draw F_l_draw.kp b_l_draw (pm_go (pv 0) (pm_ge pm_int pm_gno)))).q (pm_int).q (by rfl))))))) (pm_seq (pm_asg (i := 4) sc_l_part.nd rfl (.inl rfl) ((pm_call G_l_draw gd (hr.mono (by first | decide | omega)) (by rfl) g_l_draw F_l_draw.kp b_l_draw (pm_go (pv 0) (pm_ge (pm_callB cr_lenW (by rfl) m_len (by decide +kernel) (pm_qcons ((pm_var (pv 1))).q pm_qnil)) pm_gno)))).vd)
    (pm_one1 (pm_ret (pm_op op_addW ((pm_op op_addW ((pm_sl ((pm_var (pv 1))).q pm_pno (pm_pt (pm_var (pv 4))))).q ((pm_tup (pm_acons (pm_call G_l_part gd (hr.mono (by first | decide | omega)) (by rfl) g_l_part F_l_part.kp b_l_part (pm_go (pv 0) (pm_ge (pm_ix (ixr_W (K := K) rfl) ((pm_var (pv 1))).q ((pm_var (pv 4))).q (fun _ _ => rfl)) (pm_ge (pm_op op_subW ((pm_var (pv 2))).q (pm_int).q) pm_gno)))) pm_anil))).q)).q ((pm_sl ((pm_var (pv 1))).q (pm_pt (pm_op op_addW ((pm_var (pv 4))).q (pm_int).q)) pm_pno)).q)))) pm_skip)
    (pm_seq (pm_asg (i := 3) sc_l_part.nd rfl (.inl rfl) ((pm_call G_l_draw gd (hr.mono (by first | decide | omega)) (by rfl) g_l_draw F_l_draw.kp b_l_draw (pm_go (pv 0) (pm_ge pm_int pm_gno)))).vd)
    (pm_seq (pm_if (PW.pt (pm_wand (pm_tval (pm_isi kit_int (by rfl) m_isinstance (pm_var (pv 1)) (pe_bltn (v := .ty "int") (by rfl) m_int (by decide +kernel) rfl))) (pm_wand1 (pm_tcmp (op_ltW ⟨gd, hr.units, rfl, sm⟩) ((pm_var (pv 3))).q (pm_int).q (by rfl))))) (pm_one1 (pm_ret (pm_ix (ixr_W (K := K) rfl) ((pm_lst (pm_acons (pm_op op_addW ((pm_var (pv 1))).q (pm_int).q) (pm_acons (pm_op op_subW ((pm_var (pv 1))).q (pm_int).q) (pm_acons (pm_op op_subW (pm_int).q ((pm_var (pv 1))).q) (pm_acons (pm_cmp (op_eqW ⟨gd, hr.units, rfl, sm⟩) ((pm_var (pv 1))).q (pm_int).q (by rfl)) (pm_acons (pm_callTy cr_strW (by rfl) m_str (by decide +kernel) (pm_qcons ((pm_var (pv 1))).q pm_qnil)) (pm_acons (pm_tup (pm_acons (pm_var (pv 1)) pm_anil)) (pm_acons pm_int pm_anil))))))))).lq ((pm_var (pv 3))).q (fun _ _ => rfl)))) pm_skip)
    (pm_seq (pm_if (PW.pt (pm_wand (pm_tval (pm_isi kit_tuple (by rfl) m_isinstance (pm_var (pv 1)) (pe_bltn (v := .ty "tuple") (by rfl) m_tuple (by decide +kernel) rfl))) (pm_wand1 (pm_tcmp (op_ltW ⟨gd, hr.units, rfl, sm⟩) ((pm_var (pv 3))).q (pm_int).q (by rfl))))) (pm_one1 (pm_ret (pm_ix (ixr_W (K := K) rfl) ((pm_lst (pm_acons (pm_sl ((pm_var (pv 1))).q (pm_pt pm_int) pm_pno) (pm_acons (pm_sl ((pm_var (pv 1))).q pm_pno (pm_pt (pm_neg pm_int))) (pm_acons (pm_op op_addW ((pm_var (pv 1))).q ((pm_sl ((pm_var (pv 1))).q (pm_pt (pm_neg pm_int)) pm_pno)).q) (pm_acons (pm_rev ((pm_var (pv 1))).q) (pm_acons ((pm_callTyL cr_lstW (by rfl) m_list (by decide +kernel) (pm_qcons ((pm_var (pv 1))).q pm_qnil))).lk (pm_acons (pm_op op_addW ((pm_var (pv 1))).q ((pm_tup (pm_acons pm_int pm_anil))).q) (pm_acons (pm_tup pm_anil) pm_anil))))))))).lq ((pm_var (pv 3))).q (fun _ _ => rfl)))) pm_skip)
    (pm_one1 (pm_ret (pm_call G_l_odd gd (hr.mono (by first | decide | omega)) (by rfl) g_l_odd F_l_odd.kp b_l_odd (pm_go (pv 0) pm_gno))))))))

theorem ok_l_values {f : Addr} {fd : FuncData} (sm : ∃ o, base.get? sysModules = some o) (F : Fun K "_law_values" "_law_values" s_l_values f fd) (m_range : mg "range" = none) (m_sorted : mg "sorted" = none) (m_sum : mg "sum" = none) (m_tuple : mg "tuple" = none) {f_l_odd : Addr} {fd_l_odd : FuncData} (G_l_odd : Cn.FnG P w K mg base 2 f_l_odd fd_l_odd ["_law_deck_here"] (spOf M_l_odd)) (g_l_odd : mg "_law_odd" = some (.ref f_l_odd)) (F_l_odd : Fun K "_law_odd" "_law_odd" s_l_odd f_l_odd fd_l_odd) (b_l_odd : Binds K fd_l_odd ["_law_deck_here"] []) {f_l_part : Addr} {fd_l_part : FuncData} (G_l_part : Cn.FnG P w K mg base 6 f_l_part fd_l_part ["_law_deck_here", "_law_thing", "_law_depth"] (spOf (M_l_part 3))) (g_l_part : mg "_law_part" = some (.ref f_l_part)) (F_l_part : Fun K "_law_part" "_law_part" s_l_part f_l_part fd_l_part) (b_l_part : Binds K fd_l_part ["_law_deck_here", "_law_thing", "_law_depth"] []) {f_l_trip : Addr} {fd_l_trip : FuncData} (G_l_trip : Cn.FnG P w K mg base 2 f_l_trip fd_l_trip ["_law_deck_here", "_law_garden_here", "_law_wants"] (spOf M_l_trip)) (g_l_trip : mg "_law_trip" = some (.ref f_l_trip)) (F_l_trip : Fun K "_law_trip" "_law_trip" s_l_trip f_l_trip fd_l_trip) (b_l_trip : Binds K fd_l_trip ["_law_deck_here", "_law_garden_here", "_law_wants"] []) : Cn.FnG P w K mg base 7 f fd ["_law_deck_here", "_law_garden_here"] (spOf M_l_values) :=
  fn_of F sc_l_values (by decide) fun cdv A outer s H E gd hr =>
    (pm_seq (pm_unp (pm_var (pv 1)) (pg_tup rfl (pgs_cons (pg_name (i := 5) sc_l_values.nd rfl (.inl rfl)) (pgs_cons (pg_name (i := 6) sc_l_values.nd rfl (.inl rfl)) (pgs_cons (pg_name (i := 7) sc_l_values.nd rfl (.inl rfl)) pgs_nil)))) (gb_tup (gb_cons gb_name (gb_cons gb_name (gb_cons gb_name gb_nil)))))
    (pm_seq (pm_par2 (i := 8) (j := 9) rfl sc_l_values.nd rfl rfl (by decide) rfl rfl (pm_vcons pm_d0 (pm_vcons ((pm_lst (pm_acons (pm_tup pm_anil) (pm_acons pm_non (pm_acons (pm_tup (pm_acons (pm_tup (pm_acons (pm_var (pv 5)) (pm_acons pm_int pm_anil))) pm_anil)) (pm_acons (pm_tup (pm_acons (pm_tup (pm_acons (pm_op op_addW ((pm_var (pv 5))).q (pm_int).q) (pm_acons pm_int pm_anil))) pm_anil)) (pm_acons (pm_callTy cr_tupW (by rfl) m_tuple (by decide +kernel) (pm_qcons ((pm_var (pv 7))).q pm_qnil)) (pm_acons (pm_callTy cr_tupW (by rfl) m_tuple (by decide +kernel) (pm_qcons ((pm_rev ((pm_var (pv 7))).q)).q pm_qnil)) (pm_acons (pm_call G_l_odd gd (hr.mono (by first | decide | omega)) (by rfl) g_l_odd F_l_odd.kp b_l_odd (pm_go (pv 0) pm_gno)) pm_anil))))))))).vl pm_vnil)) (by rfl))
    (pm_seq (pm_for (K := K) rfl PassesOwn.never rfl (pm_var (pv 7)) (pg_tup rfl (pgs_cons (pg_name (i := 10) sc_l_values.nd rfl (.inl rfl)) (pgs_cons (pg_name (i := 11) sc_l_values.nd rfl (.inl rfl)) pgs_nil))) (gb_tup (gb_cons gb_name (gb_cons gb_name gb_nil)))
      (pm_seq (pm_put (ps_dput (hu_of hr) (pv 8) (pm_var (pv 10)) (pm_op op_addW ((pm_var (pv 11))).q (pm_int).q) rfl))
    (pm_seq (pm_asg (i := 9) sc_l_values.nd rfl (.inl rfl) ((pm_cat (pm_own (pv 9)) ((pm_lst (pm_acons (pm_tup (pm_acons (pm_tup (pm_acons (pm_var (pv 10)) (pm_acons (pm_var (pv 6)) pm_anil))) pm_anil)) (pm_acons (pm_tup (pm_acons (pm_tup (pm_acons (pm_var (pv 10)) (pm_acons (pm_op op_addW ((pm_var (pv 6))).q (pm_int).q) pm_anil))) pm_anil)) (pm_acons (pm_tup (pm_acons (pm_tup (pm_acons (pm_var (pv 10)) (pm_acons (pm_var (pv 11)) pm_anil))) pm_anil)) (pm_acons (pm_tup (pm_acons (pm_tup (pm_acons (pm_var (pv 10)) (pm_acons pm_bl pm_anil))) pm_anil)) (pm_acons (pm_tup (pm_acons (pm_tup (pm_acons (pm_var (pv 10)) (pm_acons pm_int pm_anil))) pm_anil)) pm_anil))))))).lq)).vl)
    (pm_seq (pm_app (K := K) (pe_bm PySem.F.plainAttrs_list PySem.F.slot_list_append PySem.F.type_list_append mt_append (pv 9) (pa_cons (pm_tup (pm_acons (pm_var (pv 10)) (pm_acons pm_int pm_anil))) pa_nil)))
    (pm_one1 (pm_asg (i := 9) sc_l_values.nd rfl (.inl rfl) ((pm_cat (pm_own (pv 9)) ((pm_lst (pm_acons (pm_tup (pm_acons (pm_tup (pm_acons (pm_var (pv 10)) (pm_acons pm_int pm_anil))) (pm_acons (pm_tup (pm_acons (pm_var (pv 10)) (pm_acons pm_int pm_anil))) pm_anil))) (pm_acons (pm_tup (pm_acons (pm_tup (pm_acons (pm_var (pv 10)) (pm_acons pm_int pm_anil))) (pm_acons (pm_tup (pm_acons (pm_op op_addW ((pm_var (pv 10))).q (pm_int).q) (pm_acons pm_int pm_anil))) pm_anil))) (pm_acons ((pm_lst (pm_acons (pm_tup (pm_acons (pm_var (pv 10)) (pm_acons pm_int pm_anil))) pm_anil))).lk (pm_acons (pm_tup (pm_acons (pm_tup (pm_acons (pm_var (pv 10)) (pm_acons (pm_neg pm_int) pm_anil))) pm_anil)) pm_anil)))))).lq)).vl))))))
    (pm_seq (pm_asg (i := 2) sc_l_values.nd rfl (.inr rfl) ((pm_call G_l_trip gd (hr.mono (by first | decide | omega)) (by rfl) g_l_trip F_l_trip.kp b_l_trip (pm_go (pv 0) (pm_ge (pm_var (pv 1)) (pm_go (pv 8) pm_gno))))).vd)
    (pm_seq (pm_forR PassesOwn.never rfl (by rfl) m_range (pm_acons pm_int pm_anil) (pg_name (i := 3) sc_l_values.nd rfl (.inl rfl)) gb_name
      (pm_seq (pm_asg (i := 12) sc_l_values.nd rfl (.inl rfl) ((pm_call G_l_trip gd (hr.mono (by first | decide | omega)) (by rfl) g_l_trip F_l_trip.kp b_l_trip (pm_go (pv 0) (pm_ge (pm_var (pv 1)) (pm_go (pv 8) pm_gno))))).vd)
    (pm_seq (pm_asg (i := 13) sc_l_values.nd rfl (.inl rfl) ((pm_call G_l_part gd (hr.mono (by first | decide | omega)) (by rfl) g_l_part F_l_part.kp b_l_part (pm_go (pv 0) (pm_ge (pm_var (pv 12)) (pm_ge pm_int pm_gno))))).vd)
    (pm_one1 (pm_asg (i := 9) sc_l_values.nd rfl (.inl rfl) ((pm_cat (pm_own (pv 9)) ((pm_lst (pm_acons (pm_var (pv 12)) (pm_acons (pm_var (pv 2)) (pm_acons (pm_op op_addW ((pm_var (pv 12))).q ((pm_var (pv 2))).q) (pm_acons (pm_callTy cr_tupW (by rfl) m_tuple (by decide +kernel) (pm_qcons ((pm_callBL (cr_sortW ⟨gd, hr.units, rfl, sm⟩) (by rfl) m_sorted (by decide +kernel) (pm_qcons ((pm_op op_addW ((pm_var (pv 12))).q ((pm_var (pv 2))).q)).q pm_qnil))).lq pm_qnil)) (pm_acons (pm_var (pv 13)) (pm_acons (pm_call G_l_part gd (hr.mono (by first | decide | omega)) (by rfl) g_l_part F_l_part.kp b_l_part (pm_go (pv 0) (pm_ge (pm_var (pv 13)) (pm_ge pm_int pm_gno)))) pm_anil)))))))).lq)).vl)))))
    (pm_seq (pm_asg (i := 4) sc_l_values.nd rfl (.inl rfl) ((pm_op op_subW ((pm_var (pv 6))).q ((pm_callB (cr_sumW ⟨gd, hr.units, rfl, sm⟩) (by rfl) m_sum (by decide +kernel) (pm_qcons (((pe_lc (own := [("_law_place", 10), ("_law_litres", 11)]) (g := (gTup K 2 (gCons (gName 10) (gCons (gName 11) gNil)))) rfl sc_l_values.nd (pi_sq (K := K) rfl ((pm_var (pv 2))).q) (blkOk_by (N := N_l_values) (sc := defScope s_l_values) (by decide +kernel)) (fun _ _ _ _ _ => (pg_tup rfl (pgs_cons (pg_name (i := 10) sc_l_values.nd rfl (.inl rfl)) (pgs_cons (pg_name (i := 11) sc_l_values.nd rfl (.inl rfl)) pgs_nil)))) (fun _ _ _ _ _ => pm_yes) (fun _ _ _ _ _ => (pm_var (pv 11)))).weak fun _ _ _ h => lc_of (gb_tup (gb_cons gb_name (gb_cons gb_name gb_nil))) (by decide) h)).lq pm_qnil))).q)).vd)
    (pm_seq (pm_if (pm_tcmp (op_neW ⟨gd, hr.units, rfl, sm⟩) ((pm_var (pv 2))).q ((pm_tup pm_anil)).q (by rfl)) (pm_one1 (pm_asg (i := 9) sc_l_values.nd rfl (.inl rfl) ((pm_cat (pm_own (pv 9)) (((pe_lc (own := [("_law_more", 14)]) (g := (gName 14)) rfl sc_l_values.nd (pi_sq (K := K) rfl ((pm_tup (pm_acons (pm_var (pv 4)) (pm_acons (pm_op op_addW ((pm_var (pv 4))).q (pm_int).q) pm_anil)))).q) (blkOk_by (N := N_l_values) (sc := defScope s_l_values) (by decide +kernel)) (fun _ _ _ _ _ => (pg_name (i := 14) sc_l_values.nd rfl (.inl rfl))) (fun _ _ _ _ _ => pm_yes) (fun _ _ _ _ _ => (pm_op op_addW ((pm_sl ((pm_var (pv 2))).q pm_pno (pm_pt (pm_neg pm_int)))).q ((pm_tup (pm_acons (pm_tup (pm_acons (pm_ix (ixr_W (K := K) rfl) ((pm_ix (ixr_W (K := K) rfl) ((pm_var (pv 2))).q ((pm_neg pm_int)).q (fun _ _ => rfl))).q (pm_int).q (fun _ _ => rfl)) (pm_acons (pm_op op_addW ((pm_ix (ixr_W (K := K) rfl) ((pm_ix (ixr_W (K := K) rfl) ((pm_var (pv 2))).q ((pm_neg pm_int)).q (fun _ _ => rfl))).q (pm_int).q (fun _ _ => rfl))).q ((pm_var (pv 14))).q) pm_anil))) pm_anil))).q))).weak fun _ _ _ h => lc_of gb_name (by decide) h)).lq)).vl)) pm_skip)
    (pm_one1 (pm_retO (pv 9))))))))))

theorem ok_law {f f_l_deck : Addr} {fd fd_l_deck : FuncData} (sm : ∃ o, base.get? sysModules = some o) (F : Fun K "law" "law" s_law f fd) (m_range : mg "range" = none) (m_repr : mg "repr" = none) {f_l_garden : Addr} {fd_l_garden : FuncData} (G_l_garden : Cn.FnG P w K mg base 2 f_l_garden fd_l_garden ["_law_deck_here", "_law_most", "_law_top"] (spOf M_l_garden)) (g_l_garden : mg "_law_garden" = some (.ref f_l_garden)) (F_l_garden : Fun K "_law_garden" "_law_garden" s_l_garden f_l_garden fd_l_garden) (b_l_garden : Binds K fd_l_garden ["_law_deck_here", "_law_most", "_law_top"] []) {f_l_is_trip : Addr} {fd_l_is_trip : FuncData} (G_l_is_trip : Cn.FnG P w K mg base 2 f_l_is_trip fd_l_is_trip ["_law_garden_here", "_law_value"] (spOf M_l_is_trip)) (g_l_is_trip : mg "_law_is_trip" = some (.ref f_l_is_trip)) (F_l_is_trip : Fun K "_law_is_trip" "_law_is_trip" s_l_is_trip f_l_is_trip fd_l_is_trip) (b_l_is_trip : Binds K fd_l_is_trip ["_law_garden_here", "_law_value"] []) {f_l_values : Addr} {fd_l_values : FuncData} (G_l_values : Cn.FnG P w K mg base 7 f_l_values fd_l_values ["_law_deck_here", "_law_garden_here"] (spOf M_l_values)) (g_l_values : mg "_law_values" = some (.ref f_l_values)) (F_l_values : Fun K "_law_values" "_law_values" s_l_values f_l_values fd_l_values) (b_l_values : Binds K fd_l_values ["_law_deck_here", "_law_garden_here"] []) {f_is_trip : Addr} {fd_is_trip : FuncData} (G_is_trip : Cn.FnG P w K mg base 4 f_is_trip fd_is_trip ["garden", "value"] (spOf M_is_trip)) (g_is_trip : mg "is_trip" = some (.ref f_is_trip)) (F_is_trip : Fun K "is_trip" "is_trip" s_is_trip f_is_trip fd_is_trip) (b_is_trip : Binds K fd_is_trip ["garden", "value"] []) (G_l_deck : FnOk P w K mg base CX0 1 f_l_deck fd_l_deck ["_law_script"] (Cn.spDeck K)) (g_l_deck : mg "_law_deck" = some (.ref f_l_deck)) (F_l_deck : Fun K "_law_deck" "_law_deck" s_l_deck f_l_deck fd_l_deck) (b_l_deck : Binds K fd_l_deck ["_law_script"] []) (hm : B_law (.no :: .s 1 :: List.replicate (N_law.length - 2) .no) 0 lawF) : Cn.FnG P w K mg base 8 f fd ["_law_script"] (spLaw K) := by
  refine Cn.okG F sc_law (fun vs H Q E h => ?_) (fun cdv A outer s H vs Q E gd hr h => ?_)
  · obtain ⟨a, ns, rfl, _⟩ := h
    rfl
  · obtain ⟨a, ns, rfl, hs, few, q⟩ := h
    exact ⟨_, (pss_cons (ps_set (i := 1) sc_law.nd rfl (.inl rfl) (pe_call G_l_deck (hr.mono (by first | decide | omega)) (by rfl) g_l_deck F_l_deck.kp b_l_deck .nil pass0 (pa_cons (pv 0) pa_nil)))
      (pm_seq (pm_forR PassesOwn.never rfl (by rfl) m_range (pm_acons pm_int pm_anil) (pg_name (i := 2) sc_law.nd rfl (.inl rfl)) gb_name
      (pm_seq (pm_asg (i := 5) sc_law.nd rfl (.inr rfl) ((pm_call G_l_garden gd (hr.mono (by first | decide | omega)) (by rfl) g_l_garden F_l_garden.kp b_l_garden (pm_go (pv 1) (pm_ge (pm_ix (ixr_W (K := K) rfl) ((pm_lst (pm_acons pm_int (pm_acons pm_int (pm_acons pm_int pm_anil))))).lq ((pm_op op_modW ((pm_var (pv 2))).q (pm_int).q)).q (fun _ _ => rfl)) (pm_ge (pm_ix (ixr_W (K := K) rfl) ((pm_lst (pm_acons (pm_op op_powW (pm_int).q (pm_int).q) (pm_acons pm_int pm_anil)))).lq ((pm_op op_modW ((pm_var (pv 2))).q (pm_int).q)).q (fun _ _ => rfl)) pm_gno))))).vd)
    (pm_one1 (pm_for (K := K) rfl PassesOwn.never rfl (pm_call G_l_values gd (hr.mono (by first | decide | omega)) (by rfl) g_l_values F_l_values.kp b_l_values (pm_go (pv 1) (pm_ge (pm_var (pv 5)) pm_gno))) (pg_name (i := 6) sc_law.nd rfl (.inr rfl)) gb_name
      (pm_seq (pm_par2 (i := 7) (j := 8) rfl sc_law.nd rfl rfl (by decide) rfl rfl (pm_vcons ((pm_callB (cr_reprW ⟨gd, hr.units, rfl, sm⟩) (by rfl) m_repr (by decide +kernel) (pm_qcons ((pm_lst (pm_acons (pm_var (pv 5)) (pm_acons (pm_var (pv 6)) pm_anil)))).lq pm_qnil))).vd (pm_vcons ((pm_callB (cr_reprW ⟨gd, hr.units, rfl, sm⟩) (by rfl) m_repr (by decide +kernel) (pm_qcons ((pm_call G_l_is_trip gd (hr.mono (by first | decide | omega)) (by rfl) g_l_is_trip F_l_is_trip.kp b_l_is_trip (pm_ge (pm_var (pv 5)) (pm_ge (pm_var (pv 6)) pm_gno)))).q pm_qnil))).vd pm_vnil)) (by rfl))
    (pm_seq (pm_if (pm_tcmp (op_neW ⟨gd, hr.units, rfl, sm⟩) (((pe_lc (own := [("_law_again", 9)]) (g := (gName 9)) rfl sc_law.nd (pi_range1 (by rfl) m_range (pm_acons pm_int pm_anil)) (blkOk_by (N := N_law) (sc := defScope s_law) (by decide +kernel)) (fun _ _ _ _ _ => (pg_name (i := 9) sc_law.nd rfl (.inl rfl))) (fun _ _ _ _ _ => pm_yes) (fun _ _ _ _ _ => (pm_callB (cr_reprW ⟨gd, hr.units, rfl, sm⟩) (by rfl) m_repr (by decide +kernel) (pm_qcons ((pm_call G_is_trip gd (hr.mono (by first | decide | omega)) (by rfl) g_is_trip F_is_trip.kp b_is_trip (pm_ge (pm_var (pv 5)) (pm_ge (pm_var (pv 6)) pm_gno)))).q pm_qnil)))).weak fun _ _ _ h => lcR_of gb_name (by decide) h)).lq ((pm_lst (pm_acons (pm_var (pv 8)) (pm_acons (pm_var (pv 8)) pm_anil)))).lq (by rfl)) (pm_one1 (pm_ret pm_bl)) pm_skip)
    (pm_one1 (pm_if (pm_tcmp (op_neW ⟨gd, hr.units, rfl, sm⟩) ((pm_callB (cr_reprW ⟨gd, hr.units, rfl, sm⟩) (by rfl) m_repr (by decide +kernel) (pm_qcons ((pm_lst (pm_acons (pm_var (pv 5)) (pm_acons (pm_var (pv 6)) pm_anil)))).lq pm_qnil))).q ((pm_var (pv 7))).q (by rfl)) (pm_one1 (pm_ret pm_bl)) pm_skip))))))))
    (pm_seq (pm_asg (i := 3) sc_law.nd rfl (.inr rfl) ((pm_tup (pm_acons pm_int (pm_acons pm_int (pm_acons (pm_tup (pm_acons (pm_tup (pm_acons pm_int (pm_acons pm_int pm_anil))) (pm_acons (pm_tup (pm_acons pm_int (pm_acons pm_int pm_anil))) pm_anil))) pm_anil))))).vd)
    (pm_seq (pm_asg (i := 4) sc_law.nd rfl (.inl rfl) ((pm_lst (pm_acons (pm_tup (pm_acons (pm_tup (pm_acons pm_int (pm_acons pm_int pm_anil))) (pm_acons (pm_tup (pm_acons pm_int (pm_acons pm_int pm_anil))) pm_anil))) (pm_acons (pm_tup (pm_acons (pm_tup (pm_acons pm_bl (pm_acons pm_int pm_anil))) (pm_acons (pm_tup (pm_acons pm_int (pm_acons pm_int pm_anil))) pm_anil))) (pm_acons (pm_tup (pm_acons (pm_tup (pm_acons pm_int (pm_acons pm_int pm_anil))) (pm_acons (pm_tup (pm_acons pm_int (pm_acons pm_bl pm_anil))) pm_anil))) (pm_acons (pm_tup (pm_acons (pm_tup (pm_acons pm_int (pm_acons pm_int pm_anil))) (pm_acons (pm_tup (pm_acons pm_bl (pm_acons pm_int pm_anil))) pm_anil))) (pm_acons (pm_tup (pm_acons (pm_tup (pm_acons pm_int (pm_acons pm_int pm_anil))) (pm_acons (pm_tup (pm_acons pm_int (pm_acons pm_int pm_anil))) pm_anil))) pm_anil))))))).vl)
    (pm_seq (pm_app (K := K) (pe_bm PySem.F.plainAttrs_list PySem.F.slot_list_append PySem.F.type_list_append mt_append (pv 4) (pa_cons (pm_tup (pm_acons (pm_tup (pm_acons pm_int (pm_acons pm_int pm_anil))) pm_anil)) pa_nil)))
    (pm_one1 (pm_ret (pm_cmp (op_eqW ⟨gd, hr.units, rfl, sm⟩) (((pe_lc (own := [("_law_value", 6)]) (g := (gName 6)) rfl sc_law.nd (pi_sq (K := K) rfl (pm_own (pv 4))) (blkOk_by (N := N_law) (sc := defScope s_law) (by decide +kernel)) (fun _ _ _ _ _ => (pg_name (i := 6) sc_law.nd rfl (.inl rfl))) (fun _ _ _ _ _ => pm_yes) (fun _ _ _ _ _ => (pm_call G_is_trip gd (hr.mono (by first | decide | omega)) (by rfl) g_is_trip F_is_trip.kp b_is_trip (pm_ge (pm_var (pv 3)) (pm_ge (pm_var (pv 6)) pm_gno))))).weak fun _ _ _ h => lc_of gb_name (by decide) h)).lq ((pm_lst (pm_acons pm_bl (pm_acons pm_bl (pm_acons pm_bl (pm_acons pm_bl (pm_acons pm_bl (pm_acons pm_bl pm_anil)))))))).lq (by rfl))))))))), law_run hs few (by decide) hm q⟩

end
end K2

namespace K2
open PySem PySem.Spec PyProof.Rows L2 Evl Wp
theorem bed_turn {p l c : Int} {t s1 s7 : Sl} {ws : List Bed} {found : List PyData} {b : Nat} {F : WEnds} (hp : p.natAbs ≤ 1000000) (hl : l.natAbs ≤ 1000000000) (hc : c.natAbs ≤ 1000000) (nw : p ∉ ws.map (·.1)) (hf : ∀ d ∈ found, VOk d) (fl : found.length ≤ 1000) (wl : ws.length ≤ 40)
    (q : ∀ more, more.length = 10 → (∀ d ∈ more, VOk d) → F.nx [.s 1, s1, .no, .no, .no, t, .d (.int c), s7, .m (dictD (ws ++ [(p, l + 2)])), .l (found ++ more), .d (.int p), .d (.int l), .no, .no, .no] b) :
    (mSeq S_l_values_13 (mSeq S_l_values_12 (mSeq S_l_values_11 S_l_values_10))) [.s 1, s1, .no, .no, .no, t, .d (.int c), s7, .m (dictD ws), .l found, .d (.int p), .d (.int l), .no, .no, .no] b F := by
  simp only [S_l_values_13, S_l_values_12, S_l_values_11, S_l_values_10, put_new nw, mV_e, mC_e, mO_e, mOp_e, mUn_e, mT_e, mNotT_e, mAndT_e, mOrT_e, mAnd_e, mOr_e, mNot_e, mIf_e, mChain_e, mNil_e, mCons_e, mTup_e, mLst_e, mLk_e, mCat_e, mCB_e, mCL_e, vD_e, vL_e, vM0_e, mSkip_e, mSeq_e, mAsg_e, mRet_e, mIfS_e, mDrop_e, vNil_e, vCons_e, mPar_e, bName_e, bTup_e, bNil_e, bCons_e, mUnp_e, mFor_e, mForR_e, mForR2_e, mApp_e, mYes_e, mLc_e, mLcR_e, mLcR2_e, mLcZ_e, gNo_e, gE_e, gO_e, mCall_e, mFn_e, mIsi_e, mSS_e, mNo_e, mPt_e, mSl_e, mDG_e, mDGd_e, mDIn_e, mPut_e, mSD_e, mRetO_e, vDof_e, mForZ_e, wipeE, pow6, pow7, pow9, pow15, pow18, pow39, asM, List.replicate, List.cons_append, List.nil_append, List.getElem?_cons_zero, List.getElem?_cons_succ, enAll, List.set_cons_zero, List.set_cons_succ, Nat.reduceSub, List.length_cons, List.length_nil, decide_eq_true_eq, Nat.reduceAdd, Nat.reduceLeDiff, true_and, Bool.not_true, Bool.not_false, if_true, if_false, Bool.false_eq_true, Bool.not_eq_true', decide_eq_false_iff_not, Int.reduceLE, Int.reduceLT, Int.reduceNeg, Int.reduceSub, Int.reduceAdd, and_true, PyData.int.injEq, Nat.zero_add, Int.zero_add, Int.sub_zero, addW_ii, addW_ib, addW_bi, addW_tt, addW_ll, subW_ii, subW_ib, subW_bi, mulW_ii, fdivW_ii, modW_ii, negW_i, eqW_ii, eqW_ss, eqW_t0, eqW_l0, neW_ii, neW_ss, neW_t0, neW_l0, ltW_ii, leW_ii, gtW_ii, geW_ii, isW_n, isntW_n, ixW_l, ixW_t, lenW_l, lenW_t, absW_i, intW_i, intW_b, tupW_l, tupW_t, lstW_l, lstW_t, sumW_l, allW_l, anyW_l, minW_2, maxW_2, slW_t, slW_l, revW_t, revW_l, reprW_1, strW_i, strW_b, sortW_l, sortW_t, Option.some.injEq, exists_eq_left', exists_eq_left, dKey, exists_and_left, exists_const]
  refine ⟨_, rfl, by simp [dictD]; omega, by omega, by simp; omega, by simp; omega, ?_⟩
  rw [put_new nw, List.append_assoc, List.append_assoc]
  refine q _ rfl ?_
  have h1 : ∀ {d}, P2 d → VOk (.tuple [d]) := fun h => vt (fun e he => by simp at he; subst he; exact h) (by simp)
  have a1 : P2 (.tuple [.int p, .int 1]) := p2 (by omega) (by omega)
  simp only [List.cons_append, List.nil_append, List.forall_mem_cons, List.not_mem_nil, false_implies, implies_true, and_true]
  refine ⟨h1 (p2 (by omega) (by omega)), h1 (p2 (by omega) (by omega)), h1 (p2 (by omega) (by omega)), h1 (p2b (by omega)), h1 (p2 (by omega) (by omega)), vp a1, vt ?_ (by simp), vt ?_ (by simp), vl ?_ (by simp), h1 (p2 (by omega) (by omega))⟩
  · simp only [List.forall_mem_cons, List.not_mem_nil, false_implies, implies_true, and_true]
    exact ⟨a1, a1⟩
  · simp only [List.forall_mem_cons, List.not_mem_nil, false_implies, implies_true, and_true]
    exact ⟨a1, p2 (by omega) (by omega)⟩
  · simp only [List.forall_mem_cons, List.not_mem_nil, false_implies, implies_true, and_true]
    exact a1
theorem beds_loop {c : Int} {t s1 s7 : Sl} {F : WEnds} (hc : c.natAbs ≤ 1000000) : ∀ (bs ws : List Bed) (found : List PyData) (s10 s11 : Sl) (b : Nat), (∀ x ∈ bs, x.1.natAbs ≤ 1000000 ∧ x.2.natAbs ≤ 1000000000) → (ws.map (·.1) ++ bs.map (·.1)).Nodup → (∀ d ∈ found, VOk d) → found.length + 10 * bs.length ≤ 1000 → ws.length + bs.length ≤ 40 →
    (∀ found' s10' s11', (∀ d ∈ found', VOk d) → found'.length = found.length + 10 * bs.length → F.nx [.s 1, s1, .no, .no, .no, t, .d (.int c), s7, .m (dictD (ws ++ bs.map fun x => (x.1, x.2 + 2))), .l found', s10', s11', .no, .no, .no] b) →
    mTurns (bTup 2 (bCons (bName 10) (bCons (bName 11) bNil))) (mSeq S_l_values_13 (mSeq S_l_values_12 (mSeq S_l_values_11 S_l_values_10))) (bs.map bedD) [.s 1, s1, .no, .no, .no, t, .d (.int c), s7, .m (dictD ws), .l found, s10, s11, .no, .no, .no] b F
  | [], ws, found, s10, s11, b, _, _, hf, _, _, q => by
    have := q found s10 s11 hf (by simp)
    simpa [mTurns] using this
  | x :: bs, ws, found, s10, s11, b, hx, nd, hf, fl, wl, q => by
    simp only [List.length_cons] at fl wl
    rw [List.map_cons]
    simp only [mTurns, bedD, bTup_e, bCons_e, bName_e, bNil_e, List.length_cons, List.length_nil, Nat.zero_add, Nat.reduceAdd, true_and, List.set_cons_zero, List.set_cons_succ]
    have h1 := hx x (List.mem_cons_self ..)
    have nw : x.1 ∉ ws.map (·.1) := fun h => by
      have := (List.nodup_append.mp nd).2.2 _ h x.1 (by simp)
      exact this rfl
    refine bed_turn h1.1 h1.2 hc nw hf (by omega) (by omega) fun more hm hv => ?_
    have := beds_loop (t := t) (s1 := s1) (s7 := s7) (F := F) hc bs (ws ++ [(x.1, x.2 + 2)]) (found ++ more) (.d (.int x.1)) (.d (.int x.2)) b (fun y hy => hx y (List.mem_cons_of_mem _ hy)) (by simpa using nd) (fun d hd => by
      rcases List.mem_append.mp hd with hd | hd
      · exact hf d hd
      · exact hv d hd) (by simp [hm]; omega) (by simp; omega) fun found' s10' s11' h2 h3 => ?_
    · exact this
    · have := q found' s10' s11' h2 (by rw [h3]; simp [hm]; omega)
      simpa using this
/-- rows of a trip that was drawn -/
theorem trip_p2 {c : Int} {ws rs : List Bed} (hw : ∀ x ∈ ws, x.1.natAbs ≤ 1000000 ∧ x.2 ≤ 1000000002) (h : TripOk c ws rs) : ∀ d ∈ rs.map bedD, P2 d := fun d hd => by
  obtain ⟨r, hr, rfl⟩ := List.mem_map.mp hd
  obtain ⟨w, h1, h2, h3⟩ := h.row r hr
  have h4 := hw _ h1
  exact p2 (by omega) (by have := h4.2; simp only at this; omega)
theorem srt_ok (xs : List Bed) (few : xs.length ≤ 100000) : okSrt (xs.map bedD) :=
  ⟨PySem.W.AllAlike.of (fun _ _ => rfl), PySem.W.Sortable.tuples (fun x => ⟨_, _, rfl⟩), fun d hd => by
    obtain ⟨x, _, rfl⟩ := List.mem_map.mp hd
    simp [bedD, PyData.depth, PyData.depthAll], by simpa using few⟩
theorem four_turn {t c : Int} {bs ws ts : List Bed} {s3 s5 s7 s10 s11 s12 s13 : Sl} {found : List PyData} {b : Nat} {F : WEnds} (nd : (ws.map (·.1)).Nodup) (c0 : 1 ≤ c) (c1 : c ≤ 1000000) (wl : ws.length ≤ 40) (hw : ∀ x ∈ ws, x.1.natAbs ≤ 1000000 ∧ x.2 ≤ 1000000002) (ht : TripOk c ws ts) (fl : found.length ≤ 1000) (hb : b ≤ 700000000)
    (q : ∀ more s12' s13' b', more.length = 6 → (∀ d ∈ more, VOk d) → b' ≤ b + 220 → F.nx [.s 1, .d (gardenD t c bs), .d (bedsD ts), s3, .no, s5, .d (.int c), s7, .m (dictD ws), .l (found ++ more), s10, s11, s12', s13', .no] b') :
    (mSeq S_l_values_7 (mSeq S_l_values_6 S_l_values_5)) [.s 1, .d (gardenD t c bs), .d (bedsD ts), s3, .no, s5, .d (.int c), s7, .m (dictD ws), .l found, s10, s11, s12, s13, .no] b F := by
  simp only [S_l_values_7, mV_e, mC_e, mO_e, mOp_e, mUn_e, mT_e, mNotT_e, mAndT_e, mOrT_e, mAnd_e, mOr_e, mNot_e, mIf_e, mChain_e, mNil_e, mCons_e, mTup_e, mLst_e, mLk_e, mCat_e, mCB_e, mCL_e, vD_e, vL_e, vM0_e, mSkip_e, mSeq_e, mAsg_e, mRet_e, mIfS_e, mDrop_e, vNil_e, vCons_e, mPar_e, bName_e, bTup_e, bNil_e, bCons_e, mUnp_e, mFor_e, mForR_e, mForR2_e, mApp_e, mYes_e, mLc_e, mLcR_e, mLcR2_e, mLcZ_e, gNo_e, gE_e, gO_e, mCall_e, mFn_e, mIsi_e, mSS_e, mNo_e, mPt_e, mSl_e, mDG_e, mDGd_e, mDIn_e, mPut_e, mSD_e, mRetO_e, vDof_e, mForZ_e, wipeE, pow6, pow7, pow9, pow15, pow18, pow39, asM, List.replicate, List.cons_append, List.nil_append, List.getElem?_cons_zero, List.getElem?_cons_succ, enAll, List.set_cons_zero, List.set_cons_succ, Nat.reduceSub, List.length_cons, List.length_nil, decide_eq_true_eq, Nat.reduceAdd, Nat.reduceLeDiff, true_and, Bool.not_true, Bool.not_false, if_true, if_false, Bool.false_eq_true, Bool.not_eq_true', decide_eq_false_iff_not, Int.reduceLE, Int.reduceLT, Int.reduceNeg, Int.reduceSub, Int.reduceAdd, and_true, PyData.int.injEq, Nat.zero_add, Int.zero_add, Int.sub_zero, addW_ii, addW_ib, addW_bi, addW_tt, addW_ll, subW_ii, subW_ib, subW_bi, mulW_ii, fdivW_ii, modW_ii, negW_i, eqW_ii, eqW_ss, eqW_t0, eqW_l0, neW_ii, neW_ss, neW_t0, neW_l0, ltW_ii, leW_ii, gtW_ii, geW_ii, isW_n, isntW_n, ixW_l, ixW_t, lenW_l, lenW_t, absW_i, intW_i, intW_b, tupW_l, tupW_t, lstW_l, lstW_t, sumW_l, allW_l, anyW_l, minW_2, maxW_2, slW_t, slW_l, revW_t, revW_l, reprW_1, strW_i, strW_b, sortW_l, sortW_t, Option.some.injEq, exists_eq_left', exists_eq_left, dKey, exists_and_left, exists_const]
  refine trip_ok nd c0 c1 wl (by omega) fun rs b1 hr hb1 => ?_
  have pr := trip_p2 hw hr
  have pt := trip_p2 hw ht
  have lr := hr.len
  have lt := ht.len
  simp only [S_l_values_6, mV_e, mC_e, mO_e, mOp_e, mUn_e, mT_e, mNotT_e, mAndT_e, mOrT_e, mAnd_e, mOr_e, mNot_e, mIf_e, mChain_e, mNil_e, mCons_e, mTup_e, mLst_e, mLk_e, mCat_e, mCB_e, mCL_e, vD_e, vL_e, vM0_e, mSkip_e, mSeq_e, mAsg_e, mRet_e, mIfS_e, mDrop_e, vNil_e, vCons_e, mPar_e, bName_e, bTup_e, bNil_e, bCons_e, mUnp_e, mFor_e, mForR_e, mForR2_e, mApp_e, mYes_e, mLc_e, mLcR_e, mLcR2_e, mLcZ_e, gNo_e, gE_e, gO_e, mCall_e, mFn_e, mIsi_e, mSS_e, mNo_e, mPt_e, mSl_e, mDG_e, mDGd_e, mDIn_e, mPut_e, mSD_e, mRetO_e, vDof_e, mForZ_e, wipeE, pow6, pow7, pow9, pow15, pow18, pow39, asM, List.replicate, List.cons_append, List.nil_append, List.getElem?_cons_zero, List.getElem?_cons_succ, enAll, List.set_cons_zero, List.set_cons_succ, Nat.reduceSub, List.length_cons, List.length_nil, decide_eq_true_eq, Nat.reduceAdd, Nat.reduceLeDiff, true_and, Bool.not_true, Bool.not_false, if_true, if_false, Bool.false_eq_true, Bool.not_eq_true', decide_eq_false_iff_not, Int.reduceLE, Int.reduceLT, Int.reduceNeg, Int.reduceSub, Int.reduceAdd, and_true, PyData.int.injEq, Nat.zero_add, Int.zero_add, Int.sub_zero, addW_ii, addW_ib, addW_bi, addW_tt, addW_ll, subW_ii, subW_ib, subW_bi, mulW_ii, fdivW_ii, modW_ii, negW_i, eqW_ii, eqW_ss, eqW_t0, eqW_l0, neW_ii, neW_ss, neW_t0, neW_l0, ltW_ii, leW_ii, gtW_ii, geW_ii, isW_n, isntW_n, ixW_l, ixW_t, lenW_l, lenW_t, absW_i, intW_i, intW_b, tupW_l, tupW_t, lstW_l, lstW_t, sumW_l, allW_l, anyW_l, minW_2, maxW_2, slW_t, slW_l, revW_t, revW_l, reprW_1, strW_i, strW_b, sortW_l, sortW_t, Option.some.injEq, exists_eq_left', exists_eq_left, dKey, exists_and_left, exists_const]
  refine part_ok 2 (k := 2) (kk := 12083) (nn := 2) (Nat.le_refl 2) (by omega) (Nat.le_refl _) (by omega) (sz_p2 pr (by rw [List.length_map]; omega)) (by omega) fun d1 b2 z1 hb2 => ?_
  simp only [S_l_values_5, bedsD, mV_e, mC_e, mO_e, mOp_e, mUn_e, mT_e, mNotT_e, mAndT_e, mOrT_e, mAnd_e, mOr_e, mNot_e, mIf_e, mChain_e, mNil_e, mCons_e, mTup_e, mLst_e, mLk_e, mCat_e, mCB_e, mCL_e, vD_e, vL_e, vM0_e, mSkip_e, mSeq_e, mAsg_e, mRet_e, mIfS_e, mDrop_e, vNil_e, vCons_e, mPar_e, bName_e, bTup_e, bNil_e, bCons_e, mUnp_e, mFor_e, mForR_e, mForR2_e, mApp_e, mYes_e, mLc_e, mLcR_e, mLcR2_e, mLcZ_e, gNo_e, gE_e, gO_e, mCall_e, mFn_e, mIsi_e, mSS_e, mNo_e, mPt_e, mSl_e, mDG_e, mDGd_e, mDIn_e, mPut_e, mSD_e, mRetO_e, vDof_e, mForZ_e, wipeE, pow6, pow7, pow9, pow15, pow18, pow39, asM, List.replicate, List.cons_append, List.nil_append, List.getElem?_cons_zero, List.getElem?_cons_succ, enAll, List.set_cons_zero, List.set_cons_succ, Nat.reduceSub, List.length_cons, List.length_nil, decide_eq_true_eq, Nat.reduceAdd, Nat.reduceLeDiff, true_and, Bool.not_true, Bool.not_false, if_true, if_false, Bool.false_eq_true, Bool.not_eq_true', decide_eq_false_iff_not, Int.reduceLE, Int.reduceLT, Int.reduceNeg, Int.reduceSub, Int.reduceAdd, and_true, PyData.int.injEq, Nat.zero_add, Int.zero_add, Int.sub_zero, addW_ii, addW_ib, addW_bi, addW_tt, addW_ll, subW_ii, subW_ib, subW_bi, mulW_ii, fdivW_ii, modW_ii, negW_i, eqW_ii, eqW_ss, eqW_t0, eqW_l0, neW_ii, neW_ss, neW_t0, neW_l0, ltW_ii, leW_ii, gtW_ii, geW_ii, isW_n, isntW_n, ixW_l, ixW_t, lenW_l, lenW_t, absW_i, intW_i, intW_b, tupW_l, tupW_t, lstW_l, lstW_t, sumW_l, allW_l, anyW_l, minW_2, maxW_2, slW_t, slW_l, revW_t, revW_l, reprW_1, strW_i, strW_b, sortW_l, sortW_t, Option.some.injEq, exists_eq_left', exists_eq_left, dKey, exists_and_left, exists_const]
  refine ⟨by simp; omega, by simp; omega, ?_⟩
  have e : rs.map bedD ++ ts.map bedD = (rs ++ ts).map bedD := by simp
  refine ⟨e ▸ srt_ok (rs ++ ts) (by simp; omega), ?_⟩
  refine part_ok 2 (k := 2) (Nat.le_refl 2) (by omega) (by omega) (by omega) z1 (by omega) fun d2 b3 z2 hb3 => ⟨by omega, ?_⟩
  refine q _ _ _ _ rfl ?_ (by omega)
  have pb : ∀ d ∈ rs.map bedD ++ ts.map bedD, P2 d := fun d hd => by
    rcases List.mem_append.mp hd with hd | hd
    · exact pr d hd
    · exact pt d hd
  simp only [List.forall_mem_cons, List.not_mem_nil, false_implies, implies_true, and_true]
  exact ⟨vt pr (by simp; omega), vt pt (by simp; omega), vt pb (by simp; omega), vt (fun d hd => pb d (List.mem_mergeSort.mp hd)) (by unfold srt; rw [List.length_mergeSort]; simp; omega), z1.mono (by omega) (by omega) (by omega), z2.mono (by omega) (by omega) (by omega)⟩
theorem four_loop {t c : Int} {bs ws ts : List Bed} {s5 s7 s10 s11 : Sl} {F : WEnds} (nd : (ws.map (·.1)).Nodup) (c0 : 1 ≤ c) (c1 : c ≤ 1000000) (wl : ws.length ≤ 40) (hw : ∀ x ∈ ws, x.1.natAbs ≤ 1000000 ∧ x.2 ≤ 1000000002) (ht : TripOk c ws ts) : ∀ (xs : List PyData) (found : List PyData) (s3 s12 s13 : Sl) (b : Nat), (∀ d ∈ found, VOk d) → found.length + 6 * xs.length ≤ 1000 → b + 220 * xs.length ≤ 600000000 →
    (∀ found' s3' s12' s13' b', (∀ d ∈ found', VOk d) → found'.length = found.length + 6 * xs.length → b' ≤ b + 220 * xs.length → F.nx [.s 1, .d (gardenD t c bs), .d (bedsD ts), s3', .no, s5, .d (.int c), s7, .m (dictD ws), .l found', s10, s11, s12', s13', .no] b') →
    mTurns (bName 3) (mSeq S_l_values_7 (mSeq S_l_values_6 S_l_values_5)) xs [.s 1, .d (gardenD t c bs), .d (bedsD ts), s3, .no, s5, .d (.int c), s7, .m (dictD ws), .l found, s10, s11, s12, s13, .no] b F
  | [], found, s3, s12, s13, b, hf, _, _, q => by
    have := q found s3 s12 s13 b hf (by simp) (by simp)
    simpa [mTurns] using this
  | x :: xs, found, s3, s12, s13, b, hf, fl, hb, q => by
    simp only [List.length_cons] at fl hb
    simp only [mTurns, bName_e, List.set_cons_zero, List.set_cons_succ]
    refine four_turn nd c0 c1 wl hw ht (by omega) (by omega) fun more s12' s13' b' hm hv hb' => ?_
    refine four_loop nd c0 c1 wl hw ht xs (found ++ more) (.d x) s12' s13' b' (fun d hd => by
      rcases List.mem_append.mp hd with hd | hd
      · exact hf d hd
      · exact hv d hd) (by simp [hm]; omega) (by omega) fun found' s3' s12'' s13'' b'' h2 h3 h4 => ?_
    exact q found' s3' s12'' s13'' b'' h2 (by rw [h3]; simp [hm]; omega) (by simp only [List.length_cons]; omega)
theorem cut_init (xs : List PyData) : Wp.cutD xs none (some (-1)) = xs.dropLast := by
  have e : HT.sIx xs.length xs.length (some (-1)) = xs.length - 1 := by
    show (if (-1 : Int) < 0 then ((-1 : Int) + (xs.length : Int)).toNat else min (-1 : Int).toNat xs.length) = _
    rw [if_pos (by decide)]
    omega
  unfold Wp.cutD
  rw [e, HT.sIx_none, List.dropLast_eq_take, Nat.sub_zero, List.drop_zero]
theorem values_ok {most top t c : Int} {bs : List Bed} {b : Nat} {R : PyData → Nat → Prop} (h : GOk most top t c bs) (h1 : most ≤ 12) (h2 : top ≤ 1000000000) (hb : b ≤ 500000000) (q : ∀ vs b', (∀ d ∈ vs, VOk d) → vs.length ≤ 400 → b' ≤ b + 2000 → R (.list vs) b') : M_l_values [.s 1, .d (gardenD t c bs)] b R := by
  have fw := h.few
  have pr : ∀ x ∈ bs, x.1.natAbs ≤ 1000000 ∧ x.2.natAbs ≤ 1000000000 := fun x hx => by
    have a1 := h.p0 x hx
    have a2 := h.p1 x hx
    have a3 := h.l0 x hx
    have a4 := h.l1 x hx
    omega
  have pb : ∀ d ∈ bs.map bedD, P2 d := fun d hd => by
    obtain ⟨x, hx, rfl⟩ := List.mem_map.mp hd
    have := pr x hx
    exact p2 (by omega) (by omega)
  have ht0 := h.t0
  have ht1 := h.t1
  have hc0 := h.c0
  have hc1 := h.c1
  simp only [M_l_values, mFn_e, B_l_values, mSeq_e, List.replicate, List.cons_append, List.nil_append, List.length_cons, List.length_nil, Nat.reduceSub, Nat.reduceAdd, true_and]
  simp only [S_l_values_16, gardenD, mV_e, mC_e, mO_e, mOp_e, mUn_e, mT_e, mNotT_e, mAndT_e, mOrT_e, mAnd_e, mOr_e, mNot_e, mIf_e, mChain_e, mNil_e, mCons_e, mTup_e, mLst_e, mLk_e, mCat_e, mCB_e, mCL_e, vD_e, vL_e, vM0_e, mSkip_e, mSeq_e, mAsg_e, mRet_e, mIfS_e, mDrop_e, vNil_e, vCons_e, mPar_e, bName_e, bTup_e, bNil_e, bCons_e, mUnp_e, mFor_e, mForR_e, mForR2_e, mApp_e, mYes_e, mLc_e, mLcR_e, mLcR2_e, mLcZ_e, gNo_e, gE_e, gO_e, mCall_e, mFn_e, mIsi_e, mSS_e, mNo_e, mPt_e, mSl_e, mDG_e, mDGd_e, mDIn_e, mPut_e, mSD_e, mRetO_e, vDof_e, mForZ_e, wipeE, pow6, pow7, pow9, pow15, pow18, pow39, asM, List.replicate, List.cons_append, List.nil_append, List.getElem?_cons_zero, List.getElem?_cons_succ, enAll, List.set_cons_zero, List.set_cons_succ, Nat.reduceSub, List.length_cons, List.length_nil, decide_eq_true_eq, Nat.reduceAdd, Nat.reduceLeDiff, true_and, Bool.not_true, Bool.not_false, if_true, if_false, Bool.false_eq_true, Bool.not_eq_true', decide_eq_false_iff_not, Int.reduceLE, Int.reduceLT, Int.reduceNeg, Int.reduceSub, Int.reduceAdd, and_true, PyData.int.injEq, Nat.zero_add, Int.zero_add, Int.sub_zero, addW_ii, addW_ib, addW_bi, addW_tt, addW_ll, subW_ii, subW_ib, subW_bi, mulW_ii, fdivW_ii, modW_ii, negW_i, eqW_ii, eqW_ss, eqW_t0, eqW_l0, neW_ii, neW_ss, neW_t0, neW_l0, ltW_ii, leW_ii, gtW_ii, geW_ii, isW_n, isntW_n, ixW_l, ixW_t, lenW_l, lenW_t, absW_i, intW_i, intW_b, tupW_l, tupW_t, lstW_l, lstW_t, sumW_l, allW_l, anyW_l, minW_2, maxW_2, slW_t, slW_l, revW_t, revW_l, reprW_1, strW_i, strW_b, sortW_l, sortW_t, Option.some.injEq, exists_eq_left', exists_eq_left, dKey, exists_and_left, exists_const]
  simp only [S_l_values_15, bedsD, mV_e, mC_e, mO_e, mOp_e, mUn_e, mT_e, mNotT_e, mAndT_e, mOrT_e, mAnd_e, mOr_e, mNot_e, mIf_e, mChain_e, mNil_e, mCons_e, mTup_e, mLst_e, mLk_e, mCat_e, mCB_e, mCL_e, vD_e, vL_e, vM0_e, mSkip_e, mSeq_e, mAsg_e, mRet_e, mIfS_e, mDrop_e, vNil_e, vCons_e, mPar_e, bName_e, bTup_e, bNil_e, bCons_e, mUnp_e, mFor_e, mForR_e, mForR2_e, mApp_e, mYes_e, mLc_e, mLcR_e, mLcR2_e, mLcZ_e, gNo_e, gE_e, gO_e, mCall_e, mFn_e, mIsi_e, mSS_e, mNo_e, mPt_e, mSl_e, mDG_e, mDGd_e, mDIn_e, mPut_e, mSD_e, mRetO_e, vDof_e, mForZ_e, wipeE, pow6, pow7, pow9, pow15, pow18, pow39, asM, List.replicate, List.cons_append, List.nil_append, List.getElem?_cons_zero, List.getElem?_cons_succ, enAll, List.set_cons_zero, List.set_cons_succ, Nat.reduceSub, List.length_cons, List.length_nil, decide_eq_true_eq, Nat.reduceAdd, Nat.reduceLeDiff, true_and, Bool.not_true, Bool.not_false, if_true, if_false, Bool.false_eq_true, Bool.not_eq_true', decide_eq_false_iff_not, Int.reduceLE, Int.reduceLT, Int.reduceNeg, Int.reduceSub, Int.reduceAdd, and_true, PyData.int.injEq, Nat.zero_add, Int.zero_add, Int.sub_zero, addW_ii, addW_ib, addW_bi, addW_tt, addW_ll, subW_ii, subW_ib, subW_bi, mulW_ii, fdivW_ii, modW_ii, negW_i, eqW_ii, eqW_ss, eqW_t0, eqW_l0, neW_ii, neW_ss, neW_t0, neW_l0, ltW_ii, leW_ii, gtW_ii, geW_ii, isW_n, isntW_n, ixW_l, ixW_t, lenW_l, lenW_t, absW_i, intW_i, intW_b, tupW_l, tupW_t, lstW_l, lstW_t, sumW_l, allW_l, anyW_l, minW_2, maxW_2, slW_t, slW_l, revW_t, revW_l, reprW_1, strW_i, strW_b, sortW_l, sortW_t, Option.some.injEq, exists_eq_left', exists_eq_left, dKey, exists_and_left, exists_const]
  refine odd_ok (by omega) fun d0 hd0 => ?_
  simp only [S_l_values_14, mV_e, mC_e, mO_e, mOp_e, mUn_e, mT_e, mNotT_e, mAndT_e, mOrT_e, mAnd_e, mOr_e, mNot_e, mIf_e, mChain_e, mNil_e, mCons_e, mTup_e, mLst_e, mLk_e, mCat_e, mCB_e, mCL_e, vD_e, vL_e, vM0_e, mSkip_e, mSeq_e, mAsg_e, mRet_e, mIfS_e, mDrop_e, vNil_e, vCons_e, mPar_e, bName_e, bTup_e, bNil_e, bCons_e, mUnp_e, mFor_e, mForR_e, mForR2_e, mApp_e, mYes_e, mLc_e, mLcR_e, mLcR2_e, mLcZ_e, gNo_e, gE_e, gO_e, mCall_e, mFn_e, mIsi_e, mSS_e, mNo_e, mPt_e, mSl_e, mDG_e, mDGd_e, mDIn_e, mPut_e, mSD_e, mRetO_e, vDof_e, mForZ_e, wipeE, pow6, pow7, pow9, pow15, pow18, pow39, asM, List.replicate, List.cons_append, List.nil_append, List.getElem?_cons_zero, List.getElem?_cons_succ, enAll, List.set_cons_zero, List.set_cons_succ, Nat.reduceSub, List.length_cons, List.length_nil, decide_eq_true_eq, Nat.reduceAdd, Nat.reduceLeDiff, true_and, Bool.not_true, Bool.not_false, if_true, if_false, Bool.false_eq_true, Bool.not_eq_true', decide_eq_false_iff_not, Int.reduceLE, Int.reduceLT, Int.reduceNeg, Int.reduceSub, Int.reduceAdd, and_true, PyData.int.injEq, Nat.zero_add, Int.zero_add, Int.sub_zero, addW_ii, addW_ib, addW_bi, addW_tt, addW_ll, subW_ii, subW_ib, subW_bi, mulW_ii, fdivW_ii, modW_ii, negW_i, eqW_ii, eqW_ss, eqW_t0, eqW_l0, neW_ii, neW_ss, neW_t0, neW_l0, ltW_ii, leW_ii, gtW_ii, geW_ii, isW_n, isntW_n, ixW_l, ixW_t, lenW_l, lenW_t, absW_i, intW_i, intW_b, tupW_l, tupW_t, lstW_l, lstW_t, sumW_l, allW_l, anyW_l, minW_2, maxW_2, slW_t, slW_l, revW_t, revW_l, reprW_1, strW_i, strW_b, sortW_l, sortW_t, Option.some.injEq, exists_eq_left', exists_eq_left, dKey, exists_and_left, exists_const]
  have nd : (bs.map (·.1)).Nodup := h.asc.imp (fun h => by omega)
  have h0 : ∀ d ∈ [PyData.tuple [], .none, .tuple [.tuple [.int t, .int 1]], .tuple [.tuple [.int (t + 1), .int 1]], .tuple (bs.map bedD), .tuple (bs.map bedD).reverse, d0], VOk d := by
    have o1 : ∀ {d}, P2 d → VOk (.tuple [d]) := fun h => vt (fun e he => by simp at he; subst he; exact h) (by simp)
    simp only [List.forall_mem_cons, List.not_mem_nil, false_implies, implies_true, and_true]
    exact ⟨vt (fun _ h => nomatch h) (by simp), ⟨rfl, by simp [Cn.wv], by simp [Cn.dv]⟩, o1 (p2 (by omega) (by omega)), o1 (p2 (by omega) (by omega)), vt pb (by simp; omega), vt (fun d hd => pb d (List.mem_reverse.mp hd)) (by simp; omega), (Cn.odd_sz d0 hd0).mono (by omega) (by omega) (by omega)⟩
  refine beds_loop (by omega) bs [] _ _ _ _ pr (by simpa using nd) h0 (by simp; omega) (by simp; omega) fun found s10 s11 hv hl => ?_
  rw [List.nil_append]
  have nd' : ((bs.map fun x => ((x.1, x.2 + 2) : Bed)).map (·.1)).Nodup := by simpa [Function.comp_def] using nd
  have hw : ∀ x ∈ bs.map fun x => ((x.1, x.2 + 2) : Bed), x.1.natAbs ≤ 1000000 ∧ x.2 ≤ 1000000002 := fun x hx => by
    obtain ⟨y, hy, rfl⟩ := List.mem_map.mp hx
    have := pr y hy
    exact ⟨this.1, by simp only; omega⟩
  have wl : (bs.map fun x => ((x.1, x.2 + 2) : Bed)).length ≤ 40 := by simp; omega
  generalize (bs.map fun x => ((x.1, x.2 + 2) : Bed)) = ws at nd' hw wl
  simp only [S_l_values_9, mV_e, mC_e, mO_e, mOp_e, mUn_e, mT_e, mNotT_e, mAndT_e, mOrT_e, mAnd_e, mOr_e, mNot_e, mIf_e, mChain_e, mNil_e, mCons_e, mTup_e, mLst_e, mLk_e, mCat_e, mCB_e, mCL_e, vD_e, vL_e, vM0_e, mSkip_e, mSeq_e, mAsg_e, mRet_e, mIfS_e, mDrop_e, vNil_e, vCons_e, mPar_e, bName_e, bTup_e, bNil_e, bCons_e, mUnp_e, mFor_e, mForR_e, mForR2_e, mApp_e, mYes_e, mLc_e, mLcR_e, mLcR2_e, mLcZ_e, gNo_e, gE_e, gO_e, mCall_e, mFn_e, mIsi_e, mSS_e, mNo_e, mPt_e, mSl_e, mDG_e, mDGd_e, mDIn_e, mPut_e, mSD_e, mRetO_e, vDof_e, mForZ_e, wipeE, pow6, pow7, pow9, pow15, pow18, pow39, asM, List.replicate, List.cons_append, List.nil_append, List.getElem?_cons_zero, List.getElem?_cons_succ, enAll, List.set_cons_zero, List.set_cons_succ, Nat.reduceSub, List.length_cons, List.length_nil, decide_eq_true_eq, Nat.reduceAdd, Nat.reduceLeDiff, true_and, Bool.not_true, Bool.not_false, if_true, if_false, Bool.false_eq_true, Bool.not_eq_true', decide_eq_false_iff_not, Int.reduceLE, Int.reduceLT, Int.reduceNeg, Int.reduceSub, Int.reduceAdd, and_true, PyData.int.injEq, Nat.zero_add, Int.zero_add, Int.sub_zero, addW_ii, addW_ib, addW_bi, addW_tt, addW_ll, subW_ii, subW_ib, subW_bi, mulW_ii, fdivW_ii, modW_ii, negW_i, eqW_ii, eqW_ss, eqW_t0, eqW_l0, neW_ii, neW_ss, neW_t0, neW_l0, ltW_ii, leW_ii, gtW_ii, geW_ii, isW_n, isntW_n, ixW_l, ixW_t, lenW_l, lenW_t, absW_i, intW_i, intW_b, tupW_l, tupW_t, lstW_l, lstW_t, sumW_l, allW_l, anyW_l, minW_2, maxW_2, slW_t, slW_l, revW_t, revW_l, reprW_1, strW_i, strW_b, sortW_l, sortW_t, Option.some.injEq, exists_eq_left', exists_eq_left, dKey, exists_and_left, exists_const]
  refine trip_ok nd' h.c0 h.c1 wl (by omega) fun ts b1 ht hb1 => ?_
  simp only [S_l_values_8, mV_e, mC_e, mO_e, mOp_e, mUn_e, mT_e, mNotT_e, mAndT_e, mOrT_e, mAnd_e, mOr_e, mNot_e, mIf_e, mChain_e, mNil_e, mCons_e, mTup_e, mLst_e, mLk_e, mCat_e, mCB_e, mCL_e, vD_e, vL_e, vM0_e, mSkip_e, mSeq_e, mAsg_e, mRet_e, mIfS_e, mDrop_e, vNil_e, vCons_e, mPar_e, bName_e, bTup_e, bNil_e, bCons_e, mUnp_e, mFor_e, mForR_e, mForR2_e, mApp_e, mYes_e, mLc_e, mLcR_e, mLcR2_e, mLcZ_e, gNo_e, gE_e, gO_e, mCall_e, mFn_e, mIsi_e, mSS_e, mNo_e, mPt_e, mSl_e, mDG_e, mDGd_e, mDIn_e, mPut_e, mSD_e, mRetO_e, vDof_e, mForZ_e, wipeE, pow6, pow7, pow9, pow15, pow18, pow39, asM, List.replicate, List.cons_append, List.nil_append, List.getElem?_cons_zero, List.getElem?_cons_succ, enAll, List.set_cons_zero, List.set_cons_succ, Nat.reduceSub, List.length_cons, List.length_nil, decide_eq_true_eq, Nat.reduceAdd, Nat.reduceLeDiff, true_and, Bool.not_true, Bool.not_false, if_true, if_false, Bool.false_eq_true, Bool.not_eq_true', decide_eq_false_iff_not, Int.reduceLE, Int.reduceLT, Int.reduceNeg, Int.reduceSub, Int.reduceAdd, and_true, PyData.int.injEq, Nat.zero_add, Int.zero_add, Int.sub_zero, addW_ii, addW_ib, addW_bi, addW_tt, addW_ll, subW_ii, subW_ib, subW_bi, mulW_ii, fdivW_ii, modW_ii, negW_i, eqW_ii, eqW_ss, eqW_t0, eqW_l0, neW_ii, neW_ss, neW_t0, neW_l0, ltW_ii, leW_ii, gtW_ii, geW_ii, isW_n, isntW_n, ixW_l, ixW_t, lenW_l, lenW_t, absW_i, intW_i, intW_b, tupW_l, tupW_t, lstW_l, lstW_t, sumW_l, allW_l, anyW_l, minW_2, maxW_2, slW_t, slW_l, revW_t, revW_l, reprW_1, strW_i, strW_b, sortW_l, sortW_t, Option.some.injEq, exists_eq_left', exists_eq_left, dKey, exists_and_left, exists_const]
  simp at hl
  refine ⟨by omega, four_loop nd' h.c0 h.c1 wl hw ht _ _ _ _ _ _ hv (by rw [rngD_len]; simp; omega) (by rw [rngD_len]; simp; omega) fun found' s3 s12 s13 b2 hv' hl' hb2 => ?_⟩
  rw [rngD_len] at hl' hb2
  simp at hl' hb2
  have pt := trip_p2 hw ht
  have lt := ht.len
  simp only [S_l_values_4, bedsD, mV_e, mC_e, mO_e, mOp_e, mUn_e, mT_e, mNotT_e, mAndT_e, mOrT_e, mAnd_e, mOr_e, mNot_e, mIf_e, mChain_e, mNil_e, mCons_e, mTup_e, mLst_e, mLk_e, mCat_e, mCB_e, mCL_e, vD_e, vL_e, vM0_e, mSkip_e, mSeq_e, mAsg_e, mRet_e, mIfS_e, mDrop_e, vNil_e, vCons_e, mPar_e, bName_e, bTup_e, bNil_e, bCons_e, mUnp_e, mFor_e, mForR_e, mForR2_e, mApp_e, mYes_e, mLc_e, mLcR_e, mLcR2_e, mLcZ_e, gNo_e, gE_e, gO_e, mCall_e, mFn_e, mIsi_e, mSS_e, mNo_e, mPt_e, mSl_e, mDG_e, mDGd_e, mDIn_e, mPut_e, mSD_e, mRetO_e, vDof_e, mForZ_e, wipeE, pow6, pow7, pow9, pow15, pow18, pow39, asM, List.replicate, List.cons_append, List.nil_append, List.getElem?_cons_zero, List.getElem?_cons_succ, enAll, List.set_cons_zero, List.set_cons_succ, Nat.reduceSub, List.length_cons, List.length_nil, decide_eq_true_eq, Nat.reduceAdd, Nat.reduceLeDiff, true_and, Bool.not_true, Bool.not_false, if_true, if_false, Bool.false_eq_true, Bool.not_eq_true', decide_eq_false_iff_not, Int.reduceLE, Int.reduceLT, Int.reduceNeg, Int.reduceSub, Int.reduceAdd, and_true, PyData.int.injEq, Nat.zero_add, Int.zero_add, Int.sub_zero, addW_ii, addW_ib, addW_bi, addW_tt, addW_ll, subW_ii, subW_ib, subW_bi, mulW_ii, fdivW_ii, modW_ii, negW_i, eqW_ii, eqW_ss, eqW_t0, eqW_l0, neW_ii, neW_ss, neW_t0, neW_l0, ltW_ii, leW_ii, gtW_ii, geW_ii, isW_n, isntW_n, ixW_l, ixW_t, lenW_l, lenW_t, absW_i, intW_i, intW_b, tupW_l, tupW_t, lstW_l, lstW_t, sumW_l, allW_l, anyW_l, minW_2, maxW_2, slW_t, slW_l, revW_t, revW_l, reprW_1, strW_i, strW_b, sortW_l, sortW_t, Option.some.injEq, exists_eq_left', exists_eq_left, dKey, exists_and_left, exists_const]
  refine snd_beds (by omega) (fun r hr Q hq => by simp only [mV_e, mC_e, mO_e, mOp_e, mUn_e, mT_e, mNotT_e, mAndT_e, mOrT_e, mAnd_e, mOr_e, mNot_e, mIf_e, mChain_e, mNil_e, mCons_e, mTup_e, mLst_e, mLk_e, mCat_e, mCB_e, mCL_e, vD_e, vL_e, vM0_e, mSkip_e, mSeq_e, mAsg_e, mRet_e, mIfS_e, mDrop_e, vNil_e, vCons_e, mPar_e, bName_e, bTup_e, bNil_e, bCons_e, mUnp_e, mFor_e, mForR_e, mForR2_e, mApp_e, mYes_e, mLc_e, mLcR_e, mLcR2_e, mLcZ_e, gNo_e, gE_e, gO_e, mCall_e, mFn_e, mIsi_e, mSS_e, mNo_e, mPt_e, mSl_e, mDG_e, mDGd_e, mDIn_e, mPut_e, mSD_e, mRetO_e, vDof_e, mForZ_e, wipeE, pow6, pow7, pow9, pow15, pow18, pow39, asM, List.replicate, List.cons_append, List.nil_append, List.getElem?_cons_zero, List.getElem?_cons_succ, enAll, List.set_cons_zero, List.set_cons_succ, Nat.reduceSub, List.length_cons, List.length_nil, decide_eq_true_eq, Nat.reduceAdd, Nat.reduceLeDiff, true_and, Bool.not_true, Bool.not_false, if_true, if_false, Bool.false_eq_true, Bool.not_eq_true', decide_eq_false_iff_not, Int.reduceLE, Int.reduceLT, Int.reduceNeg, Int.reduceSub, Int.reduceAdd, and_true, PyData.int.injEq, Nat.zero_add, Int.zero_add, Int.sub_zero, addW_ii, addW_ib, addW_bi, addW_tt, addW_ll, subW_ii, subW_ib, subW_bi, mulW_ii, fdivW_ii, modW_ii, negW_i, eqW_ii, eqW_ss, eqW_t0, eqW_l0, neW_ii, neW_ss, neW_t0, neW_l0, ltW_ii, leW_ii, gtW_ii, geW_ii, isW_n, isntW_n, ixW_l, ixW_t, lenW_l, lenW_t, absW_i, intW_i, intW_b, tupW_l, tupW_t, lstW_l, lstW_t, sumW_l, allW_l, anyW_l, minW_2, maxW_2, slW_t, slW_l, revW_t, revW_l, reprW_1, strW_i, strW_b, sortW_l, sortW_t, Option.some.injEq, exists_eq_left', exists_eq_left, dKey, exists_and_left, exists_const]; exact hq) ?_
  refine ⟨_, rfl, ?_⟩
  simp only [S_l_values_3, mV_e, mC_e, mO_e, mOp_e, mUn_e, mT_e, mNotT_e, mAndT_e, mOrT_e, mAnd_e, mOr_e, mNot_e, mIf_e, mChain_e, mNil_e, mCons_e, mTup_e, mLst_e, mLk_e, mCat_e, mCB_e, mCL_e, vD_e, vL_e, vM0_e, mSkip_e, mSeq_e, mAsg_e, mRet_e, mIfS_e, mDrop_e, vNil_e, vCons_e, mPar_e, bName_e, bTup_e, bNil_e, bCons_e, mUnp_e, mFor_e, mForR_e, mForR2_e, mApp_e, mYes_e, mLc_e, mLcR_e, mLcR2_e, mLcZ_e, gNo_e, gE_e, gO_e, mCall_e, mFn_e, mIsi_e, mSS_e, mNo_e, mPt_e, mSl_e, mDG_e, mDGd_e, mDIn_e, mPut_e, mSD_e, mRetO_e, vDof_e, mForZ_e, wipeE, pow6, pow7, pow9, pow15, pow18, pow39, asM, List.replicate, List.cons_append, List.nil_append, List.getElem?_cons_zero, List.getElem?_cons_succ, enAll, List.set_cons_zero, List.set_cons_succ, Nat.reduceSub, List.length_cons, List.length_nil, decide_eq_true_eq, Nat.reduceAdd, Nat.reduceLeDiff, true_and, Bool.not_true, Bool.not_false, if_true, if_false, Bool.false_eq_true, Bool.not_eq_true', decide_eq_false_iff_not, Int.reduceLE, Int.reduceLT, Int.reduceNeg, Int.reduceSub, Int.reduceAdd, and_true, PyData.int.injEq, Nat.zero_add, Int.zero_add, Int.sub_zero, addW_ii, addW_ib, addW_bi, addW_tt, addW_ll, subW_ii, subW_ib, subW_bi, mulW_ii, fdivW_ii, modW_ii, negW_i, eqW_ii, eqW_ss, eqW_t0, eqW_l0, neW_ii, neW_ss, neW_t0, neW_l0, ltW_ii, leW_ii, gtW_ii, geW_ii, isW_n, isntW_n, ixW_l, ixW_t, lenW_l, lenW_t, absW_i, intW_i, intW_b, tupW_l, tupW_t, lstW_l, lstW_t, sumW_l, allW_l, anyW_l, minW_2, maxW_2, slW_t, slW_l, revW_t, revW_l, reprW_1, strW_i, strW_b, sortW_l, sortW_t, Option.some.injEq, exists_eq_left', exists_eq_left, dKey, exists_and_left, exists_const]
  cases he : (ts.map bedD).isEmpty with
  | true =>
    simp only [S_l_values_1, mV_e, mC_e, mO_e, mOp_e, mUn_e, mT_e, mNotT_e, mAndT_e, mOrT_e, mAnd_e, mOr_e, mNot_e, mIf_e, mChain_e, mNil_e, mCons_e, mTup_e, mLst_e, mLk_e, mCat_e, mCB_e, mCL_e, vD_e, vL_e, vM0_e, mSkip_e, mSeq_e, mAsg_e, mRet_e, mIfS_e, mDrop_e, vNil_e, vCons_e, mPar_e, bName_e, bTup_e, bNil_e, bCons_e, mUnp_e, mFor_e, mForR_e, mForR2_e, mApp_e, mYes_e, mLc_e, mLcR_e, mLcR2_e, mLcZ_e, gNo_e, gE_e, gO_e, mCall_e, mFn_e, mIsi_e, mSS_e, mNo_e, mPt_e, mSl_e, mDG_e, mDGd_e, mDIn_e, mPut_e, mSD_e, mRetO_e, vDof_e, mForZ_e, wipeE, pow6, pow7, pow9, pow15, pow18, pow39, asM, List.replicate, List.cons_append, List.nil_append, List.getElem?_cons_zero, List.getElem?_cons_succ, enAll, List.set_cons_zero, List.set_cons_succ, Nat.reduceSub, List.length_cons, List.length_nil, decide_eq_true_eq, Nat.reduceAdd, Nat.reduceLeDiff, true_and, Bool.not_true, Bool.not_false, if_true, if_false, Bool.false_eq_true, Bool.not_eq_true', decide_eq_false_iff_not, Int.reduceLE, Int.reduceLT, Int.reduceNeg, Int.reduceSub, Int.reduceAdd, and_true, PyData.int.injEq, Nat.zero_add, Int.zero_add, Int.sub_zero, addW_ii, addW_ib, addW_bi, addW_tt, addW_ll, subW_ii, subW_ib, subW_bi, mulW_ii, fdivW_ii, modW_ii, negW_i, eqW_ii, eqW_ss, eqW_t0, eqW_l0, neW_ii, neW_ss, neW_t0, neW_l0, ltW_ii, leW_ii, gtW_ii, geW_ii, isW_n, isntW_n, ixW_l, ixW_t, lenW_l, lenW_t, absW_i, intW_i, intW_b, tupW_l, tupW_t, lstW_l, lstW_t, sumW_l, allW_l, anyW_l, minW_2, maxW_2, slW_t, slW_l, revW_t, revW_l, reprW_1, strW_i, strW_b, sortW_l, sortW_t, Option.some.injEq, exists_eq_left', exists_eq_left, dKey, exists_and_left, exists_const]
    exact q _ _ hv' (by omega) (by omega)
  | false =>
    simp only [S_l_values_2, mV_e, mC_e, mO_e, mOp_e, mUn_e, mT_e, mNotT_e, mAndT_e, mOrT_e, mAnd_e, mOr_e, mNot_e, mIf_e, mChain_e, mNil_e, mCons_e, mTup_e, mLst_e, mLk_e, mCat_e, mCB_e, mCL_e, vD_e, vL_e, vM0_e, mSkip_e, mSeq_e, mAsg_e, mRet_e, mIfS_e, mDrop_e, vNil_e, vCons_e, mPar_e, bName_e, bTup_e, bNil_e, bCons_e, mUnp_e, mFor_e, mForR_e, mForR2_e, mApp_e, mYes_e, mLc_e, mLcR_e, mLcR2_e, mLcZ_e, gNo_e, gE_e, gO_e, mCall_e, mFn_e, mIsi_e, mSS_e, mNo_e, mPt_e, mSl_e, mDG_e, mDGd_e, mDIn_e, mPut_e, mSD_e, mRetO_e, vDof_e, mForZ_e, wipeE, pow6, pow7, pow9, pow15, pow18, pow39, asM, List.replicate, List.cons_append, List.nil_append, List.getElem?_cons_zero, List.getElem?_cons_succ, enAll, List.set_cons_zero, List.set_cons_succ, Nat.reduceSub, List.length_cons, List.length_nil, decide_eq_true_eq, Nat.reduceAdd, Nat.reduceLeDiff, true_and, Bool.not_true, Bool.not_false, if_true, if_false, Bool.false_eq_true, Bool.not_eq_true', decide_eq_false_iff_not, Int.reduceLE, Int.reduceLT, Int.reduceNeg, Int.reduceSub, Int.reduceAdd, and_true, PyData.int.injEq, Nat.zero_add, Int.zero_add, Int.sub_zero, addW_ii, addW_ib, addW_bi, addW_tt, addW_ll, subW_ii, subW_ib, subW_bi, mulW_ii, fdivW_ii, modW_ii, negW_i, eqW_ii, eqW_ss, eqW_t0, eqW_l0, neW_ii, neW_ss, neW_t0, neW_l0, ltW_ii, leW_ii, gtW_ii, geW_ii, isW_n, isntW_n, ixW_l, ixW_t, lenW_l, lenW_t, absW_i, intW_i, intW_b, tupW_l, tupW_t, lstW_l, lstW_t, sumW_l, allW_l, anyW_l, minW_2, maxW_2, slW_t, slW_l, revW_t, revW_l, reprW_1, strW_i, strW_b, sortW_l, sortW_t, Option.some.injEq, exists_eq_left', exists_eq_left, dKey, exists_and_left, exists_const]
    have nn : 0 ≤ (ts.map (·.2)).sum := sum_nn fun x hx => by
      obtain ⟨r, hr, rfl⟩ := List.mem_map.mp hx
      obtain ⟨w, _, h3, _⟩ := ht.row r hr
      omega
    have sm := ht.sum
    generalize (ts.map (·.2)).sum = sm' at nn sm
    refine comp_each (fun d => VOk d) 0 _ _ _ _ (fun x hx b' Q hb' hq => ?_) (by simp) fun ys b3 hys hvy hb3 => ?_
    · obtain ⟨k, rfl, k0, k1⟩ : ∃ k : Int, x = .int k ∧ 0 ≤ k ∧ k ≤ 1000001 := by
        simp at hx
        rcases hx with rfl | rfl
        · exact ⟨_, rfl, by omega, by omega⟩
        · exact ⟨_, rfl, by omega, by omega⟩
      obtain ⟨is, la, rfl⟩ : ∃ is la, ts = is ++ [la] := by
        cases ts with
        | nil => simp at he
        | cons x r => exact ⟨_, _, (List.dropLast_concat_getLast (l := x :: r) (by simp)).symm⟩
      have mp : (is ++ [la]).map bedD = is.map bedD ++ [bedD la] := by simp
      rw [mp] at pt
      simp only [mp, cut_init, List.dropLast_concat, mV_e, mC_e, mO_e, mOp_e, mUn_e, mT_e, mNotT_e, mAndT_e, mOrT_e, mAnd_e, mOr_e, mNot_e, mIf_e, mChain_e, mNil_e, mCons_e, mTup_e, mLst_e, mLk_e, mCat_e, mCB_e, mCL_e, vD_e, vL_e, vM0_e, mSkip_e, mSeq_e, mAsg_e, mRet_e, mIfS_e, mDrop_e, vNil_e, vCons_e, mPar_e, bName_e, bTup_e, bNil_e, bCons_e, mUnp_e, mFor_e, mForR_e, mForR2_e, mApp_e, mYes_e, mLc_e, mLcR_e, mLcR2_e, mLcZ_e, gNo_e, gE_e, gO_e, mCall_e, mFn_e, mIsi_e, mSS_e, mNo_e, mPt_e, mSl_e, mDG_e, mDGd_e, mDIn_e, mPut_e, mSD_e, mRetO_e, vDof_e, mForZ_e, wipeE, pow6, pow7, pow9, pow15, pow18, pow39, asM, List.replicate, List.cons_append, List.nil_append, List.getElem?_cons_zero, List.getElem?_cons_succ, enAll, List.set_cons_zero, List.set_cons_succ, Nat.reduceSub, List.length_cons, List.length_nil, decide_eq_true_eq, Nat.reduceAdd, Nat.reduceLeDiff, true_and, Bool.not_true, Bool.not_false, if_true, if_false, Bool.false_eq_true, Bool.not_eq_true', decide_eq_false_iff_not, Int.reduceLE, Int.reduceLT, Int.reduceNeg, Int.reduceSub, Int.reduceAdd, and_true, PyData.int.injEq, Nat.zero_add, Int.zero_add, Int.sub_zero, addW_ii, addW_ib, addW_bi, addW_tt, addW_ll, subW_ii, subW_ib, subW_bi, mulW_ii, fdivW_ii, modW_ii, negW_i, eqW_ii, eqW_ss, eqW_t0, eqW_l0, neW_ii, neW_ss, neW_t0, neW_l0, ltW_ii, leW_ii, gtW_ii, geW_ii, isW_n, isntW_n, ixW_l, ixW_t, lenW_l, lenW_t, absW_i, intW_i, intW_b, tupW_l, tupW_t, lstW_l, lstW_t, sumW_l, allW_l, anyW_l, minW_2, maxW_2, slW_t, slW_l, revW_t, revW_l, reprW_1, strW_i, strW_b, sortW_l, sortW_t, Option.some.injEq, exists_eq_left', exists_eq_left, dKey, exists_and_left, exists_const]
      obtain ⟨w, hw1, hw2, hw3⟩ := ht.row la (by simp)
      have hw4 := hw _ hw1
      simp only at hw4
      refine ⟨_, atI_last _ _, _, rfl, _, atI_last _ _, _, rfl, by simp at lt ⊢; omega, hq _ _ (vt (fun d hd => ?_) (by simp at lt ⊢; omega)) (by omega)⟩
      rcases List.mem_append.mp hd with hd | hd
      · exact pt d (List.mem_append_left _ hd)
      · simp at hd
        subst hd
        exact p2 (by omega) (by omega)
    · simp only [S_l_values_1, mV_e, mC_e, mO_e, mOp_e, mUn_e, mT_e, mNotT_e, mAndT_e, mOrT_e, mAnd_e, mOr_e, mNot_e, mIf_e, mChain_e, mNil_e, mCons_e, mTup_e, mLst_e, mLk_e, mCat_e, mCB_e, mCL_e, vD_e, vL_e, vM0_e, mSkip_e, mSeq_e, mAsg_e, mRet_e, mIfS_e, mDrop_e, vNil_e, vCons_e, mPar_e, bName_e, bTup_e, bNil_e, bCons_e, mUnp_e, mFor_e, mForR_e, mForR2_e, mApp_e, mYes_e, mLc_e, mLcR_e, mLcR2_e, mLcZ_e, gNo_e, gE_e, gO_e, mCall_e, mFn_e, mIsi_e, mSS_e, mNo_e, mPt_e, mSl_e, mDG_e, mDGd_e, mDIn_e, mPut_e, mSD_e, mRetO_e, vDof_e, mForZ_e, wipeE, pow6, pow7, pow9, pow15, pow18, pow39, asM, List.replicate, List.cons_append, List.nil_append, List.getElem?_cons_zero, List.getElem?_cons_succ, enAll, List.set_cons_zero, List.set_cons_succ, Nat.reduceSub, List.length_cons, List.length_nil, decide_eq_true_eq, Nat.reduceAdd, Nat.reduceLeDiff, true_and, Bool.not_true, Bool.not_false, if_true, if_false, Bool.false_eq_true, Bool.not_eq_true', decide_eq_false_iff_not, Int.reduceLE, Int.reduceLT, Int.reduceNeg, Int.reduceSub, Int.reduceAdd, and_true, PyData.int.injEq, Nat.zero_add, Int.zero_add, Int.sub_zero, addW_ii, addW_ib, addW_bi, addW_tt, addW_ll, subW_ii, subW_ib, subW_bi, mulW_ii, fdivW_ii, modW_ii, negW_i, eqW_ii, eqW_ss, eqW_t0, eqW_l0, neW_ii, neW_ss, neW_t0, neW_l0, ltW_ii, leW_ii, gtW_ii, geW_ii, isW_n, isntW_n, ixW_l, ixW_t, lenW_l, lenW_t, absW_i, intW_i, intW_b, tupW_l, tupW_t, lstW_l, lstW_t, sumW_l, allW_l, anyW_l, minW_2, maxW_2, slW_t, slW_l, revW_t, revW_l, reprW_1, strW_i, strW_b, sortW_l, sortW_t, Option.some.injEq, exists_eq_left', exists_eq_left, dKey, exists_and_left, exists_const]
      simp at hys
      refine ⟨by omega, q _ _ (fun d hd => ?_) (by simp; omega) (by omega)⟩
      rcases List.mem_append.mp hd with hd | hd
      · exact hv' d hd
      · exact hvy d hd
end K2

namespace K2
open PySem PySem.Spec PyProof.Rows L2 Evl Wp
theorem show_ok {t c : Int} {bs : List Bed} {v : PyData} (gs : Cn.Sz (10 ^ 39) 20000 3 (gardenD t c bs)) (hv : VOk v) : (PyData.list [gardenD t c bs, v]).showable = true ∧ (PyData.list [gardenD t c bs, v]).shown.length ≤ 1000000 ∧ (PyData.list [gardenD t c bs, v]).depth ≤ 50 := by
  have g2 := gs.mono (B' := 10 ^ 39 + 2) (by omega) (Nat.le_refl _) (Nat.le_refl _)
  have z : Cn.Sz (10 ^ 39 + 2) 100000 11 (.list [gardenD t c bs, v]) := Cn.sz_lst (by
    simp only [List.forall_mem_cons, List.not_mem_nil, false_implies, implies_true, and_true]
    exact ⟨g2.ok, hv.ok⟩) (by have h1 := g2.w; have h2 := hv.w; simp only [Cn.wvAll]; omega) (by
    simp only [List.forall_mem_cons, List.not_mem_nil, false_implies, implies_true, and_true]
    have h1 := g2.p
    have h2 := hv.p
    exact ⟨by omega, by omega⟩) (by omega)
  obtain ⟨h1, h2, h3⟩ := Cn.okV_show (by decide) _ z.ok
  have := z.w
  have := z.p
  exact ⟨h1, by omega, by omega⟩
theorem show_bool (c : Bool) : (PyData.bool c).showable = true ∧ (PyData.bool c).shown.length ≤ 1000000 ∧ (PyData.bool c).depth ≤ 50 := by
  cases c <;> refine ⟨rfl, by decide, by decide⟩
theorem ne_twice {x : Str} {R : PyData → Prop} (q : R (.bool false)) : neW (.list [.str x, .str x]) (.list [.str x, .str x]) R := by
  refine ⟨⟨rfl, rfl, by simp [PyData.depth, PyData.depthAll]⟩, ?_⟩
  have e : PyData.eqv (.list [.str x, .str x]) (.list [.str x, .str x]) = true := by simp [PyData.eqv, PyData.eqvAll]
  rw [e]
  exact q
theorem rngD_cons (i n : Nat) : rngD (i : Int) (n + 1) = .int (i : Int) :: rngD ((i + 1 : Nat) : Int) n := by
  unfold rngD
  rw [List.range_succ_eq_map]
  simp [Function.comp_def, Int.add_comm, Int.add_left_comm]
theorem value_turn {t c : Int} {bs : List Bed} {v : PyData} {s2 s7 s8 s9 : Sl} {b : Nat} {F : WEnds} (hp : ∀ b ∈ bs, -1000000 ≤ b.1 ∧ b.1 ≤ 1000000) (few : bs.length ≤ 1000) (gs : Cn.Sz (10 ^ 39) 20000 3 (gardenD t c bs)) (hv : VOk v) (q : ∀ s7 s8 s9, F.nx [.no, .s 1, s2, .no, .no, .d (gardenD t c bs), .d v, s7, s8, s9] b) :
    (mSeq S_law_9 (mSeq S_law_8 S_law_6)) [.no, .s 1, s2, .no, .no, .d (gardenD t c bs), .d v, s7, s8, s9] b F := by
  simp only [S_law_9, mV_e, mC_e, mO_e, mOp_e, mUn_e, mT_e, mNotT_e, mAndT_e, mOrT_e, mAnd_e, mOr_e, mNot_e, mIf_e, mChain_e, mNil_e, mCons_e, mTup_e, mLst_e, mLk_e, mCat_e, mCB_e, mCL_e, vD_e, vL_e, vM0_e, mSkip_e, mSeq_e, mAsg_e, mRet_e, mIfS_e, mDrop_e, vNil_e, vCons_e, mPar_e, bName_e, bTup_e, bNil_e, bCons_e, mUnp_e, mFor_e, mForR_e, mForR2_e, mApp_e, mYes_e, mLc_e, mLcR_e, mLcR2_e, mLcZ_e, gNo_e, gE_e, gO_e, mCall_e, mFn_e, mIsi_e, mSS_e, mNo_e, mPt_e, mSl_e, mDG_e, mDGd_e, mDIn_e, mPut_e, mSD_e, mRetO_e, vDof_e, mForZ_e, wipeE, pow6, pow7, pow9, pow15, pow18, pow39, asM, List.replicate, List.cons_append, List.nil_append, List.getElem?_cons_zero, List.getElem?_cons_succ, enAll, List.set_cons_zero, List.set_cons_succ, Nat.reduceSub, List.length_cons, List.length_nil, decide_eq_true_eq, Nat.reduceAdd, Nat.reduceLeDiff, true_and, Bool.not_true, Bool.not_false, if_true, if_false, Bool.false_eq_true, Bool.not_eq_true', decide_eq_false_iff_not, Int.reduceLE, Int.reduceLT, Int.reduceNeg, Int.reduceSub, Int.reduceAdd, and_true, PyData.int.injEq, Nat.zero_add, Int.zero_add, Int.sub_zero, addW_ii, addW_ib, addW_bi, addW_tt, addW_ll, subW_ii, subW_ib, subW_bi, mulW_ii, fdivW_ii, modW_ii, negW_i, eqW_ii, eqW_ss, eqW_t0, eqW_l0, neW_ii, neW_ss, neW_t0, neW_l0, ltW_ii, leW_ii, gtW_ii, geW_ii, isW_n, isntW_n, ixW_l, ixW_t, lenW_l, lenW_t, absW_i, intW_i, intW_b, tupW_l, tupW_t, lstW_l, lstW_t, sumW_l, allW_l, anyW_l, minW_2, maxW_2, slW_t, slW_l, revW_t, revW_l, reprW_1, strW_i, strW_b, sortW_l, sortW_t, Option.some.injEq, exists_eq_left', exists_eq_left, dKey, exists_and_left, exists_const]
  refine ⟨show_ok gs hv, ?_⟩
  refine l_is_trip_ok hp few ⟨show_bool _, ?_⟩
  simp only [S_law_8, mV_e, mC_e, mO_e, mOp_e, mUn_e, mT_e, mNotT_e, mAndT_e, mOrT_e, mAnd_e, mOr_e, mNot_e, mIf_e, mChain_e, mNil_e, mCons_e, mTup_e, mLst_e, mLk_e, mCat_e, mCB_e, mCL_e, vD_e, vL_e, vM0_e, mSkip_e, mSeq_e, mAsg_e, mRet_e, mIfS_e, mDrop_e, vNil_e, vCons_e, mPar_e, bName_e, bTup_e, bNil_e, bCons_e, mUnp_e, mFor_e, mForR_e, mForR2_e, mApp_e, mYes_e, mLc_e, mLcR_e, mLcR2_e, mLcZ_e, gNo_e, gE_e, gO_e, mCall_e, mFn_e, mIsi_e, mSS_e, mNo_e, mPt_e, mSl_e, mDG_e, mDGd_e, mDIn_e, mPut_e, mSD_e, mRetO_e, vDof_e, mForZ_e, wipeE, pow6, pow7, pow9, pow15, pow18, pow39, asM, List.replicate, List.cons_append, List.nil_append, List.getElem?_cons_zero, List.getElem?_cons_succ, enAll, List.set_cons_zero, List.set_cons_succ, Nat.reduceSub, List.length_cons, List.length_nil, decide_eq_true_eq, Nat.reduceAdd, Nat.reduceLeDiff, true_and, Bool.not_true, Bool.not_false, if_true, if_false, Bool.false_eq_true, Bool.not_eq_true', decide_eq_false_iff_not, Int.reduceLE, Int.reduceLT, Int.reduceNeg, Int.reduceSub, Int.reduceAdd, and_true, PyData.int.injEq, Nat.zero_add, Int.zero_add, Int.sub_zero, addW_ii, addW_ib, addW_bi, addW_tt, addW_ll, subW_ii, subW_ib, subW_bi, mulW_ii, fdivW_ii, modW_ii, negW_i, eqW_ii, eqW_ss, eqW_t0, eqW_l0, neW_ii, neW_ss, neW_t0, neW_l0, ltW_ii, leW_ii, gtW_ii, geW_ii, isW_n, isntW_n, ixW_l, ixW_t, lenW_l, lenW_t, absW_i, intW_i, intW_b, tupW_l, tupW_t, lstW_l, lstW_t, sumW_l, allW_l, anyW_l, minW_2, maxW_2, slW_t, slW_l, revW_t, revW_l, reprW_1, strW_i, strW_b, sortW_l, sortW_t, Option.some.injEq, exists_eq_left', exists_eq_left, dKey, exists_and_left, exists_const]
  refine ⟨by omega, ?_⟩
  have fl : ∀ ds, v = .tuple ds → ds.length ≤ 100000 := fun ds e => by
    subst e
    have h1 := hv.items.2.1
    have h2 := Cn.len_wv ds
    omega
  refine comp_map (fun _ => .str (PyData.bool (tripD c (bs.map (·.1)) v)).shown) _ _ _ _ (fun x hx Q hq => ?_) (by simp [rngD_len]) ?_
  · simp only [mV_e, mC_e, mO_e, mOp_e, mUn_e, mT_e, mNotT_e, mAndT_e, mOrT_e, mAnd_e, mOr_e, mNot_e, mIf_e, mChain_e, mNil_e, mCons_e, mTup_e, mLst_e, mLk_e, mCat_e, mCB_e, mCL_e, vD_e, vL_e, vM0_e, mSkip_e, mSeq_e, mAsg_e, mRet_e, mIfS_e, mDrop_e, vNil_e, vCons_e, mPar_e, bName_e, bTup_e, bNil_e, bCons_e, mUnp_e, mFor_e, mForR_e, mForR2_e, mApp_e, mYes_e, mLc_e, mLcR_e, mLcR2_e, mLcZ_e, gNo_e, gE_e, gO_e, mCall_e, mFn_e, mIsi_e, mSS_e, mNo_e, mPt_e, mSl_e, mDG_e, mDGd_e, mDIn_e, mPut_e, mSD_e, mRetO_e, vDof_e, mForZ_e, wipeE, pow6, pow7, pow9, pow15, pow18, pow39, asM, List.replicate, List.cons_append, List.nil_append, List.getElem?_cons_zero, List.getElem?_cons_succ, enAll, List.set_cons_zero, List.set_cons_succ, Nat.reduceSub, List.length_cons, List.length_nil, decide_eq_true_eq, Nat.reduceAdd, Nat.reduceLeDiff, true_and, Bool.not_true, Bool.not_false, if_true, if_false, Bool.false_eq_true, Bool.not_eq_true', decide_eq_false_iff_not, Int.reduceLE, Int.reduceLT, Int.reduceNeg, Int.reduceSub, Int.reduceAdd, and_true, PyData.int.injEq, Nat.zero_add, Int.zero_add, Int.sub_zero, addW_ii, addW_ib, addW_bi, addW_tt, addW_ll, subW_ii, subW_ib, subW_bi, mulW_ii, fdivW_ii, modW_ii, negW_i, eqW_ii, eqW_ss, eqW_t0, eqW_l0, neW_ii, neW_ss, neW_t0, neW_l0, ltW_ii, leW_ii, gtW_ii, geW_ii, isW_n, isntW_n, ixW_l, ixW_t, lenW_l, lenW_t, absW_i, intW_i, intW_b, tupW_l, tupW_t, lstW_l, lstW_t, sumW_l, allW_l, anyW_l, minW_2, maxW_2, slW_t, slW_l, revW_t, revW_l, reprW_1, strW_i, strW_b, sortW_l, sortW_t, Option.some.injEq, exists_eq_left', exists_eq_left, dKey, exists_and_left, exists_const]
    exact is_trip_ok few fl ⟨show_bool _, hq⟩
  · refine ne_twice ?_
    simp only [S_law_6, S_law_5, mV_e, mC_e, mO_e, mOp_e, mUn_e, mT_e, mNotT_e, mAndT_e, mOrT_e, mAnd_e, mOr_e, mNot_e, mIf_e, mChain_e, mNil_e, mCons_e, mTup_e, mLst_e, mLk_e, mCat_e, mCB_e, mCL_e, vD_e, vL_e, vM0_e, mSkip_e, mSeq_e, mAsg_e, mRet_e, mIfS_e, mDrop_e, vNil_e, vCons_e, mPar_e, bName_e, bTup_e, bNil_e, bCons_e, mUnp_e, mFor_e, mForR_e, mForR2_e, mApp_e, mYes_e, mLc_e, mLcR_e, mLcR2_e, mLcZ_e, gNo_e, gE_e, gO_e, mCall_e, mFn_e, mIsi_e, mSS_e, mNo_e, mPt_e, mSl_e, mDG_e, mDGd_e, mDIn_e, mPut_e, mSD_e, mRetO_e, vDof_e, mForZ_e, wipeE, pow6, pow7, pow9, pow15, pow18, pow39, asM, List.replicate, List.cons_append, List.nil_append, List.getElem?_cons_zero, List.getElem?_cons_succ, enAll, List.set_cons_zero, List.set_cons_succ, Nat.reduceSub, List.length_cons, List.length_nil, decide_eq_true_eq, Nat.reduceAdd, Nat.reduceLeDiff, true_and, Bool.not_true, Bool.not_false, if_true, if_false, Bool.false_eq_true, Bool.not_eq_true', decide_eq_false_iff_not, Int.reduceLE, Int.reduceLT, Int.reduceNeg, Int.reduceSub, Int.reduceAdd, and_true, PyData.int.injEq, Nat.zero_add, Int.zero_add, Int.sub_zero, addW_ii, addW_ib, addW_bi, addW_tt, addW_ll, subW_ii, subW_ib, subW_bi, mulW_ii, fdivW_ii, modW_ii, negW_i, eqW_ii, eqW_ss, eqW_t0, eqW_l0, neW_ii, neW_ss, neW_t0, neW_l0, ltW_ii, leW_ii, gtW_ii, geW_ii, isW_n, isntW_n, ixW_l, ixW_t, lenW_l, lenW_t, absW_i, intW_i, intW_b, tupW_l, tupW_t, lstW_l, lstW_t, sumW_l, allW_l, anyW_l, minW_2, maxW_2, slW_t, slW_l, revW_t, revW_l, reprW_1, strW_i, strW_b, sortW_l, sortW_t, Option.some.injEq, exists_eq_left', exists_eq_left, dKey, exists_and_left, exists_const]
    refine ⟨show_ok gs hv, ?_⟩
    exact q _ _ _
theorem values_loop {t c : Int} {bs : List Bed} {s2 : Sl} {F : WEnds} (hp : ∀ b ∈ bs, -1000000 ≤ b.1 ∧ b.1 ≤ 1000000) (few : bs.length ≤ 1000) (gs : Cn.Sz (10 ^ 39) 20000 3 (gardenD t c bs)) : ∀ (vs : List PyData) (s6 s7 s8 s9 : Sl) (b : Nat), (∀ d ∈ vs, VOk d) → (∀ s6 s7 s8 s9, F.nx [.no, .s 1, s2, .no, .no, .d (gardenD t c bs), s6, s7, s8, s9] b) →
    mTurns (bName 6) (mSeq S_law_9 (mSeq S_law_8 S_law_6)) vs [.no, .s 1, s2, .no, .no, .d (gardenD t c bs), s6, s7, s8, s9] b F
  | [], s6, s7, s8, s9, b, _, q => by simpa [mTurns] using q s6 s7 s8 s9
  | v :: vs, s6, s7, s8, s9, b, hv, q => by
    simp only [mTurns, bName_e, List.set_cons_zero, List.set_cons_succ]
    exact value_turn hp few gs (hv v (List.mem_cons_self ..)) fun s7 s8 s9 => values_loop hp few gs vs _ _ _ _ b (fun d hd => hv d (List.mem_cons_of_mem _ hd)) q
theorem garden_sz {most top t c : Int} {bs : List Bed} (h : GOk most top t c bs) (h1 : most ≤ 12) (h2 : top ≤ 1000000000) : Cn.Sz (10 ^ 39) 20000 3 (gardenD t c bs) := by
  have ht0 := h.t0
  have ht1 := h.t1
  have hc0 := h.c0
  have hc1 := h.c1
  have fw := h.few
  have z : Cn.Sz (10 ^ 39) 5000 2 (bedsD bs) := sz_p2 (fun d hd => by
    obtain ⟨x, hx, rfl⟩ := List.mem_map.mp hd
    have a1 := h.p0 x hx
    have a2 := h.p1 x hx
    have a3 := h.l0 x hx
    have a4 := h.l1 x hx
    exact p2 (by omega) (by omega)) (by simp; omega)
  refine Cn.sz_tup (by
    simp only [List.forall_mem_cons, List.not_mem_nil, false_implies, implies_true, and_true]
    exact ⟨ok_int (by omega), ok_int (by omega), z.ok⟩) (by have := z.w; simp only [Cn.wvAll, Cn.wv]; omega) (by
    simp only [List.forall_mem_cons, List.not_mem_nil, false_implies, implies_true, and_true]
    have := z.p
    exact ⟨by simp [Cn.dv], by simp [Cn.dv], by omega⟩) (by omega)
theorem turn_ok {i : Nat} {s5 s6 s7 s8 s9 : Sl} {b : Nat} {F : WEnds} (hb : b ≤ 400000000) (q : ∀ s5 s6 s7 s8 s9 b', b' ≤ b + 2060 → F.nx [.no, .s 1, .d (.int (i : Int)), .no, .no, s5, s6, s7, s8, s9] b') :
    (mSeq S_law_11 S_law_10) [.no, .s 1, .d (.int (i : Int)), .no, .no, s5, s6, s7, s8, s9] b F := by
  simp only [S_law_11, mV_e, mC_e, mO_e, mOp_e, mUn_e, mT_e, mNotT_e, mAndT_e, mOrT_e, mAnd_e, mOr_e, mNot_e, mIf_e, mChain_e, mNil_e, mCons_e, mTup_e, mLst_e, mLk_e, mCat_e, mCB_e, mCL_e, vD_e, vL_e, vM0_e, mSkip_e, mSeq_e, mAsg_e, mRet_e, mIfS_e, mDrop_e, vNil_e, vCons_e, mPar_e, bName_e, bTup_e, bNil_e, bCons_e, mUnp_e, mFor_e, mForR_e, mForR2_e, mApp_e, mYes_e, mLc_e, mLcR_e, mLcR2_e, mLcZ_e, gNo_e, gE_e, gO_e, mCall_e, mFn_e, mIsi_e, mSS_e, mNo_e, mPt_e, mSl_e, mDG_e, mDGd_e, mDIn_e, mPut_e, mSD_e, mRetO_e, vDof_e, mForZ_e, wipeE, pow6, pow7, pow9, pow15, pow18, pow39, asM, List.replicate, List.cons_append, List.nil_append, List.getElem?_cons_zero, List.getElem?_cons_succ, enAll, List.set_cons_zero, List.set_cons_succ, Nat.reduceSub, List.length_cons, List.length_nil, decide_eq_true_eq, Nat.reduceAdd, Nat.reduceLeDiff, true_and, Bool.not_true, Bool.not_false, if_true, if_false, Bool.false_eq_true, Bool.not_eq_true', decide_eq_false_iff_not, Int.reduceLE, Int.reduceLT, Int.reduceNeg, Int.reduceSub, Int.reduceAdd, and_true, PyData.int.injEq, Nat.zero_add, Int.zero_add, Int.sub_zero, addW_ii, addW_ib, addW_bi, addW_tt, addW_ll, subW_ii, subW_ib, subW_bi, mulW_ii, fdivW_ii, modW_ii, negW_i, eqW_ii, eqW_ss, eqW_t0, eqW_l0, neW_ii, neW_ss, neW_t0, neW_l0, ltW_ii, leW_ii, gtW_ii, geW_ii, isW_n, isntW_n, ixW_l, ixW_t, lenW_l, lenW_t, absW_i, intW_i, intW_b, tupW_l, tupW_t, lstW_l, lstW_t, sumW_l, allW_l, anyW_l, minW_2, maxW_2, slW_t, slW_l, revW_t, revW_l, reprW_1, strW_i, strW_b, sortW_l, sortW_t, Option.some.injEq, exists_eq_left', exists_eq_left, dKey, exists_and_left, exists_const]
  refine pick_int [12, 3, 5] rfl (by omega) (by simp; omega) fun most hm => ?_
  have hm' : 1 ≤ most ∧ most ≤ 12 := by simp at hm; omega
  refine pick_int [1000000000, 9] rfl (by omega) (by simp; omega) fun top ht => ?_
  have ht' : 1 ≤ top ∧ top ≤ 1000000000 := by simp at ht; omega
  refine garden_ok hm'.1 hm'.2 ht'.1 ht'.2 (by omega) fun t c bs b1 g hb1 => ?_
  simp only [S_law_10, mV_e, mC_e, mO_e, mOp_e, mUn_e, mT_e, mNotT_e, mAndT_e, mOrT_e, mAnd_e, mOr_e, mNot_e, mIf_e, mChain_e, mNil_e, mCons_e, mTup_e, mLst_e, mLk_e, mCat_e, mCB_e, mCL_e, vD_e, vL_e, vM0_e, mSkip_e, mSeq_e, mAsg_e, mRet_e, mIfS_e, mDrop_e, vNil_e, vCons_e, mPar_e, bName_e, bTup_e, bNil_e, bCons_e, mUnp_e, mFor_e, mForR_e, mForR2_e, mApp_e, mYes_e, mLc_e, mLcR_e, mLcR2_e, mLcZ_e, gNo_e, gE_e, gO_e, mCall_e, mFn_e, mIsi_e, mSS_e, mNo_e, mPt_e, mSl_e, mDG_e, mDGd_e, mDIn_e, mPut_e, mSD_e, mRetO_e, vDof_e, mForZ_e, wipeE, pow6, pow7, pow9, pow15, pow18, pow39, asM, List.replicate, List.cons_append, List.nil_append, List.getElem?_cons_zero, List.getElem?_cons_succ, enAll, List.set_cons_zero, List.set_cons_succ, Nat.reduceSub, List.length_cons, List.length_nil, decide_eq_true_eq, Nat.reduceAdd, Nat.reduceLeDiff, true_and, Bool.not_true, Bool.not_false, if_true, if_false, Bool.false_eq_true, Bool.not_eq_true', decide_eq_false_iff_not, Int.reduceLE, Int.reduceLT, Int.reduceNeg, Int.reduceSub, Int.reduceAdd, and_true, PyData.int.injEq, Nat.zero_add, Int.zero_add, Int.sub_zero, addW_ii, addW_ib, addW_bi, addW_tt, addW_ll, subW_ii, subW_ib, subW_bi, mulW_ii, fdivW_ii, modW_ii, negW_i, eqW_ii, eqW_ss, eqW_t0, eqW_l0, neW_ii, neW_ss, neW_t0, neW_l0, ltW_ii, leW_ii, gtW_ii, geW_ii, isW_n, isntW_n, ixW_l, ixW_t, lenW_l, lenW_t, absW_i, intW_i, intW_b, tupW_l, tupW_t, lstW_l, lstW_t, sumW_l, allW_l, anyW_l, minW_2, maxW_2, slW_t, slW_l, revW_t, revW_l, reprW_1, strW_i, strW_b, sortW_l, sortW_t, Option.some.injEq, exists_eq_left', exists_eq_left, dKey, exists_and_left, exists_const]
  refine values_ok g hm'.2 ht'.2 (by omega) fun vs b2 hv _ hb2 => ?_
  have fw := g.few
  exact values_loop (fun x hx => ⟨g.p0 x hx, g.p1 x hx⟩) (by omega) (garden_sz g hm'.2 ht'.2) vs _ _ _ _ b2 hv fun s6 s7 s8 s9 => q _ _ _ _ _ b2 (by omega)
theorem turns_ok {F : WEnds} : ∀ (n i : Nat) (s2 s5 s6 s7 s8 s9 : Sl) (b : Nat), b + 2060 * n ≤ 300000000 → (∀ s2 s5 s6 s7 s8 s9 b', F.nx [.no, .s 1, s2, .no, .no, s5, s6, s7, s8, s9] b') → mTurns (bName 2) (mSeq S_law_11 S_law_10) (rngD (i : Int) n) [.no, .s 1, s2, .no, .no, s5, s6, s7, s8, s9] b F
  | 0, i, s2, s5, s6, s7, s8, s9, b, _, q => by simpa [mTurns, rngD] using q s2 s5 s6 s7 s8 s9 b
  | n + 1, i, s2, s5, s6, s7, s8, s9, b, hb, q => by
    rw [show rngD (i : Int) (n + 1) = .int (i : Int) :: rngD ((i + 1 : Nat) : Int) n from rngD_cons i n]
    simp only [mTurns, bName_e, List.set_cons_zero, List.set_cons_succ]
    exact turn_ok (by omega) fun s5 s6 s7 s8 s9 b' hb' => turns_ok n (i + 1) _ _ _ _ _ _ b' (by omega) q
theorem law_ok : B_law (.no :: .s 1 :: List.replicate (N_law.length - 2) .no) 0 lawF := by
  simp only [B_law, S_law_12, List.length_cons, List.length_nil, Nat.zero_add, Nat.reduceAdd, mV_e, mC_e, mO_e, mOp_e, mUn_e, mT_e, mNotT_e, mAndT_e, mOrT_e, mAnd_e, mOr_e, mNot_e, mIf_e, mChain_e, mNil_e, mCons_e, mTup_e, mLst_e, mLk_e, mCat_e, mCB_e, mCL_e, vD_e, vL_e, vM0_e, mSkip_e, mSeq_e, mAsg_e, mRet_e, mIfS_e, mDrop_e, vNil_e, vCons_e, mPar_e, bName_e, bTup_e, bNil_e, bCons_e, mUnp_e, mFor_e, mForR_e, mForR2_e, mApp_e, mYes_e, mLc_e, mLcR_e, mLcR2_e, mLcZ_e, gNo_e, gE_e, gO_e, mCall_e, mFn_e, mIsi_e, mSS_e, mNo_e, mPt_e, mSl_e, mDG_e, mDGd_e, mDIn_e, mPut_e, mSD_e, mRetO_e, vDof_e, mForZ_e, wipeE, pow6, pow7, pow9, pow15, pow18, pow39, asM, List.replicate, List.cons_append, List.nil_append, List.getElem?_cons_zero, List.getElem?_cons_succ, enAll, List.set_cons_zero, List.set_cons_succ, Nat.reduceSub, List.length_cons, List.length_nil, decide_eq_true_eq, Nat.reduceAdd, Nat.reduceLeDiff, true_and, Bool.not_true, Bool.not_false, if_true, if_false, Bool.false_eq_true, Bool.not_eq_true', decide_eq_false_iff_not, Int.reduceLE, Int.reduceLT, Int.reduceNeg, Int.reduceSub, Int.reduceAdd, and_true, PyData.int.injEq, Nat.zero_add, Int.zero_add, Int.sub_zero, addW_ii, addW_ib, addW_bi, addW_tt, addW_ll, subW_ii, subW_ib, subW_bi, mulW_ii, fdivW_ii, modW_ii, negW_i, eqW_ii, eqW_ss, eqW_t0, eqW_l0, neW_ii, neW_ss, neW_t0, neW_l0, ltW_ii, leW_ii, gtW_ii, geW_ii, isW_n, isntW_n, ixW_l, ixW_t, lenW_l, lenW_t, absW_i, intW_i, intW_b, tupW_l, tupW_t, lstW_l, lstW_t, sumW_l, allW_l, anyW_l, minW_2, maxW_2, slW_t, slW_l, revW_t, revW_l, reprW_1, strW_i, strW_b, sortW_l, sortW_t, Option.some.injEq, exists_eq_left', exists_eq_left, dKey, exists_and_left, exists_const]
  refine ⟨by omega, ?_⟩
  refine turns_ok 9 0 _ _ _ _ _ _ _ (by omega) fun s2 s5 s6 s7 s8 s9 b => ?_
  simp only [S_law_4, S_law_3, S_law_2, S_law_1, mV_e, mC_e, mO_e, mOp_e, mUn_e, mT_e, mNotT_e, mAndT_e, mOrT_e, mAnd_e, mOr_e, mNot_e, mIf_e, mChain_e, mNil_e, mCons_e, mTup_e, mLst_e, mLk_e, mCat_e, mCB_e, mCL_e, vD_e, vL_e, vM0_e, mSkip_e, mSeq_e, mAsg_e, mRet_e, mIfS_e, mDrop_e, vNil_e, vCons_e, mPar_e, bName_e, bTup_e, bNil_e, bCons_e, mUnp_e, mFor_e, mForR_e, mForR2_e, mApp_e, mYes_e, mLc_e, mLcR_e, mLcR2_e, mLcZ_e, gNo_e, gE_e, gO_e, mCall_e, mFn_e, mIsi_e, mSS_e, mNo_e, mPt_e, mSl_e, mDG_e, mDGd_e, mDIn_e, mPut_e, mSD_e, mRetO_e, vDof_e, mForZ_e, wipeE, pow6, pow7, pow9, pow15, pow18, pow39, asM, List.replicate, List.cons_append, List.nil_append, List.getElem?_cons_zero, List.getElem?_cons_succ, enAll, List.set_cons_zero, List.set_cons_succ, Nat.reduceSub, List.length_cons, List.length_nil, decide_eq_true_eq, Nat.reduceAdd, Nat.reduceLeDiff, true_and, Bool.not_true, Bool.not_false, if_true, if_false, Bool.false_eq_true, Bool.not_eq_true', decide_eq_false_iff_not, Int.reduceLE, Int.reduceLT, Int.reduceNeg, Int.reduceSub, Int.reduceAdd, and_true, PyData.int.injEq, Nat.zero_add, Int.zero_add, Int.sub_zero, addW_ii, addW_ib, addW_bi, addW_tt, addW_ll, subW_ii, subW_ib, subW_bi, mulW_ii, fdivW_ii, modW_ii, negW_i, eqW_ii, eqW_ss, eqW_t0, eqW_l0, neW_ii, neW_ss, neW_t0, neW_l0, ltW_ii, leW_ii, gtW_ii, geW_ii, isW_n, isntW_n, ixW_l, ixW_t, lenW_l, lenW_t, absW_i, intW_i, intW_b, tupW_l, tupW_t, lstW_l, lstW_t, sumW_l, allW_l, anyW_l, minW_2, maxW_2, slW_t, slW_l, revW_t, revW_l, reprW_1, strW_i, strW_b, sortW_l, sortW_t, Option.some.injEq, exists_eq_left', exists_eq_left, dKey, exists_and_left, exists_const]
  refine ⟨by omega, ?_⟩
  refine comp_map (fun x => .bool (tripD 2 [0, 1] x)) _ _ _ _ (fun x hx Q hq => ?_) (by simp) ?_
  · simp only [mV_e, mC_e, mO_e, mOp_e, mUn_e, mT_e, mNotT_e, mAndT_e, mOrT_e, mAnd_e, mOr_e, mNot_e, mIf_e, mChain_e, mNil_e, mCons_e, mTup_e, mLst_e, mLk_e, mCat_e, mCB_e, mCL_e, vD_e, vL_e, vM0_e, mSkip_e, mSeq_e, mAsg_e, mRet_e, mIfS_e, mDrop_e, vNil_e, vCons_e, mPar_e, bName_e, bTup_e, bNil_e, bCons_e, mUnp_e, mFor_e, mForR_e, mForR2_e, mApp_e, mYes_e, mLc_e, mLcR_e, mLcR2_e, mLcZ_e, gNo_e, gE_e, gO_e, mCall_e, mFn_e, mIsi_e, mSS_e, mNo_e, mPt_e, mSl_e, mDG_e, mDGd_e, mDIn_e, mPut_e, mSD_e, mRetO_e, vDof_e, mForZ_e, wipeE, pow6, pow7, pow9, pow15, pow18, pow39, asM, List.replicate, List.cons_append, List.nil_append, List.getElem?_cons_zero, List.getElem?_cons_succ, enAll, List.set_cons_zero, List.set_cons_succ, Nat.reduceSub, List.length_cons, List.length_nil, decide_eq_true_eq, Nat.reduceAdd, Nat.reduceLeDiff, true_and, Bool.not_true, Bool.not_false, if_true, if_false, Bool.false_eq_true, Bool.not_eq_true', decide_eq_false_iff_not, Int.reduceLE, Int.reduceLT, Int.reduceNeg, Int.reduceSub, Int.reduceAdd, and_true, PyData.int.injEq, Nat.zero_add, Int.zero_add, Int.sub_zero, addW_ii, addW_ib, addW_bi, addW_tt, addW_ll, subW_ii, subW_ib, subW_bi, mulW_ii, fdivW_ii, modW_ii, negW_i, eqW_ii, eqW_ss, eqW_t0, eqW_l0, neW_ii, neW_ss, neW_t0, neW_l0, ltW_ii, leW_ii, gtW_ii, geW_ii, isW_n, isntW_n, ixW_l, ixW_t, lenW_l, lenW_t, absW_i, intW_i, intW_b, tupW_l, tupW_t, lstW_l, lstW_t, sumW_l, allW_l, anyW_l, minW_2, maxW_2, slW_t, slW_l, revW_t, revW_l, reprW_1, strW_i, strW_b, sortW_l, sortW_t, Option.some.injEq, exists_eq_left', exists_eq_left, dKey, exists_and_left, exists_const]
    refine is_trip_ok (t := 0) (c := 2) (bs := [(0, 1), (1, 1)]) (by decide) (fun ds e => ?_) hq
    subst e
    simp at hx
    rcases hx with rfl | rfl | rfl | rfl | rfl | rfl <;> simp
  · exact ⟨⟨rfl, rfl, by decide⟩, rfl⟩
end K2

namespace K2
open PySem PySem.Spec PyProof.Rows L2 Evl
section
open Cn
variable {P : Program} {w : World} {K : PySem.W.Frag} {mg : Str → Option Value} {base : Heap}
theorem ok_l_deck {f : Addr} {fd : FuncData} (F : Fun K "_law_deck" "_law_deck" s_l_deck f fd) (m_abs : mg "abs" = none) : FnOk P w K mg base CX0 1 f fd ["_law_script"] (spDeck K) := by
  refine F.ok sc_l_deck (fun vs H Q E h => ?_) (fun cdv A outer s H vs Q E hr h => ?_)
  · obtain ⟨a, ns, rfl, _⟩ := h
    rfl
  · obtain ⟨a, ns, rfl, hs, few, q⟩ := h
    refine ⟨_, (pss_one (ps_ret (pe_lst (pa_cons (pe_lc (own := [("_law_cell", 1)]) (g := (gName 1)) rfl sc_l_deck.nd (pi_listK (K := K) rfl (pe_slice (sl_listK (K := K) rfl) (pv 0) po_none (po_some pe_int))) (blkOk_by (N := N_l_deck) (sc := defScope s_l_deck) (by decide +kernel)) (fun _ _ _ _ _ => (pg_name (i := 1) sc_l_deck.nd rfl (.inl rfl))) (fun _ _ _ _ _ => pts_nil) (fun _ _ _ _ _ => (pe_callB call_abs (by rfl) m_abs (by decide +kernel) (pa_cons (pv 1) pa_nil)))) (pa_cons pe_int pa_nil))))), ?_⟩
    have hL := el_sl (K := K) (te := tVar 0) (σ := start N_l_deck [.ref a]) (H := H) (a := a) (ev_var rfl) eo_none (eo_some (te := tC (.int 63)) (i := 63) ev_c) hs
    rw [show ((63 : Int) = ((63 : Nat) : Int)) from rfl, cutTo _ 63 (by rw [List.length_map]; exact few)] at hL
    have hC := el_lcNL (K := K) (t := tYes) (te := tCB (fun xs H Q => ∃ i, xs = [V.int i] ∧ Q (.int (if i < 0 then -i else i)) H) (tCons (tVar 1) tNil)) (j := 1) (vs := [1]) (fun _ => true) (fun i => .int (if ns.getD i 0 < 0 then -ns.getD i 0 else ns.getD i 0)) hL (by rw [List.length_map]; omega) (fun _ => rfl) (fun _ _ _ _ _ => et_yes) (by
      intro i x H1 e1 hx _ H2 e2 Q2 k
      have hi : i < ns.length := by
        have := (List.getElem?_eq_some_iff.mp hx).1
        rw [List.length_map] at this
        exact this
      rw [List.getElem?_map, List.getElem?_eq_getElem hi] at hx
      cases hx
      refine ⟨_, rfl, _, rfl, ?_⟩
      have e : ns.getD i 0 = ns[i] := by simp [List.getD, List.getElem?_eq_getElem hi]
      rw [e] at k
      exact k H2 (Ex.refl H2))
    rw [List.length_map, given_map ns (fun z => .int (if z < 0 then -z else z)) _ (fun i z e => by simp [List.getD, e])] at hC
    dsimp only [tRet, tLst, tCons, tC, tNil]
    refine hC H (Ex.refl H) _ ?_
    refine fun p H1 np e1 h1 => ⟨by show 2 ≤ sizeLine; decide, fun D nD => ?_⟩
    have eN := Ex.new (o := .lst [.ref p, .int 0]) nD
    refine q D p _ (fresh_back e1 nD) np (e1.trans eN) ⟨0, ns.map fun z => if z < 0 then -z else z, ⟨upd_same, ?_⟩, by omega, by omega, by rw [List.length_map]; exact few, ?_⟩
    · rw [List.map_map]
      exact eN p _ h1
    · intro x hx
      obtain ⟨z, _, rfl⟩ := List.mem_map.mp hx
      split <;> omega
theorem ok_l_draw {f : Addr} {fd : FuncData} (F : Fun K "_law_draw" "_law_draw" s_l_draw f fd) (m_len : mg "len" = none) : FnOk P w K mg base CX0 1 f fd ["_law_deck_here", "_law_limit"] spDraw := by
  refine F.ok sc_l_draw (fun vs H Q E h => ?_) (fun cdv A outer s H vs Q E hr h => ?_)
  · obtain ⟨D, C, m, k, rfl, _⟩ := h
    rfl
  · obtain ⟨D, C, m, k, rfl, ⟨n, cs, dk, n0, nm, cl, cpos⟩, mb, k1, k2, q⟩ := h
    refine ⟨_, (pss_cons (ps_asg (pe_op op_add (pe_ix (ix_listK (K := K) rfl) (pv 0) pe_int (fun _ _ => rfl)) pe_int) (pg_sub (pv 0) pe_int set_list))
    (pss_cons (ps_asg (pe_tup (pa_cons pe_int (pa_cons (pe_un un_neg pe_int) pa_nil))) (pg_tup rfl (pgs_cons (pg_name (i := 2) sc_l_draw.nd rfl (.inl rfl)) (pgs_cons (pg_name (i := 3) sc_l_draw.nd rfl (.inl rfl)) pgs_nil))))
    (pss_cut (ps_if (pt_cmpR op_gt (pe_callB (call_lenK (K := K) rfl) (by rfl) m_len PySem.boot_len (pa_cons (pe_ix (ix_listK (K := K) rfl) (pv 0) pe_int (fun _ _ => rfl)) pa_nil)) pe_int (nomark _)) (pss_cons (ps_set (i := 3) sc_l_draw.nd rfl (.inl rfl) (pe_op op_mod (pe_ix (ix_listK (K := K) rfl) (pv 0) pe_int (fun _ _ => rfl)) (pe_callB (call_lenK (K := K) rfl) (by rfl) m_len PySem.boot_len (pa_cons (pe_ix (ix_listK (K := K) rfl) (pv 0) pe_int (fun _ _ => rfl)) pa_nil))))
    (pss_one (ps_set (i := 2) sc_l_draw.nd rfl (.inl rfl) (pe_ix (ix_listK (K := K) rfl) (pe_ix (ix_listK (K := K) rfl) (pv 0) pe_int (fun _ _ => rfl)) (pv 3) (fun _ _ => rfl))))) pss_nil)
    (pss_cons (ps_if (pt_cmpR op_ge (pv 2) (pe_op op_pow pe_int pe_int) (nomark _)) (pss_cons (ps_asg (pe_op op_fdiv (pv 2) (pv 1)) (pg_sub (pe_ix (ix_listK (K := K) rfl) (pv 0) pe_int (fun _ _ => rfl)) (pv 3) set_list))
    (pss_one (ps_ret (pe_op op_mod (pv 2) (pv 1))))) pss_nil)
    (pss_one (ps_ret (pe_op op_mod (pe_op op_fdiv (pe_op op_mod (pe_op op_pow (pe_op op_add (pe_op op_add (pe_op op_mod (pv 2) pe_int) (pe_op op_mul pe_int (pe_ix (ix_listK (K := K) rfl) (pv 0) pe_int (fun _ _ => rfl)))) pe_int) pe_int) pe_int) pe_int) (pv 1)))))))), ?_⟩
    have hDC := dk.ne
    refine q_setL (l := D) (xs := [.ref C, .int n]) (j := 1) (v := .int (n + 1)) dk.hD ?_ (ev_var rfl) ev_c (by simp) ?_
    · exact ev_op (ev_op (ev_var rfl) ev_c (rv_ixL (sq_of dk.hD) rfl)) ev_c rv_I0
    intro H1 e1
    have d1 : DeckN D C (n + 1) cs (upd H1 D (.lst [.ref C, .int (n + 1)])) := ⟨upd_same, by rw [upd_ne hDC.symm]; exact e1 _ _ dk.hC⟩
    have k1' : Kp D C H (upd H1 D (.lst [.ref C, .int (n + 1)])) := (Kp.ex e1).trans Kp.setD
    show tSeq _ _ _ _ (upd H1 D (.lst [.ref C, .int (n + 1)]))
    generalize upd H1 D (.lst [.ref C, .int (n + 1)]) = H2 at d1 k1'
    refine ⟨1, rfl, by decide, fun p np => ⟨p, _, rfl, st_of upd_same, rfl, .int 0, _, rfl, .int (-1), _, rfl, rfl, ?_⟩⟩
    have d2 := d1.ex (Ex.new (o := .tup [.int 0, .int (-1)]) np)
    have k2' := k1'.trans (Kp.ex (Ex.new (o := .tup [.int 0, .int (-1)]) np))
    dsimp only [gName]
    show tCut _ _ _ _ (upd H2 p (.tup [.int 0, .int (-1)]))
    generalize upd H2 p (.tup [.int 0, .int (-1)]) = H3 at d2 k2'
    refine q_cut (M := fun σ' H' => ∃ cell idx, σ' = [some (.ref D), some (.int k), some (.int cell), some (.int idx)] ∧ Kp D C H H' ∧ DeckN D C (n + 1) cs H' ∧ 0 ≤ cell ∧ (cell < 1000000000000000000 ∨ ∃ j : Nat, j < cs.length ∧ idx = (j : Int))) ?_ ?_
    · refine s_when (b := decide ((0 : Int) < (cs.map V.int).length)) ?_ ?_ ?_
      · exact et_test (ev_op (ev_len (ev_op (ev_var rfl) ev_c (rv_ixL (sq_of d2.hD) rfl)) (sq_of d2.hC)) ev_c rv_I0)
      · intro hc H4 e4
        have hc := of_decide_eq_true hc
        rw [List.length_map] at hc
        have d4 := d2.ex e4
        have i0 : 0 ≤ (n + 1) % (cs.length : Int) := Int.emod_nonneg _ (by omega)
        have i1 : (n + 1) % (cs.length : Int) < cs.length := Int.emod_lt_of_pos _ hc
        obtain ⟨j, hj⟩ : ∃ j : Nat, (n + 1) % (cs.length : Int) = j := ⟨((n + 1) % (cs.length : Int)).toNat, by omega⟩
        have jl : j < cs.length := by omega
        refine q_asg (v := .int j) ?_ ?_
        · refine ev_is (ev_op (ev_op (ev_var rfl) ev_c (rv_ixL (sq_of d4.hD) rfl)) (ev_len (ev_op (ev_var rfl) ev_c (rv_ixL (sq_of d4.hD) rfl)) (sq_of d4.hC)) (rv_I (by rw [List.length_map]; exact hc))) ?_
          rw [List.length_map, hj]
        intro H5 e5
        have d5 := d4.ex e5
        refine s_asg (v := .int cs[j]) ?_ ?_
        · exact ev_op (ev_op (ev_var rfl) ev_c (rv_ixL (sq_of d5.hD) rfl)) (ev_var rfl) (rv_ixL (sq_of d5.hC) (atI_nat (by rw [List.getElem?_map, List.getElem?_eq_getElem jl]; rfl)))
        intro H6 e6
        exact ⟨cs[j], j, rfl, k2'.trans (Kp.ex ((e4.trans e5).trans e6)), d5.ex e6, cpos _ (List.getElem_mem jl), .inr ⟨j, jl, rfl⟩⟩
      · intro hc H4 e4
        exact ⟨0, -1, rfl, k2'.trans (Kp.ex e4), d2.ex e4, by omega, .inl (by omega)⟩
    · rintro σ' H' ⟨cell, idx, rfl, kp, d, c0, hx⟩
      refine q_when (b := decide ((1000000000000000000 : Int) ≤ cell)) ?_ ?_ ?_
      · refine et_is (et_ge (ev_var rfl) (ev_op ev_c ev_c (rv_I (by refine ⟨by decide, by decide, by decide⟩)))) ?_
        rw [pow18]
      · intro hc H4 e4
        have hc := of_decide_eq_true hc
        have d4 := d.ex e4
        rcases hx with hx | ⟨j, jl, rfl⟩
        · omega
        refine q_setL (l := C) (xs := cs.map V.int) (j := j) (v := .int (cell / k)) d4.hC ?_ ?_ (ev_var rfl) (by rw [List.length_map]; exact jl) ?_
        · exact ev_op (ev_var rfl) (ev_var rfl) (rv_I ⟨by omega, by omega⟩)
        · exact ev_op (ev_var rfl) ev_c (rv_ixL (sq_of d4.hD) rfl)
        intro H5 e5
        refine s_ret (v := .int (cell % k)) ?_ ?_
        · exact ev_op (ev_var rfl) (ev_var rfl) (rv_I (by omega))
        intro H6 e6
        have d5 := d4.ex e5
        refine q _ _ (Int.emod_nonneg _ (by omega)) (Int.emod_lt_of_pos _ (by omega)) (((kp.trans (Kp.ex (e4.trans e5))).trans Kp.setC).trans (Kp.ex e6)) (Deck.ex e6 ⟨n + 1, cs.set j (cell / k), ⟨?_, ?_⟩, by omega, by omega, by rw [List.length_set]; exact cl, ?_⟩)
        · rw [upd_ne hDC]; exact d5.hD
        · rw [upd_same, List.map_set]
        · intro x hx
          rcases List.mem_or_eq_of_mem_set hx with h | h
          · exact cpos x h
          · rw [h]; exact Int.ediv_nonneg c0 (by omega)
      · intro hc H4 e4
        have d4 := d.ex e4
        have b0 : 0 ≤ cell % 2147483587 := Int.emod_nonneg _ (by decide)
        have b1 : cell % 2147483587 < 2147483587 := Int.emod_lt_of_pos _ (by decide)
        refine s_ret (v := .int (((cell % 2147483587 + 7919 * (n + 1) + 1) ^ (5 : Int).toNat) % 2147483647 / 7 % k)) ?_ ?_
        · refine ev_op (ev_op (ev_op (ev_op (ev_op (ev_op (ev_op (ev_var rfl) ev_c (rv_I ?_)) (ev_op ev_c (ev_op (ev_var rfl) ev_c (rv_ixL (sq_of d4.hD) rfl)) (rv_I ?_)) rv_I0) ev_c rv_I0) ev_c (rv_I ?_)) ev_c (rv_I ?_)) ev_c (rv_I ?_)) (ev_var rfl) (rv_I ?_)
          · decide
          · exact .inl ⟨by decide, by decide⟩
          · refine ⟨by decide, by decide, ?_⟩
            have : (2 : Nat) ^ 64 = 18446744073709551616 := by decide
            omega
          · decide
          · exact ⟨by decide, by decide⟩
          · omega
        intro H5 e5
        exact q _ _ (Int.emod_nonneg _ (by omega)) (Int.emod_lt_of_pos _ (by omega)) (kp.trans (Kp.ex (e4.trans e5))) (Deck.ex e5 ⟨n + 1, cs, d4, by omega, by omega, cl, cpos⟩)
end
open Wp
theorem all_mk {l : PySem.W.OpenLaw} {w : World} {K : PySem.W.Frag} {h : Heap} {mg : Str → Option Value} {fa : Addr} (X : K.In h) (G : h.Ns mainGlobals mg) (hfa : mg "law" = some (.ref fa))
    {od_l_deck an_l_deck : Option Addr} {sl_l_deck : Array (Option Value)} {oc_l_deck kV_l_deck dc_l_deck pm_l_deck cd_l_deck ct_l_deck : Value} {f_l_deck : Addr}
    (a_l_deck : PySem.W.nsIn K mainGlobals "_law_deck" = some (some (.ref f_l_deck)))
    (l_l_deck : K.lookup f_l_deck = some ⟨oc_l_deck, od_l_deck, .func (PySem.W.fnOf "_law_deck" "_law_deck" (defArgs s_l_deck) (defBody s_l_deck) (defScope s_l_deck) .none kV_l_deck dc_l_deck pm_l_deck an_l_deck cd_l_deck ct_l_deck), sl_l_deck⟩)
    (c_l_deck : PySem.W.codeIn K cd_l_deck "_law_deck" = true) (k_l_deck : PySem.W.keepIn K (.ref f_l_deck) = true)
    {od_l_draw an_l_draw : Option Addr} {sl_l_draw : Array (Option Value)} {oc_l_draw kV_l_draw dc_l_draw pm_l_draw cd_l_draw ct_l_draw : Value} {f_l_draw : Addr}
    (a_l_draw : PySem.W.nsIn K mainGlobals "_law_draw" = some (some (.ref f_l_draw)))
    (l_l_draw : K.lookup f_l_draw = some ⟨oc_l_draw, od_l_draw, .func (PySem.W.fnOf "_law_draw" "_law_draw" (defArgs s_l_draw) (defBody s_l_draw) (defScope s_l_draw) .none kV_l_draw dc_l_draw pm_l_draw an_l_draw cd_l_draw ct_l_draw), sl_l_draw⟩)
    (c_l_draw : PySem.W.codeIn K cd_l_draw "_law_draw" = true) (k_l_draw : PySem.W.keepIn K (.ref f_l_draw) = true)
    {od_l_garden an_l_garden : Option Addr} {sl_l_garden : Array (Option Value)} {oc_l_garden kV_l_garden dc_l_garden pm_l_garden cd_l_garden ct_l_garden : Value} {f_l_garden : Addr}
    (a_l_garden : PySem.W.nsIn K mainGlobals "_law_garden" = some (some (.ref f_l_garden)))
    (l_l_garden : K.lookup f_l_garden = some ⟨oc_l_garden, od_l_garden, .func (PySem.W.fnOf "_law_garden" "_law_garden" (defArgs s_l_garden) (defBody s_l_garden) (defScope s_l_garden) .none kV_l_garden dc_l_garden pm_l_garden an_l_garden cd_l_garden ct_l_garden), sl_l_garden⟩)
    (c_l_garden : PySem.W.codeIn K cd_l_garden "_law_garden" = true) (k_l_garden : PySem.W.keepIn K (.ref f_l_garden) = true)
    {od_l_is_number an_l_is_number : Option Addr} {sl_l_is_number : Array (Option Value)} {oc_l_is_number kV_l_is_number dc_l_is_number pm_l_is_number cd_l_is_number ct_l_is_number : Value} {f_l_is_number : Addr}
    (a_l_is_number : PySem.W.nsIn K mainGlobals "_law_is_number" = some (some (.ref f_l_is_number)))
    (l_l_is_number : K.lookup f_l_is_number = some ⟨oc_l_is_number, od_l_is_number, .func (PySem.W.fnOf "_law_is_number" "_law_is_number" (defArgs s_l_is_number) (defBody s_l_is_number) (defScope s_l_is_number) .none kV_l_is_number dc_l_is_number pm_l_is_number an_l_is_number cd_l_is_number ct_l_is_number), sl_l_is_number⟩)
    (c_l_is_number : PySem.W.codeIn K cd_l_is_number "_law_is_number" = true) (k_l_is_number : PySem.W.keepIn K (.ref f_l_is_number) = true)
    {od_l_is_trip an_l_is_trip : Option Addr} {sl_l_is_trip : Array (Option Value)} {oc_l_is_trip kV_l_is_trip dc_l_is_trip pm_l_is_trip cd_l_is_trip ct_l_is_trip : Value} {f_l_is_trip : Addr}
    (a_l_is_trip : PySem.W.nsIn K mainGlobals "_law_is_trip" = some (some (.ref f_l_is_trip)))
    (l_l_is_trip : K.lookup f_l_is_trip = some ⟨oc_l_is_trip, od_l_is_trip, .func (PySem.W.fnOf "_law_is_trip" "_law_is_trip" (defArgs s_l_is_trip) (defBody s_l_is_trip) (defScope s_l_is_trip) .none kV_l_is_trip dc_l_is_trip pm_l_is_trip an_l_is_trip cd_l_is_trip ct_l_is_trip), sl_l_is_trip⟩)
    (c_l_is_trip : PySem.W.codeIn K cd_l_is_trip "_law_is_trip" = true) (k_l_is_trip : PySem.W.keepIn K (.ref f_l_is_trip) = true)
    {od_l_odd an_l_odd : Option Addr} {sl_l_odd : Array (Option Value)} {oc_l_odd kV_l_odd dc_l_odd pm_l_odd cd_l_odd ct_l_odd : Value} {f_l_odd : Addr}
    (a_l_odd : PySem.W.nsIn K mainGlobals "_law_odd" = some (some (.ref f_l_odd)))
    (l_l_odd : K.lookup f_l_odd = some ⟨oc_l_odd, od_l_odd, .func (PySem.W.fnOf "_law_odd" "_law_odd" (defArgs s_l_odd) (defBody s_l_odd) (defScope s_l_odd) .none kV_l_odd dc_l_odd pm_l_odd an_l_odd cd_l_odd ct_l_odd), sl_l_odd⟩)
    (c_l_odd : PySem.W.codeIn K cd_l_odd "_law_odd" = true) (k_l_odd : PySem.W.keepIn K (.ref f_l_odd) = true)
    {od_l_part an_l_part : Option Addr} {sl_l_part : Array (Option Value)} {oc_l_part kV_l_part dc_l_part pm_l_part cd_l_part ct_l_part : Value} {f_l_part : Addr}
    (a_l_part : PySem.W.nsIn K mainGlobals "_law_part" = some (some (.ref f_l_part)))
    (l_l_part : K.lookup f_l_part = some ⟨oc_l_part, od_l_part, .func (PySem.W.fnOf "_law_part" "_law_part" (defArgs s_l_part) (defBody s_l_part) (defScope s_l_part) .none kV_l_part dc_l_part pm_l_part an_l_part cd_l_part ct_l_part), sl_l_part⟩)
    (c_l_part : PySem.W.codeIn K cd_l_part "_law_part" = true) (k_l_part : PySem.W.keepIn K (.ref f_l_part) = true)
    {od_l_trip an_l_trip : Option Addr} {sl_l_trip : Array (Option Value)} {oc_l_trip kV_l_trip dc_l_trip pm_l_trip cd_l_trip ct_l_trip : Value} {f_l_trip : Addr}
    (a_l_trip : PySem.W.nsIn K mainGlobals "_law_trip" = some (some (.ref f_l_trip)))
    (l_l_trip : K.lookup f_l_trip = some ⟨oc_l_trip, od_l_trip, .func (PySem.W.fnOf "_law_trip" "_law_trip" (defArgs s_l_trip) (defBody s_l_trip) (defScope s_l_trip) .none kV_l_trip dc_l_trip pm_l_trip an_l_trip cd_l_trip ct_l_trip), sl_l_trip⟩)
    (c_l_trip : PySem.W.codeIn K cd_l_trip "_law_trip" = true) (k_l_trip : PySem.W.keepIn K (.ref f_l_trip) = true)
    {od_l_values an_l_values : Option Addr} {sl_l_values : Array (Option Value)} {oc_l_values kV_l_values dc_l_values pm_l_values cd_l_values ct_l_values : Value} {f_l_values : Addr}
    (a_l_values : PySem.W.nsIn K mainGlobals "_law_values" = some (some (.ref f_l_values)))
    (l_l_values : K.lookup f_l_values = some ⟨oc_l_values, od_l_values, .func (PySem.W.fnOf "_law_values" "_law_values" (defArgs s_l_values) (defBody s_l_values) (defScope s_l_values) .none kV_l_values dc_l_values pm_l_values an_l_values cd_l_values ct_l_values), sl_l_values⟩)
    (c_l_values : PySem.W.codeIn K cd_l_values "_law_values" = true) (k_l_values : PySem.W.keepIn K (.ref f_l_values) = true)
    {od_ascends an_ascends : Option Addr} {sl_ascends : Array (Option Value)} {oc_ascends kV_ascends dc_ascends pm_ascends cd_ascends ct_ascends : Value} {f_ascends : Addr}
    (a_ascends : PySem.W.nsIn K mainGlobals "ascends" = some (some (.ref f_ascends)))
    (l_ascends : K.lookup f_ascends = some ⟨oc_ascends, od_ascends, .func (PySem.W.fnOf "ascends" "ascends" (defArgs s_ascends) (defBody s_ascends) (defScope s_ascends) .none kV_ascends dc_ascends pm_ascends an_ascends cd_ascends ct_ascends), sl_ascends⟩)
    (c_ascends : PySem.W.codeIn K cd_ascends "ascends" = true) (k_ascends : PySem.W.keepIn K (.ref f_ascends) = true)
    {od_is_number an_is_number : Option Addr} {sl_is_number : Array (Option Value)} {oc_is_number kV_is_number dc_is_number pm_is_number cd_is_number ct_is_number : Value} {f_is_number : Addr}
    (a_is_number : PySem.W.nsIn K mainGlobals "is_number" = some (some (.ref f_is_number)))
    (l_is_number : K.lookup f_is_number = some ⟨oc_is_number, od_is_number, .func (PySem.W.fnOf "is_number" "is_number" (defArgs s_is_number) (defBody s_is_number) (defScope s_is_number) .none kV_is_number dc_is_number pm_is_number an_is_number cd_is_number ct_is_number), sl_is_number⟩)
    (c_is_number : PySem.W.codeIn K cd_is_number "is_number" = true) (k_is_number : PySem.W.keepIn K (.ref f_is_number) = true)
    {od_is_number_from an_is_number_from : Option Addr} {sl_is_number_from : Array (Option Value)} {oc_is_number_from kV_is_number_from dc_is_number_from pm_is_number_from cd_is_number_from ct_is_number_from : Value} {f_is_number_from : Addr}
    (a_is_number_from : PySem.W.nsIn K mainGlobals "is_number_from" = some (some (.ref f_is_number_from)))
    (l_is_number_from : K.lookup f_is_number_from = some ⟨oc_is_number_from, od_is_number_from, .func (PySem.W.fnOf "is_number_from" "is_number_from" (defArgs s_is_number_from) (defBody s_is_number_from) (defScope s_is_number_from) .none kV_is_number_from dc_is_number_from pm_is_number_from an_is_number_from cd_is_number_from ct_is_number_from), sl_is_number_from⟩)
    (c_is_number_from : PySem.W.codeIn K cd_is_number_from "is_number_from" = true) (k_is_number_from : PySem.W.keepIn K (.ref f_is_number_from) = true)
    {od_is_tuple_of an_is_tuple_of : Option Addr} {sl_is_tuple_of : Array (Option Value)} {oc_is_tuple_of kV_is_tuple_of dc_is_tuple_of pm_is_tuple_of cd_is_tuple_of ct_is_tuple_of : Value} {f_is_tuple_of : Addr}
    (a_is_tuple_of : PySem.W.nsIn K mainGlobals "is_tuple_of" = some (some (.ref f_is_tuple_of)))
    (l_is_tuple_of : K.lookup f_is_tuple_of = some ⟨oc_is_tuple_of, od_is_tuple_of, .func (PySem.W.fnOf "is_tuple_of" "is_tuple_of" (defArgs s_is_tuple_of) (defBody s_is_tuple_of) (defScope s_is_tuple_of) .none kV_is_tuple_of dc_is_tuple_of pm_is_tuple_of an_is_tuple_of cd_is_tuple_of ct_is_tuple_of), sl_is_tuple_of⟩)
    (c_is_tuple_of : PySem.W.codeIn K cd_is_tuple_of "is_tuple_of" = true) (k_is_tuple_of : PySem.W.keepIn K (.ref f_is_tuple_of) = true)
    {od_is_row an_is_row : Option Addr} {sl_is_row : Array (Option Value)} {oc_is_row kV_is_row dc_is_row pm_is_row cd_is_row ct_is_row : Value} {f_is_row : Addr}
    (a_is_row : PySem.W.nsIn K mainGlobals "is_row" = some (some (.ref f_is_row)))
    (l_is_row : K.lookup f_is_row = some ⟨oc_is_row, od_is_row, .func (PySem.W.fnOf "is_row" "is_row" (defArgs s_is_row) (defBody s_is_row) (defScope s_is_row) .none kV_is_row dc_is_row pm_is_row an_is_row cd_is_row ct_is_row), sl_is_row⟩)
    (c_is_row : PySem.W.codeIn K cd_is_row "is_row" = true) (k_is_row : PySem.W.keepIn K (.ref f_is_row) = true)
    {od_is_trip an_is_trip : Option Addr} {sl_is_trip : Array (Option Value)} {oc_is_trip kV_is_trip dc_is_trip pm_is_trip cd_is_trip ct_is_trip : Value} {f_is_trip : Addr}
    (a_is_trip : PySem.W.nsIn K mainGlobals "is_trip" = some (some (.ref f_is_trip)))
    (l_is_trip : K.lookup f_is_trip = some ⟨oc_is_trip, od_is_trip, .func (PySem.W.fnOf "is_trip" "is_trip" (defArgs s_is_trip) (defBody s_is_trip) (defScope s_is_trip) .none kV_is_trip dc_is_trip pm_is_trip an_is_trip cd_is_trip ct_is_trip), sl_is_trip⟩)
    (c_is_trip : PySem.W.codeIn K cd_is_trip "is_trip" = true) (k_is_trip : PySem.W.keepIn K (.ref f_is_trip) = true)
    {od_law an_law : Option Addr} {sl_law : Array (Option Value)} {oc_law kV_law dc_law pm_law cd_law ct_law : Value} {f_law : Addr}
    (a_law : PySem.W.nsIn K mainGlobals "law" = some (some (.ref f_law)))
    (l_law : K.lookup f_law = some ⟨oc_law, od_law, .func (PySem.W.fnOf "law" "law" (defArgs s_law) (defBody s_law) (defScope s_law) .none kV_law dc_law pm_law an_law cd_law ct_law), sl_law⟩)
    (c_law : PySem.W.codeIn K cd_law "law" = true) (k_law : PySem.W.keepIn K (.ref f_law) = true)
    (z_abs : PySem.W.nsIn K mainGlobals "abs" = some none)
    (z_all : PySem.W.nsIn K mainGlobals "all" = some none)
    (z_bool : PySem.W.nsIn K mainGlobals "bool" = some none)
    (z_int : PySem.W.nsIn K mainGlobals "int" = some none)
    (z_isinstance : PySem.W.nsIn K mainGlobals "isinstance" = some none)
    (z_len : PySem.W.nsIn K mainGlobals "len" = some none)
    (z_list : PySem.W.nsIn K mainGlobals "list" = some none)
    (z_min : PySem.W.nsIn K mainGlobals "min" = some none)
    (z_range : PySem.W.nsIn K mainGlobals "range" = some none)
    (z_repr : PySem.W.nsIn K mainGlobals "repr" = some none)
    (z_set : PySem.W.nsIn K mainGlobals "set" = some none)
    (z_sorted : PySem.W.nsIn K mainGlobals "sorted" = some none)
    (z_str : PySem.W.nsIn K mainGlobals "str" = some none)
    (z_sum : PySem.W.nsIn K mainGlobals "sum" = some none)
    (z_tuple : PySem.W.nsIn K mainGlobals "tuple" = some none)
    (z_zip : PySem.W.nsIn K mainGlobals "zip" = some none)
    : ∃ fd : FuncData, (∀ (s : Shared) (v : Value), BindsTo s fd ⟨[v], []⟩ [("_law_script", v)]) ∧ ∀ base : Heap, K.In base → base.Ns mainGlobals mg → (∃ o, base.get? sysModules = some o) → Cn.FnG l.prog w K mg base 8 fa fd ["_law_script"] (spLaw K) := by
  have e := hfa.symm.trans (PySem.W.mg_of X G a_law)
  cases e
  have m_abs : mg "abs" = none := PySem.W.mg_none_of X G z_abs
  have m_all : mg "all" = none := PySem.W.mg_none_of X G z_all
  have m_bool : mg "bool" = none := PySem.W.mg_none_of X G z_bool
  have m_int : mg "int" = none := PySem.W.mg_none_of X G z_int
  have m_isinstance : mg "isinstance" = none := PySem.W.mg_none_of X G z_isinstance
  have m_len : mg "len" = none := PySem.W.mg_none_of X G z_len
  have m_list : mg "list" = none := PySem.W.mg_none_of X G z_list
  have m_min : mg "min" = none := PySem.W.mg_none_of X G z_min
  have m_range : mg "range" = none := PySem.W.mg_none_of X G z_range
  have m_repr : mg "repr" = none := PySem.W.mg_none_of X G z_repr
  have m_set : mg "set" = none := PySem.W.mg_none_of X G z_set
  have m_sorted : mg "sorted" = none := PySem.W.mg_none_of X G z_sorted
  have m_str : mg "str" = none := PySem.W.mg_none_of X G z_str
  have m_sum : mg "sum" = none := PySem.W.mg_none_of X G z_sum
  have m_tuple : mg "tuple" = none := PySem.W.mg_none_of X G z_tuple
  have m_zip : mg "zip" = none := PySem.W.mg_none_of X G z_zip
  have F_l_deck := fun_mk (st := s_l_deck) l_l_deck c_l_deck k_l_deck
  have b_l_deck := F_l_deck.binds (ps := ["_law_script"]) fun _ _ _ _ _ _ us hl => match us, hl with | [_], _ => rfl
  have g_l_deck := PySem.W.mg_of X G a_l_deck
  have F_l_draw := fun_mk (st := s_l_draw) l_l_draw c_l_draw k_l_draw
  have b_l_draw := F_l_draw.binds (ps := ["_law_deck_here", "_law_limit"]) fun _ _ _ _ _ _ us hl => match us, hl with | [_, _], _ => rfl
  have g_l_draw := PySem.W.mg_of X G a_l_draw
  have F_l_garden := fun_mk (st := s_l_garden) l_l_garden c_l_garden k_l_garden
  have b_l_garden := F_l_garden.binds (ps := ["_law_deck_here", "_law_most", "_law_top"]) fun _ _ _ _ _ _ us hl => match us, hl with | [_, _, _], _ => rfl
  have g_l_garden := PySem.W.mg_of X G a_l_garden
  have F_l_is_number := fun_mk (st := s_l_is_number) l_l_is_number c_l_is_number k_l_is_number
  have b_l_is_number := F_l_is_number.binds (ps := ["_law_value", "_law_low", "_law_high"]) fun _ _ _ _ _ _ us hl => match us, hl with | [_, _, _], _ => rfl
  have g_l_is_number := PySem.W.mg_of X G a_l_is_number
  have F_l_is_trip := fun_mk (st := s_l_is_trip) l_l_is_trip c_l_is_trip k_l_is_trip
  have b_l_is_trip := F_l_is_trip.binds (ps := ["_law_garden_here", "_law_value"]) fun _ _ _ _ _ _ us hl => match us, hl with | [_, _], _ => rfl
  have g_l_is_trip := PySem.W.mg_of X G a_l_is_trip
  have F_l_odd := fun_mk (st := s_l_odd) l_l_odd c_l_odd k_l_odd
  have b_l_odd := F_l_odd.binds (ps := ["_law_deck_here"]) fun _ _ _ _ _ _ us hl => match us, hl with | [_], _ => rfl
  have g_l_odd := PySem.W.mg_of X G a_l_odd
  have F_l_part := fun_mk (st := s_l_part) l_l_part c_l_part k_l_part
  have b_l_part := F_l_part.binds (ps := ["_law_deck_here", "_law_thing", "_law_depth"]) fun _ _ _ _ _ _ us hl => match us, hl with | [_, _, _], _ => rfl
  have g_l_part := PySem.W.mg_of X G a_l_part
  have F_l_trip := fun_mk (st := s_l_trip) l_l_trip c_l_trip k_l_trip
  have b_l_trip := F_l_trip.binds (ps := ["_law_deck_here", "_law_garden_here", "_law_wants"]) fun _ _ _ _ _ _ us hl => match us, hl with | [_, _, _], _ => rfl
  have g_l_trip := PySem.W.mg_of X G a_l_trip
  have F_l_values := fun_mk (st := s_l_values) l_l_values c_l_values k_l_values
  have b_l_values := F_l_values.binds (ps := ["_law_deck_here", "_law_garden_here"]) fun _ _ _ _ _ _ us hl => match us, hl with | [_, _], _ => rfl
  have g_l_values := PySem.W.mg_of X G a_l_values
  have F_ascends := fun_mk (st := s_ascends) l_ascends c_ascends k_ascends
  have b_ascends := F_ascends.binds (ps := ["items"]) fun _ _ _ _ _ _ us hl => match us, hl with | [_], _ => rfl
  have g_ascends := PySem.W.mg_of X G a_ascends
  have F_is_number := fun_mk (st := s_is_number) l_is_number c_is_number k_is_number
  have b_is_number := F_is_number.binds (ps := ["value"]) fun _ _ _ _ _ _ us hl => match us, hl with | [_], _ => rfl
  have g_is_number := PySem.W.mg_of X G a_is_number
  have F_is_number_from := fun_mk (st := s_is_number_from) l_is_number_from c_is_number_from k_is_number_from
  have b_is_number_from := F_is_number_from.binds (ps := ["value", "low"]) fun _ _ _ _ _ _ us hl => match us, hl with | [_, _], _ => rfl
  have g_is_number_from := PySem.W.mg_of X G a_is_number_from
  have F_is_tuple_of := fun_mk (st := s_is_tuple_of) l_is_tuple_of c_is_tuple_of k_is_tuple_of
  have b_is_tuple_of := F_is_tuple_of.binds (ps := ["value", "many"]) fun _ _ _ _ _ _ us hl => match us, hl with | [_, _], _ => rfl
  have g_is_tuple_of := PySem.W.mg_of X G a_is_tuple_of
  have F_is_row := fun_mk (st := s_is_row) l_is_row c_is_row k_is_row
  have b_is_row := F_is_row.binds (ps := ["bed_places", "value"]) fun _ _ _ _ _ _ us hl => match us, hl with | [_, _], _ => rfl
  have g_is_row := PySem.W.mg_of X G a_is_row
  have F_is_trip := fun_mk (st := s_is_trip) l_is_trip c_is_trip k_is_trip
  have b_is_trip := F_is_trip.binds (ps := ["garden", "value"]) fun _ _ _ _ _ _ us hl => match us, hl with | [_, _], _ => rfl
  have g_is_trip := PySem.W.mg_of X G a_is_trip
  have F_law := fun_mk (st := s_law) l_law c_law k_law
  refine ⟨PySem.W.fnOf "law" "law" (defArgs s_law) (defBody s_law) (defScope s_law) .none kV_law dc_law pm_law an_law cd_law ct_law, fun s v => .of_eq rfl, fun base inB glB sm => ?_⟩
  have G_l_deck := ok_l_deck (P := l.prog) (w := w) (base := base) F_l_deck m_abs
  have G_l_draw := FnG.weak (Cn.FnG.of (ok_l_draw (P := l.prog) (w := w) (base := base) F_l_draw m_len)) fun vs H Q E h => draw_of h
  have G_l_garden := ok_l_garden (P := l.prog) (w := w) (base := base) sm F_l_garden m_len m_range m_set m_sorted m_tuple G_l_draw g_l_draw F_l_draw b_l_draw
  have G_l_is_number := ok_l_is_number (P := l.prog) (w := w) (base := base) sm F_l_is_number m_bool m_int m_isinstance
  have G_l_is_trip := ok_l_is_trip (P := l.prog) (w := w) (base := base) sm F_l_is_trip m_isinstance m_len m_tuple G_l_is_number g_l_is_number F_l_is_number b_l_is_number
  have G_l_odd := ok_l_odd (P := l.prog) (w := w) (base := base) sm F_l_odd G_l_draw g_l_draw F_l_draw b_l_draw
  have G_l_part := ok_l_part (P := l.prog) (w := w) (base := base) sm F_l_part m_int m_isinstance m_len m_list m_str m_tuple G_l_draw g_l_draw F_l_draw b_l_draw G_l_odd g_l_odd F_l_odd b_l_odd g_l_part b_l_part 3
  have G_l_trip := ok_l_trip (P := l.prog) (w := w) (base := base) sm F_l_trip m_min m_sorted m_tuple G_l_draw g_l_draw F_l_draw b_l_draw
  have G_l_values := ok_l_values (P := l.prog) (w := w) (base := base) sm F_l_values m_range m_sorted m_sum m_tuple G_l_odd g_l_odd F_l_odd b_l_odd G_l_part g_l_part F_l_part b_l_part G_l_trip g_l_trip F_l_trip b_l_trip
  have G_ascends := ok_ascends (P := l.prog) (w := w) (base := base) sm F_ascends m_all m_zip
  have G_is_number := ok_is_number (P := l.prog) (w := w) (base := base) sm F_is_number m_bool m_int m_isinstance
  have G_is_number_from := ok_is_number_from (P := l.prog) (w := w) (base := base) sm F_is_number_from G_is_number g_is_number F_is_number b_is_number
  have G_is_tuple_of := ok_is_tuple_of (P := l.prog) (w := w) (base := base) sm F_is_tuple_of m_isinstance m_len m_tuple
  have G_is_row := ok_is_row (P := l.prog) (w := w) (base := base) sm F_is_row G_is_number g_is_number F_is_number b_is_number G_is_number_from g_is_number_from F_is_number_from b_is_number_from G_is_tuple_of g_is_tuple_of F_is_tuple_of b_is_tuple_of
  have G_is_trip := ok_is_trip (P := l.prog) (w := w) (base := base) sm F_is_trip m_all m_isinstance m_len m_sum m_tuple G_ascends g_ascends F_ascends b_ascends G_is_row g_is_row F_is_row b_is_row
  exact ok_law sm F_law m_range m_repr G_l_garden g_l_garden F_l_garden b_l_garden G_l_is_trip g_l_is_trip F_l_is_trip b_l_is_trip G_l_values g_l_values F_l_values b_l_values G_is_trip g_is_trip F_is_trip b_is_trip G_l_deck g_l_deck F_l_deck b_l_deck law_ok
end K2
open PySem PySem.W PyProof.Rows
set_option maxHeartbeats 0 in
theorem PySem.Challenge.cw_canpath_k02_trips_judged_holds : PySem.Challenge.rw_canpath_k02_trips_judged.Holds := by
  w_on; o_law; k_head; (case hw => w_witness2)
  k_fill
  refine Wp.walkM (l := PySem.Challenge.rw_canpath_k02_trips_judged) (n := 63) (k := 8) (x := "_law_script") (sp := Wp.spLaw) rfl (by decide) rfl rfl ⟨rfl, by decide, by decide⟩ (fun w h Y => PySem.W.kIn_of Y) ?F (fun K H a ns hl hS => ⟨a, ns, rfl, hS, hl, fun _ => rfl⟩)
  case F =>
    intro w mg fa h KX G hmg
    refine' K2.all_mk KX G hmg ?a_l_deck ?l_l_deck ?c_l_deck ?k_l_deck ?a_l_draw ?l_l_draw ?c_l_draw ?k_l_draw ?a_l_garden ?l_l_garden ?c_l_garden ?k_l_garden ?a_l_is_number ?l_l_is_number ?c_l_is_number ?k_l_is_number ?a_l_is_trip ?l_l_is_trip ?c_l_is_trip ?k_l_is_trip ?a_l_odd ?l_l_odd ?c_l_odd ?k_l_odd ?a_l_part ?l_l_part ?c_l_part ?k_l_part ?a_l_trip ?l_l_trip ?c_l_trip ?k_l_trip ?a_l_values ?l_l_values ?c_l_values ?k_l_values ?a_ascends ?l_ascends ?c_ascends ?k_ascends ?a_is_number ?l_is_number ?c_is_number ?k_is_number ?a_is_number_from ?l_is_number_from ?c_is_number_from ?k_is_number_from ?a_is_tuple_of ?l_is_tuple_of ?c_is_tuple_of ?k_is_tuple_of ?a_is_row ?l_is_row ?c_is_row ?k_is_row ?a_is_trip ?l_is_trip ?c_is_trip ?k_is_trip ?a_law ?l_law ?c_law ?k_law ?z_abs ?z_all ?z_bool ?z_int ?z_isinstance ?z_len ?z_list ?z_min ?z_range ?z_repr ?z_set ?z_sorted ?z_str ?z_sum ?z_tuple ?z_zip
    (case a_l_deck => k_is)
    (case l_l_deck => k_is)
    (case c_l_deck => k_is)
    (case k_l_deck => k_is)
    (case a_l_draw => k_is)
    (case l_l_draw => k_is)
    (case c_l_draw => k_is)
    (case k_l_draw => k_is)
    (case a_l_garden => k_is)
    (case l_l_garden => k_is)
    (case c_l_garden => k_is)
    (case k_l_garden => k_is)
    (case a_l_is_number => k_is)
    (case l_l_is_number => k_is)
    (case c_l_is_number => k_is)
    (case k_l_is_number => k_is)
    (case a_l_is_trip => k_is)
    (case l_l_is_trip => k_is)
    (case c_l_is_trip => k_is)
    (case k_l_is_trip => k_is)
    (case a_l_odd => k_is)
    (case l_l_odd => k_is)
    (case c_l_odd => k_is)
    (case k_l_odd => k_is)
    (case a_l_part => k_is)
    (case l_l_part => k_is)
    (case c_l_part => k_is)
    (case k_l_part => k_is)
    (case a_l_trip => k_is)
    (case l_l_trip => k_is)
    (case c_l_trip => k_is)
    (case k_l_trip => k_is)
    (case a_l_values => k_is)
    (case l_l_values => k_is)
    (case c_l_values => k_is)
    (case k_l_values => k_is)
    (case a_ascends => k_is)
    (case l_ascends => k_is)
    (case c_ascends => k_is)
    (case k_ascends => k_is)
    (case a_is_number => k_is)
    (case l_is_number => k_is)
    (case c_is_number => k_is)
    (case k_is_number => k_is)
    (case a_is_number_from => k_is)
    (case l_is_number_from => k_is)
    (case c_is_number_from => k_is)
    (case k_is_number_from => k_is)
    (case a_is_tuple_of => k_is)
    (case l_is_tuple_of => k_is)
    (case c_is_tuple_of => k_is)
    (case k_is_tuple_of => k_is)
    (case a_is_row => k_is)
    (case l_is_row => k_is)
    (case c_is_row => k_is)
    (case k_is_row => k_is)
    (case a_is_trip => k_is)
    (case l_is_trip => k_is)
    (case c_is_trip => k_is)
    (case k_is_trip => k_is)
    (case a_law => k_is)
    (case l_law => k_is)
    (case c_law => k_is)
    (case k_law => k_is)
    (case z_abs => k_is)
    (case z_all => k_is)
    (case z_bool => k_is)
    (case z_int => k_is)
    (case z_isinstance => k_is)
    (case z_len => k_is)
    (case z_list => k_is)
    (case z_min => k_is)
    (case z_range => k_is)
    (case z_repr => k_is)
    (case z_set => k_is)
    (case z_sorted => k_is)
    (case z_str => k_is)
    (case z_sum => k_is)
    (case z_tuple => k_is)
    (case z_zip => k_is)
