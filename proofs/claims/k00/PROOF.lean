import PyProof.Rows.All
import Wide.All
import OpenK.AllK
import Wide.FinOn
import HandS.ForMost
import HandS.Strs
import HandS.SetFor
import HandS.More
import PyProof.ReprRoads
import HandS.TupAny
import HandS.Walk
import HandS.Evl
import KE.KDictPairs
import HandS.IsInst
import HandS.Flt
import KE.KRevSl
import HandS.Style
import KE.GoesEnum
import PyProof.Rows.IntBool
import PyProof.StrLawsRepr
import PyProof.Rows.ReprOcc
import PySem.Challenge.RW_canpath_k00_gardens_judged
set_option Elab.async false
set_option linter.all false
set_option maxRecDepth 100000
set_option maxHeartbeats 8000000
namespace Cn
open PySem PySem.Spec PyProof.Rows L2

/-! ### the length of what repr shows -/
mutual
/-- small data: numbers below 10^40, short plain texts, no dicts -/
def sm : PyData → Bool
  | .none => true
  | .bool _ => true
  | .int i => decide (i.natAbs < 10 ^ 40)
  | .str x => decide ((reprText x).length ≤ 100)
  | .list xs => smAll xs
  | .tuple xs => smAll xs
  | .dict _ => false
def smAll : List PyData → Bool
  | [] => true
  | x :: xs => sm x && smAll xs
end
mutual
def wt : PyData → Nat
  | .none => 100
  | .bool _ => 100
  | .int _ => 100
  | .str _ => 100
  | .list xs => wtAll xs + 3
  | .tuple xs => wtAll xs + 3
  | .dict _ => 0
def wtAll : List PyData → Nat
  | [] => 0
  | x :: xs => (wt x + 2) + wtAll xs
end
mutual
def dp : PyData → Nat
  | .list xs => dpAll xs + 1
  | .tuple xs => dpAll xs + 1
  | _ => 0
def dpAll : List PyData → Nat
  | [] => 0
  | x :: xs => max (dp x) (dpAll xs)
end
theorem listText_le (ts : List Str) : (listText ts).length ≤ piled ts + 3 := by
  cases ts with
  | nil => decide
  | cons t r =>
    have h := textFrom_length_pos r 1 (("[" : Str) ++ (if (0 : Nat) > 0 then ", " else "" : String) ++ t) (Nat.succ_pos 0)
    have e1 : (listText (t :: r)).length = (textFrom 1 (("[" : Str) ++ (if (0 : Nat) > 0 then ", " else "" : String) ++ t) r).length + 1 := by
      show (textFrom 1 _ r ++ "]").length = _
      rw [strLen_append]; rfl
    have e2 : ((("[" : Str) ++ (if (0 : Nat) > 0 then ", " else "" : String) ++ t)).length = 1 + t.length := by
      rw [strLen_append, strLen_append]; rfl
    rw [e1, h, e2, piled_cons]; omega
theorem tupleText_le (ts : List Str) : (tupleText ts).length ≤ piled ts + 3 := by
  unfold tupleText
  rw [strLen_append, strLen_append]
  have cl : (((if ts.length == 1 then ",)" else ")" : String) : Str)).length ≤ 2 := by split <;> decide
  rw [show (("(" : String) : Str).length = 1 from rfl]
  by_cases h : ts = []
  · subst h
    show 1 + 0 + _ ≤ _
    omega
  · have := join_length_add ts h
    omega
mutual
theorem sm_show : ∀ d : PyData, sm d = true → d.showable = true ∧ d.hasDict = false ∧ d.shown.length ≤ wt d
  | .none, _ => ⟨rfl, rfl, by simp only [PyData.shown, wt]; decide⟩
  | .bool b, _ => ⟨rfl, rfl, by simp only [PyData.shown, wt]; cases b <;> decide⟩
  | .int i, h => by
    have h1 : i.natAbs < 10 ^ 40 := by simpa only [sm, decide_eq_true_eq] using h
    have h2 : i.natAbs < 2 ^ 1920 := Nat.lt_of_lt_of_le h1 (by decide +kernel)
    refine ⟨?_, rfl, ?_⟩
    · simp only [PyData.showable, decide_eq_true_eq]
      by_cases h0 : i.natAbs = 0
      · rw [h0]; decide
      · exact (Nat.log2_lt h0).2 h2
    · have := int_text_length_le10 (a := i) (k := 40) (by decide) h1
      simp only [PyData.shown, wt]
      rw [PySem.ofString_length]
      omega
  | .str x, h => by
    have h1 : (reprText x).length ≤ 100 := by simpa only [sm, decide_eq_true_eq] using h
    exact ⟨rfl, rfl, by simp only [PyData.shown, wt]; exact h1⟩
  | .list xs, h => by
    obtain ⟨a, b, c⟩ := sm_showAll xs (by simpa only [sm] using h)
    refine ⟨by simpa only [PyData.showable] using a, by simpa only [PyData.hasDict] using b, ?_⟩
    have := listText_le (PyData.shownAll xs)
    simp only [PyData.shown, wt]
    omega
  | .tuple xs, h => by
    obtain ⟨a, b, c⟩ := sm_showAll xs (by simpa only [sm] using h)
    refine ⟨by simpa only [PyData.showable] using a, by simpa only [PyData.hasDict] using b, ?_⟩
    have := tupleText_le (PyData.shownAll xs)
    simp only [PyData.shown, wt]
    omega
  | .dict _, h => by simp [sm] at h
theorem sm_showAll : ∀ ds : List PyData, smAll ds = true → PyData.showableAll ds = true ∧ PyData.hasDictAll ds = false ∧ piled (PyData.shownAll ds) ≤ wtAll ds
  | [], _ => ⟨rfl, rfl, by simp only [PyData.shownAll, wtAll]; exact Nat.le_refl _⟩
  | x :: xs, h => by
    simp only [smAll, Bool.and_eq_true] at h
    obtain ⟨a, b, c⟩ := sm_show x h.1
    obtain ⟨a', b', c'⟩ := sm_showAll xs h.2
    refine ⟨by simp only [PyData.showableAll, a, a', Bool.and_self], by simp only [PyData.hasDictAll, b, b', Bool.or_self], ?_⟩
    simp only [PyData.shownAll, wtAll]
    rw [piled_cons]; omega
end
mutual
theorem dp_depth : ∀ d : PyData, sm d = true → d.depth = dp d
  | .none, _ => by simp only [PyData.depth, dp]
  | .bool _, _ => by simp only [PyData.depth, dp]
  | .int _, _ => by simp only [PyData.depth, dp]
  | .str _, _ => by simp only [PyData.depth, dp]
  | .list xs, h => by
    have := dp_depthAll xs (by simpa only [sm] using h)
    simp only [PyData.depth, dp]; omega
  | .tuple xs, h => by
    have := dp_depthAll xs (by simpa only [sm] using h)
    simp only [PyData.depth, dp]; omega
  | .dict _, h => by simp [sm] at h
theorem dp_depthAll : ∀ ds : List PyData, smAll ds = true → PyData.depthAll ds = dpAll ds
  | [], _ => by simp only [PyData.depthAll, dpAll]
  | x :: xs, h => by
    simp only [smAll, Bool.and_eq_true] at h
    have h1 := dp_depth x h.1
    have h2 := dp_depthAll xs h.2
    simp only [PyData.depthAll, dpAll, h1, h2]
end

/-! ### repr of data -/
section
variable {X : Cx}
def rRepr (K : PySem.W.Frag) : List V → Hp → VK → Prop := fun xs H Q => ∃ v d, xs = [v] ∧ Dp K H v d ∧ sm d = true ∧ wt d ≤ 1000000 ∧ dp d ≤ 50 ∧ Q (.str d.shown) H
theorem call_repr (hg : X.A.guards = some []) (hu : X.A.units + 64 < cLine) : CallR X (.builtin "repr") (rRepr X.K) := by
  intro pins s σ H xs us Q I r h
  obtain ⟨v, d, rfl, hd, hs, hw, hp, q⟩ := h
  obtain ⟨u, rfl, ru⟩ := vals1 r
  obtain ⟨as, rd⟩ := Dp.reads I d v u hd ru
  obtain ⟨s1, s2, s3⟩ := sm_show d hs
  have hz : d.shown.length ≤ sizeLine := Nat.le_trans (Nat.le_trans s3 hw) (by decide)
  have hdd : d.depth ≤ 50 := by rw [dp_depth d hs]; exact hp
  have leaf : ∀ {h' : Heap} {t u : Nat}, (∀ b o, s.heap.get? b = some o → h'.get? b = some o) → EP X pins σ Q (.str d.shown u) { s with heap := h', toks := t } :=
    fun k => ⟨.str _, H, I.kept k, ⟨_, rfl⟩, q⟩
  cases hd with
  | non =>
    cases ru
    simp only [PyData.shown] at leaf
    exact PySem.P.repr_of_none (leaf fun _ _ e => e)
  | bl b =>
    cases ru
    simp only [PyData.shown] at leaf
    exact PySem.P.repr_of_bool (leaf fun _ _ e => e)
  | int i =>
    obtain ⟨t, rfl⟩ := ru
    simp only [PyData.shown] at leaf
    exact PySem.P.repr_of_int (by simpa only [PyData.showable, decide_eq_true_eq] using s1) (leaf fun _ _ e => e)
  | str x =>
    obtain ⟨t, rfl⟩ := ru
    simp only [PyData.shown] at leaf hz
    exact PySem.P.repr_of_str (leaf fun _ _ e => e) hz
  | lst a b =>
    cases ru
    exact repr_of_reads' rd s1 (fun e => by rw [s2] at e; cases e) hg (by omega) (fun _ _ e => e) (fun h' u tk k => leaf k) hz
  | tup a b =>
    cases ru
    exact repr_of_reads' rd s1 (fun e => by rw [s2] at e; cases e) hg (by omega) (fun _ _ e => e) (fun h' u tk k => leaf k) hz
end
end Cn

namespace Cn
open PySem PySem.Spec PyProof.Rows L2

/-! ### defs that are called where no repr is under way -/
structure FnG (P : Program) (w : World) (K : PySem.W.Frag) (mg : Str → Option Value) (base : Heap) (k : Nat) (f : Addr) (fd : FuncData) (ps : List Str) (sp : Sp) : Prop where
  len : ∀ vs H Q E, sp vs H Q E → vs.length = ps.length
  run : ∀ (A : Around) (out : List Env) (s : Shared) (H : Hp) (args : Args) (us : List Value) (vs : List V) (Q : VK) (E : XK), A.guards = some [] → Room k A → Env0 P w K mg base A out s H →
    BindsTo s fd args (ps.zip us) → Vals vs us → sp vs H Q E → codeAny (model P w) A (.call (.ref f) args) (CR CX0 out P w H s Q E) s
section
variable {P : Program} {w : World} {K : PySem.W.Frag} {mg : Str → Option Value} {base : Heap}
theorem FnG.of {k : Nat} {f : Addr} {fd : FuncData} {ps : List Str} {sp : Sp} (F : FnOk P w K mg base CX0 k f fd ps sp) : FnG P w K mg base k f fd ps sp :=
  ⟨F.len, fun A out s H args us vs Q E _ => F.run A out s H args us vs Q E⟩
theorem okG {x qual : Str} {st : Stmt} {f : Addr} {fd : FuncData} {N ps : List Str} {k : Nat} {sp : Sp} (F : Fun K x qual st f fd) (S : FnScope N ps (defScope st)) (len : ∀ vs H Q E, sp vs H Q E → vs.length = ps.length)
    (body : ∀ (cdv : Value) (A : Around) (out : List Env) (s : Shared) (H : Hp) (vs : List V) (Q : VK) (E : XK), A.guards = some [] → Room k (A.deeper (envOfC qual (defScope st) s.heap.objs.size f cdv)) → sp vs H Q E →
      ∃ t, PSs (cxOf CX0 P w K mg base N qual (defScope st) f cdv A out s H E).nox (defBody st) t ∧ t { nx := fun _ H' => Q .non H', rt := Q } (start N vs) H) : FnG P w K mg base (k + 1) f fd ps sp := by
  obtain ⟨oc, od, kV, doc, pm, an, cdv, ct, osl, rfl, lk, code⟩ := F.ex
  refine ⟨len, fun A out s H args us vs Q E gd room e0 bd rel pr => ?_⟩
  have inK : K.In s.heap := e0.mod.kin.keeps fun b o e => (e0.bs b o e).1
  have par : ∀ y ∈ ps.zip us, (defScope st).names.lookup y.1 = some .local ∨ ((defScope st).names.lookup y.1 = some .cell ∧ ((cellsFrom (s.heap.objs.size + 1) (defScope st).names []).lookup y.1).isSome = true) := by
    intro y hy
    refine (S.par y.1 (List.of_mem_zip (show (y.1, y.2) ∈ ps.zip us from hy)).1).imp id fun c => ⟨c, PySem.W.cellsFrom_some _ _ _ (.inl c)⟩
  refine codeAny_call_function room.depth (inK _ _ lk) rfl S.co S.gen rfl (PySem.W.codeRec_of inK code) (bd _ _ _ _ (wpAny_newFunctionEnv_cells S.kind par ?_))
  rintro _ rfl s1 new
  refine ⟨(e0.mod.nolimit.keeps fun b o e => (e0.bs b o e).1).keeps new.toInCall.keep, codeAny_func ?_⟩
  obtain ⟨t, ht, q⟩ := body cdv A out s H vs Q E gd (room.deeper _) pr
  refine wpAny_mono (ht.nox.run [] s1 (start N vs) H _ (inv_start S room.hd e0 (len _ _ _ _ pr) rel new) q) ?_ fun _ _ z => z
  rintro (_ | _ | _ | u) s' z
  case next =>
    obtain ⟨_, H', J, z⟩ := z
    exact ⟨V.non, H', J.os, J.bare, J.base, J.hok, rfl, z⟩
  case ret =>
    obtain ⟨v, _, H', J, rv, z⟩ := z
    exact ⟨v, H', J.os, J.bare, J.base, J.hok, rv, z⟩
  all_goals
    obtain ⟨_, _, _, z⟩ := z
    exact z.elim
end
section
variable {X : Cx} {k : Nat} {f : Addr} {fd : FuncData} {ps : List Str} {sp : Sp} {x : Str} {p pos : Pos} {e : Expr} {es : List Expr} {t : TA}
theorem pe_callG (F : FnG X.prog X.w X.K X.mg X.base k f fd ps sp) (gd : X.A.guards = some []) (room : Room k X.A) (gl : Gl X x) (hm : X.mg x = some (.ref f)) (kp : PySem.W.keepIn X.K (.ref f) = true) (bd : Binds X.K fd ps [])
    (ha : PA X (e :: es) t) (hdb : (x == ("__debug__" : Str)) = false := by decide) (he : starEach (e :: es) X.env = (false, eval e X.env) :: starEach es X.env := by rfl) (hpl : (backTo pos (starEach es X.env)).any (·.1) = false := by rfl) :
    PE X (.Call (.Name x p) (e :: es) [] pos) (tCall sp [] E0 t) := by
  refine ⟨fun pins s σ H Q I h => wpAny_Call_Name_kw (ld_glob I gl hm ?_ hdb)⟩
  refine PySem.W.callWith_K (h₀ := X.base) I.ok.mod.kin kp (thn (ha.run pos pins s σ H _ I h) ?_) he hpl
  rintro us s1 ⟨vs, H1, I1, rel, q⟩
  refine ⟨I1.kIn, ?_⟩
  have q0 : sp (vs ++ []) H1 Q E0 := q
  have rel0 : Vals (vs ++ []) (us ++ []) := rel.append .nil
  have l0 : (us ++ []).length = ps.length := rel0.length.symm.trans (F.len _ _ _ _ q0)
  refine wpAny_call (codeAny_mono (F.run X.A X.stack s1 H1 ⟨us, []⟩ (us ++ []) (vs ++ []) Q E0 gd room I1.env0 (bd s1 us I1.kIn l0) rel0 q0) ?_)
  rintro (_ | _ | _ | _ | u) s' z
  case ok.ret => exact I1.after z
  all_goals exact z.elim
end
end Cn

namespace Cn
open PySem PySem.Spec PyProof.Rows L2
theorem lawG {P : Program} {w : World} {K : PySem.W.Frag} {mg mb : Str → Option Value} {k : Nat} {fa a : Addr} {fd : FuncData} {x : Str} {sp : Sp} {s : Shared} {vs : List Value} {ns : List Int}
    (inK : K.In s.heap) (gl : s.heap.Ns mainGlobals mg) (bt : s.heap.Ns builtinsNs mb) (boot : ∀ x : Str, x ≠ "__name__" → mb x = bootBuiltins x) (lim : s.heap.NoLimit) (gens : s.gens = #[])
    (at_a : s.heap.get? a = some { cls := .type "list", data := .seq vs.toArray }) (nums : IntsAre vs ns) (few : ns.length ≤ sizeLine) (room : Room k callerA)
    (F : ∀ base : Heap, K.In base → base.Ns mainGlobals mg → FnG P w K mg base k fa fd [x] sp) (binds : ∀ (s : Shared) (u : Value), BindsTo s fd ⟨[u], []⟩ [(x, u)])
    (pr : ∀ H : Hp, Only H → SqL K H a (ns.map V.int) → sp [.ref a] H (fun v _ => v = .bl true) fun _ _ _ => False) :
    codeAny (model P w) callerA (.call (.ref fa) ⟨[.ref a], []⟩) (fun r s' => r = .ok (.ret (.bool true)) ∧ OldK s.heap s'.heap ∧ s'.os = s.os ∧ AllBare s'.gens) s := by
  have rel := vals_ints nums
  have main : ∀ H : Hp, Only H → SqL K H a (ns.map V.int) → HOk P w H s.heap → (∀ b, H b ≠ none → b = a ∧ K.lookup a = none) →
      codeAny (model P w) callerA (.call (.ref fa) ⟨[.ref a], []⟩) (fun r s' => r = .ok (.ret (.bool true)) ∧ OldK s.heap s'.heap ∧ s'.os = s.os ∧ AllBare s'.gens) s := by
    intro H only sq hok tr
    have names : ∀ {b : Addr} {m : Str → Option Value}, s.heap.Ns b m → (hidT s.heap H).Ns b m := by
      rintro b m ⟨o, es, ep, e, d, r⟩
      refine ⟨o, es, ep, hidT_get e (Classical.byContradiction fun n => ?_), d, r⟩
      obtain ⟨rfl, _⟩ := tr b n
      have z := at_a.symm.trans e
      injection z with z
      subst z
      exact Data.noConfusion d
    have inB : K.In (hidT s.heap H) := fun b o e => hidT_get (inK b o e) (Classical.byContradiction fun n => by
      obtain ⟨rfl, z⟩ := tr b n
      rw [z] at e
      cases e)
    have e0 : Env0 P w K mg (hidT s.heap H) callerA [] s H := by
      refine ⟨rfl, ⟨inB, names gl, ⟨mb, names bt, boot⟩, ?_⟩, fun b o e => of_hidT e, Nat.le_of_eq (hidT_size _ _), trivial, fun b z => ?_, hok, .of_eq gens⟩
      · obtain ⟨mc, h1, h2⟩ := lim
        exact ⟨mc, names h1, h2⟩
      · simp [frs] at z
    refine codeAny_mono ((F _ inB (names gl)).run callerA [] s H ⟨[.ref a], []⟩ [.ref a] [.ref a] _ _ rfl room e0 (binds s (.ref a)) (.cons rfl .nil) (pr H only sq)) ?_
    rintro (_ | _ | _ | _ | u) s' z
    case ok.ret =>
      obtain ⟨v, H', os, bare, un, hok', ru, rfl⟩ := z
      cases ru
      refine ⟨rfl, OldK.of_keep fun b o e => ?_, os, bare⟩
      rcases only b with n | ⟨ob, xs, fz⟩
      · exact un.keep b o e n (by simp [frs]) (by simp)
      · have o1 : s.heap.get? b = some ob := (hok b _ fz).1
        have o2 : s'.heap.get? b = some ob := (hok' b _ (un.frzs b ob _ fz)).1
        rw [o2, ← o1, e]
    all_goals exact z.elim
  cases lk : K.lookup a with
  | some o =>
    have e := (inK a o lk).symm.trans at_a
    injection e with e
    subst e
    exact main (fun _ => none) (fun _ => .inl rfl) (.inr ⟨_, vs.toArray, _, lk, rfl, rfl, rfl, by rw [List.size_toArray, nums.length]; exact few, by simpa using rel⟩) (fun b u z => nomatch z) (fun b z => absurd rfl z)
  | none =>
    let o : HO := .frz { cls := .type "list", data := .seq vs.toArray } (.lst (ns.map V.int))
    have off : ∀ b, b ≠ a → (upd (fun _ => none) a o) b = none := fun b n => upd_ne n
    refine main (upd (fun _ => none) a o) (fun b => ?_) (.inl (.inr ⟨_, upd_same⟩)) (fun b u z => ?_) (fun b z => ?_)
    · by_cases n : b = a
      · subst n; exact .inr ⟨_, _, upd_same⟩
      · exact .inl (off b n)
    · by_cases n : b = a
      · subst n
        rw [upd_same] at z
        injection z with z
        subst z
        exact ⟨at_a, by rw [List.length_map]; exact few, vs, _, rel, at_a⟩
      · rw [off b n] at z; cases z
    · by_cases n : b = a
      · exact ⟨n, lk⟩
      · exact absurd (off b n) z
/-- the end of a law's proof; the law's def is called with no repr under way -/
theorem walkG {l : PySem.W.OpenLaw} {n k : Nat} {q : Program} {loose : List Str} {XP : (Str → Option Value) → Heap → Prop} {YP : World → Heap → Prop} {d : DefRec} {K : Params → PySem.W.Frag} {sp : PySem.W.Frag → Sp} {x : Str}
    (most : l.most = some n) (few : n ≤ sizeLine) (nodef : d.params.defaults = []) (room : Room k callerA) (hY : ∀ (w : World) (h : Heap), YP w h → (K w.params).In h)
    (F : ∀ (w : World) (mg : Str → Option Value) (fa : Addr) (h : Heap), (K w.params).In h → h.Ns mainGlobals mg → mg d.name = some (.ref fa) →
      ∃ fd : FuncData, (∀ (s : Shared) (u : Value), BindsTo s fd ⟨[u], []⟩ [(x, u)]) ∧ ∀ base : Heap, (K w.params).In base → base.Ns mainGlobals mg → FnG l.prog w (K w.params) mg base k fa fd [x] (sp (K w.params)))
    (pr : ∀ (K : PySem.W.Frag) (H : Hp) (a : Addr) (ns : List Int), ns.length ≤ n → SqL K H a (ns.map V.int) → sp K [.ref a] H (fun v _ => v = .bl true) fun _ _ _ => False) :
    PySem.W.WalkO q loose XP YP l.row.toRowW d [] (fun f vs => PySem.call f vs) := by
  refine Att.attach_call most nodef ?_
  intro w s₀ s mg mb fa o pm cd doc a vs ns G Y _ _ _ named at_a nums len gens
  obtain ⟨fd, bd, go⟩ := F w mg fa _ (hY w _ Y) G.T.g named
  exact lawG (hY w _ Y) G.T.g G.T.b G.T.builtins G.T.nolimit gens at_a nums (Nat.le_trans len few) room go bd fun H _ sq => pr _ H a ns len sq
end Cn

namespace Cn
open PySem PySem.Spec PyProof.Rows L2
/-! ### set(list of ints) -/
abbrev set0 (w : World) : Obj := { cls := .type "set", dict := none, data := .set #[] 0 (.fresh 0 0 (!w.params.followText "set-order")) }
section
variable {P : Program} {w : World} {A : Around} {E : Value → Shared → Prop} {s : Shared}
set_option maxHeartbeats 8000000 in
theorem set_of_list {l : Addr} {items : Array Value} (ns : List Int) {Q : Value → Shared → Prop} (calm : A.handled = none) (isl : s.heap.IsList l items) (nums : IntsAre items.toList ns) (few : ns.length + 1 < scanBound)
    (fin : ∀ (h' : Heap) (tk c : Nat), SetR w h' s.heap.objs.size (fun j => decide (j ∈ ns)) c → c ≤ ns.length → (∀ b o, s.heap.get? b = some o → h'.get? b = some o) → Q (.ref s.heap.objs.size) { s with heap := h', toks := tk }) :
    wpAny (model P w) A (call (.type "set") [.ref l]) Q E s := by
  have size : items.size = ns.length := by rw [← Array.length_toList]; exact nums.length
  obtain ⟨c, tl, mro⟩ := F.called_set.mro
  have m1 := F.called_set.made
  have m2 := F.called_set.sub
  have m3 := F.called_set.notType
  have m4 := F.called_set.canCreate
  have m5 := F.typeCall_set_1 (.ref l)
  refine wpAny_call (codeAny_of_tree (show wpAny _ _ (callAny (.type "set") _) _ _ _ from wpAny_pure ⟨Code.quiet_builtin _ (by decide +kernel), codeAny_builtin F.entry_type_call ?_⟩))
  rw [Around.under_plain (weight_type_call_type "set" [.ref l] []) rfl]
  repeat (any_goals (first | assumption | wp_step))
  refine codeAny_mono (code_set_led1 (.ref l) (E := E) (Q₁ := fun obj t => obj = .ref s.heap.objs.size ∧ t = { s with heap := s.heap.push (set0 w) }) ⟨rfl, rfl⟩) ?_
  rintro (e | fl) s1 z
  · exact z
  cases fl with
  | ret obj =>
    obtain ⟨rfl, rfl⟩ := z
    have here : (s.heap.push (set0 w)).get? s.heap.objs.size = some (set0 w) := Heap.get?_push_size _ rfl
    have typ : Shared.TypeIs { s with heap := s.heap.push (set0 w) } (.ref s.heap.objs.size) "set" := ⟨_, here, rfl⟩
    have i1 := F.called_set.init.lookup
    have i2 := F.called_set.init.bind (.ref s.heap.objs.size)
    repeat (any_goals (first | assumption | wp_step))
    refine codeAny_mono (codeAny_call_builtin (R := wants (fun r t => r = .none ∧ ∃ h' tk c, t = { s with heap := h', toks := tk } ∧ SetR w h' s.heap.objs.size (fun j => decide (j ∈ ns)) c ∧ c ≤ ns.length ∧
      ∀ b o, s.heap.get? b = some o → h'.get? b = some o) E) F.called_set.init.plain F.entry_set_init (check_set_init_1 typ ?_)) ?_
    · obtain ⟨⟨cl, dc, dt, sl⟩, ol, hcl, n, hdt⟩ := isl
      simp only at hcl hdt
      subst hcl; subst hdt
      have ol1 : (s.heap.push (set0 w)).get? l = some { cls := .type "list", dict := dc, data := .seq items n, slots := sl } := Heap.get?_push_of_some _ ol
      have b1 := F.sub_list_set
      have b2 := F.sub_list_frozenset
      have b3 : (Value.type "list" == Value.type "dict") = false := by decide
      have isl1 : (s.heap.push (set0 w)).IsList l items := ⟨_, ol1, rfl, n, rfl⟩
      unfold Builtin.«set.__init__» noKeywords Builtin.Frozenset.updateFrom
      generalize kept : pyIter = PI
      wp_walk
      subst kept
      refine wpAny_pyIter_list isl1 (wpAny_bind (wpAny_runValue ?_))
      have low : l < s.heap.objs.size := Heap.lt_size ol
      have calm3 : A.in1.in1.in1.handled = none := by simp [calm]
      have sz1 : (s.heap.push (set0 w)).objs.size = s.heap.objs.size + 1 := Heap.size_push ..
      have ne1 : l ≠ (s.heap.push (set0 w)).objs.size := by rw [sz1]; exact Nat.ne_of_lt (Nat.lt_succ_of_lt low)
      have out : s.heap.objs.size ∉ [(s.heap.push (set0 w)).objs.size, l] := by
        rw [sz1]
        simp only [List.mem_cons, List.not_mem_nil, or_false, not_or]
        exact ⟨Nat.ne_of_lt (Nat.lt_succ_self _), Nat.ne_of_gt low⟩
      have val : ∀ (i : Nat) (v : Value), items[i]? = some v → ∃ k t, ns[i]? = some k ∧ v = .int k t := by
        intro i v hv
        have hi : i < ns.length := by rw [← size]; exact (Array.getElem?_eq_some_iff.mp hv).1
        obtain ⟨t, e⟩ := nums.int_at i v (by rw [Array.getElem?_toList]; exact hv)
        refine ⟨ns[i], t, List.getElem?_eq_getElem hi, ?_⟩
        rw [e, List.getD_eq_getElem?_getD, List.getElem?_eq_getElem hi] <;> rfl
      refine set_update_ints ((Walks.list calm3 _ l ne1 items).toS) s.heap.objs.size out ns size few val (items.size - 0) 0 _ (by omega) (Nat.zero_le _) ⟨⟨_, Heap.get?_push_size _ rfl, rfl, rfl⟩, (isl1.push _)⟩ ⟨0, Nat.le_refl 0, setR_new_at (Heap.get?_push_of_some _ here)⟩ ?_
      rintro ⟨h', g', d', tk', os'⟩ c' mv le R
      obtain rfl : g' = s.gens := mv.gens
      obtain rfl : d' = s.drawn := mv.drawn
      obtain rfl : os' = s.os := mv.os
      show wpAny _ _ _ _ _ _
      refine wpAny_pure (show wpAny _ _ (ret Value.none) _ _ _ from wpAny_pure ⟨rfl, h', tk', c', rfl, R, by omega, fun b o e => ?_⟩)
      have lb : b < s.heap.objs.size := Heap.lt_size e
      refine mv.heap b o ?_ (Heap.get?_push_of_some _ (Heap.get?_push_of_some _ e))
      rw [sz1]
      simp only [List.mem_cons, List.not_mem_nil, or_false, not_or]
      exact ⟨Nat.ne_of_lt lb, Nat.ne_of_lt (Nat.lt_succ_of_lt lb)⟩
    · rintro (e | fl) t z
      · exact z
      cases fl with
      | ret r =>
        obtain ⟨rfl, h', tk, c', rfl, R, le, k⟩ := z
        repeat (any_goals (first | assumption | wp_step))
        exact fin _ _ _ R le k
      | _ => exact z.elim
  | _ => exact z.elim
end
section
variable {X : Cx}
def rSetL (K : PySem.W.Frag) (w : World) : List V → Hp → VK → Prop := fun xs H Q => ∃ (l : Addr) (ns : List Int), xs = [.ref l] ∧ SqL K H l (ns.map V.int) ∧ ns.length ≤ 1000 ∧
  ∀ p n, H p = none → n ≤ ns.length → Q (.ref p) (upd H p (SetO w p (fun j => decide (j ∈ ns)) n))
theorem cr_setL (hc : X.calm = true) : CallR X (.type "set") (rSetL X.K X.w) := by
  intro pins s σ H xs us Q I r h
  obtain ⟨l, ns, rfl, sq, few, q⟩ := h
  rw [Vals.ref1 r]
  obtain ⟨its, rv, pl, _⟩ := I.list sq
  refine set_of_list ns (I.ok.hd hc) pl.isList (by simpa using ints_of_vals rv) (by unfold scanBound; omega) fun h' tk c R le k => ?_
  exact ⟨.ref _, upd H s.heap.objs.size (SetO X.w s.heap.objs.size (fun j => decide (j ∈ ns)) c), I.laid (t' := tk) k (Nat.le_refl _) (setO_new R), rfl, q _ c (I.hok.fresh (Nat.le_refl _)) le⟩
/-- sorted(set(e)) as one -/
def rSortSet (K : PySem.W.Frag) : List V → Hp → VK → Prop := fun xs H Q => ∃ (l : Addr) (ns : List Int), xs = [.ref l] ∧ SqL K H l (ns.map V.int) ∧ ns.length < 64 ∧
  ∀ (ms : List Int) (p : Addr) (H' : Hp), ms.Pairwise (· < ·) → (∀ k : Int, k ∈ ms ↔ k ∈ ns) → H p = none → (∀ b o, H b = some o → H' b = some o) → H' p = some (.lst (ms.map V.int)) → Q (.ref p) H'
theorem sortset {K : PySem.W.Frag} {w : World} {vs : List V} {H1 : Hp} {Q : VK} (h : rSortSet K vs H1 Q) : rSetL K w vs H1 fun x H2 => rSortedSet w [x] H2 Q := by
  obtain ⟨l, ns, rfl, sq, few, q⟩ := h
  refine ⟨l, ns, rfl, sq, by omega, fun p n np le => ⟨p, _, n, rfl, upd_same, by omega, fun ms p' asc mem len np' => ?_⟩⟩
  have n1 : p' ≠ p := fun z => by rw [z, upd_same] at np'; cases np'
  have np0 := np'
  rw [upd_ne n1] at np0
  refine q ms p' _ asc (fun k => by rw [mem k, decide_eq_true_eq]) np0 (fun b o e => ?_) upd_same
  rw [upd_ne (ne_of_none e np0), upd_ne (ne_of_none e np)]
  exact e
end
end Cn

namespace Cn
open PySem PySem.Spec PyProof.Rows L2 Evl
/-! ### data made of tuples, of lists that are locked, and two dicts -/
def OdD (kvs : List (Key × V)) (ds : List (PyData × PyData)) : Prop := (kvs = [] ∧ ds = []) ∨ (kvs = [(.inr "a", .int 1)] ∧ ds = [(.str "a", .int 1)])
mutual
inductive Tp (H : Hp) : V → PyData → Prop
  | non : Tp H .non .none
  | bl (b : Bool) : Tp H (.bl b) (.bool b)
  | int (i : Int) : Tp H (.int i) (.int i)
  | str (x : Str) : Tp H (.str x) (.str x)
  | tup {a : Addr} {xs : List V} {ds : List PyData} : Rd H a (.tup xs) → TpAll H xs ds → Tp H (.ref a) (.tuple ds)
  | lst {a : Addr} {o : Obj} {xs : List V} {ds : List PyData} : H a = some (.frz o (.lst xs)) → a ≠ sysModules → TpAll H xs ds → Tp H (.ref a) (.list ds)
  | dic {a : Addr} {o : Obj} {kvs : List (Key × V)} {ds : List (PyData × PyData)} : H a = some (.frz o (.dK kvs)) → OdD kvs ds → Tp H (.ref a) (.dict ds)
inductive TpAll (H : Hp) : List V → List PyData → Prop
  | nil : TpAll H [] []
  | cons {v : V} {vs : List V} {d : PyData} {ds : List PyData} : Tp H v d → TpAll H vs ds → TpAll H (v :: vs) (d :: ds)
end
/-- the tuples stay, and what is locked -/
def Tk (H H' : Hp) : Prop := (∀ a xs, Rd H a (.tup xs) → Rd H' a (.tup xs)) ∧ ∀ a o u, H a = some (.frz o u) → H' a = some (.frz o u)
theorem sr {K : PySem.W.Frag} {H : Hp} {a : Addr} {xs : List V} (h : Rd H a (.tup xs)) : SqT K H a xs := .inl h
theorem rd_upd {H : Hp} {a p : Addr} {u o : HO} (h : Rd H a u) (n : a ≠ p) : Rd (upd H p o) a u := by
  rcases h with h | ⟨z, h⟩
  · exact .inl (by rw [upd_ne n]; exact h)
  · exact .inr ⟨z, by rw [upd_ne n]; exact h⟩
theorem rd_ne {H : Hp} {a p : Addr} {xs ys : List V} (h : Rd H a (.tup xs)) (hp : H p = some (.lst ys)) : a ≠ p := by
  rcases h with h | ⟨z, h⟩
  · exact ne_of h hp (by intro z; cases z)
  · exact ne_of h hp (by intro z; cases z)
theorem Tk.refl (H : Hp) : Tk H H := ⟨fun _ _ h => h, fun _ _ _ h => h⟩
theorem Tk.trans {H H1 H2 : Hp} (a : Tk H H1) (b : Tk H1 H2) : Tk H H2 := ⟨fun p xs h => b.1 p xs (a.1 p xs h), fun p o u h => b.2 p o u (a.2 p o u h)⟩
theorem Tk.ex {H H' : Hp} (e : Ex H H') : Tk H H' := ⟨fun a _ h => ex_rd e h, fun a _ _ h => e a _ h⟩
theorem Tk.lst {H : Hp} {p : Addr} {xs ys : List V} (h : H p = some (.lst xs)) : Tk H (upd H p (.lst ys)) :=
  ⟨fun a zs e => rd_upd e (rd_ne e h), fun a o u e => by rw [upd_ne (ne_of e h (by intro z; cases z))]; exact e⟩
mutual
theorem Tp.mono {H H' : Hp} (k : Tk H H') : ∀ {d : PyData} {v : V}, Tp H v d → Tp H' v d
  | _, _, .non => .non
  | _, _, .bl b => .bl b
  | _, _, .int i => .int i
  | _, _, .str x => .str x
  | _, _, .tup h a => .tup (k.1 _ _ h) (TpAll.mono k a)
  | _, _, .lst h n a => .lst (k.2 _ _ _ h) n (TpAll.mono k a)
  | _, _, .dic h r => .dic (k.2 _ _ _ h) r
theorem TpAll.mono {H H' : Hp} (k : Tk H H') : ∀ {ds : List PyData} {vs : List V}, TpAll H vs ds → TpAll H' vs ds
  | _, _, .nil => .nil
  | _, _, .cons a b => .cons (Tp.mono k a) (TpAll.mono k b)
end
mutual
theorem Tp.dp {K : PySem.W.Frag} {H : Hp} : ∀ {d : PyData} {v : V}, Tp H v d → d.hasDict = false → Dp K H v d
  | _, _, .non, _ => .non
  | _, _, .bl b, _ => .bl b
  | _, _, .int i, _ => .int i
  | _, _, .str x, _ => .str x
  | _, _, .tup h a, n => .tup (sr h) (TpAll.dp a (by simpa only [PyData.hasDict] using n))
  | _, _, .lst h _ a, n => .lst (.inl (.inr ⟨_, h⟩)) (TpAll.dp a (by simpa only [PyData.hasDict] using n))
  | _, _, .dic _ _, n => by simp [PyData.hasDict] at n
theorem TpAll.dp {K : PySem.W.Frag} {H : Hp} : ∀ {ds : List PyData} {vs : List V}, TpAll H vs ds → PyData.hasDictAll ds = false → DpAll K H vs ds
  | _, _, .nil, _ => .nil
  | _, _, .cons a b, n => by
    simp only [PyData.hasDictAll, Bool.or_eq_false_iff] at n
    exact .cons (Tp.dp a n.1) (TpAll.dp b n.2)
end
theorem nd_sm {d : PyData} (h : sm d = true) : d.hasDict = false := (sm_show d h).2.1
theorem nd_smAll {ds : List PyData} (h : sm (.list ds) = true) : PyData.hasDictAll ds = false := by
  have := nd_sm h
  simpa only [PyData.hasDict] using this
theorem nd_shaped {d : PyData} (h : SeqAt.shaped d = true) : d.hasDict = false := PyData.hasDict_of_canLay d (SeqAt.canLay_of_shaped h)
theorem nd_shapedL {ds : List PyData} (h : SeqAt.shaped (.list ds) = true) : PyData.hasDictAll ds = false := by
  have := nd_shaped h
  simpa only [PyData.hasDict] using this
section
variable {H H' : Hp}
theorem Tp.int_inv {v : V} {i : Int} (h : Tp H v (.int i)) : v = .int i := by cases h; rfl
theorem Tp.tup_inv {v : V} {ds : List PyData} (h : Tp H v (.tuple ds)) : ∃ a xs, v = .ref a ∧ Rd H a (.tup xs) ∧ TpAll H xs ds := by
  cases h with
  | tup a b => exact ⟨_, _, rfl, a, b⟩
theorem TpAll.length : ∀ {xs : List V} {ds : List PyData}, TpAll H xs ds → xs.length = ds.length
  | _, _, .nil => rfl
  | _, _, .cons _ b => by simp [b.length]
theorem TpAll.get : ∀ {xs : List V} {ds : List PyData} {i : Nat} {d : PyData}, TpAll H xs ds → ds[i]? = some d → ∃ v, xs[i]? = some v ∧ Tp H v d
  | _, _, _, _, .nil, e => by simp at e
  | _, _, 0, _, .cons a _, e => by simp at e; subst e; exact ⟨_, rfl, a⟩
  | _, _, i + 1, _, .cons _ b, e => by
    obtain ⟨v, h1, h2⟩ := b.get (i := i) (by simpa using e)
    exact ⟨v, by simpa using h1, h2⟩
theorem TpAll.append : ∀ {xs ys : List V} {ds es : List PyData}, TpAll H xs ds → TpAll H ys es → TpAll H (xs ++ ys) (ds ++ es)
  | _, _, _, _, .nil, b => b
  | _, _, _, _, .cons a r, b => .cons a (r.append b)
theorem TpAll.take : ∀ {xs : List V} {ds : List PyData} (n : Nat), TpAll H xs ds → TpAll H (xs.take n) (ds.take n)
  | _, _, 0, _ => .nil
  | _, _, _ + 1, .nil => .nil
  | _, _, n + 1, .cons a b => .cons a (b.take n)
theorem TpAll.nums : ∀ {ns : List Int} {xs : List V}, TpAll H xs (ns.map PyData.int) → xs = ns.map V.int
  | [], _, h => by cases h; rfl
  | n :: ns, _, h => by
    cases h with
    | cons a b => rw [List.map_cons, a.int_inv, b.nums]
theorem TpAll.of_nums : ∀ ns : List Int, TpAll H (ns.map V.int) (ns.map PyData.int)
  | [] => .nil
  | n :: ns => .cons (.int n) (TpAll.of_nums ns)
end
/-! ### gardens -/
abbrev Bed := Int × Int
def bedD (b : Bed) : PyData := .tuple [.int b.1, .int b.2]
def bedsD (bs : List Bed) : PyData := .tuple (bs.map bedD)
def gardenD (t c : Int) (bs : List Bed) : PyData := .tuple [.int t, .int c, bedsD bs]
theorem bed_inv {H : Hp} {v : V} {b : Bed} (h : Tp H v (bedD b)) : ∃ a, v = .ref a ∧ Rd H a (.tup [.int b.1, .int b.2]) := by
  obtain ⟨a, xs, rfl, ha, r⟩ := Tp.tup_inv h
  cases r with
  | cons p r =>
    cases r with
    | cons q r =>
      cases r
      rw [p.int_inv, q.int_inv] at ha
      exact ⟨a, rfl, ha⟩
theorem garden_inv {H : Hp} {v : V} {t c : Int} {bs : List Bed} (h : Tp H v (gardenD t c bs)) : ∃ g b xs, v = .ref g ∧ Rd H g (.tup [.int t, .int c, .ref b]) ∧ Rd H b (.tup xs) ∧ TpAll H xs (bs.map bedD) := by
  obtain ⟨g, xs, rfl, hg, r⟩ := Tp.tup_inv h
  cases r with
  | cons p r =>
    cases r with
    | cons q r =>
      cases r with
      | cons z r =>
        cases r
        obtain ⟨b, ys, rfl, hb, r⟩ := Tp.tup_inv z
        rw [p.int_inv, q.int_inv] at hg
        exact ⟨g, b, ys, rfl, hg, hb, r⟩
theorem garden_of {H : Hp} {g b : Addr} {t c : Int} {xs : List V} {bs : List Bed} (hg : Rd H g (.tup [.int t, .int c, .ref b])) (hb : Rd H b (.tup xs)) (r : TpAll H xs (bs.map bedD)) : Tp H (.ref g) (gardenD t c bs) :=
  .tup hg (.cons (.int t) (.cons (.int c) (.cons (.tup hb r) .nil)))
theorem bed_of {H : Hp} {a : Addr} {b : Bed} (h : Rd H a (.tup [.int b.1, .int b.2])) : Tp H (.ref a) (bedD b) := .tup h (.cons (.int _) (.cons (.int _) .nil))

/-! ### evaluation to data -/
def EvD (te : TE) (σ : L2.St) (H : Hp) (d : PyData) : Prop := ∀ H1, Ex H H1 → ∀ Q : VK, (∀ v H2, Ex H1 H2 → Tp H2 v d → Q v H2) → te σ H1 Q
def EvLd (te : TE) (σ : L2.St) (H : Hp) (ds : List PyData) : Prop := ∀ H1, Ex H H1 → ∀ Q : VK, (∀ p xs H2, H1 p = none → Ex H1 H2 → H2 p = some (.lst xs) → TpAll H2 xs ds → Q (.ref p) H2) → te σ H1 Q
def EvAd (ta : TA) (σ : L2.St) (H : Hp) (ds : List PyData) : Prop := ∀ H1, Ex H H1 → ∀ Q : List V → Hp → Prop, (∀ vs H2, Ex H1 H2 → TpAll H2 vs ds → Q vs H2) → ta σ H1 Q
section
variable {K : PySem.W.Frag} {σ : L2.St} {H H' : Hp} {ta tb te tx : TE} {t u : TT} {x y z v : V} {d : PyData} {ds : List PyData}
theorem EvD.mono (e : Ex H H') (h : EvD te σ H d) : EvD te σ H' d := fun H1 a Q q => h H1 (e.trans a) Q q
theorem ed_int {i : Int} (h : Ev te σ H (.int i)) : EvD te σ H (.int i) := fun H1 e Q q => h H1 e Q fun H2 e2 => q _ H2 e2 (.int i)
theorem ev_of {i : Int} (h : EvD te σ H (.int i)) : Ev te σ H (.int i) := fun H1 e Q q => h H1 e Q fun v H2 e2 t => by
  rw [t.int_inv]
  exact q H2 e2
theorem ed_val (h : Ev te σ H v) (t : Tp H v d) : EvD te σ H d := fun H1 e Q q => h H1 e Q fun H2 e2 => q _ H2 e2 (t.mono (Tk.ex (e.trans e2)))
theorem ead_nil : EvAd tNil σ H [] := fun H1 _ _ q => q [] H1 (Ex.refl H1) .nil
theorem ead_cons {tr : TA} (h : EvD ta σ H d) (hr : EvAd tr σ H ds) : EvAd (tCons ta tr) σ H (d :: ds) := fun H1 e Q q =>
  h H1 e _ fun v H2 e2 t2 => hr H2 (e.trans e2) _ fun vs H3 e3 t3 => q _ H3 (e2.trans e3) (.cons (t2.mono (Tk.ex e3)) t3)
theorem ed_tup {tr : TA} (h : EvAd tr σ H ds) (hl : ds.length ≤ 100000) : EvD (tTup tr) σ H (.tuple ds) := fun H1 e Q q =>
  h H1 e _ fun vs H2 e2 t2 => ⟨sz_of (by rw [t2.length]; exact hl), fun p hp => q _ _ (e2.trans (Ex.new hp)) (.tup (.inl upd_same) (t2.mono (Tk.ex (Ex.new hp))))⟩
theorem eld_lst {tr : TA} (h : EvAd tr σ H ds) (hl : ds.length ≤ 100000) : EvLd (tLst tr) σ H ds := fun H1 e Q q =>
  h H1 e _ fun vs H2 e2 t2 => ⟨sz_of (by rw [t2.length]; exact hl), fun p hp => q p vs _ (fresh_back e2 hp) (e2.trans (Ex.new hp)) upd_same (t2.mono (Tk.ex (Ex.new hp)))⟩
theorem el_nums {ns : List Int} (h : EvLd te σ H (ns.map PyData.int)) : EvL te σ H (ns.map V.int) := fun H1 e Q q => h H1 e Q fun p xs H2 hp e2 h2 t => q p H2 hp e2 (by rw [h2, t.nums])
theorem eld_nums {ns : List Int} (h : EvL te σ H (ns.map V.int)) : EvLd te σ H (ns.map PyData.int) := fun H1 e Q q => h H1 e Q fun p H2 hp e2 h2 => q p _ H2 hp e2 h2 (TpAll.of_nums ns)
/-- new list + new list -/
theorem el_cat {xs ys : List V} (ha : EvL ta σ H xs) (hb : EvL tb σ H ys) (hl : xs.length + ys.length ≤ 100000) : EvL (tOp rCat ta tb) σ H (xs ++ ys) := fun H1 e Q q =>
  ha H1 e _ fun p H2 hp e2 h2 => hb H2 (e.trans e2) _ fun p' H3 hp' e3 h3 => ⟨p, p', xs, ys, rfl, rfl, e3 p _ h2, h3, sz_of hl, fun r hr => q r _ (fresh_back (e2.trans e3) hr) ((e2.trans e3).trans (Ex.new hr)) upd_same⟩
/-- a list by its name + a new list -/
theorem el_catV {p : Addr} {xs ys : List V} (ha : Ev ta σ H (.ref p)) (hp : H p = some (.lst xs)) (hb : EvL tb σ H ys) (hl : xs.length + ys.length ≤ 100000) : EvL (tOp rCat ta tb) σ H (xs ++ ys) := fun H1 e Q q =>
  ha H1 e _ fun H2 e2 => hb H2 (e.trans e2) _ fun p' H3 hp' e3 h3 => ⟨p, p', xs, ys, rfl, rfl, ((e.trans e2).trans e3) p _ hp, h3, sz_of hl, fun r hr => q r _ (fresh_back (e2.trans e3) hr) ((e2.trans e3).trans (Ex.new hr)) upd_same⟩
theorem et_yes : EvT tYes σ H true := fun H1 _ _ q => q H1 (Ex.refl H1)
theorem ed_call {sp : Sp} {E : XK} {tr : TA} {vs : List V} (h : EvA tr σ H vs) (hs : ∀ H1, Ex H H1 → ∀ Q : VK, (∀ v H2, Ex H1 H2 → Tp H2 v d → Q v H2) → ∀ E : XK, sp vs H1 Q E) : EvD (tCall sp [] E tr) σ H d := fun H1 e Q q =>
  h H1 e _ fun H2 e2 => by
    show sp (vs ++ []) H2 Q E
    rw [List.append_nil]
    exact hs H2 (e.trans e2) Q (fun v H3 e3 t3 => q v H3 (e2.trans e3) t3) E
/-- which turns give, and what -/
def givD (n : Nat) (f : Nat → Bool) (dd : Nat → PyData) : List PyData := ((List.range n).filter f).map dd
theorem givD_yes {n : Nat} {f : Nat → Bool} {dd : Nat → PyData} (h : f n = true) : givD (n + 1) f dd = givD n f dd ++ [dd n] := by
  simp [givD, List.range_succ, h]
theorem givD_no {n : Nat} {f : Nat → Bool} {dd : Nat → PyData} (h : f n = false) : givD (n + 1) f dd = givD n f dd := by
  simp [givD, List.range_succ, h]
theorem givD_len (n : Nat) (f : Nat → Bool) (dd : Nat → PyData) : (givD n f dd).length ≤ n := by
  have := List.length_filter_le f (List.range n)
  simp only [givD, List.length_map, List.length_range] at this ⊢
  exact this
/-- a comprehension that changes nothing, over any walk -/
theorem lc_pure {J : It} {n : Nat} {G : Hp → Prop} {Y : Nat → Hp → V → Hp → Prop} (w : Walk J n G Y) (few : n ≤ 50000) {g : TG} {vs : List Nat} {Q : VK} (f : Nat → Bool) (dd : Nat → PyData) (hG : ∀ H', Ex H H' → G H')
    (hs : ∀ i x H1 H2, i < n → Ex H H1 → Y i H1 x H2 → Ex H1 H2 ∧ ∃ σ2, (∀ R : L2.St → Hp → Prop, R σ2 H2 → g x (wipe σ vs) H2 R) ∧ wipe σ2 vs = wipe σ vs ∧ EvT t σ2 H2 (f i) ∧ (f i = true → EvD te σ2 H2 (dd i)))
    (q : ∀ p xs H', H p = none → Ex H H' → H' p = some (.lst xs) → TpAll H' xs (givD n f dd) → Q (.ref p) H') :
    ∀ D, H D = none → ∃ W : Nat → Nat → Hp → Prop, (∃ m, W 0 m (upd H D (.lst []))) ∧ ∀ i m H', W i m H' →
      (J.stop i H' ∧ Q (.ref D) H') ∨ (J.go i H' ∧ ∃ Nx : Hp → Prop, (∀ H2, Nx H2 → ∃ m', m' < m ∧ W (i + 1) m' H2) ∧ ∀ x H2, J.yld i H' x H2 → g x (wipe σ vs) H2 fun σ2 H2 => wipe σ2 vs = wipe σ vs ∧ t σ2 H2 fun b H3 =>
        if b = true then te σ2 H3 fun y H4 => ∃ acc, H4 D = some (.lst acc) ∧ acc.length < sizeLine ∧ Nx (upd H4 D (.lst (acc ++ [y]))) else Nx H3) := by
  intro D hD
  refine lc_it w (Qd := fun H' => Q (.ref D) H') (fun i H' => Ex H H' ∧ ∃ xs, H' D = some (.lst xs) ∧ TpAll H' xs (givD i f dd)) ⟨Ex.new hD, [], upd_same, .nil⟩ (fun i H' _ p => hG H' p.1) ?_ (fun H' p => by
    obtain ⟨e, xs, h1, h2⟩ := p
    exact q D xs H' hD e h1 h2)
  rintro i x H1 H2 hi ⟨e1, xs, h1, t1⟩ hy
  obtain ⟨e2, σ2, bind, hw, ht, he⟩ := hs i x H1 H2 hi e1 hy
  refine bind _ ⟨hw, ht H2 (Ex.refl H2) _ fun H3 e3 => ?_⟩
  have e03 : Ex H H3 := (e1.trans e2).trans e3
  have h3 : H3 D = some (.lst xs) := (e2.trans e3) D _ h1
  have t3 : TpAll H3 xs (givD i f dd) := t1.mono (Tk.ex (e2.trans e3))
  cases hf : f i with
  | false =>
    show Ex H H3 ∧ _
    rw [givD_no hf]
    exact ⟨e03, xs, h3, t3⟩
  | true =>
    show te σ2 H3 _
    refine he hf H3 e3 _ fun v H4 e4 t4 => ⟨xs, e4 D _ h3, sz_lt ?_, Ex.mut (e03.trans e4) hD, xs ++ [v], upd_same, ?_⟩
    · have := givD_len i f dd
      rw [t3.length]; omega
    · rw [givD_yes hf]
      exact ((t3.mono (Tk.ex e4)).append (.cons t4 .nil)).mono (Tk.lst (e4 D _ h3))
theorem giv_list {α : Type} (l : List α) (f : α → Bool) (dd : α → PyData) (f' : Nat → Bool) (dd' : Nat → PyData) (h : ∀ i a, l[i]? = some a → f' i = f a ∧ dd' i = dd a) : givD l.length f' dd' = (l.filter f).map dd := by
  have key : ∀ n, n ≤ l.length → givD n f' dd' = ((l.take n).filter f).map dd := by
    intro n
    induction n with
    | zero => intro _; simp [givD]
    | succ n ih =>
      intro hn
      have hl : l[n]? = some l[n] := List.getElem?_eq_getElem hn
      obtain ⟨h1, h2⟩ := h n _ hl
      rw [List.take_add_one, hl]
      simp only [Option.toList_some, List.filter_append, List.map_append]
      cases hf : f l[n] with
      | true => rw [givD_yes (h1.trans hf), ih (by omega), h2]; simp [hf]
      | false => rw [givD_no (h1.trans hf), ih (by omega)]; simp [hf]
  rw [key _ (Nat.le_refl _), List.take_length]
abbrev gPair (K : PySem.W.Frag) (i j : Nat) : TG := gTup K 2 (gCons (gName i) (gCons (gName j) gNil))
theorem pair_bind {H : Hp} {a : Addr} {p l : V} {i j : Nat} {σ : L2.St} (h : Rd H a (.tup [p, l])) (R : L2.St → Hp → Prop) (r : R ((σ.set i (some p)).set j (some l)) H) : gPair K i j (.ref a) σ H R :=
  ⟨a, _, rfl, sr h, rfl, p, [l], rfl, l, [], rfl, rfl, r⟩
/-- [.. for place, litres in beds if ..] -/
theorem eld_beds {tl : TE} {a : Addr} {xs : List V} {bs : List Bed} {i j : Nat} {vs : List Nat} (f : Bed → Bool) (dd : Bed → PyData) (h : Ev tl σ H (.ref a)) (ha : Rd H a (.tup xs)) (hb : TpAll H xs (bs.map bedD)) (few : bs.length ≤ 50000)
    (hw : ∀ p l, wipe (((wipe σ vs).set i (some p)).set j (some l)) vs = wipe σ vs)
    (ht : ∀ b ∈ bs, EvT t (((wipe σ vs).set i (some (.int b.1))).set j (some (.int b.2))) H (f b)) (he : ∀ b ∈ bs, f b = true → EvD te (((wipe σ vs).set i (some (.int b.1))).set j (some (.int b.2))) H (dd b)) :
    EvLd (tLc (iTup K tl) (gPair K i j) t te vs) σ H ((bs.filter f).map dd) := fun H0 e0 Q q => h H0 e0 _ fun H1 e1 => by
  have eq : xs.length = bs.length := by rw [hb.length, List.length_map]
  have e01 := e0.trans e1
  refine ⟨a, rfl, ⟨xs, sr (ex_rd e01 ha)⟩, ?_⟩
  have gl := giv_list bs f dd (fun i => match bs[i]? with | some b => f b | none => false) (fun i => match bs[i]? with | some b => dd b | none => .none) (fun i a e => by simp [e])
  refine lc_pure (walk_tup (K := K) (a := a) (xs := xs)) (by omega) (fun i => match bs[i]? with | some b => f b | none => false) (fun i => match bs[i]? with | some b => dd b | none => .none) (fun H' e => sr (ex_rd e (ex_rd e01 ha))) ?_ ?_
  · rintro k x H2 _ hk e2 ⟨rfl, hx⟩
    have hk' : k < bs.length := by omega
    have hbk : bs[k]? = some bs[k] := List.getElem?_eq_getElem hk'
    obtain ⟨v, hv, tv⟩ := hb.get (i := k) (d := bedD bs[k]) (by rw [List.getElem?_map, hbk]; rfl)
    rw [hx] at hv
    cases hv
    obtain ⟨c, rfl, hc⟩ := bed_inv (tv.mono (Tk.ex (e01.trans e2)))
    have hm : bs[k] ∈ bs := List.getElem_mem hk'
    refine ⟨Ex.refl _, _, fun R r => pair_bind hc R r, hw _ _, ?_, ?_⟩
    · simp only [hbk]
      exact (ht _ hm).mono (e01.trans e2)
    · simp only [hbk]
      exact fun hf => (he _ hm hf).mono (e01.trans e2)
  · intro p ys H2 hp e2 h2 t2
    refine q p ys H2 (fresh_back e1 hp) (e1.trans e2) h2 ?_
    rw [← gl, ← eq]
    exact t2
/-- the same over a list of tuples -/
theorem eld_bedsL {tl : TE} {a : Addr} {xs : List V} {bs : List Bed} {i j : Nat} {vs : List Nat} (f : Bed → Bool) (dd : Bed → PyData) (h : Ev tl σ H (.ref a)) (ha : H a = some (.lst xs)) (hb : TpAll H xs (bs.map bedD)) (few : bs.length ≤ 50000)
    (hw : ∀ p l, wipe (((wipe σ vs).set i (some p)).set j (some l)) vs = wipe σ vs)
    (ht : ∀ b ∈ bs, EvT t (((wipe σ vs).set i (some (.int b.1))).set j (some (.int b.2))) H (f b)) (he : ∀ b ∈ bs, f b = true → EvD te (((wipe σ vs).set i (some (.int b.1))).set j (some (.int b.2))) H (dd b)) :
    EvLd (tLc (iList K tl) (gPair K i j) t te vs) σ H ((bs.filter f).map dd) := fun H0 e0 Q q => h H0 e0 _ fun H1 e1 => by
  have eq : xs.length = bs.length := by rw [hb.length, List.length_map]
  have e01 := e0.trans e1
  refine ⟨a, rfl, ⟨xs, sq_of (e01 a _ ha)⟩, ?_⟩
  have gl := giv_list bs f dd (fun i => match bs[i]? with | some b => f b | none => false) (fun i => match bs[i]? with | some b => dd b | none => .none) (fun i a e => by simp [e])
  refine lc_pure (walk_list (K := K) (a := a) (xs := xs)) (by omega) (fun i => match bs[i]? with | some b => f b | none => false) (fun i => match bs[i]? with | some b => dd b | none => .none) (fun H' e => sq_of (e a _ (e01 a _ ha))) ?_ ?_
  · rintro k x H2 _ hk e2 ⟨rfl, hx⟩
    have hk' : k < bs.length := by omega
    have hbk : bs[k]? = some bs[k] := List.getElem?_eq_getElem hk'
    obtain ⟨v, hv, tv⟩ := hb.get (i := k) (d := bedD bs[k]) (by rw [List.getElem?_map, hbk]; rfl)
    rw [hx] at hv
    cases hv
    obtain ⟨c, rfl, hc⟩ := bed_inv (tv.mono (Tk.ex (e01.trans e2)))
    have hm : bs[k] ∈ bs := List.getElem_mem hk'
    refine ⟨Ex.refl _, _, fun R r => pair_bind hc R r, hw _ _, ?_, ?_⟩
    · simp only [hbk]
      exact (ht _ hm).mono (e01.trans e2)
    · simp only [hbk]
      exact fun hf => (he _ hm hf).mono (e01.trans e2)
  · intro p ys H2 hp e2 h2 t2
    refine q p ys H2 (fresh_back e1 hp) (e1.trans e2) h2 ?_
    rw [← gl, ← eq]
    exact t2
end
end Cn

namespace Cn
open PySem PySem.Spec PyProof.Rows L2 Evl
/-! ### marks -/
abbrev Asc (l : List Int) : Prop := l.Pairwise (· < ·)
theorem asc_unique : ∀ {a b : List Int}, Asc a → Asc b → (∀ k, k ∈ a ↔ k ∈ b) → a = b
  | [], [], _, _, _ => rfl
  | [], y :: b, _, _, h => absurd ((h y).2 (List.mem_cons_self ..)) (by simp)
  | x :: a, [], _, _, h => absurd ((h x).1 (List.mem_cons_self ..)) (by simp)
  | x :: a, y :: b, ha, hb, h => by
    have ha' := List.pairwise_cons.mp ha
    have hb' := List.pairwise_cons.mp hb
    have hx : x = y := by
      have h1 := (h x).1 (List.mem_cons_self ..)
      have h2 := (h y).2 (List.mem_cons_self ..)
      rcases List.mem_cons.mp h1 with e | e
      · exact e
      · rcases List.mem_cons.mp h2 with e2 | e2
        · exact e2.symm
        · have := hb'.1 x e
          have := ha'.1 y e2
          omega
    subst hx
    congr 1
    refine asc_unique ha'.2 hb'.2 fun k => ⟨fun m => ?_, fun m => ?_⟩
    · have lt := ha'.1 k m
      rcases List.mem_cons.mp ((h k).1 (List.mem_cons_of_mem _ m)) with e | e
      · omega
      · exact e
    · have lt := hb'.1 k m
      rcases List.mem_cons.mp ((h k).2 (List.mem_cons_of_mem _ m)) with e | e
      · omega
      · exact e
def ins (x : Int) : List Int → List Int
  | [] => [x]
  | y :: r => if x < y then x :: y :: r else if x = y then y :: r else y :: ins x r
theorem mem_ins {x k : Int} : ∀ {l : List Int}, k ∈ ins x l ↔ k = x ∨ k ∈ l
  | [] => by simp [ins]
  | y :: r => by
    unfold ins
    split
    · simp
    · split
      · rename_i e; subst e; simp
      · simp only [List.mem_cons, mem_ins (l := r)]
        constructor
        · rintro (h | h | h) <;> simp [h]
        · rintro (h | h | h) <;> simp [h]
theorem asc_ins {x : Int} : ∀ {l : List Int}, Asc l → Asc (ins x l)
  | [], _ => by simp [ins, Asc]
  | y :: r, h => by
    have h' := List.pairwise_cons.mp h
    unfold ins
    split
    · rename_i lt
      refine List.pairwise_cons.mpr ⟨fun k m => ?_, h⟩
      rcases List.mem_cons.mp m with e | e
      · omega
      · have := h'.1 k e; omega
    · split
      · exact h
      · rename_i n1 n2
        refine List.pairwise_cons.mpr ⟨fun k m => ?_, asc_ins h'.2⟩
        rcases mem_ins.mp m with e | e
        · omega
        · exact h'.1 k e
def sortU (l : List Int) : List Int := l.foldr ins []
theorem mem_sortU {k : Int} : ∀ {l : List Int}, k ∈ sortU l ↔ k ∈ l
  | [] => by simp [sortU]
  | x :: r => by
    show k ∈ ins x (sortU r) ↔ _
    rw [mem_ins, mem_sortU, List.mem_cons]
theorem asc_sortU : ∀ l : List Int, Asc (sortU l)
  | [] => .nil
  | x :: r => asc_ins (asc_sortU r)
theorem len_ins {x : Int} : ∀ {l : List Int}, (ins x l).length ≤ l.length + 1
  | [] => by simp [ins]
  | y :: r => by
    unfold ins
    split
    · simp
    · split
      · simp
      · have := len_ins (x := x) (l := r)
        simp only [List.length_cons]; omega
theorem len_sortU : ∀ l : List Int, (sortU l).length ≤ l.length
  | [] => by simp [sortU]
  | x :: r => by
    have h := len_ins (x := x) (l := sortU r)
    have h2 := len_sortU r
    show (ins x (sortU r)).length ≤ r.length + 1
    omega
def marks (t : Int) (bs : List Bed) : List Int := sortU (t :: bs.map (·.1))
theorem sortU_eq {l ms : List Int} (a : Asc ms) (h : ∀ k, k ∈ ms ↔ k ∈ l) : ms = sortU l := asc_unique a (asc_sortU l) fun k => (h k).trans mem_sortU.symm

/-! ### stretches -/
def pairs : List Int → List (Int × Int)
  | x :: y :: r => (x, y) :: pairs (y :: r)
  | _ => []
theorem pairs_len : ∀ l : List Int, (pairs l).length = l.length - 1
  | [] => rfl
  | [_] => rfl
  | x :: y :: r => by
    show (pairs (y :: r)).length + 1 = _
    rw [pairs_len (y :: r)]
    simp
theorem pairs_get : ∀ {l : List Int} {i : Nat} {x y : Int}, l[i]? = some x → l[i + 1]? = some y → (pairs l)[i]? = some (x, y)
  | [], _, _, _, h, _ => by simp at h
  | [_], i, _, _, _, h2 => by simp at h2
  | a :: b :: r, 0, x, y, h, h2 => by
    simp at h h2
    subst h h2
    rfl
  | a :: b :: r, i + 1, x, y, h, h2 => by
    have := pairs_get (l := b :: r) (i := i) (x := x) (y := y) (by simpa using h) (by simpa using h2)
    simpa [pairs] using this
def litres (t : Int) (bs : List Bed) (lo hi : Int) : Int :=
  if t ≤ lo then ((bs.filter fun b => decide (hi ≤ b.1)).map (·.2)).sum else ((bs.filter fun b => decide (b.1 ≤ lo)).map (·.2)).sum
def strD (t : Int) (bs : List Bed) (p : Int × Int) : PyData := .tuple [.int p.1, .int p.2, .int (litres t bs p.1 p.2)]
def stretchesD (t : Int) (bs : List Bed) : PyData := .tuple ((pairs (marks t bs)).map (strD t bs))
/-- the law's own count -/
def total (t lo hi : Int) (bs : List Bed) : Int := ((bs.filter fun b => (decide (t ≤ lo) && decide (lo < b.1)) || (decide (b.1 < hi) && decide (hi ≤ t))).map (·.2)).sum
theorem gap {l : List Int} {i : Nat} {x y k : Int} (a : Asc l) (hx : l[i]? = some x) (hy : l[i + 1]? = some y) (hk : k ∈ l) : k ≤ x ∨ y ≤ k := by
  obtain ⟨j, hj, e⟩ := List.getElem_of_mem hk
  obtain ⟨h1, e1⟩ := List.getElem?_eq_some_iff.mp hx
  obtain ⟨h2, e2⟩ := List.getElem?_eq_some_iff.mp hy
  have mono : ∀ p q (hp : p < l.length) (hq : q < l.length), p < q → l[p] < l[q] := fun p q hp hq hpq => List.pairwise_iff_getElem.mp a p q hp hq hpq
  rcases Nat.lt_trichotomy j i with h | h | h
  · have := mono j i hj h1 h; omega
  · subst h; omega
  · by_cases h3 : j = i + 1
    · subst h3; omega
    · have := mono (i + 1) j h2 hj (by omega); omega
theorem asc_at {l : List Int} {i : Nat} {x y : Int} (a : Asc l) (hx : l[i]? = some x) (hy : l[i + 1]? = some y) : x < y := by
  obtain ⟨h1, e1⟩ := List.getElem?_eq_some_iff.mp hx
  obtain ⟨h2, e2⟩ := List.getElem?_eq_some_iff.mp hy
  have := List.pairwise_iff_getElem.mp a i (i + 1) h1 h2 (by omega)
  omega
theorem total_eq {t : Int} {bs : List Bed} {i : Nat} {lo hi : Int} (h1 : (marks t bs)[i]? = some lo) (h2 : (marks t bs)[i + 1]? = some hi) : total t lo hi bs = litres t bs lo hi := by
  have a : Asc (marks t bs) := asc_sortU _
  have lt := asc_at a h1 h2
  have ht := gap a h1 h2 (mem_sortU.mpr (List.mem_cons_self ..) : t ∈ marks t bs)
  have hb : ∀ b ∈ bs, b.1 ≤ lo ∨ hi ≤ b.1 := fun b m => gap a h1 h2 (mem_sortU.mpr (List.mem_cons_of_mem _ (List.mem_map_of_mem m)) : b.1 ∈ marks t bs)
  unfold total litres
  split
  · rename_i c
    congr 2
    refine List.filter_congr fun b m => ?_
    have := hb b m
    rw [Bool.eq_iff_iff]
    simp only [Bool.or_eq_true, Bool.and_eq_true, decide_eq_true_eq]
    omega
  · rename_i c
    congr 2
    refine List.filter_congr fun b m => ?_
    have := hb b m
    rw [Bool.eq_iff_iff]
    simp only [Bool.or_eq_true, Bool.and_eq_true, decide_eq_true_eq]
    omega
end Cn

namespace Cn
open PySem PySem.Spec PyProof.Rows L2 Evl
section
variable {K : PySem.W.Frag} {w : World} {σ : L2.St} {H H' : Hp} {ta tb te tx : TE} {t u : TT} {x y z v : V} {d : PyData} {ds : List PyData}
/-- sorted(set(new list of ints)) -/
theorem el_sortset {ns : List Int} (h : EvL te σ H (ns.map V.int)) (few : ns.length < 64) : EvL (tCB (rSortedSet w) (tCons (tCB (rSetL K w) (tCons te tNil)) tNil)) σ H ((sortU ns).map V.int) := fun H1 e Q q =>
  h H1 e _ fun p H2 hp e2 h2 => sortset ⟨p, ns, rfl, sq_of h2, few, fun ms r H3 asc mem hr e3 h3 => q r H3 (fresh_back e2 hr) (e2.trans e3) (by rw [h3, sortU_eq asc mem])⟩
/-- sum(new list of ints) -/
theorem ev_sum {ns : List Int} (h : EvL te σ H (ns.map V.int)) : Ev (tCB (rSum K) (tCons te tNil)) σ H (.int ns.sum) := fun H1 e Q q =>
  h H1 e _ fun p H2 _ e2 h2 => ⟨p, ns, rfl, sq_of h2, q H2 e2⟩
/-- [x] of ints -/
theorem el_nums1 {i : Int} (h : Ev te σ H (.int i)) : EvL (tLst (tCons te tNil)) σ H ([i].map V.int) := el_lst (ea_cons h ea_nil) (by simp)
theorem el_is {xs ys : List V} (h : EvL te σ H xs) (e : xs = ys) : EvL te σ H ys := e ▸ h
theorem eld_is {es : List PyData} (h : EvLd te σ H ds) (e : ds = es) : EvLd te σ H es := e ▸ h
/-- one comparison of ints as a test -/
theorem et_le {i j : Int} (ha : Ev ta σ H (.int i)) (hb : Ev tb σ H (.int j)) : EvT (tTest (tOp (rI0 fun i j => .bl (decide (i ≤ j))) ta tb)) σ H (decide (i ≤ j)) := et_test (ev_op ha hb rv_I0)
theorem et_ge {i j : Int} (ha : Ev ta σ H (.int i)) (hb : Ev tb σ H (.int j)) : EvT (tTest (tOp (rI0 fun i j => .bl (decide (j ≤ i))) ta tb)) σ H (decide (j ≤ i)) := et_test (ev_op ha hb rv_I0)
theorem et_lt {i j : Int} (ha : Ev ta σ H (.int i)) (hb : Ev tb σ H (.int j)) : EvT (tTest (tOp (rI0 fun i j => .bl (decide (i < j))) ta tb)) σ H (decide (i < j)) := et_test (ev_op ha hb rv_I0)
theorem given_map {α : Type} (l : List α) (f : α → V) (v : Nat → V) (h : ∀ i a, l[i]? = some a → v i = f a) : given l.length (fun _ => true) v = l.map f := by
  refine List.ext_getElem? fun i => ?_
  unfold given
  rw [List.filter_eq_self.mpr (fun _ _ => rfl), List.getElem?_map, List.getElem?_map]
  by_cases hi : i < l.length
  · rw [List.getElem?_range hi, List.getElem?_eq_getElem hi]
    simp only [Option.map_some]
    rw [h i _ (List.getElem?_eq_getElem hi)]
  · rw [List.getElem?_eq_none (by simpa using hi), List.getElem?_eq_none (by simpa using hi)]
    rfl
theorem cutTo (xs : List V) (k : Nat) (h : xs.length ≤ k) : cutV xs none (some k) = xs := by
  unfold cutV
  rw [show HT.sIx xs.length xs.length (some (k : Int)) = min k xs.length from HT.sIx_nat xs.length xs.length k, HT.sIx_none, Nat.min_eq_right h]
  simp
/-- sorted(set([tap] + [place for place, litres in beds])) -/
theorem el_marks {tl : TE} {a : Addr} {xs : List V} {bs : List Bed} {i j : Nat} {vs : List Nat} {tp : Int} (ht : Ev ta σ H (.int tp)) (h : Ev tl σ H (.ref a)) (ha : Rd H a (.tup xs)) (hb : TpAll H xs (bs.map bedD)) (few : bs.length ≤ 40)
    (hw : ∀ p l, wipe (((wipe σ vs).set i (some p)).set j (some l)) vs = wipe σ vs) (he : ∀ b ∈ bs, Ev te (((wipe σ vs).set i (some (.int b.1))).set j (some (.int b.2))) H (.int b.1)) :
    EvL (tCB (rSortedSet w) (tCons (tCB (rSetL K w) (tCons (tOp rCat (tLst (tCons ta tNil)) (tLc (iTup K tl) (gPair K i j) tYes te vs)) tNil)) tNil)) σ H ((marks tp bs).map V.int) := by
  refine el_sortset (ns := tp :: bs.map (·.1)) ?_ (by simp; omega)
  refine el_is (el_cat (el_nums1 ht) (el_nums (ns := bs.map (·.1)) (eld_is (eld_beds (fun _ => true) (fun b => .int b.1) h ha hb (by omega) hw (fun _ _ => et_yes) (fun b m _ => ed_int (he b m))) ?_)) (by simp; omega)) rfl
  rw [List.filter_eq_self.mpr (fun _ _ => rfl)]
  exact (List.map_map ..).symm
theorem et_chain {f g : Int → Int → Bool} {tc : TE} {i j k : Int} (ha : Ev ta σ H (.int i)) (hb : Ev tb σ H (.int j)) (hc : Ev tc σ H (.int k)) : EvT (tTest (tChain (rI0 fun i j => .bl (f i j)) (rI0 fun i j => .bl (g i j)) ta tb tc)) σ H (f i j && g j k) := by
  intro H1 e Q q
  refine ha H1 e _ fun H2 e2 => hb H2 (e.trans e2) _ fun H3 e3 => ⟨i, j, rfl, rfl, f i j, rfl, ?_⟩
  have e123 := e2.trans e3
  cases hf : f i j with
  | true =>
    rw [hf] at q
    exact hc H3 (e.trans e123) _ fun H4 e4 => ⟨j, k, rfl, rfl, g j k, rfl, q H4 (e123.trans e4)⟩
  | false =>
    rw [hf] at q
    exact ⟨false, rfl, q H3 e123⟩
/-- a for over a list that comes out of an expression with effects -/
theorem q_forS {D : Ends} {g : TG} {tl : TE} {tu tz : TS} (P : Addr → List V → Hp → Prop) (src : ∀ Q : VK, (∀ p xs H', P p xs H' → Q (.ref p) H') → tl σ H Q) (hP : ∀ p xs H', P p xs H' → SqL K H' p xs) (Pv : Addr → List V → Nat → L2.St → Hp → Prop)
    (h0 : ∀ p xs H', P p xs H' → Pv p xs 0 σ H') (hl : ∀ p xs i σ' H', i ≤ xs.length → Pv p xs i σ' H' → SqL K H' p xs)
    (hs : ∀ p xs i x σ' H', xs[i]? = some x → Pv p xs i σ' H' → g x σ' H' fun σ2 H2 => tu { D with nx := Pv p xs (i + 1), ct := Pv p xs (i + 1), bk := tz D } σ2 H2) (hd : ∀ p xs σ' H', Pv p xs xs.length σ' H' → tz D σ' H') : tSeq (tFor (iList K tl) g tu) tz D σ H :=
  src _ fun p xs H1 h => ⟨p, rfl, ⟨xs, hP p xs H1 h⟩, for_list (D := { D with nx := tz D }) (Pv p xs) (h0 p xs H1 h) (hl p xs) (hs p xs) (hd p xs)⟩
theorem s_retD {D : Ends} (h : EvD te σ H d) (k : ∀ v H1, Ex H H1 → Tp H1 v d → D.rt v H1) : tRet te D σ H := h H (Ex.refl H) _ k
theorem s_asgD {D : Ends} {i : Nat} (h : EvD te σ H d) (k : ∀ v H1, Ex H H1 → Tp H1 v d → D.nx (σ.set i (some v)) H1) : tAsg te (gName i) D σ H := h H (Ex.refl H) _ k
theorem q_asgD {D : Ends} {tz : TS} {i : Nat} (h : EvD te σ H d) (k : ∀ v H1, Ex H H1 → Tp H1 v d → tz D (σ.set i (some v)) H1) : tSeq (tAsg te (gName i)) tz D σ H := h H (Ex.refl H) _ k
theorem cut1 (xs : List V) : cutV xs (some 1) none = xs.drop 1 := by
  unfold cutV
  rw [show HT.sIx xs.length 0 (some 1) = min 1 xs.length from HT.sIx_nat xs.length 0 1, HT.sIx_none]
  cases xs with
  | nil => rfl
  | cons x r =>
    have e : min 1 (x :: r).length = 1 := by simp
    rw [e]
    show r.take ((x :: r).length - 1) = r
    simp
theorem pairs_at : ∀ {l : List Int} {i : Nat} {p : Int × Int}, (pairs l)[i]? = some p → l[i]? = some p.1 ∧ l[i + 1]? = some p.2
  | [], i, p, h => by simp [pairs] at h
  | [_], i, p, h => by simp [pairs] at h
  | a :: b :: r, 0, p, h => by
    simp [pairs] at h
    subst h
    exact ⟨rfl, rfl⟩
  | a :: b :: r, i + 1, p, h => by
    have := pairs_at (l := b :: r) (i := i) (p := p) (by simpa [pairs] using h)
    simpa using this
/-- [.. for low, high in zip(ms, ms[1:])] -/
theorem eld_pairs {tz : TA} {i j : Nat} {vs : List Nat} (ms : List Int) (few : ms.length ≤ 50000) (dd : Int × Int → PyData)
    (ha : ∀ H1, Ex H H1 → ∀ Q : List V → Hp → Prop, (∀ a b H2, Ex H1 H2 → SqL K H2 a (ms.map V.int) → SqL K H2 b ((ms.drop 1).map V.int) → Q [.ref a, .ref b] H2) → tz σ H1 Q)
    (hw : ∀ p l, wipe (((wipe σ vs).set i (some p)).set j (some l)) vs = wipe σ vs)
    (he : ∀ p ∈ pairs ms, EvD te (((wipe σ vs).set i (some (.int p.1))).set j (some (.int p.2))) H (dd p)) :
    EvLd (tLc (iZip K tz) (gPair K i j) tYes te vs) σ H ((pairs ms).map dd) := fun H0 e0 Q q => ha H0 e0 _ fun a b H1 e1 sa sb => by
  have e01 := e0.trans e1
  refine ⟨a, b, _, _, rfl, sa, sb, ?_⟩
  have gl := giv_list (pairs ms) (fun _ => true) dd (fun _ => true) (fun i => match (pairs ms)[i]? with | some b => dd b | none => .none) (fun i a e => by simp [e])
  rw [List.filter_eq_self.mpr (fun _ _ => rfl)] at gl
  refine lc_pure (walk_zip (K := K) (a := a) (b := b) (xs := ms.map V.int) (ys := (ms.drop 1).map V.int) (n := (pairs ms).length) (by rw [pairs_len, List.length_map, List.length_map, List.length_drop]; omega)) (by rw [pairs_len]; omega) (fun _ => true) (fun i => match (pairs ms)[i]? with | some b => dd b | none => .none) (fun H' e => ⟨ex_l e sa, ex_l e sb⟩) ?_ ?_
  · rintro k x H2 _ hk e2 ⟨T, u, v, rfl, nT, rfl, hu, hv⟩
    have hpk : (pairs ms)[k]? = some (pairs ms)[k] := List.getElem?_eq_getElem hk
    obtain ⟨g1, g2⟩ := pairs_at hpk
    have hm : (pairs ms)[k] ∈ pairs ms := List.getElem_mem hk
    have hu' : u = .int (pairs ms)[k].1 := by
      have hu : (ms.map V.int)[k]? = some u := hu
      rw [List.getElem?_map, g1] at hu
      exact (Option.some.inj hu).symm
    have hv' : v = .int (pairs ms)[k].2 := by
      have hv : ((ms.drop 1).map V.int)[k]? = some v := hv
      rw [List.getElem?_map, List.getElem?_drop, Nat.add_comm 1 k, g2] at hv
      exact (Option.some.inj hv).symm
    subst hu' hv'
    have eN : Ex H2 (upd H2 T (.tup [.int (pairs ms)[k].1, .int (pairs ms)[k].2])) := Ex.new nT
    refine ⟨eN, _, fun R r => pair_bind (.inl upd_same) R r, hw _ _, et_yes, fun _ => ?_⟩
    simp only [hpk]
    exact (he _ hm).mono ((e01.trans e2).trans eN)
  · intro p ys H2 hp e2 h2 t2
    refine q p ys H2 (fresh_back e1 hp) (e1.trans e2) h2 ?_
    rw [← gl]
    exact t2
end
end Cn

namespace Cn
open PySem PySem.Spec PyProof.Rows L2 Evl
/-! ### the deck -/
/-- all but the deck's two lists stay -/
def Kp (D C : Addr) (H H' : Hp) : Prop := ∀ a o, a ≠ D → a ≠ C → H a = some o → H' a = some o
section
variable {D C : Addr} {H H1 H2 : Hp}
theorem Kp.refl : Kp D C H H := fun _ _ _ _ h => h
theorem Kp.trans (a : Kp D C H H1) (b : Kp D C H1 H2) : Kp D C H H2 := fun p o n1 n2 h => b p o n1 n2 (a p o n1 n2 h)
theorem Kp.ex (e : Ex H H1) : Kp D C H H1 := fun p o _ _ h => e p o h
theorem Kp.setD {o : HO} : Kp D C H (upd H D o) := fun p _ n1 _ h => by rw [upd_ne n1]; exact h
theorem Kp.setC {o : HO} : Kp D C H (upd H C o) := fun p _ _ n2 h => by rw [upd_ne n2]; exact h
theorem Kp.mut {p : Addr} {o : HO} (k : Kp D C H H1) (h : H p = none) : Kp D C H (upd H1 p o) := fun a u n1 n2 e => by
  rw [upd_ne (ne_of_none e h)]
  exact k a u n1 n2 e
theorem Kp.back (k : Kp D C H H1) {p : Addr} (n1 : p ≠ D) (n2 : p ≠ C) (h : H1 p = none) : H p = none := by
  cases e : H p with
  | none => rfl
  | some o => rw [k p o n1 n2 e] at h; cases h
/-- the deck at D, its cells at C, at most m draws so far -/
structure DeckN (D C : Addr) (n : Int) (cs : List Int) (H : Hp) : Prop where
  hD : H D = some (.lst [.ref C, .int n])
  hC : H C = some (.lst (cs.map V.int))
theorem DeckN.ne {n : Int} {cs : List Int} (d : DeckN D C n cs H) : D ≠ C := ne_of d.hD d.hC (by
  intro z
  cases cs with
  | nil => cases z
  | cons x r => cases z)
theorem DeckN.ex {n : Int} {cs : List Int} (e : Ex H H1) (d : DeckN D C n cs H) : DeckN D C n cs H1 := ⟨e _ _ d.hD, e _ _ d.hC⟩
def Deck (D C : Addr) (m : Int) (H : Hp) : Prop := ∃ n cs, DeckN D C n cs H ∧ 0 ≤ n ∧ n ≤ m ∧ cs.length ≤ 63 ∧ ∀ x ∈ cs, 0 ≤ x
theorem Deck.ex {m : Int} (e : Ex H H1) (d : Deck D C m H) : Deck D C m H1 := by
  obtain ⟨n, cs, d, r⟩ := d
  exact ⟨n, cs, d.ex e, r⟩
theorem Deck.mut {m : Int} {p : Addr} {o : HO} (d : Deck D C m H) (n1 : p ≠ D) (n2 : p ≠ C) : Deck D C m (upd H p o) := by
  obtain ⟨n, cs, d, r⟩ := d
  exact ⟨n, cs, ⟨by rw [upd_ne n1.symm]; exact d.hD, by rw [upd_ne n2.symm]; exact d.hC⟩, r⟩
theorem Deck.mono {m m' : Int} (h : m ≤ m') (d : Deck D C m H) : Deck D C m' H := by
  obtain ⟨n, cs, d, a, b, r⟩ := d
  exact ⟨n, cs, d, a, by omega, r⟩
/-- tuples stay -/
theorem Kp.tk {m : Int} (d : Deck D C m H) (k : Kp D C H H1) : Tk H H1 := by
  obtain ⟨n, cs, d, _⟩ := d
  refine ⟨fun a xs h => ?_, fun a o u h => k a _ (ne_of h d.hD (by intro z; cases z)) (ne_of h d.hC (by intro z; cases z)) h⟩
  have n1 := rd_ne h d.hD
  have n2 := rd_ne h d.hC
  rcases h with h | ⟨z, h⟩
  · exact .inl (k a _ n1 n2 h)
  · exact .inr ⟨z, k a _ n1 n2 h⟩
/-- what is not the deck -/
theorem Kp.free {p : Addr} {m : Int} (d : Deck D C m H) (hp : H p = none) : p ≠ D ∧ p ≠ C := by
  obtain ⟨n, cs, d, _⟩ := d
  exact ⟨fun z => (by rw [z, d.hD] at hp; cases hp), fun z => (by rw [z, d.hC] at hp; cases hp)⟩
end
/-- _law_draw -/
def spDraw : Sp := fun vs H Q _ => ∃ D C m k, vs = [.ref D, .int k] ∧ Deck D C m H ∧ m ≤ 1000000000 ∧ 1 ≤ k ∧ k ≤ 1000000001 ∧ ∀ r H', 0 ≤ r → r < k → Kp D C H H' → Deck D C (m + 1) H' → Q (.int r) H'
/-- _law_deck -/
def spDeck (K : PySem.W.Frag) : Sp := fun vs H Q _ => ∃ (a : Addr) (ns : List Int), vs = [.ref a] ∧ SqL K H a (ns.map V.int) ∧ ns.length ≤ 63 ∧ ∀ D C H', H D = none → H C = none → Ex H H' → Deck D C 0 H' → Q (.ref D) H'
/-! ### evaluation that draws -/
def DrI (D C : Addr) (te : TE) (σ : L2.St) (m m' : Int) (R : Int → Prop) : Prop := ∀ H1, Deck D C m H1 → ∀ Q : VK, (∀ i H2, Kp D C H1 H2 → Deck D C m' H2 → R i → Q (.int i) H2) → te σ H1 Q
def DrA (D C : Addr) (ta : TA) (σ : L2.St) (m m' : Int) (n : Nat) (R : Int → Prop) : Prop := ∀ H1, Deck D C m H1 → ∀ Q : List V → Hp → Prop, (∀ (is : List Int) H2, Kp D C H1 H2 → Deck D C m' H2 → is.length = n → (∀ i ∈ is, R i) → Q (is.map V.int) H2) → ta σ H1 Q
section
variable {D C : Addr} {K : PySem.W.Frag} {σ : L2.St} {m m1 m2 : Int} {R R1 R2 : Int → Prop} {ta tb te : TE} {n : Nat}
theorem dr_pure {i : Int} (h : ∀ H, Ev te σ H (.int i)) (r : R i) : DrI D C te σ m m R := fun H1 d Q q => h H1 H1 (Ex.refl H1) Q fun H2 e2 => q i H2 (Kp.ex e2) (d.ex e2) r
theorem dr_imp (h : DrI D C te σ m m1 R1) (k : ∀ i, R1 i → R i) : DrI D C te σ m m1 R := fun H1 d Q q => h H1 d Q fun i H2 k2 d2 r => q i H2 k2 d2 (k i r)
theorem dr_draw {tk : TE} {E : XK} {k : Int} (h0 : σ[0]? = some (some (.ref D))) (hk : ∀ H, Ev tk σ H (.int k)) (mb : m ≤ 1000000000) (k1 : 1 ≤ k) (k2 : k ≤ 1000000001) (hm : m1 = m + 1 := by omega) : DrI D C (tCall spDraw [] E (tCons (tVar 0) (tCons tk tNil))) σ m m1 (fun r => 0 ≤ r ∧ r < k) := hm ▸ fun H1 d Q q =>
  ⟨.ref D, h0, hk H1 H1 (Ex.refl H1) _ fun H2 e2 => ⟨D, C, m, k, rfl, d.ex e2, mb, k1, k2, fun r H3 r0 r1 kp d3 => q r H3 ((Kp.ex e2).trans kp) d3 ⟨r0, r1⟩⟩⟩
theorem dr_op {f : Int → Int → Int} (ha : DrI D C ta σ m m1 R1) (hb : DrI D C tb σ m1 m2 R2) (k : ∀ i j, R1 i → R2 j → R (f i j)) : DrI D C (tOp (rI0 fun i j => .int (f i j)) ta tb) σ m m2 R := fun H1 d Q q =>
  ha H1 d _ fun i H2 kp2 d2 r1 => hb H2 d2 _ fun j H3 kp3 d3 r2 => ⟨i, j, rfl, rfl, q _ H3 (kp2.trans kp3) d3 (k i j r1 r2)⟩
theorem da_nil : DrA D C tNil σ m m 0 R := fun H1 d Q q => q [] H1 Kp.refl d rfl (fun _ h => nomatch h)
theorem da_cons {tr : TA} (ha : DrI D C ta σ m m1 R) (hr : DrA D C tr σ m1 m2 n R) : DrA D C (tCons ta tr) σ m m2 (n + 1) R := fun H1 d Q q =>
  ha H1 d _ fun i H2 kp2 d2 r1 => hr H2 d2 _ fun is H3 kp3 d3 len rs => q (i :: is) H3 (kp2.trans kp3) d3 (by simp [len]) (fun j hj => by
    rcases List.mem_cons.mp hj with e | e
    · rw [e]; exact r1
    · exact rs j e)
/-- [a, b, ..][drawn] -/
theorem dr_pick {tr : TA} (hr : DrA D C tr σ m m1 n R) (hi : DrI D C te σ m1 m2 (fun r => 0 ≤ r ∧ r < (n : Int))) (few : n ≤ 100000) : DrI D C (tOp (rIxL K) (tLst tr) te) σ m m2 R := fun H1 d Q q =>
  hr H1 d _ fun is H2 kp2 d2 len rs => ⟨sz_of (by rw [List.length_map, len]; exact few), fun p np => by
    have eN := Ex.new (o := .lst (is.map V.int)) np
    have dN := d2.ex eN
    obtain ⟨n1, n2⟩ := Kp.free d2 np
    refine hi _ dN _ fun r H3 kp3 d3 r01 => ?_
    obtain ⟨j, rfl⟩ : ∃ j : Nat, r = j := ⟨r.toNat, by omega⟩
    have jl : j < is.length := by omega
    have at3 : H3 p = some (.lst (is.map V.int)) := kp3 p _ n1 n2 upd_same
    exact ⟨p, _, (j : Int), .int is[j], rfl, rfl, sq_of at3, atI_nat (by rw [List.getElem?_map, List.getElem?_eq_getElem jl]; rfl), q _ H3 ((kp2.trans (Kp.ex eN)).trans kp3) d3 (rs _ (List.getElem_mem jl))⟩⟩
end
/-! ### gardens that are drawn -/
structure GOk (most top : Int) (t c : Int) (bs : List Bed) : Prop where
  t0 : -1000000 ≤ t
  t1 : t ≤ 1000000
  c0 : 1 ≤ c
  c1 : c ≤ 1000000
  asc : Asc (bs.map (·.1))
  p0 : ∀ b ∈ bs, -1000000 ≤ b.1
  p1 : ∀ b ∈ bs, b.1 ≤ 1000000
  l0 : ∀ b ∈ bs, 1 ≤ b.2
  l1 : ∀ b ∈ bs, b.2 ≤ 12 ∨ b.2 ≤ top
  few : (bs.length : Int) ≤ most
/-- the garden at v; its beds are a tuple of no further attributes -/
def GAt (H : Hp) (v : V) (t c : Int) (bs : List Bed) : Prop := ∃ g b xs o, v = .ref g ∧ Rd H g (.tup [.int t, .int c, .ref b]) ∧ H b = some (.frz o (.tup xs)) ∧ o.dict = none ∧ TpAll H xs (bs.map bedD)
theorem GAt.tp {H : Hp} {v : V} {t c : Int} {bs : List Bed} (h : GAt H v t c bs) : Tp H v (gardenD t c bs) := by
  obtain ⟨g, b, xs, o, rfl, hg, hb, _, hx⟩ := h
  exact garden_of hg (.inr ⟨o, hb⟩) hx
theorem GAt.ex {H H' : Hp} {v : V} {t c : Int} {bs : List Bed} (e : Ex H H') (h : GAt H v t c bs) : GAt H' v t c bs := by
  obtain ⟨g, b, xs, o, rfl, hg, hb, hd, hx⟩ := h
  exact ⟨g, b, xs, o, rfl, ex_rd e hg, e _ _ hb, hd, hx.mono (Tk.ex e)⟩
theorem GAt.kp {D C : Addr} {m : Int} {H H' : Hp} {v : V} {t c : Int} {bs : List Bed} (d : Deck D C m H) (k : Kp D C H H') (h : GAt H v t c bs) : GAt H' v t c bs := by
  obtain ⟨g, b, xs, o, rfl, hg, hb, hd, hx⟩ := h
  have tk := Kp.tk d k
  refine ⟨g, b, xs, o, rfl, tk.1 _ _ hg, k b _ ?_ ?_ hb, hd, hx.mono tk⟩
  · obtain ⟨n, cs, d, _⟩ := d
    exact ne_of hb d.hD (by intro z; cases z)
  · obtain ⟨n, cs, d, _⟩ := d
    exact ne_of hb d.hC (by intro z; cases z)
def spGarden : Sp := fun vs H Q _ => ∃ D C m most top, vs = [.ref D, .int most, .int top] ∧ Deck D C m H ∧ m ≤ 900000000 ∧ 1 ≤ most ∧ most ≤ 12 ∧ 1 ≤ top ∧ top ≤ 1000000000 ∧
  ∀ v t c bs H', GOk most top t c bs → GAt H' v t c bs → Kp D C H H' → Deck D C (m + 100) H' → Q v H'
theorem pow6 : (10 : Int) ^ (6 : Int).toNat = 1000000 := by decide
theorem pow9 : (10 : Int) ^ (9 : Int).toNat = 1000000000 := by decide
theorem pow18 : (10 : Int) ^ (18 : Int).toNat = 1000000000000000000 := by decide
end Cn

namespace Cn
open PySem PySem.Spec PyProof.Rows L2 Evl
/-! ### sizes of data -/
theorem smI {i : Int} (h0 : -(10 ^ 39) ≤ i) (h1 : i ≤ 10 ^ 39) : sm (.int i) = true := by
  simp only [sm, decide_eq_true_eq]
  have : (10 : Int) ^ 39 < 10 ^ 40 := by decide
  omega
theorem smAll_of : ∀ {ds : List PyData}, (∀ d ∈ ds, sm d = true) → smAll ds = true
  | [], _ => rfl
  | d :: ds, h => by
    simp only [smAll, Bool.and_eq_true]
    exact ⟨h d (List.mem_cons_self ..), smAll_of fun e he => h e (List.mem_cons_of_mem _ he)⟩
theorem wtAll_le {k : Nat} : ∀ {ds : List PyData}, (∀ d ∈ ds, wt d ≤ k) → wtAll ds ≤ (k + 2) * ds.length
  | [], _ => by simp [wtAll]
  | d :: ds, h => by
    have h1 := h d (List.mem_cons_self ..)
    have h2 := wtAll_le (ds := ds) fun e he => h e (List.mem_cons_of_mem _ he)
    simp only [wtAll, List.length_cons, Nat.mul_add, Nat.mul_one]
    omega
theorem dpAll_le {k : Nat} : ∀ {ds : List PyData}, (∀ d ∈ ds, dp d ≤ k) → dpAll ds ≤ k
  | [], _ => by simp [dpAll]
  | d :: ds, h => by
    have h1 := h d (List.mem_cons_self ..)
    have h2 := dpAll_le (ds := ds) fun e he => h e (List.mem_cons_of_mem _ he)
    simp only [dpAll]
    omega
/-- data that repr shows: small, at most k signs, at most n deep -/
def Sh (d : PyData) (k n : Nat) : Prop := sm d = true ∧ wt d ≤ k ∧ dp d ≤ n
theorem Sh.mono {d : PyData} {k k' n n' : Nat} (h : Sh d k n) (a : k ≤ k') (b : n ≤ n') : Sh d k' n' := ⟨h.1, Nat.le_trans h.2.1 a, Nat.le_trans h.2.2 b⟩
theorem sh_int {i : Int} (h0 : -(10 ^ 39) ≤ i) (h1 : i ≤ 10 ^ 39) : Sh (.int i) 100 0 := ⟨smI h0 h1, Nat.le_refl _, Nat.le_refl _⟩
theorem sh_tup {ds : List PyData} {k n m : Nat} (h : ∀ d ∈ ds, Sh d k n) (hm : (k + 2) * ds.length + 3 ≤ m) : Sh (.tuple ds) m (n + 1) := by
  have h2 := wtAll_le fun d hd => (h d hd).2.1
  have h3 := dpAll_le fun d hd => (h d hd).2.2
  refine ⟨by simp only [sm]; exact smAll_of fun d hd => (h d hd).1, by simp only [wt]; omega, by simp only [dp]; omega⟩
theorem sh_lst {ds : List PyData} {k n m : Nat} (h : ∀ d ∈ ds, Sh d k n) (hm : (k + 2) * ds.length + 3 ≤ m) : Sh (.list ds) m (n + 1) := by
  have h2 := wtAll_le fun d hd => (h d hd).2.1
  have h3 := dpAll_le fun d hd => (h d hd).2.2
  refine ⟨by simp only [sm]; exact smAll_of fun d hd => (h d hd).1, by simp only [wt]; omega, by simp only [dp]; omega⟩
theorem sh_bed {b : Bed} (h0 : -(10 ^ 39) ≤ b.1) (h1 : b.1 ≤ 10 ^ 39) (h2 : -(10 ^ 39) ≤ b.2) (h3 : b.2 ≤ 10 ^ 39) : Sh (bedD b) 207 1 := by
  refine sh_tup (k := 100) (n := 0) (fun d hd => ?_) (by simp)
  simp only [List.mem_cons, List.not_mem_nil, or_false] at hd
  rcases hd with rfl | rfl
  · exact sh_int h0 h1
  · exact sh_int h2 h3
theorem sh_garden {t c : Int} {bs : List Bed} (t0 : -(10 ^ 39) ≤ t) (t1 : t ≤ 10 ^ 39) (c0 : -(10 ^ 39) ≤ c) (c1 : c ≤ 10 ^ 39) (hb : ∀ b ∈ bs, -(10 ^ 39) ≤ b.1 ∧ b.1 ≤ 10 ^ 39 ∧ -(10 ^ 39) ≤ b.2 ∧ b.2 ≤ 10 ^ 39) (few : bs.length ≤ 40) : Sh (gardenD t c bs) 30000 3 := by
  have hbs : Sh (bedsD bs) 8400 2 := by
    refine sh_tup (k := 207) (n := 1) (fun d hd => ?_) (by rw [List.length_map]; omega)
    obtain ⟨b, m, rfl⟩ := List.mem_map.mp hd
    obtain ⟨a1, a2, a3, a4⟩ := hb b m
    exact sh_bed a1 a2 a3 a4
  refine sh_tup (k := 8400) (n := 2) (fun d hd => ?_) (by simp)
  simp only [List.mem_cons, List.not_mem_nil, or_false] at hd
  rcases hd with rfl | rfl | rfl
  · exact (sh_int t0 t1).mono (by omega) (by omega)
  · exact (sh_int c0 c1).mono (by omega) (by omega)
  · exact hbs
theorem sum_le {B : Int} (hB : 0 ≤ B) : ∀ {l : List Int}, (∀ x ∈ l, 0 ≤ x ∧ x ≤ B) → 0 ≤ l.sum ∧ l.sum ≤ B * l.length
  | [], _ => by simp
  | x :: r, h => by
    have h1 := h x (List.mem_cons_self ..)
    have h2 := sum_le hB (l := r) fun y hy => h y (List.mem_cons_of_mem _ hy)
    simp only [List.sum_cons, List.length_cons]
    have : B * ((r.length + 1 : Nat) : Int) = B * r.length + B := by
      rw [show ((r.length + 1 : Nat) : Int) = (r.length : Int) + 1 by omega, Int.mul_add, Int.mul_one]
    omega
section
variable {K : PySem.W.Frag} {w : World} {σ : L2.St} {H H' : Hp} {ta tb te tx : TE} {t u : TT} {x y z v : V} {d e : PyData} {ds es : List PyData}
/-! ### more evaluation -/
/-- a call with one argument that is data -/
theorem ed_call1 {sp : Sp} {E : XK} {d1 : PyData} (h : EvD ta σ H d1) (hs : ∀ v H1, Ex H H1 → Tp H1 v d1 → ∀ Q : VK, (∀ z H2, Ex H1 H2 → Tp H2 z d → Q z H2) → ∀ E : XK, sp [v] H1 Q E) : EvD (tCall sp [] E (tCons ta tNil)) σ H d := fun H1 e Q q =>
  h H1 e _ fun v H2 e2 t2 => hs v H2 (e.trans e2) t2 Q (fun z H3 e3 t3 => q z H3 (e2.trans e3) t3) E
/-- a == b of data -/
theorem ev_eqD (ha : EvD ta σ H d) (hb : EvD tb σ H e) (sd : SeqAt.shaped d = true) (se : SeqAt.shaped e = true) : Ev (tOp (rEqD K) ta tb) σ H (.bl (PyData.eqv d e)) := fun H1 e1 Q q =>
  ha H1 e1 _ fun v H2 e2 t2 => hb H2 (e1.trans e2) _ fun v' H3 e3 t3 => ⟨d, e, (t2.mono (Tk.ex e3)).dp (nd_shaped sd), t3.dp (nd_shaped se), sd, se, q H3 (e2.trans e3)⟩
/-- the walk over a tuple of beds that comes out of an expression -/
theorem eld_bedsD {tl : TE} {bs : List Bed} {i j : Nat} {vs : List Nat} (f : Bed → Bool) (dd : Bed → PyData) (h : EvD tl σ H (bedsD bs)) (few : bs.length ≤ 50000)
    (hw : ∀ p l, wipe (((wipe σ vs).set i (some p)).set j (some l)) vs = wipe σ vs)
    (ht : ∀ b ∈ bs, EvT t (((wipe σ vs).set i (some (.int b.1))).set j (some (.int b.2))) H (f b)) (he : ∀ b ∈ bs, f b = true → EvD te (((wipe σ vs).set i (some (.int b.1))).set j (some (.int b.2))) H (dd b)) :
    EvLd (tLc (iTup K tl) (gPair K i j) t te vs) σ H ((bs.filter f).map dd) := fun H0 e0 Q q => h H0 e0 _ fun v H1 e1 tv => by
  obtain ⟨a, xs, rfl, ha, hb⟩ := tv.tup_inv
  exact eld_beds (K := K) (tl := tC (.ref a)) f dd ev_c ha hb few hw (fun b m => (ht b m).mono (e0.trans e1)) (fun b m hf => (he b m hf).mono (e0.trans e1)) H1 (Ex.refl H1) Q fun p ys H2 hp e2 h2 t2 => q p ys H2 (fresh_back e1 hp) (e1.trans e2) h2 t2
theorem cutInit (xs : List V) : cutV xs none (some (-1)) = xs.dropLast := by
  have e : HT.sIx xs.length xs.length (some (-1)) = xs.length - 1 := by
    show (if (-1 : Int) < 0 then ((-1 : Int) + (xs.length : Int)).toNat else min (-1 : Int).toNat xs.length) = _
    rw [if_pos (by decide)]
    omega
  unfold cutV
  rw [e, HT.sIx_none, List.dropLast_eq_take]
  simp
theorem TpAll.init {xs : List V} (h : TpAll H xs ds) : TpAll H xs.dropLast ds.dropLast := by
  rw [List.dropLast_eq_take, List.dropLast_eq_take, h.length]
  exact h.take _
/-- t[:-1] -/
theorem ed_init {to1 : TO} {tn : TE} (h : EvD te σ H (.tuple ds)) (hn : Ev tn σ H (.int (-1))) : EvD (tSl (rSlA K) te tNoPart (tPart tn)) σ H (.tuple ds.dropLast) := fun H1 e1 Q q =>
  h H1 e1 _ fun v H2 e2 tv => hn H2 (e1.trans e2) _ fun H3 e3 => by
    obtain ⟨a, xs, rfl, ha, hb⟩ := (tv.mono (Tk.ex e3)).tup_inv
    have ti := hb.init
    refine ⟨-1, rfl, a, xs, rfl, sr ha, fun hw => ?_, fun _ p hp => ?_⟩
    · have e : HT.sIx xs.length xs.length (some (-1)) = xs.length - 1 := by
        show (if (-1 : Int) < 0 then ((-1 : Int) + (xs.length : Int)).toNat else min (-1 : Int).toNat xs.length) = _
        rw [if_pos (by decide)]
        omega
      have l0 : xs.length = 0 := by
        have := hw.2
        rw [e] at this
        omega
      have x0 : xs = [] := List.length_eq_zero_iff.mp l0
      subst x0
      refine q _ H3 (e2.trans e3) (.tup ha ?_)
      exact ti
    · refine q _ _ ((e2.trans e3).trans (Ex.new hp)) (.tup (.inl upd_same) ?_)
      rw [cutInit]
      exact ti.mono (Tk.ex (Ex.new hp))
/-- [.. for k in range(n)], each turn the same -/
theorem eld_range {ta : TA} {j : Nat} {vs : List Nat} {n : Nat} (h : EvA ta σ H [.int n]) (few : n ≤ 50000) (dd : Nat → PyData) (hw : ∀ x, wipe ((wipe σ vs).set j (some x)) vs = wipe σ vs)
    (he : ∀ i : Nat, i < n → EvD te ((wipe σ vs).set j (some (.int (i : Int)))) H (dd i)) : EvLd (tLc (iRng1 ta) (gName j) tYes te vs) σ H ((List.range n).map dd) := fun H0 e0 Q q => h H0 e0 _ fun H1 e1 => by
  refine ⟨(n : Int), rfl, by omega, by omega, ?_⟩
  have eN : ((n : Int)).toNat = n := by omega
  rw [eN]
  refine lc_pure (walk_range (lo := 0) (n := n)) few (fun _ => true) dd (fun _ _ => trivial) ?_ ?_
  · rintro i x H2 _ hi e2 ⟨rfl, rfl⟩
    refine ⟨Ex.refl _, _, fun R r => r, hw _, et_yes, fun _ => ?_⟩
    dsimp only
    rw [show (0 : Int) + (i : Int) = i by omega]
    exact (he i hi).mono ((e0.trans e1).trans e2)
  · intro p xs H2 hp e2 h2 t2
    have : givD n (fun _ => true) dd = (List.range n).map dd := by
      unfold givD
      rw [List.filter_eq_self.mpr (fun _ _ => rfl)]
    rw [this] at t2
    exact q p xs H2 (fresh_back e1 hp) (e1.trans e2) h2 t2
/-- _law_same -/
def spSame (K : PySem.W.Frag) : Sp := fun vs H Q _ => ∃ a b d, vs = [a, b] ∧ Dp K H a d ∧ Dp K H b d ∧ sm d = true ∧ wt d ≤ 1000000 ∧ dp d ≤ 50 ∧ Q (.bl true) H
theorem ev_same {E : XK} (h1 : EvLd ta σ H ds) (h2 : EvLd tb σ H ds) (sh : Sh (.list ds) 1000000 50) : Ev (tCall (spSame K) [] E (tCons ta (tCons tb tNil))) σ H (.bl true) := fun H1 e1 Q q =>
  h1 H1 e1 _ fun p xs H2 hp e2 hx t2 => h2 H2 (e1.trans e2) _ fun p' ys H3 hp' e3 hy t3 => ⟨.ref p, .ref p', .list ds, rfl, .lst (sq_of (e3 p _ hx)) ((t2.mono (Tk.ex e3)).dp (nd_smAll sh.1)), .lst (sq_of hy) (t3.dp (nd_smAll sh.1)), sh.1, sh.2.1, sh.2.2, q H3 (e2.trans e3)⟩
/-- repr(x) of data in a name -/
theorem ev_repr (h : EvD te σ H d) (sh : Sh d 1000000 50) : Ev (tCB (rRepr K) (tCons te tNil)) σ H (.str d.shown) := fun H1 e1 Q q =>
  h H1 e1 _ fun v H2 e2 t2 => ⟨v, d, rfl, t2.dp (nd_sm sh.1), sh.1, sh.2.1, sh.2.2, q H2 e2⟩
end
end Cn

namespace Cn
open PySem PySem.Spec PyProof.Rows L2 Evl
section
variable {X : Cx}
/-- tuple(list): a tuple of no further attributes -/
def rTupF (K : PySem.W.Frag) : List V → Hp → VK → Prop := fun xs H Q => ∃ p ys, xs = [.ref p] ∧ SqL K H p ys ∧ ∀ l o, H l = none → o.dict = none → Q (.ref l) (upd H l (.frz o (.tup ys)))
theorem call_tupleF : CallR X (.type "tuple") (rTupF X.K) := by
  rintro pins s σ H _ us Q I rel ⟨p, ys, rfl, sq, q⟩
  obtain ⟨_, rfl, rp⟩ := vals1 rel
  cases rp
  obtain ⟨its, rv, pl, size⟩ := I.list sq
  have len := rv.length
  refine call_tuple_list pl.isList (fun h' kp => ?_) (by simp only [List.size_toArray]; omega)
  have I1 := I.kept (h' := h') (t' := s.toks) kp
  have here : (h'.push { cls := .type "tuple", data := .seq its.toArray }).get? h'.objs.size = some { cls := .type "tuple", data := .seq its.toArray } := Heap.get?_push_size _ rfl
  exact ⟨.ref h'.objs.size, _, I1.laid (o := .frz { cls := .type "tuple", data := .seq its.toArray } (.tup ys)) (t' := s.toks) (fun b o e => Heap.get?_push_of_some _ e) (Nat.le_refl _) ⟨here, size, its, rv, ⟨_, here, rfl, _, rfl⟩⟩, rfl, q _ _ (I1.hok.fresh (Nat.le_refl _)) rfl⟩
/-- the pairs of a tuple, as the machine has them -/
theorem pairs_vals {pins : List (Addr × Obj)} {σ : L2.St} {H : Hp} {s : Shared} (I : Inv X pins σ H s) : ∀ {ps : List Addr} {kvs : List (Key × V)}, Paired (fun p kv => SqT X.K H p [kV kv.1, kv.2]) ps kvs →
    ∃ (prs : List (Key × Value)) (us : List Value), KV kvs prs ∧ prs.length = ps.length ∧ us.length = ps.length ∧ ∀ (j : Nat) (q : Key × Value) (u : Value), prs[j]? = some q → us[j]? = some u → ∃ b, ps[j]? = some b ∧ IsTup s.heap b #[u, q.2] ∧ keyIs q.1 u = true
  | _, _, .nil => ⟨[], [], .nil, rfl, rfl, fun j q u e => by simp at e⟩
  | _, _, .cons (a := p) (b := kv) h t => by
    obtain ⟨prs, us, r, l1, l2, hp⟩ := pairs_vals I t
    obtain ⟨its, rv, ht, _⟩ := I.tuple h
    obtain ⟨u, y, rfl, ru, ry⟩ := vals2 rv
    refine ⟨(kv.1, y) :: prs, u :: us, .cons ⟨rfl, ry⟩ r, by simp [l1], by simp [l2], fun j q w e1 e2 => ?_⟩
    cases j with
    | zero =>
      simp only [List.getElem?_cons_zero, Option.some.injEq] at e1 e2
      subst e1 e2
      exact ⟨p, rfl, ht, kV_is (P := X.prog) (w := X.w) ru⟩
    | succ j => simpa using hp j q w (by simpa using e1) (by simpa using e2)
/-- dict(tuple of pairs) -/
def rDictT (K : PySem.W.Frag) : List V → Hp → VK → Prop := fun xs H Q => ∃ (a : Addr) (o : Obj) (ps : List Addr) (kvs : List (Key × V)), xs = [.ref a] ∧ H a = some (.frz o (.tup (ps.map V.ref))) ∧ o.dict = none ∧ Paired (fun p kv => SqT K H p [kV kv.1, kv.2]) ps kvs ∧
  ∀ p, H p = none → Q (.ref p) (upd H p (.dK (mergeK [] kvs)))
theorem call_dictT (calm : X.calm = true) : CallR X (.type "dict") (rDictT X.K) := by
  rintro pins s σ H _ us Q I rel ⟨a, o, ps, kvs, rfl, ha, nod, hp, q⟩
  obtain ⟨_, rfl, rp⟩ := vals1 rel
  cases rp
  obtain ⟨at_a, size, its, rv, ob, ho, hc, n, hd⟩ := I.hok a _ ha
  obtain rfl : o = ob := Option.some.inj (at_a.symm.trans ho)
  obtain rfl := refs_at rv
  rw [List.length_map] at size
  obtain ⟨prs, us, r, l1, l2, key⟩ := pairs_vals I hp
  have val : ∀ j (hj : j < ps.length), ∃ k v u, prs[j]? = some (k, v) ∧ us[j]? = some u ∧ IsTup s.heap ps[j] #[u, v] ∧ keyIs k u = true := by
    intro j hj
    have e1 : prs[j]? = some prs[j] := List.getElem?_eq_getElem (by omega)
    have e2 : us[j]? = some us[j] := List.getElem?_eq_getElem (by omega)
    obtain ⟨b, eb, tb, kb⟩ := key j _ _ e1 e2
    rw [List.getElem?_eq_getElem hj] at eb
    cases eb
    exact ⟨_, _, _, e1, e2, tb, kb⟩
  let pv : List (Value × Value) := us.zip (prs.map (·.2))
  have lpv : pv.length = ps.length := by simp [pv, l1, l2]
  have pvAt : ∀ j k v, pv[j]? = some (k, v) → us[j]? = some k ∧ (prs.map (·.2))[j]? = some v := fun j k v e => List.getElem?_zip_eq_some.mp e
  refine PySem.call_dict_pairs (knd := mixKind X.prog X.w) (kvs := prs) (PairArg.tuple a (ps.map Value.ref).toArray (fun j => ps.getD j 0) pv) (I.ok.hd calm) ⟨⟨o, n, ho, hc, nod, hd⟩, by simp [lpv], fun j k v e => ?_⟩ ⟨by omega, fun i key' v e => ?_⟩ (by omega) fun h' tk hd' k => ?_
  · obtain ⟨e1, e2⟩ := pvAt j k v e
    have hj : j < ps.length := by
      have := (List.getElem?_eq_some_iff.mp e1).1
      omega
    obtain ⟨k0, v0, u0, p1, p2, p3, p4⟩ := val j hj
    rw [p2] at e1
    cases e1
    rw [List.getElem?_map, p1] at e2
    cases e2
    have ej : ps.getD j 0 = ps[j] := by simp [List.getD, List.getElem?_eq_getElem hj]
    dsimp only
    rw [ej]
    exact ⟨by simp [hj], .inl p3⟩
  · obtain ⟨e1, e2⟩ := pvAt i key' v e
    have hj : i < ps.length := by
      have := (List.getElem?_eq_some_iff.mp e1).1
      omega
    obtain ⟨k0, v0, u0, p1, p2, p3, p4⟩ := val i hj
    rw [p2] at e1
    cases e1
    rw [List.getElem?_map, p1] at e2
    cases e2
    exact ⟨k0, p1, p4⟩
  · have big : (s.heap.objs.size == sysModules) = false := beq_eq_false_iff_ne.mpr (Nat.ne_of_gt I.big)
    have few : (mergeK [] kvs).length ≤ sizeLine := by
      have h1 := length_mergeK kvs []
      have h2 := r.length
      simp only [List.length_nil, Nat.zero_add] at h1
      omega
    exact ⟨.ref s.heap.objs.size, upd H s.heap.objs.size (.dK (mergeK [] kvs)), I.laid (t' := tk) (fun b u e => k b u (by simp) e) (Nat.le_refl _) ⟨few, big, merged [] prs, KV.merge r .nil, hd'⟩, rfl, q _ (I.hok.fresh (Nat.le_refl _))⟩
end
section
variable {K : PySem.W.Frag} {σ : L2.St} {H : Hp} {te : TE} {ds : List PyData}
/-- tuple(new list) -/
theorem ed_tupleOf (h : EvLd te σ H ds) : EvD (tCB (rTupF K) (tCons te tNil)) σ H (.tuple ds) := fun H1 e Q q =>
  h H1 e _ fun p xs H2 hp e2 h2 t2 => ⟨p, xs, rfl, sq_of h2, fun l o hl _ => q _ _ (e2.trans (Ex.new hl)) (.tup (.inr ⟨o, upd_same⟩) (t2.mono (Tk.ex (Ex.new hl))))⟩
end
end Cn

namespace Cn
open PySem PySem.Spec PyProof.Rows L2 Evl
/-! ### rules that name the written part -/
section
variable {X : Cx} {K : PySem.W.Frag}
theorem ix_tupK (h : X.K = K) : IxR X (rIxT K) := h ▸ ix_tup
theorem ix_listK (h : X.K = K) : IxR X (rIxL K) := h ▸ ix_list
theorem sl_listK (h : X.K = K) : SlR X (rSlL K) := h ▸ sl_list
theorem sl_tupK (h : X.K = K) : SlR X (rSlA K) := h ▸ sl_tupA
theorem op_catK (h : X.K = K) : OpR X (binaryOp .Add) (rCatA K) := h ▸ op_catA
theorem call_dictK (h : X.K = K) (c : X.calm = true) : CallR X (.type "dict") (rDictT K) := h ▸ call_dictT c
theorem call_tupleK (h : X.K = K) : CallR X (.type "tuple") (rTupF K) := h ▸ call_tupleF
def rLen (K : PySem.W.Frag) : List V → Hp → VK → Prop := fun xs H Q => ∃ p ys, xs = [.ref p] ∧ (SqL K H p ys ∨ SqT K H p ys) ∧ Q (.int ys.length) H
theorem call_lenK (h : X.K = K) : CallR X (.builtin "len") (rLen K) := h ▸ call_len_seq
theorem cr_sumK (h : X.K = K) (c : X.calm = true) : CallR X (.builtin "sum") (rSum K) := h ▸ cr_sum c
theorem cr_setK (h : X.K = K) (c : X.calm = true) : CallR X (.type "set") (rSetL K X.w) := h ▸ cr_setL c
theorem op_eqK (h : X.K = K) (u : X.A.units + 64 < cLine) : OpR X (compareOp .Eq) (rEqD K) := h ▸ op_eqD u
theorem op_neK (h : X.K = K) (u : X.A.units + 64 < cLine) : OpR X (compareOp .NotEq) (rNeD K) := h ▸ op_neD u
theorem call_reprK (h : X.K = K) (g : X.A.guards = some []) (u : X.A.units + 64 < cLine) : CallR X (.builtin "repr") (rRepr K) := h ▸ call_repr g u
theorem pi_tupK {tg l : Expr} {tl : TE} (h : X.K = K) (hl : PE X l tl) : PI X tg l (iTup K tl) := h ▸ pi_tup hl
theorem pi_listK {tg l : Expr} {tl : TE} (h : X.K = K) (hl : PE X l tl) : PI X tg l (iList K tl) := h ▸ pi_list hl
end
/-! ### dicts of ints -/
def dictOf (ws : List Bed) : List (Key × V) := ws.map fun b => (Sum.inl b.1, V.int b.2)
theorem valV_dictOf {p w : Int} : ∀ {ws : List Bed}, (ws.map (·.1)).Nodup → (p, w) ∈ ws → valV (dictOf ws) (.inl p) = some (.int w)
  | [], _, h => nomatch h
  | b :: ws, nd, h => by
    have nd' := List.nodup_cons.mp (show (b.1 :: ws.map (·.1)).Nodup from nd)
    rcases List.mem_cons.mp h with e | e
    · subst e
      exact valV_pos (p := (Sum.inl p, V.int w)) rfl
    · have ne : b.1 ≠ p := fun z => nd'.1 (z ▸ List.mem_map_of_mem e)
      show valV ((Sum.inl b.1, V.int b.2) :: dictOf ws) (.inl p) = _
      rw [valV_neg (fun z => ne (Sum.inl.inj z))]
      exact valV_dictOf nd'.2 e
theorem valV_dictOf_none {p : Int} : ∀ {ws : List Bed}, p ∉ ws.map (·.1) → valV (dictOf ws) (.inl p) = none
  | [], _ => rfl
  | b :: ws, h => by
    have h' : p ≠ b.1 ∧ p ∉ ws.map (·.1) := by simpa using h
    show valV ((Sum.inl b.1, V.int b.2) :: dictOf ws) (.inl p) = _
    rw [valV_neg (fun z => h'.1 (Sum.inl.inj z).symm)]
    exact valV_dictOf_none h'.2
theorem putK_new {ws : List Bed} {p w : Int} (h : p ∉ ws.map (·.1)) : putK (dictOf ws) (.inl p) (.int w) = dictOf (ws ++ [(p, w)]) := by
  unfold putK
  rw [valV_any, valV_dictOf_none h, if_neg (by simp)]
  simp [dictOf]
theorem mergeK_new : ∀ {bs ws : List Bed}, ((ws ++ bs).map (·.1)).Nodup → mergeK (dictOf ws) (dictOf bs) = dictOf (ws ++ bs)
  | [], ws, _ => by simp [mergeK, dictOf]
  | b :: bs, ws, nd => by
    have hn : b.1 ∉ ws.map (·.1) := by
      rw [List.map_append, List.nodup_append] at nd
      intro z
      exact nd.2.2 _ z _ (List.mem_cons_self ..) rfl
    show mergeK (putK (dictOf ws) (.inl b.1) (.int b.2)) (dictOf bs) = _
    rw [putK_new hn, mergeK_new (by simpa using nd)]
    simp
section
variable {K : PySem.W.Frag} {σ : L2.St} {H : Hp} {ta tb te td ty tl : TE} {t u : TT} {v : V}
theorem ev_dget {W : Addr} {kvs : List (Key × V)} {p : Int} (hd : Ev td σ H (.ref W)) (hy : Ev ty σ H (.int p)) (h : H W = some (.dK kvs)) (hv : valV kvs (.inl p) = some v) : Ev (tDGet td ty) σ H v := fun H1 e Q q =>
  hd H1 e _ fun H2 e2 => hy H2 (e.trans e2) _ fun H3 e3 => ⟨W, v, rfl, .inl ⟨kvs, .inl p, .inl (((e.trans e2).trans e3) W _ h), rfl, hv.symm⟩, q H3 (e2.trans e3)⟩
theorem ev_min2 {i j : Int} (ha : Ev ta σ H (.int i)) (hb : Ev tb σ H (.int j)) : Ev (tCB (fun xs H Q => ∃ i j, xs = [V.int i, V.int j] ∧ Q (.int (if j < i then j else i)) H) (tCons ta (tCons tb tNil))) σ H (.int (if j < i then j else i)) := fun H1 e Q q =>
  ha H1 e _ fun H2 e2 => hb H2 (e.trans e2) _ fun H3 e3 => ⟨i, j, rfl, q H3 (e2.trans e3)⟩
def rSortDI : List V → Hp → VK → Prop := fun xs H Q => ∃ (a : Addr) (kvs : List (Key × V)) (ks : List Int), xs = [.ref a] ∧ Rd H a (.dK kvs) ∧ kvs.map (·.1) = ks.map Sum.inl ∧ ks.length < 64 ∧ ∀ (ys : List Int) (p : Addr), ys.Perm ks → ys.Pairwise (· ≤ ·) → H p = none → Q (.ref p) (upd H p (.lst (ys.map V.int)))
theorem asc_of {ys ks : List Int} (p : ys.Perm ks) (s : ys.Pairwise (· ≤ ·)) (nd : ks.Nodup) : ys = sortU ks := by
  have nd' : ys.Nodup := p.nodup_iff.mpr nd
  refine sortU_eq (List.Pairwise.imp₂ (fun a b h1 h2 => by omega) s nd') fun k => p.mem_iff
/-- sorted(dict) -/
theorem el_sortD {W : Addr} {ws : List Bed} (hd : Ev td σ H (.ref W)) (h : H W = some (.dK (dictOf ws))) (nd : (ws.map (·.1)).Nodup) (few : ws.length < 64) : EvL (tCB rSortDI (tCons td tNil)) σ H ((sortU (ws.map (·.1))).map V.int) := fun H1 e Q q =>
  hd H1 e _ fun H2 e2 => ⟨W, dictOf ws, ws.map (·.1), rfl, .inl ((e.trans e2) W _ h), by simp [dictOf, Function.comp_def], by simpa using few, fun ys p pm srt hp => q p _ (fresh_back e2 hp) (e2.trans (Ex.new hp)) (by rw [upd_same, asc_of pm srt nd])⟩
/-- [.. for x in new list of ints if ..] -/
theorem eld_ints {j : Nat} {vs : List Nat} (ns : List Int) (h : EvL tl σ H (ns.map V.int)) (few : ns.length ≤ 50000) (f : Int → Bool) (dd : Int → PyData) (hw : ∀ x, wipe ((wipe σ vs).set j (some x)) vs = wipe σ vs)
    (ht : ∀ x ∈ ns, EvT t ((wipe σ vs).set j (some (.int x))) H (f x)) (he : ∀ x ∈ ns, f x = true → EvD te ((wipe σ vs).set j (some (.int x))) H (dd x)) : EvLd (tLc (iList K tl) (gName j) t te vs) σ H ((ns.filter f).map dd) := fun H0 e0 Q q => h H0 e0 _ fun a H1 na e1 ha => by
  have e01 := e0.trans e1
  refine ⟨a, rfl, ⟨_, sq_of ha⟩, ?_⟩
  have gl := giv_list ns f dd (fun i => match ns[i]? with | some b => f b | none => false) (fun i => match ns[i]? with | some b => dd b | none => .none) (fun i a e => by simp [e])
  refine lc_pure (walk_list (K := K) (a := a) (xs := ns.map V.int)) (by rw [List.length_map]; exact few) (fun i => match ns[i]? with | some b => f b | none => false) (fun i => match ns[i]? with | some b => dd b | none => .none) (fun H' e => sq_of (e a _ ha)) ?_ ?_
  · rintro k x H2 _ hk e2 ⟨rfl, hx⟩
    rw [List.length_map] at hk
    have hbk : ns[k]? = some ns[k] := List.getElem?_eq_getElem hk
    rw [List.getElem?_map, hbk] at hx
    cases hx
    have hm : ns[k] ∈ ns := List.getElem_mem hk
    refine ⟨Ex.refl _, _, fun R r => r, hw _, ?_, ?_⟩
    · simp only [hbk]
      exact (ht _ hm).mono (e01.trans e2)
    · simp only [hbk]
      exact fun hf => (he _ hm hf).mono (e01.trans e2)
  · intro p ys H2 hp e2 h2 t2
    rw [List.length_map, gl] at t2
    exact q p ys H2 (fresh_back e1 hp) (e1.trans e2) h2 t2
/-- new list[:1] -/
theorem el_take1 {xs : List V} {tn : TE} (h : EvL te σ H xs) (hn : Ev tn σ H (.int 1)) : EvL (tSl (rSlL K) te tNoPart (tPart tn)) σ H (xs.take 1) := fun H1 e1 Q q =>
  h H1 e1 _ fun p H2 hp e2 h2 => hn H2 (e1.trans e2) _ fun H3 e3 => ⟨1, rfl, p, xs, rfl, sq_of (e3 p _ h2), fun r hr => by
    refine q r _ (fresh_back (e2.trans e3) hr) ((e2.trans e3).trans (Ex.new hr)) ?_
    rw [upd_same]
    unfold cutV
    rw [show HT.sIx xs.length xs.length (some 1) = min 1 xs.length from HT.sIx_nat xs.length xs.length 1, HT.sIx_none, List.drop_zero, Nat.sub_zero]
    congr 2
    cases xs with
    | nil => rfl
    | cons a r => simp⟩
end
/-! ### drawing where some things are known of the heap -/
def DrJ (D C : Addr) (J : Hp → Prop) (te : TE) (σ : L2.St) (m m' : Int) (R : Int → Prop) : Prop := ∀ H1, Deck D C m H1 → J H1 → ∀ Q : VK, (∀ i H2, Kp D C H1 H2 → Deck D C m' H2 → J H2 → R i → Q (.int i) H2) → te σ H1 Q
def St (D C : Addr) (J : Hp → Prop) : Prop := ∀ H H', J H → Kp D C H H' → J H'
def DrK (D C : Addr) (J : Hp → Prop) (ta : TA) (σ : L2.St) (m m' : Int) (n : Nat) (R : Int → Prop) : Prop := ∀ H1, Deck D C m H1 → J H1 → ∀ Q : List V → Hp → Prop, (∀ (is : List Int) H2, Kp D C H1 H2 → Deck D C m' H2 → J H2 → is.length = n → (∀ i ∈ is, R i) → Q (is.map V.int) H2) → ta σ H1 Q
section
variable {D C : Addr} {K : PySem.W.Frag} {J : Hp → Prop} {σ : L2.St} {m m1 m2 : Int} {R R1 R2 : Int → Prop} {ta tb te : TE} {n : Nat}
theorem dj_pure {i : Int} (st : St D C J) (h : ∀ H, J H → Ev te σ H (.int i)) (r : R i) : DrJ D C J te σ m m R := fun H1 d j Q q => h H1 j H1 (Ex.refl H1) Q fun H2 e2 => q i H2 (Kp.ex e2) (d.ex e2) (st _ _ j (Kp.ex e2)) r
theorem dj_imp (h : DrJ D C J te σ m m1 R1) (k : ∀ i, R1 i → R i) : DrJ D C J te σ m m1 R := fun H1 d j Q q => h H1 d j Q fun i H2 k2 d2 j2 r => q i H2 k2 d2 j2 (k i r)
theorem dj_draw {tk : TE} {E : XK} {k : Int} (st : St D C J) (h0 : σ[0]? = some (some (.ref D))) (hk : ∀ H, J H → Ev tk σ H (.int k)) (mb : m ≤ 1000000000) (k1 : 1 ≤ k) (k2 : k ≤ 1000000001) (hm : m1 = m + 1 := by omega) : DrJ D C J (tCall spDraw [] E (tCons (tVar 0) (tCons tk tNil))) σ m m1 (fun r => 0 ≤ r ∧ r < k) := hm ▸ fun H1 d j Q q =>
  ⟨.ref D, h0, hk H1 j H1 (Ex.refl H1) _ fun H2 e2 => ⟨D, C, m, k, rfl, d.ex e2, mb, k1, k2, fun r H3 r0 r1 kp d3 => q r H3 ((Kp.ex e2).trans kp) d3 (st _ _ j ((Kp.ex e2).trans kp)) ⟨r0, r1⟩⟩⟩
theorem dj_op {f : Int → Int → Int} (ha : DrJ D C J ta σ m m1 R1) (hb : DrJ D C J tb σ m1 m2 R2) (k : ∀ i j, R1 i → R2 j → R (f i j)) : DrJ D C J (tOp (rI0 fun i j => .int (f i j)) ta tb) σ m m2 R := fun H1 d j Q q =>
  ha H1 d j _ fun i H2 kp2 d2 j2 r1 => hb H2 d2 j2 _ fun i' H3 kp3 d3 j3 r2 => ⟨i, i', rfl, rfl, q _ H3 (kp2.trans kp3) d3 j3 (k i i' r1 r2)⟩
theorem dk_nil : DrK D C J tNil σ m m 0 R := fun H1 d j Q q => q [] H1 Kp.refl d j rfl (fun _ h => nomatch h)
theorem dk_cons {tr : TA} (ha : DrJ D C J ta σ m m1 R) (hr : DrK D C J tr σ m1 m2 n R) : DrK D C J (tCons ta tr) σ m m2 (n + 1) R := fun H1 d j Q q =>
  ha H1 d j _ fun i H2 kp2 d2 j2 r1 => hr H2 d2 j2 _ fun is H3 kp3 d3 j3 len rs => q (i :: is) H3 (kp2.trans kp3) d3 j3 (by simp [len]) (fun k hk => by
    rcases List.mem_cons.mp hk with e | e
    · rw [e]; exact r1
    · exact rs k e)
theorem dj_pick {tr : TA} (st : St D C J) (hr : DrK D C J tr σ m m1 n R) (hi : DrJ D C J te σ m1 m2 (fun r => 0 ≤ r ∧ r < (n : Int))) (few : n ≤ 100000) : DrJ D C J (tOp (rIxL K) (tLst tr) te) σ m m2 R := fun H1 d j0 Q q =>
  hr H1 d j0 _ fun is H2 kp2 d2 j2 len rs => ⟨sz_of (by rw [List.length_map, len]; exact few), fun p np => by
    have eN := Ex.new (o := .lst (is.map V.int)) np
    obtain ⟨n1, n2⟩ := Kp.free d2 np
    refine hi _ (d2.ex eN) (st _ _ j2 (Kp.ex eN)) _ fun r H3 kp3 d3 j3 r01 => ?_
    obtain ⟨j, rfl⟩ : ∃ j : Nat, r = j := ⟨r.toNat, by omega⟩
    have jl : j < is.length := by omega
    have at3 : H3 p = some (.lst (is.map V.int)) := kp3 p _ n1 n2 upd_same
    exact ⟨p, _, (j : Int), .int is[j], rfl, rfl, sq_of at3, atI_nat (by rw [List.getElem?_map, List.getElem?_eq_getElem jl]; rfl), q _ H3 ((kp2.trans (Kp.ex eN)).trans kp3) d3 j3 (rs _ (List.getElem_mem jl))⟩⟩
end
section
variable {σ : L2.St} {H : Hp} {t u : TT} {Q : Bool → Hp → Prop}
theorem t_and {a : Bool} (h : EvT t σ H a) (hT : a = true → ∀ H1, Ex H H1 → u σ H1 Q) (hF : a = false → ∀ H1, Ex H H1 → Q false H1) : tAnd t u σ H Q := h H (Ex.refl H) _ fun H1 e => by
  cases a with
  | true => exact hT rfl H1 e
  | false => exact hF rfl H1 e
end
/-! ### trips that are drawn -/
structure TripOk (c : Int) (ws rs : List Bed) : Prop where
  asc : Asc (rs.map (·.1))
  row : ∀ r ∈ rs, ∃ w, (r.1, w) ∈ ws ∧ 1 ≤ r.2 ∧ r.2 ≤ w
  sum : (rs.map (·.2)).sum ≤ c
  non : rs = [] → ∀ b ∈ ws, b.2 ≤ 0
  len : rs.length ≤ 40
def spTrip : Sp := fun vs H Q _ => ∃ D C m g t c bs W ws, vs = [.ref D, g, .ref W] ∧ Deck D C m H ∧ m ≤ 800000000 ∧ Tp H g (gardenD t c bs) ∧ 1 ≤ c ∧ c ≤ 1000000 ∧ H W = some (.dK (dictOf ws)) ∧ (ws.map (·.1)).Nodup ∧ ws.length ≤ 40 ∧
  ∀ v rs H', TripOk c ws rs → Tp H' v (bedsD rs) → Kp D C H H' → Deck D C (m + 200) H' → Q v H'
theorem Kp.dict {D C W : Addr} {m : Int} {H : Hp} {kvs : List (Key × V)} (d : Deck D C m H) (h : H W = some (.dK kvs)) : W ≠ D ∧ W ≠ C := by
  obtain ⟨n, cs, d, _⟩ := d
  exact ⟨ne_of h d.hD (by intro z; cases z), ne_of h d.hC (by intro z; cases z)⟩
theorem eqv_nil (ds : List PyData) : PyData.eqv (.list ds) (.list []) = ds.isEmpty := by
  cases ds with
  | nil => simp [PyData.eqv, PyData.eqvAll]
  | cons d r => simp [PyData.eqv, PyData.eqvAll]
end Cn

namespace Cn
open PySem PySem.Spec PyProof.Rows L2 Evl
section
variable {K : PySem.W.Frag} {σ : L2.St} {H : Hp} {ta tb te td ty tl : TE} {t u : TT} {v : V} {d : PyData} {ds es : List PyData}
/-- new list[:k] -/
theorem el_take {xs : List V} {tn : TE} {k : Nat} (h : EvL te σ H xs) (hn : Ev tn σ H (.int k)) : EvL (tSl (rSlL K) te tNoPart (tPart tn)) σ H (xs.take k) := fun H1 e1 Q q =>
  h H1 e1 _ fun p H2 hp e2 h2 => hn H2 (e1.trans e2) _ fun H3 e3 => ⟨k, rfl, p, xs, rfl, sq_of (e3 p _ h2), fun r hr => by
    refine q r _ (fresh_back (e2.trans e3) hr) ((e2.trans e3).trans (Ex.new hr)) ?_
    rw [upd_same]
    unfold cutV
    rw [show HT.sIx xs.length xs.length (some (k : Int)) = min k xs.length from HT.sIx_nat xs.length xs.length k, HT.sIx_none, List.drop_zero, Nat.sub_zero, ← List.take_eq_take_min]⟩
/-- repr of a new list -/
theorem ev_reprL (h : EvLd te σ H ds) (sh : Sh (.list ds) 1000000 50) : Ev (tCB (rRepr K) (tCons te tNil)) σ H (.str (PyData.list ds).shown) := fun H1 e1 Q q =>
  h H1 e1 _ fun p xs H2 hp e2 h2 t2 => ⟨.ref p, .list ds, rfl, .lst (sq_of h2) (t2.dp (nd_smAll sh.1)), sh.1, sh.2.1, sh.2.2, q H2 e2⟩
/-- new list == new list -/
theorem ev_eqL (ha : EvLd ta σ H ds) (hb : EvLd tb σ H es) (sd : SeqAt.shaped (.list ds) = true) (se : SeqAt.shaped (.list es) = true) : Ev (tOp (rEqD K) ta tb) σ H (.bl (PyData.eqv (.list ds) (.list es))) := fun H1 e1 Q q =>
  ha H1 e1 _ fun p xs H2 hp e2 h2 t2 => hb H2 (e1.trans e2) _ fun p' ys H3 hp' e3 h3 t3 => ⟨.list ds, .list es, .lst (sq_of (e3 p _ h2)) ((t2.mono (Tk.ex e3)).dp (nd_shapedL sd)), .lst (sq_of h3) (t3.dp (nd_shapedL se)), sd, se, q H3 (e2.trans e3)⟩
/-- a != b of data -/
theorem ev_neD {e : PyData} (ha : EvD ta σ H d) (hb : EvD tb σ H e) (sd : SeqAt.shaped d = true) (se : SeqAt.shaped e = true) : Ev (tOp (rNeD K) ta tb) σ H (.bl (!PyData.eqv d e)) := fun H1 e1 Q q =>
  ha H1 e1 _ fun v H2 e2 t2 => hb H2 (e1.trans e2) _ fun v' H3 e3 t3 => ⟨d, e, (t2.mono (Tk.ex e3)).dp (nd_shaped sd), t3.dp (nd_shaped se), sd, se, q H3 (e2.trans e3)⟩
/-- [.. for x in a list by its name, if ..] -/
theorem eld_data {α : Type} {a : Addr} {xs : List V} {j : Nat} {vs : List Nat} (l : List α) (rep : α → PyData) (h : Ev tl σ H (.ref a)) (ha : H a = some (.lst xs)) (hx : TpAll H xs (l.map rep)) (few : l.length ≤ 50000) (f : α → Bool) (dd : α → PyData)
    (hw : ∀ x, wipe ((wipe σ vs).set j (some x)) vs = wipe σ vs) (ht : ∀ y ∈ l, ∀ v, Tp H v (rep y) → EvT t ((wipe σ vs).set j (some v)) H (f y)) (he : ∀ y ∈ l, ∀ v, Tp H v (rep y) → f y = true → EvD te ((wipe σ vs).set j (some v)) H (dd y)) :
    EvLd (tLc (iList K tl) (gName j) t te vs) σ H ((l.filter f).map dd) := fun H0 e0 Q q => h H0 e0 _ fun H1 e1 => by
  have e01 := e0.trans e1
  have lx : xs.length = l.length := by rw [hx.length, List.length_map]
  refine ⟨a, rfl, ⟨_, sq_of (e01 a _ ha)⟩, ?_⟩
  have gl := giv_list l f dd (fun i => match l[i]? with | some b => f b | none => false) (fun i => match l[i]? with | some b => dd b | none => .none) (fun i a e => by simp [e])
  refine lc_pure (walk_list (K := K) (a := a) (xs := xs)) (by omega) (fun i => match l[i]? with | some b => f b | none => false) (fun i => match l[i]? with | some b => dd b | none => .none) (fun H' e => sq_of (e a _ (e01 a _ ha))) ?_ ?_
  · rintro k x H2 _ hk e2 ⟨rfl, hxk⟩
    have hk' : k < l.length := by omega
    have hbk : l[k]? = some l[k] := List.getElem?_eq_getElem hk'
    obtain ⟨v, hv, tv⟩ := hx.get (i := k) (d := rep l[k]) (by rw [List.getElem?_map, hbk]; rfl)
    rw [hxk] at hv
    cases hv
    have hm : l[k] ∈ l := List.getElem_mem hk'
    refine ⟨Ex.refl _, _, fun R r => r, hw _, ?_, ?_⟩
    · simp only [hbk]
      exact (ht _ hm _ tv).mono (e01.trans e2)
    · simp only [hbk]
      exact fun hf => (he _ hm _ tv hf).mono (e01.trans e2)
  · intro p ys H2 hp e2 h2 t2
    refine q p ys H2 (fresh_back e1 hp) (e1.trans e2) h2 ?_
    rw [← gl, ← lx]
    exact t2
/-- a list by its name + a new list, of data -/
theorem eld_catV {p : Addr} {xs : List V} (ha : Ev ta σ H (.ref p)) (hp : H p = some (.lst xs)) (hx : TpAll H xs ds) (hb : EvLd tb σ H es) (hl : ds.length + es.length ≤ 100000) : EvLd (tOp rCat ta tb) σ H (ds ++ es) := fun H1 e Q q =>
  ha H1 e _ fun H2 e2 => hb H2 (e.trans e2) _ fun p' ys H3 hp' e3 h3 t3 => ⟨p, p', xs, ys, rfl, rfl, ((e.trans e2).trans e3) p _ hp, h3, sz_of (by rw [hx.length, t3.length]; exact hl), fun r hr => q r _ _ (fresh_back (e2.trans e3) hr) ((e2.trans e3).trans (Ex.new hr)) upd_same
    (((hx.mono (Tk.ex ((e.trans e2).trans e3))).append t3).mono (Tk.ex (Ex.new hr)))⟩
/-- new list + new list, of data -/
theorem eld_cat (ha : EvLd ta σ H ds) (hb : EvLd tb σ H es) (hl : ds.length + es.length ≤ 100000) : EvLd (tOp rCat ta tb) σ H (ds ++ es) := fun H1 e Q q =>
  ha H1 e _ fun p xs H2 hp e2 h2 t2 => hb H2 (e.trans e2) _ fun p' ys H3 hp' e3 h3 t3 => ⟨p, p', xs, ys, rfl, rfl, e3 p _ h2, h3, sz_of (by rw [t2.length, t3.length]; exact hl), fun r hr => q r _ _ (fresh_back (e2.trans e3) hr) ((e2.trans e3).trans (Ex.new hr)) upd_same
    (((t2.mono (Tk.ex e3)).append t3).mono (Tk.ex (Ex.new hr)))⟩
end
theorem ed_call2 {σ : L2.St} {H : Hp} {ta tb : TE} {sp : Sp} {E : XK} {v1 : V} {d d2 : PyData} (h1 : Ev ta σ H v1) (h2 : EvD tb σ H d2) (hs : ∀ v2 H1, Ex H H1 → Tp H1 v2 d2 → ∀ Q : VK, (∀ z H2, Ex H1 H2 → Tp H2 z d → Q z H2) → ∀ E : XK, sp [v1, v2] H1 Q E) : EvD (tCall sp [] E (tCons ta (tCons tb tNil))) σ H d := fun H1 e Q q =>
  h1 H1 e _ fun H2 e2 => h2 H2 (e.trans e2) _ fun v H3 e3 t3 => hs v H3 ((e.trans e2).trans e3) t3 Q (fun z H4 e4 t4 => q z H4 ((e2.trans e3).trans e4) t4) E
theorem q_asgLd {σ : L2.St} {H : Hp} {te : TE} {ds : List PyData} {D : Ends} {tz : TS} {i : Nat} (h : EvLd te σ H ds) (k : ∀ p xs H1, H p = none → Ex H H1 → H1 p = some (.lst xs) → TpAll H1 xs ds → tz D (σ.set i (some (.ref p))) H1) : tSeq (tAsg te (gName i)) tz D σ H := h H (Ex.refl H) _ k
theorem seq_asg {te : TE} {g : TG} {tz : TS} {D : Ends} {σ : L2.St} {H : Hp} : tSeq (tAsg te g) tz D σ H = te σ H fun x H1 => g x σ H1 (tz D) := rfl
theorem op_eq' {r : R2} {ta tb : TE} {σ : L2.St} {H : Hp} {Q : VK} : tOp r ta tb σ H Q = ta σ H fun x H1 => tb σ H1 fun y H2 => r x y H2 Q := rfl
/-- the pairs of a tuple of beds, for dict() -/
theorem beds_refs {K : PySem.W.Frag} {H : Hp} : ∀ {bs : List Bed} {xs : List V}, TpAll H xs (bs.map bedD) → ∃ ps : List Addr, xs = ps.map V.ref ∧ Paired (fun p kv => SqT K H p [kV kv.1, kv.2]) ps (dictOf bs)
  | [], _, h => by
    cases h
    exact ⟨[], rfl, .nil⟩
  | b :: bs, _, h => by
    cases h with
    | cons h1 h2 =>
      obtain ⟨a, rfl, ha⟩ := bed_inv h1
      obtain ⟨ps, rfl, pr⟩ := beds_refs (K := K) h2
      exact ⟨a :: ps, rfl, .cons (sr ha) pr⟩
/-! ### comprehensions that draw -/
theorem da_list {K : PySem.W.Frag} {D C : Addr} {ta : TA} {te : TE} {σ : L2.St} {H : Hp} {j : Nat} {vs : List Nat} {n : Nat} {Q : VK} (M st : Int) (Pd : PyData → Prop) (h : EvA ta σ H [.int n]) (few : n ≤ 50000) (hs : 0 ≤ st) (dk : Deck D C M H) (hw : ∀ x, wipe ((wipe σ vs).set j (some x)) vs = wipe σ vs)
    (he : ∀ (i : Nat) H', i < n → Kp D C H H' → Deck D C (M + st * i) H' → ∀ Q : VK, (∀ v d H2, Pd d → Tp H2 v d → Kp D C H' H2 → Deck D C (M + st * i + st) H2 → Q v H2) → te ((wipe σ vs).set j (some (.int (i : Int)))) H' Q)
    (q : ∀ p xs ds H', H p = none → Kp D C H H' → Deck D C (M + st * n) H' → H' p = some (.lst xs) → TpAll H' xs ds → ds.length = n → (∀ d ∈ ds, Pd d) → Q (.ref p) H') : tLc (iRng1 ta) (gName j) tYes te vs σ H Q :=
  h H (Ex.refl H) _ fun H1 e1 => ⟨(n : Int), rfl, by omega, by omega, fun N nN => by
    have dk1 := dk.ex e1
    obtain ⟨nD, nC⟩ := Kp.free dk1 nN
    have nH : H N = none := fresh_back e1 nN
    refine lc_range (lo := 0) (n := ((n : Int)).toNat) (fun i H' => Kp D C H H' ∧ Deck D C (M + st * i) H' ∧ ∃ xs ds, H' N = some (.lst xs) ∧ TpAll H' xs ds ∧ ds.length = i ∧ ∀ d ∈ ds, Pd d) ?_ ?_ ?_
    · exact ⟨(Kp.ex e1).mut nH, (dk1.mut nD nC).mono (by simp), [], [], upd_same, .nil, rfl, fun _ h => nomatch h⟩
    · rintro i H2 hi ⟨kp2, dk2, xs, ds, h2, t2, len, ok⟩
      refine ⟨hw _, ?_⟩
      dsimp only [tYes]
      rw [if_pos rfl, show (0 : Int) + (i : Int) = i by omega]
      refine he i H2 (by omega) kp2 dk2 _ fun v d H3 pd tv kp3 dk3 => ?_
      have h3 := kp3 N _ nD nC h2
      refine ⟨xs, h3, sz_lt (by rw [t2.length]; omega), (kp2.trans kp3).mut nH, (dk3.mut nD nC).mono (by rw [show ((i + 1 : Nat) : Int) = (i : Int) + 1 by omega, Int.mul_add]; omega), xs ++ [v], ds ++ [d], upd_same, ?_, by simp [len], fun e he' => ?_⟩
      · exact ((t2.mono (Kp.tk dk2 kp3)).append (.cons tv .nil)).mono (Tk.lst h3)
      · rcases List.mem_append.mp he' with z | z
        · exact ok e z
        · rw [List.mem_singleton.mp z]; exact pd
    · rintro H2 ⟨kp2, dk2, xs, ds, h2, t2, len, ok⟩
      rw [show ((n : Int)).toNat = n by omega] at dk2 len
      exact q N xs ds H2 nH kp2 dk2 h2 t2 len ok⟩
theorem all_trips {P : List Bed → Prop} : ∀ {ds : List PyData}, (∀ d ∈ ds, ∃ rs, d = bedsD rs ∧ P rs) → ∃ trs : List (List Bed), ds = trs.map bedsD ∧ ∀ rs ∈ trs, P rs
  | [], _ => ⟨[], rfl, fun _ h => nomatch h⟩
  | d :: ds, h => by
    obtain ⟨rs, rfl, hp⟩ := h d (List.mem_cons_self ..)
    obtain ⟨trs, rfl, ht⟩ := all_trips (P := P) (ds := ds) fun e he => h e (List.mem_cons_of_mem _ he)
    exact ⟨rs :: trs, rfl, fun x hx => by
      rcases List.mem_cons.mp hx with z | z
      · rw [z]; exact hp
      · exact ht x z⟩
theorem Tk.dict {H : Hp} {W : Addr} {kvs : List (Key × V)} {o : HO} (h : H W = some (.dK kvs)) : Tk H (upd H W o) := ⟨fun a zs e => rd_upd e (by
  rcases e with e | ⟨z, e⟩
  · exact ne_of e h (by intro z; cases z)
  · exact ne_of e h (by intro z; cases z)), fun a z u e => by rw [upd_ne (ne_of e h (by intro z; cases z))]; exact e⟩
theorem GAt.dict {H : Hp} {v : V} {t c : Int} {bs : List Bed} {W : Addr} {kvs : List (Key × V)} {o : HO} (h : GAt H v t c bs) (hW : H W = some (.dK kvs)) : GAt (upd H W o) v t c bs := by
  obtain ⟨g, b, xs, ob, rfl, hg, hb, hd, hx⟩ := h
  have tk : Tk H (upd H W o) := Tk.dict hW
  exact ⟨g, b, xs, ob, rfl, tk.1 _ _ hg, by rw [upd_ne (ne_of hb hW (by intro z; cases z))]; exact hb, hd, hx.mono tk⟩
structure TrOk (rs : List Bed) : Prop where
  asc : Asc (rs.map (·.1))
  len : rs.length ≤ 40
  p0 : ∀ r ∈ rs, -1000000 ≤ r.1
  p1 : ∀ r ∈ rs, r.1 ≤ 1000000
  l0 : ∀ r ∈ rs, 1 ≤ r.2
  l1 : ∀ r ∈ rs, r.2 ≤ 10000000000
theorem TrOk.sh {rs : List Bed} (h : TrOk rs) : Sh (bedsD rs) 9000 2 := by
  have big : (10 : Int) ^ 39 = 1000000000000000000000000000000000000000 := by decide
  refine sh_tup (k := 207) (n := 1) (fun d hd => ?_) (by rw [List.length_map]; have := h.len; omega)
  obtain ⟨b, m, rfl⟩ := List.mem_map.mp hd
  have := h.p0 b m
  have := h.p1 b m
  have := h.l0 b m
  have := h.l1 b m
  exact sh_bed (by omega) (by omega) (by omega) (by omega)
theorem eqv_tup0 (rs : List Bed) : PyData.eqv (bedsD rs) (.tuple []) = rs.isEmpty := by
  cases rs with
  | nil => simp [bedsD, PyData.eqv, PyData.eqvAll]
  | cons d r => simp [bedsD, PyData.eqv, PyData.eqvAll]
/-! ### the way of a trip -/
def wstep (t : Int) (a : Int × Int) (r : Bed) : Int × Int := if r.1 < t then (max a.1 (t - r.1), a.2) else (a.1, max a.2 (r.1 - t))
def wayOf (t : Int) (rs : List Bed) : Int := 2 * (rs.foldl (wstep t) (0, 0)).1 + 2 * (rs.foldl (wstep t) (0, 0)).2
theorem wfold_asc {t : Int} : ∀ {rs : List Bed} {a b : Int} {r0 r1 : Bed}, 0 ≤ a → 0 ≤ b → Asc (rs.map (·.1)) → rs.head? = some r0 → rs.getLast? = some r1 → rs.foldl (wstep t) (a, b) = (max a (max 0 (t - r0.1)), max b (max 0 (r1.1 - t)))
  | [], _, _, _, _, _, _, _, h, _ => by simp at h
  | [r], a, b, r0, r1, ha, hb, _, h0, h1 => by
    simp at h0 h1
    subst h0 h1
    simp only [List.foldl_cons, List.foldl_nil, wstep]
    split
    · congr 1 <;> omega
    · congr 1 <;> omega
  | r :: s :: rs, a, b, r0, r1, ha, hb, asc, h0, h1 => by
    simp at h0
    subst h0
    have asc' := List.pairwise_cons.mp (show Asc (r.1 :: (s :: rs).map (·.1)) from asc)
    have hs : r.1 < s.1 := asc'.1 _ (by simp)
    have h1' : (s :: rs).getLast? = some r1 := by rw [List.getLast?_cons_cons] at h1; exact h1
    have hr1 : r.1 < r1.1 := asc'.1 _ (List.mem_map_of_mem (List.mem_of_getLast? h1'))
    rw [List.foldl_cons]
    by_cases c : r.1 < t
    · have e : wstep t (a, b) r = (max a (t - r.1), b) := by simp [wstep, c]
      rw [e, wfold_asc (t := t) (rs := s :: rs) (a := max a (t - r.1)) (b := b) (r0 := s) (by omega) hb asc'.2 rfl h1']
      congr 1 <;> omega
    · have e : wstep t (a, b) r = (a, max b (r.1 - t)) := by simp [wstep, c]
      rw [e, wfold_asc (t := t) (rs := s :: rs) (a := a) (b := max b (r.1 - t)) (r0 := s) ha (by omega) asc'.2 rfl h1']
      congr 1 <;> omega
theorem way_ends {t : Int} {rs : List Bed} {r0 r1 : Bed} (asc : Asc (rs.map (·.1))) (h0 : rs.head? = some r0) (h1 : rs.getLast? = some r1) : wayOf t rs = 2 * (max 0 (t - r0.1) + max 0 (r1.1 - t)) := by
  unfold wayOf
  rw [wfold_asc (Int.le_refl 0) (Int.le_refl 0) asc h0 h1]
  simp only
  omega
end Cn

namespace Cn
open PySem PySem.Spec PyProof.Rows L2 Evl
/-! ### sizes of values of any kind -/
def odKv : List (PyData × PyData) → Bool
  | [] => true
  | [(.str x, .int i)] => decide (x = "a") && decide (i = 1)
  | _ => false
mutual
def okV (B : Nat) : PyData → Bool
  | .none => true
  | .bool _ => true
  | .int i => decide (i.natAbs ≤ B)
  | .str x => decide ((reprText x).length ≤ 1000)
  | .list xs => okVAll B xs
  | .tuple xs => okVAll B xs
  | .dict kvs => odKv kvs
def okVAll (B : Nat) : List PyData → Bool
  | [] => true
  | x :: xs => okV B x && okVAll B xs
end
mutual
def wv : PyData → Nat
  | .none => 10
  | .bool _ => 10
  | .int _ => 100
  | .str _ => 1000
  | .list xs => wvAll xs + 3
  | .tuple xs => wvAll xs + 3
  | .dict _ => 20
def wvAll : List PyData → Nat
  | [] => 0
  | x :: xs => (wv x + 2) + wvAll xs
end
mutual
def dv : PyData → Nat
  | .list xs => dvAll xs + 1
  | .tuple xs => dvAll xs + 1
  | .dict _ => 1
  | _ => 0
def dvAll : List PyData → Nat
  | [] => 0
  | x :: xs => max (dv x) (dvAll xs)
end
theorem odKv_inv : ∀ {kvs : List (PyData × PyData)}, odKv kvs = true → kvs = [] ∨ kvs = [(.str "a", .int 1)]
  | [], _ => .inl rfl
  | [(.str x, .int i)], h => by
    simp only [odKv, Bool.and_eq_true, decide_eq_true_eq] at h
    rw [h.1, h.2]
    exact .inr rfl
  | [(.none, _)], h => by simp [odKv] at h
  | [(.bool _, _)], h => by simp [odKv] at h
  | [(.int _, _)], h => by simp [odKv] at h
  | [(.list _, _)], h => by simp [odKv] at h
  | [(.tuple _, _)], h => by simp [odKv] at h
  | [(.dict _, _)], h => by simp [odKv] at h
  | [(.str _, .none)], h => by simp [odKv] at h
  | [(.str _, .bool _)], h => by simp [odKv] at h
  | [(.str _, .str _)], h => by simp [odKv] at h
  | [(.str _, .list _)], h => by simp [odKv] at h
  | [(.str _, .tuple _)], h => by simp [odKv] at h
  | [(.str _, .dict _)], h => by simp [odKv] at h
  | _ :: _ :: _, h => by simp [odKv] at h
mutual
theorem okV_show {B : Nat} (hB : B < 10 ^ 40) : ∀ d : PyData, okV B d = true → d.showable = true ∧ d.shown.length ≤ wv d ∧ d.depth ≤ dv d
  | .none, _ => ⟨rfl, by simp only [PyData.shown, wv]; decide, by simp only [PyData.depth]; omega⟩
  | .bool b, _ => ⟨rfl, by simp only [PyData.shown, wv]; cases b <;> decide, by simp only [PyData.depth]; omega⟩
  | .int i, h => by
    have h1 : i.natAbs < 10 ^ 40 := by
      simp only [okV, decide_eq_true_eq] at h
      omega
    have h2 : i.natAbs < 2 ^ 1920 := Nat.lt_of_lt_of_le h1 (by decide +kernel)
    refine ⟨?_, ?_, by simp only [PyData.depth]; omega⟩
    · simp only [PyData.showable, decide_eq_true_eq]
      by_cases h0 : i.natAbs = 0
      · rw [h0]; decide
      · exact (Nat.log2_lt h0).2 h2
    · have := int_text_length_le10 (a := i) (k := 40) (by decide) h1
      simp only [PyData.shown, wv]
      rw [PySem.ofString_length]
      omega
  | .str x, h => by
    have h1 : (reprText x).length ≤ 1000 := by simpa only [okV, decide_eq_true_eq] using h
    exact ⟨rfl, by simp only [PyData.shown, wv]; exact h1, by simp only [PyData.depth]; omega⟩
  | .list xs, h => by
    obtain ⟨a, b, c⟩ := okV_showAll hB xs (by simpa only [okV] using h)
    have := listText_le (PyData.shownAll xs)
    refine ⟨by simpa only [PyData.showable] using a, by simp only [PyData.shown, wv]; omega, by simp only [PyData.depth, dv]; omega⟩
  | .tuple xs, h => by
    obtain ⟨a, b, c⟩ := okV_showAll hB xs (by simpa only [okV] using h)
    have := tupleText_le (PyData.shownAll xs)
    refine ⟨by simpa only [PyData.showable] using a, by simp only [PyData.shown, wv]; omega, by simp only [PyData.depth, dv]; omega⟩
  | .dict kvs, h => by
    rcases odKv_inv (by simpa only [okV] using h) with rfl | rfl
    · exact ⟨rfl, by simp only [PyData.shown, PyData.shownKv, wv]; decide, by simp only [PyData.depth, PyData.depthKv, dv]; omega⟩
    · exact ⟨rfl, by simp only [PyData.shown, PyData.shownKv, wv]; decide +kernel, by simp only [PyData.depth, PyData.depthKv, dv]; decide⟩
theorem okV_showAll {B : Nat} (hB : B < 10 ^ 40) : ∀ ds : List PyData, okVAll B ds = true → PyData.showableAll ds = true ∧ piled (PyData.shownAll ds) ≤ wvAll ds ∧ PyData.depthAll ds ≤ dvAll ds
  | [], _ => ⟨rfl, by simp only [PyData.shownAll, wvAll]; exact Nat.le_refl _, by simp only [PyData.depthAll]; omega⟩
  | x :: xs, h => by
    simp only [okVAll, Bool.and_eq_true] at h
    obtain ⟨a, b, c⟩ := okV_show hB x h.1
    obtain ⟨a', b', c'⟩ := okV_showAll hB xs h.2
    refine ⟨by simp only [PyData.showableAll, a, a', Bool.and_self], ?_, by simp only [PyData.depthAll, dvAll]; omega⟩
    simp only [PyData.shownAll, wvAll]
    rw [piled_cons]; omega
end
theorem okVAll_iff {B : Nat} : ∀ {ds : List PyData}, okVAll B ds = true ↔ ∀ d ∈ ds, okV B d = true
  | [] => by simp [okVAll]
  | x :: xs => by simp [okVAll, okVAll_iff (ds := xs)]
theorem dvAll_iff {k : Nat} : ∀ {ds : List PyData}, dvAll ds ≤ k ↔ ∀ d ∈ ds, dv d ≤ k
  | [] => by simp [dvAll]
  | x :: xs => by
    have := dvAll_iff (k := k) (ds := xs)
    simp only [dvAll, List.mem_cons, forall_eq_or_imp, ← this]
    omega
theorem wvAll_append : ∀ (a b : List PyData), wvAll (a ++ b) = wvAll a + wvAll b
  | [], b => by simp [wvAll]
  | x :: a, b => by simp only [List.cons_append, wvAll, wvAll_append a b]; omega
theorem wvAll_take : ∀ (n : Nat) (a : List PyData), wvAll (a.take n) ≤ wvAll a
  | 0, a => by simp [wvAll]
  | n + 1, [] => by simp [wvAll]
  | n + 1, x :: a => by have := wvAll_take n a; simp only [List.take_succ_cons, wvAll]; omega
theorem wvAll_drop : ∀ (n : Nat) (a : List PyData), wvAll (a.drop n) ≤ wvAll a
  | 0, a => by simp [wvAll]
  | n + 1, [] => by simp [wvAll]
  | n + 1, x :: a => by have := wvAll_drop n a; simp only [List.drop_succ_cons, wvAll]; omega
theorem wvAll_reverse : ∀ (a : List PyData), wvAll a.reverse = wvAll a
  | [] => rfl
  | x :: a => by simp only [List.reverse_cons, wvAll_append, wvAll, wvAll_reverse a]; omega
theorem wv_mem : ∀ {ds : List PyData} {d : PyData}, d ∈ ds → wv d + 2 ≤ wvAll ds
  | [], _, h => nomatch h
  | x :: xs, d, h => by
    rcases List.mem_cons.mp h with rfl | h
    · simp only [wvAll]; omega
    · have := wv_mem h; simp only [wvAll]; omega
theorem len_wv : ∀ (ds : List PyData), 2 * ds.length ≤ wvAll ds
  | [] => by simp
  | x :: xs => by have := len_wv xs; simp only [List.length_cons, wvAll]; omega
/-- a value of at most k signs, at most n deep, whole numbers up to B -/
structure Sz (B k n : Nat) (d : PyData) : Prop where
  ok : okV B d = true
  w : wv d ≤ k
  p : dv d ≤ n
theorem Sz.mono {B B' k k' n n' : Nat} {d : PyData} (h : Sz B k n d) (b : B ≤ B') (a : k ≤ k') (c : n ≤ n') : Sz B' k' n' d := by
  have key : (∀ d : PyData, okV B d = true → okV B' d = true) := by
    intro d
    refine PyData.rec (motive_1 := fun d => okV B d = true → okV B' d = true) (motive_2 := fun ds => okVAll B ds = true → okVAll B' ds = true) (motive_3 := fun _ => True) (motive_4 := fun _ => True) ?_ ?_ ?_ ?_ ?_ ?_ ?_ ?_ ?_ ?_ ?_ ?_ d
    all_goals first
      | (intros; trivial)
      | (intro i h; simp only [okV, decide_eq_true_eq] at h ⊢; omega)
      | (intro x y h1 h2 h; simp only [okVAll, Bool.and_eq_true] at h ⊢; exact ⟨h1 h.1, h2 h.2⟩)
      | (intro x h1 h; simp only [okV] at h ⊢; exact h1 h)
      | (intros; simpa only [okV] using ‹_›)
  exact ⟨key d h.ok, Nat.le_trans h.w a, Nat.le_trans h.p c⟩
theorem sz_tup {B k n : Nat} {ds : List PyData} (h : ∀ d ∈ ds, okV B d = true) (hw : wvAll ds + 3 ≤ k) (hp : ∀ d ∈ ds, dv d + 1 ≤ n) (hn : 1 ≤ n) : Sz B k n (.tuple ds) := by
  refine ⟨by simp only [okV]; exact okVAll_iff.mpr h, by simp only [wv]; exact hw, ?_⟩
  have : dvAll ds ≤ n - 1 := dvAll_iff.mpr fun d hd => by have := hp d hd; omega
  simp only [dv]; omega
theorem sz_lst {B k n : Nat} {ds : List PyData} (h : ∀ d ∈ ds, okV B d = true) (hw : wvAll ds + 3 ≤ k) (hp : ∀ d ∈ ds, dv d + 1 ≤ n) (hn : 1 ≤ n) : Sz B k n (.list ds) := by
  refine ⟨by simp only [okV]; exact okVAll_iff.mpr h, by simp only [wv]; exact hw, ?_⟩
  have : dvAll ds ≤ n - 1 := dvAll_iff.mpr fun d hd => by have := hp d hd; omega
  simp only [dv]; omega
theorem Sz.items {B k n : Nat} {ds : List PyData} (h : Sz B k n (.tuple ds)) : (∀ d ∈ ds, okV B d = true) ∧ wvAll ds + 3 ≤ k ∧ (∀ d ∈ ds, dv d + 1 ≤ n) ∧ 1 ≤ n := by
  obtain ⟨a, b, c⟩ := h
  simp only [okV] at a
  simp only [wv] at b
  simp only [dv] at c
  have : dvAll ds ≤ n - 1 := by omega
  exact ⟨okVAll_iff.mp a, b, fun d hd => by have := dvAll_iff.mp this d hd; omega, by omega⟩
/-! ### reading -/
section
variable {X : Cx} {pins : List (Addr × Obj)} {σ : L2.St} {H : Hp} {s : Shared}
mutual
theorem Tp.reads (I : Inv X pins σ H s) : ∀ (d : PyData) (v : V) (u : Value), Tp H v d → RelV v u → ∃ as, Reads s.heap u d as ∧ sysModules ∉ as
  | .none, _, _, h, r => by
    cases h
    cases r
    exact ⟨_, Reads.none, by simp⟩
  | .bool b, _, _, h, r => by
    cases h
    cases r
    exact ⟨_, Reads.bool b, by simp⟩
  | .int i, _, _, h, r => by
    cases h
    obtain ⟨t, rfl⟩ := r
    exact ⟨_, Reads.int i t, by simp⟩
  | .str x, _, _, h, r => by
    cases h
    obtain ⟨t, rfl⟩ := r
    exact ⟨_, Reads.str x t, by simp⟩
  | .list ds, _, _, h, r => by
    cases h with
    | lst hs hn ha =>
      cases r
      obtain ⟨its, rv, ⟨o, n, ho, hc, _, hd⟩, _⟩ := I.list (xs := _) (show SqL X.K H _ _ from .inl (.inr ⟨_, hs⟩))
      obtain ⟨as, hr, na⟩ := Tp.readsAll I ds _ its ha rv
      exact ⟨_, Reads.list ho hc hd hr, by simp [na]; exact fun z => hn z.symm⟩
  | .tuple ds, _, _, h, r => by
    cases h with
    | tup hs ha =>
      cases r
      obtain ⟨its, rv, ⟨o, ho, hc, n, hd⟩, _⟩ := I.tuple (sr (K := X.K) hs)
      obtain ⟨as, hr, na⟩ := Tp.readsAll I ds _ its ha rv
      exact ⟨_, Reads.tuple ho hc hd hr, na⟩
  | .dict ds, _, _, h, r => by
    cases h with
    | dic hs od =>
      cases r
      obtain ⟨_, hsm, vs, kv, o, es, ep, ho, hx, hd, _, hp, _⟩ := dk_rd I.hok (.inr ⟨_, hs⟩)
      have nsm := (beq_eq_false_iff_ne.mp hsm).symm
      rcases od with ⟨rfl, rfl⟩ | ⟨rfl, rfl⟩
      · cases kv
        have e0 : es.toList = [] := by cases h : es.toList with | nil => rfl | cons e r => rw [h] at hp; cases hp
        refine ⟨_, Reads.dict (kvs := []) (as := []) (bs := []) ho hx.1 hd (by rw [e0]; exact .nil) (by rw [e0]; exact .nil), by simp [nsm]⟩
      · cases kv with
        | @cons _ q _ _ h1 h2 =>
          cases h2
          obtain ⟨qk, qv⟩ := q
          obtain ⟨e1, t, e2⟩ := h1
          dsimp only at e1 e2
          subst e1 e2
          cases h : es.toList with
          | nil => rw [h] at hp; cases hp
          | cons e r =>
            rw [h] at hp
            cases hp with
            | cons k1 k2 k3 =>
              cases k3
              rcases keyIs_shape (k := .inr "a") (v := e.key) k1 with ⟨i, t', z, _⟩ | ⟨x, t', z, ek⟩
              · cases z
              · cases z
                refine ⟨_, Reads.dict (kvs := [(.str "a", .int 1)]) ho hx.1 hd (as := [] ++ []) (bs := [] ++ []) (by rw [h]; simp only [List.map_cons, List.map_nil, ek]; exact .cons (.str _ _) .nil) (by rw [h]; simp only [List.map_cons, List.map_nil, k2]; exact .cons (.int _ _) .nil), by simp [nsm]⟩
theorem Tp.readsAll (I : Inv X pins σ H s) : ∀ (ds : List PyData) (vs : List V) (us : List Value), TpAll H vs ds → Vals vs us → ∃ as, ReadsAll s.heap us ds as ∧ sysModules ∉ as
  | [], _, _, h, r => by
    cases h
    cases r
    exact ⟨_, ReadsAll.nil, by simp⟩
  | d :: ds, _, _, h, r => by
    cases h with
    | cons h1 h2 =>
      cases r with
      | cons r1 r2 =>
        obtain ⟨as, q1, n1⟩ := Tp.reads I d _ _ h1 r1
        obtain ⟨bs, q2, n2⟩ := Tp.readsAll I ds _ _ h2 r2
        exact ⟨_, ReadsAll.cons q1 q2, by simp [n1, n2]⟩
end
end
/-! ### repr -/
/-- what repr is asked of: a value, or a list of values that was just made -/
def Tq (H : Hp) (v : V) (d : PyData) : Prop := Tp H v d ∨ ∃ a xs ds, v = .ref a ∧ d = .list ds ∧ H a = some (.lst xs) ∧ a ≠ sysModules ∧ TpAll H xs ds
section
variable {X : Cx}
theorem Tq.reads {pins : List (Addr × Obj)} {σ : L2.St} {H : Hp} {s : Shared} (I : Inv X pins σ H s) {d : PyData} {v : V} {u : Value} (h : Tq H v d) (r : RelV v u) : ∃ as, Reads s.heap u d as ∧ sysModules ∉ as := by
  rcases h with h | ⟨a, xs, ds, rfl, rfl, ha, hn, hx⟩
  · exact Tp.reads I d v u h r
  · cases r
    obtain ⟨its, rv, ⟨o, n, ho, hc, _, hd⟩, _⟩ := I.list (show SqL X.K H a xs from sq_of ha)
    obtain ⟨as, hr, na⟩ := Tp.readsAll I ds _ its hx rv
    exact ⟨_, Reads.list ho hc hd hr, by simp [na]; exact fun z => hn z.symm⟩
def rReprV : List V → Hp → VK → Prop := fun xs H Q => ∃ v d, xs = [v] ∧ Tq H v d ∧ Sz (10 ^ 39 + 10) 1000000 50 d ∧ Q (.str d.shown) H
theorem call_reprV (hg : X.A.guards = some []) (hu : X.A.units + 64 < cLine) : CallR X (.builtin "repr") rReprV := by
  intro pins s σ H xs us Q I r h
  obtain ⟨v, d, rfl, hd, hs, q⟩ := h
  obtain ⟨u, rfl, ru⟩ := vals1 r
  obtain ⟨as, rd, na⟩ := hd.reads I ru
  obtain ⟨s1, s3, s4⟩ := okV_show (by decide) d hs.ok
  have hw := hs.w
  have hp := hs.p
  have hz : d.shown.length ≤ sizeLine := Nat.le_trans (Nat.le_trans s3 hw) (by decide)
  have leaf : ∀ {h' : Heap} {t u : Nat}, (∀ b o, s.heap.get? b = some o → h'.get? b = some o) → EP X pins σ Q (.str d.shown u) { s with heap := h', toks := t } :=
    fun k => ⟨.str _, H, I.kept k, ⟨_, rfl⟩, q⟩
  have big : ∀ {a : Addr} (rd : Reads s.heap (.ref a) d as), wpAny (model X.prog X.w) X.A (call (.builtin "repr") [.ref a]) (EP X pins σ Q) X.xe s := fun rd =>
    repr_of_reads' rd s1 (fun _ => na) hg (by omega) (fun _ _ e => e) (fun h' u tk k => leaf k) hz
  cases rd with
  | none =>
    simp only [PyData.shown] at leaf
    exact PySem.P.repr_of_none (leaf fun _ _ e => e)
  | bool b =>
    simp only [PyData.shown] at leaf
    exact PySem.P.repr_of_bool (leaf fun _ _ e => e)
  | int i t =>
    simp only [PyData.shown] at leaf
    exact PySem.P.repr_of_int (by simpa only [PyData.showable, decide_eq_true_eq] using s1) (leaf fun _ _ e => e)
  | str x t =>
    simp only [PyData.shown] at leaf hz
    exact PySem.P.repr_of_str (leaf fun _ _ e => e) hz
  | list a b c e => exact big (.list a b c e)
  | tuple a b c e => exact big (.tuple a b c e)
  | dict a b c e f => exact big (.dict a b c e f)
/-! ### lists, dicts that are locked at once -/
def tLstZ (t : TA) : TE := fun σ H Q => t σ H fun xs H1 => xs.length ≤ sizeLine ∧ ∀ p o, H1 p = none → p ≠ sysModules → Q (.ref p) (upd H1 p (.frz o (.lst xs)))
def tLstN (t : TA) : TE := fun σ H Q => t σ H fun xs H1 => xs.length ≤ sizeLine ∧ ∀ p, H1 p = none → p ≠ sysModules → Q (.ref p) (upd H1 p (.lst xs))
theorem pe_lstZ {es : List Expr} {t : TA} {pos : Pos} (h : PA X es t) : PE X (.List es pos) (tLstZ t) := by
  refine ⟨fun pins s σ H Q I hq => ?_⟩
  refine wpAny_List_spliced (thn (h.run pos pins s σ H _ I hq) fun us s1 ⟨xs, H1, I1, r, z, q⟩ => ⟨by rw [← r.length]; exact z, ?_⟩)
  have hf : H1 s1.heap.objs.size = none := I1.hok.fresh (Nat.le_refl _)
  have e : (s1.heap.push { cls := .type "list", data := .seq us.toArray }).get? s1.heap.objs.size = some { cls := .type "list", data := .seq us.toArray } := Heap.get?_push_size _ rfl
  exact ⟨.ref s1.heap.objs.size, upd H1 s1.heap.objs.size (.frz { cls := .type "list", data := .seq us.toArray } (.lst xs)), I1.laid (t' := s1.toks) (fun b u e => Heap.get?_push_of_some _ e) (Nat.le_refl _) ⟨e, z, us, 0, r, e⟩, rfl, q _ _ hf (Nat.ne_of_gt I1.big)⟩
theorem pe_lstN {es : List Expr} {t : TA} {pos : Pos} (h : PA X es t) : PE X (.List es pos) (tLstN t) := by
  refine ⟨fun pins s σ H Q I hq => ?_⟩
  refine wpAny_List_spliced (thn (h.run pos pins s σ H _ I hq) fun us s1 ⟨xs, H1, I1, r, z, q⟩ => ⟨by rw [← r.length]; exact z, ?_⟩)
  have hf : H1 s1.heap.objs.size = none := I1.hok.fresh (Nat.le_refl _)
  exact ⟨.ref s1.heap.objs.size, upd H1 s1.heap.objs.size (.lst xs), I1.laid (t' := s1.toks) (fun b u e => Heap.get?_push_of_some _ e) (Nat.le_refl _) ⟨z, us, 0, r, Heap.get?_push_size _ rfl⟩, rfl, q _ hf (Nat.ne_of_gt I1.big)⟩
/-- an expression that gives a new dict: it is locked -/
def tDz (t : TE) : TE := fun σ H Q => t σ H fun v H1 => ∃ a kvs, v = .ref a ∧ H1 a = some (.dK kvs) ∧ ∀ o, Q (.ref a) (upd H1 a (.frz o (.dK kvs)))
theorem pe_dz {e : Expr} {t : TE} (h : PE X e t) : PE X e (tDz t) := by
  refine ⟨fun pins s σ H Q I hq => thn (h.run pins s σ H _ I hq) fun u s1 ⟨v, H1, I1, r, a, kvs, ev, ha, q⟩ => ?_⟩
  subst ev
  obtain ⟨z, hd, vs, kv, o, es, ep, ho, rest⟩ := dk_of I1.hok ha
  refine ⟨.ref a, upd H1 a (.frz o (.dK kvs)), ?_, r, q o⟩
  exact I1.write (t' := s1.toks) (h' := s1.heap) (by rw [ha]; exact True.intro) (.inl rfl) (fun b u _ e => e) ⟨o, ho⟩ ⟨ho, z, hd, vs, kv, o, es, ep, ho, rest⟩
/-- list(tuple), locked -/
def rListZ (K : PySem.W.Frag) : List V → Hp → VK → Prop := fun xs H Q => ∃ p ys, xs = [.ref p] ∧ SqT K H p ys ∧ ∀ l o, H l = none → l ≠ sysModules → Q (.ref l) (upd H l (.frz o (.lst ys)))
theorem call_listZ : CallR X (.type "list") (rListZ X.K) := by
  intro pins s σ H xs us Q I r h
  obtain ⟨p, ys, rfl, hq, q⟩ := h
  obtain ⟨u, rfl, rx⟩ := vals1 r
  cases rx
  obtain ⟨its, r', pl, hz⟩ := I.tuple hq
  have hlen := r'.length
  obtain ⟨o, ho, hc, n, hd⟩ := pl
  exact call_list_seq p (.inr rfl) ho hc hd (fun h' c' kp e => ⟨.ref s.heap.objs.size, _, I.laid (t' := s.toks) (o := .frz _ (.lst ys)) kp (Nat.le_refl _) ⟨e, hz, its, c', r', e⟩, rfl, q _ _ (I.hok.fresh (Nat.le_refl _)) (Nat.ne_of_gt I.big)⟩) (by simp only [List.size_toArray] <;> omega)
end
end Cn

namespace HT
open PySem PySem.Spec PyProof.Rows
section
variable {prog : Program} {w : World} {A : Around} {E : Value → Shared → Prop} {s : Shared}
theorem places_back (n : Nat) : Builtin.Slice.slicePlaces ((n : Int) - 1) (-1) (-1) = n := by
  unfold Builtin.Slice.slicePlaces
  have h1 : ¬ ((-1 : Int) > 0) := by omega
  simp only [h1, if_false]
  split
  · simp
  · omega
theorem adjust_back (n : Nat) : Builtin.Slice.sliceAdjust none none (-1) (n : Int) = ((n : Int) - 1, -1) := by
  unfold Builtin.Slice.sliceAdjust
  simp
theorem sliceApplied_back {sl : Addr} {vl vu vs : Value} {n : Nat} {Q : Int × Int × Nat → Shared → Prop} (hs : s.heap.IsSliceOf sl vl vu vs) (pl : IsPart vl none) (pu : IsPart vu none) (ps : IsPart vs (some (-1)))
    (h : Q ((n : Int) - 1, -1, n) s) : wpAny (model prog w) A (Builtin.Slice.sliceApplied (.ref sl) (pure (n : Int))) Q E s := by
  obtain ⟨os, hos, hcs, hds⟩ := id hs
  unfold Builtin.Slice.sliceApplied Builtin.Slice.sliceFields
  refine wpAny_bind (wpAny_bind (wpAny_field hos hds (x := vl) rfl (wpAny_bind (wpAny_field hos hds (x := vu) rfl (wpAny_bind (wpAny_field hos hds (x := vs) rfl (wpAny_pure ?_)))))))
  refine wpAny_bind (slicePart_ ps ?_)
  show wpAny _ _ (if ((-1 : Int) == 0) = true then _ else _) _ _ s
  rw [if_neg (by decide)]
  refine wpAny_bind (slicePart_ pl (wpAny_bind (slicePart_ pu (wpAny_bind (wpAny_pure ?_)))))
  show wpAny _ _ (match Builtin.Slice.sliceAdjust none none (-1) (n : Int) with | (lo, hi) => pure (lo, (-1 : Int), Builtin.Slice.slicePlaces lo hi (-1))) _ _ s
  rw [adjust_back n]
  show wpAny _ _ (pure ((n : Int) - 1, (-1 : Int), Builtin.Slice.slicePlaces ((n : Int) - 1) (-1) (-1))) _ _ s
  rw [places_back]
  exact wpAny_pure h
theorem fm_congr {α β : Type} {f g : α → Option β} : ∀ l : List α, (∀ x ∈ l, f x = g x) → l.filterMap f = l.filterMap g
  | [], _ => rfl
  | x :: l, h => by
    rw [List.filterMap_cons, List.filterMap_cons, h x (List.mem_cons_self ..), fm_congr l fun y hy => h y (List.mem_cons_of_mem _ hy)]
theorem pick_back (xs : Array Value) : ((List.range xs.size).filterMap fun (m : Nat) => xs[(((xs.size : Int) - 1) + (m : Int) * (-1)).toNat]?).toArray = xs.toList.reverse.toArray := by
  have h := PySem.W.krv_range xs.size
  have e : ((List.range xs.size).filterMap fun (m : Nat) => xs[(((xs.size : Int) - 1) + (m : Int) * (-1)).toNat]?) = (((List.range xs.size).map fun k => xs.size - 1 - k).filterMap (xs[·]?)) := by
    rw [List.filterMap_map]
    refine fm_congr _ fun m hm => ?_
    have : (((xs.size : Int) - 1) + (m : Int) * (-1)).toNat = xs.size - 1 - m := by omega
    rw [this]
    all_goals rfl
  rw [e, h, List.filterMap_reverse, PySem.W.krv_all]
theorem getItem_tuple_back {t sl : Addr} {items : Array Value} {vl vu vs : Value} {Q : Value → Shared → Prop} (ht : IsTup s.heap t items) (hs : s.heap.IsSliceOf sl vl vu vs) (pl : IsPart vl none) (pu : IsPart vu none) (ps : IsPart vs (some (-1)))
    (h : Q (.ref s.heap.objs.size) { s with heap := s.heap.push { cls := .type "tuple", data := .seq items.toList.reverse.toArray } })
    (hsz : items.size ≤ sizeLine) : wpAny (model prog w) A (getItem (.ref t) (.ref sl)) Q E s := by
  have htake : sizeOk (.seq items.toList.reverse.toArray) := by
    show items.toList.reverse.toArray.size ≤ sizeLine
    rw [List.size_toArray, List.length_reverse, Array.length_toList]
    exact hsz
  obtain ⟨os, hos, hcs, hds⟩ := id hs
  have hTs : s.TypeIs (.ref sl) "slice" := ⟨os, hos, hcs⟩
  unfold getItem
  try with_reducible refine wpAny_holding ?_
  first | refine wpAny_bind (wpAny_pure ?_) | skip
  refine wpAny_bind (wpAny_sequenceKey ht.typeIs (by decide) ?_)
  refine wpAny_bind (wpAny_callSpecial?_slot (name := Str.ofString "__getitem__") ht.typeIs PyProof.Rows.slot_tuple_getitem
    (wpAny_call_entry PyProof.Rows.slot_tuple_getitem ht.typeIs entry_tuple_getitem ?_ (args_tuple_getitem _ _)))
  show wpAny _ _ (Builtin.Tuple.tupleItemsOf (.ref t) >>= _) _ _ s
  refine wpAny_bind (tupleItemsOf_ ht ?_)
  refine wpAny_bind (wpAny_typeOf hTs ?_)
  rw [if_pos (by decide)]
  refine wpAny_bind (sliceApplied_back hs pl pu ps ?_)
  show wpAny _ _ (if ((((items.size : Int) - 1)) == 0 && (-1 : Int) == 1 && items.size == items.size) = true then _ else _) _ _ s
  rw [if_neg (by simp), pick_back]
  first
    | exact wpAny_bind (m := Builtin.Tuple.tupleExact _) (wpAny_newObj_type (wpAny_pure ⟨_, rfl, wpAny_pure h⟩) htake)
    | exact wpAny_bind (m := Builtin.Tuple.tupleExact _) (wpAny_newObj_type (wpAny_bind (wpAny_pure (wpAny_pure ⟨_, rfl, wpAny_pure h⟩))) htake)
    | exact wpAny_bind (wpAny_bind (m := Builtin.Tuple.tupleExact _) (wpAny_newObj_type (wpAny_pure (wpAny_pure ⟨_, rfl, wpAny_pure h⟩)) htake))
    | exact wpAny_bind (wpAny_bind (m := Builtin.Tuple.tupleExact _) (wpAny_newObj_type (wpAny_pure ⟨_, rfl, wpAny_pure h⟩) htake))
end
end HT
namespace Cn
open PySem PySem.Spec PyProof.Rows L2 Evl
section
variable {X : Cx}
/-- t[::-1] -/
def tRevT (K : PySem.W.Frag) (te : TE) : TE := fun σ H Q => te σ H fun x H1 => ∃ a xs, x = .ref a ∧ SqT K H1 a xs ∧ ∀ p, H1 p = none → Q (.ref p) (upd H1 p (.tup xs.reverse))
theorem vals_rev : ∀ {xs : List V} {us : List Value}, Vals xs us → Vals xs.reverse us.reverse
  | _, _, .nil => .nil
  | _, _, .cons r t => by
    rw [List.reverse_cons, List.reverse_cons]
    exact Vals.append (vals_rev t) (.cons r .nil)
theorem pe_revT {e : Expr} {te : TE} {k : Nat} {p1 p2 p3 pos : Pos} (he : PE X e te) : PE X (.Subscript e (.Slice none none (some (.UnaryOp .USub (.Constant (.int 1) k p1) p2)) p3) pos) (tRevT X.K te) := by
  refine ⟨fun pins s σ H Q I h => ?_⟩
  refine Subscript_ (thn (he.run pins s σ H _ I h) fun v s1 ⟨x, H1, I1, r1, q1⟩ => ?_)
  obtain ⟨a, xs, ex, hx, q⟩ := q1
  subst ex
  cases r1
  have hst : PO X (some (.UnaryOp .USub (.Constant (.int 1) k p1) p2)) (tPart (tUn (rU fun i => .int (-i)) (tC (.int 1)))) := po_some (pe_un un_neg pe_int)
  refine wpAny_Slice (thn (po_none.run pins s1 σ H1 (fun o H2 => o = none ∧ H2 = H1) I1 ⟨rfl, rfl⟩) fun vl s2 ⟨l, H2, I2, pl, el, e2⟩ => ?_)
  subst el e2
  refine thn (po_none.run pins s2 σ H2 (fun o H3 => o = none ∧ H3 = H2) I2 ⟨rfl, rfl⟩) fun vu s3 ⟨u, H3, I3, pu, eu, e3⟩ => ?_
  subst eu e3
  refine thn (hst.run pins s3 σ H3 (fun o H4 => o = some (-1) ∧ H4 = H3) I3 ⟨1, rfl, -1, rfl, rfl, rfl⟩) fun vs s4 ⟨o, H4, I4, ps, eo, e4⟩ => ?_
  subst eo e4
  have I5 : Inv X pins σ H4 { s4 with heap := s4.heap.push { cls := .type "slice", data := .fields #[vl, vu, vs] } } := I4.kept (t' := s4.toks) fun b ob q => Heap.get?_push_of_some _ q
  obtain ⟨its, r, ht, hz⟩ := I5.tuple hx
  have hlen := r.length
  show wpAny (model X.prog X.w) X.A (subscriptTail e (.Slice none none (some (.UnaryOp .USub (.Constant (.int 1) k p1) p2)) p3) (.ref a) (.ref s4.heap.objs.size)) (EP X pins σ Q) X.xe { s4 with heap := s4.heap.push { cls := .type "slice", data := .fields #[vl, vu, vs] } }
  refine tail_any (ops := [.ref a, .ref s4.heap.objs.size]) ht.typeIs (PyProof.Rows.slot_tuple_getitem.lookup) ?_ (by with_unfolding_all rfl)
  refine HT.getItem_tuple_back ht (Heap.IsSliceOf.new _ vl vu vs) pl pu ps ?_ (by rw [List.size_toArray]; omega)
  refine ⟨.ref _, _, I5.laid (t' := s4.toks) (o := .tup xs.reverse) (fun b ob q => Heap.get?_push_of_some _ q) (Nat.le_refl _) ?_, rfl, q _ (I5.hok.fresh (Nat.le_refl _))⟩
  exact ⟨by rw [List.length_reverse]; exact hz, its.reverse, vals_rev r, ⟨_, Heap.get?_push_size _ rfl, rfl, _, rfl⟩⟩
/-- str(int), str(bool) -/
def rStrV : List V → Hp → VK → Prop := fun xs H Q => (∃ i, xs = [.int i] ∧ i.natAbs.log2 < 1920 ∧ Q (.str (toString i)) H) ∨ ∃ b, xs = [.bl b] ∧ Q (.str (if b then "True" else "False")) H
theorem call_strV : CallR X (.type "str") rStrV := by
  intro pins s σ H xs us Q I r h
  rcases h with ⟨i, rfl, hz, q⟩ | ⟨b, rfl, q⟩
  · obtain ⟨u, rfl, t, rfl⟩ := vals1 r
    exact PySem.P.str_of_int hz ⟨.str _, H, I.tok _, ⟨_, rfl⟩, q⟩
  · obtain ⟨u, rfl, ru⟩ := vals1 r
    cases ru
    exact PySem.P.str_of_bool ⟨.str _, H, I.tok _, ⟨_, rfl⟩, q⟩
end
end Cn

namespace Cn
open PySem PySem.Spec PyProof.Rows L2 Evl
/-! ### enumerate(tuple) -/
theorem meets_enum1 {v : Value} {o : Obj} {H : Heap → Prop} (B : Begins v o H) :
    Meets (Builtin.«enumerate.__new__» ⟨[.type "enumerate", v], []⟩) (fun _ R s => H s.heap ∧
      R (.ok (.ret (.ref (s.heap.push o).objs.size))) { s with heap := (s.heap.push o).push { cls := .type "enumerate", data := .fields #[.none, .bool false, .ref s.heap.objs.size, rawInt 0, .none, .none] } }) :=
  .of_wp fun prog w A R s h => by
    obtain ⟨hp, g, d, tk, os⟩ := s; obtain ⟨h1, h⟩ := h
    have hsub := sub_enumerate
    have q1 : ∀ {A' : Around} {E : Value → Shared → Prop} {Q : Value → Shared → Prop}, Q (.ref hp.objs.size) ⟨hp.push o, g, d, tk, os⟩ → wpAny (model prog w) A' (pyIter v) Q E ⟨hp, g, d, tk, os⟩ :=
      fun q => B.iter prog w _ _ ⟨hp, g, d, tk, os⟩ _ h1 q
    wp_walk using q1
    refine wpAny_stack_any fun st => wpAny_pure ?_
    split
    · rename_i c _ _ _ _ _
      cases (c == Value.type "enumerate")
      · wp_walk using q1
        exact ⟨_, rfl, h⟩
      · wp_walk using q1
        exact ⟨_, rfl, h⟩
    · wp_walk using q1
      exact ⟨_, rfl, h⟩
theorem call_enum_tuple {prog : Program} {w : World} {A : Around} {E : Value → Shared → Prop} {s : Shared} {t : Addr} {items : Array Value} {Q : Value → Shared → Prop} (hT : s.heap.IsTuple t items)
    (h : ∀ h', IsEnum h' (s.heap.objs.size + 1) s.heap.objs.size 0 .none → h'.IsTupleIter s.heap.objs.size t 0 → h'.objs.size = s.heap.objs.size + 2 →
      (∀ b o, s.heap.get? b = some o → h'.get? b = some o) → Q (.ref (s.heap.objs.size + 1)) { s with heap := h' }) :
    wpAny (model prog w) A (call (.type "enumerate") [.ref t]) Q E s := by
  refine callType_new F.called_enumerate (by decide) (F.typeCall_enumerate_1 _) (F.newCall_enumerate_1 _) (fun obj => F.args_object_init_2 obj _) F.entry_enumerate_new
    (meets_enum1 (begins_tuple t items)) ⟨hT, ?_⟩
  have hz : (s.heap.push { cls := .type "tuple_iterator", data := .fields #[.ref t, .int 0 0] }).objs.size = s.heap.objs.size + 1 := Heap.size_push ..
  show _ ∧ _
  rw [hz]
  have he : IsEnum ((s.heap.push { cls := .type "tuple_iterator", data := .fields #[.ref t, .int 0 0] }).push
      { cls := .type "enumerate", data := .fields #[.none, .bool false, .ref s.heap.objs.size, rawInt 0, .none, .none] }) (s.heap.objs.size + 1) s.heap.objs.size 0 .none := by
    have := Heap.get?_push_size (s.heap.push { cls := .type "tuple_iterator", data := .fields #[.ref t, .int 0 0] })
      (o := { cls := .type "enumerate", data := .fields #[.none, .bool false, .ref s.heap.objs.size, rawInt 0, .none, .none] }) rfl
    rw [hz] at this; exact this
  refine ⟨⟨_, he, rfl⟩, h _ he ⟨_, Heap.get?_push_of_some _ (Heap.get?_push_size _ rfl), rfl, rfl⟩ (by rw [Heap.size_push, hz]) fun b o x => Heap.get?_push_of_some _ (Heap.get?_push_of_some _ x)⟩
theorem enum_tuple_end {prog : Program} {w : World} {A : Around} {E : Value → Shared → Prop} {s : Shared} {e it l : Addr} {i : Nat} {items : Array Value} {old : Value} {Q : Option Value → Shared → Prop} (hh : A.handled = none)
    (he : IsEnum s.heap e it i old) (hit : s.heap.IsTupleIter it l i) (hl : s.heap.IsTuple l items) (hx : items[i]? = none)
    (hQ : ∀ h', Heap.ExtBut it s.heap h' → Q none { s with heap := h' }) : wpAny (model prog w) A (pyNext (.ref e)) Q E s := by
  have hT : s.TypeIs (.ref e) "enumerate" := ⟨_, he, rfl⟩
  unfold pyNext
  refine wpAny_bind (wpAny_attempt (wpAny_callSpecial?_slot (name := Str.ofString "__next__") hT F.slot_enumerate_next
    (wpAny_call_entry F.slot_enumerate_next hT F.entry_enumerate_next ?_ (F.args_enumerate_next_1 _))))
  show wpAny _ _ (field (.ref e) 2 >>= _) _ _ _
  refine wpAny_bind (wpAny_field he rfl (x := .ref it) rfl ?_)
  refine wpAny_bind (wpAny_nextOf_tuple_end hh hit hl hx fun h' x he' hx' => ?_)
  obtain ⟨o, ho, hc⟩ := hx'
  refine wpAny_bind (wpAny_isInstance (T := "StopIteration") (b := true) ⟨o, ho, hc⟩ isSubtype_stop ?_)
  exact wpAny_pure (hQ _ he')
def IteT (K : PySem.W.Frag) (a : Addr) : It :=
  ⟨fun i H => ∃ (xs : List V) (x : V), SqT K H a xs ∧ xs[i]? = some x, fun i H v H' => ∃ T x, v = .ref T ∧ H T = none ∧ H' = upd H T (.tup [.int (i : Nat), x]) ∧ ∀ xs, SqT K H a xs → xs[i]? = some x, fun i H => ∃ xs : List V, SqT K H a xs ∧ xs.length ≤ i⟩
theorem turn_enumT {P : Program} {w : World} {K : PySem.W.Frag} {elts : List Expr} {kk : Nat} {tpos : Pos} (a e it : Addr) :
    Turn P w K (.Tuple elts kk tpos) (IteT K a) [e, it] e (fun i h => (∃ old, IsEnum h e it ((i : Nat) : Int) old) ∧ h.IsTupleIter it a i ∧ e ≠ it ∧ a ≠ it ∧ a ≠ e) where
  mem := by simp
  obj := fun i h st b hb => by
    obtain ⟨⟨old, he⟩, ⟨o, ho, hc, hd⟩, _⟩ := st
    have e' : b = e ∨ b = it := by simpa using hb
    rcases e' with z | z
    · rw [z]; exact ⟨_, he, fun v q => nomatch q⟩
    · rw [z]; exact ⟨o, ho, fun v q => by rw [hd] at q; cases q⟩
  keep := fun i h h' st k => let ⟨⟨old, he⟩, hi, hne⟩ := st; ⟨⟨old, k e (by simp) _ he⟩, hi.at fun o q => k it (by simp) o q, hne⟩
  item := by
    intro X hP hw hK hc i pins s σ H E I hf st hg
    subst hP hw hK
    obtain ⟨⟨old, he⟩, hit, hne, ha1, ha2⟩ := st
    obtain ⟨xs, x, hq, hx⟩ := hg
    obtain ⟨its, rv, p, hz⟩ := I.tuple hq
    obtain ⟨u, hu, ru⟩ := rv.get hx
    have hel : e < s.heap.objs.size := Heap.lt_size he
    have hil : it < s.heap.objs.size := by obtain ⟨_, q, _⟩ := hit; exact Heap.lt_size q
    have hlt : i < its.toArray.size := by rw [List.size_toArray]; exact (List.getElem?_eq_some_iff.mp hu).1
    refine wpAny_pyNext_enum_itemC (Draws.tuple (A := X.A.in1) (show X.A.in1.handled = none from I.ok.hd hc) it a ha1 its.toArray) he ⟨hit, p⟩ hlt hne (by simp [hne]; exact fun z => ha2 z.symm) fun y h' tk hP ho hst hT hsz hk => ?_
    have ey : y = u := by
      have hP' : its.toArray[i]? = some y := hP
      rw [List.getElem?_toArray, hu] at hP'
      exact (Option.some.inj hP').symm
    subst ey
    refine ⟨_, rfl, wpAny_letOwnedTupleGo_enum (s := { s with heap := h', toks := tk + 1 }) ho fun h'' he' sb => ?_⟩
    have hT2 : h''.get? s.heap.objs.size = some { cls := .type "tuple", data := .seq #[.int i tk, y] } := (sb.2 _ (Nat.ne_of_gt hel)).trans hT
    have new : ObjOk X.prog X.w (upd H s.heap.objs.size (.tup [.int (i : Nat), x])) h'' s.heap.objs.size (.tup [.int (i : Nat), x]) :=
      ⟨by show 2 ≤ sizeLine; decide, [.int i tk, y], .cons ⟨_, rfl⟩ (.cons ru .nil), ⟨_, hT2, rfl, _, rfl⟩⟩
    have I1 : Inv X pins σ (upd H s.heap.objs.size (.tup [.int (i : Nat), x])) { s with heap := h'', toks := tk + 1 } :=
      I.turnedNew (ch := [e, it]) (fun b ob hb q => (sb.2 b (fun z => hb (by simp [z]))).trans (hk b ob (fun z => hb (by simp [z])) (fun z => hb (by simp [z])) q)) hf (Nat.le_refl _) new
    refine ⟨.ref s.heap.objs.size, _, I1, rfl, ⟨_, x, rfl, I.hok.fresh (Nat.le_refl _), rfl, fun ys hy => by rw [I.tuple_inj hy hq]; exact hx⟩, ⟨⟨y, ?_⟩, hst.1.at fun o q => (sb.2 it (Ne.symm hne)).trans q, hne, ha1, ha2⟩, fun b hb => ?_⟩
    · have e1 : ((i + 1 : Nat) : Int) = (i : Int) + 1 := by omega
      rw [e1]; exact he'
    · have hb' : b < s.heap.objs.size := by
        have e' : b = e ∨ b = it := by simpa using hb
        rcases e' with z | z
        · rw [z]; exact hel
        · rw [z]; exact hil
      rw [upd_ne (Nat.ne_of_lt hb')]
      exact (hf b hb).1
  done := by
    intro X hP hw hK hc i pins s σ H E I hf st hg
    subst hP hw hK
    obtain ⟨⟨old, he⟩, hit, hne, ha1, ha2⟩ := st
    obtain ⟨xs, hq, hx⟩ := hg
    obtain ⟨its, rv, p, hz⟩ := I.tuple hq
    obtain ⟨f0, f1, f2, f3, f4, f5⟩ := hf it (by simp)
    have hl := rv.length
    exact enum_tuple_end (I.ok.hd hc) he hit p (by simp; omega) fun h' eb => ⟨rfl, I.turned (t' := s.toks) (fun b o hb q => eb b o hb q) f0 f1 f3 f4 f5⟩
  self := fun A i s Q E st h => let ⟨⟨_, he⟩, _⟩ := st; wpAny_pyIter_enum he h
def iEnumT (K : PySem.W.Frag) (ta : TA) : TI := fun σ H R => ta σ H fun vs H1 => ∃ a xs, vs = [.ref a] ∧ SqT K H1 a xs ∧ R (IteT K a) H1
theorem pi_enumT {X : Cx} {e : Expr} {ta : TA} {p pos tpos : Pos} {elts : List Expr} {kk : Nat} (hg : Gl X "enumerate") (hm : X.mg "enumerate" = none) (ha : PA X [e] ta) (hs : starEach [e] X.env = [(false, eval e X.env)] := by rfl) :
    PI X (.Tuple elts kk tpos) (.Call (.Name "enumerate" p) [e] [] pos) (iEnumT X.K ta) := by
  refine ⟨fun pins s σ H R I h => ?_⟩
  refine Call_ (ld_blt I hg hm boot_enumerate (PyProof.Rows.callWith_type1 (thn (ha.run pos pins s σ H _ I h) fun us s1 ⟨vs, H1, I1, r1, q1⟩ => ?_) hs rfl))
  obtain ⟨a, xs, ex, hq, q⟩ := q1
  subst ex
  cases r1 with
  | cons r rr =>
    cases rr
    cases r
    obtain ⟨its, rv, p', hz⟩ := I1.tuple hq
    have hal : a < s1.heap.objs.size := p'.lt
    refine call_enum_tuple p' fun h' he hit hsz hk => wpAny_pyIter_enum he ?_
    have I2 : Inv X pins σ H1 { s1 with heap := h' } := I1.kept (t' := s1.toks) hk
    refine ⟨s1.heap.objs.size + 1, [s1.heap.objs.size + 1, s1.heap.objs.size], _, _, H1, rfl, I2, turn_enumT a (s1.heap.objs.size + 1) s1.heap.objs.size, ⟨⟨.none, he⟩, hit, Nat.succ_ne_self _, Nat.ne_of_lt hal, Nat.ne_of_lt (Nat.lt_succ_of_lt hal)⟩, fun b hb => ?_, q⟩
    have e' : b = s1.heap.objs.size + 1 ∨ b = s1.heap.objs.size := by simpa using hb
    have hle : s1.heap.objs.size ≤ b := by
      rcases e' with z | z
      · rw [z]; exact Nat.le_add_right _ _
      · rw [z]; exact Nat.le_refl _
    exact I1.fpOk hle (I1.hok.fresh hle)
theorem walk_enumT {K : PySem.W.Frag} {a : Addr} {xs : List V} : Walk (IteT K a) xs.length (fun H => SqT K H a xs) (YPair (fun i => some (.int (i : Nat))) (fun i => xs[i]?)) := by
  refine ⟨fun i _ hi q => ⟨xs, xs[i], q, by simp [hi]⟩, fun _ q => ⟨xs, q, Nat.le_refl _⟩, fun i H v H' _ q y => ?_⟩
  obtain ⟨T, x, h1, h2, h3, h4⟩ := y
  exact ⟨T, .int (i : Nat), x, h1, h2, h3, rfl, h4 xs q⟩
end Cn

namespace Cn
open PySem PySem.Spec PyProof.Rows L2 Evl
/-! ### rules that name K, and arithmetic of bools -/
section
variable {X : Cx} {K : PySem.W.Frag}
theorem pe_gi {x : Str} {pos : Pos} {i : Int} {t : Tok} (hg : Gl X x) (hm : X.mg x = some (.int i t)) (hd : (x == ("__debug__" : Str)) = false := by decide) : PE X (.Name x pos) (tC (.int i)) := pe_glob (v := .int i) hg hm ⟨t, rfl⟩ hd
theorem call_isiN (h : X.K = K) : CallR X (.builtin "isinstance") (rIsi K) := h ▸ call_isi
theorem call_listZK (h : X.K = K) : CallR X (.type "list") (rListZ K) := h ▸ call_listZ
theorem pe_revTK {e : Expr} {te : TE} {k : Nat} {p1 p2 p3 pos : Pos} (h : X.K = K) (he : PE X e te) : PE X (.Subscript e (.Slice none none (some (.UnaryOp .USub (.Constant (.int 1) k p1) p2)) p3) pos) (tRevT K te) := h ▸ pe_revT he
theorem pi_enumTK {e : Expr} {ta : TA} {p pos tpos : Pos} {elts : List Expr} {kk : Nat} (h : X.K = K) (hg : Gl X "enumerate") (hm : X.mg "enumerate" = none) (ha : PA X [e] ta) (hs : starEach [e] X.env = [(false, eval e X.env)] := by rfl) :
    PI X (.Tuple elts kk tpos) (.Call (.Name "enumerate" p) [e] [] pos) (iEnumT K ta) := h ▸ pi_enumT hg hm ha hs
/-- a tuple and the empty one -/
def rNe0 (K : PySem.W.Frag) (neg : Bool) : R2 := fun x y H Q => ∃ a b xs, x = .ref a ∧ y = .ref b ∧ SqT K H a xs ∧ SqT K H b [] ∧ Q (.bl (neg != xs.isEmpty)) H
theorem op_ne0 (h : X.K = K) (hu : X.A.units + 64 < cLine) : OpR X (compareOp .NotEq) (rNe0 K true) := by
  subst h
  intro pins s σ H x y v u Q I rx ry h
  obtain ⟨a, b, xs, rfl, rfl, ha, hb, q⟩ := h
  cases rx
  cases ry
  obtain ⟨its, rv, ta, _⟩ := I.tuple ha
  obtain ⟨its2, rv2, tb, _⟩ := I.tuple hb
  cases rv2
  have l := rv.length
  refine SeqAt.RcNeAt.tuples (e := fun _ => true) ta tb (by omega) (fun j h1 h2 => by simp at h2) X.prog X.w X.xe _ ⟨.bl _, H, I, ?_, q⟩
  show _ = _
  congr 1
  cases its <;> cases xs <;> simp_all
theorem op_eq0 (h : X.K = K) (hu : X.A.units + 64 < cLine) : OpR X (compareOp .Eq) (rNe0 K false) := by
  subst h
  intro pins s σ H x y v u Q I rx ry h
  obtain ⟨a, b, xs, rfl, rfl, ha, hb, q⟩ := h
  cases rx
  cases ry
  obtain ⟨its, rv, ta, _⟩ := I.tuple ha
  obtain ⟨its2, rv2, tb, _⟩ := I.tuple hb
  cases rv2
  have l := rv.length
  refine SeqAt.RcAt.tuples (e := fun _ => true) ta tb (by omega) (fun j h1 h2 => by simp at h2) X.prog X.w X.xe _ ⟨.bl _, H, I, ?_, q⟩
  show _ = _
  congr 1
  cases its <;> cases xs <;> simp_all
/-- an int or a bool, as a number -/
def nbV : V → Option Int
  | .int i => some i
  | .bl b => some (if b = true then 1 else 0)
  | _ => none
def rNb (f : Int → Int → Int) : R2 := fun x y H Q => ∃ i j, nbV x = some i ∧ nbV y = some j ∧ ((∃ k, x = .int k) ∨ ∃ k, y = .int k) ∧ Q (.int (f i j)) H
theorem op_addB : OpR X (binaryOp .Add) (rNb (· + ·)) := by
  intro pins s σ H x y v u Q I rx ry h
  obtain ⟨i, j, hx, hy, hor, q⟩ := h
  cases x <;> simp only [nbV, reduceCtorEq, Option.some.injEq] at hx <;> cases y <;> simp only [nbV, reduceCtorEq, Option.some.injEq] at hy <;> subst hx hy
  · cases rx; cases ry; simp at hor
  · cases rx; obtain ⟨t, rfl⟩ := ry
    exact PySem.IntBool.add_bool_int ⟨.int _, H, I.tok _, ⟨_, rfl⟩, q⟩
  · obtain ⟨t, rfl⟩ := rx; cases ry
    exact add_int_bool ⟨.int _, H, I.tok _, ⟨_, rfl⟩, q⟩
  · obtain ⟨t, rfl⟩ := rx; obtain ⟨t, rfl⟩ := ry
    exact add_int ⟨.int _, H, I.tok _, ⟨_, rfl⟩, q⟩
theorem op_subB : OpR X (binaryOp .Sub) (rNb (· - ·)) := by
  intro pins s σ H x y v u Q I rx ry h
  obtain ⟨i, j, hx, hy, hor, q⟩ := h
  cases x <;> simp only [nbV, reduceCtorEq, Option.some.injEq] at hx <;> cases y <;> simp only [nbV, reduceCtorEq, Option.some.injEq] at hy <;> subst hx hy
  · cases rx; cases ry; simp at hor
  · cases rx; obtain ⟨t, rfl⟩ := ry
    exact PySem.IntBool.sub_bool_int ⟨.int _, H, I.tok _, ⟨_, rfl⟩, q⟩
  · obtain ⟨t, rfl⟩ := rx; cases ry
    exact PySem.IntBool.sub_int_bool ⟨.int _, H, I.tok _, ⟨_, rfl⟩, q⟩
  · obtain ⟨t, rfl⟩ := rx; obtain ⟨t, rfl⟩ := ry
    exact sub_int ⟨.int _, H, I.tok _, ⟨_, rfl⟩, q⟩
end
/-! ### kinds -/
def tyN : PyData → String
  | .none => "NoneType"
  | .bool _ => "bool"
  | .int _ => "int"
  | .str _ => "str"
  | .list _ => "list"
  | .tuple _ => "tuple"
  | .dict _ => "dict"
def isI : PyData → Bool
  | .int _ => true
  | .bool _ => true
  | _ => false
def isB : PyData → Bool
  | .bool _ => true
  | _ => false
def isT : PyData → Bool
  | .tuple _ => true
  | _ => false
theorem kit_int (d : PyData) : kitB (tyN d) "int" = some (isI d) := by cases d <;> simp only [tyN, isI] <;> decide +kernel
theorem kit_bool (d : PyData) : kitB (tyN d) "bool" = some (isB d) := by cases d <;> simp only [tyN, isB] <;> decide +kernel
theorem kit_tuple (d : PyData) : kitB (tyN d) "tuple" = some (isT d) := by cases d <;> simp only [tyN, isT] <;> decide +kernel
theorem Tp.tyx {K : PySem.W.Frag} {H : Hp} {v : V} {d : PyData} (h : Tp H v d) : TyX K H v (.type (tyN d)) := by
  cases h with
  | non => exact .base .non
  | bl b => exact .base (.bl b)
  | int i => exact .base (.int i)
  | str x => exact .base (.str x)
  | tup h _ =>
    rcases h with h | ⟨o, h⟩
    · exact .base (.tup h)
    · exact .fTuple h
  | lst h _ _ => exact .base (.frz h)
  | dic h _ => exact .fDict h
def nbD : PyData → Int
  | .int i => i
  | .bool b => if b = true then 1 else 0
  | _ => 0
theorem Tp.nb {H : Hp} {v : V} {d : PyData} (h : Tp H v d) (i : isI d = true) : nbV v = some (nbD d) := by
  cases h <;> simp [isI] at i <;> rfl
section
variable {K : PySem.W.Frag} {σ : L2.St} {H H' : Hp} {ta tb te tc : TE} {v : V} {d e : PyData} {ds es : List PyData}
/-- isinstance(x, c) -/
theorem ev_isi {c : String} {b : PyData → Bool} (hk : ∀ d, kitB (tyN d) c = some (b d)) (h : EvD te σ H d) : Ev (tCB (rIsi K) (tCons te (tCons (tC (.ty c)) tNil))) σ H (.bl (b d)) := fun H1 e1 Q q =>
  h H1 e1 _ fun v H2 e2 t2 => ⟨v, .ty c, .type (tyN d), .type c, b d, rfl, .ty c, t2.tyx, kit_ty (hk d), q H2 e2⟩
/-- a name that holds data -/
theorem ed_var {i : Nat} (h : σ[i]? = some (some v)) (t : Tp H v d) : EvD (tVar i) σ H d := ed_val (ev_var h) t
theorem ed_non : EvD (tC .non) σ H .none := fun H1 _ Q q => q _ H1 (Ex.refl H1) .non
theorem ed_bl {b : Bool} : EvD (tC (.bl b)) σ H (.bool b) := fun H1 _ Q q => q _ H1 (Ex.refl H1) (.bl b)
theorem ed_i {i : Int} : EvD (tC (.int i)) σ H (.int i) := fun H1 _ Q q => q _ H1 (Ex.refl H1) (.int i)
theorem ed_str {x : Str} : EvD (tC (.str x)) σ H (.str x) := fun H1 _ Q q => q _ H1 (Ex.refl H1) (.str x)
theorem ed_bv {b : Bool} (h : Ev te σ H (.bl b)) : EvD te σ H (.bool b) := fun H1 e Q q => h H1 e Q fun H2 e2 => q _ H2 e2 (.bl b)
/-- [..] that is locked -/
theorem ed_lstZ {tr : TA} (h : EvAd tr σ H ds) (hl : ds.length ≤ 100000) : EvD (tLstZ tr) σ H (.list ds) := fun H1 e Q q =>
  h H1 e _ fun vs H2 e2 t2 => ⟨sz_of (by rw [t2.length]; exact hl), fun p o hp hn => q _ _ (e2.trans (Ex.new hp)) (.lst upd_same hn (t2.mono (Tk.ex (Ex.new hp))))⟩
theorem ed_d0 : EvD (tDz tDNewK) σ H (.dict []) := fun H1 e Q q p hp => ⟨p, [], rfl, upd_same, fun o => q _ _ (fun a u ha => by
  rw [upd_upd, upd_ne (ne_of_none ha hp)]
  exact ha) (.dic upd_same (.inl ⟨rfl, rfl⟩))⟩
theorem ed_d1 : EvD (tDz (tDisp [(tC (.str "a"), tC (.int 1))])) σ H (.dict [(.str "a", .int 1)]) := fun H1 e Q q p hp =>
  ⟨upd_same, [(.inr "a", .int 1)], rfl, by decide, p, _, rfl, upd_same, fun o => q _ _ (fun a u ha => by
    rw [upd_upd, upd_upd, upd_ne (ne_of_none ha hp)]
    exact ha) (.dic upd_same (.inr ⟨rfl, rfl⟩))⟩
/-- list(tuple) that is locked -/
theorem ed_listZ (h : EvD te σ H (.tuple ds)) : EvD (tCB (rListZ K) (tCons te tNil)) σ H (.list ds) := fun H1 e Q q =>
  h H1 e _ fun v H2 e2 t2 => by
    obtain ⟨a, xs, rfl, ha, hx⟩ := t2.tup_inv
    exact ⟨a, xs, rfl, sr ha, fun l o hl hn => q _ _ (e2.trans (Ex.new hl)) (.lst upd_same hn (hx.mono (Tk.ex (Ex.new hl))))⟩
theorem TpAll.drop : ∀ {xs : List V} {ds : List PyData} (n : Nat), TpAll H xs ds → TpAll H (xs.drop n) (ds.drop n)
  | _, _, 0, h => h
  | _, _, _ + 1, .nil => .nil
  | _, _, n + 1, .cons _ b => b.drop n
theorem TpAll.reverse : ∀ {xs : List V} {ds : List PyData}, TpAll H xs ds → TpAll H xs.reverse ds.reverse
  | _, _, .nil => .nil
  | _, _, .cons a b => by
    rw [List.reverse_cons, List.reverse_cons]
    exact (TpAll.reverse b).append (.cons a .nil)
def cutD (ds : List PyData) (lo hi : Option Int) : List PyData := (ds.drop (HT.sIx ds.length 0 lo)).take (HT.sIx ds.length ds.length hi - HT.sIx ds.length 0 lo)
theorem cutD_mem {lo hi : Option Int} {d : PyData} (h : d ∈ cutD ds lo hi) : d ∈ ds := List.mem_of_mem_drop (List.mem_of_mem_take h)
theorem cutD_wv {lo hi : Option Int} : wvAll (cutD ds lo hi) ≤ wvAll ds := Nat.le_trans (wvAll_take _ _) (wvAll_drop _ _)
/-- t[lo:hi] -/
theorem ed_cut {tl th : TO} {lo hi : Option Int} (h : EvD te σ H (.tuple ds)) (hl : EvO tl σ H lo) (hh : EvO th σ H hi) : EvD (tSl (rSlA K) te tl th) σ H (.tuple (cutD ds lo hi)) := fun H1 e1 Q q =>
  h H1 e1 _ fun v H2 e2 tv => hl H2 (e1.trans e2) _ fun H3 e3 => hh H3 ((e1.trans e2).trans e3) _ fun H4 e4 => by
    obtain ⟨a, xs, rfl, ha, hb⟩ := (tv.mono (Tk.ex (e3.trans e4))).tup_inv
    have le := hb.length
    have e24 : Ex H1 H4 := e2.trans (e3.trans e4)
    refine ⟨a, xs, rfl, sr ha, fun hw => ?_, fun _ p hp => ?_⟩
    · refine q _ H4 e24 (.tup ha ?_)
      rw [le] at hw
      unfold cutD
      rw [hw.1, hw.2]
      simpa using hb
    · refine q _ _ (e24.trans (Ex.new hp)) (.tup (.inl upd_same) ?_)
      unfold cutD cutV
      rw [le]
      exact ((hb.drop _).take _).mono (Tk.ex (Ex.new hp))
/-- t + u -/
theorem ed_cat (ha : EvD ta σ H (.tuple ds)) (hb : EvD tb σ H (.tuple es)) (few : ds.length + es.length ≤ 100000) : EvD (tOp (rCatA K) ta tb) σ H (.tuple (ds ++ es)) := fun H1 e1 Q q =>
  ha H1 e1 _ fun v H2 e2 tv => hb H2 (e1.trans e2) _ fun u H3 e3 tu => by
    obtain ⟨a, xs, rfl, ha, hx⟩ := (tv.mono (Tk.ex e3)).tup_inv
    obtain ⟨b, ys, rfl, hb, hy⟩ := tu.tup_inv
    have lx := hx.length
    have ly := hy.length
    have e23 : Ex H1 H3 := e2.trans e3
    refine ⟨a, b, xs, ys, rfl, rfl, sr ha, sr hb, sz_of (by omega), fun hn => ?_, fun _ hn => ?_, fun _ _ p hp => ?_⟩
    · subst hn
      cases hx
      exact q _ H3 e23 (.tup hb hy)
    · subst hn
      cases hy
      refine q _ H3 e23 (.tup ha ?_)
      rw [List.append_nil]
      exact hx
    · exact q _ _ (e23.trans (Ex.new hp)) (.tup (.inl upd_same) ((hx.append hy).mono (Tk.ex (Ex.new hp))))
theorem cat_val {u : V} {Q : VK} (tv : Tp H v (.tuple ds)) (tu : Tp H u (.tuple es)) (few : ds.length + es.length ≤ 100000) (q : ∀ z H', Ex H H' → Tp H' z (.tuple (ds ++ es)) → Q z H') : rCatA K v u H Q :=
  ed_cat (σ := []) (ta := tC v) (tb := tC u) (ed_val ev_c tv) (ed_val ev_c tu) few H (Ex.refl H) Q q
/-- t[::-1] -/
theorem ed_rev (h : EvD te σ H (.tuple ds)) : EvD (tRevT K te) σ H (.tuple ds.reverse) := fun H1 e Q q =>
  h H1 e _ fun v H2 e2 t2 => by
    obtain ⟨a, xs, rfl, ha, hx⟩ := t2.tup_inv
    exact ⟨a, xs, rfl, sr ha, fun p hp => q _ _ (e2.trans (Ex.new hp)) (.tup (.inl upd_same) (hx.reverse.mono (Tk.ex (Ex.new hp))))⟩
/-- t[i], [..][i] -/
theorem ed_ixT {i : Nat} (h : EvD te σ H (.tuple ds)) (hi : Ev ta σ H (.int i)) (hd : ds[i]? = some d) : EvD (tOp (rIxT K) te ta) σ H d := fun H1 e Q q =>
  h H1 e _ fun v H2 e2 t2 => hi H2 (e.trans e2) _ fun H3 e3 => by
    obtain ⟨a, xs, rfl, ha, hx⟩ := (t2.mono (Tk.ex e3)).tup_inv
    obtain ⟨x, h1, h2⟩ := hx.get hd
    exact ⟨a, xs, (i : Int), x, rfl, rfl, sr ha, atI_nat h1, q _ H3 (e2.trans e3) h2⟩
theorem ed_ixL {i : Nat} (h : EvLd te σ H ds) (hi : Ev ta σ H (.int i)) (hd : ds[i]? = some d) : EvD (tOp (rIxL K) te ta) σ H d := fun H1 e Q q =>
  h H1 e _ fun p xs H2 hp e2 h2 t2 => hi H2 (e.trans e2) _ fun H3 e3 => by
    obtain ⟨x, h3, h4⟩ := (t2.mono (Tk.ex e3)).get hd
    exact ⟨p, xs, (i : Int), x, rfl, rfl, sq_of (e3 p _ h2), atI_nat h3, q _ H3 (e2.trans e3) h4⟩
/-- x + y, x - y of ints and bools -/
theorem ed_nb {f : Int → Int → Int} (ha : EvD ta σ H d) (hb : EvD tb σ H e) (id : isI d = true) (ie : isI e = true) (hor : (∃ k, d = .int k) ∨ ∃ k, e = .int k) : EvD (tOp (rNb f) ta tb) σ H (.int (f (nbD d) (nbD e))) := fun H1 e1 Q q =>
  ha H1 e1 _ fun v H2 e2 tv => hb H2 (e1.trans e2) _ fun u H3 e3 tu => by
    refine ⟨_, _, tv.nb id, tu.nb ie, ?_, q _ H3 (e2.trans e3) (.int _)⟩
    rcases hor with ⟨k, rfl⟩ | ⟨k, rfl⟩
    · exact .inl ⟨k, tv.int_inv⟩
    · exact .inr ⟨k, tu.int_inv⟩
/-- str(int), str(bool) -/
def sxD : PyData → Str
  | .int i => toString i
  | .bool b => if b then "True" else "False"
  | _ => ""
theorem ed_strV (h : EvD te σ H d) (id : isI d = true) (hb : (nbD d).natAbs < 10 ^ 40) : EvD (tCB rStrV (tCons te tNil)) σ H (.str (sxD d)) := fun H1 e1 Q q =>
  h H1 e1 _ fun v H2 e2 tv => by
    cases tv <;> simp [isI] at id
    · exact .inr ⟨_, rfl, q _ H2 e2 (.str _)⟩
    · rename_i i
      refine .inl ⟨i, rfl, ?_, q _ H2 e2 (.str _)⟩
      have h1 : i.natAbs < 10 ^ 40 := hb
      have h2 : i.natAbs < 2 ^ 1920 := Nat.lt_of_lt_of_le h1 (by decide +kernel)
      by_cases h0 : i.natAbs = 0
      · rw [h0]; decide
      · exact (Nat.log2_lt h0).2 h2
/-- tuple != (), tuple == () -/
theorem ev_ne0 {neg : Bool} (ha : EvD ta σ H (.tuple ds)) (hb : EvD tb σ H (.tuple [])) : Ev (tOp (rNe0 K neg) ta tb) σ H (.bl (neg != ds.isEmpty)) := fun H1 e1 Q q =>
  ha H1 e1 _ fun v H2 e2 tv => hb H2 (e1.trans e2) _ fun u H3 e3 tu => by
    obtain ⟨a, xs, rfl, ha, hx⟩ := (tv.mono (Tk.ex e3)).tup_inv
    obtain ⟨b, ys, rfl, hb, hy⟩ := tu.tup_inv
    cases hy
    refine ⟨a, b, xs, rfl, rfl, sr ha, sr hb, ?_⟩
    have e : xs.isEmpty = ds.isEmpty := by
      have := hx.length
      cases xs <;> cases ds <;> simp_all
    rw [e]
    exact q H3 (e2.trans e3)
/-- len(tuple) -/
theorem ev_lenT (h : EvD te σ H (.tuple ds)) : Ev (tCB (rLen K) (tCons te tNil)) σ H (.int (ds.length : Int)) := fun H1 e Q q =>
  h H1 e _ fun v H2 e2 t2 => by
    obtain ⟨a, xs, rfl, ha, hx⟩ := t2.tup_inv
    refine ⟨a, xs, rfl, .inr (sr ha), ?_⟩
    rw [hx.length]
    exact q H2 e2
/-- repr(x) -/
theorem ev_reprV (h : EvD te σ H d) (sz : Sz (10 ^ 39 + 10) 1000000 50 d) : Ev (tCB rReprV (tCons te tNil)) σ H (.str d.shown) := fun H1 e1 Q q =>
  h H1 e1 _ fun v H2 e2 t2 => ⟨v, d, rfl, .inl t2, sz, q H2 e2⟩
/-- and, or, not of values -/
theorem ev_and {a b : Bool} (h1 : Ev ta σ H (.bl a)) (h2 : a = true → Ev tb σ H (.bl b)) : Ev (tAndV ta tb) σ H (.bl (a && b)) := fun H1 e Q q => h1 H1 e _ fun H2 e2 => by
  refine ⟨a, rfl, ?_⟩
  cases a with
  | true => exact h2 rfl H2 (e.trans e2) Q fun H3 e3 => q H3 (e2.trans e3)
  | false => exact q H2 e2
theorem ev_not {a : Bool} (h1 : Ev ta σ H (.bl a)) : Ev (tNotV ta) σ H (.bl (!a)) := fun H1 e Q q => h1 H1 e _ fun H2 e2 => ⟨a, rfl, q H2 e2⟩
theorem ev_chain {f g : Int → Int → Bool} {i j k : Int} (ha : Ev ta σ H (.int i)) (hb : Ev tb σ H (.int j)) (hc : Ev tc σ H (.int k)) : Ev (tChain (rI0 fun i j => .bl (f i j)) (rI0 fun i j => .bl (g i j)) ta tb tc) σ H (.bl (f i j && g j k)) := by
  intro H1 e Q q
  refine ha H1 e _ fun H2 e2 => hb H2 (e.trans e2) _ fun H3 e3 => ⟨i, j, rfl, rfl, f i j, rfl, ?_⟩
  have e123 := e2.trans e3
  cases hf : f i j with
  | true =>
    rw [hf] at q
    exact hc H3 (e.trans e123) _ fun H4 e4 => ⟨j, k, rfl, rfl, q H4 (e123.trans e4)⟩
  | false =>
    rw [hf] at q
    exact q H3 e123
/-- a call whose promise is a value of the arguments -/
theorem ev_callV {sp : Sp} {E : XK} {tr : TA} {z : V} (h : EvAd tr σ H ds) (hs : ∀ vs H1, Ex H H1 → TpAll H1 vs ds → ∀ Q : VK, (∀ H2, Ex H1 H2 → Q z H2) → ∀ E : XK, sp vs H1 Q E) : Ev (tCall sp [] E tr) σ H z := fun H1 e Q q =>
  h H1 e _ fun vs H2 e2 t2 => by
    show sp (vs ++ []) H2 Q E
    rw [List.append_nil]
    exact hs vs H2 (e.trans e2) t2 Q (fun H3 e3 => q H3 (e2.trans e3)) E
theorem ed_callV {sp : Sp} {E : XK} {tr : TA} (h : EvAd tr σ H ds) (hs : ∀ vs H1, Ex H H1 → TpAll H1 vs ds → ∀ Q : VK, (∀ z H2, Ex H1 H2 → Tp H2 z d → Q z H2) → ∀ E : XK, sp vs H1 Q E) : EvD (tCall sp [] E tr) σ H d := fun H1 e Q q =>
  h H1 e _ fun vs H2 e2 t2 => by
    show sp (vs ++ []) H2 Q E
    rw [List.append_nil]
    exact hs vs H2 (e.trans e2) t2 Q (fun z H3 e3 t3 => q z H3 (e2.trans e3) t3) E
end
end Cn

namespace Cn
open PySem PySem.Spec PyProof.Rows L2 Evl
/-! ### gardens and their errors, as functions of any value -/
def isN (d : PyData) : Bool := isI d && !isB d
def inI (lo hi : Int) : PyData → Bool
  | .int i => decide (lo ≤ i) && decide (i ≤ hi)
  | _ => false
def fromI (lo : Int) : PyData → Bool
  | .int i => decide (lo ≤ i)
  | _ => false
def tupN (n : Int) : PyData → Bool
  | .tuple ds => decide ((ds.length : Int) = n)
  | _ => false
def bedOk : PyData → Bool
  | .tuple [p, l] => inI (-1000000) 1000000 p && inI 1 1000000000 l
  | _ => false
def placeOf : PyData → Int
  | .tuple (.int p :: _) => p
  | _ => 0
def bedErr (i : Nat) : PyData := .tuple [.int i, .str "bed"]
def berr : Nat → Int → List PyData → PyData
  | _, _, [] => .none
  | i, b, d :: ds => if bedOk d = true ∧ b < placeOf d then berr (i + 1) (placeOf d) ds else bedErr i
def firstOf : PyData → PyData
  | .tuple (p :: _) => p
  | _ => .none
def gErr (x : Str) : PyData := .tuple [.none, .str x]
def gerr : PyData → PyData
  | .tuple [t, c, b] => if inI (-1000000) 1000000 t = true then if inI 1 1000000 c = true then match b with
      | .tuple ds => if ds.length ≤ 12 then berr 0 (-1000001) ds else gErr "beds"
      | _ => gErr "beds"
    else gErr "can" else gErr "tap"
  | _ => gErr "garden"
def isNone : PyData → Bool
  | .none => true
  | _ => false
theorem isN_int {d : PyData} (h : isN d = true) : ∃ i, d = .int i := by
  cases d <;> simp [isN, isI, isB] at h
  exact ⟨_, rfl⟩
theorem isT_inv {d : PyData} (h : isT d = true) : ∃ ds, d = .tuple ds := by
  cases d <;> simp [isT] at h
  exact ⟨_, rfl⟩
theorem inI_isN {lo hi : Int} {d : PyData} (h : isN d = false) : inI lo hi d = false := by
  cases d <;> simp_all [isN, isI, isB, inI]
theorem fromI_isN {lo : Int} {d : PyData} (h : isN d = false) : fromI lo d = false := by
  cases d <;> simp_all [isN, isI, isB, fromI]
theorem tupN_inv {n : Nat} {d : PyData} (h : tupN n d = true) : ∃ ds, d = .tuple ds ∧ ds.length = n := by
  cases d <;> simp [tupN] at h
  exact ⟨_, rfl, by omega⟩
theorem tup2 {d : PyData} (h : tupN 2 d = true) : ∃ p l, d = .tuple [p, l] := by
  obtain ⟨ds, rfl, h⟩ := tupN_inv (n := 2) h
  match ds, h with
  | [p, l], _ => exact ⟨p, l, rfl⟩
theorem tup3 {d : PyData} (h : tupN 3 d = true) : ∃ a b c, d = .tuple [a, b, c] := by
  obtain ⟨ds, rfl, h⟩ := tupN_inv (n := 3) h
  match ds, h with
  | [p, l, c], _ => exact ⟨p, l, c, rfl⟩
theorem tup3_no {d : PyData} (h : tupN 3 d = false) : gerr d = gErr "garden" := by
  unfold gerr
  split
  · simp [tupN] at h
  · rfl
theorem tup2_no {d : PyData} (h : tupN 2 d = false) : bedOk d = false := by
  unfold bedOk
  split
  · simp [tupN] at h
  · rfl
theorem inI_int {lo hi : Int} {d : PyData} (h : inI lo hi d = true) : ∃ i, d = .int i ∧ lo ≤ i ∧ i ≤ hi := by
  cases d <;> simp [inI] at h
  exact ⟨_, rfl, h⟩
theorem bedOk_inv {d : PyData} (h : bedOk d = true) : ∃ p l : Int, d = .tuple [.int p, .int l] ∧ -1000000 ≤ p ∧ p ≤ 1000000 ∧ 1 ≤ l ∧ l ≤ 1000000000 := by
  unfold bedOk at h
  split at h
  · rw [Bool.and_eq_true] at h
    obtain ⟨p, rfl, h1, h2⟩ := inI_int h.1
    obtain ⟨l, rfl, h3, h4⟩ := inI_int h.2
    exact ⟨p, l, rfl, h1, h2, h3, h4⟩
  · cases h
section
variable {t c b : PyData}
theorem gerr_tap (h : inI (-1000000) 1000000 t = false) : gerr (.tuple [t, c, b]) = gErr "tap" := by cases b <;> simp [gerr, h]
theorem gerr_can (h : inI (-1000000) 1000000 t = true) (h2 : inI 1 1000000 c = false) : gerr (.tuple [t, c, b]) = gErr "can" := by cases b <;> simp [gerr, h, h2]
theorem gerr_beds (h : inI (-1000000) 1000000 t = true) (h2 : inI 1 1000000 c = true) (h3 : isT b = false) : gerr (.tuple [t, c, b]) = gErr "beds" := by cases b <;> simp [isT] at h3 <;> simp [gerr, h, h2]
theorem gerr_many {ds : List PyData} (h : inI (-1000000) 1000000 t = true) (h2 : inI 1 1000000 c = true) (h3 : ¬ ds.length ≤ 12) : gerr (.tuple [t, c, .tuple ds]) = gErr "beds" := by simp only [gerr, h, h2, if_true, if_neg h3]
theorem gerr_ok {ds : List PyData} (h : inI (-1000000) 1000000 t = true) (h2 : inI 1 1000000 c = true) (h3 : ds.length ≤ 12) : gerr (.tuple [t, c, .tuple ds]) = berr 0 (-1000001) ds := by simp only [gerr, h, h2, if_true, if_pos h3]
end
/-- the place ahead of the k-th bed -/
def befP (ds : List PyData) : Nat → Int
  | 0 => -1000001
  | k + 1 => match ds[k]? with | some d => placeOf d | none => 0
/-- the first k beds are right -/
def Fine (ds : List PyData) (k : Nat) : Prop := berr 0 (-1000001) ds = berr k (befP ds k) (ds.drop k) ∧ ∀ j, j < k → ∃ d, ds[j]? = some d ∧ bedOk d = true
theorem fine_0 (ds : List PyData) : Fine ds 0 := ⟨rfl, fun j h => absurd h (Nat.not_lt_zero _)⟩
theorem Fine.bef {ds : List PyData} {k : Nat} (h : Fine ds k) : -1000001 ≤ befP ds k := by
  cases k with
  | zero => exact Int.le_refl _
  | succ k =>
    obtain ⟨d, e, hd⟩ := h.2 k (Nat.lt_succ_self k)
    obtain ⟨p, l, rfl, h1, _⟩ := bedOk_inv hd
    simp only [befP, e, placeOf]
    omega
theorem Fine.next {ds : List PyData} {k : Nat} {d : PyData} (h : Fine ds k) (hd : ds[k]? = some d) (ok : bedOk d = true) (lt : befP ds k < placeOf d) : Fine ds (k + 1) := by
  have hk : k < ds.length := (List.getElem?_eq_some_iff.mp hd).1
  have e : ds.drop k = d :: ds.drop (k + 1) := by
    rw [List.drop_eq_getElem_cons hk, (List.getElem?_eq_some_iff.mp hd).2]
  refine ⟨?_, fun j hj => ?_⟩
  · rw [h.1, e, berr, if_pos ⟨ok, lt⟩]
    simp only [befP, hd]
  · by_cases hjk : j = k
    · subst hjk
      exact ⟨d, hd, ok⟩
    · exact h.2 j (by omega)
theorem Fine.bad {ds : List PyData} {k : Nat} {d : PyData} (h : Fine ds k) (hd : ds[k]? = some d) (no : ¬ (bedOk d = true ∧ befP ds k < placeOf d)) : berr 0 (-1000001) ds = bedErr k := by
  have hk : k < ds.length := (List.getElem?_eq_some_iff.mp hd).1
  have e : ds.drop k = d :: ds.drop (k + 1) := by
    rw [List.drop_eq_getElem_cons hk, (List.getElem?_eq_some_iff.mp hd).2]
  rw [h.1, e, berr, if_neg no]
theorem Fine.last {ds : List PyData} {k : Nat} (h : Fine ds k) (hk : ds.length ≤ k) : berr 0 (-1000001) ds = .none := by
  rw [h.1, List.drop_eq_nil_iff.mpr hk, berr]
theorem isNone_gerr_val {v : V} {H : Hp} {d : PyData} (h : Tp H v d) : decide (v = .non) = isNone d := by
  cases h <;> simp [isNone]
theorem befP_at {ds : List PyData} {k : Nat} {d : PyData} (h : ds[k]? = some d) : befP ds (k + 1) = placeOf d := by
  simp only [befP, h]
end Cn

namespace Cn
open PySem PySem.Spec PyProof.Rows L2 Evl
section
variable {σ : L2.St} {H : Hp}
theorem ev_p6 : Ev (tOp (rI CPow fun i j => .int (i ^ j.toNat)) (tC (.int 10)) (tC (.int 6))) σ H (.int 1000000) := ev_is (ev_op ev_c ev_c (rv_I (by refine ⟨by decide, by decide, by decide⟩))) (by rw [pow6])
theorem ev_p9 : Ev (tOp (rI CPow fun i j => .int (i ^ j.toNat)) (tC (.int 10)) (tC (.int 9))) σ H (.int 1000000000) := ev_is (ev_op ev_c ev_c (rv_I (by refine ⟨by decide, by decide, by decide⟩))) (by rw [pow9])
theorem pow39 : (10 : Int) ^ (39 : Int).toNat = 1000000000000000000000000000000000000000 := by decide
theorem ev_p39 : Ev (tOp (rI CPow fun i j => .int (i ^ j.toNat)) (tC (.int 10)) (tC (.int 39))) σ H (.int 1000000000000000000000000000000000000000) := ev_is (ev_op ev_c ev_c (rv_I (by refine ⟨by decide, by decide, by decide⟩))) (by rw [pow39])
theorem ev_m6 : Ev (tUn (rU fun i => .int (-i)) (tOp (rI CPow fun i j => .int (i ^ j.toNat)) (tC (.int 10)) (tC (.int 6)))) σ H (.int (-1000000)) := ev_un ev_p6 ru_neg
theorem ev_m1 : Ev (tUn (rU fun i => .int (-i)) (tC (.int 1))) σ H (.int (-1)) := ev_un ev_c ru_neg
end
/-! ### values of other kinds that are drawn -/
def oddA : List PyData := [.none, .bool true, .bool false, .int (-1), .int 0, .int 1, .int 1000000, .int 1000001, .int 1000000000000000000000000000000000000000, .str "", .str "1", .tuple [], .list [], .dict [], .tuple [.int 0], .list [.int 1], .tuple [.bool true]]
def oddB : List PyData := [.tuple [.int 0, .int 1], .tuple [.tuple [.int 0, .int 1]], .tuple [.int 0, .int 1, .tuple []], .tuple [.tuple [.tuple [.int 0, .int 1]], .int 1], .tuple [.tuple []], .dict [(.str "a", .int 1)], .int (-1000000)]
def oddL : List PyData := oddA ++ oddB
theorem odd_sz : ∀ d ∈ oddL, Sz (10 ^ 39) 2000 3 d := by
  have h : oddL.all (fun d => okV (10 ^ 39) d && decide (wv d ≤ 2000) && decide (dv d ≤ 3)) = true := by decide +kernel
  intro d hd
  have := List.all_eq_true.mp h d hd
  simp only [Bool.and_eq_true, decide_eq_true_eq] at this
  exact ⟨this.1.1, this.1.2, this.2⟩
def spOdd : Sp := fun vs H Q _ => ∃ D C m, vs = [.ref D] ∧ Deck D C m H ∧ m ≤ 900000000 ∧ ∀ v d H', d ∈ oddL → Tp H' v d → Kp D C H H' → Deck D C (m + 1) H' → Q v H'
def spPart (n : Nat) : Sp := fun vs H Q _ => ∃ D C m v d, ∃ k B kk nn : Nat, vs = [.ref D, v, .int k] ∧ k ≤ n ∧ Deck D C m H ∧ m + 2 * k ≤ 800000000 ∧ Tp H v d ∧ 10 ^ 39 ≤ B ∧ B ≤ 10 ^ 39 + 5 ∧ Sz B kk nn d ∧ kk ≤ 100000 ∧
  ∀ v' d' H', Sz (B + 1) (2 * kk + 2000) (nn + 4) d' → Tp H' v' d' → Kp D C H H' → Deck D C (m + 2 * k + 3) H' → Q v' H'
/-! ### what a changed part may be -/
section
variable {B k n : Nat} {d : PyData} {ds : List PyData}
theorem okV_mono {B B' : Nat} (b : B ≤ B') {d : PyData} (h : okV B d = true) : okV B' d = true := (Sz.mono (k := wv d) (n := dv d) ⟨h, Nat.le_refl _, Nat.le_refl _⟩ b (Nat.le_refl _) (Nat.le_refl _)).ok
theorem reprDigits {i : Int} (h : i.natAbs < 10 ^ 40) : (reprText (toString i)).length ≤ 1000 := by
  have h1 := int_text_length_le10 (a := i) (k := 40) (by decide) h
  have h2 : ((Str.ofString (toString i))).length ≤ 42 := by rw [PySem.ofString_length]; omega
  have h3 := PySem.StrLaws.reprText_len (Str.ofString (toString i)) (fun c hc => by
    have hc' : c ∈ ((toString i).toList.map Char.toNat) := by
      rw [← signs_ofString]
      exact hc
    obtain ⟨ch, _, rfl⟩ := List.mem_map.mp hc'
    have := ch.valid
    have hlt : ch.toNat < 0x110000 := by
      rcases ch.valid with z | z
      · have : ch.toNat < 0xd800 := z
        omega
      · exact z.2
    exact Nat.lt_of_lt_of_le hlt (by decide))
  have h4 : (reprText (Str.ofString (toString i))).length ≤ 10 * 42 + 2 := Nat.le_trans h3 (by omega)
  exact Nat.le_trans h4 (by decide)
/-- the seven things that become of an int (or a bool) -/
def intVar (d : PyData) : List PyData := [.int (nbD d + 1), .int (nbD d - 1), .int (0 - nbD d), .bool (PyData.eqv d (.int 1)), .str (sxD d), .tuple [d], .int 0]
theorem okV_nb (h : okV B d = true) (i : isI d = true) (hB : 1 ≤ B) : (nbD d).natAbs ≤ B := by
  cases d <;> simp [isI] at i
  · rename_i b
    cases b <;> simp [nbD] <;> omega
  · simp only [okV, decide_eq_true_eq] at h
    exact h
theorem intVar_sz (h : Sz B k n d) (i : isI d = true) (b1 : 10 ^ 39 ≤ B) (b2 : B ≤ 10 ^ 39 + 5) : ∀ e ∈ intVar d, Sz (B + 1) (2 * k + 2000) (n + 4) e := by
  have hn := okV_nb h.ok i (Nat.le_trans (by decide) b1)
  have hp := h.p
  have hw := h.w
  have num : ∀ z : Int, z.natAbs ≤ B + 1 → Sz (B + 1) (2 * k + 2000) (n + 4) (.int z) := fun z hz => ⟨by simp only [okV, decide_eq_true_eq]; exact hz, by simp only [wv]; omega, by simp only [dv]; omega⟩
  intro e he
  simp only [intVar, List.mem_cons, List.not_mem_nil, or_false] at he
  rcases he with rfl | rfl | rfl | rfl | rfl | rfl | rfl
  · exact num _ (by omega)
  · exact num _ (by omega)
  · exact num _ (by omega)
  · exact ⟨rfl, by simp only [wv]; omega, by simp only [dv]; omega⟩
  · refine ⟨?_, by simp only [wv]; omega, by simp only [dv]; omega⟩
    simp only [okV, decide_eq_true_eq]
    cases d <;> simp [isI] at i
    · rename_i b
      cases b <;> simp only [sxD] <;> decide +kernel
    · refine reprDigits ?_
      have : (10 : Nat) ^ 40 = 10 * 10 ^ 39 := by decide
      simp only [nbD] at hn
      have : (1 : Nat) ≤ 10 ^ 39 := by decide
      omega
  · refine sz_tup (fun x hx => ?_) ?_ (fun x hx => ?_) (by omega)
    · rw [List.mem_singleton.mp hx]; exact okV_mono (by omega) h.ok
    · simp only [wvAll]; omega
    · rw [List.mem_singleton.mp hx]; omega
  · exact num 0 (by simp)
/-- the seven things that become of a tuple -/
def tupVar (ds : List PyData) : List PyData := [.tuple (cutD ds (some 1) none), .tuple (cutD ds none (some (-1))), .tuple (ds ++ cutD ds (some (-1)) none), .tuple ds.reverse, .list ds, .tuple (ds ++ [.int 0]), .tuple []]
theorem tupVar_sz (h : Sz B k n (.tuple ds)) : ∀ e ∈ tupVar ds, Sz (B + 1) (2 * k + 2000) (n + 4) e := by
  obtain ⟨ho, hw, hp, hn⟩ := h.items
  have ho' : ∀ d ∈ ds, okV (B + 1) d = true := fun d hd => okV_mono (by omega) (ho d hd)
  have cut : ∀ lo hi, Sz (B + 1) (2 * k + 2000) (n + 4) (.tuple (cutD ds lo hi)) := fun lo hi => by
    have := cutD_wv (ds := ds) (lo := lo) (hi := hi)
    exact sz_tup (fun d hd => ho' d (cutD_mem hd)) (by omega) (fun d hd => by have := hp d (cutD_mem hd); omega) (by omega)
  intro e he
  simp only [tupVar, List.mem_cons, List.not_mem_nil, or_false] at he
  rcases he with rfl | rfl | rfl | rfl | rfl | rfl | rfl
  · exact cut _ _
  · exact cut _ _
  · have := cutD_wv (ds := ds) (lo := some (-1)) (hi := none)
    refine sz_tup (fun d hd => ?_) (by rw [wvAll_append]; omega) (fun d hd => ?_) (by omega)
    · rcases List.mem_append.mp hd with z | z
      · exact ho' d z
      · exact ho' d (cutD_mem z)
    · rcases List.mem_append.mp hd with z | z
      · have := hp d z; omega
      · have := hp d (cutD_mem z); omega
  · exact sz_tup (fun d hd => ho' d (List.mem_reverse.mp hd)) (by rw [wvAll_reverse]; omega) (fun d hd => by have := hp d (List.mem_reverse.mp hd); omega) (by omega)
  · exact sz_lst ho' (by omega) (fun d hd => by have := hp d hd; omega) (by omega)
  · refine sz_tup (fun d hd => ?_) (by rw [wvAll_append]; simp only [wvAll, wv]; omega) (fun d hd => ?_) (by omega)
    · rcases List.mem_append.mp hd with z | z
      · exact ho' d z
      · rw [List.mem_singleton.mp z]; simp [okV]
    · rcases List.mem_append.mp hd with z | z
      · have := hp d z; omega
      · rw [List.mem_singleton.mp z]; simp only [dv]; omega
  · exact sz_tup (fun d hd => nomatch hd) (by simp [wvAll]) (fun d hd => nomatch hd) (by omega)
/-- a part of a part -/
theorem nest_sz {i : Nat} {x e : PyData} (h : Sz B k n (.tuple ds)) (hi : ds[i]? = some x) (he : Sz (B + 1) (2 * wv x + 2000) (dv x + 4) e) : Sz (B + 1) (2 * k + 2000) (n + 4) (.tuple ((cutD ds none (some (i : Int)) ++ [e]) ++ cutD ds (some ((i : Int) + 1)) none)) := by
  obtain ⟨ho, hw, hp, hn⟩ := h.items
  have hil : i < ds.length := (List.getElem?_eq_some_iff.mp hi).1
  have hx : x ∈ ds := List.mem_of_getElem? hi
  have e1 : cutD ds none (some (i : Int)) = ds.take i := by
    unfold cutD
    rw [HT.sIx_none, HT.sIx_nat, List.drop_zero, Nat.min_eq_left (by omega), Nat.sub_zero]
  have e2 : cutD ds (some ((i : Int) + 1)) none = ds.drop (i + 1) := by
    unfold cutD
    rw [HT.sIx_none, show ((i : Int) + 1) = ((i + 1 : Nat) : Int) by omega, HT.sIx_nat, Nat.min_eq_left (by omega)]
    exact List.take_of_length_le (by rw [List.length_drop]; omega)
  rw [e1, e2]
  have split : wvAll ds = wvAll (ds.take i) + ((wv x + 2) + wvAll (ds.drop (i + 1))) := by
    have e3 : ds = ds.take i ++ (x :: ds.drop (i + 1)) := by
      have := List.take_append_drop i ds
      rw [List.drop_eq_getElem_cons hil, (List.getElem?_eq_some_iff.mp hi).2] at this
      exact this.symm
    have e4 := congrArg wvAll e3
    rw [wvAll_append] at e4
    simpa only [wvAll] using e4
  have hex := he.w
  have hep := he.p
  have hxp := hp x hx
  refine sz_tup (fun d hd => ?_) ?_ (fun d hd => ?_) (by omega)
  · rcases List.mem_append.mp hd with z | z
    · rcases List.mem_append.mp z with z | z
      · exact okV_mono (by omega) (ho d (List.mem_of_mem_take z))
      · rw [List.mem_singleton.mp z]; exact he.ok
    · exact okV_mono (by omega) (ho d (List.mem_of_mem_drop z))
  · rw [wvAll_append, wvAll_append]
    simp only [wvAll]
    omega
  · rcases List.mem_append.mp hd with z | z
    · rcases List.mem_append.mp z with z | z
      · have := hp d (List.mem_of_mem_take z); omega
      · rw [List.mem_singleton.mp z]; omega
    · have := hp d (List.mem_of_mem_drop z); omega
end
end Cn

namespace Cn
open PySem PySem.Spec PyProof.Rows L2 Evl
section
variable {K : PySem.W.Frag} {σ : L2.St} {H H' : Hp} {ta tb te tc : TE} {v : V} {d e : PyData} {ds es : List PyData}
/-- [.. for k in range(lo, hi)] -/
theorem eld_range2 {ta : TA} {j : Nat} {vs : List Nat} {lo hi : Int} {n : Nat} (h : EvA ta σ H [.int lo, .int hi]) (hn : hi - lo = n) (l0 : -100000 ≤ lo) (l1 : hi ≤ 100000) (few : n ≤ 50000) (dd : Nat → PyData) (hw : ∀ x, wipe ((wipe σ vs).set j (some x)) vs = wipe σ vs)
    (he : ∀ i : Nat, i < n → EvD te ((wipe σ vs).set j (some (.int (lo + (i : Int))))) H (dd i)) : EvLd (tLc (iRng2 ta) (gName j) tYes te vs) σ H ((List.range n).map dd) := fun H0 e0 Q q => h H0 e0 _ fun H1 e1 => by
  refine ⟨lo, hi, rfl, by omega, ?_⟩
  have eN : (hi - lo).toNat = n := by omega
  rw [eN]
  refine lc_pure (walk_range (lo := lo) (n := n)) few (fun _ => true) dd (fun _ _ => trivial) ?_ ?_
  · rintro i x H2 _ hi e2 ⟨rfl, rfl⟩
    exact ⟨Ex.refl _, _, fun R r => r, hw _, et_yes, fun _ => (he i hi).mono ((e0.trans e1).trans e2)⟩
  · intro p xs H2 hp e2 h2 t2
    have : givD n (fun _ => true) dd = (List.range n).map dd := by
      unfold givD
      rw [List.filter_eq_self.mpr (fun _ _ => rfl)]
    rw [this] at t2
    exact q p xs H2 (fresh_back e1 hp) (e1.trans e2) h2 t2
theorem q_parD {D : Ends} {tz : TS} {i j : Nat} {tr : TA} (h : EvAd tr σ H [d, e]) (k : ∀ v w H1, Ex H H1 → Tp H1 v d → Tp H1 w e → tz D ((σ.set i (some v)).set j (some w)) H1) : tSeq (tPar i j tr) tz D σ H := h H (Ex.refl H) _ fun vs H1 e1 t1 => by
  cases t1 with
  | cons a b =>
    cases b with
    | cons b c =>
      cases c
      exact ⟨_, _, rfl, k _ _ H1 e1 a b⟩
theorem ed_three {x y z : PyData} (ha : EvD ta σ H x) (hb : EvD tb σ H y) (hc : EvD tc σ H z) : EvD (tTup (tCons ta (tCons tb (tCons tc tNil)))) σ H (.tuple [x, y, z]) := ed_tup (ead_cons ha (ead_cons hb (ead_cons hc ead_nil))) (by simp)
theorem ed_two {x y : PyData} (ha : EvD ta σ H x) (hb : EvD tb σ H y) : EvD (tTup (tCons ta (tCons tb tNil))) σ H (.tuple [x, y]) := ed_tup (ead_cons ha (ead_cons hb ead_nil)) (by simp)
theorem ed_one {x : PyData} (ha : EvD ta σ H x) : EvD (tTup (tCons ta tNil)) σ H (.tuple [x]) := ed_tup (ead_cons ha ead_nil) (by simp)
theorem q_asgLd' {D : Ends} {tz : TS} {i : Nat} (h : EvLd te σ H ds) (k : ∀ p xs H1, H p = none → Ex H H1 → H1 p = some (.lst xs) → TpAll H1 xs ds → tz D (σ.set i (some (.ref p))) H1) : tSeq (tAsg te (gName i)) tz D σ H := h H (Ex.refl H) _ k
theorem s_forS {D : Ends} {g : TG} {tl : TE} {tu : TS} (P : Addr → List V → Hp → Prop) (src : ∀ Q : VK, (∀ p xs H', P p xs H' → Q (.ref p) H') → tl σ H Q) (hP : ∀ p xs H', P p xs H' → SqL K H' p xs) (Pv : Addr → List V → Nat → L2.St → Hp → Prop)
    (h0 : ∀ p xs H', P p xs H' → Pv p xs 0 σ H') (hl : ∀ p xs i σ' H', i ≤ xs.length → Pv p xs i σ' H' → SqL K H' p xs)
    (hs : ∀ p xs i x σ' H', xs[i]? = some x → Pv p xs i σ' H' → g x σ' H' fun σ2 H2 => tu { D with nx := Pv p xs (i + 1), ct := Pv p xs (i + 1), bk := D.nx } σ2 H2) (hd : ∀ p xs σ' H', Pv p xs xs.length σ' H' → D.nx σ' H') : tFor (iList K tl) g tu D σ H :=
  src _ fun p xs H1 h => ⟨p, rfl, ⟨xs, hP p xs H1 h⟩, for_list (D := D) (Pv p xs) (h0 p xs H1 h) (hl p xs) (hs p xs) (hd p xs)⟩
theorem ed_sv {x : Str} (h : Ev te σ H (.str x)) : EvD te σ H (.str x) := fun H1 e Q q => h H1 e Q fun H2 e2 => q _ H2 e2 (.str x)
theorem Tp.str_inv {x : Str} (h : Tp H v (.str x)) : v = .str x := by cases h; rfl
def pickD (b : Bool) (x y : PyData) : PyData := if b = true then y else x
/-- [x, y][int(test)] -/
theorem ed_pick {b : Bool} {x y : PyData} (h : EvLd te σ H [x, y]) (hi : Ev ta σ H (.int (if b then 1 else 0))) : EvD (tOp (rIxL K) te ta) σ H (pickD b x y) := by
  cases b with
  | true => exact ed_ixL (i := 1) h hi rfl
  | false => exact ed_ixL (i := 0) h hi rfl
/-- int(bool) -/
theorem ev_intB {b : Bool} (h : Ev te σ H (.bl b)) : Ev (tCB (fun xs H Q => (∃ i, xs = [V.int i] ∧ Q (.int i) H) ∨ ∃ k, xs = [V.bl k] ∧ Q (.int (if k then 1 else 0)) H) (tCons te tNil)) σ H (.int (if b then 1 else 0)) := fun H1 e Q q =>
  h H1 e _ fun H2 e2 => .inr ⟨b, rfl, q H2 e2⟩
/-- found.append(data) -/
theorem q_appD {D : Ends} {tz : TS} {l : Addr} {xs : List V} (hl : H l = some (.lst xs)) (ha : Ev ta σ H (.ref l)) (h : EvD te σ H d) (hz : xs.length < 100000) (k : ∀ v H1, Ex H H1 → Tp H1 v d → tz D σ (upd H1 l (.lst (xs ++ [v])))) :
    tSeq (tDrop (tBM K "list" rAppend ta (tCons te tNil))) tz D σ H := ha H (Ex.refl H) _ fun H1 e1 =>
  ⟨Or.inl ⟨rfl, xs, sq_of (e1 l _ hl)⟩, h H1 e1 _ fun v H2 e2 t2 => ⟨l, xs, v, rfl, rfl, e2 l _ (e1 l _ hl), sz_lt hz, k v H2 (e1.trans e2) t2⟩⟩
end
/-! ### edges -/
def manyL : List PyData := (List.range 13).map fun (k : Nat) => .tuple [.int (-6 + (k : Int)), .int 1]
def pr (a b : Int) : PyData := .tuple [.int a, .int b]
def g3 (a b c : PyData) : PyData := .tuple [a, b, c]
section
variable (t c : Int) (bs : List Bed)
def edgA : List PyData := [g3 (.int 1000000) (.int 1000000) (bedsD bs), g3 (.int (0 - 1000000)) (.int 1) (bedsD bs), g3 (.int (1000000 + 1)) (.int c) (bedsD bs), g3 (.int (0 - 1000000 - 1)) (.int c) (bedsD bs), g3 (.int t) (.int (1000000 + 1)) (bedsD bs)]
def edgB : List PyData := [g3 (.int t) (.int 0) (bedsD bs), g3 (.int t) (.int c) (.tuple (cutD manyL none (some 12))), g3 (.int t) (.int c) (.tuple manyL), g3 (.int t) (.int c) (.tuple (cutD manyL none (some 12)).reverse)]
def edgC : List PyData := [g3 (.int t) (.int c) (.tuple [pr (0 - 1000000) 1000000000, pr 1000000 1]), g3 (.int t) (.int c) (.tuple [pr (0 - 1000000 - 1) 1])]
def edgD : PyData := g3 (.int t) (.int c) (.tuple [pr (1000000 + 1) 1])
def edgE : List PyData := [g3 (.int t) (.int c) (.tuple [pr 0 (1000000000 + 1)]), g3 (.int t) (.int c) (.tuple [pr 0 0]), g3 (.int t) (.int c) (.tuple [pr 3 1, pr 3 2])]
def edgF : PyData := g3 (.int c) (.int t) (bedsD bs)
def edgG : List PyData := [g3 .none .none .none, g3 (.int t) .none .none, g3 (.int t) (.int c) (.tuple [.none, pr 0 0])]
def edgH : List PyData := [g3 (.int t) (.int c) (.tuple [pr 5 1, .none]), g3 (.int t) (.int c) (.tuple [pr 5 1, pr 4 0])]
def edgesD : List PyData := (((((edgA t c bs ++ edgB t c bs) ++ edgC t c) ++ [edgD t c]) ++ edgE t c) ++ [edgF t c bs] ++ edgG t c) ++ edgH t c
end
theorem sz_i {i : Int} (h : i.natAbs ≤ 10 ^ 39) : Sz (10 ^ 39) 4000 2 (.int i) := ⟨by simp only [okV, decide_eq_true_eq]; exact h, by simp only [wv]; omega, by simp only [dv]; omega⟩
theorem sz_g3 {a b c : PyData} (ha : Sz (10 ^ 39) 4000 2 a) (hb : Sz (10 ^ 39) 4000 2 b) (hc : Sz (10 ^ 39) 4000 2 c) : Sz (10 ^ 39) 20000 3 (g3 a b c) := by
  refine sz_tup (fun d hd => ?_) ?_ (fun d hd => ?_) (by omega)
  · simp only [List.mem_cons, List.not_mem_nil, or_false] at hd
    rcases hd with rfl | rfl | rfl
    · exact ha.ok
    · exact hb.ok
    · exact hc.ok
  · have := ha.w
    have := hb.w
    have := hc.w
    simp only [wvAll]
    omega
  · simp only [List.mem_cons, List.not_mem_nil, or_false] at hd
    rcases hd with rfl | rfl | rfl
    · have := ha.p; omega
    · have := hb.p; omega
    · have := hc.p; omega
theorem sz_bed {b : Bed} (h1 : b.1.natAbs ≤ 10 ^ 39) (h2 : b.2.natAbs ≤ 10 ^ 39) : okV (10 ^ 39) (bedD b) = true ∧ wv (bedD b) = 207 ∧ dv (bedD b) = 1 := by
  refine ⟨?_, by simp [bedD, wv, wvAll], by simp [bedD, dv, dvAll]⟩
  simp only [bedD, okV, okVAll, Bool.and_eq_true, decide_eq_true_eq, and_true]
  exact ⟨h1, h2⟩
theorem sz_beds {bs : List Bed} (h : ∀ b ∈ bs, b.1.natAbs ≤ 10 ^ 39 ∧ b.2.natAbs ≤ 10 ^ 39) (few : bs.length ≤ 12) : Sz (10 ^ 39) 4000 2 (bedsD bs) := by
  have w : ∀ bs : List Bed, (∀ b ∈ bs, b.1.natAbs ≤ 10 ^ 39 ∧ b.2.natAbs ≤ 10 ^ 39) → wvAll (bs.map bedD) = 209 * bs.length := by
    intro bs
    induction bs with
    | nil => intro _; simp [wvAll]
    | cons b r ih =>
      intro h
      have h1 := h b (List.mem_cons_self ..)
      simp only [List.map_cons, wvAll, (sz_bed h1.1 h1.2).2.1, ih fun x hx => h x (List.mem_cons_of_mem _ hx), List.length_cons]
      omega
  refine sz_tup (fun d hd => ?_) (by rw [w bs h]; omega) (fun d hd => ?_) (by omega)
  · obtain ⟨b, hb, rfl⟩ := List.mem_map.mp hd
    exact (sz_bed (h b hb).1 (h b hb).2).1
  · obtain ⟨b, hb, rfl⟩ := List.mem_map.mp hd
    rw [(sz_bed (h b hb).1 (h b hb).2).2.2]
    omega
def szB (d : PyData) : Bool := okV (10 ^ 39) d && decide (wv d ≤ 4000) && decide (dv d ≤ 2)
theorem sz_of_B {d : PyData} (h : szB d = true) : Sz (10 ^ 39) 4000 2 d := by
  simp only [szB, Bool.and_eq_true, decide_eq_true_eq] at h
  exact ⟨h.1.1, h.1.2, h.2⟩
theorem small_abs {i : Int} (h0 : -2000000000 ≤ i) (h1 : i ≤ 2000000000) : i.natAbs ≤ 10 ^ 39 := by
  have : (2000000000 : Nat) ≤ 10 ^ 39 := by decide
  omega
section
variable {most top t c : Int} {bs : List Bed}
theorem GOk.szBeds (g : GOk most top t c bs) (h12 : most ≤ 12) (ht : top ≤ 1000000000) : Sz (10 ^ 39) 4000 2 (bedsD bs) := sz_beds (fun b hb => by
  have := g.p0 b hb
  have := g.p1 b hb
  have := g.l0 b hb
  have := g.l1 b hb
  exact ⟨small_abs (by omega) (by omega), small_abs (by omega) (by omega)⟩) (by have := g.few; omega)
theorem edges_sz (g : GOk most top t c bs) (h12 : most ≤ 12) (ht : top ≤ 1000000000) : ∀ d ∈ edgesD t c bs, Sz (10 ^ 39) 20000 3 d := by
  have sb := g.szBeds h12 ht
  have s_t : Sz (10 ^ 39) 4000 2 (.int t) := sz_i (small_abs (by have := g.t0; omega) (by have := g.t1; omega))
  have s_c : Sz (10 ^ 39) 4000 2 (.int c) := sz_i (small_abs (by have := g.c0; omega) (by have := g.c1; omega))
  intro d hd
  simp only [edgesD, edgA, edgB, edgC, edgD, edgE, edgF, edgG, edgH, List.mem_append, List.mem_cons, List.not_mem_nil, or_false, or_assoc] at hd
  rcases hd with rfl | rfl | rfl | rfl | rfl | rfl | rfl | rfl | rfl | rfl | rfl | rfl | rfl | rfl | rfl | rfl | rfl | rfl | rfl | rfl | rfl
  all_goals refine sz_g3 ?_ ?_ ?_
  all_goals first
    | exact s_t
    | exact s_c
    | exact sb
    | exact sz_of_B (by decide +kernel)
end
/-! ### the values of a turn -/
def one1 (i : Int) : Bool := decide (V.int i = V.int 1)
def twin1 (b : Bed) : PyData := .tuple [.int b.1, pickD (one1 b.2) (.int b.2) (.bool true)]
def valA (t c : Int) (bs : List Bed) : List PyData := [gardenD t c bs, .tuple [.int t, pickD (one1 c) (.int c) (.bool (one1 c)), .tuple (bs.map twin1)], gardenD t c bs, .tuple [.int 1, .int 1, .tuple []], .tuple [.bool true, .int 1, .tuple []], .tuple [.int 1, .bool true, .tuple []]]
def valB : List PyData := [.tuple [.int 1, .int 1, .tuple [.tuple [.int 1, .int 1]]], .tuple [.int 1, .int 1, .tuple [.tuple [.bool true, .int 1]]], .tuple [.int 1, .int 1, .tuple [.tuple [.int 1, .bool true]]], .tuple [.int 0, .int 0, .tuple [.tuple [.int 0, .int 0]]]]
section
variable {most top t c : Int} {bs : List Bed}
theorem GOk.szT (g : GOk most top t c bs) : Sz (10 ^ 39) 4000 2 (.int t) := sz_i (small_abs (by have := g.t0; omega) (by have := g.t1; omega))
theorem GOk.szC (g : GOk most top t c bs) : Sz (10 ^ 39) 4000 2 (.int c) := sz_i (small_abs (by have := g.c0; omega) (by have := g.c1; omega))
theorem GOk.szG (g : GOk most top t c bs) (h12 : most ≤ 12) (ht : top ≤ 1000000000) : Sz (10 ^ 39) 20000 3 (gardenD t c bs) := sz_g3 g.szT g.szC (g.szBeds h12 ht)
theorem GOk.szL (g : GOk most top t c bs) (h12 : most ≤ 12) (ht : top ≤ 1000000000) : Sz (10 ^ 39) 20000 3 (.list [.int t, .int c, bedsD bs]) := by
  obtain ⟨a, b, c, d⟩ := (g.szG h12 ht).items
  exact sz_lst a b c d
theorem szPick {b : Bool} {x y : PyData} {B k n : Nat} (hx : Sz B k n x) (hy : Sz B k n y) : Sz B k n (pickD b x y) := by
  cases b with
  | true => exact hy
  | false => exact hx
theorem twin_sz (g : GOk most top t c bs) (h12 : most ≤ 12) (ht : top ≤ 1000000000) : Sz (10 ^ 39) 4000 2 (.tuple (bs.map twin1)) := by
  have one : ∀ b ∈ bs, okV (10 ^ 39) (twin1 b) = true ∧ wv (twin1 b) ≤ 207 ∧ dv (twin1 b) ≤ 1 := by
    intro b hb
    have := g.p0 b hb
    have := g.p1 b hb
    have := g.l0 b hb
    have := g.l1 b hb
    have h1 : b.1.natAbs ≤ 10 ^ 39 := small_abs (by omega) (by omega)
    have h2 : b.2.natAbs ≤ 10 ^ 39 := small_abs (by omega) (by omega)
    unfold twin1
    cases one1 b.2 with
    | true => exact ⟨by simp [pickD, okV, okVAll, h1], by simp [pickD, wv, wvAll], by simp [pickD, dv, dvAll]⟩
    | false => exact ⟨by simp [pickD, okV, okVAll, h1, h2], by simp [pickD, wv, wvAll], by simp [pickD, dv, dvAll]⟩
  have w : ∀ l : List Bed, (∀ b ∈ l, wv (twin1 b) ≤ 207) → wvAll (l.map twin1) ≤ 209 * l.length := by
    intro l
    induction l with
    | nil => intro _; simp [wvAll]
    | cons b r ih =>
      intro h
      have h1 := h b (List.mem_cons_self ..)
      have h2 := ih fun x hx => h x (List.mem_cons_of_mem _ hx)
      simp only [List.map_cons, wvAll, List.length_cons]
      omega
  have hw := w bs fun b hb => (one b hb).2.1
  have hf := g.few
  refine sz_tup (fun d hd => ?_) (by omega) (fun d hd => ?_) (by omega)
  · obtain ⟨b, hb, rfl⟩ := List.mem_map.mp hd
    exact (one b hb).1
  · obtain ⟨b, hb, rfl⟩ := List.mem_map.mp hd
    have := (one b hb).2.2
    omega
theorem valA_sz (g : GOk most top t c bs) (h12 : most ≤ 12) (ht : top ≤ 1000000000) : ∀ d ∈ valA t c bs, Sz (10 ^ 39) 20000 3 d := by
  intro d hd
  simp only [valA, List.mem_cons, List.not_mem_nil, or_false] at hd
  rcases hd with rfl | rfl | rfl | rfl | rfl | rfl
  · exact g.szG h12 ht
  · exact sz_g3 g.szT (szPick g.szC (sz_of_B (by cases one1 c <;> rfl))) (twin_sz g h12 ht)
  · exact g.szG h12 ht
  all_goals exact sz_g3 (sz_of_B (by decide +kernel)) (sz_of_B (by decide +kernel)) (sz_of_B (by decide +kernel))
theorem valB_sz : ∀ d ∈ valB, Sz (10 ^ 39) 20000 3 d := by
  intro d hd
  simp only [valB, List.mem_cons, List.not_mem_nil, or_false] at hd
  rcases hd with rfl | rfl | rfl | rfl
  all_goals exact sz_g3 (sz_of_B (by decide +kernel)) (sz_of_B (by decide +kernel)) (sz_of_B (by decide +kernel))
end
def sp_edges : Sp := fun vs H Q _ => ∃ v t c bs, vs = [v] ∧ Tp H v (gardenD t c bs) ∧ bs.length ≤ 12 ∧ ∀ p xs H', H p = none → Ex H H' → H' p = some (.lst xs) → TpAll H' xs (edgesD t c bs) → Q (.ref p) H'
/-! ### errors are small -/
theorem berr_is : ∀ (ds : List PyData) (i : Nat) (b : Int), berr i b ds = .none ∨ ∃ j, j < i + ds.length ∧ berr i b ds = bedErr j
  | [], i, b => .inl rfl
  | d :: ds, i, b => by
    simp only [berr]
    split
    · rcases berr_is ds (i + 1) (Cn.placeOf d) with h | ⟨j, h1, h2⟩
      · exact .inl h
      · exact .inr ⟨j, by simp only [List.length_cons]; omega, h2⟩
    · exact .inr ⟨i, by simp, rfl⟩
theorem gErr_sh {x : Str} (h : (reprText x).length ≤ 100) : Sh (gErr x) 300 1 := by
  refine sh_tup (k := 100) (n := 0) (fun d hd => ?_) (by simp)
  simp only [List.mem_cons, List.not_mem_nil, or_false] at hd
  rcases hd with rfl | rfl
  · exact ⟨rfl, by simp only [wt]; omega, by simp only [dp]; omega⟩
  · exact ⟨by simp only [sm, decide_eq_true_eq]; exact h, by simp only [wt]; omega, by simp only [dp]; omega⟩
theorem berr_sh {ds : List PyData} (few : ds.length ≤ 12) : Sh (berr 0 (-1000001) ds) 300 1 := by
  rcases berr_is ds 0 (-1000001) with h | ⟨j, hj, h⟩
  · rw [h]
    exact ⟨rfl, by simp only [wt]; omega, by simp only [dp]; omega⟩
  · rw [h]
    refine sh_tup (k := 100) (n := 0) (fun d hd => ?_) (by simp)
    simp only [List.mem_cons, List.not_mem_nil, or_false] at hd
    rcases hd with rfl | rfl
    · refine sh_int ?_ ?_
      · have : -(10 : Int) ^ 39 ≤ 0 := by decide
        omega
      · have : (12 : Int) ≤ 10 ^ 39 := by decide
        omega
    · exact ⟨by simp only [sm, decide_eq_true_eq]; decide +kernel, by simp only [wt]; omega, by simp only [dp]; omega⟩
theorem gerr_sh (d : PyData) : Sh (gerr d) 300 1 := by
  cases h3 : tupN 3 d with
  | false => rw [tup3_no h3]; exact gErr_sh (by decide +kernel)
  | true =>
    obtain ⟨t, c, b, rfl⟩ := tup3 h3
    cases ht : inI (-1000000) 1000000 t with
    | false => rw [gerr_tap ht]; exact gErr_sh (by decide +kernel)
    | true =>
      cases hc : inI 1 1000000 c with
      | false => rw [gerr_can ht hc]; exact gErr_sh (by decide +kernel)
      | true =>
        cases hb : isT b with
        | false => rw [gerr_beds ht hc hb]; exact gErr_sh (by decide +kernel)
        | true =>
          obtain ⟨ds, rfl⟩ := isT_inv hb
          by_cases few : ds.length ≤ 12
          · rw [gerr_ok ht hc few]; exact berr_sh few
          · rw [gerr_many ht hc few]; exact gErr_sh (by decide +kernel)
end Cn

namespace K00
open PySem PySem.Spec PyProof.Rows L2 Evl Cn
def topS (i : Nat) : Stmt := PySem.Challenge.pw_canpath_k00_gardens_judged.main.body.getD i (.Pass ⟨0, 0, 0, 0⟩)
abbrev s_is_number : Stmt := topS 5
abbrev N_is_number : List Str := ["value"]
theorem sc_is_number : FnScope N_is_number ["value"] (defScope s_is_number) := ⟨rfl, rfl, rfl, by decide +kernel, rfl, by decide +kernel, by decide +kernel⟩

abbrev s_is_number_within : Stmt := topS 6
abbrev N_is_number_within : List Str := ["value", "low", "high"]
theorem sc_is_number_within : FnScope N_is_number_within ["value", "low", "high"] (defScope s_is_number_within) := ⟨rfl, rfl, rfl, by decide +kernel, rfl, by decide +kernel, by decide +kernel⟩

abbrev s_is_place : Stmt := topS 7
abbrev N_is_place : List Str := ["value"]
theorem sc_is_place : FnScope N_is_place ["value"] (defScope s_is_place) := ⟨rfl, rfl, rfl, by decide +kernel, rfl, by decide +kernel, by decide +kernel⟩

abbrev s_is_tuple_of : Stmt := topS 8
abbrev N_is_tuple_of : List Str := ["value", "many"]
theorem sc_is_tuple_of : FnScope N_is_tuple_of ["value", "many"] (defScope s_is_tuple_of) := ⟨rfl, rfl, rfl, by decide +kernel, rfl, by decide +kernel, by decide +kernel⟩

abbrev s_is_garden : Stmt := topS 10
abbrev N_is_garden : List Str := ["value"]
theorem sc_is_garden : FnScope N_is_garden ["value"] (defScope s_is_garden) := ⟨rfl, rfl, rfl, by decide +kernel, rfl, by decide +kernel, by decide +kernel⟩

abbrev s_garden_error : Stmt := topS 11
abbrev N_garden_error : List Str := ["value", "tap", "can", "beds"]
theorem sc_garden_error : FnScope N_garden_error ["value"] (defScope s_garden_error) := ⟨rfl, rfl, rfl, by decide +kernel, rfl, by decide +kernel, by decide +kernel⟩

abbrev s_bed_error : Stmt := topS 12
abbrev N_bed_error : List Str := ["beds", "index", "bed"]
theorem sc_bed_error : FnScope N_bed_error ["beds"] (defScope s_bed_error) := ⟨rfl, rfl, rfl, by decide +kernel, rfl, by decide +kernel, by decide +kernel⟩

abbrev s_is_bed : Stmt := topS 13
abbrev N_is_bed : List Str := ["value"]
theorem sc_is_bed : FnScope N_is_bed ["value"] (defScope s_is_bed) := ⟨rfl, rfl, rfl, by decide +kernel, rfl, by decide +kernel, by decide +kernel⟩

abbrev s_l_deck : Stmt := topS 15
abbrev N_l_deck : List Str := ["_law_script", "_law_cell"]
theorem sc_l_deck : FnScope N_l_deck ["_law_script"] (defScope s_l_deck) := ⟨rfl, rfl, rfl, by decide +kernel, rfl, by decide +kernel, by decide +kernel⟩

abbrev s_l_draw : Stmt := topS 16
abbrev N_l_draw : List Str := ["_law_deck_here", "_law_limit", "_law_cell", "_law_index"]
theorem sc_l_draw : FnScope N_l_draw ["_law_deck_here", "_law_limit"] (defScope s_l_draw) := ⟨rfl, rfl, rfl, by decide +kernel, rfl, by decide +kernel, by decide +kernel⟩

abbrev s_l_same : Stmt := topS 17
abbrev N_l_same : List Str := ["_law_value", "_law_due"]
theorem sc_l_same : FnScope N_l_same ["_law_value", "_law_due"] (defScope s_l_same) := ⟨rfl, rfl, rfl, by decide +kernel, rfl, by decide +kernel, by decide +kernel⟩

abbrev s_l_is_number : Stmt := topS 18
abbrev N_l_is_number : List Str := ["_law_value", "_law_low", "_law_high"]
theorem sc_l_is_number : FnScope N_l_is_number ["_law_value", "_law_low", "_law_high"] (defScope s_l_is_number) := ⟨rfl, rfl, rfl, by decide +kernel, rfl, by decide +kernel, by decide +kernel⟩

abbrev s_l_garden : Stmt := topS 19
abbrev N_l_garden : List Str := ["_law_deck_here", "_law_most", "_law_top", "_law_low", "_law_place", "_law_can", "_law_taps", "_law_count", "_law_span", "_law_bound", "_law_beds", "_law_k", "_law_litres"]
theorem sc_l_garden : FnScope N_l_garden ["_law_deck_here", "_law_most", "_law_top"] (defScope s_l_garden) := ⟨rfl, rfl, rfl, by decide +kernel, rfl, by decide +kernel, by decide +kernel⟩

abbrev s_l_odd : Stmt := topS 20
abbrev N_l_odd : List Str := ["_law_deck_here", "_law_some"]
theorem sc_l_odd : FnScope N_l_odd ["_law_deck_here"] (defScope s_l_odd) := ⟨rfl, rfl, rfl, by decide +kernel, rfl, by decide +kernel, by decide +kernel⟩

abbrev s_l_part : Stmt := topS 21
abbrev N_l_part : List Str := ["_law_deck_here", "_law_thing", "_law_depth", "_law_way", "_law_at"]
theorem sc_l_part : FnScope N_l_part ["_law_deck_here", "_law_thing", "_law_depth"] (defScope s_l_part) := ⟨rfl, rfl, rfl, by decide +kernel, rfl, by decide +kernel, by decide +kernel⟩

abbrev s_l_error : Stmt := topS 22
abbrev N_l_error : List Str := ["_law_value", "_law_before", "_law_index", "_law_bed"]
theorem sc_l_error : FnScope N_l_error ["_law_value"] (defScope s_l_error) := ⟨rfl, rfl, rfl, by decide +kernel, rfl, by decide +kernel, by decide +kernel⟩

abbrev s_l_edges : Stmt := topS 23
abbrev N_l_edges : List Str := ["_law_garden_here", "_law_found", "_law_tap", "_law_can", "_law_beds", "_law_far", "_law_many", "_law_k"]
theorem sc_l_edges : FnScope N_l_edges ["_law_garden_here"] (defScope s_l_edges) := ⟨rfl, rfl, rfl, by decide +kernel, rfl, by decide +kernel, by decide +kernel⟩

abbrev s_law : Stmt := topS 24
abbrev N_law : List Str := ["_law_script", "_law_deck_here", "_law_turn", "_law_garden_here", "_law_twin", "_law_values", "_law_value", "_law_tap", "_law_can", "_law_beds", "_law_before", "_law_due", "_law_place", "_law_litres", "_law_k", "_law_again"]
theorem sc_law : FnScope N_law ["_law_script"] (defScope s_law) := ⟨rfl, rfl, rfl, by decide +kernel, rfl, by decide +kernel, by decide +kernel⟩

section
variable {P : Program} {w : World} {K : PySem.W.Frag} {mg : Str → Option Value} {base : Heap}
def sp_is_number : Sp := fun vs H Q _ => ∃ v d, vs = [v] ∧ Tp H v d ∧ ∀ H', Ex H H' → Q (.bl (isN d)) H'
theorem ok_is_number {f : Addr} {fd : FuncData} (F : Fun K "is_number" "is_number" s_is_number f fd) (m_isinstance : mg "isinstance" = none) (m_int : mg "int" = none) (m_bool : mg "bool" = none) : FnOk P w K mg base CX0 1 f fd ["value"] sp_is_number := by
  refine F.ok sc_is_number (fun vs H Q E h => ?_) (fun cdv A outer s H vs Q E hr h => ?_)
  · obtain ⟨v, d, rfl, _⟩ := h
    rfl
  · obtain ⟨v, d, rfl, tv, q⟩ := h
    refine ⟨_, (pss_one (ps_ret (pe_and (pe_callB (call_isiN (K := K) rfl) (by rfl) m_isinstance (by decide +kernel) (pa_cons (pv 0) (pa_cons (pe_bltn (v := .ty "int") (by rfl) m_int (by decide +kernel) rfl) pa_nil))) (pe_one (pe_not (pe_callB (call_isiN (K := K) rfl) (by rfl) m_isinstance (by decide +kernel) (pa_cons (pv 0) (pa_cons (pe_bltn (v := .ty "bool") (by rfl) m_bool (by decide +kernel) rfl) pa_nil)))))))), ?_⟩
    refine s_ret (v := .bl (isN d)) ?_ (fun H1 e1 => q H1 e1)
    exact ev_and (ev_isi kit_int (ed_var rfl tv)) (fun _ => ev_not (ev_isi kit_bool (ed_var rfl tv)))
def sp_is_number_within : Sp := fun vs H Q _ => ∃ v d lo hi, vs = [v, .int lo, .int hi] ∧ Tp H v d ∧ ∀ H', Ex H H' → Q (.bl (inI lo hi d)) H'
theorem ok_is_number_within {f : Addr} {fd : FuncData} (F : Fun K "is_number_within" "is_number_within" s_is_number_within f fd) {f_is_number : Addr} {fd_is_number : FuncData} (G_is_number : FnOk P w K mg base CX0 1 f_is_number fd_is_number ["value"] sp_is_number) (g_is_number : mg "is_number" = some (.ref f_is_number)) (F_is_number : Fun K "is_number" "is_number" s_is_number f_is_number fd_is_number) (b_is_number : Binds K fd_is_number ["value"] [])  : FnOk P w K mg base CX0 2 f fd ["value", "low", "high"] sp_is_number_within := by
  refine F.ok sc_is_number_within (fun vs H Q E h => ?_) (fun cdv A outer s H vs Q E hr h => ?_)
  · obtain ⟨v, d, lo, hi, rfl, _⟩ := h
    rfl
  · obtain ⟨v, d, lo, hi, rfl, tv, q⟩ := h
    refine ⟨_, (pss_one (ps_ret (pe_and (pe_call G_is_number (hr.mono (by first | decide | omega)) (by rfl) g_is_number F_is_number.kp b_is_number .nil pass0 (pa_cons (pv 0) pa_nil)) (pe_one (pe_chain op_le op_le (pv 1) (pv 0) (pv 2)))))), ?_⟩
    cases hn : isN d with
    | false =>
      refine s_ret (v := .bl (false && true)) ?_ (fun H1 e1 => ?_)
      · refine ev_and (b := true) ?_ (fun z => nomatch z)
        exact ev_callV (ds := [d]) (ead_cons (ed_var rfl tv) ead_nil) fun vs H1 e1 t1 Q2 k E2 => by
          cases t1 with
          | cons a b =>
            cases b
            exact ⟨_, d, rfl, a, fun H2 e2 => by rw [hn]; exact k H2 e2⟩
      · have := q H1 e1
        rw [inI_isN hn] at this
        exact this
    | true =>
      obtain ⟨i, rfl⟩ := isN_int hn
      rw [tv.int_inv]
      refine s_ret (v := .bl (true && (decide (lo ≤ i) && decide (i ≤ hi)))) ?_ (fun H1 e1 => q H1 e1)
      refine ev_and ?_ (fun _ => ev_chain (f := fun i j => decide (i ≤ j)) (g := fun i j => decide (i ≤ j)) (ev_var rfl) (ev_var rfl) (ev_var rfl))
      exact ev_callV (ds := [.int i]) (ead_cons (ed_var rfl (.int i)) ead_nil) fun vs H1 e1 t1 Q2 k E2 => by
        cases t1 with
        | cons a b =>
          cases b
          exact ⟨_, .int i, rfl, a, fun H2 e2 => k H2 e2⟩
def sp_is_place : Sp := fun vs H Q _ => ∃ v d, vs = [v] ∧ Tp H v d ∧ ∀ H', Ex H H' → Q (.bl (inI (-1000000) 1000000 d)) H'
theorem ok_is_place {f : Addr} {fd : FuncData} {t_MAX_PLACE : Tok} (F : Fun K "is_place" "is_place" s_is_place f fd) (k_MAX_PLACE : mg "MAX_PLACE" = some (.int 1000000 t_MAX_PLACE)) {f_is_number_within : Addr} {fd_is_number_within : FuncData} (G_is_number_within : FnOk P w K mg base CX0 2 f_is_number_within fd_is_number_within ["value", "low", "high"] sp_is_number_within) (g_is_number_within : mg "is_number_within" = some (.ref f_is_number_within)) (F_is_number_within : Fun K "is_number_within" "is_number_within" s_is_number_within f_is_number_within fd_is_number_within) (b_is_number_within : Binds K fd_is_number_within ["value", "low", "high"] [])  : FnOk P w K mg base CX0 3 f fd ["value"] sp_is_place := by
  refine F.ok sc_is_place (fun vs H Q E h => ?_) (fun cdv A outer s H vs Q E hr h => ?_)
  · obtain ⟨v, d, rfl, _⟩ := h
    rfl
  · obtain ⟨v, d, rfl, tv, q⟩ := h
    refine ⟨_, (pss_one (ps_ret (pe_call G_is_number_within (hr.mono (by first | decide | omega)) (by rfl) g_is_number_within F_is_number_within.kp b_is_number_within .nil pass0 (pa_cons (pv 0) (pa_cons (pe_un un_neg (pe_gi rfl k_MAX_PLACE)) (pa_cons (pe_gi rfl k_MAX_PLACE) pa_nil)))))), ?_⟩
    exact ⟨v, rfl, 1000000, rfl, v, d, -1000000, 1000000, rfl, tv, q⟩
def sp_is_tuple_of : Sp := fun vs H Q _ => ∃ v d n, vs = [v, .int n] ∧ Tp H v d ∧ ∀ H', Ex H H' → Q (.bl (tupN n d)) H'
theorem ok_is_tuple_of {f : Addr} {fd : FuncData} (F : Fun K "is_tuple_of" "is_tuple_of" s_is_tuple_of f fd) (m_isinstance : mg "isinstance" = none) (m_len : mg "len" = none) (m_tuple : mg "tuple" = none) : FnOk P w K mg base CX0 1 f fd ["value", "many"] sp_is_tuple_of := by
  refine F.ok sc_is_tuple_of (fun vs H Q E h => ?_) (fun cdv A outer s H vs Q E hr h => ?_)
  · obtain ⟨v, d, n, rfl, _⟩ := h
    rfl
  · obtain ⟨v, d, n, rfl, tv, q⟩ := h
    refine ⟨_, (pss_one (ps_ret (pe_and (pe_callB (call_isiN (K := K) rfl) (by rfl) m_isinstance (by decide +kernel) (pa_cons (pv 0) (pa_cons (pe_bltn (v := .ty "tuple") (by rfl) m_tuple (by decide +kernel) rfl) pa_nil))) (pe_one (pe_cmpR op_eq (pe_callB (call_lenK (K := K) rfl) (by rfl) m_len PySem.boot_len (pa_cons (pv 0) pa_nil)) (pv 1) (nomark _)))))), ?_⟩
    refine s_ret (v := .bl (isT d && tupN n d)) ?_ (fun H1 e1 => ?_)
    · refine ev_and (ev_isi kit_tuple (ed_var rfl tv)) (fun it => ?_)
      obtain ⟨ds, rfl⟩ := isT_inv it
      have e : decide (V.int (ds.length : Int) = V.int n) = tupN n (.tuple ds) := by simp only [tupN, V.int.injEq]
      rw [← e]
      exact ev_op (ev_lenT (ed_var rfl tv)) (ev_var rfl) (rv_eq rfl)
    · have := q H1 e1
      have e : (isT d && tupN n d) = tupN n d := by cases d <;> simp [isT, tupN]
      rw [e]
      exact this
def sp_is_bed : Sp := fun vs H Q _ => ∃ v d, vs = [v] ∧ Tp H v d ∧ ∀ H', Ex H H' → Q (.bl (bedOk d)) H'
theorem ok_is_bed {f : Addr} {fd : FuncData} {t_MAX_LITRES : Tok} (F : Fun K "is_bed" "is_bed" s_is_bed f fd) (k_MAX_LITRES : mg "MAX_LITRES" = some (.int 1000000000 t_MAX_LITRES)) {f_is_number_within : Addr} {fd_is_number_within : FuncData} (G_is_number_within : FnOk P w K mg base CX0 2 f_is_number_within fd_is_number_within ["value", "low", "high"] sp_is_number_within) (g_is_number_within : mg "is_number_within" = some (.ref f_is_number_within)) (F_is_number_within : Fun K "is_number_within" "is_number_within" s_is_number_within f_is_number_within fd_is_number_within) (b_is_number_within : Binds K fd_is_number_within ["value", "low", "high"] []) {f_is_place : Addr} {fd_is_place : FuncData} (G_is_place : FnOk P w K mg base CX0 3 f_is_place fd_is_place ["value"] sp_is_place) (g_is_place : mg "is_place" = some (.ref f_is_place)) (F_is_place : Fun K "is_place" "is_place" s_is_place f_is_place fd_is_place) (b_is_place : Binds K fd_is_place ["value"] []) {f_is_tuple_of : Addr} {fd_is_tuple_of : FuncData} (G_is_tuple_of : FnOk P w K mg base CX0 1 f_is_tuple_of fd_is_tuple_of ["value", "many"] sp_is_tuple_of) (g_is_tuple_of : mg "is_tuple_of" = some (.ref f_is_tuple_of)) (F_is_tuple_of : Fun K "is_tuple_of" "is_tuple_of" s_is_tuple_of f_is_tuple_of fd_is_tuple_of) (b_is_tuple_of : Binds K fd_is_tuple_of ["value", "many"] [])  : FnOk P w K mg base CX0 4 f fd ["value"] sp_is_bed := by
  refine F.ok sc_is_bed (fun vs H Q E h => ?_) (fun cdv A outer s H vs Q E hr h => ?_)
  · obtain ⟨v, d, rfl, _⟩ := h
    rfl
  · obtain ⟨v, d, rfl, tv, q⟩ := h
    refine ⟨_, (pss_one (ps_ret (pe_and (pe_call G_is_tuple_of (hr.mono (by first | decide | omega)) (by rfl) g_is_tuple_of F_is_tuple_of.kp b_is_tuple_of .nil pass0 (pa_cons (pv 0) (pa_cons pe_int pa_nil))) (pe_and (pe_call G_is_place (hr.mono (by first | decide | omega)) (by rfl) g_is_place F_is_place.kp b_is_place .nil pass0 (pa_cons (pe_ix (ix_tupK (K := K) rfl) (pv 0) pe_int (fun _ _ => rfl)) pa_nil)) (pe_one (pe_call G_is_number_within (hr.mono (by first | decide | omega)) (by rfl) g_is_number_within F_is_number_within.kp b_is_number_within .nil pass0 (pa_cons (pe_ix (ix_tupK (K := K) rfl) (pv 0) pe_int (fun _ _ => rfl)) (pa_cons pe_int (pa_cons (pe_gi rfl k_MAX_LITRES) pa_nil))))))))), ?_⟩
    refine ⟨v, rfl, v, d, 2, rfl, tv, fun H1 e1 => ⟨_, rfl, ?_⟩⟩
    cases h2 : tupN 2 d with
    | false =>
      have := q H1 e1
      rw [tup2_no h2] at this
      exact this
    | true =>
      obtain ⟨p, l, rfl⟩ := tup2 h2
      have tv1 := tv.mono (Tk.ex e1)
      have tv0 := tv1
      obtain ⟨a, xs, rfl, ha, hx⟩ := tv1.tup_inv
      cases hx with
      | cons hp hx =>
        cases hx with
        | cons hl hx =>
          cases hx
          rw [if_pos rfl]
          refine ⟨.ref a, rfl, a, _, 0, _, rfl, rfl, sr ha, rfl, _, p, rfl, hp, fun H2 e2 => ⟨_, rfl, ?_⟩⟩
          cases hpp : inI (-1000000) 1000000 p with
          | false =>
            have := q H2 (e1.trans e2)
            rw [show bedOk (.tuple [p, l]) = (inI (-1000000) 1000000 p && inI 1 1000000000 l) from rfl, hpp] at this
            exact this
          | true =>
            refine ⟨.ref a, rfl, a, _, 1, _, rfl, rfl, sr (ex_rd e2 ha), rfl, _, l, 1, 1000000000, rfl, hl.mono (Tk.ex e2), fun H3 e3 => ?_⟩
            have := q H3 ((e1.trans e2).trans e3)
            rw [show bedOk (.tuple [p, l]) = (inI (-1000000) 1000000 p && inI 1 1000000000 l) from rfl, hpp] at this
            exact this
def sp_bed_error : Sp := fun vs H Q _ => ∃ v ds, vs = [v] ∧ Tp H v (.tuple ds) ∧ ds.length ≤ 50 ∧ ∀ z H', Ex H H' → Tp H' z (berr 0 (-1000001) ds) → Q z H'
theorem ok_bed_error {f : Addr} {fd : FuncData} (F : Fun K "bed_error" "bed_error" s_bed_error f fd) (m_enumerate : mg "enumerate" = none) {f_is_bed : Addr} {fd_is_bed : FuncData} (G_is_bed : FnOk P w K mg base CX0 4 f_is_bed fd_is_bed ["value"] sp_is_bed) (g_is_bed : mg "is_bed" = some (.ref f_is_bed)) (F_is_bed : Fun K "is_bed" "is_bed" s_is_bed f_is_bed fd_is_bed) (b_is_bed : Binds K fd_is_bed ["value"] [])  : FnOk P w K mg base CX0 5 f fd ["beds"] sp_bed_error := by
  refine F.ok sc_bed_error (fun vs H Q E h => ?_) (fun cdv A outer s H vs Q E hr h => ?_)
  · obtain ⟨v, ds, rfl, _⟩ := h
    rfl
  · obtain ⟨v, ds, rfl, tv, few, q⟩ := h
    refine ⟨_, (pss_cons (ps_for PassesOwn.never rfl (pi_enumTK (K := K) rfl (by rfl) m_enumerate (pa_cons (pv 0) pa_nil)) (pg_tup rfl (pgs_cons (pg_name (i := 1) sc_bed_error.nd rfl (.inl rfl)) (pgs_cons (pg_name (i := 2) sc_bed_error.nd rfl (.inl rfl)) pgs_nil)))
      (pss_cons (ps_if (pt_not (pt_val (pe_call G_is_bed (hr.mono (by first | decide | omega)) (by rfl) g_is_bed F_is_bed.kp b_is_bed .nil pass0 (pa_cons (pv 2) pa_nil)))) (pss_one (ps_ret (pe_tup (pa_cons (pv 1) (pa_cons pe_str pa_nil))))) pss_nil)
    (pss_one (ps_if (PW.pt (pw_and (pt_cmpR op_gt (pv 1) pe_int (nomark _)) (pw_and1 (pt_cmpR op_le (pe_ix (ix_tupK (K := K) rfl) (pv 2) pe_int (fun _ _ => rfl)) (pe_ix (ix_tupK (K := K) rfl) (pe_ix (ix_tupK (K := K) rfl) (pv 0) (pe_op op_sub (pv 1) pe_int) (fun _ _ => rfl)) pe_int (fun _ _ => rfl)) (nomark _))))) (pss_one (ps_ret (pe_tup (pa_cons (pv 1) (pa_cons pe_str pa_nil))))) pss_nil))))
    (pss_one (ps_ret pe_non))), ?_⟩
    obtain ⟨a, xs, rfl, ha, hx⟩ := tv.tup_inv
    have lx := hx.length
    refine ⟨.ref a, rfl, a, xs, rfl, sr ha, ?_⟩
    refine for_it (walk_enumT (K := K) (a := a) (xs := xs)) (fun k σ' H' => ∃ y1 y2, σ' = [some (.ref a), y1, y2] ∧ Ex H H' ∧ Fine ds k) ⟨_, _, rfl, Ex.refl H, fine_0 ds⟩ (fun i σ' H' _ h => ?_) ?_ ?_
    · obtain ⟨_, _, _, e, _⟩ := h
      exact sr (ex_rd e ha)
    · rintro k x σ' H1 _ hk ⟨y1, y2, rfl, e1, fine⟩ ⟨T, u, vb, rfl, nT, rfl, hu, hv⟩
      cases hu
      have hkd : k < ds.length := by omega
      have hdk : ds[k]? = some ds[k] := List.getElem?_eq_getElem hkd
      obtain ⟨vb', hv', tb⟩ := hx.get hdk
      have hv : xs[k]? = some vb := hv
      rw [hv'] at hv
      cases hv
      have eT : Ex H1 (upd H1 T (.tup [.int (k : Int), vb])) := Ex.new nT
      refine pair_bind (.inl upd_same) _ ?_
      have e2 := e1.trans eT
      generalize upd H1 T (.tup [.int (k : Int), vb]) = H2 at e2 eT ⊢
      have tb2 := tb.mono (Tk.ex e2)
      have retE : ∀ (H3 : Hp) (D : Ends), D.rt = Q → Ex H2 H3 → berr 0 (-1000001) ds = bedErr k → tRet (tTup (tCons (tVar 1) (tCons (tC (.str "bed")) tNil))) D [some (.ref a), some (.int (k : Int)), some vb] H3 := fun H3 D hD e3 hg => by
        refine s_retD (d := bedErr k) (ed_tup (ead_cons (ed_var rfl (.int _)) (ead_cons ed_str ead_nil)) (by simp)) fun z H4 e4 t4 => ?_
        rw [hD]
        exact q z H4 ((e2.trans e3).trans e4) (by rw [hg]; exact t4)
      refine q_when (b := !bedOk ds[k]) (et_not (et_B (ev_callV (ds := [ds[k]]) (ead_cons (ed_var rfl tb2) ead_nil) ?_))) (fun hb H3 e3 => ?_) (fun hb H3 e3 => ?_)
      · intro vs H3 e3 t3 Q2 kk E2
        cases t3 with
        | cons a b =>
          cases b
          exact ⟨_, _, rfl, a, kk⟩
      · have hb : bedOk ds[k] = false := by simpa using hb
        exact retE H3 _ rfl e3 (fine.bad hdk (by rw [hb]; simp))
      have ok : bedOk ds[k] = true := by simpa using hb
      obtain ⟨p, l, ebd, p0, p1, l0, l1⟩ := bedOk_inv ok
      have e03 := e2.trans e3
      have tb3 := tb2.mono (Tk.ex e3)
      rw [ebd] at tb3
      have ep : placeOf ds[k] = p := by rw [ebd]; rfl
      -- the bed before
      refine s_when (b := decide ((0 : Int) < (k : Int)) && decide (p ≤ befP ds k)) (et_and (et_test (ev_op (ev_var rfl) ev_c rv_I0)) (fun h0 => et_test (ev_op (ev_of (ed_ixT (i := 0) (ed_var rfl tb3) ev_c rfl)) ?_ rv_I0))) (fun hb H4 e4 => ?_) (fun hb H4 e4 => ?_)
      · have h0 := of_decide_eq_true h0
        obtain ⟨j, rfl⟩ : ∃ j, k = j + 1 := ⟨k - 1, by omega⟩
        obtain ⟨dj, hdj, okj⟩ := fine.2 j (Nat.lt_succ_self j)
        obtain ⟨pj, lj, rfl, _⟩ := bedOk_inv okj
        rw [befP_at hdj]
        refine ev_of (ed_ixT (i := 0) (ed_ixT (i := j) (ed_var rfl (tv.mono (Tk.ex e03))) ?_ hdj) ev_c rfl)
        have e1 : ((j : Nat) : Int) = ((j + 1 : Nat) : Int) - 1 := by omega
        rw [e1]
        exact ev_op (ev_var rfl) ev_c rv_I0
      · rw [Bool.and_eq_true] at hb
        have h2 := of_decide_eq_true hb.2
        exact retE H4 _ rfl (e3.trans e4) (fine.bad hdk (by rw [ep]; omega))
      · refine ⟨_, _, rfl, e03.trans e4, fine.next hdk ok ?_⟩
        rw [ep]
        cases k with
        | zero => show (-1000001 : Int) < p; omega
        | succ j =>
          have : decide ((0 : Int) < ((j + 1 : Nat) : Int)) = true := decide_eq_true (by omega)
          rw [this, Bool.true_and] at hb
          have := of_decide_eq_false hb
          omega
    · rintro σ' H1 ⟨y1, y2, rfl, e1, fine⟩
      refine q _ H1 e1 ?_
      rw [fine.last (by omega)]
      exact .non
def sp_garden_error : Sp := fun vs H Q _ => ∃ v d, vs = [v] ∧ Tp H v d ∧ ∀ z H', Ex H H' → Tp H' z (gerr d) → Q z H'
theorem ok_garden_error {f : Addr} {fd : FuncData} {t_MAX_CAN t_MAX_BEDS : Tok} (F : Fun K "garden_error" "garden_error" s_garden_error f fd) (k_MAX_CAN : mg "MAX_CAN" = some (.int 1000000 t_MAX_CAN)) (k_MAX_BEDS : mg "MAX_BEDS" = some (.int 12 t_MAX_BEDS)) (m_isinstance : mg "isinstance" = none) (m_len : mg "len" = none) (m_tuple : mg "tuple" = none)
    {f_is_tuple_of : Addr} {fd_is_tuple_of : FuncData} (G_is_tuple_of : FnOk P w K mg base CX0 1 f_is_tuple_of fd_is_tuple_of ["value", "many"] sp_is_tuple_of) (g_is_tuple_of : mg "is_tuple_of" = some (.ref f_is_tuple_of)) (F_is_tuple_of : Fun K "is_tuple_of" "is_tuple_of" s_is_tuple_of f_is_tuple_of fd_is_tuple_of) (b_is_tuple_of : Binds K fd_is_tuple_of ["value", "many"] []) {f_is_number_within : Addr} {fd_is_number_within : FuncData} (G_is_number_within : FnOk P w K mg base CX0 2 f_is_number_within fd_is_number_within ["value", "low", "high"] sp_is_number_within) (g_is_number_within : mg "is_number_within" = some (.ref f_is_number_within)) (F_is_number_within : Fun K "is_number_within" "is_number_within" s_is_number_within f_is_number_within fd_is_number_within) (b_is_number_within : Binds K fd_is_number_within ["value", "low", "high"] []) {f_is_place : Addr} {fd_is_place : FuncData} (G_is_place : FnOk P w K mg base CX0 3 f_is_place fd_is_place ["value"] sp_is_place) (g_is_place : mg "is_place" = some (.ref f_is_place)) (F_is_place : Fun K "is_place" "is_place" s_is_place f_is_place fd_is_place) (b_is_place : Binds K fd_is_place ["value"] []) {f_bed_error : Addr} {fd_bed_error : FuncData} (G_bed_error : FnOk P w K mg base CX0 5 f_bed_error fd_bed_error ["beds"] sp_bed_error) (g_bed_error : mg "bed_error" = some (.ref f_bed_error)) (F_bed_error : Fun K "bed_error" "bed_error" s_bed_error f_bed_error fd_bed_error) (b_bed_error : Binds K fd_bed_error ["beds"] [])  : FnOk P w K mg base CX0 6 f fd ["value"] sp_garden_error := by
  refine F.ok sc_garden_error (fun vs H Q E h => ?_) (fun cdv A outer s H vs Q E hr h => ?_)
  · obtain ⟨v, d, rfl, _⟩ := h
    rfl
  · obtain ⟨v, d, rfl, tv, q⟩ := h
    refine ⟨_, (pss_cons (ps_if (pt_not (pt_val (pe_call G_is_tuple_of (hr.mono (by first | decide | omega)) (by rfl) g_is_tuple_of F_is_tuple_of.kp b_is_tuple_of .nil pass0 (pa_cons (pv 0) (pa_cons pe_int pa_nil))))) (pss_one (ps_ret (pe_tup (pa_cons pe_non (pa_cons pe_str pa_nil))))) pss_nil)
    (pss_cons (ps_asg (pv 0) (pg_tup rfl (pgs_cons (pg_name (i := 1) sc_garden_error.nd rfl (.inl rfl)) (pgs_cons (pg_name (i := 2) sc_garden_error.nd rfl (.inl rfl)) (pgs_cons (pg_name (i := 3) sc_garden_error.nd rfl (.inl rfl)) pgs_nil)))))
    (pss_cons (ps_if (pt_not (pt_val (pe_call G_is_place (hr.mono (by first | decide | omega)) (by rfl) g_is_place F_is_place.kp b_is_place .nil pass0 (pa_cons (pv 1) pa_nil)))) (pss_one (ps_ret (pe_tup (pa_cons pe_non (pa_cons pe_str pa_nil))))) pss_nil)
    (pss_cons (ps_if (pt_not (pt_val (pe_call G_is_number_within (hr.mono (by first | decide | omega)) (by rfl) g_is_number_within F_is_number_within.kp b_is_number_within .nil pass0 (pa_cons (pv 2) (pa_cons pe_int (pa_cons (pe_gi rfl k_MAX_CAN) pa_nil)))))) (pss_one (ps_ret (pe_tup (pa_cons pe_non (pa_cons pe_str pa_nil))))) pss_nil)
    (pss_cons (ps_if (PW.pt (pw_or (pt_not (pt_val (pe_callB (call_isiN (K := K) rfl) (by rfl) m_isinstance (by decide +kernel) (pa_cons (pv 3) (pa_cons (pe_bltn (v := .ty "tuple") (by rfl) m_tuple (by decide +kernel) rfl) pa_nil))))) (pw_or1 (pt_cmpR op_gt (pe_callB (call_lenK (K := K) rfl) (by rfl) m_len PySem.boot_len (pa_cons (pv 3) pa_nil)) (pe_gi rfl k_MAX_BEDS) (nomark _))))) (pss_one (ps_ret (pe_tup (pa_cons pe_non (pa_cons pe_str pa_nil))))) pss_nil)
    (pss_one (ps_ret (pe_call G_bed_error (hr.mono (by first | decide | omega)) (by rfl) g_bed_error F_bed_error.kp b_bed_error .nil pass0 (pa_cons (pv 3) pa_nil))))))))), ?_⟩
    refine q_when (b := !tupN 3 d) (et_not (et_B (ev_callV (ds := [d, .int 3]) (ead_cons (ed_var rfl tv) (ead_cons ed_i ead_nil)) ?_))) (fun hb H1 e1 => ?_) (fun hb H1 e1 => ?_)
    · intro vs H1 e1 t1 Q2 k E2
      cases t1 with
      | cons a b =>
        cases b with
        | cons b c =>
          cases c
          rw [b.int_inv]
          exact ⟨_, d, 3, rfl, a, k⟩
    · have hb : tupN 3 d = false := by simpa using hb
      refine s_retD (d := gErr "garden") (ed_tup (ead_cons ed_non (ead_cons ed_str ead_nil)) (by simp)) fun z H2 e2 t2 => q z H2 (e1.trans e2) ?_
      rw [tup3_no hb]
      exact t2
    have hb : tupN 3 d = true := by simpa using hb
    obtain ⟨t, c, b, rfl⟩ := tup3 hb
    have tv1 := tv.mono (Tk.ex e1)
    obtain ⟨g, xs, rfl, hg, hx⟩ := tv1.tup_inv
    cases hx with
    | @cons vt _ _ _ ht hx =>
    cases hx with
    | @cons vc _ _ _ hc hx =>
    cases hx with
    | @cons vb _ _ _ hbd hx =>
    cases hx
    refine ⟨.ref g, rfl, g, _, rfl, sr hg, rfl, vt, _, rfl, vc, _, rfl, vb, _, rfl, rfl, ?_⟩
    dsimp only [gName]
    refine q_when (b := !inI (-1000000) 1000000 t) (et_not (et_B (ev_callV (ds := [t]) (ead_cons (ed_var rfl ht) ead_nil) ?_))) (fun hb H2 e2 => ?_) (fun hb H2 e2 => ?_)
    · intro vs H2 e2 t2 Q2 k E2
      cases t2 with
      | cons a b =>
        cases b
        exact ⟨_, t, rfl, a, k⟩
    · have hb : inI (-1000000) 1000000 t = false := by simpa using hb
      refine s_retD (d := gErr "tap") (ed_tup (ead_cons ed_non (ead_cons ed_str ead_nil)) (by simp)) fun z H3 e3 t3 => q z H3 ((e1.trans e2).trans e3) ?_
      rw [gerr_tap hb]
      exact t3
    have hb1 : inI (-1000000) 1000000 t = true := by simpa using hb
    refine q_when (b := !inI 1 1000000 c) (et_not (et_B (ev_callV (ds := [c, .int 1, .int 1000000]) (ead_cons (ed_var rfl (hc.mono (Tk.ex e2))) (ead_cons ed_i (ead_cons ed_i ead_nil))) ?_))) (fun hb H3 e3 => ?_) (fun hb H3 e3 => ?_)
    · intro vs H3 e3 t3 Q2 k E2
      cases t3 with
      | cons a b =>
        cases b with
        | cons b c' =>
          cases c' with
          | cons c' d' =>
            cases d'
            rw [b.int_inv, c'.int_inv]
            exact ⟨_, c, 1, 1000000, rfl, a, k⟩
    · have hb : inI 1 1000000 c = false := by simpa using hb
      refine s_retD (d := gErr "can") (ed_tup (ead_cons ed_non (ead_cons ed_str ead_nil)) (by simp)) fun z H4 e4 t4 => q z H4 (((e1.trans e2).trans e3).trans e4) ?_
      rw [gerr_can hb1 hb]
      exact t4
    have hb2 : inI 1 1000000 c = true := by simpa using hb
    have tb3 := hbd.mono (Tk.ex (e2.trans e3))
    have e03 := (e1.trans e2).trans e3
    have fin : ∀ D : Ends, D.rt = Q → (∀ H4, Ex H3 H4 → gerr (.tuple [t, c, b]) = gErr "beds" → tRet (tTup (tCons (tC .non) (tCons (tC (.str "beds")) tNil))) D [some (.ref g), some vt, some vc, some vb] H4) := fun D hD H4 e4 hg => by
      refine s_retD (d := gErr "beds") (ed_tup (ead_cons ed_non (ead_cons ed_str ead_nil)) (by simp)) fun z H5 e5 t5 => ?_
      rw [hD]
      exact q z H5 ((e03.trans e4).trans e5) (by rw [hg]; exact t5)
    cases it : isT b with
    | false =>
      have hg : gerr (.tuple [t, c, b]) = gErr "beds" := gerr_beds hb1 hb2 it
      refine q_when (b := !false || true) (et_or (b := true) (et_not (et_B (by rw [← it]; exact ev_isi kit_tuple (ed_var rfl tb3)))) (fun z => nomatch z)) (fun _ H4 e4 => ?_) (fun z => nomatch z)
      exact fin _ rfl H4 e4 hg
    | true =>
      obtain ⟨ds, rfl⟩ := isT_inv it
      refine q_when (b := !true || decide ((12 : Int) < ds.length)) (et_or (et_not (et_B (ev_isi kit_tuple (ed_var rfl tb3)))) (fun _ => et_test (ev_op (ev_lenT (ed_var rfl tb3)) ev_c rv_I0))) (fun hb H4 e4 => ?_) (fun hb H4 e4 => ?_)
      · refine fin _ rfl H4 e4 ?_
        have : ¬ ds.length ≤ 12 := by
          have := of_decide_eq_true (by simpa using hb : decide ((12 : Int) < ds.length) = true)
          omega
        exact gerr_many hb1 hb2 this
      · have few : ds.length ≤ 12 := by
          have := of_decide_eq_false (by simpa using hb : decide ((12 : Int) < ds.length) = false)
          omega
        refine ⟨vb, rfl, vb, ds, rfl, tb3.mono (Tk.ex e4), by omega, fun z H5 e5 t5 => q z H5 ((e03.trans e4).trans e5) ?_⟩
        rw [gerr_ok hb1 hb2 few]
        exact t5
def sp_is_garden : Sp := fun vs H Q _ => ∃ v d, vs = [v] ∧ Tp H v d ∧ ∀ H', Ex H H' → Q (.bl (isNone (gerr d))) H'
theorem ok_is_garden {f : Addr} {fd : FuncData} (F : Fun K "is_garden" "is_garden" s_is_garden f fd) {f_garden_error : Addr} {fd_garden_error : FuncData} (G_garden_error : FnOk P w K mg base CX0 6 f_garden_error fd_garden_error ["value"] sp_garden_error) (g_garden_error : mg "garden_error" = some (.ref f_garden_error)) (F_garden_error : Fun K "garden_error" "garden_error" s_garden_error f_garden_error fd_garden_error) (b_garden_error : Binds K fd_garden_error ["value"] [])  : FnOk P w K mg base CX0 7 f fd ["value"] sp_is_garden := by
  refine F.ok sc_is_garden (fun vs H Q E h => ?_) (fun cdv A outer s H vs Q E hr h => ?_)
  · obtain ⟨v, d, rfl, _⟩ := h
    rfl
  · obtain ⟨v, d, rfl, tv, q⟩ := h
    refine ⟨_, (pss_one (ps_ret (pe_cmpR op_isN (pe_call G_garden_error (hr.mono (by first | decide | omega)) (by rfl) g_garden_error F_garden_error.kp b_garden_error .nil pass0 (pa_cons (pv 0) pa_nil)) pe_non (nomark _)))), ?_⟩
    refine ⟨v, rfl, v, d, rfl, tv, fun z H1 e1 t1 => ⟨rfl, ?_⟩⟩
    rw [isNone_gerr_val t1]
    exact q H1 e1
end
end K00

namespace K00
open PySem PySem.Spec PyProof.Rows L2 Evl Cn
section
variable {P : Program} {w : World} {K : PySem.W.Frag} {mg : Str → Option Value} {base : Heap}
theorem ok_l_deck {f : Addr} {fd : FuncData} (F : Fun K "_law_deck" "_law_deck" s_l_deck f fd) (m_abs : mg "abs" = none) : FnOk P w K mg base CX0 1 f fd ["_law_script"] (spDeck K) := by
  refine F.ok sc_l_deck (fun vs H Q E h => ?_) (fun cdv A outer s H vs Q E hr h => ?_)
  · obtain ⟨a, ns, rfl, _⟩ := h
    rfl
  · obtain ⟨a, ns, rfl, hs, few, q⟩ := h
    refine ⟨_, (pss_one (ps_ret (pe_lst (pa_cons (pe_lc (own := [("_law_cell", 1)]) (g := (gName 1)) rfl sc_l_deck.nd (pi_listK (K := K) rfl (pe_slice (sl_listK (K := K) rfl) (pv 0) po_none (po_some pe_int))) (blkOk_by (N := N_l_deck) (sc := defScope s_l_deck) (by decide +kernel)) (fun _ _ _ _ _ => (pg_name (i := 1) sc_l_deck.nd rfl (.inl rfl))) (fun _ _ _ _ _ => pts_nil) (fun _ _ _ _ _ => (pe_callB call_abs (by rfl) m_abs (by decide +kernel) (pa_cons (pv 1) pa_nil)))) (pa_cons pe_int pa_nil))))), ?_⟩
    have hL := el_sl (K := K) (te := tVar 0) (σ := start N_l_deck [.ref a]) (H := H) (a := a) (ev_var rfl) eo_none (eo_some (te := tC (.int 63)) (i := 63) ev_c) hs
    rw [show ((63 : Int) = ((63 : Nat) : Int)) from rfl, cutTo _ 63 (by rw [List.length_map]; exact few)] at hL
    have hC := el_lcNL (K := K) (t := tYes) (te := tCB (fun xs H Q => ∃ i, xs = [V.int i] ∧ Q (.int (if i < 0 then -i else i)) H) (tCons (tVar 1) tNil)) (j := 1) (vs := [1]) (fun _ => true) (fun i => .int (if ns.getD i 0 < 0 then -ns.getD i 0 else ns.getD i 0)) hL (by rw [List.length_map]; omega) (fun _ => rfl) (fun _ _ _ _ _ => et_yes) (by
      intro i x H1 e1 hx _ H2 e2 Q2 k
      have hi : i < ns.length := by
        have := (List.getElem?_eq_some_iff.mp hx).1
        rw [List.length_map] at this
        exact this
      rw [List.getElem?_map, List.getElem?_eq_getElem hi] at hx
      cases hx
      refine ⟨_, rfl, _, rfl, ?_⟩
      have e : ns.getD i 0 = ns[i] := by simp [List.getD, List.getElem?_eq_getElem hi]
      rw [e] at k
      exact k H2 (Ex.refl H2))
    rw [List.length_map, given_map ns (fun z => .int (if z < 0 then -z else z)) _ (fun i z e => by simp [List.getD, e])] at hC
    dsimp only [tRet, tLst, tCons, tC, tNil]
    refine hC H (Ex.refl H) _ ?_
    refine fun p H1 np e1 h1 => ⟨by show 2 ≤ sizeLine; decide, fun D nD => ?_⟩
    have eN := Ex.new (o := .lst [.ref p, .int 0]) nD
    refine q D p _ (fresh_back e1 nD) np (e1.trans eN) ⟨0, ns.map fun z => if z < 0 then -z else z, ⟨upd_same, ?_⟩, by omega, by omega, by rw [List.length_map]; exact few, ?_⟩
    · rw [List.map_map]
      exact eN p _ h1
    · intro x hx
      obtain ⟨z, _, rfl⟩ := List.mem_map.mp hx
      split <;> omega
theorem ok_l_draw {f : Addr} {fd : FuncData} (F : Fun K "_law_draw" "_law_draw" s_l_draw f fd) (m_len : mg "len" = none) : FnOk P w K mg base CX0 1 f fd ["_law_deck_here", "_law_limit"] spDraw := by
  refine F.ok sc_l_draw (fun vs H Q E h => ?_) (fun cdv A outer s H vs Q E hr h => ?_)
  · obtain ⟨D, C, m, k, rfl, _⟩ := h
    rfl
  · obtain ⟨D, C, m, k, rfl, ⟨n, cs, dk, n0, nm, cl, cpos⟩, mb, k1, k2, q⟩ := h
    refine ⟨_, (pss_cons (ps_asg (pe_op op_add (pe_ix (ix_listK (K := K) rfl) (pv 0) pe_int (fun _ _ => rfl)) pe_int) (pg_sub (pv 0) pe_int set_list))
    (pss_cons (ps_asg (pe_tup (pa_cons pe_int (pa_cons (pe_un un_neg pe_int) pa_nil))) (pg_tup rfl (pgs_cons (pg_name (i := 2) sc_l_draw.nd rfl (.inl rfl)) (pgs_cons (pg_name (i := 3) sc_l_draw.nd rfl (.inl rfl)) pgs_nil))))
    (pss_cut (ps_if (pt_cmpR op_gt (pe_callB (call_lenK (K := K) rfl) (by rfl) m_len PySem.boot_len (pa_cons (pe_ix (ix_listK (K := K) rfl) (pv 0) pe_int (fun _ _ => rfl)) pa_nil)) pe_int (nomark _)) (pss_cons (ps_set (i := 3) sc_l_draw.nd rfl (.inl rfl) (pe_op op_mod (pe_ix (ix_listK (K := K) rfl) (pv 0) pe_int (fun _ _ => rfl)) (pe_callB (call_lenK (K := K) rfl) (by rfl) m_len PySem.boot_len (pa_cons (pe_ix (ix_listK (K := K) rfl) (pv 0) pe_int (fun _ _ => rfl)) pa_nil))))
    (pss_one (ps_set (i := 2) sc_l_draw.nd rfl (.inl rfl) (pe_ix (ix_listK (K := K) rfl) (pe_ix (ix_listK (K := K) rfl) (pv 0) pe_int (fun _ _ => rfl)) (pv 3) (fun _ _ => rfl))))) pss_nil)
    (pss_cons (ps_if (pt_cmpR op_ge (pv 2) (pe_op op_pow pe_int pe_int) (nomark _)) (pss_cons (ps_asg (pe_op op_fdiv (pv 2) (pv 1)) (pg_sub (pe_ix (ix_listK (K := K) rfl) (pv 0) pe_int (fun _ _ => rfl)) (pv 3) set_list))
    (pss_one (ps_ret (pe_op op_mod (pv 2) (pv 1))))) pss_nil)
    (pss_one (ps_ret (pe_op op_mod (pe_op op_fdiv (pe_op op_mod (pe_op op_pow (pe_op op_add (pe_op op_add (pe_op op_mod (pv 2) pe_int) (pe_op op_mul pe_int (pe_ix (ix_listK (K := K) rfl) (pv 0) pe_int (fun _ _ => rfl)))) pe_int) pe_int) pe_int) pe_int) (pv 1)))))))), ?_⟩
    have hDC := dk.ne
    refine q_setL (l := D) (xs := [.ref C, .int n]) (j := 1) (v := .int (n + 1)) dk.hD ?_ (ev_var rfl) ev_c (by simp) ?_
    · exact ev_op (ev_op (ev_var rfl) ev_c (rv_ixL (sq_of dk.hD) rfl)) ev_c rv_I0
    intro H1 e1
    have d1 : DeckN D C (n + 1) cs (upd H1 D (.lst [.ref C, .int (n + 1)])) := ⟨upd_same, by rw [upd_ne hDC.symm]; exact e1 _ _ dk.hC⟩
    have k1' : Kp D C H (upd H1 D (.lst [.ref C, .int (n + 1)])) := (Kp.ex e1).trans Kp.setD
    show tSeq _ _ _ _ (upd H1 D (.lst [.ref C, .int (n + 1)]))
    generalize upd H1 D (.lst [.ref C, .int (n + 1)]) = H2 at d1 k1'
    refine ⟨1, rfl, by decide, fun p np => ⟨p, _, rfl, st_of upd_same, rfl, .int 0, _, rfl, .int (-1), _, rfl, rfl, ?_⟩⟩
    have d2 := d1.ex (Ex.new (o := .tup [.int 0, .int (-1)]) np)
    have k2' := k1'.trans (Kp.ex (Ex.new (o := .tup [.int 0, .int (-1)]) np))
    dsimp only [gName]
    show tCut _ _ _ _ (upd H2 p (.tup [.int 0, .int (-1)]))
    generalize upd H2 p (.tup [.int 0, .int (-1)]) = H3 at d2 k2'
    refine q_cut (M := fun σ' H' => ∃ cell idx, σ' = [some (.ref D), some (.int k), some (.int cell), some (.int idx)] ∧ Kp D C H H' ∧ DeckN D C (n + 1) cs H' ∧ 0 ≤ cell ∧ (cell < 1000000000000000000 ∨ ∃ j : Nat, j < cs.length ∧ idx = (j : Int))) ?_ ?_
    · refine s_when (b := decide ((0 : Int) < (cs.map V.int).length)) ?_ ?_ ?_
      · exact et_test (ev_op (ev_len (ev_op (ev_var rfl) ev_c (rv_ixL (sq_of d2.hD) rfl)) (sq_of d2.hC)) ev_c rv_I0)
      · intro hc H4 e4
        have hc := of_decide_eq_true hc
        rw [List.length_map] at hc
        have d4 := d2.ex e4
        have i0 : 0 ≤ (n + 1) % (cs.length : Int) := Int.emod_nonneg _ (by omega)
        have i1 : (n + 1) % (cs.length : Int) < cs.length := Int.emod_lt_of_pos _ hc
        obtain ⟨j, hj⟩ : ∃ j : Nat, (n + 1) % (cs.length : Int) = j := ⟨((n + 1) % (cs.length : Int)).toNat, by omega⟩
        have jl : j < cs.length := by omega
        refine q_asg (v := .int j) ?_ ?_
        · refine ev_is (ev_op (ev_op (ev_var rfl) ev_c (rv_ixL (sq_of d4.hD) rfl)) (ev_len (ev_op (ev_var rfl) ev_c (rv_ixL (sq_of d4.hD) rfl)) (sq_of d4.hC)) (rv_I (by rw [List.length_map]; exact hc))) ?_
          rw [List.length_map, hj]
        intro H5 e5
        have d5 := d4.ex e5
        refine s_asg (v := .int cs[j]) ?_ ?_
        · exact ev_op (ev_op (ev_var rfl) ev_c (rv_ixL (sq_of d5.hD) rfl)) (ev_var rfl) (rv_ixL (sq_of d5.hC) (atI_nat (by rw [List.getElem?_map, List.getElem?_eq_getElem jl]; rfl)))
        intro H6 e6
        exact ⟨cs[j], j, rfl, k2'.trans (Kp.ex ((e4.trans e5).trans e6)), d5.ex e6, cpos _ (List.getElem_mem jl), .inr ⟨j, jl, rfl⟩⟩
      · intro hc H4 e4
        exact ⟨0, -1, rfl, k2'.trans (Kp.ex e4), d2.ex e4, by omega, .inl (by omega)⟩
    · rintro σ' H' ⟨cell, idx, rfl, kp, d, c0, hx⟩
      refine q_when (b := decide ((1000000000000000000 : Int) ≤ cell)) ?_ ?_ ?_
      · refine et_is (et_ge (ev_var rfl) (ev_op ev_c ev_c (rv_I (by refine ⟨by decide, by decide, by decide⟩)))) ?_
        rw [pow18]
      · intro hc H4 e4
        have hc := of_decide_eq_true hc
        have d4 := d.ex e4
        rcases hx with hx | ⟨j, jl, rfl⟩
        · omega
        refine q_setL (l := C) (xs := cs.map V.int) (j := j) (v := .int (cell / k)) d4.hC ?_ ?_ (ev_var rfl) (by rw [List.length_map]; exact jl) ?_
        · exact ev_op (ev_var rfl) (ev_var rfl) (rv_I ⟨by omega, by omega⟩)
        · exact ev_op (ev_var rfl) ev_c (rv_ixL (sq_of d4.hD) rfl)
        intro H5 e5
        refine s_ret (v := .int (cell % k)) ?_ ?_
        · exact ev_op (ev_var rfl) (ev_var rfl) (rv_I (by omega))
        intro H6 e6
        have d5 := d4.ex e5
        refine q _ _ (Int.emod_nonneg _ (by omega)) (Int.emod_lt_of_pos _ (by omega)) (((kp.trans (Kp.ex (e4.trans e5))).trans Kp.setC).trans (Kp.ex e6)) (Deck.ex e6 ⟨n + 1, cs.set j (cell / k), ⟨?_, ?_⟩, by omega, by omega, by rw [List.length_set]; exact cl, ?_⟩)
        · rw [upd_ne hDC]; exact d5.hD
        · rw [upd_same, List.map_set]
        · intro x hx
          rcases List.mem_or_eq_of_mem_set hx with h | h
          · exact cpos x h
          · rw [h]; exact Int.ediv_nonneg c0 (by omega)
      · intro hc H4 e4
        have d4 := d.ex e4
        have b0 : 0 ≤ cell % 2147483587 := Int.emod_nonneg _ (by decide)
        have b1 : cell % 2147483587 < 2147483587 := Int.emod_lt_of_pos _ (by decide)
        refine s_ret (v := .int (((cell % 2147483587 + 7919 * (n + 1) + 1) ^ (5 : Int).toNat) % 2147483647 / 7 % k)) ?_ ?_
        · refine ev_op (ev_op (ev_op (ev_op (ev_op (ev_op (ev_op (ev_var rfl) ev_c (rv_I ?_)) (ev_op ev_c (ev_op (ev_var rfl) ev_c (rv_ixL (sq_of d4.hD) rfl)) (rv_I ?_)) rv_I0) ev_c rv_I0) ev_c (rv_I ?_)) ev_c (rv_I ?_)) ev_c (rv_I ?_)) (ev_var rfl) (rv_I ?_)
          · decide
          · exact .inl ⟨by decide, by decide⟩
          · refine ⟨by decide, by decide, ?_⟩
            have : (2 : Nat) ^ 64 = 18446744073709551616 := by decide
            omega
          · decide
          · exact ⟨by decide, by decide⟩
          · omega
        intro H5 e5
        exact q _ _ (Int.emod_nonneg _ (by omega)) (Int.emod_lt_of_pos _ (by omega)) (kp.trans (Kp.ex (e4.trans e5))) (Deck.ex e5 ⟨n + 1, cs, d4, by omega, by omega, cl, cpos⟩)
theorem ok_l_same {f : Addr} {fd : FuncData} (F : Fun K "_law_same" "_law_same" s_l_same f fd) (m_repr : mg "repr" = none) : FnG P w K mg base 1 f fd ["_law_value", "_law_due"] (spSame K) := by
  refine okG F sc_l_same (fun vs H Q E h => ?_) (fun cdv A outer s H vs Q E gd hr h => ?_)
  · obtain ⟨a, b, d, rfl, _⟩ := h
    rfl
  · obtain ⟨a, b, d, rfl, ha, hb, h1, h2, h3, q⟩ := h
    refine ⟨_, (pss_one (ps_ret (pe_cmpR op_eq (pe_callB (call_reprK (K := K) rfl gd hr.units) (by rfl) m_repr (by decide +kernel) (pa_cons (pv 0) pa_nil)) (pe_callB (call_reprK (K := K) rfl gd hr.units) (by rfl) m_repr (by decide +kernel) (pa_cons (pv 1) pa_nil)) (nomark _)))), ?_⟩
    refine ⟨a, rfl, a, d, rfl, ha, h1, h2, h3, b, rfl, b, d, rfl, hb, h1, h2, h3, rfl, ?_⟩
    rw [decide_eq_true rfl]
    exact q
theorem ok_l_garden {f f_l_draw : Addr} {fd fd_l_draw : FuncData} (F : Fun K "_law_garden" "_law_garden" s_l_garden f fd) (m_len : mg "len" = none) (m_range : mg "range" = none) (m_set : mg "set" = none) (m_sorted : mg "sorted" = none) (m_tuple : mg "tuple" = none)
    (G_l_draw : FnOk P w K mg base CX0 1 f_l_draw fd_l_draw ["_law_deck_here", "_law_limit"] spDraw) (g_l_draw : mg "_law_draw" = some (.ref f_l_draw)) (F_l_draw : Fun K "_law_draw" "_law_draw" s_l_draw f_l_draw fd_l_draw) (b_l_draw : Binds K fd_l_draw ["_law_deck_here", "_law_limit"] []) :
    FnOk P w K mg base CX0 2 f fd ["_law_deck_here", "_law_most", "_law_top"] spGarden := by
  refine F.ok sc_l_garden (fun vs H Q E h => ?_) (fun cdv A outer s H vs Q E hr h => ?_)
  · obtain ⟨D, C, m, most, top, rfl, _⟩ := h
    rfl
  · obtain ⟨D, C, m, most, top, rfl, dk, mb, mo0, mo1, to0, to1, q⟩ := h
    have p6 : ∀ {σ : L2.St} H, Ev (tOp (rI CPow fun i j => .int (i ^ j.toNat)) (tC (.int 10)) (tC (.int 6))) σ H (.int 1000000) := fun H => ev_is (ev_op ev_c ev_c (rv_I (by refine ⟨by decide, by decide, by decide⟩))) (by rw [pow6])
    refine ⟨_, (pss_cons (ps_asg (pe_tup (pa_cons (pe_ix (ix_listK (K := K) rfl) (pe_lst (pa_cons (pe_call G_l_draw (hr.mono (by first | decide | omega)) (by rfl) g_l_draw F_l_draw.kp b_l_draw .nil pass0 (pa_cons (pv 0) (pa_cons (pe_op op_add (pv 1) pe_int) pa_nil))) (pa_cons (pv 1) pa_nil))) (pe_call G_l_draw (hr.mono (by first | decide | omega)) (by rfl) g_l_draw F_l_draw.kp b_l_draw .nil pass0 (pa_cons (pv 0) (pa_cons pe_int pa_nil))) (fun _ _ => rfl)) (pa_cons (pe_ix (ix_listK (K := K) rfl) (pe_lst (pa_cons (pe_op op_add (pv 1) pe_int) (pa_cons pe_int (pa_cons (pe_op op_pow pe_int pe_int) pa_nil)))) (pe_call G_l_draw (hr.mono (by first | decide | omega)) (by rfl) g_l_draw F_l_draw.kp b_l_draw .nil pass0 (pa_cons (pv 0) (pa_cons pe_int pa_nil))) (fun _ _ => rfl)) pa_nil))) (pg_tup rfl (pgs_cons (pg_name (i := 7) sc_l_garden.nd rfl (.inl rfl)) (pgs_cons (pg_name (i := 8) sc_l_garden.nd rfl (.inr rfl)) pgs_nil))))
    (pss_cons (ps_set (i := 3) sc_l_garden.nd rfl (.inr rfl) (pe_ix (ix_listK (K := K) rfl) (pe_lst (pa_cons (pe_op op_sub pe_int (pe_op op_fdiv (pv 8) pe_int)) (pa_cons (pe_op op_sub (pe_op op_pow pe_int pe_int) (pv 8)) (pa_cons (pe_un un_neg (pe_op op_pow pe_int pe_int)) (pa_cons (pe_op op_sub pe_int (pe_call G_l_draw (hr.mono (by first | decide | omega)) (by rfl) g_l_draw F_l_draw.kp b_l_draw .nil pass0 (pa_cons (pv 0) (pa_cons (pv 8) pa_nil)))) pa_nil))))) (pe_call G_l_draw (hr.mono (by first | decide | omega)) (by rfl) g_l_draw F_l_draw.kp b_l_draw .nil pass0 (pa_cons (pv 0) (pa_cons pe_int pa_nil))) (fun _ _ => rfl)))
    (pss_cons (ps_par (i := 9) (j := 10) (by rfl) sc_l_garden.nd rfl rfl (by decide) rfl rfl (pa_cons (pe_ix (ix_listK (K := K) rfl) (pe_lst (pa_cons pe_int (pa_cons pe_int (pa_cons (pv 2) pa_nil)))) (pe_call G_l_draw (hr.mono (by first | decide | omega)) (by rfl) g_l_draw F_l_draw.kp b_l_draw .nil pass0 (pa_cons (pv 0) (pa_cons pe_int pa_nil))) (fun _ _ => rfl)) (pa_cons (pe_lst pa_nil) pa_nil)) (by rfl))
    (pss_cons (ps_for PassesOwn.never rfl (pi_listK (K := K) rfl (pe_callB (cr_sortedSet rfl) (by rfl) m_sorted (by decide +kernel) (pa_cons (pe_callTy (cr_setK (K := K) rfl rfl) (by rfl) m_set (by decide +kernel) (pa_cons (pe_lc (own := [("_law_k", 11)]) (g := (gName 11)) rfl sc_l_garden.nd (pi_range1 (by rfl) m_range (pa_cons (pv 7) pa_nil)) (blkOk_by (N := N_l_garden) (sc := defScope s_l_garden) (by decide +kernel)) (fun _ _ _ _ _ => (pg_name (i := 11) sc_l_garden.nd rfl (.inl rfl))) (fun _ _ _ _ _ => pts_nil) (fun _ _ _ _ _ => (pe_op op_add (pv 3) (pe_call G_l_draw (hr.mono (by first | decide | omega)) (by rfl) g_l_draw F_l_draw.kp b_l_draw .nil pass0 (pa_cons (pv 0) (pa_cons (pv 8) pa_nil)))))) pa_nil)) pa_nil))) (pg_name (i := 4) sc_l_garden.nd rfl (.inl rfl))
      (pss_one (ps_expr (pe_bm PySem.F.plainAttrs_list PySem.F.slot_list_append PySem.F.type_list_append mt_append (pv 10) (pa_cons (pe_tup (pa_cons (pv 4) (pa_cons (pe_op op_add pe_int (pe_call G_l_draw (hr.mono (by first | decide | omega)) (by rfl) g_l_draw F_l_draw.kp b_l_draw .nil pass0 (pa_cons (pv 0) (pa_cons (pv 9) pa_nil)))) pa_nil))) pa_nil)))))
    (pss_cons (ps_set (i := 5) sc_l_garden.nd rfl (.inl rfl) (pe_ix (ix_listK (K := K) rfl) (pe_lst (pa_cons pe_int (pa_cons (pe_op op_add pe_int (pe_call G_l_draw (hr.mono (by first | decide | omega)) (by rfl) g_l_draw F_l_draw.kp b_l_draw .nil pass0 (pa_cons (pv 0) (pa_cons pe_int pa_nil)))) (pa_cons (pe_op op_add pe_int (pe_call G_l_draw (hr.mono (by first | decide | omega)) (by rfl) g_l_draw F_l_draw.kp b_l_draw .nil pass0 (pa_cons (pv 0) (pa_cons pe_int pa_nil)))) (pa_cons (pe_op op_add pe_int (pe_call G_l_draw (hr.mono (by first | decide | omega)) (by rfl) g_l_draw F_l_draw.kp b_l_draw .nil pass0 (pa_cons (pv 0) (pa_cons (pe_op op_pow pe_int pe_int) pa_nil)))) pa_nil))))) (pe_call G_l_draw (hr.mono (by first | decide | omega)) (by rfl) g_l_draw F_l_draw.kp b_l_draw .nil pass0 (pa_cons (pv 0) (pa_cons pe_int pa_nil))) (fun _ _ => rfl)))
    (pss_cons (ps_set (i := 6) sc_l_garden.nd rfl (.inl rfl) (pe_op op_cat (pe_lst (pa_cons (pe_op op_add (pv 3) (pe_call G_l_draw (hr.mono (by first | decide | omega)) (by rfl) g_l_draw F_l_draw.kp b_l_draw .nil pass0 (pa_cons (pv 0) (pa_cons (pv 8) pa_nil)))) (pa_cons (pv 3) (pa_cons (pe_op op_add (pv 3) (pv 8)) pa_nil)))) (pe_lc (own := [("_law_place", 4), ("_law_litres", 12)]) (g := (gTup K 2 (gCons (gName 4) (gCons (gName 12) gNil)))) rfl sc_l_garden.nd (pi_listK (K := K) rfl (pv 10)) (blkOk_by (N := N_l_garden) (sc := defScope s_l_garden) (by decide +kernel)) (fun _ _ _ _ _ => (pg_tup rfl (pgs_cons (pg_name (i := 4) sc_l_garden.nd rfl (.inl rfl)) (pgs_cons (pg_name (i := 12) sc_l_garden.nd rfl (.inl rfl)) pgs_nil)))) (fun _ _ _ _ _ => pts_nil) (fun _ _ _ _ _ => (pv 4)))))
    (pss_one (ps_ret (pe_tup (pa_cons (pe_ix (ix_listK (K := K) rfl) (pv 6) (pe_call G_l_draw (hr.mono (by first | decide | omega)) (by rfl) g_l_draw F_l_draw.kp b_l_draw .nil pass0 (pa_cons (pv 0) (pa_cons (pe_callB (call_lenK (K := K) rfl) (by rfl) m_len PySem.boot_len (pa_cons (pv 6) pa_nil)) pa_nil))) (fun _ _ => rfl)) (pa_cons (pv 5) (pa_cons (pe_callTy (call_tupleK (K := K) rfl) (by rfl) m_tuple (by decide +kernel) (pa_cons (pv 10) pa_nil)) pa_nil)))))))))))), ?_⟩
    -- count, span
    refine dr_pick (D := D) (C := C) (m := m) (m1 := m + 1) (m2 := m + 2) (n := 2) (R := fun i => 0 ≤ i ∧ i ≤ most) ?_ ?_ (by decide) H dk _ ?_
    · exact da_cons (dr_imp (dr_draw rfl (fun H => ev_op (ev_var rfl) ev_c rv_I0) (by omega) (by omega) (by omega)) (fun i h => by omega)) (da_cons (dr_pure (fun H => ev_var rfl) (by omega)) da_nil)
    · exact dr_draw rfl (fun H => ev_c) (by omega) (by omega) (by omega)
    intro count H1 kp1 dk1 hcount
    refine dr_pick (D := D) (C := C) (m := m + 2) (m1 := m + 2) (m2 := m + 3) (n := 3) (R := fun i => 1 ≤ i ∧ i ≤ 1000000) ?_ ?_ (by decide) H1 dk1 _ ?_
    · exact da_cons (dr_pure (fun H => ev_op (ev_var rfl) ev_c rv_I0) (by omega)) (da_cons (dr_pure (fun H => ev_c) (by omega)) (da_cons (dr_pure p6 (by omega)) da_nil))
    · exact dr_draw rfl (fun H => ev_c) (by omega) (by omega) (by omega)
    intro span H2 kp2 dk2 hspan
    refine ⟨by show 2 ≤ sizeLine; decide, fun p np => ⟨p, _, rfl, st_of upd_same, rfl, .int count, _, rfl, .int span, _, rfl, rfl, ?_⟩⟩
    have kp3 : Kp D C H (upd H2 p (.tup [.int count, .int span])) := (kp1.trans kp2).trans (Kp.ex (Ex.new np))
    have dk3 := dk2.ex (Ex.new (o := .tup [.int count, .int span]) np)
    dsimp only [gName]
    show tSeq _ _ _ _ (upd H2 p (.tup [.int count, .int span]))
    generalize upd H2 p (.tup [.int count, .int span]) = H3 at kp3 dk3
    clear kp1 kp2 dk1 dk2 np
    -- low
    refine dr_pick (D := D) (C := C) (m := m + 3) (m1 := m + 4) (m2 := m + 5) (n := 4) (R := fun i => -1000000 ≤ i ∧ i + span ≤ 1000000) ?_ ?_ (by decide) H3 dk3 _ ?_
    · refine da_cons (m1 := m + 3) ?_ (da_cons (m1 := m + 3) ?_ (da_cons (m1 := m + 3) ?_ (da_cons (m1 := m + 4) ?_ da_nil)))
      · exact dr_pure (i := 0 - span / 2) (fun H => ev_op ev_c (ev_op (ev_var rfl) ev_c (rv_I ⟨by decide, by decide⟩)) rv_I0) (by omega)
      · exact dr_pure (i := 1000000 - span) (fun H => ev_op (p6 H) (ev_var rfl) rv_I0) (by omega)
      · exact dr_pure (i := -1000000) (fun H => ev_un (p6 H) ru_neg) (by omega)
      · exact dr_op (f := fun i j => i - j) (dr_pure (m := m + 3) (R := fun i => i = 0) (fun H => ev_c) rfl) (dr_draw rfl (fun H => ev_var rfl) (by omega) (by omega) (by omega)) (fun i j h1 h2 => by omega)
    · exact dr_draw rfl (fun H => ev_c) (by omega) (by omega) (by omega)
    intro low H4 kp4 dk4 hlow
    replace kp4 := kp3.trans kp4
    clear kp3 dk3
    dsimp only [gName]
    -- bound, beds
    refine dr_pick (D := D) (C := C) (m := m + 5) (m1 := m + 5) (m2 := m + 6) (n := 3) (R := fun i => 1 ≤ i ∧ (i ≤ 12 ∨ i ≤ top)) ?_ ?_ (by decide) H4 dk4 _ ?_
    · exact da_cons (dr_pure (fun H => ev_c) (by omega)) (da_cons (dr_pure (fun H => ev_c) (by omega)) (da_cons (dr_pure (fun H => ev_var rfl) (by omega)) da_nil))
    · exact dr_draw rfl (fun H => ev_c) (by omega) (by omega) (by omega)
    intro bound H5 kp5 dk5 hbound
    replace kp5 := kp4.trans kp5
    clear kp4 dk4
    refine ⟨by show 0 ≤ sizeLine; decide, fun L nL => ⟨_, _, rfl, ?_⟩⟩
    obtain ⟨nLD, nLC⟩ := Kp.free dk5 nL
    have eN := Ex.new (o := .lst []) nL
    have kp6 := kp5.trans (Kp.ex eN)
    have dk6 := dk5.ex eN
    have hL6 : upd H5 L (.lst []) L = some (.lst []) := upd_same
    have nLH : H L = none := kp5.back nLD nLC nL
    generalize upd H5 L (.lst []) = H6 at kp6 dk6 hL6
    clear kp5 dk5 eN nL
    -- the places and the beds
    dsimp only
    refine q_forS (K := K) (fun p xs H' => ∃ ms : List Int, xs = ms.map V.int ∧ Asc ms ∧ (ms.length : Int) ≤ count ∧ (∀ x ∈ ms, low ≤ x ∧ x < low + span) ∧ Kp D C H H' ∧ Deck D C (m + 18) H' ∧ H' L = some (.lst []) ∧ H' p = some (.lst xs) ∧ p ≠ D ∧ p ≠ C ∧ p ≠ L) ?_ ?_
      (fun p xs i σ' H' => ∃ (ms : List Int) (y4 : Option V) (bs : List Bed) (zs : List V), xs = ms.map V.int ∧ Asc ms ∧ (ms.length : Int) ≤ count ∧ (∀ x ∈ ms, low ≤ x ∧ x < low + span) ∧ p ≠ D ∧ p ≠ C ∧ p ≠ L ∧
        σ' = [some (.ref D), some (.int most), some (.int top), some (.int low), y4, none, none, some (.int count), some (.int span), some (.int bound), some (.ref L), none, none] ∧ Kp D C H H' ∧ Deck D C (m + 18 + i) H' ∧
        H' p = some (.lst xs) ∧ H' L = some (.lst zs) ∧ TpAll H' zs (bs.map bedD) ∧ bs.map (·.1) = ms.take i ∧ ∀ b ∈ bs, 1 ≤ b.2 ∧ (b.2 ≤ 12 ∨ b.2 ≤ top)) ?_ ?_ ?_ ?_
    · intro Q2 fin
      refine ⟨.int count, rfl, count, rfl, by omega, by omega, fun W nW => ?_⟩
      obtain ⟨nWD, nWC⟩ := Kp.free dk6 nW
      have nWH : H W = none := kp6.back nWD nWC nW
      have nWL : W ≠ L := fun z => by rw [z, hL6] at nW; cases nW
      refine lc_range (lo := 0) (n := count.toNat) (fun i H' => Kp D C H H' ∧ H' L = some (.lst []) ∧ Deck D C (m + 6 + i) H' ∧ ∃ ns : List Int, H' W = some (.lst (ns.map V.int)) ∧ ns.length = i ∧ ∀ x ∈ ns, low ≤ x ∧ x < low + span) ?_ ?_ ?_
      · exact ⟨kp6.mut nWH, by rw [upd_ne nWL.symm]; exact hL6, (dk6.mut nWD nWC).mono (by omega), [], upd_same, rfl, fun _ h => nomatch h⟩
      · rintro i H7 hi ⟨kp7, hL7, dk7, ns, hW7, len, rng⟩
        refine ⟨rfl, ?_⟩
        dsimp only [tYes]
        rw [if_pos rfl]
        refine dr_op (D := D) (C := C) (m := m + 6 + i) (m1 := m + 6 + i) (m2 := m + 6 + i + 1) (f := fun i j => i + j) (R1 := fun z => z = low) (R2 := fun r => 0 ≤ r ∧ r < span) (R := fun z => low ≤ z ∧ z < low + span) ?_ ?_ (fun i j h1 h2 => by omega) H7 dk7 _ ?_
        · exact dr_pure (fun H => ev_var rfl) rfl
        · exact dr_draw rfl (fun H => ev_var rfl) (by omega) (by omega) (by omega)
        intro z H8 kp8 dk8 hz
        have hW8 := kp8 W _ nWD nWC hW7
        refine ⟨_, hW8, by rw [List.length_map, len]; exact sz_lt (by omega), (kp7.trans kp8).mut nWH, by rw [upd_ne nWL.symm]; exact kp8 L _ nLD nLC hL7, (dk8.mut nWD nWC).mono (by omega), ns ++ [z], by rw [upd_same, List.map_append]; rfl, by simp [len], fun x hx => ?_⟩
        rcases List.mem_append.mp hx with h | h
        · exact rng x h
        · rw [List.mem_singleton.mp h]; exact hz
      rintro H7 ⟨kp7, hL7, dk7, ns, hW7, len, rng⟩
      dsimp only [tNil]
      refine sortset ⟨W, ns, rfl, sq_of hW7, by omega, fun ms p2 H8 asc mem np2 ex8 h8 => ?_⟩
      have hms : ms.length ≤ count.toNat := by
        have := len_sortU ns
        rw [← sortU_eq asc mem, len] at this
        exact this
      obtain ⟨n2D, n2C⟩ := Kp.free dk7 np2
      exact fin p2 _ H8 ⟨ms, rfl, asc, by omega, fun x hx => rng x ((mem x).mp hx), kp7.trans (Kp.ex ex8), Deck.mono (by omega) (Deck.ex ex8 dk7), ex8 L _ hL7, h8, n2D, n2C, fun z => by rw [z, hL7] at np2; cases np2⟩
    · rintro p xs H' ⟨ms, rfl, _, _, _, _, _, _, h, _⟩
      exact sq_of h
    · rintro p xs H' ⟨ms, rfl, asc, cnt, rng, kp, dk, hL, h, n1, n2, n3⟩
      exact ⟨ms, none, [], [], rfl, asc, cnt, rng, n1, n2, n3, rfl, kp, dk.mono (by omega), h, hL, .nil, rfl, fun _ h => nomatch h⟩
    · rintro p xs i σ' H' _ ⟨_, _, _, _, _, _, _, _, _, _, _, _, _, _, h, _⟩
      exact sq_of h
    · rintro p2 _ i x σ' H9 hx ⟨ms, y4, bs, xs, rfl, asc, cnt, rng8, n2D, n2C, n2L, rfl, kp9, dk9, h9, hL9, t9, mp, lt⟩
      have hi : i < ms.length := by
        have := (List.getElem?_eq_some_iff.mp hx).1
        rw [List.length_map] at this
        exact this
      rw [List.getElem?_map, List.getElem?_eq_getElem hi] at hx
      cases hx
      have lenb : bs.length = i := by
        have := congrArg List.length mp
        rw [List.length_map, List.length_take] at this
        omega
      refine ⟨.ref L, rfl, .inl ⟨rfl, _, sq_of hL9⟩, .int ms[i], rfl, ?_⟩
      refine dr_op (D := D) (C := C) (m := m + 18 + i) (m1 := m + 18 + i) (m2 := m + 18 + i + 1) (f := fun i j => i + j) (R1 := fun z => z = 1) (R2 := fun r => 0 ≤ r ∧ r < bound) (R := fun z => 1 ≤ z ∧ (z ≤ 12 ∨ z ≤ top)) ?_ ?_ (fun i j h1 h2 => by omega) H9 dk9 _ ?_
      · exact dr_pure (fun H => ev_c) rfl
      · exact dr_draw rfl (fun H => ev_var rfl) (by omega) (by omega) (by omega)
      intro lit H10 kp10 dk10 hlit
      refine ⟨by show 2 ≤ sizeLine; decide, fun T nT => ?_⟩
      obtain ⟨nTD, nTC⟩ := Kp.free dk10 nT
      have eT := Ex.new (o := .tup [.int ms[i], .int lit]) nT
      have hL10 := eT L _ (kp10 L _ nLD nLC hL9)
      refine ⟨L, xs, .ref T, rfl, rfl, hL10, sz_lt (by rw [t9.length, List.length_map]; omega), ?_⟩
      refine ⟨ms, some (.int ms[i]), bs ++ [(ms[i], lit)], xs ++ [.ref T], rfl, asc, cnt, rng8, n2D, n2C, n2L, rfl, ((kp9.trans kp10).trans (Kp.ex eT)).mut nLH, ((dk10.ex eT).mut nLD nLC).mono (by omega), by rw [upd_ne n2L]; exact eT p2 _ (kp10 p2 _ n2D n2C h9), upd_same, ?_, ?_, ?_⟩
      · rw [List.map_append]
        exact (((t9.mono (Kp.tk dk9 kp10)).mono (Tk.ex eT)).append (.cons (bed_of (b := (ms[i], lit)) (.inl upd_same)) .nil)).mono (Tk.lst hL10)
      · rw [List.map_append, mp, List.take_add_one, List.getElem?_eq_getElem hi]
        rfl
      · intro b hb
        rcases List.mem_append.mp hb with h | h
        · exact lt b h
        · rw [List.mem_singleton.mp h]; exact hlit
    rintro p2 _ σ' H9 ⟨ms, y4, bs, xs, rfl, asc, cnt, rng8, n2D, n2C, n2L, rfl, kp9, dk9, h9, hL9, t9, mp, lt⟩
    rw [List.length_map, List.take_length] at mp
    rw [List.length_map] at dk9
    have dk9 : Deck D C (m + 30) H9 := dk9.mono (by omega)
    have lenb : bs.length = ms.length := by rw [← mp, List.length_map]
    clear h9 n2D n2C n2L
    -- can
    refine dr_pick (D := D) (C := C) (m := m + 30) (m1 := m + 33) (m2 := m + 34) (n := 4) (R := fun i => 1 ≤ i ∧ i ≤ 1000000) ?_ ?_ (by decide) H9 dk9 _ ?_
    · refine da_cons (m1 := m + 30) ?_ (da_cons (m1 := m + 31) ?_ (da_cons (m1 := m + 32) ?_ (da_cons (m1 := m + 33) ?_ da_nil)))
      · exact dr_pure (i := 1) (fun H => ev_c) (by omega)
      · exact dr_op (f := fun i j => i + j) (dr_pure (m := m + 30) (R := fun i => i = 1) (fun H => ev_c) rfl) (dr_draw rfl (fun H => ev_c) (by omega) (by omega) (by omega)) (fun i j h1 h2 => by omega)
      · exact dr_op (f := fun i j => i + j) (dr_pure (m := m + 31) (R := fun i => i = 1) (fun H => ev_c) rfl) (dr_draw rfl (fun H => ev_c) (by omega) (by omega) (by omega)) (fun i j h1 h2 => by omega)
      · exact dr_op (f := fun i j => i + j) (dr_pure (m := m + 32) (R := fun i => i = 1) (fun H => ev_c) rfl) (dr_draw rfl p6 (by omega) (by omega) (by omega)) (fun i j h1 h2 => by omega)
    · exact dr_draw rfl (fun H => ev_c) (by omega) (by omega) (by omega)
    intro can H10 kp10 dk10 hcan
    have hL10 := kp10 L _ nLD nLC hL9
    have t10 := t9.mono (Kp.tk dk9 kp10)
    replace kp10 := kp9.trans kp10
    clear kp9 dk9 hL9 t9
    dsimp only [gName]
    -- taps
    rw [show ∀ (a b : TE) (g : TG) (z : TS) (D' : Ends) (σ' : L2.St) (H' : Hp), tSeq (tAsg (tOp rCat a b) g) z D' σ' H' = a σ' H' (fun x H1 => b σ' H1 fun y H2 => rCat x y H2 fun v H3 => g v σ' H3 (z D')) from fun _ _ _ _ _ _ _ => rfl]
    rw [show ∀ (ta : TA) (σ' : L2.St) (H' : Hp) (Q : VK), tLst ta σ' H' Q = ta σ' H' (fun xs H1 => xs.length ≤ sizeLine ∧ ∀ p, H1 p = none → Q (.ref p) (upd H1 p (.lst xs))) from fun _ _ _ _ => rfl]
    refine da_cons (D := D) (C := C) (m := m + 34) (m1 := m + 35) (m2 := m + 35) (n := 2) (R := fun i => -1000000 ≤ i ∧ i ≤ 1000000) ?_ (da_cons (m1 := m + 35) ?_ (da_cons (m1 := m + 35) ?_ da_nil)) H10 dk10 _ ?_
    · exact dr_op (f := fun i j => i + j) (dr_pure (m := m + 34) (R := fun i => i = low) (fun H => ev_var rfl) rfl) (dr_draw rfl (fun H => ev_var rfl) (by omega) (by omega) (by omega)) (fun i j h1 h2 => by omega)
    · exact dr_pure (i := low) (fun H => ev_var rfl) (by omega)
    · exact dr_pure (i := low + span) (fun H => ev_op (ev_var rfl) (ev_var rfl) rv_I0) (by omega)
    intro is H11 kp11 dk11 len3 his
    have hL11 := kp11 L _ nLD nLC hL10
    have t11 := t10.mono (Kp.tk dk10 kp11)
    replace kp11 := kp10.trans kp11
    clear kp10 dk10 hL10 t10
    refine ⟨sz_of (by rw [List.length_map]; omega), fun p3 np3 => ?_⟩
    have e3 := Ex.new (o := .lst (is.map V.int)) np3
    refine el_nums (ns := bs.map (·.1)) (eld_is (eld_bedsL (K := K) (bs := bs) (fun _ => true) (fun b => .int b.1) (ev_var rfl) (e3 L _ hL11) (t11.mono (Tk.ex e3)) (by omega) (fun _ _ => rfl) (fun _ _ => et_yes) (fun b _ _ => ed_int (ev_var rfl))) (by rw [List.filter_eq_self.mpr (fun _ _ => rfl)]; exact (List.map_map ..).symm)) _ (Ex.refl _) _ ?_
    intro p4 H12 np4 e12 h12
    refine ⟨p3, p4, _, _, rfl, rfl, e12 p3 _ upd_same, h12, sz_of (by rw [List.length_map, List.length_map, List.length_map]; omega), fun r nr => ?_⟩
    have eR : Ex H11 (upd H12 r (.lst (is.map V.int ++ (bs.map (·.1)).map V.int))) := (e3.trans e12).trans (Ex.new nr)
    have hr13 : upd H12 r (.lst (is.map V.int ++ (bs.map (·.1)).map V.int)) r = some (.lst ((is ++ bs.map (·.1)).map V.int)) := by rw [upd_same, List.map_append]
    dsimp only [gName]
    generalize upd H12 r (.lst (is.map V.int ++ (bs.map (·.1)).map V.int)) = H13 at eR hr13
    have kp13 := kp11.trans (Kp.ex eR)
    have dk13 := dk11.ex eR
    have hL13 := eR L _ hL11
    have t13 := t11.mono (Tk.ex eR)
    obtain ⟨nrD, nrC⟩ := Kp.free dk11 (show H11 r = none from fresh_back (e3.trans e12) nr)
    clear kp11 dk11 hL11 t11 e3 np3 e12 h12 np4 nr eR
    have lenT : ((is ++ bs.map (·.1)).map V.int).length = 3 + bs.length := by simp; omega
    -- the end
    refine ⟨.ref r, rfl, .ref D, rfl, .ref r, rfl, r, _, rfl, .inl (sq_of hr13), D, C, m + 35, _, rfl, dk13, by omega, by rw [lenT]; omega, by rw [lenT]; omega, fun ix H14 i0 i1 kp14 dk14 => ?_⟩
    obtain ⟨j, rfl⟩ : ∃ j : Nat, ix = j := ⟨ix.toNat, by omega⟩
    have jl : j < (is ++ bs.map (·.1)).length := by
      rw [List.length_map] at i1
      omega
    have hr14 := kp14 r _ nrD nrC hr13
    have hL14 := kp14 L _ nLD nLC hL13
    have t14 := t13.mono (Kp.tk dk13 kp14)
    refine ⟨r, _, (j : Int), .int (is ++ bs.map (·.1))[j], rfl, rfl, sq_of hr14, atI_nat (by rw [List.getElem?_map, List.getElem?_eq_getElem jl]; rfl), .int can, rfl, .ref L, rfl, L, xs, rfl, sq_of hL14, fun B ob nB nod => ⟨by show 3 ≤ sizeLine; decide, fun G nG => ?_⟩⟩
    have eB := Ex.new (o := .frz ob (.tup xs)) nB
    have eG := Ex.new (o := .tup [.int (is ++ bs.map (·.1))[j], .int can, .ref B]) nG
    have mem_ms : ∀ b ∈ bs, low ≤ b.1 ∧ b.1 < low + span := fun b hb => rng8 _ (mp ▸ List.mem_map_of_mem hb)
    refine q _ (is ++ bs.map (·.1))[j] can bs _ ⟨?_, ?_, by omega, by omega, by rw [mp]; exact asc, fun b hb => ?_, fun b hb => ?_, fun b hb => (lt b hb).1, fun b hb => (lt b hb).2, by omega⟩ ⟨G, B, xs, ob, rfl, .inl upd_same, eG B _ upd_same, nod, t14.mono (Tk.ex (eB.trans eG))⟩ ((kp13.trans kp14).trans (Kp.ex (eB.trans eG))) ((dk14.ex (eB.trans eG)).mono (by omega))
    · rcases List.mem_append.mp (List.getElem_mem jl) with h | h
      · have := his _ h; omega
      · obtain ⟨b, hb, e⟩ := List.mem_map.mp h
        have := mem_ms b hb
        omega
    · rcases List.mem_append.mp (List.getElem_mem jl) with h | h
      · have := his _ h; omega
      · obtain ⟨b, hb, e⟩ := List.mem_map.mp h
        have := mem_ms b hb
        omega
    · have := mem_ms b hb; omega
    · have := mem_ms b hb; omega
end
end K00

namespace K00
open PySem PySem.Spec PyProof.Rows L2 Evl Cn
section
variable {P : Program} {w : World} {K : PySem.W.Frag} {mg : Str → Option Value} {base : Heap}
theorem ok_l_odd {f : Addr} {fd : FuncData} (F : Fun K "_law_odd" "_law_odd" s_l_odd f fd) {f_l_draw : Addr} {fd_l_draw : FuncData} (G_l_draw : FnOk P w K mg base CX0 1 f_l_draw fd_l_draw ["_law_deck_here", "_law_limit"] spDraw) (g_l_draw : mg "_law_draw" = some (.ref f_l_draw)) (F_l_draw : Fun K "_law_draw" "_law_draw" s_l_draw f_l_draw fd_l_draw) (b_l_draw : Binds K fd_l_draw ["_law_deck_here", "_law_limit"] [])  : FnOk P w K mg base CX0 2 f fd ["_law_deck_here"] spOdd := by
  refine F.ok sc_l_odd (fun vs H Q E h => ?_) (fun cdv A outer s H vs Q E hr h => ?_)
  · obtain ⟨D, C, m, rfl, _⟩ := h
    rfl
  · obtain ⟨D, C, m, rfl, dk, mb, q⟩ := h
    refine ⟨_, (pss_cons (ps_set (i := 1) sc_l_odd.nd rfl (.inl rfl) (pe_lst (pa_cons pe_non (pa_cons pe_bl (pa_cons pe_bl (pa_cons (pe_un un_neg pe_int) (pa_cons pe_int (pa_cons pe_int (pa_cons (pe_op op_pow pe_int pe_int) (pa_cons (pe_op op_add (pe_op op_pow pe_int pe_int) pe_int) (pa_cons (pe_op op_pow pe_int pe_int) (pa_cons pe_str (pa_cons pe_str (pa_cons (pe_tup pa_nil) (pa_cons (pe_lstZ pa_nil) (pa_cons (pe_dz pe_dnewK) (pa_cons (pe_tup (pa_cons pe_int pa_nil)) (pa_cons (pe_lstZ (pa_cons pe_int pa_nil)) (pa_cons (pe_tup (pa_cons pe_bl pa_nil)) pa_nil)))))))))))))))))))
    (pss_one (ps_ret (pe_ix (ix_listK (K := K) rfl) (pe_op op_cat (pv 1) (pe_lst (pa_cons (pe_tup (pa_cons pe_int (pa_cons pe_int pa_nil))) (pa_cons (pe_tup (pa_cons (pe_tup (pa_cons pe_int (pa_cons pe_int pa_nil))) pa_nil)) (pa_cons (pe_tup (pa_cons pe_int (pa_cons pe_int (pa_cons (pe_tup pa_nil) pa_nil)))) (pa_cons (pe_tup (pa_cons (pe_tup (pa_cons (pe_tup (pa_cons pe_int (pa_cons pe_int pa_nil))) pa_nil)) (pa_cons pe_int pa_nil))) (pa_cons (pe_tup (pa_cons (pe_tup pa_nil) pa_nil)) (pa_cons (pe_dz (pe_disp (pps_cons pe_str pe_int pps_nil) rfl rfl (by decide) (by decide))) (pa_cons (pe_un un_neg (pe_op op_pow pe_int pe_int)) pa_nil))))))))) (pe_call G_l_draw (hr.mono (by first | decide | omega)) (by rfl) g_l_draw F_l_draw.kp b_l_draw .nil pass0 (pa_cons (pv 0) (pa_cons pe_int pa_nil))) (fun _ _ => rfl))))), ?_⟩
    refine q_asgLd (ds := oddA) ?_ ?_
    · refine eld_lst ?_ (by decide)
      refine ead_cons ed_non (ead_cons ed_bl (ead_cons ed_bl (ead_cons (ed_int ev_m1) (ead_cons ed_i (ead_cons ed_i (ead_cons (ed_int ev_p6) (ead_cons (ed_int (ev_op ev_p6 ev_c rv_I0)) (ead_cons (ed_int ev_p39) (ead_cons ed_str (ead_cons ed_str ?_))))))))))
      exact ead_cons (ed_tup ead_nil (by simp)) (ead_cons (ed_lstZ ead_nil (by simp)) (ead_cons ed_d0 (ead_cons (ed_tup (ead_cons ed_i ead_nil) (by simp)) (ead_cons (ed_lstZ (ead_cons ed_i ead_nil) (by simp)) (ead_cons (ed_tup (ead_cons ed_bl ead_nil) (by simp)) ead_nil)))))
    intro p xs H1 hp e1 h1 t1
    refine eld_catV (ds := oddA) (es := oddB) (ev_var rfl) h1 t1 ?_ (by decide) H1 (Ex.refl H1) _ ?_
    · refine eld_lst ?_ (by decide)
      have t01 : ∀ {σ : L2.St} {H : Hp}, EvD (tTup (tCons (tC (.int 0)) (tCons (tC (.int 1)) tNil))) σ H (.tuple [.int 0, .int 1]) := ed_tup (ead_cons ed_i (ead_cons ed_i ead_nil)) (by simp)
      refine ead_cons t01 (ead_cons (ed_tup (ead_cons t01 ead_nil) (by simp)) (ead_cons (ed_tup (ead_cons ed_i (ead_cons ed_i (ead_cons (ed_tup ead_nil (by simp)) ead_nil))) (by simp)) (ead_cons (ed_tup (ead_cons (ed_tup (ead_cons t01 ead_nil) (by simp)) (ead_cons ed_i ead_nil)) (by simp)) ?_)))
      exact ead_cons (ed_tup (ead_cons (ed_tup ead_nil (by simp)) ead_nil) (by simp)) (ead_cons ed_d1 (ead_cons (ed_int ev_m6) ead_nil))
    intro p2 ys H2 hp2 e2 h2 t2
    have e02 := e1.trans e2
    refine ⟨.ref D, rfl, D, C, m, 24, rfl, dk.ex e02, by omega, by omega, by omega, fun r H3 r0 r1 kp3 dk3 => ?_⟩
    obtain ⟨j, rfl⟩ : ∃ j : Nat, r = j := ⟨r.toNat, by omega⟩
    have lj : j < oddL.length := by
      have : oddL.length = 24 := rfl
      omega
    obtain ⟨n1, n2⟩ := Kp.free (dk.ex e1) hp2
    obtain ⟨v, hv, tv⟩ := (t2.mono (Kp.tk (dk.ex e02) kp3)).get (i := j) (d := oddL[j]) (List.getElem?_eq_getElem lj)
    exact ⟨p2, ys, (j : Int), v, rfl, rfl, sq_of (kp3 p2 _ n1 n2 h2), atI_nat hv, q v _ H3 (List.getElem_mem lj) tv ((Kp.ex e02).trans kp3) dk3⟩
theorem ok_l_is_number {f : Addr} {fd : FuncData} (F : Fun K "_law_is_number" "_law_is_number" s_l_is_number f fd) (m_isinstance : mg "isinstance" = none) (m_int : mg "int" = none) (m_bool : mg "bool" = none) : FnOk P w K mg base CX0 1 f fd ["_law_value", "_law_low", "_law_high"] sp_is_number_within := by
  refine F.ok sc_l_is_number (fun vs H Q E h => ?_) (fun cdv A outer s H vs Q E hr h => ?_)
  · obtain ⟨v, d, lo, hi, rfl, _⟩ := h
    rfl
  · obtain ⟨v, d, lo, hi, rfl, tv, q⟩ := h
    refine ⟨_, (pss_one (ps_ret (pe_and (pe_callB (call_isiN (K := K) rfl) (by rfl) m_isinstance (by decide +kernel) (pa_cons (pv 0) (pa_cons (pe_bltn (v := .ty "int") (by rfl) m_int (by decide +kernel) rfl) pa_nil))) (pe_and (pe_not (pe_callB (call_isiN (K := K) rfl) (by rfl) m_isinstance (by decide +kernel) (pa_cons (pv 0) (pa_cons (pe_bltn (v := .ty "bool") (by rfl) m_bool (by decide +kernel) rfl) pa_nil)))) (pe_one (pe_chain op_le op_le (pv 1) (pv 0) (pv 2))))))), ?_⟩
    refine s_ret (v := .bl (isI d && (!isB d && inI lo hi d))) ?_ (fun H1 e1 => ?_)
    · refine ev_and (ev_isi kit_int (ed_var rfl tv)) (fun hi' => ev_and (ev_not (ev_isi kit_bool (ed_var rfl tv))) (fun hb => ?_))
      obtain ⟨i, rfl⟩ := isN_int (d := d) (by rw [isN, hi', hb]; rfl)
      rw [tv.int_inv]
      exact ev_chain (f := fun i j => decide (i ≤ j)) (g := fun i j => decide (i ≤ j)) (ev_var rfl) (ev_var rfl) (ev_var rfl)
    · have := q H1 e1
      have e : (isI d && (!isB d && inI lo hi d)) = inI lo hi d := by cases d <;> simp [isI, isB, inI]
      rw [e]
      exact this
theorem ok_l_error {f : Addr} {fd : FuncData} (F : Fun K "_law_error" "_law_error" s_l_error f fd) (m_isinstance : mg "isinstance" = none) (m_len : mg "len" = none) (m_tuple : mg "tuple" = none) (m_range : mg "range" = none) {f_l_is_number : Addr} {fd_l_is_number : FuncData} (G_l_is_number : FnOk P w K mg base CX0 1 f_l_is_number fd_l_is_number ["_law_value", "_law_low", "_law_high"] sp_is_number_within) (g_l_is_number : mg "_law_is_number" = some (.ref f_l_is_number)) (F_l_is_number : Fun K "_law_is_number" "_law_is_number" s_l_is_number f_l_is_number fd_l_is_number) (b_l_is_number : Binds K fd_l_is_number ["_law_value", "_law_low", "_law_high"] [])  : FnOk P w K mg base CX0 2 f fd ["_law_value"] sp_garden_error := by
  refine F.ok sc_l_error (fun vs H Q E h => ?_) (fun cdv A outer s H vs Q E hr h => ?_)
  · obtain ⟨v, d, rfl, _⟩ := h
    rfl
  · obtain ⟨v, d, rfl, tv, q⟩ := h
    refine ⟨_, (pss_cons (ps_if (PW.pt (pw_or (pt_not (pt_val (pe_callB (call_isiN (K := K) rfl) (by rfl) m_isinstance (by decide +kernel) (pa_cons (pv 0) (pa_cons (pe_bltn (v := .ty "tuple") (by rfl) m_tuple (by decide +kernel) rfl) pa_nil))))) (pw_or1 (pt_cmpR op_ne (pe_callB (call_lenK (K := K) rfl) (by rfl) m_len PySem.boot_len (pa_cons (pv 0) pa_nil)) pe_int (nomark _))))) (pss_one (ps_ret (pe_tup (pa_cons pe_non (pa_cons pe_str pa_nil))))) pss_nil)
    (pss_cons (ps_if (pt_not (pt_val (pe_call G_l_is_number (hr.mono (by first | decide | omega)) (by rfl) g_l_is_number F_l_is_number.kp b_l_is_number .nil pass0 (pa_cons (pe_ix (ix_tupK (K := K) rfl) (pv 0) pe_int (fun _ _ => rfl)) (pa_cons (pe_un un_neg (pe_op op_pow pe_int pe_int)) (pa_cons (pe_op op_pow pe_int pe_int) pa_nil)))))) (pss_one (ps_ret (pe_tup (pa_cons pe_non (pa_cons pe_str pa_nil))))) pss_nil)
    (pss_cons (ps_if (pt_not (pt_val (pe_call G_l_is_number (hr.mono (by first | decide | omega)) (by rfl) g_l_is_number F_l_is_number.kp b_l_is_number .nil pass0 (pa_cons (pe_ix (ix_tupK (K := K) rfl) (pv 0) pe_int (fun _ _ => rfl)) (pa_cons pe_int (pa_cons (pe_op op_pow pe_int pe_int) pa_nil)))))) (pss_one (ps_ret (pe_tup (pa_cons pe_non (pa_cons pe_str pa_nil))))) pss_nil)
    (pss_cons (ps_if (PW.pt (pw_or (pt_not (pt_val (pe_callB (call_isiN (K := K) rfl) (by rfl) m_isinstance (by decide +kernel) (pa_cons (pe_ix (ix_tupK (K := K) rfl) (pv 0) pe_int (fun _ _ => rfl)) (pa_cons (pe_bltn (v := .ty "tuple") (by rfl) m_tuple (by decide +kernel) rfl) pa_nil))))) (pw_or1 (pt_cmpR op_gt (pe_callB (call_lenK (K := K) rfl) (by rfl) m_len PySem.boot_len (pa_cons (pe_ix (ix_tupK (K := K) rfl) (pv 0) pe_int (fun _ _ => rfl)) pa_nil)) pe_int (nomark _))))) (pss_one (ps_ret (pe_tup (pa_cons pe_non (pa_cons pe_str pa_nil))))) pss_nil)
    (pss_cons (ps_set (i := 1) sc_l_error.nd rfl (.inl rfl) (pe_op op_sub (pe_un un_neg (pe_op op_pow pe_int pe_int)) pe_int))
    (pss_cons (ps_for PassesOwn.never rfl (pi_range1 (by rfl) m_range (pa_cons (pe_callB (call_lenK (K := K) rfl) (by rfl) m_len PySem.boot_len (pa_cons (pe_ix (ix_tupK (K := K) rfl) (pv 0) pe_int (fun _ _ => rfl)) pa_nil)) pa_nil)) (pg_name (i := 2) sc_l_error.nd rfl (.inl rfl))
      (pss_cons (ps_set (i := 3) sc_l_error.nd rfl (.inl rfl) (pe_ix (ix_tupK (K := K) rfl) (pe_ix (ix_tupK (K := K) rfl) (pv 0) pe_int (fun _ _ => rfl)) (pv 2) (fun _ _ => rfl)))
    (pss_cons (ps_if (PW.pt (pw_or (pt_not (pt_val (pe_callB (call_isiN (K := K) rfl) (by rfl) m_isinstance (by decide +kernel) (pa_cons (pv 3) (pa_cons (pe_bltn (v := .ty "tuple") (by rfl) m_tuple (by decide +kernel) rfl) pa_nil))))) (pw_or (pt_cmpR op_ne (pe_callB (call_lenK (K := K) rfl) (by rfl) m_len PySem.boot_len (pa_cons (pv 3) pa_nil)) pe_int (nomark _)) (pw_or1 (pt_not (pt_val (pe_call G_l_is_number (hr.mono (by first | decide | omega)) (by rfl) g_l_is_number F_l_is_number.kp b_l_is_number .nil pass0 (pa_cons (pe_ix (ix_tupK (K := K) rfl) (pv 3) pe_int (fun _ _ => rfl)) (pa_cons (pe_op op_add (pv 1) pe_int) (pa_cons (pe_op op_pow pe_int pe_int) pa_nil)))))))))) (pss_one (ps_ret (pe_tup (pa_cons (pv 2) (pa_cons pe_str pa_nil))))) pss_nil)
    (pss_cons (ps_if (pt_not (pt_val (pe_call G_l_is_number (hr.mono (by first | decide | omega)) (by rfl) g_l_is_number F_l_is_number.kp b_l_is_number .nil pass0 (pa_cons (pe_ix (ix_tupK (K := K) rfl) (pv 3) pe_int (fun _ _ => rfl)) (pa_cons pe_int (pa_cons (pe_op op_pow pe_int pe_int) pa_nil)))))) (pss_one (ps_ret (pe_tup (pa_cons (pv 2) (pa_cons pe_str pa_nil))))) pss_nil)
    (pss_one (ps_set (i := 1) sc_l_error.nd rfl (.inl rfl) (pe_ix (ix_tupK (K := K) rfl) (pv 3) pe_int (fun _ _ => rfl))))))))
    (pss_one (ps_ret pe_non)))))))), ?_⟩
    have num : ∀ {σ : L2.St} {H : Hp} {ta tb tc : TE} {d : PyData} {lo hi : Int}, EvD ta σ H d → Ev tb σ H (.int lo) → Ev tc σ H (.int hi) → Ev (tCall sp_is_number_within [] E0 (tCons ta (tCons tb (tCons tc tNil)))) σ H (.bl (inI lo hi d)) := fun ha hb hc =>
      ev_callV (ds := [_, .int _, .int _]) (ead_cons ha (ead_cons (ed_int hb) (ead_cons (ed_int hc) ead_nil))) fun vs H1 e1 t1 Q2 k E2 => by
        cases t1 with
        | cons a b =>
          cases b with
          | cons b c' =>
            cases c' with
            | cons c' d' =>
              cases d'
              rw [b.int_inv, c'.int_inv]
              exact ⟨_, _, _, _, rfl, a, k⟩
    -- a tuple of three
    refine q_when (b := !isT d || !tupN 3 d) (et_or (et_not (et_B (ev_isi kit_tuple (ed_var rfl tv)))) (fun hT => ?_)) (fun hb H1 e1 => ?_) (fun hb H1 e1 => ?_)
    · obtain ⟨ds, rfl⟩ := isT_inv (d := d) (by simpa using hT)
      have e : (!tupN 3 (.tuple ds)) = !decide (V.int (ds.length : Int) = V.int 3) := by simp only [tupN, V.int.injEq]
      rw [e]
      exact et_test (ev_op (ev_lenT (ed_var rfl tv)) ev_c (rv_ne rfl))
    · have hb : tupN 3 d = false := by
        cases d <;> simp_all [isT, tupN]
      refine s_retD (d := gErr "garden") (ed_tup (ead_cons ed_non (ead_cons ed_str ead_nil)) (by simp)) fun z H2 e2 t2 => q z H2 (e1.trans e2) ?_
      rw [tup3_no hb]
      exact t2
    have hb : tupN 3 d = true := by
      rw [Bool.or_eq_false_iff] at hb
      simpa using hb.2
    obtain ⟨t, c, b, rfl⟩ := tup3 hb
    have tv1 := tv.mono (Tk.ex e1)
    refine q_when (b := !inI (-1000000) 1000000 t) (et_not (et_B (num (ed_ixT (i := 0) (ed_var rfl tv1) ev_c rfl) ev_m6 ev_p6))) (fun hb H2 e2 => ?_) (fun hb H2 e2 => ?_)
    · have hb : inI (-1000000) 1000000 t = false := by simpa using hb
      refine s_retD (d := gErr "tap") (ed_tup (ead_cons ed_non (ead_cons ed_str ead_nil)) (by simp)) fun z H3 e3 t3 => q z H3 ((e1.trans e2).trans e3) ?_
      rw [gerr_tap hb]
      exact t3
    have hb1 : inI (-1000000) 1000000 t = true := by simpa using hb
    have tv2 := tv1.mono (Tk.ex e2)
    refine q_when (b := !inI 1 1000000 c) (et_not (et_B (num (ed_ixT (i := 1) (ed_var rfl tv2) ev_c rfl) ev_c ev_p6))) (fun hb H3 e3 => ?_) (fun hb H3 e3 => ?_)
    · have hb : inI 1 1000000 c = false := by simpa using hb
      refine s_retD (d := gErr "can") (ed_tup (ead_cons ed_non (ead_cons ed_str ead_nil)) (by simp)) fun z H4 e4 t4 => q z H4 (((e1.trans e2).trans e3).trans e4) ?_
      rw [gerr_can hb1 hb]
      exact t4
    have hb2 : inI 1 1000000 c = true := by simpa using hb
    have tv3 := tv2.mono (Tk.ex e3)
    have e03 := (e1.trans e2).trans e3
    have tb3 : ∀ {σ : L2.St} {H4 : Hp}, σ[0]? = some (some v) → Ex H3 H4 → EvD (tOp (rIxT K) (tVar 0) (tC (.int 2))) σ H4 b := fun h0 e4 => ed_ixT (i := 2) (ed_var h0 (tv3.mono (Tk.ex e4))) ev_c rfl
    have fin : ∀ D : Ends, D.rt = Q → ∀ σ : L2.St, ∀ H4, Ex H3 H4 → gerr (.tuple [t, c, b]) = gErr "beds" → tRet (tTup (tCons (tC .non) (tCons (tC (.str "beds")) tNil))) D σ H4 := fun D hD σ H4 e4 hg => by
      refine s_retD (d := gErr "beds") (ed_tup (ead_cons ed_non (ead_cons ed_str ead_nil)) (by simp)) fun z H5 e5 t5 => ?_
      rw [hD]
      exact q z H5 ((e03.trans e4).trans e5) (by rw [hg]; exact t5)
    cases it : isT b with
    | false =>
      refine q_when (b := !false || true) (et_or (b := true) (et_not (et_B (by rw [← it]; exact ev_isi kit_tuple (tb3 rfl (Ex.refl _))))) (fun z => nomatch z)) (fun _ H4 e4 => ?_) (fun z => nomatch z)
      exact fin _ rfl _ H4 e4 (gerr_beds hb1 hb2 it)
    | true =>
      obtain ⟨ds, rfl⟩ := isT_inv it
      refine q_when (b := !true || decide ((12 : Int) < ds.length)) (et_or (et_not (et_B (ev_isi kit_tuple (tb3 rfl (Ex.refl _))))) (fun _ => et_test (ev_op (ev_lenT (tb3 rfl (Ex.refl _))) ev_c rv_I0))) (fun hb H4 e4 => ?_) (fun hb H4 e4 => ?_)
      · refine fin _ rfl _ H4 e4 (gerr_many hb1 hb2 ?_)
        have := of_decide_eq_true (by simpa using hb : decide ((12 : Int) < ds.length) = true)
        omega
      have few : ds.length ≤ 12 := by
        have := of_decide_eq_false (by simpa using hb : decide ((12 : Int) < ds.length) = false)
        omega
      rw [gerr_ok hb1 hb2 few] at q
      have e04 := e03.trans e4
      refine q_asg (v := .int (-1000001)) (ev_op ev_m6 ev_c rv_I0) ?_
      intro H5 e5
      have e45 := e4.trans e5
      refine q_forR1 (n := ds.length) (ea_cons (ev_lenT (tb3 rfl e45)) ea_nil) (by omega) (fun k σ' H' => ∃ y2 y3, σ' = [some v, some (.int (befP ds k)), y2, y3] ∧ Ex H3 H' ∧ Fine ds k) ?_ ?_ ?_
      · exact fun H6 e6 => ⟨_, _, rfl, e45.trans e6, fine_0 ds⟩
      · rintro k σ' H6 hk ⟨y2, y3, rfl, e6, fine⟩
        have hkd : k < ds.length := by omega
        have hdk : ds[k]? = some ds[k] := List.getElem?_eq_getElem hkd
        dsimp only [gName]
        refine q_asgD (d := ds[k]) (ed_ixT (i := k) (tb3 rfl e6) (ev_var rfl) hdk) ?_
        intro vb H7 e7 tb7
        have e37 := e6.trans e7
        have retE : ∀ (H8 : Hp) (D : Ends), D.rt = Q → Ex H7 H8 → berr 0 (-1000001) ds = bedErr k → tRet (tTup (tCons (tVar 2) (tCons (tC (.str "bed")) tNil))) D [some v, some (.int (befP ds k)), some (.int (k : Int)), some vb] H8 := fun H8 D hD e8 hg => by
          refine s_retD (d := bedErr k) (ed_tup (ead_cons (ed_var rfl (.int _)) (ead_cons ed_str ead_nil)) (by simp)) fun z H9 e9 t9 => ?_
          rw [hD]
          exact q z H9 (((e03.trans e37).trans e8).trans e9) (by rw [hg]; exact t9)
        have bef := fine.bef
        refine q_when (b := !isT ds[k] || (!tupN 2 ds[k] || !inI (befP ds k + 1) 1000000 (firstOf ds[k]))) (et_or (et_not (et_B (ev_isi kit_tuple (ed_var rfl tb7)))) (fun hT => et_or ?_ (fun h2 => ?_))) (fun hb H8 e8 => ?_) (fun hb H8 e8 => ?_)
        · obtain ⟨es, he⟩ := isT_inv (d := ds[k]) (by simpa using hT)
          rw [he] at tb7 ⊢
          have e : (!tupN 2 (.tuple es)) = !decide (V.int (es.length : Int) = V.int 2) := by simp only [tupN, V.int.injEq]
          rw [e]
          exact et_test (ev_op (ev_lenT (ed_var rfl tb7)) ev_c (rv_ne rfl))
        · obtain ⟨p, l, he⟩ := tup2 (d := ds[k]) (by simpa using h2)
          rw [he] at tb7 ⊢
          exact et_not (et_B (num (ed_ixT (i := 0) (ed_var rfl tb7) ev_c rfl) (ev_op (ev_var rfl) ev_c rv_I0) ev_p6))
        · refine retE H8 _ rfl e8 (fine.bad hdk ?_)
          rintro ⟨ok, lt⟩
          obtain ⟨p, l, he, p0, p1, _⟩ := bedOk_inv ok
          rw [he] at hb lt
          simp only [isT, tupN, firstOf, inI, Cn.placeOf] at hb lt
          simp at hb
          omega
        simp only [Bool.or_eq_false_iff, Bool.not_eq_false'] at hb
        obtain ⟨p, l, he⟩ := tup2 hb.2.1
        rw [he] at tb7 hb
        obtain ⟨i, rfl, i0, i1⟩ := inI_int (d := p) (by simpa [firstOf] using hb.2.2)
        have tb8 := tb7.mono (Tk.ex e8)
        refine q_when (b := !inI 1 1000000000 l) (et_not (et_B (num (ed_ixT (i := 1) (ed_var rfl tb8) ev_c rfl) ev_c ev_p9))) (fun hb H9 e9 => ?_) (fun hb H9 e9 => ?_)
        · refine retE H9 _ rfl (e8.trans e9) (fine.bad hdk ?_)
          rintro ⟨ok, _⟩
          rw [he] at ok
          simp only [bedOk, Bool.and_eq_true] at ok
          rw [ok.2] at hb
          simp at hb
        have ok : bedOk ds[k] = true := by
          rw [he]
          show (inI (-1000000) 1000000 (.int i) && inI 1 1000000000 l) = true
          rw [Bool.and_eq_true]
          refine ⟨?_, by simpa using hb⟩
          simp only [inI, Bool.and_eq_true, decide_eq_true_eq]
          omega
        have pl : Cn.placeOf ds[k] = i := by rw [he]; rfl
        refine s_asg (v := .int i) (ev_of (ed_ixT (i := 0) (ed_var rfl (tb8.mono (Tk.ex e9))) ev_c rfl)) ?_
        intro H10 e10
        refine ⟨some (.int (k : Int)), some vb, ?_, ((e37.trans e8).trans e9).trans e10, fine.next hdk ok (by rw [pl]; omega)⟩
        rw [befP_at hdk, pl]
        rfl
      · rintro σ' H6 ⟨y2, y3, rfl, e6, fine⟩
        refine q _ H6 (e03.trans e6) ?_
        rw [fine.last (Nat.le_refl _)]
        exact .non
theorem ok_l_part {f : Addr} {fd : FuncData} (F : Fun K "_law_part" "_law_part" s_l_part f fd) (m_isinstance : mg "isinstance" = none) (m_tuple : mg "tuple" = none) (m_int : mg "int" = none) (m_len : mg "len" = none) (m_str : mg "str" = none) (m_list : mg "list" = none)
    {f_l_draw : Addr} {fd_l_draw : FuncData} (G_l_draw : FnOk P w K mg base CX0 1 f_l_draw fd_l_draw ["_law_deck_here", "_law_limit"] spDraw) (g_l_draw : mg "_law_draw" = some (.ref f_l_draw)) (F_l_draw : Fun K "_law_draw" "_law_draw" s_l_draw f_l_draw fd_l_draw) (b_l_draw : Binds K fd_l_draw ["_law_deck_here", "_law_limit"] []) {f_l_odd : Addr} {fd_l_odd : FuncData} (G_l_odd : FnOk P w K mg base CX0 2 f_l_odd fd_l_odd ["_law_deck_here"] spOdd) (g_l_odd : mg "_law_odd" = some (.ref f_l_odd)) (F_l_odd : Fun K "_law_odd" "_law_odd" s_l_odd f_l_odd fd_l_odd) (b_l_odd : Binds K fd_l_odd ["_law_deck_here"] [])  (g_l_part : mg "_law_part" = some (.ref f)) (b_l_part : Binds K fd ["_law_deck_here", "_law_thing", "_law_depth"] []) : ∀ n : Nat, FnOk P w K mg base CX0 (n + 3) f fd ["_law_deck_here", "_law_thing", "_law_depth"] (spPart n) := by
  intro n
  have F_l_part := F
  induction n using Nat.strongRecOn with
  | ind n ih =>
  have G_l_part : FnOk P w K mg base CX0 (n + 2) f fd ["_law_deck_here", "_law_thing", "_law_depth"] (fun vs H Q E => ∃ n', n' < n ∧ spPart n' vs H Q E) := by
    refine ⟨fun vs H Q E h => ?_, fun A out s H args us vs Q E room e0 bd rel h => ?_⟩
    · obtain ⟨n', _, D, C, m, v, d, k, B, kk, nn, rfl, _⟩ := h
      rfl
    · obtain ⟨n', hn', h⟩ := h
      exact (ih n' hn').run A out s H args us vs Q E (room.mono (by omega)) e0 bd rel h
  refine F.ok sc_l_part (fun vs H Q E h => ?_) (fun cdv A outer s H vs Q E hr h => ?_)
  · obtain ⟨D, C, m, v, d, k, B, kk, nn, rfl, _⟩ := h
    rfl
  · obtain ⟨D, C, m, v, d, k, B, kk, nn, rfl, hk, dk, mb, tv, b1, b2, sz, few, q⟩ := h
    refine ⟨_, (pss_cut (ps_if (PW.pt (pw_and (pt_cmpR op_gt (pv 2) pe_int (nomark _)) (pw_and (pt_val (pe_callB (call_isiN (K := K) rfl) (by rfl) m_isinstance (by decide +kernel) (pa_cons (pv 1) (pa_cons (pe_bltn (v := .ty "tuple") (by rfl) m_tuple (by decide +kernel) rfl) pa_nil)))) (pw_and (pt_cmpR (op_ne0 (K := K) rfl hr.units) (pv 1) (pe_tup pa_nil) (nomark _)) (pw_and1 (pt_cmpR op_gt (pe_call G_l_draw (hr.mono (by first | decide | omega)) (by rfl) g_l_draw F_l_draw.kp b_l_draw .nil pass0 (pa_cons (pv 0) (pa_cons pe_int pa_nil))) pe_int (nomark _))))))) (pss_cons (ps_set (i := 4) sc_l_part.nd rfl (.inl rfl) (pe_call G_l_draw (hr.mono (by first | decide | omega)) (by rfl) g_l_draw F_l_draw.kp b_l_draw .nil pass0 (pa_cons (pv 0) (pa_cons (pe_callB (call_lenK (K := K) rfl) (by rfl) m_len PySem.boot_len (pa_cons (pv 1) pa_nil)) pa_nil))))
    (pss_one (ps_ret (pe_op (op_catK (K := K) rfl) (pe_op (op_catK (K := K) rfl) (pe_slice (sl_tupK (K := K) rfl) (pv 1) po_none (po_some (pv 4))) (pe_tup (pa_cons (pe_call G_l_part (hr.mono (by first | decide | omega)) (by rfl) g_l_part F_l_part.kp b_l_part .nil pass0 (pa_cons (pv 0) (pa_cons (pe_ix (ix_tupK (K := K) rfl) (pv 1) (pv 4) (fun _ _ => rfl)) (pa_cons (pe_op op_sub (pv 2) pe_int) pa_nil)))) pa_nil))) (pe_slice (sl_tupK (K := K) rfl) (pv 1) (po_some (pe_op op_add (pv 4) pe_int)) po_none))))) pss_nil)
    (pss_cons (ps_set (i := 3) sc_l_part.nd rfl (.inl rfl) (pe_call G_l_draw (hr.mono (by first | decide | omega)) (by rfl) g_l_draw F_l_draw.kp b_l_draw .nil pass0 (pa_cons (pv 0) (pa_cons pe_int pa_nil))))
    (pss_cons (ps_if (PW.pt (pw_and (pt_val (pe_callB (call_isiN (K := K) rfl) (by rfl) m_isinstance (by decide +kernel) (pa_cons (pv 1) (pa_cons (pe_bltn (v := .ty "int") (by rfl) m_int (by decide +kernel) rfl) pa_nil)))) (pw_and1 (pt_cmpR op_lt (pv 3) pe_int (nomark _))))) (pss_one (ps_ret (pe_ix (ix_listK (K := K) rfl) (pe_lst (pa_cons (pe_op op_addB (pv 1) pe_int) (pa_cons (pe_op op_subB (pv 1) pe_int) (pa_cons (pe_op op_subB pe_int (pv 1)) (pa_cons (pe_cmpR (op_eqK (K := K) rfl hr.units) (pv 1) pe_int (nomark _)) (pa_cons (pe_callTy call_strV (by rfl) m_str (by decide +kernel) (pa_cons (pv 1) pa_nil)) (pa_cons (pe_tup (pa_cons (pv 1) pa_nil)) (pa_cons pe_int pa_nil)))))))) (pv 3) (fun _ _ => rfl)))) pss_nil)
    (pss_cons (ps_if (PW.pt (pw_and (pt_val (pe_callB (call_isiN (K := K) rfl) (by rfl) m_isinstance (by decide +kernel) (pa_cons (pv 1) (pa_cons (pe_bltn (v := .ty "tuple") (by rfl) m_tuple (by decide +kernel) rfl) pa_nil)))) (pw_and1 (pt_cmpR op_lt (pv 3) pe_int (nomark _))))) (pss_one (ps_ret (pe_ix (ix_listK (K := K) rfl) (pe_lst (pa_cons (pe_slice (sl_tupK (K := K) rfl) (pv 1) (po_some pe_int) po_none) (pa_cons (pe_slice (sl_tupK (K := K) rfl) (pv 1) po_none (po_some (pe_un un_neg pe_int))) (pa_cons (pe_op (op_catK (K := K) rfl) (pv 1) (pe_slice (sl_tupK (K := K) rfl) (pv 1) (po_some (pe_un un_neg pe_int)) po_none)) (pa_cons (pe_revTK (K := K) rfl (pv 1)) (pa_cons (pe_callTy (call_listZK (K := K) rfl) (by rfl) m_list (by decide +kernel) (pa_cons (pv 1) pa_nil)) (pa_cons (pe_op (op_catK (K := K) rfl) (pv 1) (pe_tup (pa_cons pe_int pa_nil))) (pa_cons (pe_tup pa_nil) pa_nil)))))))) (pv 3) (fun _ _ => rfl)))) pss_nil)
    (pss_one (ps_ret (pe_call G_l_odd (hr.mono (by first | decide | omega)) (by rfl) g_l_odd F_l_odd.kp b_l_odd .nil pass0 (pa_cons (pv 0) pa_nil)))))))), ?_⟩
    have size := sz
    refine q_cut (M := fun σ' H' => σ' = [some (.ref D), some v, some (.int (k : Int)), none, none] ∧ Kp D C H H' ∧ Deck D C (m + 1) H') ?_ ?_
    · dsimp only [tIfS]
      refine t_and (a := decide ((0 : Int) < (k : Int))) (et_test (ev_op (ev_var rfl) ev_c rv_I0)) ?_ ?_
      rotate_left
      · exact fun _ H1 e1 => iteF ⟨rfl, Kp.ex e1, (dk.ex e1).mono (by omega)⟩
      intro k0 H1 e1
      have k0 := of_decide_eq_true k0
      refine t_and (a := isT d) (et_B (ev_isi kit_tuple (ed_var rfl (tv.mono (Tk.ex e1))))) ?_ ?_
      rotate_left
      · exact fun _ H2 e2 => iteF ⟨rfl, Kp.ex (e1.trans e2), (dk.ex (e1.trans e2)).mono (by omega)⟩
      intro hT H2 e2
      obtain ⟨ds, rfl⟩ := isT_inv hT
      have e02 := e1.trans e2
      refine t_and (a := true != ds.isEmpty) (et_test (ev_ne0 (ed_var rfl (tv.mono (Tk.ex e02))) (ed_tup ead_nil (by simp)))) ?_ ?_
      rotate_left
      · exact fun _ H3 e3 => iteF ⟨rfl, Kp.ex (e02.trans e3), (dk.ex (e02.trans e3)).mono (by omega)⟩
      intro hne H3 e3
      have e03 := e02.trans e3
      refine dr_draw (D := D) (C := C) (m := m) (m1 := m + 1) (k := 4) rfl (fun H => ev_c) (by omega) (by omega) (by omega) (by omega) H3 (dk.ex e03) _ ?_
      intro r4 H4 kp4 dk4 hr4
      refine ⟨r4, 0, rfl, rfl, _, rfl, ?_⟩
      have kp04 : Kp D C H H4 := (Kp.ex e03).trans kp4
      cases hd : decide ((0 : Int) < r4) with
      | false => exact iteF ⟨rfl, kp04, dk4⟩
      | true =>
        refine iteT ?_
        have tv4 := tv.mono (Kp.tk dk kp04)
        obtain ⟨ho, hw, hp, hn⟩ := sz.items
        have len2 := len_wv ds
        have len0 : 1 ≤ ds.length := by
          cases ds with
          | nil => simp at hne
          | cons _ _ => simp
        refine ⟨.ref D, rfl, ev_lenT (ed_var rfl tv4) H4 (Ex.refl H4) _ fun H5 e5 => ?_⟩
        refine ⟨D, C, m + 1, ds.length, rfl, dk4.ex e5, by omega, by omega, by omega, fun r H6 r0 r1 kp6 dk6 => ?_⟩
        obtain ⟨j, rfl⟩ : ∃ j : Nat, r = j := ⟨r.toNat, by omega⟩
        have hj : j < ds.length := by omega
        have hdj : ds[j]? = some ds[j] := List.getElem?_eq_getElem hj
        have kp46 : Kp D C H4 H6 := (Kp.ex e5).trans kp6
        have kp06 := kp04.trans kp46
        have tv6 := tv.mono (Kp.tk dk kp06)
        dsimp only [gName]
        refine ed_cut (K := K) (lo := none) (hi := some (j : Int)) (ed_var rfl tv6) eo_none (eo_some (ev_var rfl)) H6 (Ex.refl H6) _ fun v1 H7 e7 t7 => ?_
        have tv7 := tv6.mono (Tk.ex e7)
        refine ⟨.ref D, rfl, ed_ixT (K := K) (i := j) (ed_var rfl tv7) (ev_var rfl) hdj H7 (Ex.refl H7) _ fun vx H8 e8 tx => ⟨.int (k : Int), rfl, (k : Int), 1, rfl, rfl, ?_⟩⟩
        have e68 := e7.trans e8
        obtain ⟨k', rfl⟩ : ∃ k', k = k' + 1 := ⟨k - 1, by omega⟩
        have hwx := wv_mem (List.getElem_mem hj)
        refine ⟨k', by omega, D, C, m + 2, vx, ds[j], k', B, wv ds[j], dv ds[j], by simp, Nat.le_refl _, (dk6.ex e68).mono (by omega), by omega, tx, b1, b2, ⟨ho _ (List.getElem_mem hj), Nat.le_refl _, Nat.le_refl _⟩, by omega, fun ve de H9 sze te kp9 dk9 => ?_⟩
        have kp69 : Kp D C H6 H9 := (Kp.ex e68).trans kp9
        have kp09 := kp06.trans kp69
        refine ⟨by show 1 ≤ sizeLine; decide, fun pt npt => ?_⟩
        have eN : Ex H9 (upd H9 pt (.tup [ve])) := Ex.new npt
        have kp89 : Kp D C H8 H9 := kp9
        have tt : Tp (upd H9 pt (.tup [ve])) (.ref pt) (.tuple [de]) := .tup (.inl upd_same) (.cons (te.mono (Tk.ex eN)) .nil)
        have dk8 := (dk6.ex e68)
        have t1N : Tp (upd H9 pt (.tup [ve])) v1 (.tuple (cutD ds none (some (j : Int)))) := ((t7.mono (Tk.ex e8)).mono (Kp.tk dk8 kp9)).mono (Tk.ex eN)
        have tvN := (tv.mono (Kp.tk dk kp09)).mono (Tk.ex eN)
        have dkN := dk9.ex eN
        have kpN : Kp D C H (upd H9 pt (.tup [ve])) := kp09.trans (Kp.ex eN)
        generalize upd H9 pt (.tup [ve]) = HN at tt t1N tvN dkN kpN ⊢
        have lcut : ∀ lo hi, (cutD ds lo hi).length ≤ 49998 := fun lo hi => by
          have := len_wv (cutD ds lo hi)
          have := cutD_wv (ds := ds) (lo := lo) (hi := hi)
          omega
        have l1 := lcut none (some (j : Int))
        have l2 := lcut (some ((j : Int) + 1)) none
        show rCatA K v1 (.ref pt) HN _
        refine cat_val t1N tt (by simp; omega) fun v2 H10 e10 t10 => ?_
        refine ed_cut (K := K) (lo := some ((j : Int) + 1)) (hi := none) (ed_var rfl (tvN.mono (Tk.ex e10))) (eo_some (ev_op (ev_var rfl) ev_c rv_I0)) eo_none H10 (Ex.refl H10) _ fun v3 H11 e11 t11 => ?_
        show rCatA K v2 v3 H11 _
        refine cat_val (t10.mono (Tk.ex e11)) t11 (by simp; omega) fun v4 H12 e12 t12 => ?_
        have eE : Ex HN H12 := (e10.trans e11).trans e12
        exact q v4 _ H12 (nest_sz sz hdj sze) t12 (kpN.trans (Kp.ex eE)) ((dkN.ex eE).mono (by omega))
    rintro _ H1 ⟨rfl, kp1, dk1⟩
    refine dr_draw (D := D) (C := C) (m := m + 1) (m1 := m + 2) (k := 8) rfl (fun H => ev_c) (by omega) (by omega) (by omega) (by omega) H1 dk1 _ ?_
    intro r H2 kp2 dk2 hr2
    obtain ⟨j, rfl⟩ : ∃ j : Nat, r = j := ⟨r.toNat, by omega⟩
    have kp02 := kp1.trans kp2
    have tv2 := tv.mono (Kp.tk dk kp02)
    dsimp only [gName]
    refine q_when (b := isI d && decide ((j : Int) < 7)) (et_and (et_B (ev_isi kit_int (ed_var rfl tv2))) (fun _ => et_test (ev_op (ev_var rfl) ev_c rv_I0))) (fun hb H3 e3 => ?_) (fun hb H3 e3 => ?_)
    · rw [Bool.and_eq_true] at hb
      obtain ⟨hi, h7⟩ := hb
      have h7 := of_decide_eq_true h7
      have lj : j < (intVar d).length := by
        have : (intVar d).length = 7 := rfl
        omega
      have tv3 := tv2.mono (Tk.ex e3)
      have shp : SeqAt.shaped d = true := by cases d <;> simp [isI] at hi <;> rfl
      refine s_retD (d := (intVar d)[j]) (ed_ixL (i := j) (ds := intVar d) (eld_lst ?_ (by show 7 ≤ 100000; decide)) (ev_var rfl) (List.getElem?_eq_getElem lj)) fun z H4 e4 t4 => q z _ H4 (intVar_sz sz hi b1 b2 _ (List.getElem_mem lj)) t4 (kp02.trans (Kp.ex (e3.trans e4))) ((dk2.ex (e3.trans e4)).mono (by omega))
      refine ead_cons (ed_nb (f := fun a b => a + b) (ed_var rfl tv3) ed_i hi rfl (.inr ⟨1, rfl⟩)) (ead_cons (ed_nb (f := fun a b => a - b) (ed_var rfl tv3) ed_i hi rfl (.inr ⟨1, rfl⟩)) (ead_cons (ed_nb (f := fun a b => a - b) ed_i (ed_var rfl tv3) rfl hi (.inl ⟨0, rfl⟩)) ?_))
      refine ead_cons (ed_bv (ev_eqD (ed_var rfl tv3) ed_i shp rfl)) (ead_cons (ed_strV (ed_var rfl tv3) hi ?_) (ead_cons (ed_tup (ead_cons (ed_var rfl tv3) ead_nil) (by simp)) (ead_cons ed_i ead_nil)))
      have := okV_nb sz.ok hi (Nat.le_trans (by decide) b1)
      have h40 : (10 : Nat) ^ 40 = 10 * 10 ^ 39 := by decide
      have h39 : (10 : Nat) ≤ 10 ^ 39 := by decide
      omega
    have kp03 := kp02.trans (Kp.ex e3)
    have tv3 := tv2.mono (Tk.ex e3)
    have dk3 := dk2.ex e3
    refine q_when (b := isT d && decide ((j : Int) < 7)) (et_and (et_B (ev_isi kit_tuple (ed_var rfl tv3))) (fun _ => et_test (ev_op (ev_var rfl) ev_c rv_I0))) (fun hb H4 e4 => ?_) (fun hb H4 e4 => ?_)
    · rw [Bool.and_eq_true] at hb
      obtain ⟨hT, h7⟩ := hb
      have h7 := of_decide_eq_true h7
      obtain ⟨ds, rfl⟩ := isT_inv hT
      have lj : j < (tupVar ds).length := by
        have : (tupVar ds).length = 7 := rfl
        omega
      have tv4 := tv3.mono (Tk.ex e4)
      obtain ⟨ho, hw, hp, hn⟩ := sz.items
      have len2 := len_wv ds
      have lcut : ∀ lo hi, (cutD ds lo hi).length ≤ 49999 := fun lo hi => by
        have := len_wv (cutD ds lo hi)
        have := cutD_wv (ds := ds) (lo := lo) (hi := hi)
        omega
      have l1 := lcut (some (-1)) none
      refine s_retD (d := (tupVar ds)[j]) (ed_ixL (i := j) (ds := tupVar ds) (eld_lst ?_ (by show 7 ≤ 100000; decide)) (ev_var rfl) (List.getElem?_eq_getElem lj)) fun z H5 e5 t5 => q z _ H5 (tupVar_sz sz _ (List.getElem_mem lj)) t5 (kp03.trans (Kp.ex (e4.trans e5))) ((dk3.ex (e4.trans e5)).mono (by omega))
      refine ead_cons (ed_cut (ed_var rfl tv4) (eo_some ev_c) eo_none) (ead_cons (ed_cut (ed_var rfl tv4) eo_none (eo_some ev_m1)) (ead_cons (ed_cat (ed_var rfl tv4) (ed_cut (ed_var rfl tv4) (eo_some ev_m1) eo_none) (by omega)) (ead_cons (ed_rev (ed_var rfl tv4)) (ead_cons (ed_listZ (ed_var rfl tv4)) ?_))))
      exact ead_cons (ed_cat (ed_var rfl tv4) (ed_tup (ead_cons ed_i ead_nil) (by simp)) (by simp; omega)) (ead_cons (ed_tup ead_nil (by simp)) ead_nil)
    refine ⟨.ref D, rfl, D, C, m + 2, rfl, (dk3.ex e4), by omega, fun v' d' H' hd' t' kp dk' => q v' d' H' ((odd_sz d' hd').mono (by omega) (by omega) (by have := sz.p; omega)) t' ((kp03.trans (Kp.ex e4)).trans kp) (dk'.mono (by omega))⟩
end
end K00

namespace K00
open PySem PySem.Spec PyProof.Rows L2 Evl Cn
section
variable {P : Program} {w : World} {K : PySem.W.Frag} {mg : Str → Option Value} {base : Heap}
theorem ok_l_edges {f : Addr} {fd : FuncData} (F : Fun K "_law_edges" "_law_edges" s_l_edges f fd) (m_range : mg "range" = none) (m_tuple : mg "tuple" = none) : FnOk P w K mg base CX0 1 f fd ["_law_garden_here"] sp_edges := by
  refine F.ok sc_l_edges (fun vs H Q E h => ?_) (fun cdv A outer s H vs Q E hr h => ?_)
  · obtain ⟨v, t, c, bs, rfl, _⟩ := h
    rfl
  · obtain ⟨v, t, c, bs, rfl, tv, few, q⟩ := h
    obtain ⟨g, b, xs0, rfl, hg, hb, hx⟩ := garden_inv tv
    refine ⟨_, (pss_cons (ps_asg (pv 0) (pg_tup rfl (pgs_cons (pg_name (i := 2) sc_l_edges.nd rfl (.inl rfl)) (pgs_cons (pg_name (i := 3) sc_l_edges.nd rfl (.inl rfl)) (pgs_cons (pg_name (i := 4) sc_l_edges.nd rfl (.inl rfl)) pgs_nil)))))
    (pss_cons (ps_par (i := 5) (j := 6) (by rfl) sc_l_edges.nd rfl rfl (by decide) rfl rfl (pa_cons (pe_op op_pow pe_int pe_int) (pa_cons (pe_callTy (call_tupleK (K := K) rfl) (by rfl) m_tuple (by decide +kernel) (pa_cons (pe_lc (own := [("_law_k", 7)]) (g := (gName 7)) rfl sc_l_edges.nd (pi_range2 (by rfl) m_range (pa_cons (pe_un un_neg pe_int) (pa_cons pe_int pa_nil))) (blkOk_by (N := N_l_edges) (sc := defScope s_l_edges) (by decide +kernel)) (fun _ _ _ _ _ => (pg_name (i := 7) sc_l_edges.nd rfl (.inl rfl))) (fun _ _ _ _ _ => pts_nil) (fun _ _ _ _ _ => (pe_tup (pa_cons (pv 7) (pa_cons pe_int pa_nil))))) pa_nil)) pa_nil)) (by rfl))
    (pss_cons (ps_set (i := 1) sc_l_edges.nd rfl (.inl rfl) (pe_lst (pa_cons (pe_tup (pa_cons (pv 5) (pa_cons (pv 5) (pa_cons (pv 4) pa_nil)))) (pa_cons (pe_tup (pa_cons (pe_op op_sub pe_int (pv 5)) (pa_cons pe_int (pa_cons (pv 4) pa_nil)))) (pa_cons (pe_tup (pa_cons (pe_op op_add (pv 5) pe_int) (pa_cons (pv 3) (pa_cons (pv 4) pa_nil)))) (pa_cons (pe_tup (pa_cons (pe_op op_sub (pe_op op_sub pe_int (pv 5)) pe_int) (pa_cons (pv 3) (pa_cons (pv 4) pa_nil)))) (pa_cons (pe_tup (pa_cons (pv 2) (pa_cons (pe_op op_add (pv 5) pe_int) (pa_cons (pv 4) pa_nil)))) pa_nil)))))))
    (pss_cons (ps_set (i := 1) sc_l_edges.nd rfl (.inl rfl) (pe_op op_cat (pv 1) (pe_lst (pa_cons (pe_tup (pa_cons (pv 2) (pa_cons pe_int (pa_cons (pv 4) pa_nil)))) (pa_cons (pe_tup (pa_cons (pv 2) (pa_cons (pv 3) (pa_cons (pe_slice (sl_tupK (K := K) rfl) (pv 6) po_none (po_some pe_int)) pa_nil)))) (pa_cons (pe_tup (pa_cons (pv 2) (pa_cons (pv 3) (pa_cons (pv 6) pa_nil)))) (pa_cons (pe_tup (pa_cons (pv 2) (pa_cons (pv 3) (pa_cons (pe_revTK (K := K) rfl (pe_slice (sl_tupK (K := K) rfl) (pv 6) po_none (po_some pe_int))) pa_nil)))) pa_nil)))))))
    (pss_cons (ps_set (i := 1) sc_l_edges.nd rfl (.inl rfl) (pe_op op_cat (pv 1) (pe_lst (pa_cons (pe_tup (pa_cons (pv 2) (pa_cons (pv 3) (pa_cons (pe_tup (pa_cons (pe_tup (pa_cons (pe_op op_sub pe_int (pv 5)) (pa_cons (pe_op op_pow pe_int pe_int) pa_nil))) (pa_cons (pe_tup (pa_cons (pv 5) (pa_cons pe_int pa_nil))) pa_nil))) pa_nil)))) (pa_cons (pe_tup (pa_cons (pv 2) (pa_cons (pv 3) (pa_cons (pe_tup (pa_cons (pe_tup (pa_cons (pe_op op_sub (pe_op op_sub pe_int (pv 5)) pe_int) (pa_cons pe_int pa_nil))) pa_nil)) pa_nil)))) pa_nil)))))
    (pss_cons (ps_expr (pe_bm PySem.F.plainAttrs_list PySem.F.slot_list_append PySem.F.type_list_append mt_append (pv 1) (pa_cons (pe_tup (pa_cons (pv 2) (pa_cons (pv 3) (pa_cons (pe_tup (pa_cons (pe_tup (pa_cons (pe_op op_add (pv 5) pe_int) (pa_cons pe_int pa_nil))) pa_nil)) pa_nil)))) pa_nil)))
    (pss_cons (ps_set (i := 1) sc_l_edges.nd rfl (.inl rfl) (pe_op op_cat (pv 1) (pe_lst (pa_cons (pe_tup (pa_cons (pv 2) (pa_cons (pv 3) (pa_cons (pe_tup (pa_cons (pe_tup (pa_cons pe_int (pa_cons (pe_op op_add (pe_op op_pow pe_int pe_int) pe_int) pa_nil))) pa_nil)) pa_nil)))) (pa_cons (pe_tup (pa_cons (pv 2) (pa_cons (pv 3) (pa_cons (pe_tup (pa_cons (pe_tup (pa_cons pe_int (pa_cons pe_int pa_nil))) pa_nil)) pa_nil)))) (pa_cons (pe_tup (pa_cons (pv 2) (pa_cons (pv 3) (pa_cons (pe_tup (pa_cons (pe_tup (pa_cons pe_int (pa_cons pe_int pa_nil))) (pa_cons (pe_tup (pa_cons pe_int (pa_cons pe_int pa_nil))) pa_nil))) pa_nil)))) pa_nil))))))
    (pss_cons (ps_expr (pe_bm PySem.F.plainAttrs_list PySem.F.slot_list_append PySem.F.type_list_append mt_append (pv 1) (pa_cons (pe_tup (pa_cons (pv 3) (pa_cons (pv 2) (pa_cons (pv 4) pa_nil)))) pa_nil)))
    (pss_cons (ps_set (i := 1) sc_l_edges.nd rfl (.inl rfl) (pe_op op_cat (pv 1) (pe_lst (pa_cons (pe_tup (pa_cons pe_non (pa_cons pe_non (pa_cons pe_non pa_nil)))) (pa_cons (pe_tup (pa_cons (pv 2) (pa_cons pe_non (pa_cons pe_non pa_nil)))) (pa_cons (pe_tup (pa_cons (pv 2) (pa_cons (pv 3) (pa_cons (pe_tup (pa_cons pe_non (pa_cons (pe_tup (pa_cons pe_int (pa_cons pe_int pa_nil))) pa_nil))) pa_nil)))) pa_nil))))))
    (pss_one (ps_ret (pe_op op_cat (pv 1) (pe_lst (pa_cons (pe_tup (pa_cons (pv 2) (pa_cons (pv 3) (pa_cons (pe_tup (pa_cons (pe_tup (pa_cons pe_int (pa_cons pe_int pa_nil))) (pa_cons pe_non pa_nil))) pa_nil)))) (pa_cons (pe_tup (pa_cons (pv 2) (pa_cons (pv 3) (pa_cons (pe_tup (pa_cons (pe_tup (pa_cons pe_int (pa_cons pe_int pa_nil))) (pa_cons (pe_tup (pa_cons pe_int (pa_cons pe_int pa_nil))) pa_nil))) pa_nil)))) pa_nil))))))))))))))), ?_⟩
    refine ⟨.ref g, rfl, g, _, rfl, sr hg, rfl, .int t, _, rfl, .int c, _, rfl, .ref b, _, rfl, rfl, ?_⟩
    dsimp only [gName]
    have tb : Tp H (.ref b) (bedsD bs) := .tup hb hx
    refine q_parD (d := .int 1000000) (e := .tuple manyL) (ead_cons (ed_int ev_p6) (ead_cons (ed_tupleOf (K := K) (eld_range2 (lo := -6) (hi := 7) (n := 13) (ea_cons (ev_un ev_c ru_neg) (ea_cons ev_c ea_nil)) (by decide) (by decide) (by decide) (by decide) (fun (k : Nat) => .tuple [.int (-6 + (k : Int)), .int 1]) (fun _ => rfl) (fun k _ => ed_two (ed_int (ev_var rfl)) ed_i))) ead_nil)) ?_
    intro vf vm H2 e2 tf tm
    rw [tf.int_inv]
    have tb2 := tb.mono (Tk.ex e2)
    have q := fun p xs H' (n : H2 p = none) (e : Ex H2 H') => q p xs H' (fresh_back e2 n) (e2.trans e)
    clear e2 hg tv tf
    -- the first five
    refine q_asgLd (ds := edgA t c bs) (eld_lst ?_ (by show 5 ≤ 100000; decide)) ?_
    · exact ead_cons (ed_three (ed_int (ev_var rfl)) (ed_int (ev_var rfl)) (ed_var rfl tb2)) (ead_cons (ed_three (ed_int (ev_op ev_c (ev_var rfl) rv_I0)) ed_i (ed_var rfl tb2)) (ead_cons (ed_three (ed_int (ev_op (ev_var rfl) ev_c rv_I0)) (ed_int (ev_var rfl)) (ed_var rfl tb2)) (ead_cons (ed_three (ed_int (ev_op (ev_op ev_c (ev_var rfl) rv_I0) ev_c rv_I0)) (ed_int (ev_var rfl)) (ed_var rfl tb2)) (ead_cons (ed_three (ed_int (ev_var rfl)) (ed_int (ev_op (ev_var rfl) ev_c rv_I0)) (ed_var rfl tb2)) ead_nil))))
    intro p3 x3 H3 n3 e3 h3 t3
    have tb3 := tb2.mono (Tk.ex e3)
    have tm3 := tm.mono (Tk.ex e3)
    refine q_asgLd (ds := edgA t c bs ++ edgB t c bs) (eld_catV (ev_var rfl) h3 t3 (eld_lst ?_ (by show 4 ≤ 100000; decide)) (by show 9 ≤ 100000; decide)) ?_
    · exact ead_cons (ed_three (ed_int (ev_var rfl)) ed_i (ed_var rfl tb3)) (ead_cons (ed_three (ed_int (ev_var rfl)) (ed_int (ev_var rfl)) (ed_cut (ed_var rfl tm3) eo_none (eo_some ev_c))) (ead_cons (ed_three (ed_int (ev_var rfl)) (ed_int (ev_var rfl)) (ed_var rfl tm3)) (ead_cons (ed_three (ed_int (ev_var rfl)) (ed_int (ev_var rfl)) (ed_rev (ed_cut (ed_var rfl tm3) eo_none (eo_some ev_c)))) ead_nil)))
    intro p4 x4 H4 n4 e4 h4 t4
    have e24 := e3.trans e4
    refine q_asgLd (ds := (edgA t c bs ++ edgB t c bs) ++ edgC t c) (eld_catV (ev_var rfl) h4 t4 (eld_lst ?_ (by show 2 ≤ 100000; decide)) (by show 11 ≤ 100000; decide)) ?_
    · exact ead_cons (ed_three (ed_int (ev_var rfl)) (ed_int (ev_var rfl)) (ed_two (ed_two (ed_int (ev_op ev_c (ev_var rfl) rv_I0)) (ed_int ev_p9)) (ed_two (ed_int (ev_var rfl)) ed_i))) (ead_cons (ed_three (ed_int (ev_var rfl)) (ed_int (ev_var rfl)) (ed_one (ed_two (ed_int (ev_op (ev_op ev_c (ev_var rfl) rv_I0) ev_c rv_I0)) ed_i))) ead_nil)
    intro p5 x5 H5 n5 e5 h5 t5
    have e25 := e24.trans e5
    have n25 : H2 p5 = none := fresh_back e24 n5
    refine q_appD (d := edgD t c) h5 (ev_var rfl) (ed_three (ed_int (ev_var rfl)) (ed_int (ev_var rfl)) (ed_one (ed_two (ed_int (ev_op (ev_var rfl) ev_c rv_I0)) ed_i))) (by rw [t5.length]; show 11 < 100000; decide) ?_
    intro v6 H6' e6' t6'
    have e26 : Ex H2 (upd H6' p5 (.lst (x5 ++ [v6]))) := Ex.mut (e25.trans e6') n25
    have h6 : upd H6' p5 (.lst (x5 ++ [v6])) p5 = some (.lst (x5 ++ [v6])) := upd_same
    have t6 : TpAll (upd H6' p5 (.lst (x5 ++ [v6]))) (x5 ++ [v6]) (((edgA t c bs ++ edgB t c bs) ++ edgC t c) ++ [edgD t c]) := ((t5.mono (Tk.ex e6')).append (.cons t6' .nil)).mono (Tk.lst (e6' p5 _ h5))
    generalize upd H6' p5 (.lst (x5 ++ [v6])) = H6 at e26 h6 t6 ⊢
    refine q_asgLd (ds := (((edgA t c bs ++ edgB t c bs) ++ edgC t c) ++ [edgD t c]) ++ edgE t c) (eld_catV (ev_var rfl) h6 t6 (eld_lst ?_ (by show 3 ≤ 100000; decide)) (by show 15 ≤ 100000; decide)) ?_
    · exact ead_cons (ed_three (ed_int (ev_var rfl)) (ed_int (ev_var rfl)) (ed_one (ed_two ed_i (ed_int (ev_op ev_p9 ev_c rv_I0))))) (ead_cons (ed_three (ed_int (ev_var rfl)) (ed_int (ev_var rfl)) (ed_one (ed_two ed_i ed_i))) (ead_cons (ed_three (ed_int (ev_var rfl)) (ed_int (ev_var rfl)) (ed_two (ed_two ed_i ed_i) (ed_two ed_i ed_i))) ead_nil))
    intro p7 x7 H7 n7 e7 h7 t7
    have e27 := e26.trans e7
    have n27 : H2 p7 = none := fresh_back e26 n7
    refine q_appD (d := edgF t c bs) h7 (ev_var rfl) (ed_three (ed_int (ev_var rfl)) (ed_int (ev_var rfl)) (ed_var rfl (tb2.mono (Tk.ex e27)))) (by rw [t7.length]; show 15 < 100000; decide) ?_
    intro v8 H8' e8' t8'
    have e28 : Ex H2 (upd H8' p7 (.lst (x7 ++ [v8]))) := Ex.mut (e27.trans e8') n27
    have h8 : upd H8' p7 (.lst (x7 ++ [v8])) p7 = some (.lst (x7 ++ [v8])) := upd_same
    have t8 : TpAll (upd H8' p7 (.lst (x7 ++ [v8]))) (x7 ++ [v8]) (((((edgA t c bs ++ edgB t c bs) ++ edgC t c) ++ [edgD t c]) ++ edgE t c) ++ [edgF t c bs]) := ((t7.mono (Tk.ex e8')).append (.cons t8' .nil)).mono (Tk.lst (e8' p7 _ h7))
    generalize upd H8' p7 (.lst (x7 ++ [v8])) = H8 at e28 h8 t8 ⊢
    refine q_asgLd (ds := (((((edgA t c bs ++ edgB t c bs) ++ edgC t c) ++ [edgD t c]) ++ edgE t c) ++ [edgF t c bs]) ++ edgG t c) (eld_catV (ev_var rfl) h8 t8 (eld_lst ?_ (by show 3 ≤ 100000; decide)) (by show 19 ≤ 100000; decide)) ?_
    · exact ead_cons (ed_three ed_non ed_non ed_non) (ead_cons (ed_three (ed_int (ev_var rfl)) ed_non ed_non) (ead_cons (ed_three (ed_int (ev_var rfl)) (ed_int (ev_var rfl)) (ed_two ed_non (ed_two ed_i ed_i))) ead_nil))
    intro p9 x9 H9 n9 e9 h9 t9
    have e29 := e28.trans e9
    refine eld_catV (ds := (((((edgA t c bs ++ edgB t c bs) ++ edgC t c) ++ [edgD t c]) ++ edgE t c) ++ [edgF t c bs]) ++ edgG t c) (es := edgH t c) (ev_var rfl) h9 t9 (eld_lst ?_ (by show 2 ≤ 100000; decide)) (by show 21 ≤ 100000; decide) H9 (Ex.refl H9) _ ?_
    · exact ead_cons (ed_three (ed_int (ev_var rfl)) (ed_int (ev_var rfl)) (ed_two (ed_two ed_i ed_i) ed_non)) (ead_cons (ed_three (ed_int (ev_var rfl)) (ed_int (ev_var rfl)) (ed_two (ed_two ed_i ed_i) (ed_two ed_i ed_i))) ead_nil)
    intro p10 x10 H10 n10 e10 h10 t10
    exact q p10 x10 H10 (fresh_back e29 n10) (e29.trans e10) h10 t10
end
end K00

namespace K00
open PySem PySem.Spec PyProof.Rows L2 Evl Cn
section
variable {P : Program} {w : World} {K : PySem.W.Frag} {mg : Str → Option Value} {base : Heap}
def spLaw (K : PySem.W.Frag) : Sp := fun vs H Q _ => ∃ (a : Addr) (ns : List Int), vs = [.ref a] ∧ SqL K H a (ns.map V.int) ∧ ns.length ≤ 63 ∧ ∀ H', Q (.bl true) H'
theorem ok_law {f : Addr} {fd : FuncData} (F : Fun K "law" "law" s_law f fd) (m_range : mg "range" = none) (m_repr : mg "repr" = none) (m_int : mg "int" = none) (m_list : mg "list" = none) (m_tuple : mg "tuple" = none)
    {f_l_deck : Addr} {fd_l_deck : FuncData} (G_l_deck : FnOk P w K mg base CX0 1 f_l_deck fd_l_deck ["_law_script"] (spDeck K)) (g_l_deck : mg "_law_deck" = some (.ref f_l_deck)) (F_l_deck : Fun K "_law_deck" "_law_deck" s_l_deck f_l_deck fd_l_deck) (b_l_deck : Binds K fd_l_deck ["_law_script"] []) {f_l_garden : Addr} {fd_l_garden : FuncData} (G_l_garden : FnOk P w K mg base CX0 2 f_l_garden fd_l_garden ["_law_deck_here", "_law_most", "_law_top"] spGarden) (g_l_garden : mg "_law_garden" = some (.ref f_l_garden)) (F_l_garden : Fun K "_law_garden" "_law_garden" s_l_garden f_l_garden fd_l_garden) (b_l_garden : Binds K fd_l_garden ["_law_deck_here", "_law_most", "_law_top"] []) {f_l_same : Addr} {fd_l_same : FuncData} (G_l_same : FnG P w K mg base 1 f_l_same fd_l_same ["_law_value", "_law_due"] (spSame K)) (g_l_same : mg "_law_same" = some (.ref f_l_same)) (F_l_same : Fun K "_law_same" "_law_same" s_l_same f_l_same fd_l_same) (b_l_same : Binds K fd_l_same ["_law_value", "_law_due"] []) {f_l_odd : Addr} {fd_l_odd : FuncData} (G_l_odd : FnOk P w K mg base CX0 2 f_l_odd fd_l_odd ["_law_deck_here"] spOdd) (g_l_odd : mg "_law_odd" = some (.ref f_l_odd)) (F_l_odd : Fun K "_law_odd" "_law_odd" s_l_odd f_l_odd fd_l_odd) (b_l_odd : Binds K fd_l_odd ["_law_deck_here"] []) {f_l_part : Addr} {fd_l_part : FuncData} (G_l_part : FnOk P w K mg base CX0 6 f_l_part fd_l_part ["_law_deck_here", "_law_thing", "_law_depth"] (spPart 3)) (g_l_part : mg "_law_part" = some (.ref f_l_part)) (F_l_part : Fun K "_law_part" "_law_part" s_l_part f_l_part fd_l_part) (b_l_part : Binds K fd_l_part ["_law_deck_here", "_law_thing", "_law_depth"] []) {f_l_error : Addr} {fd_l_error : FuncData} (G_l_error : FnOk P w K mg base CX0 2 f_l_error fd_l_error ["_law_value"] sp_garden_error) (g_l_error : mg "_law_error" = some (.ref f_l_error)) (F_l_error : Fun K "_law_error" "_law_error" s_l_error f_l_error fd_l_error) (b_l_error : Binds K fd_l_error ["_law_value"] []) {f_l_edges : Addr} {fd_l_edges : FuncData} (G_l_edges : FnOk P w K mg base CX0 1 f_l_edges fd_l_edges ["_law_garden_here"] sp_edges) (g_l_edges : mg "_law_edges" = some (.ref f_l_edges)) (F_l_edges : Fun K "_law_edges" "_law_edges" s_l_edges f_l_edges fd_l_edges) (b_l_edges : Binds K fd_l_edges ["_law_garden_here"] []) {f_garden_error : Addr} {fd_garden_error : FuncData} (G_garden_error : FnOk P w K mg base CX0 6 f_garden_error fd_garden_error ["value"] sp_garden_error) (g_garden_error : mg "garden_error" = some (.ref f_garden_error)) (F_garden_error : Fun K "garden_error" "garden_error" s_garden_error f_garden_error fd_garden_error) (b_garden_error : Binds K fd_garden_error ["value"] []) {f_is_garden : Addr} {fd_is_garden : FuncData} (G_is_garden : FnOk P w K mg base CX0 7 f_is_garden fd_is_garden ["value"] sp_is_garden) (g_is_garden : mg "is_garden" = some (.ref f_is_garden)) (F_is_garden : Fun K "is_garden" "is_garden" s_is_garden f_is_garden fd_is_garden) (b_is_garden : Binds K fd_is_garden ["value"] [])  : FnG P w K mg base 8 f fd ["_law_script"] (spLaw K) := by
  refine okG F sc_law (fun vs H Q E h => ?_) (fun cdv A outer s H vs Q E gd hr h => ?_)
  · obtain ⟨a, ns, rfl, _⟩ := h
    rfl
  · obtain ⟨a, ns, rfl, hs, few, q⟩ := h
    refine ⟨_, (pss_cons (ps_set (i := 1) sc_law.nd rfl (.inr rfl) (pe_call G_l_deck (hr.mono (by first | decide | omega)) (by rfl) g_l_deck F_l_deck.kp b_l_deck .nil pass0 (pa_cons (pv 0) pa_nil)))
    (pss_cons (ps_for PassesOwn.never rfl (pi_range1 (by rfl) m_range (pa_cons pe_int pa_nil)) (pg_name (i := 2) sc_law.nd rfl (.inl rfl))
      (pss_cons (ps_set (i := 3) sc_law.nd rfl (.inr rfl) (pe_call G_l_garden (hr.mono (by first | decide | omega)) (by rfl) g_l_garden F_l_garden.kp b_l_garden .nil pass0 (pa_cons (pv 1) (pa_cons (pe_ix (ix_listK (K := K) rfl) (pe_lst (pa_cons pe_int (pa_cons pe_int pa_nil))) (pe_op op_mod (pv 2) pe_int) (fun _ _ => rfl)) (pa_cons (pe_op op_pow pe_int pe_int) pa_nil)))))
    (pss_cons (ps_asg (pv 3) (pg_tup rfl (pgs_cons (pg_name (i := 7) sc_law.nd rfl (.inl rfl)) (pgs_cons (pg_name (i := 8) sc_law.nd rfl (.inl rfl)) (pgs_cons (pg_name (i := 9) sc_law.nd rfl (.inl rfl)) pgs_nil)))))
    (pss_cons (ps_set (i := 4) sc_law.nd rfl (.inl rfl) (pe_callTy (call_tupleK (K := K) rfl) (by rfl) m_tuple (by decide +kernel) (pa_cons (pe_lc (own := [("_law_place", 12), ("_law_litres", 13)]) (g := (gTup K 2 (gCons (gName 12) (gCons (gName 13) gNil)))) rfl sc_law.nd (pi_tupK (K := K) rfl (pv 9)) (blkOk_by (N := N_law) (sc := defScope s_law) (by decide +kernel)) (fun _ _ _ _ _ => (pg_tup rfl (pgs_cons (pg_name (i := 12) sc_law.nd rfl (.inl rfl)) (pgs_cons (pg_name (i := 13) sc_law.nd rfl (.inl rfl)) pgs_nil)))) (fun _ _ _ _ _ => pts_nil) (fun _ _ _ _ _ => (pe_tup (pa_cons (pv 12) (pa_cons (pe_ix (ix_listK (K := K) rfl) (pe_lst (pa_cons (pv 13) (pa_cons pe_bl pa_nil))) (pe_callTy call_int1 (by rfl) m_int (by decide +kernel) (pa_cons (pe_cmpR op_eq (pv 13) pe_int (nomark _)) pa_nil)) (fun _ _ => rfl)) pa_nil))))) pa_nil)))
    (pss_cons (ps_set (i := 5) sc_law.nd rfl (.inl rfl) (pe_lst (pa_cons (pv 3) (pa_cons (pe_tup (pa_cons (pv 7) (pa_cons (pe_ix (ix_listK (K := K) rfl) (pe_lst (pa_cons (pv 8) (pa_cons (pe_cmpR op_eq (pv 8) pe_int (nomark _)) pa_nil))) (pe_callTy call_int1 (by rfl) m_int (by decide +kernel) (pa_cons (pe_cmpR op_eq (pv 8) pe_int (nomark _)) pa_nil)) (fun _ _ => rfl)) (pa_cons (pv 4) pa_nil)))) (pa_cons (pv 3) (pa_cons (pe_tup (pa_cons pe_int (pa_cons pe_int (pa_cons (pe_tup pa_nil) pa_nil)))) (pa_cons (pe_tup (pa_cons pe_bl (pa_cons pe_int (pa_cons (pe_tup pa_nil) pa_nil)))) (pa_cons (pe_tup (pa_cons pe_int (pa_cons pe_bl (pa_cons (pe_tup pa_nil) pa_nil)))) pa_nil))))))))
    (pss_cons (ps_set (i := 5) sc_law.nd rfl (.inl rfl) (pe_op op_cat (pv 5) (pe_lst (pa_cons (pe_tup (pa_cons pe_int (pa_cons pe_int (pa_cons (pe_tup (pa_cons (pe_tup (pa_cons pe_int (pa_cons pe_int pa_nil))) pa_nil)) pa_nil)))) (pa_cons (pe_tup (pa_cons pe_int (pa_cons pe_int (pa_cons (pe_tup (pa_cons (pe_tup (pa_cons pe_bl (pa_cons pe_int pa_nil))) pa_nil)) pa_nil)))) (pa_cons (pe_tup (pa_cons pe_int (pa_cons pe_int (pa_cons (pe_tup (pa_cons (pe_tup (pa_cons pe_int (pa_cons pe_bl pa_nil))) pa_nil)) pa_nil)))) (pa_cons (pe_tup (pa_cons pe_int (pa_cons pe_int (pa_cons (pe_tup (pa_cons (pe_tup (pa_cons pe_int (pa_cons pe_int pa_nil))) pa_nil)) pa_nil)))) pa_nil)))))))
    (pss_cons (ps_set (i := 5) sc_law.nd rfl (.inl rfl) (pe_op op_cat (pe_op op_cat (pv 5) (pe_lc (own := [("_law_k", 14)]) (g := (gName 14)) rfl sc_law.nd (pi_range1 (by rfl) m_range (pa_cons pe_int pa_nil)) (blkOk_by (N := N_law) (sc := defScope s_law) (by decide +kernel)) (fun _ _ _ _ _ => (pg_name (i := 14) sc_law.nd rfl (.inl rfl))) (fun _ _ _ _ _ => pts_nil) (fun _ _ _ _ _ => (pe_call G_l_part (hr.mono (by first | decide | omega)) (by rfl) g_l_part F_l_part.kp b_l_part .nil pass0 (pa_cons (pv 1) (pa_cons (pv 3) (pa_cons pe_int pa_nil))))))) (pe_lst (pa_cons (pe_call G_l_odd (hr.mono (by first | decide | omega)) (by rfl) g_l_odd F_l_odd.kp b_l_odd .nil pass0 (pa_cons (pv 1) pa_nil)) (pa_cons (pe_callTy (call_listZK (K := K) rfl) (by rfl) m_list (by decide +kernel) (pa_cons (pv 3) pa_nil)) pa_nil)))))
    (pss_cons (ps_expr (pe_bm PySem.F.plainAttrs_list PySem.F.slot_list_append PySem.F.type_list_append mt_append (pv 5) (pa_cons (pe_call G_l_part (hr.mono (by first | decide | omega)) (by rfl) g_l_part F_l_part.kp b_l_part .nil pass0 (pa_cons (pv 1) (pa_cons (pe_call G_l_part (hr.mono (by first | decide | omega)) (by rfl) g_l_part F_l_part.kp b_l_part .nil pass0 (pa_cons (pv 1) (pa_cons (pv 3) (pa_cons pe_int pa_nil)))) (pa_cons pe_int pa_nil)))) pa_nil)))
    (pss_one (ps_for PassesOwn.never rfl (pi_listK (K := K) rfl (pe_op op_cat (pv 5) (pe_call G_l_edges (hr.mono (by first | decide | omega)) (by rfl) g_l_edges F_l_edges.kp b_l_edges .nil pass0 (pa_cons (pv 3) pa_nil)))) (pg_name (i := 6) sc_law.nd rfl (.inr rfl))
      (pss_cons (ps_par (i := 10) (j := 11) (by rfl) sc_law.nd rfl rfl (by decide) rfl rfl (pa_cons (pe_callB (call_reprV gd hr.units) (by rfl) m_repr (by decide +kernel) (pa_cons (pv 6) pa_nil)) (pa_cons (pe_call G_l_error (hr.mono (by first | decide | omega)) (by rfl) g_l_error F_l_error.kp b_l_error .nil pass0 (pa_cons (pv 6) pa_nil)) pa_nil)) (by rfl))
    (pss_cons (ps_if (pt_not (pt_val (pe_callG G_l_same gd (hr.mono (by first | decide | omega)) (by rfl) g_l_same F_l_same.kp b_l_same (pa_cons (pe_lc (own := [("_law_again", 15)]) (g := (gName 15)) rfl sc_law.nd (pi_range1 (by rfl) m_range (pa_cons pe_int pa_nil)) (blkOk_by (N := N_law) (sc := defScope s_law) (by decide +kernel)) (fun _ _ _ _ _ => (pg_name (i := 15) sc_law.nd rfl (.inl rfl))) (fun _ _ _ _ _ => pts_nil) (fun _ _ _ _ _ => (pe_call G_garden_error (hr.mono (by first | decide | omega)) (by rfl) g_garden_error F_garden_error.kp b_garden_error .nil pass0 (pa_cons (pv 6) pa_nil)))) (pa_cons (pe_lst (pa_cons (pv 11) (pa_cons (pv 11) pa_nil))) pa_nil))))) (pss_one (ps_ret pe_bl)) pss_nil)
    (pss_one (ps_if (PW.pt (pw_or (pt_cmpR op_ne (pe_callB (call_reprV gd hr.units) (by rfl) m_repr (by decide +kernel) (pa_cons (pe_call G_is_garden (hr.mono (by first | decide | omega)) (by rfl) g_is_garden F_is_garden.kp b_is_garden .nil pass0 (pa_cons (pv 6) pa_nil)) pa_nil)) (pe_callB (call_reprV gd hr.units) (by rfl) m_repr (by decide +kernel) (pa_cons (pe_cmpR op_isN (pv 11) pe_non (nomark _)) pa_nil)) (nomark _)) (pw_or1 (pt_cmpR op_ne (pe_callB (call_reprV gd hr.units) (by rfl) m_repr (by decide +kernel) (pa_cons (pv 6) pa_nil)) (pv 10) (nomark _))))) (pss_one (ps_ret pe_bl)) pss_nil))))))))))))))
    (pss_one (ps_ret pe_bl)))), ?_⟩
    refine ⟨.ref a, rfl, a, ns, rfl, hs, few, fun D C H1 nD nC e1 dk1 => ?_⟩
    dsimp only [gName]
    refine q_forR1 (n := 8) (ea_cons ev_c ea_nil) (by decide) (fun i σ' H' => ∃ y2 y3 y4 y5 y6 y7 y8 y9 y10 y11 y12 y13 y14 y15, σ' = [some (.ref a), some (.ref D), y2, y3, y4, y5, y6, y7, y8, y9, y10, y11, y12, y13, y14, y15] ∧ Deck D C (2000 * i) H') ?_ ?_ ?_
    · exact fun H2 e2 => ⟨_, _, _, _, _, _, _, _, _, _, _, _, _, _, rfl, dk1.ex e2⟩
    · rintro i σ' H2 hi ⟨y2, y3, y4, y5, y6, y7, y8, y9, y10, y11, y12, y13, y14, y15, rfl, dk2⟩
      -- the garden
      have hz : ∃ z : Int, 1 ≤ z ∧ z ≤ 12 ∧ ([PyData.int 12, PyData.int 3])[i % 2]? = some (.int z) := by
        rcases Nat.mod_two_eq_zero_or_one i with h | h <;> rw [h]
        · exact ⟨12, by omega, by omega, rfl⟩
        · exact ⟨3, by omega, by omega, rfl⟩
      obtain ⟨z, z1, z12, hz⟩ := hz
      refine ⟨.ref D, rfl, ?_⟩
      refine ev_of (ed_ixL (K := K) (i := i % 2) (ds := [.int 12, .int 3]) (eld_lst (ead_cons ed_i (ead_cons ed_i ead_nil)) (by decide)) (ev_op (ev_var rfl) ev_c (rv_I (by decide))) hz) H2 (Ex.refl H2) _ fun H3 e3 => ?_
      refine ev_p9 H3 (Ex.refl H3) _ fun H4 e4 => ?_
      refine ⟨D, C, 2000 * i, z, 1000000000, rfl, dk2.ex (e3.trans e4), by omega, z1, z12, by omega, by omega, fun v t c bs H5 gok ga5 kp5 dk5 => ?_⟩
      have blen : bs.length ≤ 12 := by have := gok.few; omega
      clear kp5 dk2 e3 e4
      obtain ⟨g, b, xs, ob, rfl, hg5, hb5, nod, hx5⟩ := id ga5
      have tg5 := ga5.tp
      dsimp only [gName]
      refine ⟨.ref g, rfl, g, _, rfl, sr hg5, rfl, .int t, _, rfl, .int c, _, rfl, .ref b, _, rfl, rfl, ?_⟩
      dsimp only [gName]
      -- the twin
      refine q_asgD (d := .tuple (bs.map twin1)) (ed_tupleOf (eld_is (eld_beds (fun _ => true) twin1 (ev_var rfl) (.inr ⟨ob, hb5⟩) hx5 (by omega) (fun _ _ => rfl) (fun _ _ => et_yes) (fun b _ _ => ?_)) (by rw [List.filter_eq_self.mpr (fun _ _ => rfl)]))) ?_
      · exact ed_two (ed_int (ev_var rfl)) (ed_pick (eld_lst (ead_cons (ed_int (ev_var rfl)) (ead_cons ed_bl ead_nil)) (by simp)) (ev_intB (ev_op (ev_var rfl) ev_c (rv_eq rfl))))
      intro vt H6 e6 tt6
      have tg6 := tg5.mono (Tk.ex e6)
      -- values
      refine q_asgLd (ds := valA t c bs) (eld_lst ?_ (by show 6 ≤ 100000; decide)) ?_
      · exact ead_cons (ed_var rfl tg6) (ead_cons (ed_three (ed_int (ev_var rfl)) (ed_pick (eld_lst (ead_cons (ed_int (ev_var rfl)) (ead_cons (ed_bv (ev_op (ev_var rfl) ev_c (rv_eq rfl))) ead_nil)) (by simp)) (ev_intB (ev_op (ev_var rfl) ev_c (rv_eq rfl)))) (ed_var rfl tt6)) (ead_cons (ed_var rfl tg6) (ead_cons (ed_three ed_i ed_i (ed_tup ead_nil (by simp))) (ead_cons (ed_three ed_bl ed_i (ed_tup ead_nil (by simp))) (ead_cons (ed_three ed_i ed_bl (ed_tup ead_nil (by simp))) ead_nil)))))
      intro p1 x1 H7 n1 e7 h7 t7
      refine q_asgLd (ds := valA t c bs ++ valB) (eld_catV (ev_var rfl) h7 t7 (eld_lst ?_ (by show 4 ≤ 100000; decide)) (by show 10 ≤ 100000; decide)) ?_
      · exact ead_cons (ed_three ed_i ed_i (ed_one (ed_two ed_i ed_i))) (ead_cons (ed_three ed_i ed_i (ed_one (ed_two ed_bl ed_i))) (ead_cons (ed_three ed_i ed_i (ed_one (ed_two ed_i ed_bl))) (ead_cons (ed_three ed_i ed_i (ed_one (ed_two ed_i ed_i))) ead_nil)))
      intro p2 x2 H8 n2 e8 h8 t8
      have e58 := (e6.trans e7).trans e8
      have dk8 := dk5.ex e58
      have tg8 := tg5.mono (Tk.ex e58)
      have szG := gok.szG z12 (by omega)
      obtain ⟨n2D, n2C⟩ := Kp.free (dk5.ex (e6.trans e7)) n2
      have okAB : ∀ d ∈ valA t c bs ++ valB, Sz (10 ^ 39 + 10) 1000000 50 d := fun d hd => by
        rcases List.mem_append.mp hd with hd | hd
        · exact (valA_sz gok z12 (by omega) d hd).mono (by omega) (by omega) (by omega)
        · exact (valB_sz d hd).mono (by omega) (by omega) (by omega)
      have lAB : (valA t c bs ++ valB).length = 10 := rfl
      clear e6 e7 e8 n1 h7 t7 tt6 tg6
      -- the parts
      rw [seq_asg]
      refine ⟨.ref p2, rfl, ?_⟩
      refine da_list (K := K) (D := D) (C := C) (n := 12) (2000 * i + 100) 10 (fun d => Sz (10 ^ 39 + 1) 42000 7 d) (ea_cons ev_c ea_nil) (by decide) (by decide) dk8 (fun _ => rfl) ?_ ?_
      · intro k H9 hk kp9 dk9 Q2 fin
        exact ⟨.ref D, rfl, .ref g, rfl, D, C, _, .ref g, gardenD t c bs, 3, 10 ^ 39, 20000, 3, rfl, Nat.le_refl _, dk9, by omega, tg8.mono (Kp.tk dk8 kp9), Nat.le_refl _, by omega, szG, by omega, fun v' d' H' sz' t' kp' dk' => fin v' d' H' (sz'.mono (by omega) (by omega) (by omega)) t' kp' (dk'.mono (by omega))⟩
      intro p3 x3 d3 H9 n3 kp9 dk9 h9 t9 len3 ok3
      have tg9 := tg8.mono (Kp.tk dk8 kp9)
      have h2_9 := kp9 p2 _ n2D n2C h8
      have t2_9 := t8.mono (Kp.tk dk8 kp9)
      have lx2 : x2.length = 10 := t8.length.trans lAB
      have lx3 : x3.length = 12 := t9.length.trans len3
      refine ⟨p2, p3, x2, x3, rfl, rfl, h2_9, h9, sz_of (by omega), fun p4 n4 => ?_⟩
      obtain ⟨n4D, n4C⟩ := Kp.free dk9 n4
      have e10 : Ex H9 (upd H9 p4 (.lst (x2 ++ x3))) := Ex.new n4
      have h10 : upd H9 p4 (.lst (x2 ++ x3)) p4 = some (.lst (x2 ++ x3)) := upd_same
      have t10 := (t2_9.append t9).mono (Tk.ex e10)
      have tg10 := tg9.mono (Tk.ex e10)
      have dk10 := dk9.ex e10
      generalize upd H9 p4 (.lst (x2 ++ x3)) = H10 at e10 h10 t10 tg10 dk10 ⊢
      refine ⟨.ref D, rfl, D, C, _, rfl, dk10, by omega, fun vo dO H11 ho to11 kp11 dk11 => ?_⟩
      have h11 := kp11 p4 _ n4D n4C h10
      have t11 := t10.mono (Kp.tk dk10 kp11)
      have tg11 := tg10.mono (Kp.tk dk10 kp11)
      refine ed_listZ (K := K) (ds := [.int t, .int c, bedsD bs]) (ed_var rfl tg11) H11 (Ex.refl H11) _ fun vl H12 e12 tl12 => ?_
      refine ⟨by show 2 ≤ sizeLine; decide, fun p5 n5 => ?_⟩
      have e13 : Ex H12 (upd H12 p5 (.lst [vo, vl])) := Ex.new n5
      have e1113 := e12.trans e13
      have h13 : upd H12 p5 (.lst [vo, vl]) p5 = some (.lst [vo, vl]) := upd_same
      have h4_13 := e1113 p4 _ h11
      have t13 := (t11.mono (Tk.ex e1113)).append (.cons (to11.mono (Tk.ex e1113)) (.cons (tl12.mono (Tk.ex e13)) .nil))
      generalize upd H12 p5 (.lst [vo, vl]) = H13 at e13 e1113 h13 h4_13 t13 ⊢
      refine ⟨p4, p5, x2 ++ x3, [vo, vl], rfl, rfl, h4_13, h13, sz_of (by simp; omega), fun p6 n6 => ?_⟩
      have e14 : Ex H13 (upd H13 p6 (.lst ((x2 ++ x3) ++ [vo, vl]))) := Ex.new n6
      have e1114 := e1113.trans e14
      have h14 : upd H13 p6 (.lst ((x2 ++ x3) ++ [vo, vl])) p6 = some (.lst ((x2 ++ x3) ++ [vo, vl])) := upd_same
      have t14 := t13.mono (Tk.ex e14)
      have dk14 := dk11.ex e1114
      have tg14 := tg11.mono (Tk.ex e1114)
      obtain ⟨n6D, n6C⟩ := Kp.free (dk11.ex e1113) n6
      have lx : ((x2 ++ x3) ++ [vo, vl]).length = 24 := by simp [lx2, lx3]
      have ok14 : ∀ d ∈ (((valA t c bs ++ valB) ++ d3) ++ [dO, .list [.int t, .int c, bedsD bs]]), Sz (10 ^ 39 + 10) 1000000 50 d := fun d hd => by
        rcases List.mem_append.mp hd with hd | hd
        · rcases List.mem_append.mp hd with hd | hd
          · exact okAB d hd
          · exact (ok3 d hd).mono (by omega) (by omega) (by omega)
        · simp only [List.mem_cons, List.not_mem_nil, or_false] at hd
          rcases hd with rfl | rfl
          · exact (odd_sz d ho).mono (by omega) (by omega) (by omega)
          · exact (gok.szL z12 (by omega)).mono (by omega) (by omega) (by omega)
      generalize (((valA t c bs ++ valB) ++ d3) ++ [dO, .list [.int t, .int c, bedsD bs]]) = d14 at t14 ok14
      generalize (x2 ++ x3) ++ [vo, vl] = x14 at h14 t14 lx e14 e1114 dk14 tg14 ⊢
      generalize upd H13 p6 (.lst x14) = H14 at e14 e1114 h14 t14 dk14 tg14 ⊢
      clear e10 h10 t10 tg10 dk10 h11 t11 tg11 e12 tl12 e13 e1113 h13 h4_13 t13 e14 to11 dk9 kp9 h9 t9 tg9 h2_9 t2_9 dk8 h8 t8 tg8 kp11
      dsimp only [gName]
      -- a part of a part
      refine ⟨.ref p6, rfl, Or.inl ⟨rfl, _, sq_of h14⟩, .ref D, rfl, .ref D, rfl, .ref g, rfl, D, C, _, .ref g, gardenD t c bs, 3, 10 ^ 39, 20000, 3, rfl, Nat.le_refl _, dk14, by omega, tg14, Nat.le_refl _, by omega, szG, by omega, fun v1 d1 H15 sz1 t1 kp15 dk15 => ?_⟩
      refine ⟨D, C, _, v1, d1, 3, 10 ^ 39 + 1, 42000, 7, rfl, Nat.le_refl _, dk15, by omega, t1, by omega, by omega, sz1, by omega, fun v2 d2 H16 sz2 t2 kp16 dk16 => ?_⟩
      have kp1416 := kp15.trans kp16
      have h16 := kp1416 p6 _ n6D n6C h14
      have t16 := t14.mono (Kp.tk dk14 kp1416)
      have tg16 := tg14.mono (Kp.tk dk14 kp1416)
      refine ⟨p6, x14, v2, rfl, rfl, h16, sz_lt (by omega), ?_⟩
      have t17 := (t16.append (.cons t2 .nil)).mono (Tk.lst (ys := x14 ++ [v2]) h16)
      have h17 : upd H16 p6 (.lst (x14 ++ [v2])) p6 = some (.lst (x14 ++ [v2])) := upd_same
      have tg17 := tg16.mono (Tk.lst (ys := x14 ++ [v2]) h16)
      have dk17 : Deck D C (2000 * i + 2000) (upd H16 p6 (.lst (x14 ++ [v2]))) := (dk16.mut n6D n6C).mono (by omega)
      have ok17 : ∀ d ∈ d14 ++ [d2], Sz (10 ^ 39 + 10) 1000000 50 d := fun d hd => by
        rcases List.mem_append.mp hd with hd | hd
        · exact ok14 d hd
        · rw [List.mem_singleton.mp hd]
          exact sz2.mono (by omega) (by omega) (by omega)
      have ld : (d14 ++ [d2]).length = 25 := by
        have := t17.length
        simp only [List.length_append, List.length_cons, List.length_nil] at this ⊢
        omega
      generalize d14 ++ [d2] = d17 at t17 ok17 ld
      generalize x14 ++ [v2] = x17 at t17 h17 tg17 dk17 ⊢
      generalize upd H16 p6 (.lst x17) = H17 at t17 h17 tg17 dk17 ⊢
      clear h16 t16 tg16 kp1416 kp15 kp16 dk15 dk16 dk14 tg14 h14 t14 t1 t2 sz1 sz2
      -- each value
      dsimp only
      refine s_forS (K := K) (P := fun p xs H' => Ex H17 H' ∧ H' p = some (.lst xs) ∧ TpAll H' xs (d17 ++ edgesD t c bs)) ?_ (fun p xs H' h => sq_of h.2.1) (fun p xs k σ' H' => ∃ y6 y10 y11, σ' = [some (.ref a), some (.ref D), some (.int (i : Int)), some (.ref g), some vt, some (.ref p6), y6, some (.int t), some (.int c), some (.ref b), y10, y11, y12, y13, y14, y15] ∧ Ex H17 H' ∧ H' p = some (.lst xs) ∧ TpAll H' xs (d17 ++ edgesD t c bs)) ?_ ?_ ?_ ?_
      · intro Q2 fin
        refine eld_catV (ds := d17) (es := edgesD t c bs) (ev_var rfl) h17 t17 ?_ (by rw [ld]; show 46 ≤ 100000; decide) H17 (Ex.refl H17) _ fun p xs H18 n18 e18 h18 t18 => fin p xs H18 ⟨e18, h18, t18⟩
        intro H18 e18 Q3 fin3
        exact ⟨.ref g, rfl, .ref g, t, c, bs, rfl, tg17.mono (Tk.ex e18), blen, fun p xs H' n e h t => fin3 p xs H' n e h t⟩
      · rintro p xs H' ⟨e, h, t⟩
        exact ⟨_, _, _, rfl, e, h, t⟩
      · rintro p xs k σ' H' _ ⟨_, _, _, _, _, h, _⟩
        exact sq_of h
      · rintro p xs k x σ' H18 hk ⟨y6, y10, y11, rfl, e18, h18, t18⟩
        have lk : k < (d17 ++ edgesD t c bs).length := by
          have := (List.getElem?_eq_some_iff.mp hk).1
          rw [t18.length] at this
          exact this
        obtain ⟨v, hv, tv⟩ := t18.get (i := k) (List.getElem?_eq_getElem lk)
        rw [hk] at hv
        cases hv
        have okd : Sz (10 ^ 39 + 10) 1000000 50 (d17 ++ edgesD t c bs)[k] := by
          rcases List.mem_append.mp (List.getElem_mem lk) with hd | hd
          · exact ok17 _ hd
          · exact (edges_sz gok z12 (by omega) _ hd).mono (by omega) (by omega) (by omega)
        generalize (d17 ++ edgesD t c bs)[k] = d at tv okd
        dsimp only [gName]
        refine q_parD (d := .str d.shown) (e := gerr d) (ead_cons (ed_sv (ev_reprV (ed_var rfl tv) okd)) (ead_cons (ed_callV (ds := [d]) (ead_cons (ed_var rfl tv) ead_nil) ?_) ead_nil)) ?_
        · intro vs H19 e19 t19 Q2 k2 E2
          cases t19 with
          | cons a b =>
            cases b
            exact ⟨_, d, rfl, a, k2⟩
        intro vs vd H19 e19 ts td
        rw [ts.str_inv]
        have tv19 := tv.mono (Tk.ex e19)
        have shG := gerr_sh d
        refine q_when (b := false) ?_ (fun z => nomatch z) ?_
        · refine et_is (et_not (et_B (ev_same (K := K) (ds := [gerr d, gerr d]) ?_ ?_ ?_))) rfl
          · refine eld_range (n := 2) (ea_cons ev_c ea_nil) (by omega) (fun _ => gerr d) (fun _ => rfl) fun k _ => ?_
            refine ed_callV (ds := [d]) (ead_cons (ed_var rfl tv19) ead_nil) fun vs H20 e20 t20 Q2 k2 E2 => ?_
            cases t20 with
            | cons a b =>
              cases b
              exact ⟨_, d, rfl, a, k2⟩
          · exact eld_lst (ead_cons (ed_var rfl td) (ead_cons (ed_var rfl td) ead_nil)) (by simp)
          · refine (sh_lst (k := 300) (n := 1) (m := 1000) (fun x hx => ?_) (by simp)).mono (by omega) (by omega)
            simp only [List.mem_cons, List.not_mem_nil, or_false, or_self] at hx
            rw [hx]
            exact shG
        intro _ H20 e20
        have tv20 := tv19.mono (Tk.ex e20)
        have td20 := td.mono (Tk.ex e20)
        have szb : ∀ b : Bool, Sz (10 ^ 39 + 10) 1000000 50 (.bool b) := fun b => ⟨rfl, by simp only [wv]; omega, by simp only [dv]; omega⟩
        refine s_when (b := false) ?_ (fun z => nomatch z) ?_
        · refine et_is (et_or (a := !decide (V.str (PyData.bool (isNone (gerr d))).shown = V.str (PyData.bool (isNone (gerr d))).shown)) (b := !decide (V.str d.shown = V.str d.shown)) (et_test (ev_op (ev_reprV (ed_bv ?_) (szb _)) (ev_reprV (ed_bv ?_) (szb _)) (rv_ne rfl))) (fun _ => et_test (ev_op (ev_reprV (ed_var rfl tv20) okd) (ev_var rfl) (rv_ne rfl)))) (by simp)
          · refine ev_callV (ds := [d]) (ead_cons (ed_var rfl tv20) ead_nil) fun vs H21 e21 t21 Q2 k2 E2 => ?_
            cases t21 with
            | cons a b =>
              cases b
              exact ⟨_, d, rfl, a, k2⟩
          · rw [← isNone_gerr_val td20]
            exact ev_op (ev_var rfl) ev_c (rv_val fun H21 _ Q2 k2 => ⟨rfl, k2⟩)
        intro _ H21 e21
        have e1821 := (e19.trans e20).trans e21
        exact ⟨_, _, _, rfl, e18.trans e1821, e1821 p _ h18, t18.mono (Tk.ex e1821)⟩
      · rintro p xs σ' H' ⟨y6', y10', y11', rfl, e', _, _⟩
        exact ⟨_, _, _, _, _, _, _, _, _, _, _, _, _, _, rfl, (dk17.ex e').mono (by rw [show ((i + 1 : Nat) : Int) = (i : Int) + 1 by omega]; omega)⟩
    · rintro σ' H' _
      exact q H'
end
end K00

namespace K00
open PySem PySem.Spec PyProof.Rows L2 Evl Cn
theorem all_mk {l : PySem.W.OpenLaw} {w : World} {K : PySem.W.Frag} {h : Heap} {mg : Str → Option Value} {fa : Addr} (X : K.In h) (G : h.Ns mainGlobals mg) (hfa : mg "law" = some (.ref fa))
    {od_is_number an_is_number : Option Addr} {sl_is_number : Array (Option Value)} {oc_is_number kV_is_number dc_is_number pm_is_number cd_is_number ct_is_number : Value} {f_is_number : Addr}
    (a_is_number : PySem.W.nsIn K mainGlobals "is_number" = some (some (.ref f_is_number)))
    (l_is_number : K.lookup f_is_number = some ⟨oc_is_number, od_is_number, .func (PySem.W.fnOf "is_number" "is_number" (defArgs s_is_number) (defBody s_is_number) (defScope s_is_number) .none kV_is_number dc_is_number pm_is_number an_is_number cd_is_number ct_is_number), sl_is_number⟩)
    (c_is_number : PySem.W.codeIn K cd_is_number "is_number" = true) (k_is_number : PySem.W.keepIn K (.ref f_is_number) = true)
    {od_is_number_within an_is_number_within : Option Addr} {sl_is_number_within : Array (Option Value)} {oc_is_number_within kV_is_number_within dc_is_number_within pm_is_number_within cd_is_number_within ct_is_number_within : Value} {f_is_number_within : Addr}
    (a_is_number_within : PySem.W.nsIn K mainGlobals "is_number_within" = some (some (.ref f_is_number_within)))
    (l_is_number_within : K.lookup f_is_number_within = some ⟨oc_is_number_within, od_is_number_within, .func (PySem.W.fnOf "is_number_within" "is_number_within" (defArgs s_is_number_within) (defBody s_is_number_within) (defScope s_is_number_within) .none kV_is_number_within dc_is_number_within pm_is_number_within an_is_number_within cd_is_number_within ct_is_number_within), sl_is_number_within⟩)
    (c_is_number_within : PySem.W.codeIn K cd_is_number_within "is_number_within" = true) (k_is_number_within : PySem.W.keepIn K (.ref f_is_number_within) = true)
    {od_is_place an_is_place : Option Addr} {sl_is_place : Array (Option Value)} {oc_is_place kV_is_place dc_is_place pm_is_place cd_is_place ct_is_place : Value} {f_is_place : Addr}
    (a_is_place : PySem.W.nsIn K mainGlobals "is_place" = some (some (.ref f_is_place)))
    (l_is_place : K.lookup f_is_place = some ⟨oc_is_place, od_is_place, .func (PySem.W.fnOf "is_place" "is_place" (defArgs s_is_place) (defBody s_is_place) (defScope s_is_place) .none kV_is_place dc_is_place pm_is_place an_is_place cd_is_place ct_is_place), sl_is_place⟩)
    (c_is_place : PySem.W.codeIn K cd_is_place "is_place" = true) (k_is_place : PySem.W.keepIn K (.ref f_is_place) = true)
    {od_is_tuple_of an_is_tuple_of : Option Addr} {sl_is_tuple_of : Array (Option Value)} {oc_is_tuple_of kV_is_tuple_of dc_is_tuple_of pm_is_tuple_of cd_is_tuple_of ct_is_tuple_of : Value} {f_is_tuple_of : Addr}
    (a_is_tuple_of : PySem.W.nsIn K mainGlobals "is_tuple_of" = some (some (.ref f_is_tuple_of)))
    (l_is_tuple_of : K.lookup f_is_tuple_of = some ⟨oc_is_tuple_of, od_is_tuple_of, .func (PySem.W.fnOf "is_tuple_of" "is_tuple_of" (defArgs s_is_tuple_of) (defBody s_is_tuple_of) (defScope s_is_tuple_of) .none kV_is_tuple_of dc_is_tuple_of pm_is_tuple_of an_is_tuple_of cd_is_tuple_of ct_is_tuple_of), sl_is_tuple_of⟩)
    (c_is_tuple_of : PySem.W.codeIn K cd_is_tuple_of "is_tuple_of" = true) (k_is_tuple_of : PySem.W.keepIn K (.ref f_is_tuple_of) = true)
    {od_is_bed an_is_bed : Option Addr} {sl_is_bed : Array (Option Value)} {oc_is_bed kV_is_bed dc_is_bed pm_is_bed cd_is_bed ct_is_bed : Value} {f_is_bed : Addr}
    (a_is_bed : PySem.W.nsIn K mainGlobals "is_bed" = some (some (.ref f_is_bed)))
    (l_is_bed : K.lookup f_is_bed = some ⟨oc_is_bed, od_is_bed, .func (PySem.W.fnOf "is_bed" "is_bed" (defArgs s_is_bed) (defBody s_is_bed) (defScope s_is_bed) .none kV_is_bed dc_is_bed pm_is_bed an_is_bed cd_is_bed ct_is_bed), sl_is_bed⟩)
    (c_is_bed : PySem.W.codeIn K cd_is_bed "is_bed" = true) (k_is_bed : PySem.W.keepIn K (.ref f_is_bed) = true)
    {od_bed_error an_bed_error : Option Addr} {sl_bed_error : Array (Option Value)} {oc_bed_error kV_bed_error dc_bed_error pm_bed_error cd_bed_error ct_bed_error : Value} {f_bed_error : Addr}
    (a_bed_error : PySem.W.nsIn K mainGlobals "bed_error" = some (some (.ref f_bed_error)))
    (l_bed_error : K.lookup f_bed_error = some ⟨oc_bed_error, od_bed_error, .func (PySem.W.fnOf "bed_error" "bed_error" (defArgs s_bed_error) (defBody s_bed_error) (defScope s_bed_error) .none kV_bed_error dc_bed_error pm_bed_error an_bed_error cd_bed_error ct_bed_error), sl_bed_error⟩)
    (c_bed_error : PySem.W.codeIn K cd_bed_error "bed_error" = true) (k_bed_error : PySem.W.keepIn K (.ref f_bed_error) = true)
    {od_garden_error an_garden_error : Option Addr} {sl_garden_error : Array (Option Value)} {oc_garden_error kV_garden_error dc_garden_error pm_garden_error cd_garden_error ct_garden_error : Value} {f_garden_error : Addr}
    (a_garden_error : PySem.W.nsIn K mainGlobals "garden_error" = some (some (.ref f_garden_error)))
    (l_garden_error : K.lookup f_garden_error = some ⟨oc_garden_error, od_garden_error, .func (PySem.W.fnOf "garden_error" "garden_error" (defArgs s_garden_error) (defBody s_garden_error) (defScope s_garden_error) .none kV_garden_error dc_garden_error pm_garden_error an_garden_error cd_garden_error ct_garden_error), sl_garden_error⟩)
    (c_garden_error : PySem.W.codeIn K cd_garden_error "garden_error" = true) (k_garden_error : PySem.W.keepIn K (.ref f_garden_error) = true)
    {od_is_garden an_is_garden : Option Addr} {sl_is_garden : Array (Option Value)} {oc_is_garden kV_is_garden dc_is_garden pm_is_garden cd_is_garden ct_is_garden : Value} {f_is_garden : Addr}
    (a_is_garden : PySem.W.nsIn K mainGlobals "is_garden" = some (some (.ref f_is_garden)))
    (l_is_garden : K.lookup f_is_garden = some ⟨oc_is_garden, od_is_garden, .func (PySem.W.fnOf "is_garden" "is_garden" (defArgs s_is_garden) (defBody s_is_garden) (defScope s_is_garden) .none kV_is_garden dc_is_garden pm_is_garden an_is_garden cd_is_garden ct_is_garden), sl_is_garden⟩)
    (c_is_garden : PySem.W.codeIn K cd_is_garden "is_garden" = true) (k_is_garden : PySem.W.keepIn K (.ref f_is_garden) = true)
    {od_l_deck an_l_deck : Option Addr} {sl_l_deck : Array (Option Value)} {oc_l_deck kV_l_deck dc_l_deck pm_l_deck cd_l_deck ct_l_deck : Value} {f_l_deck : Addr}
    (a_l_deck : PySem.W.nsIn K mainGlobals "_law_deck" = some (some (.ref f_l_deck)))
    (l_l_deck : K.lookup f_l_deck = some ⟨oc_l_deck, od_l_deck, .func (PySem.W.fnOf "_law_deck" "_law_deck" (defArgs s_l_deck) (defBody s_l_deck) (defScope s_l_deck) .none kV_l_deck dc_l_deck pm_l_deck an_l_deck cd_l_deck ct_l_deck), sl_l_deck⟩)
    (c_l_deck : PySem.W.codeIn K cd_l_deck "_law_deck" = true) (k_l_deck : PySem.W.keepIn K (.ref f_l_deck) = true)
    {od_l_draw an_l_draw : Option Addr} {sl_l_draw : Array (Option Value)} {oc_l_draw kV_l_draw dc_l_draw pm_l_draw cd_l_draw ct_l_draw : Value} {f_l_draw : Addr}
    (a_l_draw : PySem.W.nsIn K mainGlobals "_law_draw" = some (some (.ref f_l_draw)))
    (l_l_draw : K.lookup f_l_draw = some ⟨oc_l_draw, od_l_draw, .func (PySem.W.fnOf "_law_draw" "_law_draw" (defArgs s_l_draw) (defBody s_l_draw) (defScope s_l_draw) .none kV_l_draw dc_l_draw pm_l_draw an_l_draw cd_l_draw ct_l_draw), sl_l_draw⟩)
    (c_l_draw : PySem.W.codeIn K cd_l_draw "_law_draw" = true) (k_l_draw : PySem.W.keepIn K (.ref f_l_draw) = true)
    {od_l_same an_l_same : Option Addr} {sl_l_same : Array (Option Value)} {oc_l_same kV_l_same dc_l_same pm_l_same cd_l_same ct_l_same : Value} {f_l_same : Addr}
    (a_l_same : PySem.W.nsIn K mainGlobals "_law_same" = some (some (.ref f_l_same)))
    (l_l_same : K.lookup f_l_same = some ⟨oc_l_same, od_l_same, .func (PySem.W.fnOf "_law_same" "_law_same" (defArgs s_l_same) (defBody s_l_same) (defScope s_l_same) .none kV_l_same dc_l_same pm_l_same an_l_same cd_l_same ct_l_same), sl_l_same⟩)
    (c_l_same : PySem.W.codeIn K cd_l_same "_law_same" = true) (k_l_same : PySem.W.keepIn K (.ref f_l_same) = true)
    {od_l_garden an_l_garden : Option Addr} {sl_l_garden : Array (Option Value)} {oc_l_garden kV_l_garden dc_l_garden pm_l_garden cd_l_garden ct_l_garden : Value} {f_l_garden : Addr}
    (a_l_garden : PySem.W.nsIn K mainGlobals "_law_garden" = some (some (.ref f_l_garden)))
    (l_l_garden : K.lookup f_l_garden = some ⟨oc_l_garden, od_l_garden, .func (PySem.W.fnOf "_law_garden" "_law_garden" (defArgs s_l_garden) (defBody s_l_garden) (defScope s_l_garden) .none kV_l_garden dc_l_garden pm_l_garden an_l_garden cd_l_garden ct_l_garden), sl_l_garden⟩)
    (c_l_garden : PySem.W.codeIn K cd_l_garden "_law_garden" = true) (k_l_garden : PySem.W.keepIn K (.ref f_l_garden) = true)
    {od_l_odd an_l_odd : Option Addr} {sl_l_odd : Array (Option Value)} {oc_l_odd kV_l_odd dc_l_odd pm_l_odd cd_l_odd ct_l_odd : Value} {f_l_odd : Addr}
    (a_l_odd : PySem.W.nsIn K mainGlobals "_law_odd" = some (some (.ref f_l_odd)))
    (l_l_odd : K.lookup f_l_odd = some ⟨oc_l_odd, od_l_odd, .func (PySem.W.fnOf "_law_odd" "_law_odd" (defArgs s_l_odd) (defBody s_l_odd) (defScope s_l_odd) .none kV_l_odd dc_l_odd pm_l_odd an_l_odd cd_l_odd ct_l_odd), sl_l_odd⟩)
    (c_l_odd : PySem.W.codeIn K cd_l_odd "_law_odd" = true) (k_l_odd : PySem.W.keepIn K (.ref f_l_odd) = true)
    {od_l_part an_l_part : Option Addr} {sl_l_part : Array (Option Value)} {oc_l_part kV_l_part dc_l_part pm_l_part cd_l_part ct_l_part : Value} {f_l_part : Addr}
    (a_l_part : PySem.W.nsIn K mainGlobals "_law_part" = some (some (.ref f_l_part)))
    (l_l_part : K.lookup f_l_part = some ⟨oc_l_part, od_l_part, .func (PySem.W.fnOf "_law_part" "_law_part" (defArgs s_l_part) (defBody s_l_part) (defScope s_l_part) .none kV_l_part dc_l_part pm_l_part an_l_part cd_l_part ct_l_part), sl_l_part⟩)
    (c_l_part : PySem.W.codeIn K cd_l_part "_law_part" = true) (k_l_part : PySem.W.keepIn K (.ref f_l_part) = true)
    {od_l_is_number an_l_is_number : Option Addr} {sl_l_is_number : Array (Option Value)} {oc_l_is_number kV_l_is_number dc_l_is_number pm_l_is_number cd_l_is_number ct_l_is_number : Value} {f_l_is_number : Addr}
    (a_l_is_number : PySem.W.nsIn K mainGlobals "_law_is_number" = some (some (.ref f_l_is_number)))
    (l_l_is_number : K.lookup f_l_is_number = some ⟨oc_l_is_number, od_l_is_number, .func (PySem.W.fnOf "_law_is_number" "_law_is_number" (defArgs s_l_is_number) (defBody s_l_is_number) (defScope s_l_is_number) .none kV_l_is_number dc_l_is_number pm_l_is_number an_l_is_number cd_l_is_number ct_l_is_number), sl_l_is_number⟩)
    (c_l_is_number : PySem.W.codeIn K cd_l_is_number "_law_is_number" = true) (k_l_is_number : PySem.W.keepIn K (.ref f_l_is_number) = true)
    {od_l_error an_l_error : Option Addr} {sl_l_error : Array (Option Value)} {oc_l_error kV_l_error dc_l_error pm_l_error cd_l_error ct_l_error : Value} {f_l_error : Addr}
    (a_l_error : PySem.W.nsIn K mainGlobals "_law_error" = some (some (.ref f_l_error)))
    (l_l_error : K.lookup f_l_error = some ⟨oc_l_error, od_l_error, .func (PySem.W.fnOf "_law_error" "_law_error" (defArgs s_l_error) (defBody s_l_error) (defScope s_l_error) .none kV_l_error dc_l_error pm_l_error an_l_error cd_l_error ct_l_error), sl_l_error⟩)
    (c_l_error : PySem.W.codeIn K cd_l_error "_law_error" = true) (k_l_error : PySem.W.keepIn K (.ref f_l_error) = true)
    {od_l_edges an_l_edges : Option Addr} {sl_l_edges : Array (Option Value)} {oc_l_edges kV_l_edges dc_l_edges pm_l_edges cd_l_edges ct_l_edges : Value} {f_l_edges : Addr}
    (a_l_edges : PySem.W.nsIn K mainGlobals "_law_edges" = some (some (.ref f_l_edges)))
    (l_l_edges : K.lookup f_l_edges = some ⟨oc_l_edges, od_l_edges, .func (PySem.W.fnOf "_law_edges" "_law_edges" (defArgs s_l_edges) (defBody s_l_edges) (defScope s_l_edges) .none kV_l_edges dc_l_edges pm_l_edges an_l_edges cd_l_edges ct_l_edges), sl_l_edges⟩)
    (c_l_edges : PySem.W.codeIn K cd_l_edges "_law_edges" = true) (k_l_edges : PySem.W.keepIn K (.ref f_l_edges) = true)
    {od_law an_law : Option Addr} {sl_law : Array (Option Value)} {oc_law kV_law dc_law pm_law cd_law ct_law : Value} {f_law : Addr}
    (a_law : PySem.W.nsIn K mainGlobals "law" = some (some (.ref f_law)))
    (l_law : K.lookup f_law = some ⟨oc_law, od_law, .func (PySem.W.fnOf "law" "law" (defArgs s_law) (defBody s_law) (defScope s_law) .none kV_law dc_law pm_law an_law cd_law ct_law), sl_law⟩)
    (c_law : PySem.W.codeIn K cd_law "law" = true) (k_law : PySem.W.keepIn K (.ref f_law) = true)
    (z_set : PySem.W.nsIn K mainGlobals "set" = some none)
    (z_sorted : PySem.W.nsIn K mainGlobals "sorted" = some none)
    (z_tuple : PySem.W.nsIn K mainGlobals "tuple" = some none)
    (z_abs : PySem.W.nsIn K mainGlobals "abs" = some none)
    (z_len : PySem.W.nsIn K mainGlobals "len" = some none)
    (z_repr : PySem.W.nsIn K mainGlobals "repr" = some none)
    (z_range : PySem.W.nsIn K mainGlobals "range" = some none)
    (z_isinstance : PySem.W.nsIn K mainGlobals "isinstance" = some none)
    (z_int : PySem.W.nsIn K mainGlobals "int" = some none)
    (z_bool : PySem.W.nsIn K mainGlobals "bool" = some none)
    (z_str : PySem.W.nsIn K mainGlobals "str" = some none)
    (z_list : PySem.W.nsIn K mainGlobals "list" = some none)
    (z_enumerate : PySem.W.nsIn K mainGlobals "enumerate" = some none)
    {t_MAX_PLACE : Tok} (z_MAX_PLACE : PySem.W.nsIn K mainGlobals "MAX_PLACE" = some (some (.int 1000000 t_MAX_PLACE)))
    {t_MAX_CAN : Tok} (z_MAX_CAN : PySem.W.nsIn K mainGlobals "MAX_CAN" = some (some (.int 1000000 t_MAX_CAN)))
    {t_MAX_LITRES : Tok} (z_MAX_LITRES : PySem.W.nsIn K mainGlobals "MAX_LITRES" = some (some (.int 1000000000 t_MAX_LITRES)))
    {t_MAX_BEDS : Tok} (z_MAX_BEDS : PySem.W.nsIn K mainGlobals "MAX_BEDS" = some (some (.int 12 t_MAX_BEDS)))
    : ∃ fd : FuncData, (∀ (s : Shared) (v : Value), BindsTo s fd ⟨[v], []⟩ [("_law_script", v)]) ∧ ∀ base : Heap, K.In base → base.Ns mainGlobals mg → FnG l.prog w K mg base 8 fa fd ["_law_script"] (spLaw K) := by
  have e := hfa.symm.trans (PySem.W.mg_of X G a_law)
  cases e
  have k_MAX_PLACE := PySem.W.mg_of X G z_MAX_PLACE
  have k_MAX_CAN := PySem.W.mg_of X G z_MAX_CAN
  have k_MAX_LITRES := PySem.W.mg_of X G z_MAX_LITRES
  have k_MAX_BEDS := PySem.W.mg_of X G z_MAX_BEDS
  have m_set : mg "set" = none := PySem.W.mg_none_of X G z_set
  have m_sorted : mg "sorted" = none := PySem.W.mg_none_of X G z_sorted
  have m_tuple : mg "tuple" = none := PySem.W.mg_none_of X G z_tuple
  have m_abs : mg "abs" = none := PySem.W.mg_none_of X G z_abs
  have m_len : mg "len" = none := PySem.W.mg_none_of X G z_len
  have m_repr : mg "repr" = none := PySem.W.mg_none_of X G z_repr
  have m_range : mg "range" = none := PySem.W.mg_none_of X G z_range
  have m_isinstance : mg "isinstance" = none := PySem.W.mg_none_of X G z_isinstance
  have m_int : mg "int" = none := PySem.W.mg_none_of X G z_int
  have m_bool : mg "bool" = none := PySem.W.mg_none_of X G z_bool
  have m_str : mg "str" = none := PySem.W.mg_none_of X G z_str
  have m_list : mg "list" = none := PySem.W.mg_none_of X G z_list
  have m_enumerate : mg "enumerate" = none := PySem.W.mg_none_of X G z_enumerate
  have F_is_number := fun_mk (st := s_is_number) l_is_number c_is_number k_is_number
  have b_is_number := F_is_number.binds (ps := ["value"]) fun _ _ _ _ _ _ us hl => match us, hl with | [_], _ => rfl
  have g_is_number := PySem.W.mg_of X G a_is_number
  have F_is_number_within := fun_mk (st := s_is_number_within) l_is_number_within c_is_number_within k_is_number_within
  have b_is_number_within := F_is_number_within.binds (ps := ["value", "low", "high"]) fun _ _ _ _ _ _ us hl => match us, hl with | [_, _, _], _ => rfl
  have g_is_number_within := PySem.W.mg_of X G a_is_number_within
  have F_is_place := fun_mk (st := s_is_place) l_is_place c_is_place k_is_place
  have b_is_place := F_is_place.binds (ps := ["value"]) fun _ _ _ _ _ _ us hl => match us, hl with | [_], _ => rfl
  have g_is_place := PySem.W.mg_of X G a_is_place
  have F_is_tuple_of := fun_mk (st := s_is_tuple_of) l_is_tuple_of c_is_tuple_of k_is_tuple_of
  have b_is_tuple_of := F_is_tuple_of.binds (ps := ["value", "many"]) fun _ _ _ _ _ _ us hl => match us, hl with | [_, _], _ => rfl
  have g_is_tuple_of := PySem.W.mg_of X G a_is_tuple_of
  have F_is_bed := fun_mk (st := s_is_bed) l_is_bed c_is_bed k_is_bed
  have b_is_bed := F_is_bed.binds (ps := ["value"]) fun _ _ _ _ _ _ us hl => match us, hl with | [_], _ => rfl
  have g_is_bed := PySem.W.mg_of X G a_is_bed
  have F_bed_error := fun_mk (st := s_bed_error) l_bed_error c_bed_error k_bed_error
  have b_bed_error := F_bed_error.binds (ps := ["beds"]) fun _ _ _ _ _ _ us hl => match us, hl with | [_], _ => rfl
  have g_bed_error := PySem.W.mg_of X G a_bed_error
  have F_garden_error := fun_mk (st := s_garden_error) l_garden_error c_garden_error k_garden_error
  have b_garden_error := F_garden_error.binds (ps := ["value"]) fun _ _ _ _ _ _ us hl => match us, hl with | [_], _ => rfl
  have g_garden_error := PySem.W.mg_of X G a_garden_error
  have F_is_garden := fun_mk (st := s_is_garden) l_is_garden c_is_garden k_is_garden
  have b_is_garden := F_is_garden.binds (ps := ["value"]) fun _ _ _ _ _ _ us hl => match us, hl with | [_], _ => rfl
  have g_is_garden := PySem.W.mg_of X G a_is_garden
  have F_l_deck := fun_mk (st := s_l_deck) l_l_deck c_l_deck k_l_deck
  have b_l_deck := F_l_deck.binds (ps := ["_law_script"]) fun _ _ _ _ _ _ us hl => match us, hl with | [_], _ => rfl
  have g_l_deck := PySem.W.mg_of X G a_l_deck
  have F_l_draw := fun_mk (st := s_l_draw) l_l_draw c_l_draw k_l_draw
  have b_l_draw := F_l_draw.binds (ps := ["_law_deck_here", "_law_limit"]) fun _ _ _ _ _ _ us hl => match us, hl with | [_, _], _ => rfl
  have g_l_draw := PySem.W.mg_of X G a_l_draw
  have F_l_same := fun_mk (st := s_l_same) l_l_same c_l_same k_l_same
  have b_l_same := F_l_same.binds (ps := ["_law_value", "_law_due"]) fun _ _ _ _ _ _ us hl => match us, hl with | [_, _], _ => rfl
  have g_l_same := PySem.W.mg_of X G a_l_same
  have F_l_garden := fun_mk (st := s_l_garden) l_l_garden c_l_garden k_l_garden
  have b_l_garden := F_l_garden.binds (ps := ["_law_deck_here", "_law_most", "_law_top"]) fun _ _ _ _ _ _ us hl => match us, hl with | [_, _, _], _ => rfl
  have g_l_garden := PySem.W.mg_of X G a_l_garden
  have F_l_odd := fun_mk (st := s_l_odd) l_l_odd c_l_odd k_l_odd
  have b_l_odd := F_l_odd.binds (ps := ["_law_deck_here"]) fun _ _ _ _ _ _ us hl => match us, hl with | [_], _ => rfl
  have g_l_odd := PySem.W.mg_of X G a_l_odd
  have F_l_part := fun_mk (st := s_l_part) l_l_part c_l_part k_l_part
  have b_l_part := F_l_part.binds (ps := ["_law_deck_here", "_law_thing", "_law_depth"]) fun _ _ _ _ _ _ us hl => match us, hl with | [_, _, _], _ => rfl
  have g_l_part := PySem.W.mg_of X G a_l_part
  have F_l_is_number := fun_mk (st := s_l_is_number) l_l_is_number c_l_is_number k_l_is_number
  have b_l_is_number := F_l_is_number.binds (ps := ["_law_value", "_law_low", "_law_high"]) fun _ _ _ _ _ _ us hl => match us, hl with | [_, _, _], _ => rfl
  have g_l_is_number := PySem.W.mg_of X G a_l_is_number
  have F_l_error := fun_mk (st := s_l_error) l_l_error c_l_error k_l_error
  have b_l_error := F_l_error.binds (ps := ["_law_value"]) fun _ _ _ _ _ _ us hl => match us, hl with | [_], _ => rfl
  have g_l_error := PySem.W.mg_of X G a_l_error
  have F_l_edges := fun_mk (st := s_l_edges) l_l_edges c_l_edges k_l_edges
  have b_l_edges := F_l_edges.binds (ps := ["_law_garden_here"]) fun _ _ _ _ _ _ us hl => match us, hl with | [_], _ => rfl
  have g_l_edges := PySem.W.mg_of X G a_l_edges
  have F_law := fun_mk (st := s_law) l_law c_law k_law
  refine ⟨PySem.W.fnOf "law" "law" (defArgs s_law) (defBody s_law) (defScope s_law) .none kV_law dc_law pm_law an_law cd_law ct_law, fun s v => .of_eq rfl, fun base inB glB => ?_⟩
  have G_is_number := ok_is_number (P := l.prog) (w := w) (base := base) F_is_number m_isinstance m_int m_bool
  have G_is_number_within := ok_is_number_within (P := l.prog) (w := w) (base := base) F_is_number_within G_is_number g_is_number F_is_number b_is_number
  have G_is_place := ok_is_place (P := l.prog) (w := w) (base := base) F_is_place k_MAX_PLACE G_is_number_within g_is_number_within F_is_number_within b_is_number_within
  have G_is_tuple_of := ok_is_tuple_of (P := l.prog) (w := w) (base := base) F_is_tuple_of m_isinstance m_len m_tuple
  have G_is_bed := ok_is_bed (P := l.prog) (w := w) (base := base) F_is_bed k_MAX_LITRES G_is_number_within g_is_number_within F_is_number_within b_is_number_within G_is_place g_is_place F_is_place b_is_place G_is_tuple_of g_is_tuple_of F_is_tuple_of b_is_tuple_of
  have G_bed_error := ok_bed_error (P := l.prog) (w := w) (base := base) F_bed_error m_enumerate G_is_bed g_is_bed F_is_bed b_is_bed
  have G_garden_error := ok_garden_error (P := l.prog) (w := w) (base := base) F_garden_error k_MAX_CAN k_MAX_BEDS m_isinstance m_len m_tuple G_is_tuple_of g_is_tuple_of F_is_tuple_of b_is_tuple_of G_is_number_within g_is_number_within F_is_number_within b_is_number_within G_is_place g_is_place F_is_place b_is_place G_bed_error g_bed_error F_bed_error b_bed_error
  have G_is_garden := ok_is_garden (P := l.prog) (w := w) (base := base) F_is_garden G_garden_error g_garden_error F_garden_error b_garden_error
  have G_l_deck := ok_l_deck (P := l.prog) (w := w) (base := base) F_l_deck m_abs
  have G_l_draw := ok_l_draw (P := l.prog) (w := w) (base := base) F_l_draw m_len
  have G_l_same := ok_l_same (P := l.prog) (w := w) (base := base) F_l_same m_repr
  have G_l_garden := ok_l_garden (P := l.prog) (w := w) (base := base) F_l_garden m_len m_range m_set m_sorted m_tuple G_l_draw g_l_draw F_l_draw b_l_draw
  have G_l_odd := ok_l_odd (P := l.prog) (w := w) (base := base) F_l_odd G_l_draw g_l_draw F_l_draw b_l_draw
  have G_l_part := ok_l_part (P := l.prog) (w := w) (base := base) F_l_part m_isinstance m_tuple m_int m_len m_str m_list G_l_draw g_l_draw F_l_draw b_l_draw G_l_odd g_l_odd F_l_odd b_l_odd g_l_part b_l_part 3
  have G_l_is_number := ok_l_is_number (P := l.prog) (w := w) (base := base) F_l_is_number m_isinstance m_int m_bool
  have G_l_error := ok_l_error (P := l.prog) (w := w) (base := base) F_l_error m_isinstance m_len m_tuple m_range G_l_is_number g_l_is_number F_l_is_number b_l_is_number
  have G_l_edges := ok_l_edges (P := l.prog) (w := w) (base := base) F_l_edges m_range m_tuple
  exact ok_law F_law m_range m_repr m_int m_list m_tuple G_l_deck g_l_deck F_l_deck b_l_deck G_l_garden g_l_garden F_l_garden b_l_garden G_l_same g_l_same F_l_same b_l_same G_l_odd g_l_odd F_l_odd b_l_odd G_l_part g_l_part F_l_part b_l_part G_l_error g_l_error F_l_error b_l_error G_l_edges g_l_edges F_l_edges b_l_edges G_garden_error g_garden_error F_garden_error b_garden_error G_is_garden g_is_garden F_is_garden b_is_garden
end K00
open PySem PySem.W PyProof.Rows
set_option maxHeartbeats 0 in
theorem PySem.Challenge.cw_canpath_k00_gardens_judged_holds : PySem.Challenge.rw_canpath_k00_gardens_judged.Holds := by
  w_on; o_law; k_head; (case hw => w_witness2)
  k_fill
  refine Cn.walkG (l := PySem.Challenge.rw_canpath_k00_gardens_judged) (n := 63) (k := 8) (x := "_law_script") (sp := K00.spLaw) rfl (by decide) rfl ⟨rfl, by decide, by decide⟩ (fun w h Y => PySem.W.kIn_of Y) ?F (fun K H a ns hl hS => ⟨a, ns, rfl, hS, hl, fun _ => rfl⟩)
  case F =>
    intro w mg fa h KX G hmg
    refine' K00.all_mk KX G hmg ?a_is_number ?l_is_number ?c_is_number ?k_is_number ?a_is_number_within ?l_is_number_within ?c_is_number_within ?k_is_number_within ?a_is_place ?l_is_place ?c_is_place ?k_is_place ?a_is_tuple_of ?l_is_tuple_of ?c_is_tuple_of ?k_is_tuple_of ?a_is_bed ?l_is_bed ?c_is_bed ?k_is_bed ?a_bed_error ?l_bed_error ?c_bed_error ?k_bed_error ?a_garden_error ?l_garden_error ?c_garden_error ?k_garden_error ?a_is_garden ?l_is_garden ?c_is_garden ?k_is_garden ?a_l_deck ?l_l_deck ?c_l_deck ?k_l_deck ?a_l_draw ?l_l_draw ?c_l_draw ?k_l_draw ?a_l_same ?l_l_same ?c_l_same ?k_l_same ?a_l_garden ?l_l_garden ?c_l_garden ?k_l_garden ?a_l_odd ?l_l_odd ?c_l_odd ?k_l_odd ?a_l_part ?l_l_part ?c_l_part ?k_l_part ?a_l_is_number ?l_l_is_number ?c_l_is_number ?k_l_is_number ?a_l_error ?l_l_error ?c_l_error ?k_l_error ?a_l_edges ?l_l_edges ?c_l_edges ?k_l_edges ?a_law ?l_law ?c_law ?k_law ?z_set ?z_sorted ?z_tuple ?z_abs ?z_len ?z_repr ?z_range ?z_isinstance ?z_int ?z_bool ?z_str ?z_list ?z_enumerate ?z_MAX_PLACE ?z_MAX_CAN ?z_MAX_LITRES ?z_MAX_BEDS
    (case a_is_number => k_is)
    (case l_is_number => k_is)
    (case c_is_number => k_is)
    (case k_is_number => k_is)
    (case a_is_number_within => k_is)
    (case l_is_number_within => k_is)
    (case c_is_number_within => k_is)
    (case k_is_number_within => k_is)
    (case a_is_place => k_is)
    (case l_is_place => k_is)
    (case c_is_place => k_is)
    (case k_is_place => k_is)
    (case a_is_tuple_of => k_is)
    (case l_is_tuple_of => k_is)
    (case c_is_tuple_of => k_is)
    (case k_is_tuple_of => k_is)
    (case a_is_bed => k_is)
    (case l_is_bed => k_is)
    (case c_is_bed => k_is)
    (case k_is_bed => k_is)
    (case a_bed_error => k_is)
    (case l_bed_error => k_is)
    (case c_bed_error => k_is)
    (case k_bed_error => k_is)
    (case a_garden_error => k_is)
    (case l_garden_error => k_is)
    (case c_garden_error => k_is)
    (case k_garden_error => k_is)
    (case a_is_garden => k_is)
    (case l_is_garden => k_is)
    (case c_is_garden => k_is)
    (case k_is_garden => k_is)
    (case a_l_deck => k_is)
    (case l_l_deck => k_is)
    (case c_l_deck => k_is)
    (case k_l_deck => k_is)
    (case a_l_draw => k_is)
    (case l_l_draw => k_is)
    (case c_l_draw => k_is)
    (case k_l_draw => k_is)
    (case a_l_same => k_is)
    (case l_l_same => k_is)
    (case c_l_same => k_is)
    (case k_l_same => k_is)
    (case a_l_garden => k_is)
    (case l_l_garden => k_is)
    (case c_l_garden => k_is)
    (case k_l_garden => k_is)
    (case a_l_odd => k_is)
    (case l_l_odd => k_is)
    (case c_l_odd => k_is)
    (case k_l_odd => k_is)
    (case a_l_part => k_is)
    (case l_l_part => k_is)
    (case c_l_part => k_is)
    (case k_l_part => k_is)
    (case a_l_is_number => k_is)
    (case l_l_is_number => k_is)
    (case c_l_is_number => k_is)
    (case k_l_is_number => k_is)
    (case a_l_error => k_is)
    (case l_l_error => k_is)
    (case c_l_error => k_is)
    (case k_l_error => k_is)
    (case a_l_edges => k_is)
    (case l_l_edges => k_is)
    (case c_l_edges => k_is)
    (case k_l_edges => k_is)
    (case a_law => k_is)
    (case l_law => k_is)
    (case c_law => k_is)
    (case k_law => k_is)
    (case z_set => k_is)
    (case z_sorted => k_is)
    (case z_tuple => k_is)
    (case z_abs => k_is)
    (case z_len => k_is)
    (case z_repr => k_is)
    (case z_range => k_is)
    (case z_isinstance => k_is)
    (case z_int => k_is)
    (case z_bool => k_is)
    (case z_str => k_is)
    (case z_list => k_is)
    (case z_enumerate => k_is)
    (case z_MAX_PLACE => k_is)
    (case z_MAX_CAN => k_is)
    (case z_MAX_LITRES => k_is)
    (case z_MAX_BEDS => k_is)
