import PyProof.Rows.All
import Wide.All
import OpenK.AllK
import Wide.FinOn
import HandS.ForMost
import HandS.Strs
import HandS.SetFor
import HandS.More
import PyProof.ReprRoads
import HandS.TupAny
import HandS.Walk
import HandS.Evl
import KE.KDictPairs
import PySem.Challenge.RW_canpath_k03_ways_of_trips
set_option Elab.async false
set_option linter.all false
set_option maxRecDepth 100000
set_option maxHeartbeats 8000000
namespace Cn
open PySem PySem.Spec PyProof.Rows L2

/-! ### the length of what repr shows -/
mutual
/-- small data: numbers below 10^40, short plain texts, no dicts -/
def sm : PyData → Bool
  | .none => true
  | .bool _ => true
  | .int i => decide (i.natAbs < 10 ^ 40)
  | .str x => decide ((reprText x).length ≤ 100)
  | .list xs => smAll xs
  | .tuple xs => smAll xs
  | .dict _ => false
def smAll : List PyData → Bool
  | [] => true
  | x :: xs => sm x && smAll xs
end
mutual
def wt : PyData → Nat
  | .none => 100
  | .bool _ => 100
  | .int _ => 100
  | .str _ => 100
  | .list xs => wtAll xs + 3
  | .tuple xs => wtAll xs + 3
  | .dict _ => 0
def wtAll : List PyData → Nat
  | [] => 0
  | x :: xs => (wt x + 2) + wtAll xs
end
mutual
def dp : PyData → Nat
  | .list xs => dpAll xs + 1
  | .tuple xs => dpAll xs + 1
  | _ => 0
def dpAll : List PyData → Nat
  | [] => 0
  | x :: xs => max (dp x) (dpAll xs)
end
theorem listText_le (ts : List Str) : (listText ts).length ≤ piled ts + 3 := by
  cases ts with
  | nil => decide
  | cons t r =>
    have h := textFrom_length_pos r 1 (("[" : Str) ++ (if (0 : Nat) > 0 then ", " else "" : String) ++ t) (Nat.succ_pos 0)
    have e1 : (listText (t :: r)).length = (textFrom 1 (("[" : Str) ++ (if (0 : Nat) > 0 then ", " else "" : String) ++ t) r).length + 1 := by
      show (textFrom 1 _ r ++ "]").length = _
      rw [strLen_append]; rfl
    have e2 : ((("[" : Str) ++ (if (0 : Nat) > 0 then ", " else "" : String) ++ t)).length = 1 + t.length := by
      rw [strLen_append, strLen_append]; rfl
    rw [e1, h, e2, piled_cons]; omega
theorem tupleText_le (ts : List Str) : (tupleText ts).length ≤ piled ts + 3 := by
  unfold tupleText
  rw [strLen_append, strLen_append]
  have cl : (((if ts.length == 1 then ",)" else ")" : String) : Str)).length ≤ 2 := by split <;> decide
  rw [show (("(" : String) : Str).length = 1 from rfl]
  by_cases h : ts = []
  · subst h
    show 1 + 0 + _ ≤ _
    omega
  · have := join_length_add ts h
    omega
mutual
theorem sm_show : ∀ d : PyData, sm d = true → d.showable = true ∧ d.hasDict = false ∧ d.shown.length ≤ wt d
  | .none, _ => ⟨rfl, rfl, by simp only [PyData.shown, wt]; decide⟩
  | .bool b, _ => ⟨rfl, rfl, by simp only [PyData.shown, wt]; cases b <;> decide⟩
  | .int i, h => by
    have h1 : i.natAbs < 10 ^ 40 := by simpa only [sm, decide_eq_true_eq] using h
    have h2 : i.natAbs < 2 ^ 1920 := Nat.lt_of_lt_of_le h1 (by decide +kernel)
    refine ⟨?_, rfl, ?_⟩
    · simp only [PyData.showable, decide_eq_true_eq]
      by_cases h0 : i.natAbs = 0
      · rw [h0]; decide
      · exact (Nat.log2_lt h0).2 h2
    · have := int_text_length_le10 (a := i) (k := 40) (by decide) h1
      simp only [PyData.shown, wt]
      rw [PySem.ofString_length]
      omega
  | .str x, h => by
    have h1 : (reprText x).length ≤ 100 := by simpa only [sm, decide_eq_true_eq] using h
    exact ⟨rfl, rfl, by simp only [PyData.shown, wt]; exact h1⟩
  | .list xs, h => by
    obtain ⟨a, b, c⟩ := sm_showAll xs (by simpa only [sm] using h)
    refine ⟨by simpa only [PyData.showable] using a, by simpa only [PyData.hasDict] using b, ?_⟩
    have := listText_le (PyData.shownAll xs)
    simp only [PyData.shown, wt]
    omega
  | .tuple xs, h => by
    obtain ⟨a, b, c⟩ := sm_showAll xs (by simpa only [sm] using h)
    refine ⟨by simpa only [PyData.showable] using a, by simpa only [PyData.hasDict] using b, ?_⟩
    have := tupleText_le (PyData.shownAll xs)
    simp only [PyData.shown, wt]
    omega
  | .dict _, h => by simp [sm] at h
theorem sm_showAll : ∀ ds : List PyData, smAll ds = true → PyData.showableAll ds = true ∧ PyData.hasDictAll ds = false ∧ piled (PyData.shownAll ds) ≤ wtAll ds
  | [], _ => ⟨rfl, rfl, by simp only [PyData.shownAll, wtAll]; exact Nat.le_refl _⟩
  | x :: xs, h => by
    simp only [smAll, Bool.and_eq_true] at h
    obtain ⟨a, b, c⟩ := sm_show x h.1
    obtain ⟨a', b', c'⟩ := sm_showAll xs h.2
    refine ⟨by simp only [PyData.showableAll, a, a', Bool.and_self], by simp only [PyData.hasDictAll, b, b', Bool.or_self], ?_⟩
    simp only [PyData.shownAll, wtAll]
    rw [piled_cons]; omega
end
mutual
theorem dp_depth : ∀ d : PyData, sm d = true → d.depth = dp d
  | .none, _ => by simp only [PyData.depth, dp]
  | .bool _, _ => by simp only [PyData.depth, dp]
  | .int _, _ => by simp only [PyData.depth, dp]
  | .str _, _ => by simp only [PyData.depth, dp]
  | .list xs, h => by
    have := dp_depthAll xs (by simpa only [sm] using h)
    simp only [PyData.depth, dp]; omega
  | .tuple xs, h => by
    have := dp_depthAll xs (by simpa only [sm] using h)
    simp only [PyData.depth, dp]; omega
  | .dict _, h => by simp [sm] at h
theorem dp_depthAll : ∀ ds : List PyData, smAll ds = true → PyData.depthAll ds = dpAll ds
  | [], _ => by simp only [PyData.depthAll, dpAll]
  | x :: xs, h => by
    simp only [smAll, Bool.and_eq_true] at h
    have h1 := dp_depth x h.1
    have h2 := dp_depthAll xs h.2
    simp only [PyData.depthAll, dpAll, h1, h2]
end

/-! ### repr of data -/
section
variable {X : Cx}
def rRepr (K : PySem.W.Frag) : List V → Hp → VK → Prop := fun xs H Q => ∃ v d, xs = [v] ∧ Dp K H v d ∧ sm d = true ∧ wt d ≤ 1000000 ∧ dp d ≤ 50 ∧ Q (.str d.shown) H
theorem call_repr (hg : X.A.guards = some []) (hu : X.A.units + 64 < cLine) : CallR X (.builtin "repr") (rRepr X.K) := by
  intro pins s σ H xs us Q I r h
  obtain ⟨v, d, rfl, hd, hs, hw, hp, q⟩ := h
  obtain ⟨u, rfl, ru⟩ := vals1 r
  obtain ⟨as, rd⟩ := Dp.reads I d v u hd ru
  obtain ⟨s1, s2, s3⟩ := sm_show d hs
  have hz : d.shown.length ≤ sizeLine := Nat.le_trans (Nat.le_trans s3 hw) (by decide)
  have hdd : d.depth ≤ 50 := by rw [dp_depth d hs]; exact hp
  have leaf : ∀ {h' : Heap} {t u : Nat}, (∀ b o, s.heap.get? b = some o → h'.get? b = some o) → EP X pins σ Q (.str d.shown u) { s with heap := h', toks := t } :=
    fun k => ⟨.str _, H, I.kept k, ⟨_, rfl⟩, q⟩
  cases hd with
  | non =>
    cases ru
    simp only [PyData.shown] at leaf
    exact PySem.P.repr_of_none (leaf fun _ _ e => e)
  | bl b =>
    cases ru
    simp only [PyData.shown] at leaf
    exact PySem.P.repr_of_bool (leaf fun _ _ e => e)
  | int i =>
    obtain ⟨t, rfl⟩ := ru
    simp only [PyData.shown] at leaf
    exact PySem.P.repr_of_int (by simpa only [PyData.showable, decide_eq_true_eq] using s1) (leaf fun _ _ e => e)
  | str x =>
    obtain ⟨t, rfl⟩ := ru
    simp only [PyData.shown] at leaf hz
    exact PySem.P.repr_of_str (leaf fun _ _ e => e) hz
  | lst a b =>
    cases ru
    exact repr_of_reads' rd s1 (fun e => by rw [s2] at e; cases e) hg (by omega) (fun _ _ e => e) (fun h' u tk k => leaf k) hz
  | tup a b =>
    cases ru
    exact repr_of_reads' rd s1 (fun e => by rw [s2] at e; cases e) hg (by omega) (fun _ _ e => e) (fun h' u tk k => leaf k) hz
end
end Cn

namespace Cn
open PySem PySem.Spec PyProof.Rows L2

/-! ### defs that are called where no repr is under way -/
structure FnG (P : Program) (w : World) (K : PySem.W.Frag) (mg : Str → Option Value) (base : Heap) (k : Nat) (f : Addr) (fd : FuncData) (ps : List Str) (sp : Sp) : Prop where
  len : ∀ vs H Q E, sp vs H Q E → vs.length = ps.length
  run : ∀ (A : Around) (out : List Env) (s : Shared) (H : Hp) (args : Args) (us : List Value) (vs : List V) (Q : VK) (E : XK), A.guards = some [] → Room k A → Env0 P w K mg base A out s H →
    BindsTo s fd args (ps.zip us) → Vals vs us → sp vs H Q E → codeAny (model P w) A (.call (.ref f) args) (CR CX0 out P w H s Q E) s
section
variable {P : Program} {w : World} {K : PySem.W.Frag} {mg : Str → Option Value} {base : Heap}
theorem FnG.of {k : Nat} {f : Addr} {fd : FuncData} {ps : List Str} {sp : Sp} (F : FnOk P w K mg base CX0 k f fd ps sp) : FnG P w K mg base k f fd ps sp :=
  ⟨F.len, fun A out s H args us vs Q E _ => F.run A out s H args us vs Q E⟩
theorem okG {x qual : Str} {st : Stmt} {f : Addr} {fd : FuncData} {N ps : List Str} {k : Nat} {sp : Sp} (F : Fun K x qual st f fd) (S : FnScope N ps (defScope st)) (len : ∀ vs H Q E, sp vs H Q E → vs.length = ps.length)
    (body : ∀ (cdv : Value) (A : Around) (out : List Env) (s : Shared) (H : Hp) (vs : List V) (Q : VK) (E : XK), A.guards = some [] → Room k (A.deeper (envOfC qual (defScope st) s.heap.objs.size f cdv)) → sp vs H Q E →
      ∃ t, PSs (cxOf CX0 P w K mg base N qual (defScope st) f cdv A out s H E).nox (defBody st) t ∧ t { nx := fun _ H' => Q .non H', rt := Q } (start N vs) H) : FnG P w K mg base (k + 1) f fd ps sp := by
  obtain ⟨oc, od, kV, doc, pm, an, cdv, ct, osl, rfl, lk, code⟩ := F.ex
  refine ⟨len, fun A out s H args us vs Q E gd room e0 bd rel pr => ?_⟩
  have inK : K.In s.heap := e0.mod.kin.keeps fun b o e => (e0.bs b o e).1
  have par : ∀ y ∈ ps.zip us, (defScope st).names.lookup y.1 = some .local ∨ ((defScope st).names.lookup y.1 = some .cell ∧ ((cellsFrom (s.heap.objs.size + 1) (defScope st).names []).lookup y.1).isSome = true) := by
    intro y hy
    refine (S.par y.1 (List.of_mem_zip (show (y.1, y.2) ∈ ps.zip us from hy)).1).imp id fun c => ⟨c, PySem.W.cellsFrom_some _ _ _ (.inl c)⟩
  refine codeAny_call_function room.depth (inK _ _ lk) rfl S.co S.gen rfl (PySem.W.codeRec_of inK code) (bd _ _ _ _ (wpAny_newFunctionEnv_cells S.kind par ?_))
  rintro _ rfl s1 new
  refine ⟨(e0.mod.nolimit.keeps fun b o e => (e0.bs b o e).1).keeps new.toInCall.keep, codeAny_func ?_⟩
  obtain ⟨t, ht, q⟩ := body cdv A out s H vs Q E gd (room.deeper _) pr
  refine wpAny_mono (ht.nox.run [] s1 (start N vs) H _ (inv_start S room.hd e0 (len _ _ _ _ pr) rel new) q) ?_ fun _ _ z => z
  rintro (_ | _ | _ | u) s' z
  case next =>
    obtain ⟨_, H', J, z⟩ := z
    exact ⟨V.non, H', J.os, J.bare, J.base, J.hok, rfl, z⟩
  case ret =>
    obtain ⟨v, _, H', J, rv, z⟩ := z
    exact ⟨v, H', J.os, J.bare, J.base, J.hok, rv, z⟩
  all_goals
    obtain ⟨_, _, _, z⟩ := z
    exact z.elim
end
section
variable {X : Cx} {k : Nat} {f : Addr} {fd : FuncData} {ps : List Str} {sp : Sp} {x : Str} {p pos : Pos} {e : Expr} {es : List Expr} {t : TA}
theorem pe_callG (F : FnG X.prog X.w X.K X.mg X.base k f fd ps sp) (gd : X.A.guards = some []) (room : Room k X.A) (gl : Gl X x) (hm : X.mg x = some (.ref f)) (kp : PySem.W.keepIn X.K (.ref f) = true) (bd : Binds X.K fd ps [])
    (ha : PA X (e :: es) t) (hdb : (x == ("__debug__" : Str)) = false := by decide) (he : starEach (e :: es) X.env = (false, eval e X.env) :: starEach es X.env := by rfl) (hpl : (backTo pos (starEach es X.env)).any (·.1) = false := by rfl) :
    PE X (.Call (.Name x p) (e :: es) [] pos) (tCall sp [] E0 t) := by
  refine ⟨fun pins s σ H Q I h => wpAny_Call_Name_kw (ld_glob I gl hm ?_ hdb)⟩
  refine PySem.W.callWith_K (h₀ := X.base) I.ok.mod.kin kp (thn (ha.run pos pins s σ H _ I h) ?_) he hpl
  rintro us s1 ⟨vs, H1, I1, rel, q⟩
  refine ⟨I1.kIn, ?_⟩
  have q0 : sp (vs ++ []) H1 Q E0 := q
  have rel0 : Vals (vs ++ []) (us ++ []) := rel.append .nil
  have l0 : (us ++ []).length = ps.length := rel0.length.symm.trans (F.len _ _ _ _ q0)
  refine wpAny_call (codeAny_mono (F.run X.A X.stack s1 H1 ⟨us, []⟩ (us ++ []) (vs ++ []) Q E0 gd room I1.env0 (bd s1 us I1.kIn l0) rel0 q0) ?_)
  rintro (_ | _ | _ | _ | u) s' z
  case ok.ret => exact I1.after z
  all_goals exact z.elim
end
end Cn

namespace Cn
open PySem PySem.Spec PyProof.Rows L2
theorem lawG {P : Program} {w : World} {K : PySem.W.Frag} {mg mb : Str → Option Value} {k : Nat} {fa a : Addr} {fd : FuncData} {x : Str} {sp : Sp} {s : Shared} {vs : List Value} {ns : List Int}
    (inK : K.In s.heap) (gl : s.heap.Ns mainGlobals mg) (bt : s.heap.Ns builtinsNs mb) (boot : ∀ x : Str, x ≠ "__name__" → mb x = bootBuiltins x) (lim : s.heap.NoLimit) (gens : s.gens = #[])
    (at_a : s.heap.get? a = some { cls := .type "list", data := .seq vs.toArray }) (nums : IntsAre vs ns) (few : ns.length ≤ sizeLine) (room : Room k callerA)
    (F : ∀ base : Heap, K.In base → base.Ns mainGlobals mg → FnG P w K mg base k fa fd [x] sp) (binds : ∀ (s : Shared) (u : Value), BindsTo s fd ⟨[u], []⟩ [(x, u)])
    (pr : ∀ H : Hp, Only H → SqL K H a (ns.map V.int) → sp [.ref a] H (fun v _ => v = .bl true) fun _ _ _ => False) :
    codeAny (model P w) callerA (.call (.ref fa) ⟨[.ref a], []⟩) (fun r s' => r = .ok (.ret (.bool true)) ∧ OldK s.heap s'.heap ∧ s'.os = s.os ∧ AllBare s'.gens) s := by
  have rel := vals_ints nums
  have main : ∀ H : Hp, Only H → SqL K H a (ns.map V.int) → HOk P w H s.heap → (∀ b, H b ≠ none → b = a ∧ K.lookup a = none) →
      codeAny (model P w) callerA (.call (.ref fa) ⟨[.ref a], []⟩) (fun r s' => r = .ok (.ret (.bool true)) ∧ OldK s.heap s'.heap ∧ s'.os = s.os ∧ AllBare s'.gens) s := by
    intro H only sq hok tr
    have names : ∀ {b : Addr} {m : Str → Option Value}, s.heap.Ns b m → (hidT s.heap H).Ns b m := by
      rintro b m ⟨o, es, ep, e, d, r⟩
      refine ⟨o, es, ep, hidT_get e (Classical.byContradiction fun n => ?_), d, r⟩
      obtain ⟨rfl, _⟩ := tr b n
      have z := at_a.symm.trans e
      injection z with z
      subst z
      exact Data.noConfusion d
    have inB : K.In (hidT s.heap H) := fun b o e => hidT_get (inK b o e) (Classical.byContradiction fun n => by
      obtain ⟨rfl, z⟩ := tr b n
      rw [z] at e
      cases e)
    have e0 : Env0 P w K mg (hidT s.heap H) callerA [] s H := by
      refine ⟨rfl, ⟨inB, names gl, ⟨mb, names bt, boot⟩, ?_⟩, fun b o e => of_hidT e, Nat.le_of_eq (hidT_size _ _), trivial, fun b z => ?_, hok, .of_eq gens⟩
      · obtain ⟨mc, h1, h2⟩ := lim
        exact ⟨mc, names h1, h2⟩
      · simp [frs] at z
    refine codeAny_mono ((F _ inB (names gl)).run callerA [] s H ⟨[.ref a], []⟩ [.ref a] [.ref a] _ _ rfl room e0 (binds s (.ref a)) (.cons rfl .nil) (pr H only sq)) ?_
    rintro (_ | _ | _ | _ | u) s' z
    case ok.ret =>
      obtain ⟨v, H', os, bare, un, hok', ru, rfl⟩ := z
      cases ru
      refine ⟨rfl, OldK.of_keep fun b o e => ?_, os, bare⟩
      rcases only b with n | ⟨ob, xs, fz⟩
      · exact un.keep b o e n (by simp [frs]) (by simp)
      · have o1 : s.heap.get? b = some ob := (hok b _ fz).1
        have o2 : s'.heap.get? b = some ob := (hok' b _ (un.frzs b ob _ fz)).1
        rw [o2, ← o1, e]
    all_goals exact z.elim
  cases lk : K.lookup a with
  | some o =>
    have e := (inK a o lk).symm.trans at_a
    injection e with e
    subst e
    exact main (fun _ => none) (fun _ => .inl rfl) (.inr ⟨_, vs.toArray, _, lk, rfl, rfl, rfl, by rw [List.size_toArray, nums.length]; exact few, by simpa using rel⟩) (fun b u z => nomatch z) (fun b z => absurd rfl z)
  | none =>
    let o : HO := .frz { cls := .type "list", data := .seq vs.toArray } (.lst (ns.map V.int))
    have off : ∀ b, b ≠ a → (upd (fun _ => none) a o) b = none := fun b n => upd_ne n
    refine main (upd (fun _ => none) a o) (fun b => ?_) (.inl (.inr ⟨_, upd_same⟩)) (fun b u z => ?_) (fun b z => ?_)
    · by_cases n : b = a
      · subst n; exact .inr ⟨_, _, upd_same⟩
      · exact .inl (off b n)
    · by_cases n : b = a
      · subst n
        rw [upd_same] at z
        injection z with z
        subst z
        exact ⟨at_a, by rw [List.length_map]; exact few, vs, _, rel, at_a⟩
      · rw [off b n] at z; cases z
    · by_cases n : b = a
      · exact ⟨n, lk⟩
      · exact absurd (off b n) z
/-- the end of a law's proof; the law's def is called with no repr under way -/
theorem walkG {l : PySem.W.OpenLaw} {n k : Nat} {q : Program} {loose : List Str} {XP : (Str → Option Value) → Heap → Prop} {YP : World → Heap → Prop} {d : DefRec} {K : Params → PySem.W.Frag} {sp : PySem.W.Frag → Sp} {x : Str}
    (most : l.most = some n) (few : n ≤ sizeLine) (nodef : d.params.defaults = []) (room : Room k callerA) (hY : ∀ (w : World) (h : Heap), YP w h → (K w.params).In h)
    (F : ∀ (w : World) (mg : Str → Option Value) (fa : Addr) (h : Heap), (K w.params).In h → h.Ns mainGlobals mg → mg d.name = some (.ref fa) →
      ∃ fd : FuncData, (∀ (s : Shared) (u : Value), BindsTo s fd ⟨[u], []⟩ [(x, u)]) ∧ ∀ base : Heap, (K w.params).In base → base.Ns mainGlobals mg → FnG l.prog w (K w.params) mg base k fa fd [x] (sp (K w.params)))
    (pr : ∀ (K : PySem.W.Frag) (H : Hp) (a : Addr) (ns : List Int), ns.length ≤ n → SqL K H a (ns.map V.int) → sp K [.ref a] H (fun v _ => v = .bl true) fun _ _ _ => False) :
    PySem.W.WalkO q loose XP YP l.row.toRowW d [] (fun f vs => PySem.call f vs) := by
  refine Att.attach_call most nodef ?_
  intro w s₀ s mg mb fa o pm cd doc a vs ns G Y _ _ _ named at_a nums len gens
  obtain ⟨fd, bd, go⟩ := F w mg fa _ (hY w _ Y) G.T.g named
  exact lawG (hY w _ Y) G.T.g G.T.b G.T.builtins G.T.nolimit gens at_a nums (Nat.le_trans len few) room go bd fun H _ sq => pr _ H a ns len sq
end Cn

namespace Cn
open PySem PySem.Spec PyProof.Rows L2
/-! ### set(list of ints) -/
abbrev set0 (w : World) : Obj := { cls := .type "set", dict := none, data := .set #[] 0 (.fresh 0 0 (!w.params.followText "set-order")) }
section
variable {P : Program} {w : World} {A : Around} {E : Value → Shared → Prop} {s : Shared}
set_option maxHeartbeats 8000000 in
theorem set_of_list {l : Addr} {items : Array Value} (ns : List Int) {Q : Value → Shared → Prop} (calm : A.handled = none) (isl : s.heap.IsList l items) (nums : IntsAre items.toList ns) (few : ns.length + 1 < scanBound)
    (fin : ∀ (h' : Heap) (tk c : Nat), SetR w h' s.heap.objs.size (fun j => decide (j ∈ ns)) c → c ≤ ns.length → (∀ b o, s.heap.get? b = some o → h'.get? b = some o) → Q (.ref s.heap.objs.size) { s with heap := h', toks := tk }) :
    wpAny (model P w) A (call (.type "set") [.ref l]) Q E s := by
  have size : items.size = ns.length := by rw [← Array.length_toList]; exact nums.length
  obtain ⟨c, tl, mro⟩ := F.called_set.mro
  have m1 := F.called_set.made
  have m2 := F.called_set.sub
  have m3 := F.called_set.notType
  have m4 := F.called_set.canCreate
  have m5 := F.typeCall_set_1 (.ref l)
  refine wpAny_call (codeAny_of_tree (show wpAny _ _ (callAny (.type "set") _) _ _ _ from wpAny_pure ⟨Code.quiet_builtin _ (by decide +kernel), codeAny_builtin F.entry_type_call ?_⟩))
  rw [Around.under_plain (weight_type_call_type "set" [.ref l] []) rfl]
  repeat (any_goals (first | assumption | wp_step))
  refine codeAny_mono (code_set_led1 (.ref l) (E := E) (Q₁ := fun obj t => obj = .ref s.heap.objs.size ∧ t = { s with heap := s.heap.push (set0 w) }) ⟨rfl, rfl⟩) ?_
  rintro (e | fl) s1 z
  · exact z
  cases fl with
  | ret obj =>
    obtain ⟨rfl, rfl⟩ := z
    have here : (s.heap.push (set0 w)).get? s.heap.objs.size = some (set0 w) := Heap.get?_push_size _ rfl
    have typ : Shared.TypeIs { s with heap := s.heap.push (set0 w) } (.ref s.heap.objs.size) "set" := ⟨_, here, rfl⟩
    have i1 := F.called_set.init.lookup
    have i2 := F.called_set.init.bind (.ref s.heap.objs.size)
    repeat (any_goals (first | assumption | wp_step))
    refine codeAny_mono (codeAny_call_builtin (R := wants (fun r t => r = .none ∧ ∃ h' tk c, t = { s with heap := h', toks := tk } ∧ SetR w h' s.heap.objs.size (fun j => decide (j ∈ ns)) c ∧ c ≤ ns.length ∧
      ∀ b o, s.heap.get? b = some o → h'.get? b = some o) E) F.called_set.init.plain F.entry_set_init (check_set_init_1 typ ?_)) ?_
    · obtain ⟨⟨cl, dc, dt, sl⟩, ol, hcl, n, hdt⟩ := isl
      simp only at hcl hdt
      subst hcl; subst hdt
      have ol1 : (s.heap.push (set0 w)).get? l = some { cls := .type "list", dict := dc, data := .seq items n, slots := sl } := Heap.get?_push_of_some _ ol
      have b1 := F.sub_list_set
      have b2 := F.sub_list_frozenset
      have b3 : (Value.type "list" == Value.type "dict") = false := by decide
      have isl1 : (s.heap.push (set0 w)).IsList l items := ⟨_, ol1, rfl, n, rfl⟩
      unfold Builtin.«set.__init__» noKeywords Builtin.Frozenset.updateFrom
      generalize kept : pyIter = PI
      wp_walk
      subst kept
      refine wpAny_pyIter_list isl1 (wpAny_bind (wpAny_runValue ?_))
      have low : l < s.heap.objs.size := Heap.lt_size ol
      have calm3 : A.in1.in1.in1.handled = none := by simp [calm]
      have sz1 : (s.heap.push (set0 w)).objs.size = s.heap.objs.size + 1 := Heap.size_push ..
      have ne1 : l ≠ (s.heap.push (set0 w)).objs.size := by rw [sz1]; exact Nat.ne_of_lt (Nat.lt_succ_of_lt low)
      have out : s.heap.objs.size ∉ [(s.heap.push (set0 w)).objs.size, l] := by
        rw [sz1]
        simp only [List.mem_cons, List.not_mem_nil, or_false, not_or]
        exact ⟨Nat.ne_of_lt (Nat.lt_succ_self _), Nat.ne_of_gt low⟩
      have val : ∀ (i : Nat) (v : Value), items[i]? = some v → ∃ k t, ns[i]? = some k ∧ v = .int k t := by
        intro i v hv
        have hi : i < ns.length := by rw [← size]; exact (Array.getElem?_eq_some_iff.mp hv).1
        obtain ⟨t, e⟩ := nums.int_at i v (by rw [Array.getElem?_toList]; exact hv)
        refine ⟨ns[i], t, List.getElem?_eq_getElem hi, ?_⟩
        rw [e, List.getD_eq_getElem?_getD, List.getElem?_eq_getElem hi] <;> rfl
      refine set_update_ints ((Walks.list calm3 _ l ne1 items).toS) s.heap.objs.size out ns size few val (items.size - 0) 0 _ (by omega) (Nat.zero_le _) ⟨⟨_, Heap.get?_push_size _ rfl, rfl, rfl⟩, (isl1.push _)⟩ ⟨0, Nat.le_refl 0, setR_new_at (Heap.get?_push_of_some _ here)⟩ ?_
      rintro ⟨h', g', d', tk', os'⟩ c' mv le R
      obtain rfl : g' = s.gens := mv.gens
      obtain rfl : d' = s.drawn := mv.drawn
      obtain rfl : os' = s.os := mv.os
      show wpAny _ _ _ _ _ _
      refine wpAny_pure (show wpAny _ _ (ret Value.none) _ _ _ from wpAny_pure ⟨rfl, h', tk', c', rfl, R, by omega, fun b o e => ?_⟩)
      have lb : b < s.heap.objs.size := Heap.lt_size e
      refine mv.heap b o ?_ (Heap.get?_push_of_some _ (Heap.get?_push_of_some _ e))
      rw [sz1]
      simp only [List.mem_cons, List.not_mem_nil, or_false, not_or]
      exact ⟨Nat.ne_of_lt lb, Nat.ne_of_lt (Nat.lt_succ_of_lt lb)⟩
    · rintro (e | fl) t z
      · exact z
      cases fl with
      | ret r =>
        obtain ⟨rfl, h', tk, c', rfl, R, le, k⟩ := z
        repeat (any_goals (first | assumption | wp_step))
        exact fin _ _ _ R le k
      | _ => exact z.elim
  | _ => exact z.elim
end
section
variable {X : Cx}
def rSetL (K : PySem.W.Frag) (w : World) : List V → Hp → VK → Prop := fun xs H Q => ∃ (l : Addr) (ns : List Int), xs = [.ref l] ∧ SqL K H l (ns.map V.int) ∧ ns.length ≤ 1000 ∧
  ∀ p n, H p = none → n ≤ ns.length → Q (.ref p) (upd H p (SetO w p (fun j => decide (j ∈ ns)) n))
theorem cr_setL (hc : X.calm = true) : CallR X (.type "set") (rSetL X.K X.w) := by
  intro pins s σ H xs us Q I r h
  obtain ⟨l, ns, rfl, sq, few, q⟩ := h
  rw [Vals.ref1 r]
  obtain ⟨its, rv, pl, _⟩ := I.list sq
  refine set_of_list ns (I.ok.hd hc) pl.isList (by simpa using ints_of_vals rv) (by unfold scanBound; omega) fun h' tk c R le k => ?_
  exact ⟨.ref _, upd H s.heap.objs.size (SetO X.w s.heap.objs.size (fun j => decide (j ∈ ns)) c), I.laid (t' := tk) k (Nat.le_refl _) (setO_new R), rfl, q _ c (I.hok.fresh (Nat.le_refl _)) le⟩
/-- sorted(set(e)) as one -/
def rSortSet (K : PySem.W.Frag) : List V → Hp → VK → Prop := fun xs H Q => ∃ (l : Addr) (ns : List Int), xs = [.ref l] ∧ SqL K H l (ns.map V.int) ∧ ns.length < 64 ∧
  ∀ (ms : List Int) (p : Addr) (H' : Hp), ms.Pairwise (· < ·) → (∀ k : Int, k ∈ ms ↔ k ∈ ns) → H p = none → (∀ b o, H b = some o → H' b = some o) → H' p = some (.lst (ms.map V.int)) → Q (.ref p) H'
theorem sortset {K : PySem.W.Frag} {w : World} {vs : List V} {H1 : Hp} {Q : VK} (h : rSortSet K vs H1 Q) : rSetL K w vs H1 fun x H2 => rSortedSet w [x] H2 Q := by
  obtain ⟨l, ns, rfl, sq, few, q⟩ := h
  refine ⟨l, ns, rfl, sq, by omega, fun p n np le => ⟨p, _, n, rfl, upd_same, by omega, fun ms p' asc mem len np' => ?_⟩⟩
  have n1 : p' ≠ p := fun z => by rw [z, upd_same] at np'; cases np'
  have np0 := np'
  rw [upd_ne n1] at np0
  refine q ms p' _ asc (fun k => by rw [mem k, decide_eq_true_eq]) np0 (fun b o e => ?_) upd_same
  rw [upd_ne (ne_of_none e np0), upd_ne (ne_of_none e np)]
  exact e
end
end Cn

namespace Cn
open PySem PySem.Spec PyProof.Rows L2 Evl
/-! ### data made of tuples -/
mutual
inductive Tp (H : Hp) : V → PyData → Prop
  | non : Tp H .non .none
  | bl (b : Bool) : Tp H (.bl b) (.bool b)
  | int (i : Int) : Tp H (.int i) (.int i)
  | str (x : Str) : Tp H (.str x) (.str x)
  | tup {a : Addr} {xs : List V} {ds : List PyData} : Rd H a (.tup xs) → TpAll H xs ds → Tp H (.ref a) (.tuple ds)
inductive TpAll (H : Hp) : List V → List PyData → Prop
  | nil : TpAll H [] []
  | cons {v : V} {vs : List V} {d : PyData} {ds : List PyData} : Tp H v d → TpAll H vs ds → TpAll H (v :: vs) (d :: ds)
end
/-- the tuples stay -/
def Tk (H H' : Hp) : Prop := ∀ a xs, Rd H a (.tup xs) → Rd H' a (.tup xs)
theorem sr {K : PySem.W.Frag} {H : Hp} {a : Addr} {xs : List V} (h : Rd H a (.tup xs)) : SqT K H a xs := .inl h
theorem rd_upd {H : Hp} {a p : Addr} {u o : HO} (h : Rd H a u) (n : a ≠ p) : Rd (upd H p o) a u := by
  rcases h with h | ⟨z, h⟩
  · exact .inl (by rw [upd_ne n]; exact h)
  · exact .inr ⟨z, by rw [upd_ne n]; exact h⟩
theorem rd_ne {H : Hp} {a p : Addr} {xs ys : List V} (h : Rd H a (.tup xs)) (hp : H p = some (.lst ys)) : a ≠ p := by
  rcases h with h | ⟨z, h⟩
  · exact ne_of h hp (by intro z; cases z)
  · exact ne_of h hp (by intro z; cases z)
theorem Tk.refl (H : Hp) : Tk H H := fun _ _ h => h
theorem Tk.trans {H H1 H2 : Hp} (a : Tk H H1) (b : Tk H1 H2) : Tk H H2 := fun p xs h => b p xs (a p xs h)
theorem Tk.ex {H H' : Hp} (e : Ex H H') : Tk H H' := fun a _ h => ex_rd e h
theorem Tk.lst {H : Hp} {p : Addr} {xs ys : List V} (h : H p = some (.lst xs)) : Tk H (upd H p (.lst ys)) := fun a zs e => rd_upd e (rd_ne e h)
mutual
theorem Tp.mono {H H' : Hp} (k : Tk H H') : ∀ {d : PyData} {v : V}, Tp H v d → Tp H' v d
  | _, _, .non => .non
  | _, _, .bl b => .bl b
  | _, _, .int i => .int i
  | _, _, .str x => .str x
  | _, _, .tup h a => .tup (k _ _ h) (TpAll.mono k a)
theorem TpAll.mono {H H' : Hp} (k : Tk H H') : ∀ {ds : List PyData} {vs : List V}, TpAll H vs ds → TpAll H' vs ds
  | _, _, .nil => .nil
  | _, _, .cons a b => .cons (Tp.mono k a) (TpAll.mono k b)
end
mutual
theorem Tp.dp {K : PySem.W.Frag} {H : Hp} : ∀ {d : PyData} {v : V}, Tp H v d → Dp K H v d
  | _, _, .non => .non
  | _, _, .bl b => .bl b
  | _, _, .int i => .int i
  | _, _, .str x => .str x
  | _, _, .tup h a => .tup (sr h) (TpAll.dp a)
theorem TpAll.dp {K : PySem.W.Frag} {H : Hp} : ∀ {ds : List PyData} {vs : List V}, TpAll H vs ds → DpAll K H vs ds
  | _, _, .nil => .nil
  | _, _, .cons a b => .cons (Tp.dp a) (TpAll.dp b)
end
section
variable {H H' : Hp}
theorem Tp.int_inv {v : V} {i : Int} (h : Tp H v (.int i)) : v = .int i := by cases h; rfl
theorem Tp.tup_inv {v : V} {ds : List PyData} (h : Tp H v (.tuple ds)) : ∃ a xs, v = .ref a ∧ Rd H a (.tup xs) ∧ TpAll H xs ds := by
  cases h with
  | tup a b => exact ⟨_, _, rfl, a, b⟩
theorem TpAll.length : ∀ {xs : List V} {ds : List PyData}, TpAll H xs ds → xs.length = ds.length
  | _, _, .nil => rfl
  | _, _, .cons _ b => by simp [b.length]
theorem TpAll.get : ∀ {xs : List V} {ds : List PyData} {i : Nat} {d : PyData}, TpAll H xs ds → ds[i]? = some d → ∃ v, xs[i]? = some v ∧ Tp H v d
  | _, _, _, _, .nil, e => by simp at e
  | _, _, 0, _, .cons a _, e => by simp at e; subst e; exact ⟨_, rfl, a⟩
  | _, _, i + 1, _, .cons _ b, e => by
    obtain ⟨v, h1, h2⟩ := b.get (i := i) (by simpa using e)
    exact ⟨v, by simpa using h1, h2⟩
theorem TpAll.append : ∀ {xs ys : List V} {ds es : List PyData}, TpAll H xs ds → TpAll H ys es → TpAll H (xs ++ ys) (ds ++ es)
  | _, _, _, _, .nil, b => b
  | _, _, _, _, .cons a r, b => .cons a (r.append b)
theorem TpAll.take : ∀ {xs : List V} {ds : List PyData} (n : Nat), TpAll H xs ds → TpAll H (xs.take n) (ds.take n)
  | _, _, 0, _ => .nil
  | _, _, _ + 1, .nil => .nil
  | _, _, n + 1, .cons a b => .cons a (b.take n)
theorem TpAll.nums : ∀ {ns : List Int} {xs : List V}, TpAll H xs (ns.map PyData.int) → xs = ns.map V.int
  | [], _, h => by cases h; rfl
  | n :: ns, _, h => by
    cases h with
    | cons a b => rw [List.map_cons, a.int_inv, b.nums]
theorem TpAll.of_nums : ∀ ns : List Int, TpAll H (ns.map V.int) (ns.map PyData.int)
  | [] => .nil
  | n :: ns => .cons (.int n) (TpAll.of_nums ns)
end
/-! ### gardens -/
abbrev Bed := Int × Int
def bedD (b : Bed) : PyData := .tuple [.int b.1, .int b.2]
def bedsD (bs : List Bed) : PyData := .tuple (bs.map bedD)
def gardenD (t c : Int) (bs : List Bed) : PyData := .tuple [.int t, .int c, bedsD bs]
theorem bed_inv {H : Hp} {v : V} {b : Bed} (h : Tp H v (bedD b)) : ∃ a, v = .ref a ∧ Rd H a (.tup [.int b.1, .int b.2]) := by
  obtain ⟨a, xs, rfl, ha, r⟩ := Tp.tup_inv h
  cases r with
  | cons p r =>
    cases r with
    | cons q r =>
      cases r
      rw [p.int_inv, q.int_inv] at ha
      exact ⟨a, rfl, ha⟩
theorem garden_inv {H : Hp} {v : V} {t c : Int} {bs : List Bed} (h : Tp H v (gardenD t c bs)) : ∃ g b xs, v = .ref g ∧ Rd H g (.tup [.int t, .int c, .ref b]) ∧ Rd H b (.tup xs) ∧ TpAll H xs (bs.map bedD) := by
  obtain ⟨g, xs, rfl, hg, r⟩ := Tp.tup_inv h
  cases r with
  | cons p r =>
    cases r with
    | cons q r =>
      cases r with
      | cons z r =>
        cases r
        obtain ⟨b, ys, rfl, hb, r⟩ := Tp.tup_inv z
        rw [p.int_inv, q.int_inv] at hg
        exact ⟨g, b, ys, rfl, hg, hb, r⟩
theorem garden_of {H : Hp} {g b : Addr} {t c : Int} {xs : List V} {bs : List Bed} (hg : Rd H g (.tup [.int t, .int c, .ref b])) (hb : Rd H b (.tup xs)) (r : TpAll H xs (bs.map bedD)) : Tp H (.ref g) (gardenD t c bs) :=
  .tup hg (.cons (.int t) (.cons (.int c) (.cons (.tup hb r) .nil)))
theorem bed_of {H : Hp} {a : Addr} {b : Bed} (h : Rd H a (.tup [.int b.1, .int b.2])) : Tp H (.ref a) (bedD b) := .tup h (.cons (.int _) (.cons (.int _) .nil))

/-! ### evaluation to data -/
def EvD (te : TE) (σ : L2.St) (H : Hp) (d : PyData) : Prop := ∀ H1, Ex H H1 → ∀ Q : VK, (∀ v H2, Ex H1 H2 → Tp H2 v d → Q v H2) → te σ H1 Q
def EvLd (te : TE) (σ : L2.St) (H : Hp) (ds : List PyData) : Prop := ∀ H1, Ex H H1 → ∀ Q : VK, (∀ p xs H2, H1 p = none → Ex H1 H2 → H2 p = some (.lst xs) → TpAll H2 xs ds → Q (.ref p) H2) → te σ H1 Q
def EvAd (ta : TA) (σ : L2.St) (H : Hp) (ds : List PyData) : Prop := ∀ H1, Ex H H1 → ∀ Q : List V → Hp → Prop, (∀ vs H2, Ex H1 H2 → TpAll H2 vs ds → Q vs H2) → ta σ H1 Q
section
variable {K : PySem.W.Frag} {σ : L2.St} {H H' : Hp} {ta tb te tx : TE} {t u : TT} {x y z v : V} {d : PyData} {ds : List PyData}
theorem EvD.mono (e : Ex H H') (h : EvD te σ H d) : EvD te σ H' d := fun H1 a Q q => h H1 (e.trans a) Q q
theorem ed_int {i : Int} (h : Ev te σ H (.int i)) : EvD te σ H (.int i) := fun H1 e Q q => h H1 e Q fun H2 e2 => q _ H2 e2 (.int i)
theorem ev_of {i : Int} (h : EvD te σ H (.int i)) : Ev te σ H (.int i) := fun H1 e Q q => h H1 e Q fun v H2 e2 t => by
  rw [t.int_inv]
  exact q H2 e2
theorem ed_val (h : Ev te σ H v) (t : Tp H v d) : EvD te σ H d := fun H1 e Q q => h H1 e Q fun H2 e2 => q _ H2 e2 (t.mono (Tk.ex (e.trans e2)))
theorem ead_nil : EvAd tNil σ H [] := fun H1 _ _ q => q [] H1 (Ex.refl H1) .nil
theorem ead_cons {tr : TA} (h : EvD ta σ H d) (hr : EvAd tr σ H ds) : EvAd (tCons ta tr) σ H (d :: ds) := fun H1 e Q q =>
  h H1 e _ fun v H2 e2 t2 => hr H2 (e.trans e2) _ fun vs H3 e3 t3 => q _ H3 (e2.trans e3) (.cons (t2.mono (Tk.ex e3)) t3)
theorem ed_tup {tr : TA} (h : EvAd tr σ H ds) (hl : ds.length ≤ 100000) : EvD (tTup tr) σ H (.tuple ds) := fun H1 e Q q =>
  h H1 e _ fun vs H2 e2 t2 => ⟨sz_of (by rw [t2.length]; exact hl), fun p hp => q _ _ (e2.trans (Ex.new hp)) (.tup (.inl upd_same) (t2.mono (Tk.ex (Ex.new hp))))⟩
theorem eld_lst {tr : TA} (h : EvAd tr σ H ds) (hl : ds.length ≤ 100000) : EvLd (tLst tr) σ H ds := fun H1 e Q q =>
  h H1 e _ fun vs H2 e2 t2 => ⟨sz_of (by rw [t2.length]; exact hl), fun p hp => q p vs _ (fresh_back e2 hp) (e2.trans (Ex.new hp)) upd_same (t2.mono (Tk.ex (Ex.new hp)))⟩
theorem el_nums {ns : List Int} (h : EvLd te σ H (ns.map PyData.int)) : EvL te σ H (ns.map V.int) := fun H1 e Q q => h H1 e Q fun p xs H2 hp e2 h2 t => q p H2 hp e2 (by rw [h2, t.nums])
theorem eld_nums {ns : List Int} (h : EvL te σ H (ns.map V.int)) : EvLd te σ H (ns.map PyData.int) := fun H1 e Q q => h H1 e Q fun p H2 hp e2 h2 => q p _ H2 hp e2 h2 (TpAll.of_nums ns)
/-- new list + new list -/
theorem el_cat {xs ys : List V} (ha : EvL ta σ H xs) (hb : EvL tb σ H ys) (hl : xs.length + ys.length ≤ 100000) : EvL (tOp rCat ta tb) σ H (xs ++ ys) := fun H1 e Q q =>
  ha H1 e _ fun p H2 hp e2 h2 => hb H2 (e.trans e2) _ fun p' H3 hp' e3 h3 => ⟨p, p', xs, ys, rfl, rfl, e3 p _ h2, h3, sz_of hl, fun r hr => q r _ (fresh_back (e2.trans e3) hr) ((e2.trans e3).trans (Ex.new hr)) upd_same⟩
/-- a list by its name + a new list -/
theorem el_catV {p : Addr} {xs ys : List V} (ha : Ev ta σ H (.ref p)) (hp : H p = some (.lst xs)) (hb : EvL tb σ H ys) (hl : xs.length + ys.length ≤ 100000) : EvL (tOp rCat ta tb) σ H (xs ++ ys) := fun H1 e Q q =>
  ha H1 e _ fun H2 e2 => hb H2 (e.trans e2) _ fun p' H3 hp' e3 h3 => ⟨p, p', xs, ys, rfl, rfl, ((e.trans e2).trans e3) p _ hp, h3, sz_of hl, fun r hr => q r _ (fresh_back (e2.trans e3) hr) ((e2.trans e3).trans (Ex.new hr)) upd_same⟩
theorem et_yes : EvT tYes σ H true := fun H1 _ _ q => q H1 (Ex.refl H1)
theorem ed_call {sp : Sp} {E : XK} {tr : TA} {vs : List V} (h : EvA tr σ H vs) (hs : ∀ H1, Ex H H1 → ∀ Q : VK, (∀ v H2, Ex H1 H2 → Tp H2 v d → Q v H2) → ∀ E : XK, sp vs H1 Q E) : EvD (tCall sp [] E tr) σ H d := fun H1 e Q q =>
  h H1 e _ fun H2 e2 => by
    show sp (vs ++ []) H2 Q E
    rw [List.append_nil]
    exact hs H2 (e.trans e2) Q (fun v H3 e3 t3 => q v H3 (e2.trans e3) t3) E
/-- which turns give, and what -/
def givD (n : Nat) (f : Nat → Bool) (dd : Nat → PyData) : List PyData := ((List.range n).filter f).map dd
theorem givD_yes {n : Nat} {f : Nat → Bool} {dd : Nat → PyData} (h : f n = true) : givD (n + 1) f dd = givD n f dd ++ [dd n] := by
  simp [givD, List.range_succ, h]
theorem givD_no {n : Nat} {f : Nat → Bool} {dd : Nat → PyData} (h : f n = false) : givD (n + 1) f dd = givD n f dd := by
  simp [givD, List.range_succ, h]
theorem givD_len (n : Nat) (f : Nat → Bool) (dd : Nat → PyData) : (givD n f dd).length ≤ n := by
  have := List.length_filter_le f (List.range n)
  simp only [givD, List.length_map, List.length_range] at this ⊢
  exact this
/-- a comprehension that changes nothing, over any walk -/
theorem lc_pure {J : It} {n : Nat} {G : Hp → Prop} {Y : Nat → Hp → V → Hp → Prop} (w : Walk J n G Y) (few : n ≤ 50000) {g : TG} {vs : List Nat} {Q : VK} (f : Nat → Bool) (dd : Nat → PyData) (hG : ∀ H', Ex H H' → G H')
    (hs : ∀ i x H1 H2, i < n → Ex H H1 → Y i H1 x H2 → Ex H1 H2 ∧ ∃ σ2, (∀ R : L2.St → Hp → Prop, R σ2 H2 → g x (wipe σ vs) H2 R) ∧ wipe σ2 vs = wipe σ vs ∧ EvT t σ2 H2 (f i) ∧ (f i = true → EvD te σ2 H2 (dd i)))
    (q : ∀ p xs H', H p = none → Ex H H' → H' p = some (.lst xs) → TpAll H' xs (givD n f dd) → Q (.ref p) H') :
    ∀ D, H D = none → ∃ W : Nat → Nat → Hp → Prop, (∃ m, W 0 m (upd H D (.lst []))) ∧ ∀ i m H', W i m H' →
      (J.stop i H' ∧ Q (.ref D) H') ∨ (J.go i H' ∧ ∃ Nx : Hp → Prop, (∀ H2, Nx H2 → ∃ m', m' < m ∧ W (i + 1) m' H2) ∧ ∀ x H2, J.yld i H' x H2 → g x (wipe σ vs) H2 fun σ2 H2 => wipe σ2 vs = wipe σ vs ∧ t σ2 H2 fun b H3 =>
        if b = true then te σ2 H3 fun y H4 => ∃ acc, H4 D = some (.lst acc) ∧ acc.length < sizeLine ∧ Nx (upd H4 D (.lst (acc ++ [y]))) else Nx H3) := by
  intro D hD
  refine lc_it w (Qd := fun H' => Q (.ref D) H') (fun i H' => Ex H H' ∧ ∃ xs, H' D = some (.lst xs) ∧ TpAll H' xs (givD i f dd)) ⟨Ex.new hD, [], upd_same, .nil⟩ (fun i H' _ p => hG H' p.1) ?_ (fun H' p => by
    obtain ⟨e, xs, h1, h2⟩ := p
    exact q D xs H' hD e h1 h2)
  rintro i x H1 H2 hi ⟨e1, xs, h1, t1⟩ hy
  obtain ⟨e2, σ2, bind, hw, ht, he⟩ := hs i x H1 H2 hi e1 hy
  refine bind _ ⟨hw, ht H2 (Ex.refl H2) _ fun H3 e3 => ?_⟩
  have e03 : Ex H H3 := (e1.trans e2).trans e3
  have h3 : H3 D = some (.lst xs) := (e2.trans e3) D _ h1
  have t3 : TpAll H3 xs (givD i f dd) := t1.mono (Tk.ex (e2.trans e3))
  cases hf : f i with
  | false =>
    show Ex H H3 ∧ _
    rw [givD_no hf]
    exact ⟨e03, xs, h3, t3⟩
  | true =>
    show te σ2 H3 _
    refine he hf H3 e3 _ fun v H4 e4 t4 => ⟨xs, e4 D _ h3, sz_lt ?_, Ex.mut (e03.trans e4) hD, xs ++ [v], upd_same, ?_⟩
    · have := givD_len i f dd
      rw [t3.length]; omega
    · rw [givD_yes hf]
      exact ((t3.mono (Tk.ex e4)).append (.cons t4 .nil)).mono (Tk.lst (e4 D _ h3))
theorem giv_list {α : Type} (l : List α) (f : α → Bool) (dd : α → PyData) (f' : Nat → Bool) (dd' : Nat → PyData) (h : ∀ i a, l[i]? = some a → f' i = f a ∧ dd' i = dd a) : givD l.length f' dd' = (l.filter f).map dd := by
  have key : ∀ n, n ≤ l.length → givD n f' dd' = ((l.take n).filter f).map dd := by
    intro n
    induction n with
    | zero => intro _; simp [givD]
    | succ n ih =>
      intro hn
      have hl : l[n]? = some l[n] := List.getElem?_eq_getElem hn
      obtain ⟨h1, h2⟩ := h n _ hl
      rw [List.take_add_one, hl]
      simp only [Option.toList_some, List.filter_append, List.map_append]
      cases hf : f l[n] with
      | true => rw [givD_yes (h1.trans hf), ih (by omega), h2]; simp [hf]
      | false => rw [givD_no (h1.trans hf), ih (by omega)]; simp [hf]
  rw [key _ (Nat.le_refl _), List.take_length]
abbrev gPair (K : PySem.W.Frag) (i j : Nat) : TG := gTup K 2 (gCons (gName i) (gCons (gName j) gNil))
theorem pair_bind {H : Hp} {a : Addr} {p l : V} {i j : Nat} {σ : L2.St} (h : Rd H a (.tup [p, l])) (R : L2.St → Hp → Prop) (r : R ((σ.set i (some p)).set j (some l)) H) : gPair K i j (.ref a) σ H R :=
  ⟨a, _, rfl, sr h, rfl, p, [l], rfl, l, [], rfl, rfl, r⟩
/-- [.. for place, litres in beds if ..] -/
theorem eld_beds {tl : TE} {a : Addr} {xs : List V} {bs : List Bed} {i j : Nat} {vs : List Nat} (f : Bed → Bool) (dd : Bed → PyData) (h : Ev tl σ H (.ref a)) (ha : Rd H a (.tup xs)) (hb : TpAll H xs (bs.map bedD)) (few : bs.length ≤ 50000)
    (hw : ∀ p l, wipe (((wipe σ vs).set i (some p)).set j (some l)) vs = wipe σ vs)
    (ht : ∀ b ∈ bs, EvT t (((wipe σ vs).set i (some (.int b.1))).set j (some (.int b.2))) H (f b)) (he : ∀ b ∈ bs, f b = true → EvD te (((wipe σ vs).set i (some (.int b.1))).set j (some (.int b.2))) H (dd b)) :
    EvLd (tLc (iTup K tl) (gPair K i j) t te vs) σ H ((bs.filter f).map dd) := fun H0 e0 Q q => h H0 e0 _ fun H1 e1 => by
  have eq : xs.length = bs.length := by rw [hb.length, List.length_map]
  have e01 := e0.trans e1
  refine ⟨a, rfl, ⟨xs, sr (ex_rd e01 ha)⟩, ?_⟩
  have gl := giv_list bs f dd (fun i => match bs[i]? with | some b => f b | none => false) (fun i => match bs[i]? with | some b => dd b | none => .none) (fun i a e => by simp [e])
  refine lc_pure (walk_tup (K := K) (a := a) (xs := xs)) (by omega) (fun i => match bs[i]? with | some b => f b | none => false) (fun i => match bs[i]? with | some b => dd b | none => .none) (fun H' e => sr (ex_rd e (ex_rd e01 ha))) ?_ ?_
  · rintro k x H2 _ hk e2 ⟨rfl, hx⟩
    have hk' : k < bs.length := by omega
    have hbk : bs[k]? = some bs[k] := List.getElem?_eq_getElem hk'
    obtain ⟨v, hv, tv⟩ := hb.get (i := k) (d := bedD bs[k]) (by rw [List.getElem?_map, hbk]; rfl)
    rw [hx] at hv
    cases hv
    obtain ⟨c, rfl, hc⟩ := bed_inv (tv.mono (Tk.ex (e01.trans e2)))
    have hm : bs[k] ∈ bs := List.getElem_mem hk'
    refine ⟨Ex.refl _, _, fun R r => pair_bind hc R r, hw _ _, ?_, ?_⟩
    · simp only [hbk]
      exact (ht _ hm).mono (e01.trans e2)
    · simp only [hbk]
      exact fun hf => (he _ hm hf).mono (e01.trans e2)
  · intro p ys H2 hp e2 h2 t2
    refine q p ys H2 (fresh_back e1 hp) (e1.trans e2) h2 ?_
    rw [← gl, ← eq]
    exact t2
/-- the same over a list of tuples -/
theorem eld_bedsL {tl : TE} {a : Addr} {xs : List V} {bs : List Bed} {i j : Nat} {vs : List Nat} (f : Bed → Bool) (dd : Bed → PyData) (h : Ev tl σ H (.ref a)) (ha : H a = some (.lst xs)) (hb : TpAll H xs (bs.map bedD)) (few : bs.length ≤ 50000)
    (hw : ∀ p l, wipe (((wipe σ vs).set i (some p)).set j (some l)) vs = wipe σ vs)
    (ht : ∀ b ∈ bs, EvT t (((wipe σ vs).set i (some (.int b.1))).set j (some (.int b.2))) H (f b)) (he : ∀ b ∈ bs, f b = true → EvD te (((wipe σ vs).set i (some (.int b.1))).set j (some (.int b.2))) H (dd b)) :
    EvLd (tLc (iList K tl) (gPair K i j) t te vs) σ H ((bs.filter f).map dd) := fun H0 e0 Q q => h H0 e0 _ fun H1 e1 => by
  have eq : xs.length = bs.length := by rw [hb.length, List.length_map]
  have e01 := e0.trans e1
  refine ⟨a, rfl, ⟨xs, sq_of (e01 a _ ha)⟩, ?_⟩
  have gl := giv_list bs f dd (fun i => match bs[i]? with | some b => f b | none => false) (fun i => match bs[i]? with | some b => dd b | none => .none) (fun i a e => by simp [e])
  refine lc_pure (walk_list (K := K) (a := a) (xs := xs)) (by omega) (fun i => match bs[i]? with | some b => f b | none => false) (fun i => match bs[i]? with | some b => dd b | none => .none) (fun H' e => sq_of (e a _ (e01 a _ ha))) ?_ ?_
  · rintro k x H2 _ hk e2 ⟨rfl, hx⟩
    have hk' : k < bs.length := by omega
    have hbk : bs[k]? = some bs[k] := List.getElem?_eq_getElem hk'
    obtain ⟨v, hv, tv⟩ := hb.get (i := k) (d := bedD bs[k]) (by rw [List.getElem?_map, hbk]; rfl)
    rw [hx] at hv
    cases hv
    obtain ⟨c, rfl, hc⟩ := bed_inv (tv.mono (Tk.ex (e01.trans e2)))
    have hm : bs[k] ∈ bs := List.getElem_mem hk'
    refine ⟨Ex.refl _, _, fun R r => pair_bind hc R r, hw _ _, ?_, ?_⟩
    · simp only [hbk]
      exact (ht _ hm).mono (e01.trans e2)
    · simp only [hbk]
      exact fun hf => (he _ hm hf).mono (e01.trans e2)
  · intro p ys H2 hp e2 h2 t2
    refine q p ys H2 (fresh_back e1 hp) (e1.trans e2) h2 ?_
    rw [← gl, ← eq]
    exact t2
end
end Cn

namespace Cn
open PySem PySem.Spec PyProof.Rows L2 Evl
/-! ### marks -/
abbrev Asc (l : List Int) : Prop := l.Pairwise (· < ·)
theorem asc_unique : ∀ {a b : List Int}, Asc a → Asc b → (∀ k, k ∈ a ↔ k ∈ b) → a = b
  | [], [], _, _, _ => rfl
  | [], y :: b, _, _, h => absurd ((h y).2 (List.mem_cons_self ..)) (by simp)
  | x :: a, [], _, _, h => absurd ((h x).1 (List.mem_cons_self ..)) (by simp)
  | x :: a, y :: b, ha, hb, h => by
    have ha' := List.pairwise_cons.mp ha
    have hb' := List.pairwise_cons.mp hb
    have hx : x = y := by
      have h1 := (h x).1 (List.mem_cons_self ..)
      have h2 := (h y).2 (List.mem_cons_self ..)
      rcases List.mem_cons.mp h1 with e | e
      · exact e
      · rcases List.mem_cons.mp h2 with e2 | e2
        · exact e2.symm
        · have := hb'.1 x e
          have := ha'.1 y e2
          omega
    subst hx
    congr 1
    refine asc_unique ha'.2 hb'.2 fun k => ⟨fun m => ?_, fun m => ?_⟩
    · have lt := ha'.1 k m
      rcases List.mem_cons.mp ((h k).1 (List.mem_cons_of_mem _ m)) with e | e
      · omega
      · exact e
    · have lt := hb'.1 k m
      rcases List.mem_cons.mp ((h k).2 (List.mem_cons_of_mem _ m)) with e | e
      · omega
      · exact e
def ins (x : Int) : List Int → List Int
  | [] => [x]
  | y :: r => if x < y then x :: y :: r else if x = y then y :: r else y :: ins x r
theorem mem_ins {x k : Int} : ∀ {l : List Int}, k ∈ ins x l ↔ k = x ∨ k ∈ l
  | [] => by simp [ins]
  | y :: r => by
    unfold ins
    split
    · simp
    · split
      · rename_i e; subst e; simp
      · simp only [List.mem_cons, mem_ins (l := r)]
        constructor
        · rintro (h | h | h) <;> simp [h]
        · rintro (h | h | h) <;> simp [h]
theorem asc_ins {x : Int} : ∀ {l : List Int}, Asc l → Asc (ins x l)
  | [], _ => by simp [ins, Asc]
  | y :: r, h => by
    have h' := List.pairwise_cons.mp h
    unfold ins
    split
    · rename_i lt
      refine List.pairwise_cons.mpr ⟨fun k m => ?_, h⟩
      rcases List.mem_cons.mp m with e | e
      · omega
      · have := h'.1 k e; omega
    · split
      · exact h
      · rename_i n1 n2
        refine List.pairwise_cons.mpr ⟨fun k m => ?_, asc_ins h'.2⟩
        rcases mem_ins.mp m with e | e
        · omega
        · exact h'.1 k e
def sortU (l : List Int) : List Int := l.foldr ins []
theorem mem_sortU {k : Int} : ∀ {l : List Int}, k ∈ sortU l ↔ k ∈ l
  | [] => by simp [sortU]
  | x :: r => by
    show k ∈ ins x (sortU r) ↔ _
    rw [mem_ins, mem_sortU, List.mem_cons]
theorem asc_sortU : ∀ l : List Int, Asc (sortU l)
  | [] => .nil
  | x :: r => asc_ins (asc_sortU r)
theorem len_ins {x : Int} : ∀ {l : List Int}, (ins x l).length ≤ l.length + 1
  | [] => by simp [ins]
  | y :: r => by
    unfold ins
    split
    · simp
    · split
      · simp
      · have := len_ins (x := x) (l := r)
        simp only [List.length_cons]; omega
theorem len_sortU : ∀ l : List Int, (sortU l).length ≤ l.length
  | [] => by simp [sortU]
  | x :: r => by
    have h := len_ins (x := x) (l := sortU r)
    have h2 := len_sortU r
    show (ins x (sortU r)).length ≤ r.length + 1
    omega
def marks (t : Int) (bs : List Bed) : List Int := sortU (t :: bs.map (·.1))
theorem sortU_eq {l ms : List Int} (a : Asc ms) (h : ∀ k, k ∈ ms ↔ k ∈ l) : ms = sortU l := asc_unique a (asc_sortU l) fun k => (h k).trans mem_sortU.symm

/-! ### stretches -/
def pairs : List Int → List (Int × Int)
  | x :: y :: r => (x, y) :: pairs (y :: r)
  | _ => []
theorem pairs_len : ∀ l : List Int, (pairs l).length = l.length - 1
  | [] => rfl
  | [_] => rfl
  | x :: y :: r => by
    show (pairs (y :: r)).length + 1 = _
    rw [pairs_len (y :: r)]
    simp
theorem pairs_get : ∀ {l : List Int} {i : Nat} {x y : Int}, l[i]? = some x → l[i + 1]? = some y → (pairs l)[i]? = some (x, y)
  | [], _, _, _, h, _ => by simp at h
  | [_], i, _, _, _, h2 => by simp at h2
  | a :: b :: r, 0, x, y, h, h2 => by
    simp at h h2
    subst h h2
    rfl
  | a :: b :: r, i + 1, x, y, h, h2 => by
    have := pairs_get (l := b :: r) (i := i) (x := x) (y := y) (by simpa using h) (by simpa using h2)
    simpa [pairs] using this
def litres (t : Int) (bs : List Bed) (lo hi : Int) : Int :=
  if t ≤ lo then ((bs.filter fun b => decide (hi ≤ b.1)).map (·.2)).sum else ((bs.filter fun b => decide (b.1 ≤ lo)).map (·.2)).sum
def strD (t : Int) (bs : List Bed) (p : Int × Int) : PyData := .tuple [.int p.1, .int p.2, .int (litres t bs p.1 p.2)]
def stretchesD (t : Int) (bs : List Bed) : PyData := .tuple ((pairs (marks t bs)).map (strD t bs))
/-- the law's own count -/
def total (t lo hi : Int) (bs : List Bed) : Int := ((bs.filter fun b => (decide (t ≤ lo) && decide (lo < b.1)) || (decide (b.1 < hi) && decide (hi ≤ t))).map (·.2)).sum
theorem gap {l : List Int} {i : Nat} {x y k : Int} (a : Asc l) (hx : l[i]? = some x) (hy : l[i + 1]? = some y) (hk : k ∈ l) : k ≤ x ∨ y ≤ k := by
  obtain ⟨j, hj, e⟩ := List.getElem_of_mem hk
  obtain ⟨h1, e1⟩ := List.getElem?_eq_some_iff.mp hx
  obtain ⟨h2, e2⟩ := List.getElem?_eq_some_iff.mp hy
  have mono : ∀ p q (hp : p < l.length) (hq : q < l.length), p < q → l[p] < l[q] := fun p q hp hq hpq => List.pairwise_iff_getElem.mp a p q hp hq hpq
  rcases Nat.lt_trichotomy j i with h | h | h
  · have := mono j i hj h1 h; omega
  · subst h; omega
  · by_cases h3 : j = i + 1
    · subst h3; omega
    · have := mono (i + 1) j h2 hj (by omega); omega
theorem asc_at {l : List Int} {i : Nat} {x y : Int} (a : Asc l) (hx : l[i]? = some x) (hy : l[i + 1]? = some y) : x < y := by
  obtain ⟨h1, e1⟩ := List.getElem?_eq_some_iff.mp hx
  obtain ⟨h2, e2⟩ := List.getElem?_eq_some_iff.mp hy
  have := List.pairwise_iff_getElem.mp a i (i + 1) h1 h2 (by omega)
  omega
theorem total_eq {t : Int} {bs : List Bed} {i : Nat} {lo hi : Int} (h1 : (marks t bs)[i]? = some lo) (h2 : (marks t bs)[i + 1]? = some hi) : total t lo hi bs = litres t bs lo hi := by
  have a : Asc (marks t bs) := asc_sortU _
  have lt := asc_at a h1 h2
  have ht := gap a h1 h2 (mem_sortU.mpr (List.mem_cons_self ..) : t ∈ marks t bs)
  have hb : ∀ b ∈ bs, b.1 ≤ lo ∨ hi ≤ b.1 := fun b m => gap a h1 h2 (mem_sortU.mpr (List.mem_cons_of_mem _ (List.mem_map_of_mem m)) : b.1 ∈ marks t bs)
  unfold total litres
  split
  · rename_i c
    congr 2
    refine List.filter_congr fun b m => ?_
    have := hb b m
    rw [Bool.eq_iff_iff]
    simp only [Bool.or_eq_true, Bool.and_eq_true, decide_eq_true_eq]
    omega
  · rename_i c
    congr 2
    refine List.filter_congr fun b m => ?_
    have := hb b m
    rw [Bool.eq_iff_iff]
    simp only [Bool.or_eq_true, Bool.and_eq_true, decide_eq_true_eq]
    omega
end Cn

namespace Cn
open PySem PySem.Spec PyProof.Rows L2 Evl
section
variable {K : PySem.W.Frag} {w : World} {σ : L2.St} {H H' : Hp} {ta tb te tx : TE} {t u : TT} {x y z v : V} {d : PyData} {ds : List PyData}
/-- sorted(set(new list of ints)) -/
theorem el_sortset {ns : List Int} (h : EvL te σ H (ns.map V.int)) (few : ns.length < 64) : EvL (tCB (rSortedSet w) (tCons (tCB (rSetL K w) (tCons te tNil)) tNil)) σ H ((sortU ns).map V.int) := fun H1 e Q q =>
  h H1 e _ fun p H2 hp e2 h2 => sortset ⟨p, ns, rfl, sq_of h2, few, fun ms r H3 asc mem hr e3 h3 => q r H3 (fresh_back e2 hr) (e2.trans e3) (by rw [h3, sortU_eq asc mem])⟩
/-- sum(new list of ints) -/
theorem ev_sum {ns : List Int} (h : EvL te σ H (ns.map V.int)) : Ev (tCB (rSum K) (tCons te tNil)) σ H (.int ns.sum) := fun H1 e Q q =>
  h H1 e _ fun p H2 _ e2 h2 => ⟨p, ns, rfl, sq_of h2, q H2 e2⟩
/-- [x] of ints -/
theorem el_nums1 {i : Int} (h : Ev te σ H (.int i)) : EvL (tLst (tCons te tNil)) σ H ([i].map V.int) := el_lst (ea_cons h ea_nil) (by simp)
theorem el_is {xs ys : List V} (h : EvL te σ H xs) (e : xs = ys) : EvL te σ H ys := e ▸ h
theorem eld_is {es : List PyData} (h : EvLd te σ H ds) (e : ds = es) : EvLd te σ H es := e ▸ h
/-- one comparison of ints as a test -/
theorem et_le {i j : Int} (ha : Ev ta σ H (.int i)) (hb : Ev tb σ H (.int j)) : EvT (tTest (tOp (rI0 fun i j => .bl (decide (i ≤ j))) ta tb)) σ H (decide (i ≤ j)) := et_test (ev_op ha hb rv_I0)
theorem et_ge {i j : Int} (ha : Ev ta σ H (.int i)) (hb : Ev tb σ H (.int j)) : EvT (tTest (tOp (rI0 fun i j => .bl (decide (j ≤ i))) ta tb)) σ H (decide (j ≤ i)) := et_test (ev_op ha hb rv_I0)
theorem et_lt {i j : Int} (ha : Ev ta σ H (.int i)) (hb : Ev tb σ H (.int j)) : EvT (tTest (tOp (rI0 fun i j => .bl (decide (i < j))) ta tb)) σ H (decide (i < j)) := et_test (ev_op ha hb rv_I0)
theorem given_map {α : Type} (l : List α) (f : α → V) (v : Nat → V) (h : ∀ i a, l[i]? = some a → v i = f a) : given l.length (fun _ => true) v = l.map f := by
  refine List.ext_getElem? fun i => ?_
  unfold given
  rw [List.filter_eq_self.mpr (fun _ _ => rfl), List.getElem?_map, List.getElem?_map]
  by_cases hi : i < l.length
  · rw [List.getElem?_range hi, List.getElem?_eq_getElem hi]
    simp only [Option.map_some]
    rw [h i _ (List.getElem?_eq_getElem hi)]
  · rw [List.getElem?_eq_none (by simpa using hi), List.getElem?_eq_none (by simpa using hi)]
    rfl
theorem cutTo (xs : List V) (k : Nat) (h : xs.length ≤ k) : cutV xs none (some k) = xs := by
  unfold cutV
  rw [show HT.sIx xs.length xs.length (some (k : Int)) = min k xs.length from HT.sIx_nat xs.length xs.length k, HT.sIx_none, Nat.min_eq_right h]
  simp
/-- sorted(set([tap] + [place for place, litres in beds])) -/
theorem el_marks {tl : TE} {a : Addr} {xs : List V} {bs : List Bed} {i j : Nat} {vs : List Nat} {tp : Int} (ht : Ev ta σ H (.int tp)) (h : Ev tl σ H (.ref a)) (ha : Rd H a (.tup xs)) (hb : TpAll H xs (bs.map bedD)) (few : bs.length ≤ 40)
    (hw : ∀ p l, wipe (((wipe σ vs).set i (some p)).set j (some l)) vs = wipe σ vs) (he : ∀ b ∈ bs, Ev te (((wipe σ vs).set i (some (.int b.1))).set j (some (.int b.2))) H (.int b.1)) :
    EvL (tCB (rSortedSet w) (tCons (tCB (rSetL K w) (tCons (tOp rCat (tLst (tCons ta tNil)) (tLc (iTup K tl) (gPair K i j) tYes te vs)) tNil)) tNil)) σ H ((marks tp bs).map V.int) := by
  refine el_sortset (ns := tp :: bs.map (·.1)) ?_ (by simp; omega)
  refine el_is (el_cat (el_nums1 ht) (el_nums (ns := bs.map (·.1)) (eld_is (eld_beds (fun _ => true) (fun b => .int b.1) h ha hb (by omega) hw (fun _ _ => et_yes) (fun b m _ => ed_int (he b m))) ?_)) (by simp; omega)) rfl
  rw [List.filter_eq_self.mpr (fun _ _ => rfl)]
  exact (List.map_map ..).symm
theorem et_chain {f g : Int → Int → Bool} {tc : TE} {i j k : Int} (ha : Ev ta σ H (.int i)) (hb : Ev tb σ H (.int j)) (hc : Ev tc σ H (.int k)) : EvT (tTest (tChain (rI0 fun i j => .bl (f i j)) (rI0 fun i j => .bl (g i j)) ta tb tc)) σ H (f i j && g j k) := by
  intro H1 e Q q
  refine ha H1 e _ fun H2 e2 => hb H2 (e.trans e2) _ fun H3 e3 => ⟨i, j, rfl, rfl, f i j, rfl, ?_⟩
  have e123 := e2.trans e3
  cases hf : f i j with
  | true =>
    rw [hf] at q
    exact hc H3 (e.trans e123) _ fun H4 e4 => ⟨j, k, rfl, rfl, g j k, rfl, q H4 (e123.trans e4)⟩
  | false =>
    rw [hf] at q
    exact ⟨false, rfl, q H3 e123⟩
/-- a for over a list that comes out of an expression with effects -/
theorem q_forS {D : Ends} {g : TG} {tl : TE} {tu tz : TS} (P : Addr → List V → Hp → Prop) (src : ∀ Q : VK, (∀ p xs H', P p xs H' → Q (.ref p) H') → tl σ H Q) (hP : ∀ p xs H', P p xs H' → SqL K H' p xs) (Pv : Addr → List V → Nat → L2.St → Hp → Prop)
    (h0 : ∀ p xs H', P p xs H' → Pv p xs 0 σ H') (hl : ∀ p xs i σ' H', i ≤ xs.length → Pv p xs i σ' H' → SqL K H' p xs)
    (hs : ∀ p xs i x σ' H', xs[i]? = some x → Pv p xs i σ' H' → g x σ' H' fun σ2 H2 => tu { D with nx := Pv p xs (i + 1), ct := Pv p xs (i + 1), bk := tz D } σ2 H2) (hd : ∀ p xs σ' H', Pv p xs xs.length σ' H' → tz D σ' H') : tSeq (tFor (iList K tl) g tu) tz D σ H :=
  src _ fun p xs H1 h => ⟨p, rfl, ⟨xs, hP p xs H1 h⟩, for_list (D := { D with nx := tz D }) (Pv p xs) (h0 p xs H1 h) (hl p xs) (hs p xs) (hd p xs)⟩
theorem s_retD {D : Ends} (h : EvD te σ H d) (k : ∀ v H1, Ex H H1 → Tp H1 v d → D.rt v H1) : tRet te D σ H := h H (Ex.refl H) _ k
theorem s_asgD {D : Ends} {i : Nat} (h : EvD te σ H d) (k : ∀ v H1, Ex H H1 → Tp H1 v d → D.nx (σ.set i (some v)) H1) : tAsg te (gName i) D σ H := h H (Ex.refl H) _ k
theorem q_asgD {D : Ends} {tz : TS} {i : Nat} (h : EvD te σ H d) (k : ∀ v H1, Ex H H1 → Tp H1 v d → tz D (σ.set i (some v)) H1) : tSeq (tAsg te (gName i)) tz D σ H := h H (Ex.refl H) _ k
theorem cut1 (xs : List V) : cutV xs (some 1) none = xs.drop 1 := by
  unfold cutV
  rw [show HT.sIx xs.length 0 (some 1) = min 1 xs.length from HT.sIx_nat xs.length 0 1, HT.sIx_none]
  cases xs with
  | nil => rfl
  | cons x r =>
    have e : min 1 (x :: r).length = 1 := by simp
    rw [e]
    show r.take ((x :: r).length - 1) = r
    simp
theorem pairs_at : ∀ {l : List Int} {i : Nat} {p : Int × Int}, (pairs l)[i]? = some p → l[i]? = some p.1 ∧ l[i + 1]? = some p.2
  | [], i, p, h => by simp [pairs] at h
  | [_], i, p, h => by simp [pairs] at h
  | a :: b :: r, 0, p, h => by
    simp [pairs] at h
    subst h
    exact ⟨rfl, rfl⟩
  | a :: b :: r, i + 1, p, h => by
    have := pairs_at (l := b :: r) (i := i) (p := p) (by simpa [pairs] using h)
    simpa using this
/-- [.. for low, high in zip(ms, ms[1:])] -/
theorem eld_pairs {tz : TA} {i j : Nat} {vs : List Nat} (ms : List Int) (few : ms.length ≤ 50000) (dd : Int × Int → PyData)
    (ha : ∀ H1, Ex H H1 → ∀ Q : List V → Hp → Prop, (∀ a b H2, Ex H1 H2 → SqL K H2 a (ms.map V.int) → SqL K H2 b ((ms.drop 1).map V.int) → Q [.ref a, .ref b] H2) → tz σ H1 Q)
    (hw : ∀ p l, wipe (((wipe σ vs).set i (some p)).set j (some l)) vs = wipe σ vs)
    (he : ∀ p ∈ pairs ms, EvD te (((wipe σ vs).set i (some (.int p.1))).set j (some (.int p.2))) H (dd p)) :
    EvLd (tLc (iZip K tz) (gPair K i j) tYes te vs) σ H ((pairs ms).map dd) := fun H0 e0 Q q => ha H0 e0 _ fun a b H1 e1 sa sb => by
  have e01 := e0.trans e1
  refine ⟨a, b, _, _, rfl, sa, sb, ?_⟩
  have gl := giv_list (pairs ms) (fun _ => true) dd (fun _ => true) (fun i => match (pairs ms)[i]? with | some b => dd b | none => .none) (fun i a e => by simp [e])
  rw [List.filter_eq_self.mpr (fun _ _ => rfl)] at gl
  refine lc_pure (walk_zip (K := K) (a := a) (b := b) (xs := ms.map V.int) (ys := (ms.drop 1).map V.int) (n := (pairs ms).length) (by rw [pairs_len, List.length_map, List.length_map, List.length_drop]; omega)) (by rw [pairs_len]; omega) (fun _ => true) (fun i => match (pairs ms)[i]? with | some b => dd b | none => .none) (fun H' e => ⟨ex_l e sa, ex_l e sb⟩) ?_ ?_
  · rintro k x H2 _ hk e2 ⟨T, u, v, rfl, nT, rfl, hu, hv⟩
    have hpk : (pairs ms)[k]? = some (pairs ms)[k] := List.getElem?_eq_getElem hk
    obtain ⟨g1, g2⟩ := pairs_at hpk
    have hm : (pairs ms)[k] ∈ pairs ms := List.getElem_mem hk
    have hu' : u = .int (pairs ms)[k].1 := by
      have hu : (ms.map V.int)[k]? = some u := hu
      rw [List.getElem?_map, g1] at hu
      exact (Option.some.inj hu).symm
    have hv' : v = .int (pairs ms)[k].2 := by
      have hv : ((ms.drop 1).map V.int)[k]? = some v := hv
      rw [List.getElem?_map, List.getElem?_drop, Nat.add_comm 1 k, g2] at hv
      exact (Option.some.inj hv).symm
    subst hu' hv'
    have eN : Ex H2 (upd H2 T (.tup [.int (pairs ms)[k].1, .int (pairs ms)[k].2])) := Ex.new nT
    refine ⟨eN, _, fun R r => pair_bind (.inl upd_same) R r, hw _ _, et_yes, fun _ => ?_⟩
    simp only [hpk]
    exact (he _ hm).mono ((e01.trans e2).trans eN)
  · intro p ys H2 hp e2 h2 t2
    refine q p ys H2 (fresh_back e1 hp) (e1.trans e2) h2 ?_
    rw [← gl]
    exact t2
end
end Cn

namespace Cn
open PySem PySem.Spec PyProof.Rows L2 Evl
/-! ### the deck -/
/-- all but the deck's two lists stay -/
def Kp (D C : Addr) (H H' : Hp) : Prop := ∀ a o, a ≠ D → a ≠ C → H a = some o → H' a = some o
section
variable {D C : Addr} {H H1 H2 : Hp}
theorem Kp.refl : Kp D C H H := fun _ _ _ _ h => h
theorem Kp.trans (a : Kp D C H H1) (b : Kp D C H1 H2) : Kp D C H H2 := fun p o n1 n2 h => b p o n1 n2 (a p o n1 n2 h)
theorem Kp.ex (e : Ex H H1) : Kp D C H H1 := fun p o _ _ h => e p o h
theorem Kp.setD {o : HO} : Kp D C H (upd H D o) := fun p _ n1 _ h => by rw [upd_ne n1]; exact h
theorem Kp.setC {o : HO} : Kp D C H (upd H C o) := fun p _ _ n2 h => by rw [upd_ne n2]; exact h
theorem Kp.mut {p : Addr} {o : HO} (k : Kp D C H H1) (h : H p = none) : Kp D C H (upd H1 p o) := fun a u n1 n2 e => by
  rw [upd_ne (ne_of_none e h)]
  exact k a u n1 n2 e
theorem Kp.back (k : Kp D C H H1) {p : Addr} (n1 : p ≠ D) (n2 : p ≠ C) (h : H1 p = none) : H p = none := by
  cases e : H p with
  | none => rfl
  | some o => rw [k p o n1 n2 e] at h; cases h
/-- the deck at D, its cells at C, at most m draws so far -/
structure DeckN (D C : Addr) (n : Int) (cs : List Int) (H : Hp) : Prop where
  hD : H D = some (.lst [.ref C, .int n])
  hC : H C = some (.lst (cs.map V.int))
theorem DeckN.ne {n : Int} {cs : List Int} (d : DeckN D C n cs H) : D ≠ C := ne_of d.hD d.hC (by
  intro z
  cases cs with
  | nil => cases z
  | cons x r => cases z)
theorem DeckN.ex {n : Int} {cs : List Int} (e : Ex H H1) (d : DeckN D C n cs H) : DeckN D C n cs H1 := ⟨e _ _ d.hD, e _ _ d.hC⟩
def Deck (D C : Addr) (m : Int) (H : Hp) : Prop := ∃ n cs, DeckN D C n cs H ∧ 0 ≤ n ∧ n ≤ m ∧ cs.length ≤ 63 ∧ ∀ x ∈ cs, 0 ≤ x
theorem Deck.ex {m : Int} (e : Ex H H1) (d : Deck D C m H) : Deck D C m H1 := by
  obtain ⟨n, cs, d, r⟩ := d
  exact ⟨n, cs, d.ex e, r⟩
theorem Deck.mut {m : Int} {p : Addr} {o : HO} (d : Deck D C m H) (n1 : p ≠ D) (n2 : p ≠ C) : Deck D C m (upd H p o) := by
  obtain ⟨n, cs, d, r⟩ := d
  exact ⟨n, cs, ⟨by rw [upd_ne n1.symm]; exact d.hD, by rw [upd_ne n2.symm]; exact d.hC⟩, r⟩
theorem Deck.mono {m m' : Int} (h : m ≤ m') (d : Deck D C m H) : Deck D C m' H := by
  obtain ⟨n, cs, d, a, b, r⟩ := d
  exact ⟨n, cs, d, a, by omega, r⟩
/-- tuples stay -/
theorem Kp.tk {m : Int} (d : Deck D C m H) (k : Kp D C H H1) : Tk H H1 := by
  obtain ⟨n, cs, d, _⟩ := d
  intro a xs h
  have n1 := rd_ne h d.hD
  have n2 := rd_ne h d.hC
  rcases h with h | ⟨z, h⟩
  · exact .inl (k a _ n1 n2 h)
  · exact .inr ⟨z, k a _ n1 n2 h⟩
/-- what is not the deck -/
theorem Kp.free {p : Addr} {m : Int} (d : Deck D C m H) (hp : H p = none) : p ≠ D ∧ p ≠ C := by
  obtain ⟨n, cs, d, _⟩ := d
  exact ⟨fun z => (by rw [z, d.hD] at hp; cases hp), fun z => (by rw [z, d.hC] at hp; cases hp)⟩
end
/-- _law_draw -/
def spDraw : Sp := fun vs H Q _ => ∃ D C m k, vs = [.ref D, .int k] ∧ Deck D C m H ∧ m ≤ 1000000000 ∧ 1 ≤ k ∧ k ≤ 1000000001 ∧ ∀ r H', 0 ≤ r → r < k → Kp D C H H' → Deck D C (m + 1) H' → Q (.int r) H'
/-- _law_deck -/
def spDeck (K : PySem.W.Frag) : Sp := fun vs H Q _ => ∃ (a : Addr) (ns : List Int), vs = [.ref a] ∧ SqL K H a (ns.map V.int) ∧ ns.length ≤ 63 ∧ ∀ D C H', H D = none → H C = none → Ex H H' → Deck D C 0 H' → Q (.ref D) H'
/-! ### evaluation that draws -/
def DrI (D C : Addr) (te : TE) (σ : L2.St) (m m' : Int) (R : Int → Prop) : Prop := ∀ H1, Deck D C m H1 → ∀ Q : VK, (∀ i H2, Kp D C H1 H2 → Deck D C m' H2 → R i → Q (.int i) H2) → te σ H1 Q
def DrA (D C : Addr) (ta : TA) (σ : L2.St) (m m' : Int) (n : Nat) (R : Int → Prop) : Prop := ∀ H1, Deck D C m H1 → ∀ Q : List V → Hp → Prop, (∀ (is : List Int) H2, Kp D C H1 H2 → Deck D C m' H2 → is.length = n → (∀ i ∈ is, R i) → Q (is.map V.int) H2) → ta σ H1 Q
section
variable {D C : Addr} {K : PySem.W.Frag} {σ : L2.St} {m m1 m2 : Int} {R R1 R2 : Int → Prop} {ta tb te : TE} {n : Nat}
theorem dr_pure {i : Int} (h : ∀ H, Ev te σ H (.int i)) (r : R i) : DrI D C te σ m m R := fun H1 d Q q => h H1 H1 (Ex.refl H1) Q fun H2 e2 => q i H2 (Kp.ex e2) (d.ex e2) r
theorem dr_imp (h : DrI D C te σ m m1 R1) (k : ∀ i, R1 i → R i) : DrI D C te σ m m1 R := fun H1 d Q q => h H1 d Q fun i H2 k2 d2 r => q i H2 k2 d2 (k i r)
theorem dr_draw {tk : TE} {E : XK} {k : Int} (h0 : σ[0]? = some (some (.ref D))) (hk : ∀ H, Ev tk σ H (.int k)) (mb : m ≤ 1000000000) (k1 : 1 ≤ k) (k2 : k ≤ 1000000001) (hm : m1 = m + 1 := by omega) : DrI D C (tCall spDraw [] E (tCons (tVar 0) (tCons tk tNil))) σ m m1 (fun r => 0 ≤ r ∧ r < k) := hm ▸ fun H1 d Q q =>
  ⟨.ref D, h0, hk H1 H1 (Ex.refl H1) _ fun H2 e2 => ⟨D, C, m, k, rfl, d.ex e2, mb, k1, k2, fun r H3 r0 r1 kp d3 => q r H3 ((Kp.ex e2).trans kp) d3 ⟨r0, r1⟩⟩⟩
theorem dr_op {f : Int → Int → Int} (ha : DrI D C ta σ m m1 R1) (hb : DrI D C tb σ m1 m2 R2) (k : ∀ i j, R1 i → R2 j → R (f i j)) : DrI D C (tOp (rI0 fun i j => .int (f i j)) ta tb) σ m m2 R := fun H1 d Q q =>
  ha H1 d _ fun i H2 kp2 d2 r1 => hb H2 d2 _ fun j H3 kp3 d3 r2 => ⟨i, j, rfl, rfl, q _ H3 (kp2.trans kp3) d3 (k i j r1 r2)⟩
theorem da_nil : DrA D C tNil σ m m 0 R := fun H1 d Q q => q [] H1 Kp.refl d rfl (fun _ h => nomatch h)
theorem da_cons {tr : TA} (ha : DrI D C ta σ m m1 R) (hr : DrA D C tr σ m1 m2 n R) : DrA D C (tCons ta tr) σ m m2 (n + 1) R := fun H1 d Q q =>
  ha H1 d _ fun i H2 kp2 d2 r1 => hr H2 d2 _ fun is H3 kp3 d3 len rs => q (i :: is) H3 (kp2.trans kp3) d3 (by simp [len]) (fun j hj => by
    rcases List.mem_cons.mp hj with e | e
    · rw [e]; exact r1
    · exact rs j e)
/-- [a, b, ..][drawn] -/
theorem dr_pick {tr : TA} (hr : DrA D C tr σ m m1 n R) (hi : DrI D C te σ m1 m2 (fun r => 0 ≤ r ∧ r < (n : Int))) (few : n ≤ 100000) : DrI D C (tOp (rIxL K) (tLst tr) te) σ m m2 R := fun H1 d Q q =>
  hr H1 d _ fun is H2 kp2 d2 len rs => ⟨sz_of (by rw [List.length_map, len]; exact few), fun p np => by
    have eN := Ex.new (o := .lst (is.map V.int)) np
    have dN := d2.ex eN
    obtain ⟨n1, n2⟩ := Kp.free d2 np
    refine hi _ dN _ fun r H3 kp3 d3 r01 => ?_
    obtain ⟨j, rfl⟩ : ∃ j : Nat, r = j := ⟨r.toNat, by omega⟩
    have jl : j < is.length := by omega
    have at3 : H3 p = some (.lst (is.map V.int)) := kp3 p _ n1 n2 upd_same
    exact ⟨p, _, (j : Int), .int is[j], rfl, rfl, sq_of at3, atI_nat (by rw [List.getElem?_map, List.getElem?_eq_getElem jl]; rfl), q _ H3 ((kp2.trans (Kp.ex eN)).trans kp3) d3 (rs _ (List.getElem_mem jl))⟩⟩
end
/-! ### gardens that are drawn -/
structure GOk (most top : Int) (t c : Int) (bs : List Bed) : Prop where
  t0 : -1000000 ≤ t
  t1 : t ≤ 1000000
  c0 : 1 ≤ c
  c1 : c ≤ 1000000
  asc : Asc (bs.map (·.1))
  p0 : ∀ b ∈ bs, -1000000 ≤ b.1
  p1 : ∀ b ∈ bs, b.1 ≤ 1000000
  l0 : ∀ b ∈ bs, 1 ≤ b.2
  l1 : ∀ b ∈ bs, b.2 ≤ 12 ∨ b.2 ≤ top
  few : (bs.length : Int) ≤ most
/-- the garden at v; its beds are a tuple of no further attributes -/
def GAt (H : Hp) (v : V) (t c : Int) (bs : List Bed) : Prop := ∃ g b xs o, v = .ref g ∧ Rd H g (.tup [.int t, .int c, .ref b]) ∧ H b = some (.frz o (.tup xs)) ∧ o.dict = none ∧ TpAll H xs (bs.map bedD)
theorem GAt.tp {H : Hp} {v : V} {t c : Int} {bs : List Bed} (h : GAt H v t c bs) : Tp H v (gardenD t c bs) := by
  obtain ⟨g, b, xs, o, rfl, hg, hb, _, hx⟩ := h
  exact garden_of hg (.inr ⟨o, hb⟩) hx
theorem GAt.ex {H H' : Hp} {v : V} {t c : Int} {bs : List Bed} (e : Ex H H') (h : GAt H v t c bs) : GAt H' v t c bs := by
  obtain ⟨g, b, xs, o, rfl, hg, hb, hd, hx⟩ := h
  exact ⟨g, b, xs, o, rfl, ex_rd e hg, e _ _ hb, hd, hx.mono (Tk.ex e)⟩
theorem GAt.kp {D C : Addr} {m : Int} {H H' : Hp} {v : V} {t c : Int} {bs : List Bed} (d : Deck D C m H) (k : Kp D C H H') (h : GAt H v t c bs) : GAt H' v t c bs := by
  obtain ⟨g, b, xs, o, rfl, hg, hb, hd, hx⟩ := h
  have tk := Kp.tk d k
  refine ⟨g, b, xs, o, rfl, tk _ _ hg, k b _ ?_ ?_ hb, hd, hx.mono tk⟩
  · obtain ⟨n, cs, d, _⟩ := d
    exact ne_of hb d.hD (by intro z; cases z)
  · obtain ⟨n, cs, d, _⟩ := d
    exact ne_of hb d.hC (by intro z; cases z)
def spGarden : Sp := fun vs H Q _ => ∃ D C m most top, vs = [.ref D, .int most, .int top] ∧ Deck D C m H ∧ m ≤ 900000000 ∧ 1 ≤ most ∧ most ≤ 12 ∧ 1 ≤ top ∧ top ≤ 1000000000 ∧
  ∀ v t c bs H', GOk most top t c bs → GAt H' v t c bs → Kp D C H H' → Deck D C (m + 100) H' → Q v H'
theorem pow6 : (10 : Int) ^ (6 : Int).toNat = 1000000 := by decide
theorem pow9 : (10 : Int) ^ (9 : Int).toNat = 1000000000 := by decide
theorem pow18 : (10 : Int) ^ (18 : Int).toNat = 1000000000000000000 := by decide
end Cn

namespace Cn
open PySem PySem.Spec PyProof.Rows L2 Evl
/-! ### sizes of data -/
theorem smI {i : Int} (h0 : -(10 ^ 39) ≤ i) (h1 : i ≤ 10 ^ 39) : sm (.int i) = true := by
  simp only [sm, decide_eq_true_eq]
  have : (10 : Int) ^ 39 < 10 ^ 40 := by decide
  omega
theorem smAll_of : ∀ {ds : List PyData}, (∀ d ∈ ds, sm d = true) → smAll ds = true
  | [], _ => rfl
  | d :: ds, h => by
    simp only [smAll, Bool.and_eq_true]
    exact ⟨h d (List.mem_cons_self ..), smAll_of fun e he => h e (List.mem_cons_of_mem _ he)⟩
theorem wtAll_le {k : Nat} : ∀ {ds : List PyData}, (∀ d ∈ ds, wt d ≤ k) → wtAll ds ≤ (k + 2) * ds.length
  | [], _ => by simp [wtAll]
  | d :: ds, h => by
    have h1 := h d (List.mem_cons_self ..)
    have h2 := wtAll_le (ds := ds) fun e he => h e (List.mem_cons_of_mem _ he)
    simp only [wtAll, List.length_cons, Nat.mul_add, Nat.mul_one]
    omega
theorem dpAll_le {k : Nat} : ∀ {ds : List PyData}, (∀ d ∈ ds, dp d ≤ k) → dpAll ds ≤ k
  | [], _ => by simp [dpAll]
  | d :: ds, h => by
    have h1 := h d (List.mem_cons_self ..)
    have h2 := dpAll_le (ds := ds) fun e he => h e (List.mem_cons_of_mem _ he)
    simp only [dpAll]
    omega
/-- data that repr shows: small, at most k signs, at most n deep -/
def Sh (d : PyData) (k n : Nat) : Prop := sm d = true ∧ wt d ≤ k ∧ dp d ≤ n
theorem Sh.mono {d : PyData} {k k' n n' : Nat} (h : Sh d k n) (a : k ≤ k') (b : n ≤ n') : Sh d k' n' := ⟨h.1, Nat.le_trans h.2.1 a, Nat.le_trans h.2.2 b⟩
theorem sh_int {i : Int} (h0 : -(10 ^ 39) ≤ i) (h1 : i ≤ 10 ^ 39) : Sh (.int i) 100 0 := ⟨smI h0 h1, Nat.le_refl _, Nat.le_refl _⟩
theorem sh_tup {ds : List PyData} {k n m : Nat} (h : ∀ d ∈ ds, Sh d k n) (hm : (k + 2) * ds.length + 3 ≤ m) : Sh (.tuple ds) m (n + 1) := by
  have h2 := wtAll_le fun d hd => (h d hd).2.1
  have h3 := dpAll_le fun d hd => (h d hd).2.2
  refine ⟨by simp only [sm]; exact smAll_of fun d hd => (h d hd).1, by simp only [wt]; omega, by simp only [dp]; omega⟩
theorem sh_lst {ds : List PyData} {k n m : Nat} (h : ∀ d ∈ ds, Sh d k n) (hm : (k + 2) * ds.length + 3 ≤ m) : Sh (.list ds) m (n + 1) := by
  have h2 := wtAll_le fun d hd => (h d hd).2.1
  have h3 := dpAll_le fun d hd => (h d hd).2.2
  refine ⟨by simp only [sm]; exact smAll_of fun d hd => (h d hd).1, by simp only [wt]; omega, by simp only [dp]; omega⟩
theorem sh_bed {b : Bed} (h0 : -(10 ^ 39) ≤ b.1) (h1 : b.1 ≤ 10 ^ 39) (h2 : -(10 ^ 39) ≤ b.2) (h3 : b.2 ≤ 10 ^ 39) : Sh (bedD b) 207 1 := by
  refine sh_tup (k := 100) (n := 0) (fun d hd => ?_) (by simp)
  simp only [List.mem_cons, List.not_mem_nil, or_false] at hd
  rcases hd with rfl | rfl
  · exact sh_int h0 h1
  · exact sh_int h2 h3
theorem sh_garden {t c : Int} {bs : List Bed} (t0 : -(10 ^ 39) ≤ t) (t1 : t ≤ 10 ^ 39) (c0 : -(10 ^ 39) ≤ c) (c1 : c ≤ 10 ^ 39) (hb : ∀ b ∈ bs, -(10 ^ 39) ≤ b.1 ∧ b.1 ≤ 10 ^ 39 ∧ -(10 ^ 39) ≤ b.2 ∧ b.2 ≤ 10 ^ 39) (few : bs.length ≤ 40) : Sh (gardenD t c bs) 30000 3 := by
  have hbs : Sh (bedsD bs) 8400 2 := by
    refine sh_tup (k := 207) (n := 1) (fun d hd => ?_) (by rw [List.length_map]; omega)
    obtain ⟨b, m, rfl⟩ := List.mem_map.mp hd
    obtain ⟨a1, a2, a3, a4⟩ := hb b m
    exact sh_bed a1 a2 a3 a4
  refine sh_tup (k := 8400) (n := 2) (fun d hd => ?_) (by simp)
  simp only [List.mem_cons, List.not_mem_nil, or_false] at hd
  rcases hd with rfl | rfl | rfl
  · exact (sh_int t0 t1).mono (by omega) (by omega)
  · exact (sh_int c0 c1).mono (by omega) (by omega)
  · exact hbs
theorem sum_le {B : Int} (hB : 0 ≤ B) : ∀ {l : List Int}, (∀ x ∈ l, 0 ≤ x ∧ x ≤ B) → 0 ≤ l.sum ∧ l.sum ≤ B * l.length
  | [], _ => by simp
  | x :: r, h => by
    have h1 := h x (List.mem_cons_self ..)
    have h2 := sum_le hB (l := r) fun y hy => h y (List.mem_cons_of_mem _ hy)
    simp only [List.sum_cons, List.length_cons]
    have : B * ((r.length + 1 : Nat) : Int) = B * r.length + B := by
      rw [show ((r.length + 1 : Nat) : Int) = (r.length : Int) + 1 by omega, Int.mul_add, Int.mul_one]
    omega
section
variable {K : PySem.W.Frag} {w : World} {σ : L2.St} {H H' : Hp} {ta tb te tx : TE} {t u : TT} {x y z v : V} {d e : PyData} {ds es : List PyData}
/-! ### more evaluation -/
/-- a call with one argument that is data -/
theorem ed_call1 {sp : Sp} {E : XK} {d1 : PyData} (h : EvD ta σ H d1) (hs : ∀ v H1, Ex H H1 → Tp H1 v d1 → ∀ Q : VK, (∀ z H2, Ex H1 H2 → Tp H2 z d → Q z H2) → ∀ E : XK, sp [v] H1 Q E) : EvD (tCall sp [] E (tCons ta tNil)) σ H d := fun H1 e Q q =>
  h H1 e _ fun v H2 e2 t2 => hs v H2 (e.trans e2) t2 Q (fun z H3 e3 t3 => q z H3 (e2.trans e3) t3) E
/-- a == b of data -/
theorem ev_eqD (ha : EvD ta σ H d) (hb : EvD tb σ H e) (sd : SeqAt.shaped d = true) (se : SeqAt.shaped e = true) : Ev (tOp (rEqD K) ta tb) σ H (.bl (PyData.eqv d e)) := fun H1 e1 Q q =>
  ha H1 e1 _ fun v H2 e2 t2 => hb H2 (e1.trans e2) _ fun v' H3 e3 t3 => ⟨d, e, (t2.mono (Tk.ex e3)).dp, t3.dp, sd, se, q H3 (e2.trans e3)⟩
/-- the walk over a tuple of beds that comes out of an expression -/
theorem eld_bedsD {tl : TE} {bs : List Bed} {i j : Nat} {vs : List Nat} (f : Bed → Bool) (dd : Bed → PyData) (h : EvD tl σ H (bedsD bs)) (few : bs.length ≤ 50000)
    (hw : ∀ p l, wipe (((wipe σ vs).set i (some p)).set j (some l)) vs = wipe σ vs)
    (ht : ∀ b ∈ bs, EvT t (((wipe σ vs).set i (some (.int b.1))).set j (some (.int b.2))) H (f b)) (he : ∀ b ∈ bs, f b = true → EvD te (((wipe σ vs).set i (some (.int b.1))).set j (some (.int b.2))) H (dd b)) :
    EvLd (tLc (iTup K tl) (gPair K i j) t te vs) σ H ((bs.filter f).map dd) := fun H0 e0 Q q => h H0 e0 _ fun v H1 e1 tv => by
  obtain ⟨a, xs, rfl, ha, hb⟩ := tv.tup_inv
  exact eld_beds (K := K) (tl := tC (.ref a)) f dd ev_c ha hb few hw (fun b m => (ht b m).mono (e0.trans e1)) (fun b m hf => (he b m hf).mono (e0.trans e1)) H1 (Ex.refl H1) Q fun p ys H2 hp e2 h2 t2 => q p ys H2 (fresh_back e1 hp) (e1.trans e2) h2 t2
theorem cutInit (xs : List V) : cutV xs none (some (-1)) = xs.dropLast := by
  have e : HT.sIx xs.length xs.length (some (-1)) = xs.length - 1 := by
    show (if (-1 : Int) < 0 then ((-1 : Int) + (xs.length : Int)).toNat else min (-1 : Int).toNat xs.length) = _
    rw [if_pos (by decide)]
    omega
  unfold cutV
  rw [e, HT.sIx_none, List.dropLast_eq_take]
  simp
theorem TpAll.init {xs : List V} (h : TpAll H xs ds) : TpAll H xs.dropLast ds.dropLast := by
  rw [List.dropLast_eq_take, List.dropLast_eq_take, h.length]
  exact h.take _
/-- t[:-1] -/
theorem ed_init {to1 : TO} {tn : TE} (h : EvD te σ H (.tuple ds)) (hn : Ev tn σ H (.int (-1))) : EvD (tSl (rSlA K) te tNoPart (tPart tn)) σ H (.tuple ds.dropLast) := fun H1 e1 Q q =>
  h H1 e1 _ fun v H2 e2 tv => hn H2 (e1.trans e2) _ fun H3 e3 => by
    obtain ⟨a, xs, rfl, ha, hb⟩ := (tv.mono (Tk.ex e3)).tup_inv
    have ti := hb.init
    refine ⟨-1, rfl, a, xs, rfl, sr ha, fun hw => ?_, fun _ p hp => ?_⟩
    · have e : HT.sIx xs.length xs.length (some (-1)) = xs.length - 1 := by
        show (if (-1 : Int) < 0 then ((-1 : Int) + (xs.length : Int)).toNat else min (-1 : Int).toNat xs.length) = _
        rw [if_pos (by decide)]
        omega
      have l0 : xs.length = 0 := by
        have := hw.2
        rw [e] at this
        omega
      have x0 : xs = [] := List.length_eq_zero_iff.mp l0
      subst x0
      refine q _ H3 (e2.trans e3) (.tup ha ?_)
      exact ti
    · refine q _ _ ((e2.trans e3).trans (Ex.new hp)) (.tup (.inl upd_same) ?_)
      rw [cutInit]
      exact ti.mono (Tk.ex (Ex.new hp))
/-- [.. for k in range(n)], each turn the same -/
theorem eld_range {ta : TA} {j : Nat} {vs : List Nat} {n : Nat} (h : EvA ta σ H [.int n]) (few : n ≤ 50000) (dd : Nat → PyData) (hw : ∀ x, wipe ((wipe σ vs).set j (some x)) vs = wipe σ vs)
    (he : ∀ i : Nat, i < n → EvD te ((wipe σ vs).set j (some (.int (i : Int)))) H (dd i)) : EvLd (tLc (iRng1 ta) (gName j) tYes te vs) σ H ((List.range n).map dd) := fun H0 e0 Q q => h H0 e0 _ fun H1 e1 => by
  refine ⟨(n : Int), rfl, by omega, by omega, ?_⟩
  have eN : ((n : Int)).toNat = n := by omega
  rw [eN]
  refine lc_pure (walk_range (lo := 0) (n := n)) few (fun _ => true) dd (fun _ _ => trivial) ?_ ?_
  · rintro i x H2 _ hi e2 ⟨rfl, rfl⟩
    refine ⟨Ex.refl _, _, fun R r => r, hw _, et_yes, fun _ => ?_⟩
    dsimp only
    rw [show (0 : Int) + (i : Int) = i by omega]
    exact (he i hi).mono ((e0.trans e1).trans e2)
  · intro p xs H2 hp e2 h2 t2
    have : givD n (fun _ => true) dd = (List.range n).map dd := by
      unfold givD
      rw [List.filter_eq_self.mpr (fun _ _ => rfl)]
    rw [this] at t2
    exact q p xs H2 (fresh_back e1 hp) (e1.trans e2) h2 t2
/-- _law_same -/
def spSame (K : PySem.W.Frag) : Sp := fun vs H Q _ => ∃ a b d, vs = [a, b] ∧ Dp K H a d ∧ Dp K H b d ∧ sm d = true ∧ wt d ≤ 1000000 ∧ dp d ≤ 50 ∧ Q (.bl true) H
theorem ev_same {E : XK} (h1 : EvLd ta σ H ds) (h2 : EvLd tb σ H ds) (sh : Sh (.list ds) 1000000 50) : Ev (tCall (spSame K) [] E (tCons ta (tCons tb tNil))) σ H (.bl true) := fun H1 e1 Q q =>
  h1 H1 e1 _ fun p xs H2 hp e2 hx t2 => h2 H2 (e1.trans e2) _ fun p' ys H3 hp' e3 hy t3 => ⟨.ref p, .ref p', .list ds, rfl, .lst (sq_of (e3 p _ hx)) (t2.mono (Tk.ex e3)).dp, .lst (sq_of hy) t3.dp, sh.1, sh.2.1, sh.2.2, q H3 (e2.trans e3)⟩
/-- repr(x) of data in a name -/
theorem ev_repr (h : EvD te σ H d) (sh : Sh d 1000000 50) : Ev (tCB (rRepr K) (tCons te tNil)) σ H (.str d.shown) := fun H1 e1 Q q =>
  h H1 e1 _ fun v H2 e2 t2 => ⟨v, d, rfl, t2.dp, sh.1, sh.2.1, sh.2.2, q H2 e2⟩
end
end Cn

namespace Cn
open PySem PySem.Spec PyProof.Rows L2 Evl
section
variable {X : Cx}
/-- tuple(list): a tuple of no further attributes -/
def rTupF (K : PySem.W.Frag) : List V → Hp → VK → Prop := fun xs H Q => ∃ p ys, xs = [.ref p] ∧ SqL K H p ys ∧ ∀ l o, H l = none → o.dict = none → Q (.ref l) (upd H l (.frz o (.tup ys)))
theorem call_tupleF : CallR X (.type "tuple") (rTupF X.K) := by
  rintro pins s σ H _ us Q I rel ⟨p, ys, rfl, sq, q⟩
  obtain ⟨_, rfl, rp⟩ := vals1 rel
  cases rp
  obtain ⟨its, rv, pl, size⟩ := I.list sq
  have len := rv.length
  refine call_tuple_list pl.isList (fun h' kp => ?_) (by simp only [List.size_toArray]; omega)
  have I1 := I.kept (h' := h') (t' := s.toks) kp
  have here : (h'.push { cls := .type "tuple", data := .seq its.toArray }).get? h'.objs.size = some { cls := .type "tuple", data := .seq its.toArray } := Heap.get?_push_size _ rfl
  exact ⟨.ref h'.objs.size, _, I1.laid (o := .frz { cls := .type "tuple", data := .seq its.toArray } (.tup ys)) (t' := s.toks) (fun b o e => Heap.get?_push_of_some _ e) (Nat.le_refl _) ⟨here, size, its, rv, ⟨_, here, rfl, _, rfl⟩⟩, rfl, q _ _ (I1.hok.fresh (Nat.le_refl _)) rfl⟩
/-- the pairs of a tuple, as the machine has them -/
theorem pairs_vals {pins : List (Addr × Obj)} {σ : L2.St} {H : Hp} {s : Shared} (I : Inv X pins σ H s) : ∀ {ps : List Addr} {kvs : List (Key × V)}, Paired (fun p kv => SqT X.K H p [kV kv.1, kv.2]) ps kvs →
    ∃ (prs : List (Key × Value)) (us : List Value), KV kvs prs ∧ prs.length = ps.length ∧ us.length = ps.length ∧ ∀ (j : Nat) (q : Key × Value) (u : Value), prs[j]? = some q → us[j]? = some u → ∃ b, ps[j]? = some b ∧ IsTup s.heap b #[u, q.2] ∧ keyIs q.1 u = true
  | _, _, .nil => ⟨[], [], .nil, rfl, rfl, fun j q u e => by simp at e⟩
  | _, _, .cons (a := p) (b := kv) h t => by
    obtain ⟨prs, us, r, l1, l2, hp⟩ := pairs_vals I t
    obtain ⟨its, rv, ht, _⟩ := I.tuple h
    obtain ⟨u, y, rfl, ru, ry⟩ := vals2 rv
    refine ⟨(kv.1, y) :: prs, u :: us, .cons ⟨rfl, ry⟩ r, by simp [l1], by simp [l2], fun j q w e1 e2 => ?_⟩
    cases j with
    | zero =>
      simp only [List.getElem?_cons_zero, Option.some.injEq] at e1 e2
      subst e1 e2
      exact ⟨p, rfl, ht, kV_is (P := X.prog) (w := X.w) ru⟩
    | succ j => simpa using hp j q w (by simpa using e1) (by simpa using e2)
/-- dict(tuple of pairs) -/
def rDictT (K : PySem.W.Frag) : List V → Hp → VK → Prop := fun xs H Q => ∃ (a : Addr) (o : Obj) (ps : List Addr) (kvs : List (Key × V)), xs = [.ref a] ∧ H a = some (.frz o (.tup (ps.map V.ref))) ∧ o.dict = none ∧ Paired (fun p kv => SqT K H p [kV kv.1, kv.2]) ps kvs ∧
  ∀ p, H p = none → Q (.ref p) (upd H p (.dK (mergeK [] kvs)))
theorem call_dictT (calm : X.calm = true) : CallR X (.type "dict") (rDictT X.K) := by
  rintro pins s σ H _ us Q I rel ⟨a, o, ps, kvs, rfl, ha, nod, hp, q⟩
  obtain ⟨_, rfl, rp⟩ := vals1 rel
  cases rp
  obtain ⟨at_a, size, its, rv, ob, ho, hc, n, hd⟩ := I.hok a _ ha
  obtain rfl : o = ob := Option.some.inj (at_a.symm.trans ho)
  obtain rfl := refs_at rv
  rw [List.length_map] at size
  obtain ⟨prs, us, r, l1, l2, key⟩ := pairs_vals I hp
  have val : ∀ j (hj : j < ps.length), ∃ k v u, prs[j]? = some (k, v) ∧ us[j]? = some u ∧ IsTup s.heap ps[j] #[u, v] ∧ keyIs k u = true := by
    intro j hj
    have e1 : prs[j]? = some prs[j] := List.getElem?_eq_getElem (by omega)
    have e2 : us[j]? = some us[j] := List.getElem?_eq_getElem (by omega)
    obtain ⟨b, eb, tb, kb⟩ := key j _ _ e1 e2
    rw [List.getElem?_eq_getElem hj] at eb
    cases eb
    exact ⟨_, _, _, e1, e2, tb, kb⟩
  let pv : List (Value × Value) := us.zip (prs.map (·.2))
  have lpv : pv.length = ps.length := by simp [pv, l1, l2]
  have pvAt : ∀ j k v, pv[j]? = some (k, v) → us[j]? = some k ∧ (prs.map (·.2))[j]? = some v := fun j k v e => List.getElem?_zip_eq_some.mp e
  refine PySem.call_dict_pairs (knd := mixKind X.prog X.w) (kvs := prs) (PairArg.tuple a (ps.map Value.ref).toArray (fun j => ps.getD j 0) pv) (I.ok.hd calm) ⟨⟨o, n, ho, hc, nod, hd⟩, by simp [lpv], fun j k v e => ?_⟩ ⟨by omega, fun i key' v e => ?_⟩ (by omega) fun h' tk hd' k => ?_
  · obtain ⟨e1, e2⟩ := pvAt j k v e
    have hj : j < ps.length := by
      have := (List.getElem?_eq_some_iff.mp e1).1
      omega
    obtain ⟨k0, v0, u0, p1, p2, p3, p4⟩ := val j hj
    rw [p2] at e1
    cases e1
    rw [List.getElem?_map, p1] at e2
    cases e2
    have ej : ps.getD j 0 = ps[j] := by simp [List.getD, List.getElem?_eq_getElem hj]
    dsimp only
    rw [ej]
    exact ⟨by simp [hj], .inl p3⟩
  · obtain ⟨e1, e2⟩ := pvAt i key' v e
    have hj : i < ps.length := by
      have := (List.getElem?_eq_some_iff.mp e1).1
      omega
    obtain ⟨k0, v0, u0, p1, p2, p3, p4⟩ := val i hj
    rw [p2] at e1
    cases e1
    rw [List.getElem?_map, p1] at e2
    cases e2
    exact ⟨k0, p1, p4⟩
  · have big : (s.heap.objs.size == sysModules) = false := beq_eq_false_iff_ne.mpr (Nat.ne_of_gt I.big)
    have few : (mergeK [] kvs).length ≤ sizeLine := by
      have h1 := length_mergeK kvs []
      have h2 := r.length
      simp only [List.length_nil, Nat.zero_add] at h1
      omega
    exact ⟨.ref s.heap.objs.size, upd H s.heap.objs.size (.dK (mergeK [] kvs)), I.laid (t' := tk) (fun b u e => k b u (by simp) e) (Nat.le_refl _) ⟨few, big, merged [] prs, KV.merge r .nil, hd'⟩, rfl, q _ (I.hok.fresh (Nat.le_refl _))⟩
end
section
variable {K : PySem.W.Frag} {σ : L2.St} {H : Hp} {te : TE} {ds : List PyData}
/-- tuple(new list) -/
theorem ed_tupleOf (h : EvLd te σ H ds) : EvD (tCB (rTupF K) (tCons te tNil)) σ H (.tuple ds) := fun H1 e Q q =>
  h H1 e _ fun p xs H2 hp e2 h2 t2 => ⟨p, xs, rfl, sq_of h2, fun l o hl _ => q _ _ (e2.trans (Ex.new hl)) (.tup (.inr ⟨o, upd_same⟩) (t2.mono (Tk.ex (Ex.new hl))))⟩
end
end Cn

namespace Cn
open PySem PySem.Spec PyProof.Rows L2 Evl
/-! ### rules that name the written part -/
section
variable {X : Cx} {K : PySem.W.Frag}
theorem ix_tupK (h : X.K = K) : IxR X (rIxT K) := h ▸ ix_tup
theorem ix_listK (h : X.K = K) : IxR X (rIxL K) := h ▸ ix_list
theorem sl_listK (h : X.K = K) : SlR X (rSlL K) := h ▸ sl_list
theorem sl_tupK (h : X.K = K) : SlR X (rSlA K) := h ▸ sl_tupA
theorem op_catK (h : X.K = K) : OpR X (binaryOp .Add) (rCatA K) := h ▸ op_catA
theorem call_dictK (h : X.K = K) (c : X.calm = true) : CallR X (.type "dict") (rDictT K) := h ▸ call_dictT c
theorem call_tupleK (h : X.K = K) : CallR X (.type "tuple") (rTupF K) := h ▸ call_tupleF
def rLen (K : PySem.W.Frag) : List V → Hp → VK → Prop := fun xs H Q => ∃ p ys, xs = [.ref p] ∧ (SqL K H p ys ∨ SqT K H p ys) ∧ Q (.int ys.length) H
theorem call_lenK (h : X.K = K) : CallR X (.builtin "len") (rLen K) := h ▸ call_len_seq
theorem cr_sumK (h : X.K = K) (c : X.calm = true) : CallR X (.builtin "sum") (rSum K) := h ▸ cr_sum c
theorem cr_setK (h : X.K = K) (c : X.calm = true) : CallR X (.type "set") (rSetL K X.w) := h ▸ cr_setL c
theorem op_eqK (h : X.K = K) (u : X.A.units + 64 < cLine) : OpR X (compareOp .Eq) (rEqD K) := h ▸ op_eqD u
theorem op_neK (h : X.K = K) (u : X.A.units + 64 < cLine) : OpR X (compareOp .NotEq) (rNeD K) := h ▸ op_neD u
theorem call_reprK (h : X.K = K) (g : X.A.guards = some []) (u : X.A.units + 64 < cLine) : CallR X (.builtin "repr") (rRepr K) := h ▸ call_repr g u
theorem pi_tupK {tg l : Expr} {tl : TE} (h : X.K = K) (hl : PE X l tl) : PI X tg l (iTup K tl) := h ▸ pi_tup hl
theorem pi_listK {tg l : Expr} {tl : TE} (h : X.K = K) (hl : PE X l tl) : PI X tg l (iList K tl) := h ▸ pi_list hl
end
/-! ### dicts of ints -/
def dictOf (ws : List Bed) : List (Key × V) := ws.map fun b => (Sum.inl b.1, V.int b.2)
theorem valV_dictOf {p w : Int} : ∀ {ws : List Bed}, (ws.map (·.1)).Nodup → (p, w) ∈ ws → valV (dictOf ws) (.inl p) = some (.int w)
  | [], _, h => nomatch h
  | b :: ws, nd, h => by
    have nd' := List.nodup_cons.mp (show (b.1 :: ws.map (·.1)).Nodup from nd)
    rcases List.mem_cons.mp h with e | e
    · subst e
      exact valV_pos (p := (Sum.inl p, V.int w)) rfl
    · have ne : b.1 ≠ p := fun z => nd'.1 (z ▸ List.mem_map_of_mem e)
      show valV ((Sum.inl b.1, V.int b.2) :: dictOf ws) (.inl p) = _
      rw [valV_neg (fun z => ne (Sum.inl.inj z))]
      exact valV_dictOf nd'.2 e
theorem valV_dictOf_none {p : Int} : ∀ {ws : List Bed}, p ∉ ws.map (·.1) → valV (dictOf ws) (.inl p) = none
  | [], _ => rfl
  | b :: ws, h => by
    have h' : p ≠ b.1 ∧ p ∉ ws.map (·.1) := by simpa using h
    show valV ((Sum.inl b.1, V.int b.2) :: dictOf ws) (.inl p) = _
    rw [valV_neg (fun z => h'.1 (Sum.inl.inj z).symm)]
    exact valV_dictOf_none h'.2
theorem putK_new {ws : List Bed} {p w : Int} (h : p ∉ ws.map (·.1)) : putK (dictOf ws) (.inl p) (.int w) = dictOf (ws ++ [(p, w)]) := by
  unfold putK
  rw [valV_any, valV_dictOf_none h, if_neg (by simp)]
  simp [dictOf]
theorem mergeK_new : ∀ {bs ws : List Bed}, ((ws ++ bs).map (·.1)).Nodup → mergeK (dictOf ws) (dictOf bs) = dictOf (ws ++ bs)
  | [], ws, _ => by simp [mergeK, dictOf]
  | b :: bs, ws, nd => by
    have hn : b.1 ∉ ws.map (·.1) := by
      rw [List.map_append, List.nodup_append] at nd
      intro z
      exact nd.2.2 _ z _ (List.mem_cons_self ..) rfl
    show mergeK (putK (dictOf ws) (.inl b.1) (.int b.2)) (dictOf bs) = _
    rw [putK_new hn, mergeK_new (by simpa using nd)]
    simp
section
variable {K : PySem.W.Frag} {σ : L2.St} {H : Hp} {ta tb te td ty tl : TE} {t u : TT} {v : V}
theorem ev_dget {W : Addr} {kvs : List (Key × V)} {p : Int} (hd : Ev td σ H (.ref W)) (hy : Ev ty σ H (.int p)) (h : H W = some (.dK kvs)) (hv : valV kvs (.inl p) = some v) : Ev (tDGet td ty) σ H v := fun H1 e Q q =>
  hd H1 e _ fun H2 e2 => hy H2 (e.trans e2) _ fun H3 e3 => ⟨W, v, rfl, .inl ⟨kvs, .inl p, .inl (((e.trans e2).trans e3) W _ h), rfl, hv.symm⟩, q H3 (e2.trans e3)⟩
theorem ev_min2 {i j : Int} (ha : Ev ta σ H (.int i)) (hb : Ev tb σ H (.int j)) : Ev (tCB (fun xs H Q => ∃ i j, xs = [V.int i, V.int j] ∧ Q (.int (if j < i then j else i)) H) (tCons ta (tCons tb tNil))) σ H (.int (if j < i then j else i)) := fun H1 e Q q =>
  ha H1 e _ fun H2 e2 => hb H2 (e.trans e2) _ fun H3 e3 => ⟨i, j, rfl, q H3 (e2.trans e3)⟩
def rSortDI : List V → Hp → VK → Prop := fun xs H Q => ∃ (a : Addr) (kvs : List (Key × V)) (ks : List Int), xs = [.ref a] ∧ Rd H a (.dK kvs) ∧ kvs.map (·.1) = ks.map Sum.inl ∧ ks.length < 64 ∧ ∀ (ys : List Int) (p : Addr), ys.Perm ks → ys.Pairwise (· ≤ ·) → H p = none → Q (.ref p) (upd H p (.lst (ys.map V.int)))
theorem asc_of {ys ks : List Int} (p : ys.Perm ks) (s : ys.Pairwise (· ≤ ·)) (nd : ks.Nodup) : ys = sortU ks := by
  have nd' : ys.Nodup := p.nodup_iff.mpr nd
  refine sortU_eq (List.Pairwise.imp₂ (fun a b h1 h2 => by omega) s nd') fun k => p.mem_iff
/-- sorted(dict) -/
theorem el_sortD {W : Addr} {ws : List Bed} (hd : Ev td σ H (.ref W)) (h : H W = some (.dK (dictOf ws))) (nd : (ws.map (·.1)).Nodup) (few : ws.length < 64) : EvL (tCB rSortDI (tCons td tNil)) σ H ((sortU (ws.map (·.1))).map V.int) := fun H1 e Q q =>
  hd H1 e _ fun H2 e2 => ⟨W, dictOf ws, ws.map (·.1), rfl, .inl ((e.trans e2) W _ h), by simp [dictOf, Function.comp_def], by simpa using few, fun ys p pm srt hp => q p _ (fresh_back e2 hp) (e2.trans (Ex.new hp)) (by rw [upd_same, asc_of pm srt nd])⟩
/-- [.. for x in new list of ints if ..] -/
theorem eld_ints {j : Nat} {vs : List Nat} (ns : List Int) (h : EvL tl σ H (ns.map V.int)) (few : ns.length ≤ 50000) (f : Int → Bool) (dd : Int → PyData) (hw : ∀ x, wipe ((wipe σ vs).set j (some x)) vs = wipe σ vs)
    (ht : ∀ x ∈ ns, EvT t ((wipe σ vs).set j (some (.int x))) H (f x)) (he : ∀ x ∈ ns, f x = true → EvD te ((wipe σ vs).set j (some (.int x))) H (dd x)) : EvLd (tLc (iList K tl) (gName j) t te vs) σ H ((ns.filter f).map dd) := fun H0 e0 Q q => h H0 e0 _ fun a H1 na e1 ha => by
  have e01 := e0.trans e1
  refine ⟨a, rfl, ⟨_, sq_of ha⟩, ?_⟩
  have gl := giv_list ns f dd (fun i => match ns[i]? with | some b => f b | none => false) (fun i => match ns[i]? with | some b => dd b | none => .none) (fun i a e => by simp [e])
  refine lc_pure (walk_list (K := K) (a := a) (xs := ns.map V.int)) (by rw [List.length_map]; exact few) (fun i => match ns[i]? with | some b => f b | none => false) (fun i => match ns[i]? with | some b => dd b | none => .none) (fun H' e => sq_of (e a _ ha)) ?_ ?_
  · rintro k x H2 _ hk e2 ⟨rfl, hx⟩
    rw [List.length_map] at hk
    have hbk : ns[k]? = some ns[k] := List.getElem?_eq_getElem hk
    rw [List.getElem?_map, hbk] at hx
    cases hx
    have hm : ns[k] ∈ ns := List.getElem_mem hk
    refine ⟨Ex.refl _, _, fun R r => r, hw _, ?_, ?_⟩
    · simp only [hbk]
      exact (ht _ hm).mono (e01.trans e2)
    · simp only [hbk]
      exact fun hf => (he _ hm hf).mono (e01.trans e2)
  · intro p ys H2 hp e2 h2 t2
    rw [List.length_map, gl] at t2
    exact q p ys H2 (fresh_back e1 hp) (e1.trans e2) h2 t2
/-- new list[:1] -/
theorem el_take1 {xs : List V} {tn : TE} (h : EvL te σ H xs) (hn : Ev tn σ H (.int 1)) : EvL (tSl (rSlL K) te tNoPart (tPart tn)) σ H (xs.take 1) := fun H1 e1 Q q =>
  h H1 e1 _ fun p H2 hp e2 h2 => hn H2 (e1.trans e2) _ fun H3 e3 => ⟨1, rfl, p, xs, rfl, sq_of (e3 p _ h2), fun r hr => by
    refine q r _ (fresh_back (e2.trans e3) hr) ((e2.trans e3).trans (Ex.new hr)) ?_
    rw [upd_same]
    unfold cutV
    rw [show HT.sIx xs.length xs.length (some 1) = min 1 xs.length from HT.sIx_nat xs.length xs.length 1, HT.sIx_none, List.drop_zero, Nat.sub_zero]
    congr 2
    cases xs with
    | nil => rfl
    | cons a r => simp⟩
end
/-! ### drawing where some things are known of the heap -/
def DrJ (D C : Addr) (J : Hp → Prop) (te : TE) (σ : L2.St) (m m' : Int) (R : Int → Prop) : Prop := ∀ H1, Deck D C m H1 → J H1 → ∀ Q : VK, (∀ i H2, Kp D C H1 H2 → Deck D C m' H2 → J H2 → R i → Q (.int i) H2) → te σ H1 Q
def St (D C : Addr) (J : Hp → Prop) : Prop := ∀ H H', J H → Kp D C H H' → J H'
def DrK (D C : Addr) (J : Hp → Prop) (ta : TA) (σ : L2.St) (m m' : Int) (n : Nat) (R : Int → Prop) : Prop := ∀ H1, Deck D C m H1 → J H1 → ∀ Q : List V → Hp → Prop, (∀ (is : List Int) H2, Kp D C H1 H2 → Deck D C m' H2 → J H2 → is.length = n → (∀ i ∈ is, R i) → Q (is.map V.int) H2) → ta σ H1 Q
section
variable {D C : Addr} {K : PySem.W.Frag} {J : Hp → Prop} {σ : L2.St} {m m1 m2 : Int} {R R1 R2 : Int → Prop} {ta tb te : TE} {n : Nat}
theorem dj_pure {i : Int} (st : St D C J) (h : ∀ H, J H → Ev te σ H (.int i)) (r : R i) : DrJ D C J te σ m m R := fun H1 d j Q q => h H1 j H1 (Ex.refl H1) Q fun H2 e2 => q i H2 (Kp.ex e2) (d.ex e2) (st _ _ j (Kp.ex e2)) r
theorem dj_imp (h : DrJ D C J te σ m m1 R1) (k : ∀ i, R1 i → R i) : DrJ D C J te σ m m1 R := fun H1 d j Q q => h H1 d j Q fun i H2 k2 d2 j2 r => q i H2 k2 d2 j2 (k i r)
theorem dj_draw {tk : TE} {E : XK} {k : Int} (st : St D C J) (h0 : σ[0]? = some (some (.ref D))) (hk : ∀ H, J H → Ev tk σ H (.int k)) (mb : m ≤ 1000000000) (k1 : 1 ≤ k) (k2 : k ≤ 1000000001) (hm : m1 = m + 1 := by omega) : DrJ D C J (tCall spDraw [] E (tCons (tVar 0) (tCons tk tNil))) σ m m1 (fun r => 0 ≤ r ∧ r < k) := hm ▸ fun H1 d j Q q =>
  ⟨.ref D, h0, hk H1 j H1 (Ex.refl H1) _ fun H2 e2 => ⟨D, C, m, k, rfl, d.ex e2, mb, k1, k2, fun r H3 r0 r1 kp d3 => q r H3 ((Kp.ex e2).trans kp) d3 (st _ _ j ((Kp.ex e2).trans kp)) ⟨r0, r1⟩⟩⟩
theorem dj_op {f : Int → Int → Int} (ha : DrJ D C J ta σ m m1 R1) (hb : DrJ D C J tb σ m1 m2 R2) (k : ∀ i j, R1 i → R2 j → R (f i j)) : DrJ D C J (tOp (rI0 fun i j => .int (f i j)) ta tb) σ m m2 R := fun H1 d j Q q =>
  ha H1 d j _ fun i H2 kp2 d2 j2 r1 => hb H2 d2 j2 _ fun i' H3 kp3 d3 j3 r2 => ⟨i, i', rfl, rfl, q _ H3 (kp2.trans kp3) d3 j3 (k i i' r1 r2)⟩
theorem dk_nil : DrK D C J tNil σ m m 0 R := fun H1 d j Q q => q [] H1 Kp.refl d j rfl (fun _ h => nomatch h)
theorem dk_cons {tr : TA} (ha : DrJ D C J ta σ m m1 R) (hr : DrK D C J tr σ m1 m2 n R) : DrK D C J (tCons ta tr) σ m m2 (n + 1) R := fun H1 d j Q q =>
  ha H1 d j _ fun i H2 kp2 d2 j2 r1 => hr H2 d2 j2 _ fun is H3 kp3 d3 j3 len rs => q (i :: is) H3 (kp2.trans kp3) d3 j3 (by simp [len]) (fun k hk => by
    rcases List.mem_cons.mp hk with e | e
    · rw [e]; exact r1
    · exact rs k e)
theorem dj_pick {tr : TA} (st : St D C J) (hr : DrK D C J tr σ m m1 n R) (hi : DrJ D C J te σ m1 m2 (fun r => 0 ≤ r ∧ r < (n : Int))) (few : n ≤ 100000) : DrJ D C J (tOp (rIxL K) (tLst tr) te) σ m m2 R := fun H1 d j0 Q q =>
  hr H1 d j0 _ fun is H2 kp2 d2 j2 len rs => ⟨sz_of (by rw [List.length_map, len]; exact few), fun p np => by
    have eN := Ex.new (o := .lst (is.map V.int)) np
    obtain ⟨n1, n2⟩ := Kp.free d2 np
    refine hi _ (d2.ex eN) (st _ _ j2 (Kp.ex eN)) _ fun r H3 kp3 d3 j3 r01 => ?_
    obtain ⟨j, rfl⟩ : ∃ j : Nat, r = j := ⟨r.toNat, by omega⟩
    have jl : j < is.length := by omega
    have at3 : H3 p = some (.lst (is.map V.int)) := kp3 p _ n1 n2 upd_same
    exact ⟨p, _, (j : Int), .int is[j], rfl, rfl, sq_of at3, atI_nat (by rw [List.getElem?_map, List.getElem?_eq_getElem jl]; rfl), q _ H3 ((kp2.trans (Kp.ex eN)).trans kp3) d3 j3 (rs _ (List.getElem_mem jl))⟩⟩
end
section
variable {σ : L2.St} {H : Hp} {t u : TT} {Q : Bool → Hp → Prop}
theorem t_and {a : Bool} (h : EvT t σ H a) (hT : a = true → ∀ H1, Ex H H1 → u σ H1 Q) (hF : a = false → ∀ H1, Ex H H1 → Q false H1) : tAnd t u σ H Q := h H (Ex.refl H) _ fun H1 e => by
  cases a with
  | true => exact hT rfl H1 e
  | false => exact hF rfl H1 e
end
/-! ### trips that are drawn -/
structure TripOk (c : Int) (ws rs : List Bed) : Prop where
  asc : Asc (rs.map (·.1))
  row : ∀ r ∈ rs, ∃ w, (r.1, w) ∈ ws ∧ 1 ≤ r.2 ∧ r.2 ≤ w
  sum : (rs.map (·.2)).sum ≤ c
  non : rs = [] → ∀ b ∈ ws, b.2 ≤ 0
  len : rs.length ≤ 40
def spTrip : Sp := fun vs H Q _ => ∃ D C m g t c bs W ws, vs = [.ref D, g, .ref W] ∧ Deck D C m H ∧ m ≤ 800000000 ∧ Tp H g (gardenD t c bs) ∧ 1 ≤ c ∧ c ≤ 1000000 ∧ H W = some (.dK (dictOf ws)) ∧ (ws.map (·.1)).Nodup ∧ ws.length ≤ 40 ∧
  ∀ v rs H', TripOk c ws rs → Tp H' v (bedsD rs) → Kp D C H H' → Deck D C (m + 200) H' → Q v H'
theorem Kp.dict {D C W : Addr} {m : Int} {H : Hp} {kvs : List (Key × V)} (d : Deck D C m H) (h : H W = some (.dK kvs)) : W ≠ D ∧ W ≠ C := by
  obtain ⟨n, cs, d, _⟩ := d
  exact ⟨ne_of h d.hD (by intro z; cases z), ne_of h d.hC (by intro z; cases z)⟩
theorem eqv_nil (ds : List PyData) : PyData.eqv (.list ds) (.list []) = ds.isEmpty := by
  cases ds with
  | nil => simp [PyData.eqv, PyData.eqvAll]
  | cons d r => simp [PyData.eqv, PyData.eqvAll]
end Cn

namespace Cn
open PySem PySem.Spec PyProof.Rows L2 Evl
section
variable {K : PySem.W.Frag} {σ : L2.St} {H : Hp} {ta tb te td ty tl : TE} {t u : TT} {v : V} {d : PyData} {ds es : List PyData}
/-- new list[:k] -/
theorem el_take {xs : List V} {tn : TE} {k : Nat} (h : EvL te σ H xs) (hn : Ev tn σ H (.int k)) : EvL (tSl (rSlL K) te tNoPart (tPart tn)) σ H (xs.take k) := fun H1 e1 Q q =>
  h H1 e1 _ fun p H2 hp e2 h2 => hn H2 (e1.trans e2) _ fun H3 e3 => ⟨k, rfl, p, xs, rfl, sq_of (e3 p _ h2), fun r hr => by
    refine q r _ (fresh_back (e2.trans e3) hr) ((e2.trans e3).trans (Ex.new hr)) ?_
    rw [upd_same]
    unfold cutV
    rw [show HT.sIx xs.length xs.length (some (k : Int)) = min k xs.length from HT.sIx_nat xs.length xs.length k, HT.sIx_none, List.drop_zero, Nat.sub_zero, ← List.take_eq_take_min]⟩
/-- repr of a new list -/
theorem ev_reprL (h : EvLd te σ H ds) (sh : Sh (.list ds) 1000000 50) : Ev (tCB (rRepr K) (tCons te tNil)) σ H (.str (PyData.list ds).shown) := fun H1 e1 Q q =>
  h H1 e1 _ fun p xs H2 hp e2 h2 t2 => ⟨.ref p, .list ds, rfl, .lst (sq_of h2) t2.dp, sh.1, sh.2.1, sh.2.2, q H2 e2⟩
/-- new list == new list -/
theorem ev_eqL (ha : EvLd ta σ H ds) (hb : EvLd tb σ H es) (sd : SeqAt.shaped (.list ds) = true) (se : SeqAt.shaped (.list es) = true) : Ev (tOp (rEqD K) ta tb) σ H (.bl (PyData.eqv (.list ds) (.list es))) := fun H1 e1 Q q =>
  ha H1 e1 _ fun p xs H2 hp e2 h2 t2 => hb H2 (e1.trans e2) _ fun p' ys H3 hp' e3 h3 t3 => ⟨.list ds, .list es, .lst (sq_of (e3 p _ h2)) (t2.mono (Tk.ex e3)).dp, .lst (sq_of h3) t3.dp, sd, se, q H3 (e2.trans e3)⟩
/-- a != b of data -/
theorem ev_neD {e : PyData} (ha : EvD ta σ H d) (hb : EvD tb σ H e) (sd : SeqAt.shaped d = true) (se : SeqAt.shaped e = true) : Ev (tOp (rNeD K) ta tb) σ H (.bl (!PyData.eqv d e)) := fun H1 e1 Q q =>
  ha H1 e1 _ fun v H2 e2 t2 => hb H2 (e1.trans e2) _ fun v' H3 e3 t3 => ⟨d, e, (t2.mono (Tk.ex e3)).dp, t3.dp, sd, se, q H3 (e2.trans e3)⟩
/-- [.. for x in a list by its name, if ..] -/
theorem eld_data {α : Type} {a : Addr} {xs : List V} {j : Nat} {vs : List Nat} (l : List α) (rep : α → PyData) (h : Ev tl σ H (.ref a)) (ha : H a = some (.lst xs)) (hx : TpAll H xs (l.map rep)) (few : l.length ≤ 50000) (f : α → Bool) (dd : α → PyData)
    (hw : ∀ x, wipe ((wipe σ vs).set j (some x)) vs = wipe σ vs) (ht : ∀ y ∈ l, ∀ v, Tp H v (rep y) → EvT t ((wipe σ vs).set j (some v)) H (f y)) (he : ∀ y ∈ l, ∀ v, Tp H v (rep y) → f y = true → EvD te ((wipe σ vs).set j (some v)) H (dd y)) :
    EvLd (tLc (iList K tl) (gName j) t te vs) σ H ((l.filter f).map dd) := fun H0 e0 Q q => h H0 e0 _ fun H1 e1 => by
  have e01 := e0.trans e1
  have lx : xs.length = l.length := by rw [hx.length, List.length_map]
  refine ⟨a, rfl, ⟨_, sq_of (e01 a _ ha)⟩, ?_⟩
  have gl := giv_list l f dd (fun i => match l[i]? with | some b => f b | none => false) (fun i => match l[i]? with | some b => dd b | none => .none) (fun i a e => by simp [e])
  refine lc_pure (walk_list (K := K) (a := a) (xs := xs)) (by omega) (fun i => match l[i]? with | some b => f b | none => false) (fun i => match l[i]? with | some b => dd b | none => .none) (fun H' e => sq_of (e a _ (e01 a _ ha))) ?_ ?_
  · rintro k x H2 _ hk e2 ⟨rfl, hxk⟩
    have hk' : k < l.length := by omega
    have hbk : l[k]? = some l[k] := List.getElem?_eq_getElem hk'
    obtain ⟨v, hv, tv⟩ := hx.get (i := k) (d := rep l[k]) (by rw [List.getElem?_map, hbk]; rfl)
    rw [hxk] at hv
    cases hv
    have hm : l[k] ∈ l := List.getElem_mem hk'
    refine ⟨Ex.refl _, _, fun R r => r, hw _, ?_, ?_⟩
    · simp only [hbk]
      exact (ht _ hm _ tv).mono (e01.trans e2)
    · simp only [hbk]
      exact fun hf => (he _ hm _ tv hf).mono (e01.trans e2)
  · intro p ys H2 hp e2 h2 t2
    refine q p ys H2 (fresh_back e1 hp) (e1.trans e2) h2 ?_
    rw [← gl, ← lx]
    exact t2
/-- a list by its name + a new list, of data -/
theorem eld_catV {p : Addr} {xs : List V} (ha : Ev ta σ H (.ref p)) (hp : H p = some (.lst xs)) (hx : TpAll H xs ds) (hb : EvLd tb σ H es) (hl : ds.length + es.length ≤ 100000) : EvLd (tOp rCat ta tb) σ H (ds ++ es) := fun H1 e Q q =>
  ha H1 e _ fun H2 e2 => hb H2 (e.trans e2) _ fun p' ys H3 hp' e3 h3 t3 => ⟨p, p', xs, ys, rfl, rfl, ((e.trans e2).trans e3) p _ hp, h3, sz_of (by rw [hx.length, t3.length]; exact hl), fun r hr => q r _ _ (fresh_back (e2.trans e3) hr) ((e2.trans e3).trans (Ex.new hr)) upd_same
    (((hx.mono (Tk.ex ((e.trans e2).trans e3))).append t3).mono (Tk.ex (Ex.new hr)))⟩
/-- new list + new list, of data -/
theorem eld_cat (ha : EvLd ta σ H ds) (hb : EvLd tb σ H es) (hl : ds.length + es.length ≤ 100000) : EvLd (tOp rCat ta tb) σ H (ds ++ es) := fun H1 e Q q =>
  ha H1 e _ fun p xs H2 hp e2 h2 t2 => hb H2 (e.trans e2) _ fun p' ys H3 hp' e3 h3 t3 => ⟨p, p', xs, ys, rfl, rfl, e3 p _ h2, h3, sz_of (by rw [t2.length, t3.length]; exact hl), fun r hr => q r _ _ (fresh_back (e2.trans e3) hr) ((e2.trans e3).trans (Ex.new hr)) upd_same
    (((t2.mono (Tk.ex e3)).append t3).mono (Tk.ex (Ex.new hr)))⟩
end
theorem ed_call2 {σ : L2.St} {H : Hp} {ta tb : TE} {sp : Sp} {E : XK} {v1 : V} {d d2 : PyData} (h1 : Ev ta σ H v1) (h2 : EvD tb σ H d2) (hs : ∀ v2 H1, Ex H H1 → Tp H1 v2 d2 → ∀ Q : VK, (∀ z H2, Ex H1 H2 → Tp H2 z d → Q z H2) → ∀ E : XK, sp [v1, v2] H1 Q E) : EvD (tCall sp [] E (tCons ta (tCons tb tNil))) σ H d := fun H1 e Q q =>
  h1 H1 e _ fun H2 e2 => h2 H2 (e.trans e2) _ fun v H3 e3 t3 => hs v H3 ((e.trans e2).trans e3) t3 Q (fun z H4 e4 t4 => q z H4 ((e2.trans e3).trans e4) t4) E
theorem q_asgLd {σ : L2.St} {H : Hp} {te : TE} {ds : List PyData} {D : Ends} {tz : TS} {i : Nat} (h : EvLd te σ H ds) (k : ∀ p xs H1, H p = none → Ex H H1 → H1 p = some (.lst xs) → TpAll H1 xs ds → tz D (σ.set i (some (.ref p))) H1) : tSeq (tAsg te (gName i)) tz D σ H := h H (Ex.refl H) _ k
theorem seq_asg {te : TE} {g : TG} {tz : TS} {D : Ends} {σ : L2.St} {H : Hp} : tSeq (tAsg te g) tz D σ H = te σ H fun x H1 => g x σ H1 (tz D) := rfl
theorem op_eq' {r : R2} {ta tb : TE} {σ : L2.St} {H : Hp} {Q : VK} : tOp r ta tb σ H Q = ta σ H fun x H1 => tb σ H1 fun y H2 => r x y H2 Q := rfl
/-- the pairs of a tuple of beds, for dict() -/
theorem beds_refs {K : PySem.W.Frag} {H : Hp} : ∀ {bs : List Bed} {xs : List V}, TpAll H xs (bs.map bedD) → ∃ ps : List Addr, xs = ps.map V.ref ∧ Paired (fun p kv => SqT K H p [kV kv.1, kv.2]) ps (dictOf bs)
  | [], _, h => by
    cases h
    exact ⟨[], rfl, .nil⟩
  | b :: bs, _, h => by
    cases h with
    | cons h1 h2 =>
      obtain ⟨a, rfl, ha⟩ := bed_inv h1
      obtain ⟨ps, rfl, pr⟩ := beds_refs (K := K) h2
      exact ⟨a :: ps, rfl, .cons (sr ha) pr⟩
/-! ### comprehensions that draw -/
theorem da_list {K : PySem.W.Frag} {D C : Addr} {ta : TA} {te : TE} {σ : L2.St} {H : Hp} {j : Nat} {vs : List Nat} {n : Nat} {Q : VK} (M st : Int) (Pd : PyData → Prop) (h : EvA ta σ H [.int n]) (few : n ≤ 50000) (hs : 0 ≤ st) (dk : Deck D C M H) (hw : ∀ x, wipe ((wipe σ vs).set j (some x)) vs = wipe σ vs)
    (he : ∀ (i : Nat) H', i < n → Kp D C H H' → Deck D C (M + st * i) H' → ∀ Q : VK, (∀ v d H2, Pd d → Tp H2 v d → Kp D C H' H2 → Deck D C (M + st * i + st) H2 → Q v H2) → te ((wipe σ vs).set j (some (.int (i : Int)))) H' Q)
    (q : ∀ p xs ds H', H p = none → Kp D C H H' → Deck D C (M + st * n) H' → H' p = some (.lst xs) → TpAll H' xs ds → ds.length = n → (∀ d ∈ ds, Pd d) → Q (.ref p) H') : tLc (iRng1 ta) (gName j) tYes te vs σ H Q :=
  h H (Ex.refl H) _ fun H1 e1 => ⟨(n : Int), rfl, by omega, by omega, fun N nN => by
    have dk1 := dk.ex e1
    obtain ⟨nD, nC⟩ := Kp.free dk1 nN
    have nH : H N = none := fresh_back e1 nN
    refine lc_range (lo := 0) (n := ((n : Int)).toNat) (fun i H' => Kp D C H H' ∧ Deck D C (M + st * i) H' ∧ ∃ xs ds, H' N = some (.lst xs) ∧ TpAll H' xs ds ∧ ds.length = i ∧ ∀ d ∈ ds, Pd d) ?_ ?_ ?_
    · exact ⟨(Kp.ex e1).mut nH, (dk1.mut nD nC).mono (by simp), [], [], upd_same, .nil, rfl, fun _ h => nomatch h⟩
    · rintro i H2 hi ⟨kp2, dk2, xs, ds, h2, t2, len, ok⟩
      refine ⟨hw _, ?_⟩
      dsimp only [tYes]
      rw [if_pos rfl, show (0 : Int) + (i : Int) = i by omega]
      refine he i H2 (by omega) kp2 dk2 _ fun v d H3 pd tv kp3 dk3 => ?_
      have h3 := kp3 N _ nD nC h2
      refine ⟨xs, h3, sz_lt (by rw [t2.length]; omega), (kp2.trans kp3).mut nH, (dk3.mut nD nC).mono (by rw [show ((i + 1 : Nat) : Int) = (i : Int) + 1 by omega, Int.mul_add]; omega), xs ++ [v], ds ++ [d], upd_same, ?_, by simp [len], fun e he' => ?_⟩
      · exact ((t2.mono (Kp.tk dk2 kp3)).append (.cons tv .nil)).mono (Tk.lst h3)
      · rcases List.mem_append.mp he' with z | z
        · exact ok e z
        · rw [List.mem_singleton.mp z]; exact pd
    · rintro H2 ⟨kp2, dk2, xs, ds, h2, t2, len, ok⟩
      rw [show ((n : Int)).toNat = n by omega] at dk2 len
      exact q N xs ds H2 nH kp2 dk2 h2 t2 len ok⟩
theorem all_trips {P : List Bed → Prop} : ∀ {ds : List PyData}, (∀ d ∈ ds, ∃ rs, d = bedsD rs ∧ P rs) → ∃ trs : List (List Bed), ds = trs.map bedsD ∧ ∀ rs ∈ trs, P rs
  | [], _ => ⟨[], rfl, fun _ h => nomatch h⟩
  | d :: ds, h => by
    obtain ⟨rs, rfl, hp⟩ := h d (List.mem_cons_self ..)
    obtain ⟨trs, rfl, ht⟩ := all_trips (P := P) (ds := ds) fun e he => h e (List.mem_cons_of_mem _ he)
    exact ⟨rs :: trs, rfl, fun x hx => by
      rcases List.mem_cons.mp hx with z | z
      · rw [z]; exact hp
      · exact ht x z⟩
theorem Tk.dict {H : Hp} {W : Addr} {kvs : List (Key × V)} {o : HO} (h : H W = some (.dK kvs)) : Tk H (upd H W o) := fun a zs e => rd_upd e (by
  rcases e with e | ⟨z, e⟩
  · exact ne_of e h (by intro z; cases z)
  · exact ne_of e h (by intro z; cases z))
theorem GAt.dict {H : Hp} {v : V} {t c : Int} {bs : List Bed} {W : Addr} {kvs : List (Key × V)} {o : HO} (h : GAt H v t c bs) (hW : H W = some (.dK kvs)) : GAt (upd H W o) v t c bs := by
  obtain ⟨g, b, xs, ob, rfl, hg, hb, hd, hx⟩ := h
  have tk : Tk H (upd H W o) := Tk.dict hW
  exact ⟨g, b, xs, ob, rfl, tk _ _ hg, by rw [upd_ne (ne_of hb hW (by intro z; cases z))]; exact hb, hd, hx.mono tk⟩
structure TrOk (rs : List Bed) : Prop where
  asc : Asc (rs.map (·.1))
  len : rs.length ≤ 40
  p0 : ∀ r ∈ rs, -1000000 ≤ r.1
  p1 : ∀ r ∈ rs, r.1 ≤ 1000000
  l0 : ∀ r ∈ rs, 1 ≤ r.2
  l1 : ∀ r ∈ rs, r.2 ≤ 10000000000
theorem TrOk.sh {rs : List Bed} (h : TrOk rs) : Sh (bedsD rs) 9000 2 := by
  have big : (10 : Int) ^ 39 = 1000000000000000000000000000000000000000 := by decide
  refine sh_tup (k := 207) (n := 1) (fun d hd => ?_) (by rw [List.length_map]; have := h.len; omega)
  obtain ⟨b, m, rfl⟩ := List.mem_map.mp hd
  have := h.p0 b m
  have := h.p1 b m
  have := h.l0 b m
  have := h.l1 b m
  exact sh_bed (by omega) (by omega) (by omega) (by omega)
theorem eqv_tup0 (rs : List Bed) : PyData.eqv (bedsD rs) (.tuple []) = rs.isEmpty := by
  cases rs with
  | nil => simp [bedsD, PyData.eqv, PyData.eqvAll]
  | cons d r => simp [bedsD, PyData.eqv, PyData.eqvAll]
/-! ### the way of a trip -/
def wstep (t : Int) (a : Int × Int) (r : Bed) : Int × Int := if r.1 < t then (max a.1 (t - r.1), a.2) else (a.1, max a.2 (r.1 - t))
def wayOf (t : Int) (rs : List Bed) : Int := 2 * (rs.foldl (wstep t) (0, 0)).1 + 2 * (rs.foldl (wstep t) (0, 0)).2
theorem wfold_asc {t : Int} : ∀ {rs : List Bed} {a b : Int} {r0 r1 : Bed}, 0 ≤ a → 0 ≤ b → Asc (rs.map (·.1)) → rs.head? = some r0 → rs.getLast? = some r1 → rs.foldl (wstep t) (a, b) = (max a (max 0 (t - r0.1)), max b (max 0 (r1.1 - t)))
  | [], _, _, _, _, _, _, _, h, _ => by simp at h
  | [r], a, b, r0, r1, ha, hb, _, h0, h1 => by
    simp at h0 h1
    subst h0 h1
    simp only [List.foldl_cons, List.foldl_nil, wstep]
    split
    · congr 1 <;> omega
    · congr 1 <;> omega
  | r :: s :: rs, a, b, r0, r1, ha, hb, asc, h0, h1 => by
    simp at h0
    subst h0
    have asc' := List.pairwise_cons.mp (show Asc (r.1 :: (s :: rs).map (·.1)) from asc)
    have hs : r.1 < s.1 := asc'.1 _ (by simp)
    have h1' : (s :: rs).getLast? = some r1 := by rw [List.getLast?_cons_cons] at h1; exact h1
    have hr1 : r.1 < r1.1 := asc'.1 _ (List.mem_map_of_mem (List.mem_of_getLast? h1'))
    rw [List.foldl_cons]
    by_cases c : r.1 < t
    · have e : wstep t (a, b) r = (max a (t - r.1), b) := by simp [wstep, c]
      rw [e, wfold_asc (t := t) (rs := s :: rs) (a := max a (t - r.1)) (b := b) (r0 := s) (by omega) hb asc'.2 rfl h1']
      congr 1 <;> omega
    · have e : wstep t (a, b) r = (a, max b (r.1 - t)) := by simp [wstep, c]
      rw [e, wfold_asc (t := t) (rs := s :: rs) (a := a) (b := max b (r.1 - t)) (r0 := s) ha (by omega) asc'.2 rfl h1']
      congr 1 <;> omega
theorem way_ends {t : Int} {rs : List Bed} {r0 r1 : Bed} (asc : Asc (rs.map (·.1))) (h0 : rs.head? = some r0) (h1 : rs.getLast? = some r1) : wayOf t rs = 2 * (max 0 (t - r0.1) + max 0 (r1.1 - t)) := by
  unfold wayOf
  rw [wfold_asc (Int.le_refl 0) (Int.le_refl 0) asc h0 h1]
  simp only
  omega
end Cn

namespace K03
open PySem PySem.Spec PyProof.Rows L2 Evl Cn
def topS (i : Nat) : Stmt := PySem.Challenge.pw_canpath_k03_ways_of_trips.main.body.getD i (.Pass ⟨0, 0, 0, 0⟩)
abbrev s_way_of_trip : Stmt := topS 1
abbrev N_way_of_trip : List Str := ["garden", "trip", "tap", "left", "right"]
theorem sc_way_of_trip : FnScope N_way_of_trip ["garden", "trip"] (defScope s_way_of_trip) := ⟨rfl, rfl, rfl, by decide +kernel, rfl, by decide +kernel, by decide +kernel⟩

abbrev s_l_deck : Stmt := topS 3
abbrev N_l_deck : List Str := ["_law_script", "_law_cell"]
theorem sc_l_deck : FnScope N_l_deck ["_law_script"] (defScope s_l_deck) := ⟨rfl, rfl, rfl, by decide +kernel, rfl, by decide +kernel, by decide +kernel⟩

abbrev s_l_draw : Stmt := topS 4
abbrev N_l_draw : List Str := ["_law_deck_here", "_law_limit", "_law_cell", "_law_index"]
theorem sc_l_draw : FnScope N_l_draw ["_law_deck_here", "_law_limit"] (defScope s_l_draw) := ⟨rfl, rfl, rfl, by decide +kernel, rfl, by decide +kernel, by decide +kernel⟩

abbrev s_l_same : Stmt := topS 5
abbrev N_l_same : List Str := ["_law_value", "_law_due"]
theorem sc_l_same : FnScope N_l_same ["_law_value", "_law_due"] (defScope s_l_same) := ⟨rfl, rfl, rfl, by decide +kernel, rfl, by decide +kernel, by decide +kernel⟩

abbrev s_l_garden : Stmt := topS 6
abbrev N_l_garden : List Str := ["_law_deck_here", "_law_most", "_law_top", "_law_low", "_law_place", "_law_can", "_law_taps", "_law_count", "_law_span", "_law_bound", "_law_beds", "_law_k", "_law_litres"]
theorem sc_l_garden : FnScope N_l_garden ["_law_deck_here", "_law_most", "_law_top"] (defScope s_l_garden) := ⟨rfl, rfl, rfl, by decide +kernel, rfl, by decide +kernel, by decide +kernel⟩

abbrev s_l_trip : Stmt := topS 7
abbrev N_l_trip : List Str := ["_law_deck_here", "_law_garden_here", "_law_wants", "_law_place", "_law_rows", "_law_left", "_law_some", "_law_litres"]
theorem sc_l_trip : FnScope N_l_trip ["_law_deck_here", "_law_garden_here", "_law_wants"] (defScope s_l_trip) := ⟨rfl, rfl, rfl, by decide +kernel, rfl, by decide +kernel, by decide +kernel⟩

abbrev s_l_way : Stmt := topS 8
abbrev N_l_way : List Str := ["_law_garden_here", "_law_trip_here", "_law_left", "_law_right", "_law_place", "_law_litres"]
theorem sc_l_way : FnScope N_l_way ["_law_garden_here", "_law_trip_here"] (defScope s_l_way) := ⟨rfl, rfl, rfl, by decide +kernel, rfl, by decide +kernel, by decide +kernel⟩

abbrev s_law : Stmt := topS 9
abbrev N_law : List Str := ["_law_script", "_law_deck_here", "_law_turn", "_law_far", "_law_garden_here", "_law_trips", "_law_wide", "_law_tap", "_law_place", "_law_litres", "_law_own", "_law_trip_here", "_law_k", "_law_before", "_law_due", "_law_again"]
theorem sc_law : FnScope N_law ["_law_script"] (defScope s_law) := ⟨rfl, rfl, rfl, by decide +kernel, rfl, by decide +kernel, by decide +kernel⟩

section
variable {P : Program} {w : World} {K : PySem.W.Frag} {mg : Str → Option Value} {base : Heap}
theorem ok_l_deck {f : Addr} {fd : FuncData} (F : Fun K "_law_deck" "_law_deck" s_l_deck f fd) (m_abs : mg "abs" = none) : FnOk P w K mg base CX0 1 f fd ["_law_script"] (spDeck K) := by
  refine F.ok sc_l_deck (fun vs H Q E h => ?_) (fun cdv A outer s H vs Q E hr h => ?_)
  · obtain ⟨a, ns, rfl, _⟩ := h
    rfl
  · obtain ⟨a, ns, rfl, hs, few, q⟩ := h
    refine ⟨_, (pss_one (ps_ret (pe_lst (pa_cons (pe_lc (own := [("_law_cell", 1)]) (g := (gName 1)) rfl sc_l_deck.nd (pi_listK (K := K) rfl (pe_slice (sl_listK (K := K) rfl) (pv 0) po_none (po_some pe_int))) (blkOk_by (N := N_l_deck) (sc := defScope s_l_deck) (by decide +kernel)) (fun _ _ _ _ _ => (pg_name (i := 1) sc_l_deck.nd rfl (.inl rfl))) (fun _ _ _ _ _ => pts_nil) (fun _ _ _ _ _ => (pe_callB call_abs (by rfl) m_abs (by decide +kernel) (pa_cons (pv 1) pa_nil)))) (pa_cons pe_int pa_nil))))), ?_⟩
    have hL := el_sl (K := K) (te := tVar 0) (σ := start N_l_deck [.ref a]) (H := H) (a := a) (ev_var rfl) eo_none (eo_some (te := tC (.int 63)) (i := 63) ev_c) hs
    rw [show ((63 : Int) = ((63 : Nat) : Int)) from rfl, cutTo _ 63 (by rw [List.length_map]; exact few)] at hL
    have hC := el_lcNL (K := K) (t := tYes) (te := tCB (fun xs H Q => ∃ i, xs = [V.int i] ∧ Q (.int (if i < 0 then -i else i)) H) (tCons (tVar 1) tNil)) (j := 1) (vs := [1]) (fun _ => true) (fun i => .int (if ns.getD i 0 < 0 then -ns.getD i 0 else ns.getD i 0)) hL (by rw [List.length_map]; omega) (fun _ => rfl) (fun _ _ _ _ _ => et_yes) (by
      intro i x H1 e1 hx _ H2 e2 Q2 k
      have hi : i < ns.length := by
        have := (List.getElem?_eq_some_iff.mp hx).1
        rw [List.length_map] at this
        exact this
      rw [List.getElem?_map, List.getElem?_eq_getElem hi] at hx
      cases hx
      refine ⟨_, rfl, _, rfl, ?_⟩
      have e : ns.getD i 0 = ns[i] := by simp [List.getD, List.getElem?_eq_getElem hi]
      rw [e] at k
      exact k H2 (Ex.refl H2))
    rw [List.length_map, given_map ns (fun z => .int (if z < 0 then -z else z)) _ (fun i z e => by simp [List.getD, e])] at hC
    dsimp only [tRet, tLst, tCons, tC, tNil]
    refine hC H (Ex.refl H) _ ?_
    refine fun p H1 np e1 h1 => ⟨by show 2 ≤ sizeLine; decide, fun D nD => ?_⟩
    have eN := Ex.new (o := .lst [.ref p, .int 0]) nD
    refine q D p _ (fresh_back e1 nD) np (e1.trans eN) ⟨0, ns.map fun z => if z < 0 then -z else z, ⟨upd_same, ?_⟩, by omega, by omega, by rw [List.length_map]; exact few, ?_⟩
    · rw [List.map_map]
      exact eN p _ h1
    · intro x hx
      obtain ⟨z, _, rfl⟩ := List.mem_map.mp hx
      split <;> omega
theorem ok_l_draw {f : Addr} {fd : FuncData} (F : Fun K "_law_draw" "_law_draw" s_l_draw f fd) (m_len : mg "len" = none) : FnOk P w K mg base CX0 1 f fd ["_law_deck_here", "_law_limit"] spDraw := by
  refine F.ok sc_l_draw (fun vs H Q E h => ?_) (fun cdv A outer s H vs Q E hr h => ?_)
  · obtain ⟨D, C, m, k, rfl, _⟩ := h
    rfl
  · obtain ⟨D, C, m, k, rfl, ⟨n, cs, dk, n0, nm, cl, cpos⟩, mb, k1, k2, q⟩ := h
    refine ⟨_, (pss_cons (ps_asg (pe_op op_add (pe_ix (ix_listK (K := K) rfl) (pv 0) pe_int (fun _ _ => rfl)) pe_int) (pg_sub (pv 0) pe_int set_list))
    (pss_cons (ps_asg (pe_tup (pa_cons pe_int (pa_cons (pe_un un_neg pe_int) pa_nil))) (pg_tup rfl (pgs_cons (pg_name (i := 2) sc_l_draw.nd rfl (.inl rfl)) (pgs_cons (pg_name (i := 3) sc_l_draw.nd rfl (.inl rfl)) pgs_nil))))
    (pss_cut (ps_if (pt_cmpR op_gt (pe_callB (call_lenK (K := K) rfl) (by rfl) m_len PySem.boot_len (pa_cons (pe_ix (ix_listK (K := K) rfl) (pv 0) pe_int (fun _ _ => rfl)) pa_nil)) pe_int (nomark _)) (pss_cons (ps_set (i := 3) sc_l_draw.nd rfl (.inl rfl) (pe_op op_mod (pe_ix (ix_listK (K := K) rfl) (pv 0) pe_int (fun _ _ => rfl)) (pe_callB (call_lenK (K := K) rfl) (by rfl) m_len PySem.boot_len (pa_cons (pe_ix (ix_listK (K := K) rfl) (pv 0) pe_int (fun _ _ => rfl)) pa_nil))))
    (pss_one (ps_set (i := 2) sc_l_draw.nd rfl (.inl rfl) (pe_ix (ix_listK (K := K) rfl) (pe_ix (ix_listK (K := K) rfl) (pv 0) pe_int (fun _ _ => rfl)) (pv 3) (fun _ _ => rfl))))) pss_nil)
    (pss_cons (ps_if (pt_cmpR op_ge (pv 2) (pe_op op_pow pe_int pe_int) (nomark _)) (pss_cons (ps_asg (pe_op op_fdiv (pv 2) (pv 1)) (pg_sub (pe_ix (ix_listK (K := K) rfl) (pv 0) pe_int (fun _ _ => rfl)) (pv 3) set_list))
    (pss_one (ps_ret (pe_op op_mod (pv 2) (pv 1))))) pss_nil)
    (pss_one (ps_ret (pe_op op_mod (pe_op op_fdiv (pe_op op_mod (pe_op op_pow (pe_op op_add (pe_op op_add (pe_op op_mod (pv 2) pe_int) (pe_op op_mul pe_int (pe_ix (ix_listK (K := K) rfl) (pv 0) pe_int (fun _ _ => rfl)))) pe_int) pe_int) pe_int) pe_int) (pv 1)))))))), ?_⟩
    have hDC := dk.ne
    refine q_setL (l := D) (xs := [.ref C, .int n]) (j := 1) (v := .int (n + 1)) dk.hD ?_ (ev_var rfl) ev_c (by simp) ?_
    · exact ev_op (ev_op (ev_var rfl) ev_c (rv_ixL (sq_of dk.hD) rfl)) ev_c rv_I0
    intro H1 e1
    have d1 : DeckN D C (n + 1) cs (upd H1 D (.lst [.ref C, .int (n + 1)])) := ⟨upd_same, by rw [upd_ne hDC.symm]; exact e1 _ _ dk.hC⟩
    have k1' : Kp D C H (upd H1 D (.lst [.ref C, .int (n + 1)])) := (Kp.ex e1).trans Kp.setD
    show tSeq _ _ _ _ (upd H1 D (.lst [.ref C, .int (n + 1)]))
    generalize upd H1 D (.lst [.ref C, .int (n + 1)]) = H2 at d1 k1'
    refine ⟨1, rfl, by decide, fun p np => ⟨p, _, rfl, st_of upd_same, rfl, .int 0, _, rfl, .int (-1), _, rfl, rfl, ?_⟩⟩
    have d2 := d1.ex (Ex.new (o := .tup [.int 0, .int (-1)]) np)
    have k2' := k1'.trans (Kp.ex (Ex.new (o := .tup [.int 0, .int (-1)]) np))
    dsimp only [gName]
    show tCut _ _ _ _ (upd H2 p (.tup [.int 0, .int (-1)]))
    generalize upd H2 p (.tup [.int 0, .int (-1)]) = H3 at d2 k2'
    refine q_cut (M := fun σ' H' => ∃ cell idx, σ' = [some (.ref D), some (.int k), some (.int cell), some (.int idx)] ∧ Kp D C H H' ∧ DeckN D C (n + 1) cs H' ∧ 0 ≤ cell ∧ (cell < 1000000000000000000 ∨ ∃ j : Nat, j < cs.length ∧ idx = (j : Int))) ?_ ?_
    · refine s_when (b := decide ((0 : Int) < (cs.map V.int).length)) ?_ ?_ ?_
      · exact et_test (ev_op (ev_len (ev_op (ev_var rfl) ev_c (rv_ixL (sq_of d2.hD) rfl)) (sq_of d2.hC)) ev_c rv_I0)
      · intro hc H4 e4
        have hc := of_decide_eq_true hc
        rw [List.length_map] at hc
        have d4 := d2.ex e4
        have i0 : 0 ≤ (n + 1) % (cs.length : Int) := Int.emod_nonneg _ (by omega)
        have i1 : (n + 1) % (cs.length : Int) < cs.length := Int.emod_lt_of_pos _ hc
        obtain ⟨j, hj⟩ : ∃ j : Nat, (n + 1) % (cs.length : Int) = j := ⟨((n + 1) % (cs.length : Int)).toNat, by omega⟩
        have jl : j < cs.length := by omega
        refine q_asg (v := .int j) ?_ ?_
        · refine ev_is (ev_op (ev_op (ev_var rfl) ev_c (rv_ixL (sq_of d4.hD) rfl)) (ev_len (ev_op (ev_var rfl) ev_c (rv_ixL (sq_of d4.hD) rfl)) (sq_of d4.hC)) (rv_I (by rw [List.length_map]; exact hc))) ?_
          rw [List.length_map, hj]
        intro H5 e5
        have d5 := d4.ex e5
        refine s_asg (v := .int cs[j]) ?_ ?_
        · exact ev_op (ev_op (ev_var rfl) ev_c (rv_ixL (sq_of d5.hD) rfl)) (ev_var rfl) (rv_ixL (sq_of d5.hC) (atI_nat (by rw [List.getElem?_map, List.getElem?_eq_getElem jl]; rfl)))
        intro H6 e6
        exact ⟨cs[j], j, rfl, k2'.trans (Kp.ex ((e4.trans e5).trans e6)), d5.ex e6, cpos _ (List.getElem_mem jl), .inr ⟨j, jl, rfl⟩⟩
      · intro hc H4 e4
        exact ⟨0, -1, rfl, k2'.trans (Kp.ex e4), d2.ex e4, by omega, .inl (by omega)⟩
    · rintro σ' H' ⟨cell, idx, rfl, kp, d, c0, hx⟩
      refine q_when (b := decide ((1000000000000000000 : Int) ≤ cell)) ?_ ?_ ?_
      · refine et_is (et_ge (ev_var rfl) (ev_op ev_c ev_c (rv_I (by refine ⟨by decide, by decide, by decide⟩)))) ?_
        rw [pow18]
      · intro hc H4 e4
        have hc := of_decide_eq_true hc
        have d4 := d.ex e4
        rcases hx with hx | ⟨j, jl, rfl⟩
        · omega
        refine q_setL (l := C) (xs := cs.map V.int) (j := j) (v := .int (cell / k)) d4.hC ?_ ?_ (ev_var rfl) (by rw [List.length_map]; exact jl) ?_
        · exact ev_op (ev_var rfl) (ev_var rfl) (rv_I ⟨by omega, by omega⟩)
        · exact ev_op (ev_var rfl) ev_c (rv_ixL (sq_of d4.hD) rfl)
        intro H5 e5
        refine s_ret (v := .int (cell % k)) ?_ ?_
        · exact ev_op (ev_var rfl) (ev_var rfl) (rv_I (by omega))
        intro H6 e6
        have d5 := d4.ex e5
        refine q _ _ (Int.emod_nonneg _ (by omega)) (Int.emod_lt_of_pos _ (by omega)) (((kp.trans (Kp.ex (e4.trans e5))).trans Kp.setC).trans (Kp.ex e6)) (Deck.ex e6 ⟨n + 1, cs.set j (cell / k), ⟨?_, ?_⟩, by omega, by omega, by rw [List.length_set]; exact cl, ?_⟩)
        · rw [upd_ne hDC]; exact d5.hD
        · rw [upd_same, List.map_set]
        · intro x hx
          rcases List.mem_or_eq_of_mem_set hx with h | h
          · exact cpos x h
          · rw [h]; exact Int.ediv_nonneg c0 (by omega)
      · intro hc H4 e4
        have d4 := d.ex e4
        have b0 : 0 ≤ cell % 2147483587 := Int.emod_nonneg _ (by decide)
        have b1 : cell % 2147483587 < 2147483587 := Int.emod_lt_of_pos _ (by decide)
        refine s_ret (v := .int (((cell % 2147483587 + 7919 * (n + 1) + 1) ^ (5 : Int).toNat) % 2147483647 / 7 % k)) ?_ ?_
        · refine ev_op (ev_op (ev_op (ev_op (ev_op (ev_op (ev_op (ev_var rfl) ev_c (rv_I ?_)) (ev_op ev_c (ev_op (ev_var rfl) ev_c (rv_ixL (sq_of d4.hD) rfl)) (rv_I ?_)) rv_I0) ev_c rv_I0) ev_c (rv_I ?_)) ev_c (rv_I ?_)) ev_c (rv_I ?_)) (ev_var rfl) (rv_I ?_)
          · decide
          · exact .inl ⟨by decide, by decide⟩
          · refine ⟨by decide, by decide, ?_⟩
            have : (2 : Nat) ^ 64 = 18446744073709551616 := by decide
            omega
          · decide
          · exact ⟨by decide, by decide⟩
          · omega
        intro H5 e5
        exact q _ _ (Int.emod_nonneg _ (by omega)) (Int.emod_lt_of_pos _ (by omega)) (kp.trans (Kp.ex (e4.trans e5))) (Deck.ex e5 ⟨n + 1, cs, d4, by omega, by omega, cl, cpos⟩)
theorem ok_l_same {f : Addr} {fd : FuncData} (F : Fun K "_law_same" "_law_same" s_l_same f fd) (m_repr : mg "repr" = none) : FnG P w K mg base 1 f fd ["_law_value", "_law_due"] (spSame K) := by
  refine okG F sc_l_same (fun vs H Q E h => ?_) (fun cdv A outer s H vs Q E gd hr h => ?_)
  · obtain ⟨a, b, d, rfl, _⟩ := h
    rfl
  · obtain ⟨a, b, d, rfl, ha, hb, h1, h2, h3, q⟩ := h
    refine ⟨_, (pss_one (ps_ret (pe_cmpR op_eq (pe_callB (call_reprK (K := K) rfl gd hr.units) (by rfl) m_repr (by decide +kernel) (pa_cons (pv 0) pa_nil)) (pe_callB (call_reprK (K := K) rfl gd hr.units) (by rfl) m_repr (by decide +kernel) (pa_cons (pv 1) pa_nil)) (nomark _)))), ?_⟩
    refine ⟨a, rfl, a, d, rfl, ha, h1, h2, h3, b, rfl, b, d, rfl, hb, h1, h2, h3, rfl, ?_⟩
    rw [decide_eq_true rfl]
    exact q
theorem ok_l_garden {f f_l_draw : Addr} {fd fd_l_draw : FuncData} (F : Fun K "_law_garden" "_law_garden" s_l_garden f fd) (m_len : mg "len" = none) (m_range : mg "range" = none) (m_set : mg "set" = none) (m_sorted : mg "sorted" = none) (m_tuple : mg "tuple" = none)
    (G_l_draw : FnOk P w K mg base CX0 1 f_l_draw fd_l_draw ["_law_deck_here", "_law_limit"] spDraw) (g_l_draw : mg "_law_draw" = some (.ref f_l_draw)) (F_l_draw : Fun K "_law_draw" "_law_draw" s_l_draw f_l_draw fd_l_draw) (b_l_draw : Binds K fd_l_draw ["_law_deck_here", "_law_limit"] []) :
    FnOk P w K mg base CX0 2 f fd ["_law_deck_here", "_law_most", "_law_top"] spGarden := by
  refine F.ok sc_l_garden (fun vs H Q E h => ?_) (fun cdv A outer s H vs Q E hr h => ?_)
  · obtain ⟨D, C, m, most, top, rfl, _⟩ := h
    rfl
  · obtain ⟨D, C, m, most, top, rfl, dk, mb, mo0, mo1, to0, to1, q⟩ := h
    have p6 : ∀ {σ : L2.St} H, Ev (tOp (rI CPow fun i j => .int (i ^ j.toNat)) (tC (.int 10)) (tC (.int 6))) σ H (.int 1000000) := fun H => ev_is (ev_op ev_c ev_c (rv_I (by refine ⟨by decide, by decide, by decide⟩))) (by rw [pow6])
    refine ⟨_, (pss_cons (ps_asg (pe_tup (pa_cons (pe_ix (ix_listK (K := K) rfl) (pe_lst (pa_cons (pe_call G_l_draw (hr.mono (by decide)) (by rfl) g_l_draw F_l_draw.kp b_l_draw .nil pass0 (pa_cons (pv 0) (pa_cons (pe_op op_add (pv 1) pe_int) pa_nil))) (pa_cons (pv 1) pa_nil))) (pe_call G_l_draw (hr.mono (by decide)) (by rfl) g_l_draw F_l_draw.kp b_l_draw .nil pass0 (pa_cons (pv 0) (pa_cons pe_int pa_nil))) (fun _ _ => rfl)) (pa_cons (pe_ix (ix_listK (K := K) rfl) (pe_lst (pa_cons (pe_op op_add (pv 1) pe_int) (pa_cons pe_int (pa_cons (pe_op op_pow pe_int pe_int) pa_nil)))) (pe_call G_l_draw (hr.mono (by decide)) (by rfl) g_l_draw F_l_draw.kp b_l_draw .nil pass0 (pa_cons (pv 0) (pa_cons pe_int pa_nil))) (fun _ _ => rfl)) pa_nil))) (pg_tup rfl (pgs_cons (pg_name (i := 7) sc_l_garden.nd rfl (.inl rfl)) (pgs_cons (pg_name (i := 8) sc_l_garden.nd rfl (.inr rfl)) pgs_nil))))
    (pss_cons (ps_set (i := 3) sc_l_garden.nd rfl (.inr rfl) (pe_ix (ix_listK (K := K) rfl) (pe_lst (pa_cons (pe_op op_sub pe_int (pe_op op_fdiv (pv 8) pe_int)) (pa_cons (pe_op op_sub (pe_op op_pow pe_int pe_int) (pv 8)) (pa_cons (pe_un un_neg (pe_op op_pow pe_int pe_int)) (pa_cons (pe_op op_sub pe_int (pe_call G_l_draw (hr.mono (by decide)) (by rfl) g_l_draw F_l_draw.kp b_l_draw .nil pass0 (pa_cons (pv 0) (pa_cons (pv 8) pa_nil)))) pa_nil))))) (pe_call G_l_draw (hr.mono (by decide)) (by rfl) g_l_draw F_l_draw.kp b_l_draw .nil pass0 (pa_cons (pv 0) (pa_cons pe_int pa_nil))) (fun _ _ => rfl)))
    (pss_cons (ps_par (i := 9) (j := 10) (by rfl) sc_l_garden.nd rfl rfl (by decide) rfl rfl (pa_cons (pe_ix (ix_listK (K := K) rfl) (pe_lst (pa_cons pe_int (pa_cons pe_int (pa_cons (pv 2) pa_nil)))) (pe_call G_l_draw (hr.mono (by decide)) (by rfl) g_l_draw F_l_draw.kp b_l_draw .nil pass0 (pa_cons (pv 0) (pa_cons pe_int pa_nil))) (fun _ _ => rfl)) (pa_cons (pe_lst pa_nil) pa_nil)) (by rfl))
    (pss_cons (ps_for PassesOwn.never rfl (pi_listK (K := K) rfl (pe_callB (cr_sortedSet rfl) (by rfl) m_sorted (by decide +kernel) (pa_cons (pe_callTy (cr_setK (K := K) rfl rfl) (by rfl) m_set (by decide +kernel) (pa_cons (pe_lc (own := [("_law_k", 11)]) (g := (gName 11)) rfl sc_l_garden.nd (pi_range1 (by rfl) m_range (pa_cons (pv 7) pa_nil)) (blkOk_by (N := N_l_garden) (sc := defScope s_l_garden) (by decide +kernel)) (fun _ _ _ _ _ => (pg_name (i := 11) sc_l_garden.nd rfl (.inl rfl))) (fun _ _ _ _ _ => pts_nil) (fun _ _ _ _ _ => (pe_op op_add (pv 3) (pe_call G_l_draw (hr.mono (by decide)) (by rfl) g_l_draw F_l_draw.kp b_l_draw .nil pass0 (pa_cons (pv 0) (pa_cons (pv 8) pa_nil)))))) pa_nil)) pa_nil))) (pg_name (i := 4) sc_l_garden.nd rfl (.inl rfl))
      (pss_one (ps_expr (pe_bm PySem.F.plainAttrs_list PySem.F.slot_list_append PySem.F.type_list_append mt_append (pv 10) (pa_cons (pe_tup (pa_cons (pv 4) (pa_cons (pe_op op_add pe_int (pe_call G_l_draw (hr.mono (by decide)) (by rfl) g_l_draw F_l_draw.kp b_l_draw .nil pass0 (pa_cons (pv 0) (pa_cons (pv 9) pa_nil)))) pa_nil))) pa_nil)))))
    (pss_cons (ps_set (i := 5) sc_l_garden.nd rfl (.inl rfl) (pe_ix (ix_listK (K := K) rfl) (pe_lst (pa_cons pe_int (pa_cons (pe_op op_add pe_int (pe_call G_l_draw (hr.mono (by decide)) (by rfl) g_l_draw F_l_draw.kp b_l_draw .nil pass0 (pa_cons (pv 0) (pa_cons pe_int pa_nil)))) (pa_cons (pe_op op_add pe_int (pe_call G_l_draw (hr.mono (by decide)) (by rfl) g_l_draw F_l_draw.kp b_l_draw .nil pass0 (pa_cons (pv 0) (pa_cons pe_int pa_nil)))) (pa_cons (pe_op op_add pe_int (pe_call G_l_draw (hr.mono (by decide)) (by rfl) g_l_draw F_l_draw.kp b_l_draw .nil pass0 (pa_cons (pv 0) (pa_cons (pe_op op_pow pe_int pe_int) pa_nil)))) pa_nil))))) (pe_call G_l_draw (hr.mono (by decide)) (by rfl) g_l_draw F_l_draw.kp b_l_draw .nil pass0 (pa_cons (pv 0) (pa_cons pe_int pa_nil))) (fun _ _ => rfl)))
    (pss_cons (ps_set (i := 6) sc_l_garden.nd rfl (.inl rfl) (pe_op op_cat (pe_lst (pa_cons (pe_op op_add (pv 3) (pe_call G_l_draw (hr.mono (by decide)) (by rfl) g_l_draw F_l_draw.kp b_l_draw .nil pass0 (pa_cons (pv 0) (pa_cons (pv 8) pa_nil)))) (pa_cons (pv 3) (pa_cons (pe_op op_add (pv 3) (pv 8)) pa_nil)))) (pe_lc (own := [("_law_place", 4), ("_law_litres", 12)]) (g := (gTup K 2 (gCons (gName 4) (gCons (gName 12) gNil)))) rfl sc_l_garden.nd (pi_listK (K := K) rfl (pv 10)) (blkOk_by (N := N_l_garden) (sc := defScope s_l_garden) (by decide +kernel)) (fun _ _ _ _ _ => (pg_tup rfl (pgs_cons (pg_name (i := 4) sc_l_garden.nd rfl (.inl rfl)) (pgs_cons (pg_name (i := 12) sc_l_garden.nd rfl (.inl rfl)) pgs_nil)))) (fun _ _ _ _ _ => pts_nil) (fun _ _ _ _ _ => (pv 4)))))
    (pss_one (ps_ret (pe_tup (pa_cons (pe_ix (ix_listK (K := K) rfl) (pv 6) (pe_call G_l_draw (hr.mono (by decide)) (by rfl) g_l_draw F_l_draw.kp b_l_draw .nil pass0 (pa_cons (pv 0) (pa_cons (pe_callB (call_lenK (K := K) rfl) (by rfl) m_len PySem.boot_len (pa_cons (pv 6) pa_nil)) pa_nil))) (fun _ _ => rfl)) (pa_cons (pv 5) (pa_cons (pe_callTy (call_tupleK (K := K) rfl) (by rfl) m_tuple (by decide +kernel) (pa_cons (pv 10) pa_nil)) pa_nil)))))))))))), ?_⟩
    -- count, span
    refine dr_pick (D := D) (C := C) (m := m) (m1 := m + 1) (m2 := m + 2) (n := 2) (R := fun i => 0 ≤ i ∧ i ≤ most) ?_ ?_ (by decide) H dk _ ?_
    · exact da_cons (dr_imp (dr_draw rfl (fun H => ev_op (ev_var rfl) ev_c rv_I0) (by omega) (by omega) (by omega)) (fun i h => by omega)) (da_cons (dr_pure (fun H => ev_var rfl) (by omega)) da_nil)
    · exact dr_draw rfl (fun H => ev_c) (by omega) (by omega) (by omega)
    intro count H1 kp1 dk1 hcount
    refine dr_pick (D := D) (C := C) (m := m + 2) (m1 := m + 2) (m2 := m + 3) (n := 3) (R := fun i => 1 ≤ i ∧ i ≤ 1000000) ?_ ?_ (by decide) H1 dk1 _ ?_
    · exact da_cons (dr_pure (fun H => ev_op (ev_var rfl) ev_c rv_I0) (by omega)) (da_cons (dr_pure (fun H => ev_c) (by omega)) (da_cons (dr_pure p6 (by omega)) da_nil))
    · exact dr_draw rfl (fun H => ev_c) (by omega) (by omega) (by omega)
    intro span H2 kp2 dk2 hspan
    refine ⟨by show 2 ≤ sizeLine; decide, fun p np => ⟨p, _, rfl, st_of upd_same, rfl, .int count, _, rfl, .int span, _, rfl, rfl, ?_⟩⟩
    have kp3 : Kp D C H (upd H2 p (.tup [.int count, .int span])) := (kp1.trans kp2).trans (Kp.ex (Ex.new np))
    have dk3 := dk2.ex (Ex.new (o := .tup [.int count, .int span]) np)
    dsimp only [gName]
    show tSeq _ _ _ _ (upd H2 p (.tup [.int count, .int span]))
    generalize upd H2 p (.tup [.int count, .int span]) = H3 at kp3 dk3
    clear kp1 kp2 dk1 dk2 np
    -- low
    refine dr_pick (D := D) (C := C) (m := m + 3) (m1 := m + 4) (m2 := m + 5) (n := 4) (R := fun i => -1000000 ≤ i ∧ i + span ≤ 1000000) ?_ ?_ (by decide) H3 dk3 _ ?_
    · refine da_cons (m1 := m + 3) ?_ (da_cons (m1 := m + 3) ?_ (da_cons (m1 := m + 3) ?_ (da_cons (m1 := m + 4) ?_ da_nil)))
      · exact dr_pure (i := 0 - span / 2) (fun H => ev_op ev_c (ev_op (ev_var rfl) ev_c (rv_I ⟨by decide, by decide⟩)) rv_I0) (by omega)
      · exact dr_pure (i := 1000000 - span) (fun H => ev_op (p6 H) (ev_var rfl) rv_I0) (by omega)
      · exact dr_pure (i := -1000000) (fun H => ev_un (p6 H) ru_neg) (by omega)
      · exact dr_op (f := fun i j => i - j) (dr_pure (m := m + 3) (R := fun i => i = 0) (fun H => ev_c) rfl) (dr_draw rfl (fun H => ev_var rfl) (by omega) (by omega) (by omega)) (fun i j h1 h2 => by omega)
    · exact dr_draw rfl (fun H => ev_c) (by omega) (by omega) (by omega)
    intro low H4 kp4 dk4 hlow
    replace kp4 := kp3.trans kp4
    clear kp3 dk3
    dsimp only [gName]
    -- bound, beds
    refine dr_pick (D := D) (C := C) (m := m + 5) (m1 := m + 5) (m2 := m + 6) (n := 3) (R := fun i => 1 ≤ i ∧ (i ≤ 12 ∨ i ≤ top)) ?_ ?_ (by decide) H4 dk4 _ ?_
    · exact da_cons (dr_pure (fun H => ev_c) (by omega)) (da_cons (dr_pure (fun H => ev_c) (by omega)) (da_cons (dr_pure (fun H => ev_var rfl) (by omega)) da_nil))
    · exact dr_draw rfl (fun H => ev_c) (by omega) (by omega) (by omega)
    intro bound H5 kp5 dk5 hbound
    replace kp5 := kp4.trans kp5
    clear kp4 dk4
    refine ⟨by show 0 ≤ sizeLine; decide, fun L nL => ⟨_, _, rfl, ?_⟩⟩
    obtain ⟨nLD, nLC⟩ := Kp.free dk5 nL
    have eN := Ex.new (o := .lst []) nL
    have kp6 := kp5.trans (Kp.ex eN)
    have dk6 := dk5.ex eN
    have hL6 : upd H5 L (.lst []) L = some (.lst []) := upd_same
    have nLH : H L = none := kp5.back nLD nLC nL
    generalize upd H5 L (.lst []) = H6 at kp6 dk6 hL6
    clear kp5 dk5 eN nL
    -- the places and the beds
    dsimp only
    refine q_forS (K := K) (fun p xs H' => ∃ ms : List Int, xs = ms.map V.int ∧ Asc ms ∧ (ms.length : Int) ≤ count ∧ (∀ x ∈ ms, low ≤ x ∧ x < low + span) ∧ Kp D C H H' ∧ Deck D C (m + 18) H' ∧ H' L = some (.lst []) ∧ H' p = some (.lst xs) ∧ p ≠ D ∧ p ≠ C ∧ p ≠ L) ?_ ?_
      (fun p xs i σ' H' => ∃ (ms : List Int) (y4 : Option V) (bs : List Bed) (zs : List V), xs = ms.map V.int ∧ Asc ms ∧ (ms.length : Int) ≤ count ∧ (∀ x ∈ ms, low ≤ x ∧ x < low + span) ∧ p ≠ D ∧ p ≠ C ∧ p ≠ L ∧
        σ' = [some (.ref D), some (.int most), some (.int top), some (.int low), y4, none, none, some (.int count), some (.int span), some (.int bound), some (.ref L), none, none] ∧ Kp D C H H' ∧ Deck D C (m + 18 + i) H' ∧
        H' p = some (.lst xs) ∧ H' L = some (.lst zs) ∧ TpAll H' zs (bs.map bedD) ∧ bs.map (·.1) = ms.take i ∧ ∀ b ∈ bs, 1 ≤ b.2 ∧ (b.2 ≤ 12 ∨ b.2 ≤ top)) ?_ ?_ ?_ ?_
    · intro Q2 fin
      refine ⟨.int count, rfl, count, rfl, by omega, by omega, fun W nW => ?_⟩
      obtain ⟨nWD, nWC⟩ := Kp.free dk6 nW
      have nWH : H W = none := kp6.back nWD nWC nW
      have nWL : W ≠ L := fun z => by rw [z, hL6] at nW; cases nW
      refine lc_range (lo := 0) (n := count.toNat) (fun i H' => Kp D C H H' ∧ H' L = some (.lst []) ∧ Deck D C (m + 6 + i) H' ∧ ∃ ns : List Int, H' W = some (.lst (ns.map V.int)) ∧ ns.length = i ∧ ∀ x ∈ ns, low ≤ x ∧ x < low + span) ?_ ?_ ?_
      · exact ⟨kp6.mut nWH, by rw [upd_ne nWL.symm]; exact hL6, (dk6.mut nWD nWC).mono (by omega), [], upd_same, rfl, fun _ h => nomatch h⟩
      · rintro i H7 hi ⟨kp7, hL7, dk7, ns, hW7, len, rng⟩
        refine ⟨rfl, ?_⟩
        dsimp only [tYes]
        rw [if_pos rfl]
        refine dr_op (D := D) (C := C) (m := m + 6 + i) (m1 := m + 6 + i) (m2 := m + 6 + i + 1) (f := fun i j => i + j) (R1 := fun z => z = low) (R2 := fun r => 0 ≤ r ∧ r < span) (R := fun z => low ≤ z ∧ z < low + span) ?_ ?_ (fun i j h1 h2 => by omega) H7 dk7 _ ?_
        · exact dr_pure (fun H => ev_var rfl) rfl
        · exact dr_draw rfl (fun H => ev_var rfl) (by omega) (by omega) (by omega)
        intro z H8 kp8 dk8 hz
        have hW8 := kp8 W _ nWD nWC hW7
        refine ⟨_, hW8, by rw [List.length_map, len]; exact sz_lt (by omega), (kp7.trans kp8).mut nWH, by rw [upd_ne nWL.symm]; exact kp8 L _ nLD nLC hL7, (dk8.mut nWD nWC).mono (by omega), ns ++ [z], by rw [upd_same, List.map_append]; rfl, by simp [len], fun x hx => ?_⟩
        rcases List.mem_append.mp hx with h | h
        · exact rng x h
        · rw [List.mem_singleton.mp h]; exact hz
      rintro H7 ⟨kp7, hL7, dk7, ns, hW7, len, rng⟩
      dsimp only [tNil]
      refine sortset ⟨W, ns, rfl, sq_of hW7, by omega, fun ms p2 H8 asc mem np2 ex8 h8 => ?_⟩
      have hms : ms.length ≤ count.toNat := by
        have := len_sortU ns
        rw [← sortU_eq asc mem, len] at this
        exact this
      obtain ⟨n2D, n2C⟩ := Kp.free dk7 np2
      exact fin p2 _ H8 ⟨ms, rfl, asc, by omega, fun x hx => rng x ((mem x).mp hx), kp7.trans (Kp.ex ex8), Deck.mono (by omega) (Deck.ex ex8 dk7), ex8 L _ hL7, h8, n2D, n2C, fun z => by rw [z, hL7] at np2; cases np2⟩
    · rintro p xs H' ⟨ms, rfl, _, _, _, _, _, _, h, _⟩
      exact sq_of h
    · rintro p xs H' ⟨ms, rfl, asc, cnt, rng, kp, dk, hL, h, n1, n2, n3⟩
      exact ⟨ms, none, [], [], rfl, asc, cnt, rng, n1, n2, n3, rfl, kp, dk.mono (by omega), h, hL, .nil, rfl, fun _ h => nomatch h⟩
    · rintro p xs i σ' H' _ ⟨_, _, _, _, _, _, _, _, _, _, _, _, _, _, h, _⟩
      exact sq_of h
    · rintro p2 _ i x σ' H9 hx ⟨ms, y4, bs, xs, rfl, asc, cnt, rng8, n2D, n2C, n2L, rfl, kp9, dk9, h9, hL9, t9, mp, lt⟩
      have hi : i < ms.length := by
        have := (List.getElem?_eq_some_iff.mp hx).1
        rw [List.length_map] at this
        exact this
      rw [List.getElem?_map, List.getElem?_eq_getElem hi] at hx
      cases hx
      have lenb : bs.length = i := by
        have := congrArg List.length mp
        rw [List.length_map, List.length_take] at this
        omega
      refine ⟨.ref L, rfl, .inl ⟨rfl, _, sq_of hL9⟩, .int ms[i], rfl, ?_⟩
      refine dr_op (D := D) (C := C) (m := m + 18 + i) (m1 := m + 18 + i) (m2 := m + 18 + i + 1) (f := fun i j => i + j) (R1 := fun z => z = 1) (R2 := fun r => 0 ≤ r ∧ r < bound) (R := fun z => 1 ≤ z ∧ (z ≤ 12 ∨ z ≤ top)) ?_ ?_ (fun i j h1 h2 => by omega) H9 dk9 _ ?_
      · exact dr_pure (fun H => ev_c) rfl
      · exact dr_draw rfl (fun H => ev_var rfl) (by omega) (by omega) (by omega)
      intro lit H10 kp10 dk10 hlit
      refine ⟨by show 2 ≤ sizeLine; decide, fun T nT => ?_⟩
      obtain ⟨nTD, nTC⟩ := Kp.free dk10 nT
      have eT := Ex.new (o := .tup [.int ms[i], .int lit]) nT
      have hL10 := eT L _ (kp10 L _ nLD nLC hL9)
      refine ⟨L, xs, .ref T, rfl, rfl, hL10, sz_lt (by rw [t9.length, List.length_map]; omega), ?_⟩
      refine ⟨ms, some (.int ms[i]), bs ++ [(ms[i], lit)], xs ++ [.ref T], rfl, asc, cnt, rng8, n2D, n2C, n2L, rfl, ((kp9.trans kp10).trans (Kp.ex eT)).mut nLH, ((dk10.ex eT).mut nLD nLC).mono (by omega), by rw [upd_ne n2L]; exact eT p2 _ (kp10 p2 _ n2D n2C h9), upd_same, ?_, ?_, ?_⟩
      · rw [List.map_append]
        exact (((t9.mono (Kp.tk dk9 kp10)).mono (Tk.ex eT)).append (.cons (bed_of (b := (ms[i], lit)) (.inl upd_same)) .nil)).mono (Tk.lst hL10)
      · rw [List.map_append, mp, List.take_add_one, List.getElem?_eq_getElem hi]
        rfl
      · intro b hb
        rcases List.mem_append.mp hb with h | h
        · exact lt b h
        · rw [List.mem_singleton.mp h]; exact hlit
    rintro p2 _ σ' H9 ⟨ms, y4, bs, xs, rfl, asc, cnt, rng8, n2D, n2C, n2L, rfl, kp9, dk9, h9, hL9, t9, mp, lt⟩
    rw [List.length_map, List.take_length] at mp
    rw [List.length_map] at dk9
    have dk9 : Deck D C (m + 30) H9 := dk9.mono (by omega)
    have lenb : bs.length = ms.length := by rw [← mp, List.length_map]
    clear h9 n2D n2C n2L
    -- can
    refine dr_pick (D := D) (C := C) (m := m + 30) (m1 := m + 33) (m2 := m + 34) (n := 4) (R := fun i => 1 ≤ i ∧ i ≤ 1000000) ?_ ?_ (by decide) H9 dk9 _ ?_
    · refine da_cons (m1 := m + 30) ?_ (da_cons (m1 := m + 31) ?_ (da_cons (m1 := m + 32) ?_ (da_cons (m1 := m + 33) ?_ da_nil)))
      · exact dr_pure (i := 1) (fun H => ev_c) (by omega)
      · exact dr_op (f := fun i j => i + j) (dr_pure (m := m + 30) (R := fun i => i = 1) (fun H => ev_c) rfl) (dr_draw rfl (fun H => ev_c) (by omega) (by omega) (by omega)) (fun i j h1 h2 => by omega)
      · exact dr_op (f := fun i j => i + j) (dr_pure (m := m + 31) (R := fun i => i = 1) (fun H => ev_c) rfl) (dr_draw rfl (fun H => ev_c) (by omega) (by omega) (by omega)) (fun i j h1 h2 => by omega)
      · exact dr_op (f := fun i j => i + j) (dr_pure (m := m + 32) (R := fun i => i = 1) (fun H => ev_c) rfl) (dr_draw rfl p6 (by omega) (by omega) (by omega)) (fun i j h1 h2 => by omega)
    · exact dr_draw rfl (fun H => ev_c) (by omega) (by omega) (by omega)
    intro can H10 kp10 dk10 hcan
    have hL10 := kp10 L _ nLD nLC hL9
    have t10 := t9.mono (Kp.tk dk9 kp10)
    replace kp10 := kp9.trans kp10
    clear kp9 dk9 hL9 t9
    dsimp only [gName]
    -- taps
    rw [show ∀ (a b : TE) (g : TG) (z : TS) (D' : Ends) (σ' : L2.St) (H' : Hp), tSeq (tAsg (tOp rCat a b) g) z D' σ' H' = a σ' H' (fun x H1 => b σ' H1 fun y H2 => rCat x y H2 fun v H3 => g v σ' H3 (z D')) from fun _ _ _ _ _ _ _ => rfl]
    rw [show ∀ (ta : TA) (σ' : L2.St) (H' : Hp) (Q : VK), tLst ta σ' H' Q = ta σ' H' (fun xs H1 => xs.length ≤ sizeLine ∧ ∀ p, H1 p = none → Q (.ref p) (upd H1 p (.lst xs))) from fun _ _ _ _ => rfl]
    refine da_cons (D := D) (C := C) (m := m + 34) (m1 := m + 35) (m2 := m + 35) (n := 2) (R := fun i => -1000000 ≤ i ∧ i ≤ 1000000) ?_ (da_cons (m1 := m + 35) ?_ (da_cons (m1 := m + 35) ?_ da_nil)) H10 dk10 _ ?_
    · exact dr_op (f := fun i j => i + j) (dr_pure (m := m + 34) (R := fun i => i = low) (fun H => ev_var rfl) rfl) (dr_draw rfl (fun H => ev_var rfl) (by omega) (by omega) (by omega)) (fun i j h1 h2 => by omega)
    · exact dr_pure (i := low) (fun H => ev_var rfl) (by omega)
    · exact dr_pure (i := low + span) (fun H => ev_op (ev_var rfl) (ev_var rfl) rv_I0) (by omega)
    intro is H11 kp11 dk11 len3 his
    have hL11 := kp11 L _ nLD nLC hL10
    have t11 := t10.mono (Kp.tk dk10 kp11)
    replace kp11 := kp10.trans kp11
    clear kp10 dk10 hL10 t10
    refine ⟨sz_of (by rw [List.length_map]; omega), fun p3 np3 => ?_⟩
    have e3 := Ex.new (o := .lst (is.map V.int)) np3
    refine el_nums (ns := bs.map (·.1)) (eld_is (eld_bedsL (K := K) (bs := bs) (fun _ => true) (fun b => .int b.1) (ev_var rfl) (e3 L _ hL11) (t11.mono (Tk.ex e3)) (by omega) (fun _ _ => rfl) (fun _ _ => et_yes) (fun b _ _ => ed_int (ev_var rfl))) (by rw [List.filter_eq_self.mpr (fun _ _ => rfl)]; exact (List.map_map ..).symm)) _ (Ex.refl _) _ ?_
    intro p4 H12 np4 e12 h12
    refine ⟨p3, p4, _, _, rfl, rfl, e12 p3 _ upd_same, h12, sz_of (by rw [List.length_map, List.length_map, List.length_map]; omega), fun r nr => ?_⟩
    have eR : Ex H11 (upd H12 r (.lst (is.map V.int ++ (bs.map (·.1)).map V.int))) := (e3.trans e12).trans (Ex.new nr)
    have hr13 : upd H12 r (.lst (is.map V.int ++ (bs.map (·.1)).map V.int)) r = some (.lst ((is ++ bs.map (·.1)).map V.int)) := by rw [upd_same, List.map_append]
    dsimp only [gName]
    generalize upd H12 r (.lst (is.map V.int ++ (bs.map (·.1)).map V.int)) = H13 at eR hr13
    have kp13 := kp11.trans (Kp.ex eR)
    have dk13 := dk11.ex eR
    have hL13 := eR L _ hL11
    have t13 := t11.mono (Tk.ex eR)
    obtain ⟨nrD, nrC⟩ := Kp.free dk11 (show H11 r = none from fresh_back (e3.trans e12) nr)
    clear kp11 dk11 hL11 t11 e3 np3 e12 h12 np4 nr eR
    have lenT : ((is ++ bs.map (·.1)).map V.int).length = 3 + bs.length := by simp; omega
    -- the end
    refine ⟨.ref r, rfl, .ref D, rfl, .ref r, rfl, r, _, rfl, .inl (sq_of hr13), D, C, m + 35, _, rfl, dk13, by omega, by rw [lenT]; omega, by rw [lenT]; omega, fun ix H14 i0 i1 kp14 dk14 => ?_⟩
    obtain ⟨j, rfl⟩ : ∃ j : Nat, ix = j := ⟨ix.toNat, by omega⟩
    have jl : j < (is ++ bs.map (·.1)).length := by
      rw [List.length_map] at i1
      omega
    have hr14 := kp14 r _ nrD nrC hr13
    have hL14 := kp14 L _ nLD nLC hL13
    have t14 := t13.mono (Kp.tk dk13 kp14)
    refine ⟨r, _, (j : Int), .int (is ++ bs.map (·.1))[j], rfl, rfl, sq_of hr14, atI_nat (by rw [List.getElem?_map, List.getElem?_eq_getElem jl]; rfl), .int can, rfl, .ref L, rfl, L, xs, rfl, sq_of hL14, fun B ob nB nod => ⟨by show 3 ≤ sizeLine; decide, fun G nG => ?_⟩⟩
    have eB := Ex.new (o := .frz ob (.tup xs)) nB
    have eG := Ex.new (o := .tup [.int (is ++ bs.map (·.1))[j], .int can, .ref B]) nG
    have mem_ms : ∀ b ∈ bs, low ≤ b.1 ∧ b.1 < low + span := fun b hb => rng8 _ (mp ▸ List.mem_map_of_mem hb)
    refine q _ (is ++ bs.map (·.1))[j] can bs _ ⟨?_, ?_, by omega, by omega, by rw [mp]; exact asc, fun b hb => ?_, fun b hb => ?_, fun b hb => (lt b hb).1, fun b hb => (lt b hb).2, by omega⟩ ⟨G, B, xs, ob, rfl, .inl upd_same, eG B _ upd_same, nod, t14.mono (Tk.ex (eB.trans eG))⟩ ((kp13.trans kp14).trans (Kp.ex (eB.trans eG))) ((dk14.ex (eB.trans eG)).mono (by omega))
    · rcases List.mem_append.mp (List.getElem_mem jl) with h | h
      · have := his _ h; omega
      · obtain ⟨b, hb, e⟩ := List.mem_map.mp h
        have := mem_ms b hb
        omega
    · rcases List.mem_append.mp (List.getElem_mem jl) with h | h
      · have := his _ h; omega
      · obtain ⟨b, hb, e⟩ := List.mem_map.mp h
        have := mem_ms b hb
        omega
    · have := mem_ms b hb; omega
    · have := mem_ms b hb; omega
end
end K03

namespace K03
open PySem PySem.Spec PyProof.Rows L2 Evl Cn
section
variable {P : Program} {w : World} {K : PySem.W.Frag} {mg : Str → Option Value} {base : Heap}
theorem any_look {ws : List Bed} {x w : Int} (nd : (ws.map (·.1)).Nodup) (h : (x, w) ∈ ws) : (ws.any fun b => decide (b.1 = x) && decide (0 < b.2)) = decide (0 < w) := by
  rw [Bool.eq_iff_iff, List.any_eq_true, decide_eq_true_eq]
  constructor
  · rintro ⟨b, m, hb⟩
    simp only [Bool.and_eq_true, decide_eq_true_eq] at hb
    have e1 := valV_dictOf nd h
    have e2 := valV_dictOf nd (show (x, b.2) ∈ ws by rw [← hb.1]; exact m)
    rw [e1] at e2
    have : w = b.2 := V.int.inj (Option.some.inj e2)
    omega
  · exact fun hw => ⟨(x, w), h, by simp [hw]⟩
theorem sum_nonneg : ∀ {l : List Int}, (∀ x ∈ l, 0 ≤ x) → 0 ≤ l.sum
  | [], _ => by simp
  | x :: r, h => by
    have h1 := h x (List.mem_cons_self ..)
    have h2 := sum_nonneg (l := r) fun y hy => h y (List.mem_cons_of_mem _ hy)
    simp only [List.sum_cons]
    omega
theorem lay_beds : ∀ rs : List Bed, PyData.canLayAll0 (rs.map bedD) = true
  | [] => rfl
  | r :: rs => by
    simp only [List.map_cons, PyData.canLayAll0, lay_beds rs, Bool.and_true]
    rfl
theorem deep_beds : ∀ rs : List Bed, PyData.depthAll (rs.map bedD) ≤ 1
  | [] => by simp [PyData.depthAll]
  | r :: rs => by
    have h : PyData.depth (bedD r) = 1 := by simp [bedD, PyData.depth, PyData.depthAll]
    have := deep_beds rs
    simp only [List.map_cons, PyData.depthAll, h]
    omega
theorem shaped_beds (rs : List Bed) : SeqAt.shaped (.list (rs.map bedD)) = true := by
  have := deep_beds rs
  refine Bool.and_eq_true_iff.mpr ⟨by simp only [PyData.canLay0]; exact lay_beds rs, decide_eq_true ?_⟩
  simp only [PyData.depth]
  omega
theorem shaped_bedsT (rs : List Bed) : SeqAt.shaped (bedsD rs) = true := by
  have := deep_beds rs
  refine Bool.and_eq_true_iff.mpr ⟨by simp only [bedsD, PyData.canLay0]; exact lay_beds rs, decide_eq_true ?_⟩
  simp only [bedsD, PyData.depth]
  omega
/-- between two turns of the trip's loop -/
def TripPv (D C L W ga : Addr) (c : Int) (ws : List Bed) (ys : List Int) (H : Hp) (m : Int) (p : Addr) (i : Nat) (σ' : L2.St) (H' : Hp) : Prop :=
  ∃ (rs : List Bed) (zs : List V) (lf : Int) (y3 y6 y7 : Option V), σ' = [some (.ref D), some (.ref ga), some (.ref W), y3, some (.ref L), some (.int lf), y6, y7] ∧ p ≠ D ∧ p ≠ C ∧ p ≠ L ∧ Kp D C H H' ∧ Deck D C (m + 3 * i) H' ∧
    H' p = some (.lst (ys.map V.int)) ∧ H' L = some (.lst zs) ∧ TpAll H' zs (rs.map bedD) ∧ Asc (rs.map (·.1)) ∧ (∀ r ∈ rs, r.1 ∈ ys.take i) ∧ (∀ r ∈ rs, ∃ w, (r.1, w) ∈ ws ∧ 1 ≤ r.2 ∧ r.2 ≤ w) ∧ lf = c - (rs.map (·.2)).sum ∧ 0 ≤ lf ∧ rs.length ≤ i
theorem ok_l_trip {f f_l_draw : Addr} {fd fd_l_draw : FuncData} (F : Fun K "_law_trip" "_law_trip" s_l_trip f fd) (m_min : mg "min" = none) (m_sorted : mg "sorted" = none) (m_tuple : mg "tuple" = none)
    (G_l_draw : FnOk P w K mg base CX0 1 f_l_draw fd_l_draw ["_law_deck_here", "_law_limit"] spDraw) (g_l_draw : mg "_law_draw" = some (.ref f_l_draw)) (F_l_draw : Fun K "_law_draw" "_law_draw" s_l_draw f_l_draw fd_l_draw) (b_l_draw : Binds K fd_l_draw ["_law_deck_here", "_law_limit"] []) :
    FnOk P w K mg base CX0 2 f fd ["_law_deck_here", "_law_garden_here", "_law_wants"] spTrip := by
  refine F.ok sc_l_trip (fun vs H Q E h => ?_) (fun cdv A outer s H vs Q E hr h => ?_)
  · obtain ⟨D, C, m, g, t, c, bs, W, ws, rfl, _⟩ := h
    rfl
  · obtain ⟨D, C, m, g, t, c, bs, W, ws, rfl, dk, mb, tg, c0, c1, hW, nd, few, q⟩ := h
    obtain ⟨ga, b, xs0, rfl, hg, hb, hx⟩ := garden_inv tg
    obtain ⟨nWD, nWC⟩ := Kp.dict dk hW
    have stJ : Cn.St D C (fun H' => H' W = some (.dK (dictOf ws))) := fun H1 H2 h k => k W _ nWD nWC h
    obtain ⟨ys, hys⟩ : ∃ ys : List Int, ys = sortU (ws.map fun b => b.1) := ⟨_, rfl⟩
    have key : ∀ x ∈ ys, ∃ w, (x, w) ∈ ws := fun x hx => by
      obtain ⟨b, m, rfl⟩ := List.mem_map.mp (mem_sortU.mp (hys ▸ hx))
      exact ⟨b.2, m⟩
    have all : ∀ b ∈ ws, b.1 ∈ ys := fun b m => hys ▸ mem_sortU.mpr (List.mem_map_of_mem m)
    have ascY : Asc ys := hys ▸ asc_sortU _
    have ysl : ys.length ≤ 40 := by
      have := len_sortU (ws.map fun b => b.1)
      rw [List.length_map] at this
      rw [hys]
      omega
    have srt : ∀ {σ : L2.St} {td : TE} {H1 : Hp}, Ev td σ H1 (.ref W) → H1 W = some (.dK (dictOf ws)) → EvL (tCB rSortDI (tCons td tNil)) σ H1 (ys.map V.int) := fun h1 h2 => hys ▸ el_sortD h1 h2 nd (by omega)
    refine ⟨_, (pss_cons (ps_asg (pe_tup (pa_cons (pe_lst pa_nil) (pa_cons (pe_ix (ix_tupK (K := K) rfl) (pv 1) pe_int (fun _ _ => rfl)) pa_nil))) (pg_tup rfl (pgs_cons (pg_name (i := 4) sc_l_trip.nd rfl (.inl rfl)) (pgs_cons (pg_name (i := 5) sc_l_trip.nd rfl (.inr rfl)) pgs_nil))))
    (pss_cons (ps_for PassesOwn.never rfl (pi_listK (K := K) rfl (pe_callB (call_sortedDI rfl) (by rfl) m_sorted (by decide +kernel) (pa_cons (pv 2) pa_nil))) (pg_name (i := 3) sc_l_trip.nd rfl (.inl rfl))
      (pss_one (ps_if (PW.pt (pw_and (pt_cmpR op_gt (pe_dget (hu_of hr) (pv 2) (pv 3) (fun _ _ => rfl)) pe_int (nomark _)) (pw_and (pt_cmpR op_gt (pv 5) pe_int (nomark _)) (pw_and1 (pt_cmpR op_eq (pe_call G_l_draw (hr.mono (by decide)) (by rfl) g_l_draw F_l_draw.kp b_l_draw .nil pass0 (pa_cons (pv 0) (pa_cons pe_int pa_nil))) pe_int (nomark _)))))) (pss_cons (ps_set (i := 7) sc_l_trip.nd rfl (.inl rfl) (pe_op op_add pe_int (pe_call G_l_draw (hr.mono (by decide)) (by rfl) g_l_draw F_l_draw.kp b_l_draw .nil pass0 (pa_cons (pv 0) (pa_cons (pe_callB (call_min2 rfl) (by rfl) m_min (by decide +kernel) (pa_cons (pv 5) (pa_cons (pe_dget (hu_of hr) (pv 2) (pv 3) (fun _ _ => rfl)) pa_nil))) pa_nil)))))
    (pss_cons (ps_set (i := 7) sc_l_trip.nd rfl (.inl rfl) (pe_ix (ix_listK (K := K) rfl) (pe_lst (pa_cons (pv 7) (pa_cons (pe_callB (call_min2 rfl) (by rfl) m_min (by decide +kernel) (pa_cons (pv 5) (pa_cons (pe_dget (hu_of hr) (pv 2) (pv 3) (fun _ _ => rfl)) pa_nil))) pa_nil))) (pe_call G_l_draw (hr.mono (by decide)) (by rfl) g_l_draw F_l_draw.kp b_l_draw .nil pass0 (pa_cons (pv 0) (pa_cons pe_int pa_nil))) (fun _ _ => rfl)))
    (pss_cons (ps_expr (pe_bm PySem.F.plainAttrs_list PySem.F.slot_list_append PySem.F.type_list_append mt_append (pv 4) (pa_cons (pe_tup (pa_cons (pv 3) (pa_cons (pv 7) pa_nil))) pa_nil)))
    (pss_one (ps_set (i := 5) sc_l_trip.nd rfl (.inr rfl) (pe_op op_sub (pv 5) (pv 7))))))) pss_nil)))
    (pss_cut (ps_if (pt_cmpR (op_eqK (K := K) rfl hr.units) (pv 4) (pe_lst pa_nil) (nomark _)) (pss_cons (ps_set (i := 6) sc_l_trip.nd rfl (.inl rfl) (pe_slice (sl_listK (K := K) rfl) (pe_lc (own := [("_law_place", 3)]) (g := (gName 3)) rfl sc_l_trip.nd (pi_listK (K := K) rfl (pe_callB (call_sortedDI rfl) (by rfl) m_sorted (by decide +kernel) (pa_cons (pv 2) pa_nil))) (blkOk_by (N := N_l_trip) (sc := defScope s_l_trip) (by decide +kernel)) (fun _ _ _ _ _ => (pg_name (i := 3) sc_l_trip.nd rfl (.inl rfl))) (fun _ _ _ _ _ => pts_one (pt_cmpR op_gt (pe_dget (hu_of hr) (pv 2) (pv 3) (fun _ _ => rfl)) pe_int (nomark _))) (fun _ _ _ _ _ => (pv 3))) po_none (po_some pe_int)))
    (pss_one (ps_setLc (i := 4) rfl sc_l_trip.nd rfl rfl (sw_true rfl rfl rfl (by decide +kernel)) (own := [("_law_place", 3)]) (g := (gName 3)) (pi_listK (K := K) rfl (pv 6)) (blkOk_by (N := N_l_trip) (sc := defScope s_l_trip) (by decide +kernel)) (fun _ _ _ _ _ => (pg_name (i := 3) sc_l_trip.nd rfl (.inl rfl))) (fun _ _ _ _ _ => pts_nil) (fun _ _ _ _ _ => (pe_tup (pa_cons (pv 3) (pa_cons (pe_op op_add pe_int (pe_call G_l_draw (hr.mono (by decide)) (by rfl) g_l_draw F_l_draw.kp b_l_draw .nil pass0 (pa_cons (pv 0) (pa_cons (pe_callB (call_min2 rfl) (by rfl) m_min (by decide +kernel) (pa_cons (pv 5) (pa_cons (pe_dget (hu_of hr) (pv 2) (pv 3) (fun _ _ => rfl)) pa_nil))) pa_nil)))) pa_nil))))))) pss_nil)
    (pss_one (ps_ret (pe_callTy (call_tupleK (K := K) rfl) (by rfl) m_tuple (by decide +kernel) (pa_cons (pv 4) pa_nil))))))), ?_⟩
    refine ⟨by show 0 ≤ sizeLine; decide, fun L nL => ?_⟩
    have eL := Ex.new (o := .lst []) nL
    refine ⟨.ref ga, rfl, ga, _, 1, .int c, rfl, rfl, sr (ex_rd eL hg), rfl, by show 2 ≤ sizeLine; decide, fun p np => ⟨p, _, rfl, st_of upd_same, rfl, .ref L, _, rfl, .int c, _, rfl, rfl, ?_⟩⟩
    have eP := Ex.new (o := .tup [.ref L, .int c]) np
    obtain ⟨nLD, nLC⟩ := Kp.free dk nL
    have e2 := eL.trans eP
    have hL2 := eP L _ upd_same
    dsimp only [gName]
    generalize upd (upd H L (.lst [])) p (.tup [.ref L, .int c]) = H2 at e2 hL2
    clear eL eP np
    have nWL : W ≠ L := ne_of_none hW nL
    refine q_forNL (K := K) (xs := ys.map V.int) (srt (ev_var rfl) (e2 W _ hW)) (TripPv D C L W ga c ws ys H m) ?_ ?_ ?_ ?_
    · intro p1 H3 np1 e3 h3
      have np0 : H p1 = none := fresh_back e2 np1
      obtain ⟨n1, n2⟩ := Kp.free dk np0
      exact ⟨[], [], c, none, none, none, rfl, n1, n2, (fun z => by rw [z, hL2] at np1; cases np1), Kp.ex (e2.trans e3), (dk.ex (e2.trans e3)).mono (by omega), h3, e3 L _ hL2, .nil, .nil, (fun _ h => nomatch h), (fun _ h => nomatch h), by simp, by omega, Nat.le_refl _⟩
    · rintro p1 i σ' H3 _ ⟨_, _, _, _, _, _, rfl, _, _, _, _, _, h, _⟩
      exact sq_of h
    · rintro p1 i x σ' H3 hx3 ⟨rs, zs, lf, y3, y6, y7, rfl, n1, n2, n3, kp3, dk3, h3, hL3, t3, asc3, in3, row3, hlf, lf0, len3⟩
      have hi : i < ys.length := by
        have := (List.getElem?_eq_some_iff.mp hx3).1
        rw [List.length_map] at this
        exact this
      rw [List.getElem?_map, List.getElem?_eq_getElem hi] at hx3
      cases hx3
      obtain ⟨w, hw⟩ := key _ (List.getElem_mem hi)
      have tk1 : ys.take (i + 1) = ys.take i ++ [ys[i]] := by
        rw [List.take_add_one, List.getElem?_eq_getElem hi]
        rfl
      have less : ∀ r ∈ rs, r.1 < ys[i] := by
        intro r hr'
        obtain ⟨j, hj, e⟩ := List.getElem_of_mem (in3 r hr')
        rw [List.getElem_take] at e
        rw [List.length_take] at hj
        rw [← e]
        exact List.pairwise_iff_getElem.mp ascY j i (by omega) hi (by omega)
      generalize ys[i] = pl at hw tk1 less
      have hv := valV_dictOf nd hw
      have hW3 := kp3 W _ nWD nWC hW
      have skip : ∀ H4, Kp D C H3 H4 → Deck D C (m + 3 * i + 1) H4 → TripPv D C L W ga c ws ys H m p1 (i + 1) [some (.ref D), some (.ref ga), some (.ref W), some (.int pl), some (.ref L), some (.int lf), y6, y7] H4 := fun H4 kp4 dk4 =>
        ⟨rs, zs, lf, some (.int pl), y6, y7, rfl, n1, n2, n3, kp3.trans kp4, dk4.mono (by omega), kp4 p1 _ n1 n2 h3, kp4 L _ nLD nLC hL3, t3.mono (Kp.tk dk3 kp4), asc3, fun r hr' => by rw [tk1]; exact List.mem_append_left _ (in3 r hr'), row3, hlf, lf0, by omega⟩
      dsimp only [gName, tIfS]
      subst hlf
      refine t_and (a := decide (0 < w)) ?_ ?_ ?_
      · exact et_test (ev_op (ev_dget (ev_var rfl) (ev_var rfl) hW3 hv) ev_c rv_I0)
      rotate_left
      · exact fun _ H4 e4 => iteF (skip H4 (Kp.ex e4) ((dk3.ex e4).mono (by omega)))
      intro w0 H4 e4
      have w0 := of_decide_eq_true w0
      refine t_and (a := decide (0 < c - (rs.map (·.2)).sum)) ?_ ?_ ?_
      · exact et_test (ev_op (ev_var rfl) ev_c rv_I0)
      rotate_left
      · exact fun _ H5 e5 => iteF (skip H5 (Kp.ex (e4.trans e5)) ((dk3.ex (e4.trans e5)).mono (by omega)))
      intro l0 H5 e5
      have l0 := of_decide_eq_true l0
      refine dr_draw (D := D) (C := C) (m := m + 3 * i) (m1 := m + 3 * i + 1) (k := 2) rfl (fun H => ev_c) (by omega) (by omega) (by omega) (by omega) H5 (dk3.ex (e4.trans e5)) _ ?_
      intro r H6 kp6 dk6 hr6
      have kp36 : Kp D C H3 H6 := (Kp.ex (e4.trans e5)).trans kp6
      refine ⟨rfl, _, rfl, ?_⟩
      cases hd : decide (V.int r = V.int 0) with
      | false => exact iteF (skip H6 kp36 dk6)
      | true =>
        refine iteT ?_
        have hW6 := kp36 W _ nWD nWC hW3
        have kmin : ∀ {σ : L2.St} {ta tb : TE} H, Ev ta σ H (.int (c - (rs.map (·.2)).sum)) → Ev tb σ H (.int w) → Ev (tCB (fun xs H Q => ∃ i j, xs = [V.int i, V.int j] ∧ Q (.int (if j < i then j else i)) H) (tCons ta (tCons tb tNil))) σ H (.int (min (c - (rs.map (·.2)).sum) w)) := fun H h1 h2 => ev_is (ev_min2 h1 h2) (by congr 1; omega)
        have sum0 : 0 ≤ (rs.map (·.2)).sum := sum_nonneg fun x hx => by
          obtain ⟨r0, h0, rfl⟩ := List.mem_map.mp hx
          obtain ⟨_, _, h1, _⟩ := row3 r0 h0
          omega
        refine dj_op (D := D) (C := C) (J := fun H' => H' W = some (.dK (dictOf ws))) (m := m + 3 * i + 1) (m1 := m + 3 * i + 1) (m2 := m + 3 * i + 2) (f := fun i j => i + j) (R1 := fun z => z = 1) (R2 := fun z => 0 ≤ z ∧ z < min (c - (rs.map (·.2)).sum) w) (R := fun z => 1 ≤ z ∧ z ≤ min (c - (rs.map (·.2)).sum) w) ?_ ?_ (fun i j h1 h2 => by omega) H6 dk6 hW6 _ ?_
        · exact dj_pure stJ (fun H _ => ev_c) rfl
        · exact dj_draw stJ rfl (fun H hJ => kmin H (ev_var rfl) (ev_dget (ev_var rfl) (ev_var rfl) hJ hv)) (by omega) (by omega) (by omega)
        intro lit H7 kp7 dk7 hW7 hlit
        dsimp only [gName]
        refine dj_pick (D := D) (C := C) (K := K) (J := fun H' => H' W = some (.dK (dictOf ws))) (m := m + 3 * i + 2) (m1 := m + 3 * i + 2) (m2 := m + 3 * i + 3) (n := 2) (R := fun z => 1 ≤ z ∧ z ≤ min (c - (rs.map (·.2)).sum) w) stJ ?_ ?_ (by decide) H7 dk7 hW7 _ ?_
        · exact dk_cons (dj_pure stJ (fun H _ => ev_var rfl) hlit) (dk_cons (dj_pure stJ (fun H hJ => kmin H (ev_var rfl) (ev_dget (ev_var rfl) (ev_var rfl) hJ hv)) (by omega)) dk_nil)
        · exact dj_draw stJ rfl (fun H _ => ev_c) (by omega) (by omega) (by omega)
        intro lit2 H8 kp8 dk8 hW8 hlit2
        dsimp only [gName]
        have kp38 : Kp D C H3 H8 := (kp36.trans kp7).trans kp8
        have hL8 := kp38 L _ nLD nLC hL3
        refine ⟨.ref L, rfl, .inl ⟨rfl, _, sq_of hL8⟩, .int pl, rfl, .int lit2, rfl, by show 2 ≤ sizeLine; decide, fun T nT => ?_⟩
        have eT := Ex.new (o := .tup [.int pl, .int lit2]) nT
        refine ⟨L, zs, .ref T, rfl, rfl, eT L _ hL8, sz_lt (by rw [t3.length, List.length_map]; omega), ?_⟩
        dsimp only
        refine s_asg (v := .int (c - (rs.map (·.2)).sum - lit2)) ?_ ?_
        · exact ev_op (ev_var rfl) (ev_var rfl) rv_I0
        intro H9 e9
        have kpE : Kp D C H (upd (upd H8 T (.tup [.int pl, .int lit2])) L (.lst (zs ++ [.ref T]))) := ((kp3.trans kp38).trans (Kp.ex eT)).mut nL
        refine ⟨rs ++ [(pl, lit2)], zs ++ [.ref T], c - (rs.map (·.2)).sum - lit2, some (.int pl), y6, some (.int lit2), rfl, n1, n2, n3, kpE.trans (Kp.ex e9), ((((dk8.ex eT).mut nLD nLC).ex e9)).mono (by omega), ?_, e9 L _ upd_same, ?_, ?_, ?_, ?_, ?_, by omega, by simp; omega⟩
        · refine e9 p1 _ ?_
          rw [upd_ne n3]
          exact eT p1 _ (kp38 p1 _ n1 n2 h3)
        · rw [List.map_append]
          exact ((((t3.mono (Kp.tk dk3 kp38)).mono (Tk.ex eT)).append (.cons (bed_of (b := (pl, lit2)) (.inl upd_same)) .nil)).mono (Tk.lst (eT L _ hL8))).mono (Tk.ex e9)
        · rw [List.map_append]
          refine List.pairwise_append.mpr ⟨asc3, by simp, fun a ha b hb => ?_⟩
          obtain ⟨r0, hr0, rfl⟩ := List.mem_map.mp ha
          simp only [List.map_cons, List.map_nil, List.mem_singleton] at hb
          rw [hb]
          exact less r0 hr0
        · intro r0 hr0
          rw [tk1]
          rcases List.mem_append.mp hr0 with h | h
          · exact List.mem_append_left _ (in3 r0 h)
          · rw [List.mem_singleton.mp h]
            exact List.mem_append_right _ (by simp)
        · intro r0 hr0
          rcases List.mem_append.mp hr0 with h | h
          · exact row3 r0 h
          · rw [List.mem_singleton.mp h]
            exact ⟨w, hw, by omega, by omega⟩
        · rw [List.map_append, List.sum_append]
          simp only [List.map_cons, List.map_nil, List.sum_cons, List.sum_nil]
          omega
    · rintro p1 σ' H3 ⟨rs, zs, lf, y3, y6, y7, rfl, n1, n2, n3, kp3, dk3, h3, hL3, t3, asc3, in3, row3, hlf, lf0, len3⟩
      rw [List.length_map] at dk3 len3
      have hW3 := kp3 W _ nWD nWC hW
      refine q_cut (M := fun σ' H' => ∃ (rs : List Bed) (zs : List V) (L' : Addr) (y3 y5 y6 y7 : Option V), σ' = [some (.ref D), some (.ref ga), some (.ref W), y3, some (.ref L'), y5, y6, y7] ∧ Kp D C H H' ∧ Deck D C (m + 150) H' ∧ H' L' = some (.lst zs) ∧ TpAll H' zs (rs.map bedD) ∧ TripOk c ws rs) ?_ ?_
      · dsimp only [tIfS]
        refine ⟨.ref L, rfl, by show 0 ≤ sizeLine; decide, fun p np => ?_⟩
        have e4 := Ex.new (o := .lst []) np
        refine ⟨.list (rs.map bedD), .list [], .lst (sq_of (e4 L _ hL3)) (t3.mono (Tk.ex e4)).dp, .lst (sq_of upd_same) .nil, shaped_beds rs, rfl, _, rfl, ?_⟩
        rw [eqv_nil]
        have kp4 := kp3.trans (Kp.ex e4)
        have dk4 := dk3.ex e4
        have hL4 := e4 L _ hL3
        have t4 := t3.mono (Tk.ex e4)
        have hW4 := e4 W _ hW3
        generalize upd H3 p (.lst []) = H4 at kp4 dk4 hL4 t4 hW4
        cases rs with
        | cons r0 rs0 =>
          refine iteF ?_
          exact ⟨r0 :: rs0, zs, L, y3, _, y6, y7, rfl, kp4, dk4.mono (by omega), hL4, t4, asc3, row3, by omega, (fun h => nomatch h), by omega⟩
        | nil =>
          refine iteT ?_
          simp only [List.map_nil, List.sum_nil, Int.sub_zero] at hlf
          subst hlf
          refine q_asgL (xs := ((ys.filter fun x => ws.any fun b => decide (b.1 = x) && decide (0 < b.2)).take 1).map V.int) ?_ ?_
          · refine el_is (el_take1 (el_nums (ns := ys.filter fun x => ws.any fun b => decide (b.1 = x) && decide (0 < b.2)) (eld_ints ys (srt (ev_var rfl) hW4) (by omega) (fun x => ws.any fun b => decide (b.1 = x) && decide (0 < b.2)) (fun x => .int x) (fun _ => rfl) ?_ (fun x _ _ => ed_int (ev_var rfl)))) ev_c) (List.map_take ..).symm
            intro x hx
            obtain ⟨w, hw⟩ := key x hx
            exact et_is (et_test (ev_op (ev_dget (ev_var rfl) (ev_var rfl) hW4 (valV_dictOf nd hw)) ev_c rv_I0)) (any_look nd hw).symm
          intro p6 H5 np6 e5 h5
          obtain ⟨ns, hns⟩ : ∃ ns : List Int, ns = (ys.filter fun x => ws.any fun b => decide (b.1 = x) && decide (0 < b.2)).take 1 := ⟨_, rfl⟩
          rw [← hns] at h5
          have nsl : ns.length ≤ 1 := by rw [hns, List.length_take]; omega
          have nsw : ∀ x ∈ ns, ∃ w, (x, w) ∈ ws ∧ 0 < w := by
            intro x hx
            have h1 := List.mem_filter.mp (List.mem_of_mem_take (hns ▸ hx))
            obtain ⟨w, hw⟩ := key x h1.1
            refine ⟨w, hw, ?_⟩
            have := h1.2
            rw [any_look nd hw] at this
            exact of_decide_eq_true this
          have nsn : ns = [] → ∀ b ∈ ws, b.2 ≤ 0 := by
            intro h0 b hb
            refine Classical.byContradiction fun hn => ?_
            have hf : b.1 ∈ ys.filter fun x => ws.any fun b => decide (b.1 = x) && decide (0 < b.2) := List.mem_filter.mpr ⟨all b hb, by
              rw [any_look (w := b.2) nd hb]
              exact decide_eq_true (by omega)⟩
            rw [h0] at hns
            cases hq : ys.filter fun x => ws.any fun b => decide (b.1 = x) && decide (0 < b.2) with
            | nil => rw [hq] at hf; cases hf
            | cons a r => rw [hq] at hns; simp at hns
          have kp5 := kp4.trans (Kp.ex e5)
          have dk5 := dk4.ex e5
          have hW5 := e5 W _ hW4
          obtain ⟨n6D, n6C⟩ := Kp.free dk4 np6
          refine ⟨.ref p6, rfl, p6, rfl, ⟨_, sq_of h5⟩, fun N nN => ?_⟩
          obtain ⟨nND, nNC⟩ := Kp.free dk5 nN
          have nNH : H N = none := kp5.back nND nNC nN
          have nN6 : N ≠ p6 := fun z => by rw [z, h5] at nN; cases nN
          have nNW : N ≠ W := fun z => by rw [z, hW5] at nN; cases nN
          refine lc_list (K := K) (a := p6) (xs := ns.map V.int) (fun i H' => Kp D C H H' ∧ Deck D C (m + 121 + i) H' ∧ H' p6 = some (.lst (ns.map V.int)) ∧ ∃ (rs : List Bed) (zs : List V), H' N = some (.lst zs) ∧ TpAll H' zs (rs.map bedD) ∧ rs.map (·.1) = ns.take i ∧ ∀ r ∈ rs, 1 ≤ r.2 ∧ r.2 ≤ lf ∧ ∃ w, (r.1, w) ∈ ws ∧ r.2 ≤ w) ?_ ?_ ?_ ?_
          · refine ⟨kp5.mut nNH, (dk5.mut nND nNC).mono (by omega), by rw [upd_ne nN6.symm]; exact h5, [], [], upd_same, .nil, rfl, fun _ h => nomatch h⟩
          · rintro i H6 _ ⟨_, _, h, _⟩
            exact sq_of h
          · rintro i x H6 hx6 ⟨kp6, dk6, h6, rs, zs, hN6, t6, mp6, row6⟩
            have hi : i < ns.length := by
              have := (List.getElem?_eq_some_iff.mp hx6).1
              rw [List.length_map] at this
              exact this
            rw [List.getElem?_map, List.getElem?_eq_getElem hi] at hx6
            cases hx6
            obtain ⟨w, hw, w0⟩ := nsw _ (List.getElem_mem hi)
            have tk1 : ns.take (i + 1) = ns.take i ++ [ns[i]] := by
              rw [List.take_add_one, List.getElem?_eq_getElem hi]
              rfl
            have lrs : rs.length = i := by
              have := congrArg List.length mp6
              rw [List.length_map, List.length_take] at this
              omega
            generalize ns[i] = pl at hw tk1
            have hv := valV_dictOf nd hw
            have hW6 := kp6 W _ nWD nWC hW
            refine ⟨rfl, ?_⟩
            dsimp only [tYes]
            rw [if_pos rfl]
            refine ⟨.int pl, rfl, ?_⟩
            refine dj_op (D := D) (C := C) (J := fun H' => H' W = some (.dK (dictOf ws))) (m := m + 121 + i) (m1 := m + 121 + i) (m2 := m + 121 + i + 1) (f := fun i j => i + j) (R1 := fun z => z = 1) (R2 := fun z => 0 ≤ z ∧ z < min lf w) (R := fun z => 1 ≤ z ∧ z ≤ min lf w) ?_ ?_ (fun i j h1 h2 => by omega) H6 dk6 hW6 _ ?_
            · exact dj_pure stJ (fun H _ => ev_c) rfl
            · exact dj_draw stJ rfl (fun H hJ => ev_is (ev_min2 (ev_var rfl) (ev_dget (ev_var rfl) (ev_var rfl) hJ hv)) (by congr 1; omega)) (by omega) (by omega) (by omega)
            intro lit H7 kp7 dk7 hW7 hlit
            refine ⟨by show 2 ≤ sizeLine; decide, fun T nT => ?_⟩
            have eT := Ex.new (o := .tup [.int pl, .int lit]) nT
            have hN7 := eT N _ (kp7 N _ nND nNC hN6)
            refine ⟨zs, hN7, sz_lt (by rw [t6.length, List.length_map]; omega), ((kp6.trans kp7).trans (Kp.ex eT)).mut nNH, ((dk7.ex eT).mut nND nNC).mono (by omega), ?_, rs ++ [(pl, lit)], zs ++ [.ref T], upd_same, ?_, ?_, ?_⟩
            · rw [upd_ne nN6.symm]
              exact eT p6 _ (kp7 p6 _ n6D n6C h6)
            · rw [List.map_append]
              exact (((t6.mono (Kp.tk dk6 kp7)).mono (Tk.ex eT)).append (.cons (bed_of (b := (pl, lit)) (.inl upd_same)) .nil)).mono (Tk.lst hN7)
            · rw [List.map_append, mp6, tk1]
              rfl
            · intro r hr0
              rcases List.mem_append.mp hr0 with h | h
              · exact row6 r h
              · rw [List.mem_singleton.mp h]
                exact ⟨by omega, by omega, w, hw, by omega⟩
          · rintro H6 ⟨kp6, dk6, h6, rs, zs, hN6, t6, mp6, row6⟩
            rw [List.length_map] at dk6 mp6
            rw [List.take_length] at mp6
            have lrs : rs.length = ns.length := by rw [← mp6, List.length_map]
            refine ⟨rs, zs, N, _, _, _, _, rfl, kp6, dk6.mono (by omega), hN6, t6, ?_, fun r hr0 => ?_, ?_, (fun h0 => nsn (by rw [← mp6, h0]; rfl)), by omega⟩
            · cases rs with
              | nil => exact .nil
              | cons a r =>
                cases r with
                | nil => simp [Asc]
                | cons b r => simp only [List.length_cons] at lrs; omega
            · obtain ⟨h1, _, w, h2, h3⟩ := row6 r hr0
              exact ⟨w, h2, h1, h3⟩
            · cases rs with
              | nil => simp; omega
              | cons a r =>
                cases r with
                | nil =>
                  have := row6 a (List.mem_cons_self ..)
                  simp
                  omega
                | cons b r => simp only [List.length_cons] at lrs; omega
      · rintro σ' H4 ⟨rs, zs, L', y3, y5, y6, y7, rfl, kp4, dk4, h4, t4, ok⟩
        refine ⟨.ref L', rfl, L', zs, rfl, sq_of h4, fun l o nl _ => ?_⟩
        exact q _ rs _ ok (.tup (.inr ⟨o, upd_same⟩) (t4.mono (Tk.ex (Ex.new nl)))) (kp4.trans (Kp.ex (Ex.new nl))) ((dk4.ex (Ex.new nl)).mono (by omega))
end
end K03

namespace K03
open PySem PySem.Spec PyProof.Rows L2 Evl Cn
section
variable {P : Program} {w : World} {K : PySem.W.Frag} {mg : Str → Option Value} {base : Heap}
def sp_l_way : Sp := fun vs H Q _ => ∃ g v t c bs rs, vs = [g, v] ∧ Tp H g (gardenD t c bs) ∧ Tp H v (bedsD rs) ∧ rs.length ≤ 1000 ∧ (∀ r ∈ rs, -2000000 ≤ r.1 ∧ r.1 ≤ 2000000) ∧ -2000000 ≤ t ∧ t ≤ 2000000 ∧ ∀ H', Ex H H' → Q (.int (wayOf t rs)) H'
theorem wfold_small {t : Int} (t0 : -2000000 ≤ t) (t1 : t ≤ 2000000) : ∀ (rs : List Bed) (a : Int × Int), (∀ r ∈ rs, -2000000 ≤ r.1 ∧ r.1 ≤ 2000000) → 0 ≤ a.1 → a.1 ≤ 4000000 → 0 ≤ a.2 → a.2 ≤ 4000000 → 0 ≤ (rs.foldl (wstep t) a).1 ∧ (rs.foldl (wstep t) a).1 ≤ 4000000 ∧ 0 ≤ (rs.foldl (wstep t) a).2 ∧ (rs.foldl (wstep t) a).2 ≤ 4000000
  | [], a, _, h1, h2, h3, h4 => ⟨h1, h2, h3, h4⟩
  | r :: rs, a, h, h1, h2, h3, h4 => by
    have hr := h r (List.mem_cons_self ..)
    have h' : ∀ r ∈ rs, -2000000 ≤ r.1 ∧ r.1 ≤ 2000000 := fun x hx => h x (List.mem_cons_of_mem _ hx)
    rw [List.foldl_cons]
    by_cases c : r.1 < t
    · have e : wstep t a r = (max a.1 (t - r.1), a.2) := by simp [wstep, c]
      rw [e]
      exact wfold_small t0 t1 rs _ h' (by show 0 ≤ max _ _; omega) (by show max _ _ ≤ _; omega) h3 h4
    · have e : wstep t a r = (a.1, max a.2 (r.1 - t)) := by simp [wstep, c]
      rw [e]
      exact wfold_small t0 t1 rs _ h' h1 h2 (by show 0 ≤ max _ _; omega) (by show max _ _ ≤ _; omega)
theorem ok_l_way {f : Addr} {fd : FuncData} (F : Fun K "_law_way" "_law_way" s_l_way f fd) (m_max : mg "max" = none) : FnOk P w K mg base CX0 1 f fd ["_law_garden_here", "_law_trip_here"] sp_l_way := by
  refine F.ok sc_l_way (fun vs H Q E h => ?_) (fun cdv A outer s H vs Q E hr h => ?_)
  · obtain ⟨g, v, t, c, bs, rs, rfl, _⟩ := h
    rfl
  · obtain ⟨g, v, t, c, bs, rs, rfl, tg, tv, few, rng, t0, t1, q⟩ := h
    obtain ⟨ga, b, xs0, rfl, hg, hb, hx0⟩ := garden_inv tg
    obtain ⟨va, xs, rfl, hv, hx⟩ := Tp.tup_inv tv
    have lx : xs.length = rs.length := by rw [hx.length, List.length_map]
    have small := fun i : Nat => wfold_small t0 t1 (rs.take i) (0, 0) (fun r m => rng r (List.mem_of_mem_take m)) (by decide) (by decide) (by decide) (by decide)
    refine ⟨_, (pss_cons (ps_asg (pe_tup (pa_cons pe_int (pa_cons pe_int pa_nil))) (pg_tup rfl (pgs_cons (pg_name (i := 2) sc_l_way.nd rfl (.inl rfl)) (pgs_cons (pg_name (i := 3) sc_l_way.nd rfl (.inl rfl)) pgs_nil))))
    (pss_cons (ps_for PassesOwn.never rfl (pi_tupK (K := K) rfl (pv 1)) (pg_tup rfl (pgs_cons (pg_name (i := 4) sc_l_way.nd rfl (.inl rfl)) (pgs_cons (pg_name (i := 5) sc_l_way.nd rfl (.inl rfl)) pgs_nil)))
      (pss_one (ps_if (pt_cmpR op_lt (pv 4) (pe_ix (ix_tupK (K := K) rfl) (pv 0) pe_int (fun _ _ => rfl)) (nomark _)) (pss_one (ps_set (i := 2) sc_l_way.nd rfl (.inl rfl) (pe_callB (call_max2 rfl) (by rfl) m_max (by decide +kernel) (pa_cons (pv 2) (pa_cons (pe_op op_sub (pe_ix (ix_tupK (K := K) rfl) (pv 0) pe_int (fun _ _ => rfl)) (pv 4)) pa_nil))))) (pss_one (ps_set (i := 3) sc_l_way.nd rfl (.inl rfl) (pe_callB (call_max2 rfl) (by rfl) m_max (by decide +kernel) (pa_cons (pv 3) (pa_cons (pe_op op_sub (pv 4) (pe_ix (ix_tupK (K := K) rfl) (pv 0) pe_int (fun _ _ => rfl))) pa_nil))))))))
    (pss_one (ps_ret (pe_op op_add (pe_op op_mul pe_int (pv 2)) (pe_op op_mul pe_int (pv 3))))))), ?_⟩
    refine ⟨by show 2 ≤ sizeLine; decide, fun p np => ⟨p, _, rfl, st_of upd_same, rfl, .int 0, _, rfl, .int 0, _, rfl, rfl, ?_⟩⟩
    have e1 := Ex.new (o := .tup [.int 0, .int 0]) np
    dsimp only [gName]
    generalize upd H p (.tup [.int 0, .int 0]) = H1 at e1
    refine q_forT (K := K) (a := va) (xs := xs) (ev_var rfl) (sr (ex_rd e1 hv)) (fun i σ' H' => ∃ y4 y5, σ' = [some (.ref ga), some (.ref va), some (.int ((rs.take i).foldl (wstep t) (0, 0)).1), some (.int ((rs.take i).foldl (wstep t) (0, 0)).2), y4, y5] ∧ Ex H1 H') ?_ ?_ ?_ ?_
    · exact fun H2 e2 => ⟨_, _, rfl, e2⟩
    · rintro i σ' H2 _ ⟨_, _, rfl, e2⟩
      exact sr (ex_rd (e1.trans e2) hv)
    · rintro i x σ' H2 hi ⟨y4, y5, rfl, e2⟩
      have e02 := e1.trans e2
      have hil : i < rs.length := by
        have := (List.getElem?_eq_some_iff.mp hi).1
        omega
      have hri : rs[i]? = some rs[i] := List.getElem?_eq_getElem hil
      obtain ⟨v, hv', tv'⟩ := hx.get (i := i) (d := bedD rs[i]) (by rw [List.getElem?_map, hri]; rfl)
      rw [hi] at hv'
      cases hv'
      obtain ⟨cb, rfl, hcb⟩ := bed_inv (tv'.mono (Tk.ex e02))
      have step : (rs.take (i + 1)).foldl (wstep t) (0, 0) = wstep t ((rs.take i).foldl (wstep t) (0, 0)) rs[i] := by
        rw [List.take_add_one, hri]
        simp only [Option.toList_some, List.foldl_append, List.foldl_cons, List.foldl_nil]
      refine pair_bind hcb _ ?_
      refine s_if (b := decide (rs[i].1 < t)) ?_ ?_ ?_
      · exact et_lt (ev_var rfl) (ev_op (ev_var rfl) ev_c (rv_ixT (sr (ex_rd e02 hg)) rfl))
      · intro hc H3 e3
        have hc := of_decide_eq_true hc
        refine s_asg (v := .int (max ((rs.take i).foldl (wstep t) (0, 0)).1 (t - rs[i].1))) ?_ ?_
        · refine ev_is (ev_max2 (ev_var rfl) (ev_op (ev_op (ev_var rfl) ev_c (rv_ixT (sr (ex_rd (e02.trans e3) hg)) rfl)) (ev_var rfl) rv_I0)) ?_
          congr 1
          omega
        · intro H4 e4
          refine ⟨some (.int rs[i].1), some (.int rs[i].2), ?_, (e2.trans e3).trans e4⟩
          rw [step]
          simp only [wstep, hc, if_true]
          rfl
      · intro hc H3 e3
        have hc := of_decide_eq_false hc
        refine s_asg (v := .int (max ((rs.take i).foldl (wstep t) (0, 0)).2 (rs[i].1 - t))) ?_ ?_
        · refine ev_is (ev_max2 (ev_var rfl) (ev_op (ev_var rfl) (ev_op (ev_var rfl) ev_c (rv_ixT (sr (ex_rd (e02.trans e3) hg)) rfl)) rv_I0)) ?_
          congr 1
          omega
        · intro H4 e4
          refine ⟨some (.int rs[i].1), some (.int rs[i].2), ?_, (e2.trans e3).trans e4⟩
          rw [step]
          simp only [wstep, hc, if_false]
          rfl
    · rintro σ' H2 ⟨y4, y5, rfl, e2⟩
      rw [lx, List.take_length]
      have sm := small rs.length
      rw [List.take_length] at sm
      refine s_ret (v := .int (wayOf t rs)) ?_ (fun H3 e3 => q H3 ((e1.trans e2).trans e3))
      exact ev_op (ev_op ev_c (ev_var rfl) (rv_I (.inl ⟨by decide, by decide⟩))) (ev_op ev_c (ev_var rfl) (rv_I (.inl ⟨by decide, by decide⟩))) rv_I0
def sp_way_of_trip : Sp := fun vs H Q _ => ∃ g v t c bs rs, vs = [g, v] ∧ Tp H g (gardenD t c bs) ∧ Tp H v (bedsD rs) ∧ rs ≠ [] ∧ Asc (rs.map (·.1)) ∧ ∀ H', Ex H H' → Q (.int (wayOf t rs)) H'
theorem ok_way_of_trip {f : Addr} {fd : FuncData} (F : Fun K "way_of_trip" "way_of_trip" s_way_of_trip f fd) (m_max : mg "max" = none) : FnOk P w K mg base CX0 1 f fd ["garden", "trip"] sp_way_of_trip := by
  refine F.ok sc_way_of_trip (fun vs H Q E h => ?_) (fun cdv A outer s H vs Q E hr h => ?_)
  · obtain ⟨g, v, t, c, bs, rs, rfl, _⟩ := h
    rfl
  · obtain ⟨g, v, t, c, bs, rs, rfl, tg, tv, ne, asc, q⟩ := h
    obtain ⟨ga, b, xs0, rfl, hg, hb, hx0⟩ := garden_inv tg
    obtain ⟨va, xs, rfl, hv, hx⟩ := Tp.tup_inv tv
    have lx : xs.length = rs.length := by rw [hx.length, List.length_map]
    have pos : 0 < rs.length := List.length_pos_iff.mpr ne
    obtain ⟨v0, hv0, tv0⟩ := hx.get (i := 0) (d := bedD rs[0]) (by rw [List.getElem?_map, List.getElem?_eq_getElem pos]; rfl)
    obtain ⟨v1, hv1, tv1⟩ := hx.get (i := rs.length - 1) (d := bedD rs[rs.length - 1]) (by rw [List.getElem?_map, List.getElem?_eq_getElem (by omega)]; rfl)
    obtain ⟨a0, rfl, ha0⟩ := bed_inv tv0
    obtain ⟨a1, rfl, ha1⟩ := bed_inv tv1
    have at0 : atI xs 0 = some (.ref a0) := atI_nat (j := 0) hv0
    have at1 : atI xs (-1) = some (.ref a1) := by
      have e : xs = xs.dropLast ++ [.ref a1] := by
        have ne' : xs ≠ [] := fun z => by rw [z] at lx; simp at lx; omega
        have := List.dropLast_concat_getLast ne'
        rw [List.getLast_eq_getElem] at this
        have e2 : xs[xs.length - 1]? = some (.ref a1) := by rw [lx]; exact hv1
        rw [List.getElem?_eq_getElem (by omega)] at e2
        rw [Option.some.inj e2] at this
        exact this.symm
      rw [e]
      exact atI_last _ _
    have way := way_ends (t := t) (r0 := rs[0]) (r1 := rs[rs.length - 1]) asc (by rw [List.head?_eq_getElem?, List.getElem?_eq_getElem pos]) (by rw [List.getLast?_eq_getElem?, List.getElem?_eq_getElem (by omega)])
    refine ⟨_, (pss_cons (ps_set (i := 2) sc_way_of_trip.nd rfl (.inl rfl) (pe_ix (ix_tupK (K := K) rfl) (pv 0) pe_int (fun _ _ => rfl)))
    (pss_cons (ps_set (i := 3) sc_way_of_trip.nd rfl (.inl rfl) (pe_callB (call_max2 rfl) (by rfl) m_max (by decide +kernel) (pa_cons pe_int (pa_cons (pe_op op_sub (pv 2) (pe_ix (ix_tupK (K := K) rfl) (pe_ix (ix_tupK (K := K) rfl) (pv 1) pe_int (fun _ _ => rfl)) pe_int (fun _ _ => rfl))) pa_nil))))
    (pss_cons (ps_set (i := 4) sc_way_of_trip.nd rfl (.inl rfl) (pe_callB (call_max2 rfl) (by rfl) m_max (by decide +kernel) (pa_cons pe_int (pa_cons (pe_op op_sub (pe_ix (ix_tupK (K := K) rfl) (pe_ix (ix_tupK (K := K) rfl) (pv 1) (pe_un un_neg pe_int) (fun _ _ => rfl)) pe_int (fun _ _ => rfl)) (pv 2)) pa_nil))))
    (pss_one (ps_ret (pe_op op_mul pe_int (pe_op op_add (pv 3) (pv 4)))))))), ?_⟩
    refine q_asg (v := .int t) ?_ ?_
    · exact ev_op (ev_var rfl) ev_c (rv_ixT (sr hg) rfl)
    intro H1 e1
    refine q_asg (v := .int (max 0 (t - rs[0].1))) ?_ ?_
    · refine ev_is (ev_max2 ev_c (ev_op (ev_var rfl) (ev_op (ev_op (ev_var rfl) ev_c (rv_ixT (sr (ex_rd e1 hv)) at0)) ev_c (rv_ixT (sr (ex_rd e1 ha0)) rfl)) rv_I0)) ?_
      congr 1
      omega
    intro H2 e2
    have e12 := e1.trans e2
    refine q_asg (v := .int (max 0 (rs[rs.length - 1].1 - t))) ?_ ?_
    · refine ev_is (ev_max2 ev_c (ev_op (ev_op (ev_op (ev_var rfl) (ev_un ev_c ru_neg) (rv_ixT (sr (ex_rd e12 hv)) at1)) ev_c (rv_ixT (sr (ex_rd e12 ha1)) rfl)) (ev_var rfl) rv_I0)) ?_
      congr 1
      omega
    intro H3 e3
    refine s_ret (v := .int (wayOf t rs)) ?_ (fun H4 e4 => q H4 ((e12.trans e3).trans e4))
    rw [way]
    exact ev_op ev_c (ev_op (ev_var rfl) (ev_var rfl) rv_I0) (rv_I (.inl ⟨by decide, by decide⟩))
end
end K03

namespace K03
open PySem PySem.Spec PyProof.Rows L2 Evl Cn
section
variable {P : Program} {w : World} {K : PySem.W.Frag} {mg : Str → Option Value} {base : Heap}
def spLaw (K : PySem.W.Frag) : Sp := fun vs H Q _ => ∃ (a : Addr) (ns : List Int), vs = [.ref a] ∧ SqL K H a (ns.map V.int) ∧ ns.length ≤ 63 ∧ ∀ H', Q (.bl true) H'
theorem tr_of {most top t c c' : Int} {bs ws rs : List Bed} (gok : GOk most top t c bs) (h12 : most ≤ 12) (ht : top ≤ 1000000000) (hws : ∀ b ∈ ws, ∃ b' ∈ bs, b.1 = b'.1 ∧ b.2 ≤ b'.2 + c) (ok : TripOk c' ws rs) : TrOk rs := by
  have place : ∀ r ∈ rs, -1000000 ≤ r.1 ∧ r.1 ≤ 1000000 ∧ 1 ≤ r.2 ∧ r.2 ≤ 10000000000 := by
    intro r hr
    obtain ⟨w, hw, h1, h2⟩ := ok.row r hr
    obtain ⟨b', hb', e1, e2⟩ := hws _ hw
    have := gok.p0 b' hb'
    have := gok.p1 b' hb'
    have := gok.l1 b' hb'
    have := gok.c1
    simp only at e1 e2
    omega
  exact ⟨ok.asc, ok.len, fun r hr => (place r hr).1, fun r hr => (place r hr).2.1, fun r hr => (place r hr).2.2.1, fun r hr => (place r hr).2.2.2⟩
def tapsK (t : Int) (bs : List Bed) : List Int := [t, 0, -1000000, 1000000] ++ (bs.map (·.1)).take 4
def fullOf (trs : List (List Bed)) : List (List Bed) := trs.filter fun rs => !rs.isEmpty
def onesOf (l : Int) (bs : List Bed) : List (List Bed) := bs.map fun b => [(b.1, l)]
def tripsK (trs : List (List Bed)) (c : Int) (bs : List Bed) : List (List Bed) := (fullOf trs ++ onesOf 1 bs) ++ onesOf c bs
def wideOf (c : Int) (bs : List Bed) : List Bed := bs.map fun b => (b.1, b.2 + c)
theorem wide_keys (c : Int) (bs : List Bed) : (wideOf c bs).map (·.1) = bs.map (·.1) := by
  unfold wideOf
  rw [List.map_map]
  rfl
theorem ok_law {f f_l_deck f_l_garden f_l_same f_l_trip f_l_way f_way_of_trip : Addr} {fd fd_l_deck fd_l_garden fd_l_same fd_l_trip fd_l_way fd_way_of_trip : FuncData} (F : Fun K "law" "law" s_law f fd) (m_dict : mg "dict" = none) (m_range : mg "range" = none) (m_repr : mg "repr" = none)
    (G_l_deck : FnOk P w K mg base CX0 1 f_l_deck fd_l_deck ["_law_script"] (spDeck K)) (g_l_deck : mg "_law_deck" = some (.ref f_l_deck)) (F_l_deck : Fun K "_law_deck" "_law_deck" s_l_deck f_l_deck fd_l_deck) (b_l_deck : Binds K fd_l_deck ["_law_script"] [])
    (G_l_garden : FnOk P w K mg base CX0 2 f_l_garden fd_l_garden ["_law_deck_here", "_law_most", "_law_top"] spGarden) (g_l_garden : mg "_law_garden" = some (.ref f_l_garden)) (F_l_garden : Fun K "_law_garden" "_law_garden" s_l_garden f_l_garden fd_l_garden) (b_l_garden : Binds K fd_l_garden ["_law_deck_here", "_law_most", "_law_top"] [])
    (G_l_same : FnG P w K mg base 1 f_l_same fd_l_same ["_law_value", "_law_due"] (spSame K)) (g_l_same : mg "_law_same" = some (.ref f_l_same)) (F_l_same : Fun K "_law_same" "_law_same" s_l_same f_l_same fd_l_same) (b_l_same : Binds K fd_l_same ["_law_value", "_law_due"] [])
    (G_l_trip : FnOk P w K mg base CX0 2 f_l_trip fd_l_trip ["_law_deck_here", "_law_garden_here", "_law_wants"] spTrip) (g_l_trip : mg "_law_trip" = some (.ref f_l_trip)) (F_l_trip : Fun K "_law_trip" "_law_trip" s_l_trip f_l_trip fd_l_trip) (b_l_trip : Binds K fd_l_trip ["_law_deck_here", "_law_garden_here", "_law_wants"] [])
    (G_l_way : FnOk P w K mg base CX0 1 f_l_way fd_l_way ["_law_garden_here", "_law_trip_here"] sp_l_way) (g_l_way : mg "_law_way" = some (.ref f_l_way)) (F_l_way : Fun K "_law_way" "_law_way" s_l_way f_l_way fd_l_way) (b_l_way : Binds K fd_l_way ["_law_garden_here", "_law_trip_here"] [])
    (G_way_of_trip : FnOk P w K mg base CX0 1 f_way_of_trip fd_way_of_trip ["garden", "trip"] sp_way_of_trip) (g_way_of_trip : mg "way_of_trip" = some (.ref f_way_of_trip)) (F_way_of_trip : Fun K "way_of_trip" "way_of_trip" s_way_of_trip f_way_of_trip fd_way_of_trip) (b_way_of_trip : Binds K fd_way_of_trip ["garden", "trip"] []) :
    FnG P w K mg base 3 f fd ["_law_script"] (spLaw K) := by
  refine okG F sc_law (fun vs H Q E h => ?_) (fun cdv A outer s H vs Q E gd hr h => ?_)
  · obtain ⟨a, ns, rfl, _⟩ := h
    rfl
  · obtain ⟨a, ns, rfl, hs, few, q⟩ := h
    have p6 : ∀ {σ : L2.St} H, Ev (tOp (rI CPow fun i j => .int (i ^ j.toNat)) (tC (.int 10)) (tC (.int 6))) σ H (.int 1000000) := fun H => ev_is (ev_op ev_c ev_c (rv_I (by refine ⟨by decide, by decide, by decide⟩))) (by rw [pow6])
    have p9 : ∀ {σ : L2.St} H, Ev (tOp (rI CPow fun i j => .int (i ^ j.toNat)) (tC (.int 10)) (tC (.int 9))) σ H (.int 1000000000) := fun H => ev_is (ev_op ev_c ev_c (rv_I (by refine ⟨by decide, by decide, by decide⟩))) (by rw [pow9])
    have big : (10 : Int) ^ 39 = 1000000000000000000000000000000000000000 := by decide
    refine ⟨_, (pss_cons (ps_set (i := 1) sc_law.nd rfl (.inr rfl) (pe_call G_l_deck (hr.mono (by decide)) (by rfl) g_l_deck F_l_deck.kp b_l_deck .nil pass0 (pa_cons (pv 0) pa_nil)))
    (pss_cons (ps_for PassesOwn.never rfl (pi_range1 (by rfl) m_range (pa_cons pe_int pa_nil)) (pg_name (i := 2) sc_law.nd rfl (.inl rfl))
      (pss_cons (ps_set (i := 4) sc_law.nd rfl (.inr rfl) (pe_call G_l_garden (hr.mono (by decide)) (by rfl) g_l_garden F_l_garden.kp b_l_garden .nil pass0 (pa_cons (pv 1) (pa_cons (pe_ix (ix_listK (K := K) rfl) (pe_lst (pa_cons pe_int (pa_cons pe_int (pa_cons pe_int pa_nil)))) (pe_op op_mod (pv 2) pe_int) (fun _ _ => rfl)) (pa_cons (pe_ix (ix_listK (K := K) rfl) (pe_lst (pa_cons (pe_op op_pow pe_int pe_int) (pa_cons pe_int pa_nil))) (pe_op op_mod (pv 2) pe_int) (fun _ _ => rfl)) pa_nil)))))
    (pss_cons (ps_setLc (i := 5) rfl sc_law.nd rfl rfl (sw_true rfl rfl rfl (by decide +kernel)) (own := [("_law_k", 12)]) (g := (gName 12)) (pi_range1 (by rfl) m_range (pa_cons pe_int pa_nil)) (blkOk_by (N := N_law) (sc := defScope s_law) (by decide +kernel)) (fun _ _ _ _ _ => (pg_name (i := 12) sc_law.nd rfl (.inl rfl))) (fun _ _ _ _ _ => pts_nil) (fun _ _ _ _ _ => (pe_call G_l_trip (hr.mono (by decide)) (by rfl) g_l_trip F_l_trip.kp b_l_trip .nil pass0 (pa_cons (pv 1) (pa_cons (pv 4) (pa_cons (pe_callTy (call_dictK (K := K) rfl rfl) (by rfl) m_dict (by decide +kernel) (pa_cons (pe_ix (ix_tupK (K := K) rfl) (pv 4) pe_int (fun _ _ => rfl)) pa_nil)) pa_nil))))))
    (pss_cons (ps_set (i := 6) sc_law.nd rfl (.inr rfl) pe_dnewK)
    (pss_cons (ps_for PassesOwn.never rfl (pi_tupK (K := K) rfl (pe_ix (ix_tupK (K := K) rfl) (pv 4) pe_int (fun _ _ => rfl))) (pg_tup rfl (pgs_cons (pg_name (i := 8) sc_law.nd rfl (.inl rfl)) (pgs_cons (pg_name (i := 9) sc_law.nd rfl (.inl rfl)) pgs_nil)))
      (pss_one (ps_dput (hu_of hr) (pv 6) (pv 8) (pe_op op_add (pv 9) (pe_ix (ix_tupK (K := K) rfl) (pv 4) pe_int (fun _ _ => rfl))) rfl)))
    (pss_cons (ps_set (i := 5) sc_law.nd rfl (.inl rfl) (pe_op op_cat (pv 5) (pe_lc (own := [("_law_k", 12)]) (g := (gName 12)) rfl sc_law.nd (pi_range1 (by rfl) m_range (pa_cons pe_int pa_nil)) (blkOk_by (N := N_law) (sc := defScope s_law) (by decide +kernel)) (fun _ _ _ _ _ => (pg_name (i := 12) sc_law.nd rfl (.inl rfl))) (fun _ _ _ _ _ => pts_nil) (fun _ _ _ _ _ => (pe_call G_l_trip (hr.mono (by decide)) (by rfl) g_l_trip F_l_trip.kp b_l_trip .nil pass0 (pa_cons (pv 1) (pa_cons (pv 4) (pa_cons (pv 6) pa_nil))))))))
    (pss_cons (ps_set (i := 5) sc_law.nd rfl (.inl rfl) (pe_op op_cat (pe_lc (own := [("_law_trip_here", 11)]) (g := (gName 11)) rfl sc_law.nd (pi_listK (K := K) rfl (pv 5)) (blkOk_by (N := N_law) (sc := defScope s_law) (by decide +kernel)) (fun _ _ _ _ _ => (pg_name (i := 11) sc_law.nd rfl (.inl rfl))) (fun _ _ _ _ _ => pts_one (pt_cmpR (op_neK (K := K) rfl hr.units) (pv 11) (pe_tup pa_nil) (nomark _))) (fun _ _ _ _ _ => (pv 11))) (pe_lc (own := [("_law_place", 8), ("_law_litres", 9)]) (g := (gTup K 2 (gCons (gName 8) (gCons (gName 9) gNil)))) rfl sc_law.nd (pi_tupK (K := K) rfl (pe_ix (ix_tupK (K := K) rfl) (pv 4) pe_int (fun _ _ => rfl))) (blkOk_by (N := N_law) (sc := defScope s_law) (by decide +kernel)) (fun _ _ _ _ _ => (pg_tup rfl (pgs_cons (pg_name (i := 8) sc_law.nd rfl (.inl rfl)) (pgs_cons (pg_name (i := 9) sc_law.nd rfl (.inl rfl)) pgs_nil)))) (fun _ _ _ _ _ => pts_nil) (fun _ _ _ _ _ => (pe_tup (pa_cons (pe_tup (pa_cons (pv 8) (pa_cons pe_int pa_nil))) pa_nil))))))
    (pss_cons (ps_set (i := 5) sc_law.nd rfl (.inl rfl) (pe_op op_cat (pv 5) (pe_lc (own := [("_law_place", 8), ("_law_litres", 9)]) (g := (gTup K 2 (gCons (gName 8) (gCons (gName 9) gNil)))) rfl sc_law.nd (pi_tupK (K := K) rfl (pe_ix (ix_tupK (K := K) rfl) (pv 4) pe_int (fun _ _ => rfl))) (blkOk_by (N := N_law) (sc := defScope s_law) (by decide +kernel)) (fun _ _ _ _ _ => (pg_tup rfl (pgs_cons (pg_name (i := 8) sc_law.nd rfl (.inl rfl)) (pgs_cons (pg_name (i := 9) sc_law.nd rfl (.inl rfl)) pgs_nil)))) (fun _ _ _ _ _ => pts_nil) (fun _ _ _ _ _ => (pe_tup (pa_cons (pe_tup (pa_cons (pv 8) (pa_cons (pe_ix (ix_tupK (K := K) rfl) (pv 4) pe_int (fun _ _ => rfl)) pa_nil))) pa_nil))))))
    (pss_one (ps_for PassesOwn.never rfl (pi_listK (K := K) rfl (pe_op op_cat (pe_lst (pa_cons (pe_ix (ix_tupK (K := K) rfl) (pv 4) pe_int (fun _ _ => rfl)) (pa_cons pe_int (pa_cons (pe_un un_neg (pe_op op_pow pe_int pe_int)) (pa_cons (pe_op op_pow pe_int pe_int) pa_nil))))) (pe_slice (sl_listK (K := K) rfl) (pe_lc (own := [("_law_place", 8), ("_law_litres", 9)]) (g := (gTup K 2 (gCons (gName 8) (gCons (gName 9) gNil)))) rfl sc_law.nd (pi_tupK (K := K) rfl (pe_ix (ix_tupK (K := K) rfl) (pv 4) pe_int (fun _ _ => rfl))) (blkOk_by (N := N_law) (sc := defScope s_law) (by decide +kernel)) (fun _ _ _ _ _ => (pg_tup rfl (pgs_cons (pg_name (i := 8) sc_law.nd rfl (.inl rfl)) (pgs_cons (pg_name (i := 9) sc_law.nd rfl (.inl rfl)) pgs_nil)))) (fun _ _ _ _ _ => pts_nil) (fun _ _ _ _ _ => (pv 8))) po_none (po_some pe_int)))) (pg_name (i := 7) sc_law.nd rfl (.inl rfl))
      (pss_cons (ps_set (i := 10) sc_law.nd rfl (.inr rfl) (pe_tup (pa_cons (pv 7) (pa_cons (pe_ix (ix_tupK (K := K) rfl) (pv 4) pe_int (fun _ _ => rfl)) (pa_cons (pe_ix (ix_tupK (K := K) rfl) (pv 4) pe_int (fun _ _ => rfl)) pa_nil)))))
    (pss_one (ps_for PassesOwn.never rfl (pi_listK (K := K) rfl (pv 5)) (pg_name (i := 11) sc_law.nd rfl (.inr rfl))
      (pss_cons (ps_par (i := 13) (j := 14) (by rfl) sc_law.nd rfl rfl (by decide) rfl rfl (pa_cons (pe_callB (call_reprK (K := K) rfl gd hr.units) (by rfl) m_repr (by decide +kernel) (pa_cons (pe_lst (pa_cons (pv 10) (pa_cons (pv 11) pa_nil))) pa_nil)) (pa_cons (pe_call G_l_way (hr.mono (by decide)) (by rfl) g_l_way F_l_way.kp b_l_way .nil pass0 (pa_cons (pv 10) (pa_cons (pv 11) pa_nil))) pa_nil)) (by rfl))
    (pss_cons (ps_if (pt_not (pt_val (pe_callG G_l_same gd (hr.mono (by decide)) (by rfl) g_l_same F_l_same.kp b_l_same (pa_cons (pe_lc (own := [("_law_again", 15)]) (g := (gName 15)) rfl sc_law.nd (pi_range1 (by rfl) m_range (pa_cons pe_int pa_nil)) (blkOk_by (N := N_law) (sc := defScope s_law) (by decide +kernel)) (fun _ _ _ _ _ => (pg_name (i := 15) sc_law.nd rfl (.inl rfl))) (fun _ _ _ _ _ => pts_nil) (fun _ _ _ _ _ => (pe_call G_way_of_trip (hr.mono (by decide)) (by rfl) g_way_of_trip F_way_of_trip.kp b_way_of_trip .nil pass0 (pa_cons (pv 10) (pa_cons (pv 11) pa_nil))))) (pa_cons (pe_lst (pa_cons (pv 14) (pa_cons (pv 14) pa_nil))) pa_nil))))) (pss_one (ps_ret pe_bl)) pss_nil)
    (pss_one (ps_if (pt_cmpR op_ne (pe_callB (call_reprK (K := K) rfl gd hr.units) (by rfl) m_repr (by decide +kernel) (pa_cons (pe_lst (pa_cons (pv 10) (pa_cons (pv 11) pa_nil))) pa_nil)) (pv 13) (nomark _)) (pss_one (ps_ret pe_bl)) pss_nil)))))))))))))))))
    (pss_cons (ps_set (i := 3) sc_law.nd rfl (.inl rfl) (pe_tup (pa_cons (pe_op op_pow pe_int pe_int) (pa_cons pe_int (pa_cons (pe_tup (pa_cons (pe_tup (pa_cons (pe_un un_neg (pe_op op_pow pe_int pe_int)) (pa_cons pe_int pa_nil))) (pa_cons (pe_tup (pa_cons pe_int (pa_cons pe_int pa_nil))) (pa_cons (pe_tup (pa_cons (pe_op op_pow pe_int pe_int) (pa_cons pe_int pa_nil))) pa_nil)))) pa_nil)))))
    (pss_one (ps_ret (pe_cmpR (op_eqK (K := K) rfl hr.units) (pe_lst (pa_cons (pe_call G_way_of_trip (hr.mono (by decide)) (by rfl) g_way_of_trip F_way_of_trip.kp b_way_of_trip .nil pass0 (pa_cons (pv 3) (pa_cons (pe_tup (pa_cons (pe_tup (pa_cons (pe_un un_neg (pe_op op_pow pe_int pe_int)) (pa_cons pe_int pa_nil))) (pa_cons (pe_tup (pa_cons (pe_op op_pow pe_int pe_int) (pa_cons pe_int pa_nil))) pa_nil))) pa_nil))) (pa_cons (pe_call G_way_of_trip (hr.mono (by decide)) (by rfl) g_way_of_trip F_way_of_trip.kp b_way_of_trip .nil pass0 (pa_cons (pv 3) (pa_cons (pe_tup (pa_cons (pe_tup (pa_cons (pe_op op_pow pe_int pe_int) (pa_cons pe_int pa_nil))) pa_nil)) pa_nil))) pa_nil))) (pe_lst (pa_cons (pe_op op_mul pe_int (pe_op op_pow pe_int pe_int)) (pa_cons pe_int pa_nil))) (nomark _))))))), ?_⟩
    refine ⟨.ref a, rfl, a, ns, rfl, hs, few, fun D C H1 nD nC e1 dk1 => ?_⟩
    dsimp only [gName]
    refine q_forR1 (n := 9) (ea_cons ev_c ea_nil) (by decide) (fun i σ' H' => ∃ y2 y3 y4 y5 y6 y7 y8 y9 y10 y11 y12 y13 y14 y15, σ' = [some (.ref a), some (.ref D), y2, y3, y4, y5, y6, y7, y8, y9, y10, y11, y12, y13, y14, y15] ∧ Deck D C (3000 * i) H') ?_ ?_ ?_
    · exact fun H2 e2 => ⟨_, _, _, _, _, _, _, _, _, _, _, _, _, _, rfl, dk1.ex e2⟩
    · rintro i σ' H2 hi ⟨y2, y3, y4, y5, y6, y7, y8, y9, y10, y11, y12, y13, y14, y15, rfl, dk2⟩
      -- the garden
      refine ⟨.ref D, rfl, ?_⟩
      refine dr_pick (D := D) (C := C) (m := 3000 * i) (m1 := 3000 * i) (m2 := 3000 * i) (n := 3) (R := fun z => 1 ≤ z ∧ z ≤ 12) ?_ ?_ (by decide) H2 dk2 _ ?_
      · exact da_cons (dr_pure (fun H => ev_c) (by omega)) (da_cons (dr_pure (fun H => ev_c) (by omega)) (da_cons (dr_pure (fun H => ev_c) (by omega)) da_nil))
      · exact dr_pure (i := (i : Int) % 3) (fun H => ev_op (ev_var rfl) ev_c (rv_I (by decide))) (by omega)
      intro most H3 kp3 dk3 hmost
      refine dr_pick (D := D) (C := C) (m := 3000 * i) (m1 := 3000 * i) (m2 := 3000 * i) (n := 2) (R := fun z => 1 ≤ z ∧ z ≤ 1000000000) ?_ ?_ (by decide) H3 dk3 _ ?_
      · exact da_cons (dr_pure p9 (by omega)) (da_cons (dr_pure (fun H => ev_c) (by omega)) da_nil)
      · exact dr_pure (i := (i : Int) % 2) (fun H => ev_op (ev_var rfl) ev_c (rv_I (by decide))) (by omega)
      intro top H4 kp4 dk4 htop
      refine ⟨D, C, 3000 * i, most, top, rfl, dk4, by omega, hmost.1, hmost.2, htop.1, htop.2, fun v t c bs H5 gok ga5 kp5 dk5 => ?_⟩
      have blen : bs.length ≤ 12 := by have := gok.few; omega
      have nd : (bs.map (·.1)).Nodup := gok.asc.imp (fun h => by omega)
      clear kp3 kp4 kp5 dk2 dk3 dk4
      obtain ⟨g, b, xs, ob, rfl, hg5, hb5, nod, hx5⟩ := id ga5
      dsimp only [gName]
      -- the first trips
      rw [seq_asg]
      refine da_list (K := K) (D := D) (C := C) (n := 5) (3000 * i + 100) 200 (fun d => ∃ rs, d = bedsD rs ∧ TrOk rs) (ea_cons ev_c ea_nil) (by omega) (by omega) dk5 ?_ ?_ ?_
      · exact fun _ => rfl
      · intro k H6 hk kp6 dk6 Q2 fin
        have ga6 := ga5.kp dk5 kp6
        obtain ⟨g', b', xs', ob', e, hg6, hb6, nod6, hx6⟩ := id ga6
        cases e
        obtain ⟨ps, rfl, pr⟩ := beds_refs (K := K) hx6
        refine ⟨.ref D, rfl, .ref g, rfl, .ref g, rfl, g, _, 2, .ref b', rfl, rfl, sr hg6, rfl, b', ob', ps, dictOf bs, rfl, hb6, nod6, pr, fun W nW => ?_⟩
        have eW := Ex.new (o := .dK (mergeK [] (dictOf bs))) nW
        refine ⟨D, C, 3000 * i + 100 + 200 * k, .ref g, t, c, bs, W, bs, rfl, dk6.ex eW, by omega, (ga6.ex eW).tp, gok.c0, gok.c1, ?_, nd, by omega, fun v rs H7 ok tv kp7 dk7 => fin v _ H7 ⟨rs, rfl, tr_of gok hmost.2 htop.2 (fun b hb => ⟨b, hb, rfl, by have := gok.c0; omega⟩) ok⟩ tv ((Kp.ex eW).trans kp7) dk7⟩
        rw [upd_same, show ([] : List (Key × V)) = dictOf [] from rfl, mergeK_new (by simpa using nd)]
        rfl
      intro p5 zs1 ds1 H6 np5 kp6 dk6 h6 t6 len6 ok6
      obtain ⟨trs1, rfl, tr1⟩ := all_trips ok6
      rw [List.length_map] at len6
      obtain ⟨n5D, n5C⟩ := Kp.free dk5 np5
      have ga6 := ga5.kp dk5 kp6
      clear ok6
      -- wide
      dsimp only [gName]
      refine fun W nW => ?_
      have eW := Ex.new (o := .dK []) nW
      have hW7 : (upd H6 W (.dK [])) W = some (.dK (dictOf (wideOf c (bs.take 0)))) := upd_same
      have ga7 := ga6.ex eW
      have dk7 := dk6.ex eW
      have h7 := eW p5 _ h6
      have t7 := t6.mono (Tk.ex eW)
      obtain ⟨nWD, nWC⟩ := Kp.free dk6 nW
      have nW5 : W ≠ p5 := fun z => by rw [z, h6] at nW; cases nW
      dsimp only [gName]
      generalize upd H6 W (.dK []) = H7 at hW7 ga7 dk7 h7 t7
      clear eW nW ga6 dk6 h6 t6 kp6 ga5 dk5 hg5 hb5 hx5
      obtain ⟨g', b', xs', ob', e, hg7, hb7, nod7, hx7⟩ := id ga7
      cases e
      have lx : xs'.length = bs.length := by rw [hx7.length, List.length_map]
      refine q_forT (K := K) (a := b') (xs := xs') (ev_op (ev_var rfl) ev_c (rv_ixT (sr hg7) rfl)) (sr (.inr ⟨ob', hb7⟩)) (fun k σ' H' => ∃ y8 y9, σ' = [some (.ref a), some (.ref D), some (.int i), y3, some (.ref g), some (.ref p5), some (.ref W), y7, y8, y9, y10, y11, y12, y13, y14, y15] ∧ Deck D C (3000 * i + 1100) H' ∧ H' b' = some (.frz ob' (.tup xs')) ∧ TpAll H' xs' (bs.map bedD) ∧ Rd H' g (.tup [.int t, .int c, .ref b']) ∧ H' p5 = some (.lst zs1) ∧ TpAll H' zs1 (trs1.map bedsD) ∧ H' W = some (.dK (dictOf (wideOf c (bs.take k))))) ?_ ?_ ?_ ?_
      · exact fun H8 e8 => ⟨_, _, rfl, (dk7.ex e8).mono (by omega), e8 _ _ hb7, hx7.mono (Tk.ex e8), ex_rd e8 hg7, e8 _ _ h7, t7.mono (Tk.ex e8), e8 _ _ hW7⟩
      · rintro k σ' H8 _ ⟨_, _, rfl, _, hb8, _⟩
        exact sr (.inr ⟨ob', hb8⟩)
      · rintro k x σ' H8 hk ⟨z8, z9, rfl, dk8, hb8, hx8, hg8, h8, t8, hW8⟩
        have hkl : k < bs.length := by
          have := (List.getElem?_eq_some_iff.mp hk).1
          omega
        have hbk : bs[k]? = some bs[k] := List.getElem?_eq_getElem hkl
        obtain ⟨v, hv, tv⟩ := hx8.get (i := k) (d := bedD bs[k]) (by rw [List.getElem?_map, hbk]; rfl)
        rw [hk] at hv
        cases hv
        obtain ⟨cb, rfl, hcb⟩ := bed_inv tv
        refine pair_bind hcb _ ?_
        have fresh : bs[k].1 ∉ (wideOf c (bs.take k)).map (·.1) := by
          rw [wide_keys]
          intro z
          obtain ⟨b0, m0, e0⟩ := List.mem_map.mp z
          obtain ⟨j, hj, ej⟩ := List.getElem_of_mem m0
          rw [List.length_take] at hj
          rw [List.getElem_take] at ej
          have := List.pairwise_iff_getElem.mp gok.asc j k (by rw [List.length_map]; omega) (by rw [List.length_map]; omega) (by omega)
          rw [List.getElem_map, List.getElem_map, ej] at this
          omega
        refine ⟨.int bs[k].2, rfl, .ref g, rfl, g, _, 1, .int c, rfl, rfl, sr hg8, rfl, bs[k].2, c, rfl, rfl, .ref W, rfl, .int bs[k].1, rfl, W, _, rfl, DPut.k (k := .inl bs[k].1) hW8 ?_, ?_⟩
        · simp only [dictOf, wideOf, List.length_map, List.length_take]
          exact sz_lt (by omega)
        have tk : Tk H8 (upd H8 W (.dK (putK (dictOf (wideOf c (bs.take k))) (.inl bs[k].1) (.int (bs[k].2 + c))))) := Tk.dict hW8
        refine ⟨_, _, rfl, dk8.mut nWD nWC, ?_, hx8.mono tk, tk _ _ hg8, by rw [upd_ne nW5.symm]; exact h8, t8.mono tk, ?_⟩
        · rw [upd_ne (ne_of hb8 hW8 (by intro z; cases z))]
          exact hb8
        · rw [upd_same, putK_new fresh]
          have e : wideOf c (bs.take (k + 1)) = wideOf c (bs.take k) ++ [(bs[k].1, bs[k].2 + c)] := by
            unfold wideOf
            rw [List.take_add_one, hbk, List.map_append]
            rfl
          rw [e]
      rintro σ' H8 ⟨z8, z9, rfl, dk8, hb8, hx8, hg8, h8, t8, hW8⟩
      rw [lx, List.take_length] at hW8
      have ga8 : GAt H8 (.ref g) t c bs := ⟨g, b', xs', ob', rfl, hg8, hb8, nod7, hx8⟩
      clear hW7 ga7 dk7 h7 t7 hg7 hb7 hx7
      -- more trips
      rw [seq_asg, op_eq']
      refine ⟨.ref p5, rfl, ?_⟩
      dsimp only
      refine da_list (K := K) (D := D) (C := C) (n := 4) (3000 * i + 1100) 200 (fun d => ∃ rs, d = bedsD rs ∧ TrOk rs) (ea_cons ev_c ea_nil) (by omega) (by omega) dk8 ?_ ?_ ?_
      · exact fun _ => rfl
      · intro k H9 hk kp9 dk9 Q2 fin
        have ga9 := ga8.kp dk8 kp9
        have hW9 := kp9 W _ nWD nWC hW8
        refine ⟨.ref D, rfl, .ref g, rfl, .ref W, rfl, D, C, 3000 * i + 1100 + 200 * k, .ref g, t, c, bs, W, wideOf c bs, rfl, dk9, by omega, ga9.tp, gok.c0, gok.c1, hW9, by rw [wide_keys]; exact nd, by unfold wideOf; rw [List.length_map]; omega, fun v rs H7 ok tv kp7 dk7 => fin v _ H7 ⟨rs, rfl, tr_of gok hmost.2 htop.2 (fun b hb => ?_) ok⟩ tv kp7 dk7⟩
        obtain ⟨b0, m0, rfl⟩ := List.mem_map.mp hb
        exact ⟨b0, m0, rfl, by simp⟩
      intro p9 zs2 ds2 H9 np9 kp9 dk9 h9 t9 len9 ok9
      obtain ⟨trs2, rfl, tr2⟩ := all_trips ok9
      have h5' := kp9 p5 _ n5D n5C h8
      have t5' := t8.mono (Kp.tk dk8 kp9)
      have ga9 := ga8.kp dk8 kp9
      rw [List.length_map] at len9
      refine ⟨p5, p9, zs1, zs2, rfl, rfl, h5', h9, sz_of (by rw [t5'.length, t9.length, List.length_map, List.length_map]; omega), fun r nr => ?_⟩
      have eR := Ex.new (o := .lst (zs1 ++ zs2)) nr
      have tR : TpAll (upd H9 r (.lst (zs1 ++ zs2))) (zs1 ++ zs2) ((trs1 ++ trs2).map bedsD) := by
        rw [List.map_append]
        exact (t5'.append t9).mono (Tk.ex eR)
      have hR : (upd H9 r (.lst (zs1 ++ zs2))) r = some (.lst (zs1 ++ zs2)) := upd_same
      have gaR := ga9.ex eR
      have dkR := dk9.ex eR
      have trR : ∀ rs ∈ trs1 ++ trs2, TrOk rs := fun rs m => (List.mem_append.mp m).elim (tr1 rs) (tr2 rs)
      have lenR : (trs1 ++ trs2).length = 9 := by rw [List.length_append, len6, len9]
      dsimp only [gName]
      generalize upd H9 r (.lst (zs1 ++ zs2)) = H10 at tR hR gaR dkR
      generalize trs1 ++ trs2 = trs at tR trR lenR
      clear eR nr ga9 dk9 h5' t5' h9 t9 kp9 np9 ga8 dk8 hb8 hx8 hg8 h8 t8 hW8
      obtain ⟨g', b', xs', ob', e, hgR, hbR, nodR, hxR⟩ := id gaR
      cases e
      have bedsV : ∀ {σ : L2.St} {H' : Hp}, σ[4]? = some (some (.ref g)) → Ex H10 H' → EvD (tOp (rIxT K) (tVar 4) (tC (.int 2))) σ H' (bedsD bs) := fun h4 e => ed_val (ev_op (ev_var h4) ev_c (rv_ixT (sr (ex_rd e hgR)) rfl)) (.tup (ex_rd e (.inr ⟨ob', hbR⟩)) (hxR.mono (Tk.ex e)))
      -- without the empty ones, and one litre to each bed
      refine q_asgLd (ds := (fullOf trs ++ onesOf 1 bs).map bedsD) ?_ ?_
      · refine eld_is (eld_cat (ds := (fullOf trs).map bedsD) (es := (onesOf 1 bs).map bedsD) ?_ ?_ ?_) (List.map_append ..).symm
        · refine eld_data trs bedsD (ev_var rfl) hR tR (by omega) (fun rs => !rs.isEmpty) bedsD (fun _ => rfl) ?_ (fun y _ v tv _ => ed_val (ev_var rfl) tv)
          intro y _ v tv
          refine et_is (et_test (ev_neD (ed_val (ev_var rfl) tv) (ed_tup ead_nil (by simp)) (shaped_bedsT y) rfl)) ?_
          rw [eqv_tup0]
        · refine eld_is (eld_bedsD (bs := bs) (fun _ => true) (fun b => bedsD [(b.1, 1)]) (bedsV rfl (Ex.refl _)) (by omega) (fun _ _ => rfl) (fun _ _ => et_yes) (fun b _ _ => ed_tup (ead_cons (ed_tup (ead_cons (ed_int (ev_var rfl)) (ead_cons (ed_int ev_c) ead_nil)) (by simp)) ead_nil) (by simp))) ?_
          rw [List.filter_eq_self.mpr (fun _ _ => rfl)]
          unfold onesOf
          rw [List.map_map]
          rfl
        · have : (fullOf trs).length ≤ trs.length := List.length_filter_le _ trs
          simp only [onesOf, List.length_map]
          omega
      intro p11 zs3 H11 np11 e11 h11 t11
      refine q_asgLd (ds := (tripsK trs c bs).map bedsD) ?_ ?_
      · refine eld_is (eld_catV (es := (onesOf c bs).map bedsD) (ev_var rfl) h11 t11 ?_ ?_) (by unfold tripsK; rw [← List.map_append])
        · refine eld_is (eld_bedsD (bs := bs) (fun _ => true) (fun b => bedsD [(b.1, c)]) (bedsV rfl e11) (by omega) (fun _ _ => rfl) (fun _ _ => et_yes) (fun b _ _ => ed_tup (ead_cons (ed_tup (ead_cons (ed_int (ev_var rfl)) (ead_cons (ed_int (ev_op (ev_var rfl) ev_c (rv_ixT (sr (ex_rd e11 hgR)) rfl))) ead_nil)) (by simp)) ead_nil) (by simp))) ?_
          rw [List.filter_eq_self.mpr (fun _ _ => rfl)]
          unfold onesOf
          rw [List.map_map]
          rfl
        · have : (fullOf trs).length ≤ trs.length := List.length_filter_le _ trs
          simp only [onesOf, List.length_map, List.length_append]
          omega
      intro p12 zs4 H12 np12 e12 h12 t12
      have e1012 := e11.trans e12
      have good : ∀ rs ∈ tripsK trs c bs, TrOk rs ∧ rs ≠ [] := by
        have one : ∀ (b : Bed) (l : Int), b ∈ bs → 1 ≤ l → l ≤ 1000000 → TrOk [(b.1, l)] := fun b l m h1 h2 => by
          have := gok.p0 b m
          have := gok.p1 b m
          exact ⟨by simp [Asc], by simp, fun r hr => by rw [List.mem_singleton.mp hr]; omega, fun r hr => by rw [List.mem_singleton.mp hr]; omega, fun r hr => by rw [List.mem_singleton.mp hr]; omega, fun r hr => by rw [List.mem_singleton.mp hr]; simp only; omega⟩
        intro rs m
        rcases List.mem_append.mp m with m | m
        · rcases List.mem_append.mp m with m | m
          · have := List.mem_filter.mp m
            exact ⟨trR rs this.1, fun z => by rw [z] at this; simp at this⟩
          · obtain ⟨b, mb, rfl⟩ := List.mem_map.mp m
            exact ⟨one b 1 mb (by omega) (by omega), by simp⟩
        · obtain ⟨b, mb, rfl⟩ := List.mem_map.mp m
          exact ⟨one b c mb gok.c0 gok.c1, by simp⟩
      have lz : zs4.length = (tripsK trs c bs).length := by rw [t12.length, List.length_map]
      refine s_forNL (K := K) (xs := (tapsK t bs).map V.int) ?_ (fun p j σ' H' => ∃ z7 z8 z9 z10 z11 z12 z13 z14 z15, σ' = [some (.ref a), some (.ref D), some (.int i), y3, some (.ref g), some (.ref p12), some (.ref W), z7, z8, z9, z10, z11, z12, z13, z14, z15] ∧ Ex H12 H' ∧ H' p = some (.lst ((tapsK t bs).map V.int))) ?_ ?_ ?_ ?_
      · refine el_is (el_cat (xs := [.int t, .int 0, .int (-1000000), .int 1000000]) (ys := ((bs.map fun b => b.1).map V.int).take 4) ?_ ?_ (by simp; omega)) (by unfold tapsK; rw [List.map_append, List.map_take]; rfl)
        · exact el_lst (ea_cons (ev_op (ev_var rfl) ev_c (rv_ixT (sr (ex_rd e1012 hgR)) rfl)) (ea_cons ev_c (ea_cons (ev_un (p6 H12) ru_neg) (ea_cons (p6 H12) ea_nil)))) (by simp)
        · refine el_take (k := 4) (el_nums (ns := bs.map fun b => b.1) (eld_is (eld_bedsD (bs := bs) (fun _ => true) (fun b => .int b.1) (bedsV rfl e1012) (by omega) (fun _ _ => rfl) (fun _ _ => et_yes) (fun b _ _ => ed_int (ev_var rfl))) ?_)) ev_c
          rw [List.filter_eq_self.mpr (fun _ _ => rfl)]
          exact (List.map_map ..).symm
      · exact fun p H13 np e13 h13 => ⟨_, _, _, _, _, _, _, _, _, rfl, e13, h13⟩
      · rintro p j σ' H' _ ⟨_, _, _, _, _, _, _, _, _, rfl, _, h⟩
        exact sq_of h
      · rintro p j x σ' H13 hj ⟨z7, z8, z9, z10, z11, z12, z13, z14, z15, rfl, e13, h13⟩
        rw [List.getElem?_map] at hj
        obtain ⟨tp, htp, rfl⟩ := Option.map_eq_some_iff.mp hj
        have tp01 : -1000000 ≤ tp ∧ tp ≤ 1000000 := by
          rcases List.mem_append.mp (List.mem_of_getElem? htp) with h | h
          · simp only [List.mem_cons, List.not_mem_nil, or_false] at h
            have := gok.t0
            have := gok.t1
            omega
          · obtain ⟨b, m, rfl⟩ := List.mem_map.mp (List.mem_of_mem_take h)
            have := gok.p0 b m
            have := gok.p1 b m
            omega
        have e1013 := e1012.trans e13
        have shG : Sh (gardenD tp c bs) 30000 3 := sh_garden (by omega) (by omega) (by have := gok.c0; omega) (by have := gok.c1; omega) (fun b m => by
          have := gok.p0 b m
          have := gok.p1 b m
          have := gok.l0 b m
          have := gok.l1 b m
          omega) (by omega)
        -- own
        refine q_asgD (d := gardenD tp c bs) ?_ ?_
        · exact ed_tup (ead_cons (ed_int (ev_var rfl)) (ead_cons (ed_int (ev_op (ev_var rfl) ev_c (rv_ixT (sr (ex_rd e1013 hgR)) rfl))) (ead_cons (bedsV rfl e1013) ead_nil))) (by simp)
        intro ow H14 e14 tow
        refine s_forL (K := K) (a := p12) (xs := zs4) (ev_var rfl) (sq_of ((e13.trans e14) p12 _ h12)) (fun k σ' H' => ∃ z11 z12 z13 z14 z15, σ' = [some (.ref a), some (.ref D), some (.int i), y3, some (.ref g), some (.ref p12), some (.ref W), some (.int tp), z8, z9, some ow, z11, z12, z13, z14, z15] ∧ Ex H14 H') ?_ ?_ ?_ ?_
        · exact fun H15 e15 => ⟨_, _, _, _, _, rfl, e15⟩
        · rintro k σ' H15 _ ⟨_, _, _, _, _, rfl, e15⟩
          exact sq_of (((e13.trans e14).trans e15) p12 _ h12)
        · rintro k x σ' H15 hk ⟨u11, u12, u13, u14, u15, rfl, e15⟩
          have hkl : k < (tripsK trs c bs).length := by
            have := (List.getElem?_eq_some_iff.mp hk).1
            omega
          obtain ⟨v, hv, tv0⟩ := t12.get (i := k) (d := bedsD (tripsK trs c bs)[k]) (by rw [List.getElem?_map, List.getElem?_eq_getElem hkl]; rfl)
          rw [hk] at hv
          cases hv
          obtain ⟨trk, ne⟩ := good _ (List.getElem_mem hkl)
          generalize (tripsK trs c bs)[k] = rs at tv0 trk ne
          have tv := tv0.mono (Tk.ex ((e13.trans e14).trans e15))
          have tw := tow.mono (Tk.ex e15)
          have shL : Sh (.list [gardenD tp c bs, bedsD rs]) 1000000 50 := (sh_lst (k := 30000) (n := 3) (m := 100000) (fun d hd => by
            simp only [List.mem_cons, List.not_mem_nil, or_false] at hd
            rcases hd with rfl | rfl
            · exact shG
            · exact trk.sh.mono (by omega) (by omega)) (by simp)).mono (by omega) (by omega)
          -- before, due
          refine ⟨ow, rfl, x, rfl, by show 2 ≤ sizeLine; decide, fun q1 nq1 => ?_⟩
          have eq1 := Ex.new (o := .lst [ow, x]) nq1
          refine ⟨.ref q1, .list [gardenD tp c bs, bedsD rs], rfl, .lst (sq_of upd_same) (.cons (tw.mono (Tk.ex eq1)).dp (.cons (tv.mono (Tk.ex eq1)).dp .nil)), shL.1, shL.2.1, shL.2.2, ow, rfl, x, rfl, ow, x, tp, c, bs, rs, rfl, tw.mono (Tk.ex eq1), tv.mono (Tk.ex eq1), by have := trk.len; omega, fun r m => ?_, by omega, by omega, fun H16 e16 => ⟨_, _, rfl, ?_⟩⟩
          · have := trk.p0 r m
            have := trk.p1 r m
            omega
          have e1516 := eq1.trans e16
          have tw16 := tw.mono (Tk.ex e1516)
          have tv16 := tv.mono (Tk.ex e1516)
          have way0 : -(10 ^ 39) ≤ wayOf tp rs ∧ wayOf tp rs ≤ 10 ^ 39 := by
            have := wfold_small (t := tp) (by omega) (by omega) rs (0, 0) (fun r m => by
              have := trk.p0 r m
              have := trk.p1 r m
              omega) (by decide) (by decide) (by decide) (by decide)
            unfold wayOf
            omega
          dsimp only
          refine q_when (b := false) ?_ (fun z => nomatch z) ?_
          · refine et_is (et_not (et_B (ev_same (K := K) (ds := [.int (wayOf tp rs), .int (wayOf tp rs)]) ?_ ?_ ?_))) rfl
            · refine eld_range (n := 2) (ea_cons ev_c ea_nil) (by omega) (fun _ => .int (wayOf tp rs)) (fun _ => rfl) fun k _ => ?_
              refine ed_call (vs := [ow, x]) (ea_cons (ev_var rfl) (ea_cons (ev_var rfl) ea_nil)) fun H17 e17 Q2 fin E2 => ?_
              exact ⟨ow, x, tp, c, bs, rs, rfl, tw16.mono (Tk.ex e17), tv16.mono (Tk.ex e17), ne, trk.asc, fun H18 e18 => fin _ H18 e18 (.int _)⟩
            · exact eld_lst (ead_cons (ed_int (ev_var rfl)) (ead_cons (ed_int (ev_var rfl)) ead_nil)) (by simp)
            · refine (sh_lst (k := 100) (n := 0) (m := 1000) (fun d hd => ?_) (by simp)).mono (by omega) (by omega)
              simp only [List.mem_cons, List.not_mem_nil, or_false, or_self] at hd
              rw [hd]
              exact sh_int way0.1 way0.2
          intro _ H17 e17
          refine s_when (b := false) ?_ (fun z => nomatch z) ?_
          · refine et_is (et_test (ev_op (ev_reprL (K := K) (ds := [gardenD tp c bs, bedsD rs]) (eld_lst (ead_cons (ed_val (ev_var rfl) (tw16.mono (Tk.ex e17))) (ead_cons (ed_val (ev_var rfl) (tv16.mono (Tk.ex e17))) ead_nil)) (by simp)) shL) (ev_var rfl) (rv_ne rfl))) ?_
            simp
          · intro _ H18 e18
            exact ⟨_, _, _, _, _, rfl, ((e15.trans e1516).trans e17).trans e18⟩
        · rintro σ' H15 ⟨u11, u12, u13, u14, u15, rfl, e15⟩
          exact ⟨_, _, _, _, _, _, _, _, _, rfl, (e13.trans e14).trans e15, (e14.trans e15) p _ h13⟩
      · rintro p σ' H13 ⟨z7, z8, z9, z10, z11, z12, z13, z14, z15, rfl, e13, h13⟩
        exact ⟨_, _, _, _, _, _, _, _, _, _, _, _, _, _, rfl, (dkR.ex (e1012.trans e13)).mono (by omega)⟩
    · rintro σ' H2 ⟨y2, y3, y4, y5, y6, y7, y8, y9, y10, y11, y12, y13, y14, y15, rfl, dk2⟩
      have m6 : ∀ {σ : L2.St} H, Ev (tUn (rU fun i => .int (-i)) (tOp (rI CPow fun i j => .int (i ^ j.toNat)) (tC (.int 10)) (tC (.int 6)))) σ H (.int (-1000000)) := fun H => ev_un (p6 H) ru_neg
      refine q_asgD (d := gardenD 1000000 9 [(-1000000, 1), (0, 1), (1000000, 1)]) ?_ ?_
      · exact ed_tup (ead_cons (ed_int (p6 _)) (ead_cons (ed_int ev_c) (ead_cons (ed_tup (ead_cons (ed_tup (ead_cons (ed_int (m6 _)) (ead_cons (ed_int ev_c) ead_nil)) (by simp)) (ead_cons (ed_tup (ead_cons (ed_int ev_c) (ead_cons (ed_int ev_c) ead_nil)) (by simp)) (ead_cons (ed_tup (ead_cons (ed_int (p6 _)) (ead_cons (ed_int ev_c) ead_nil)) (by simp)) ead_nil))) (by simp)) ead_nil))) (by simp)
      intro fv H3 e3 tf
      refine s_ret (v := .bl true) ?_ (fun H4 _ => q H4)
      refine ev_is (ev_eqL (K := K) (ds := [.int (wayOf 1000000 [(-1000000, 1), (1000000, 1)]), .int (wayOf 1000000 [(1000000, 1)])]) (es := [.int 4000000, .int 0]) ?_ ?_ (by decide +kernel) (by decide +kernel)) (by decide +kernel)
      · refine eld_lst (ead_cons (ed_call2 (v1 := fv) (d2 := bedsD [(-1000000, 1), (1000000, 1)]) (ev_var rfl) ?_ ?_) (ead_cons (ed_call2 (v1 := fv) (d2 := bedsD [(1000000, 1)]) (ev_var rfl) ?_ ?_) ead_nil)) (by simp)
        · exact ed_tup (ead_cons (ed_tup (ead_cons (ed_int (m6 _)) (ead_cons (ed_int ev_c) ead_nil)) (by simp)) (ead_cons (ed_tup (ead_cons (ed_int (p6 _)) (ead_cons (ed_int ev_c) ead_nil)) (by simp)) ead_nil)) (by simp)
        · exact fun v2 H4 e4 tv Q2 fin E2 => ⟨fv, v2, 1000000, 9, _, [(-1000000, 1), (1000000, 1)], rfl, tf.mono (Tk.ex e4), tv, by simp, by simp [Asc], fun H5 e5 => fin _ H5 e5 (.int _)⟩
        · exact ed_tup (ead_cons (ed_tup (ead_cons (ed_int (p6 _)) (ead_cons (ed_int ev_c) ead_nil)) (by simp)) ead_nil) (by simp)
        · exact fun v2 H4 e4 tv Q2 fin E2 => ⟨fv, v2, 1000000, 9, _, [(1000000, 1)], rfl, tf.mono (Tk.ex e4), tv, by simp, by simp [Asc], fun H5 e5 => fin _ H5 e5 (.int _)⟩
      · refine eld_lst (ead_cons (ed_int (ev_is (ev_op ev_c (p6 _) (rv_I (.inl ⟨by decide, by decide⟩))) rfl)) (ead_cons (ed_int ev_c) ead_nil)) (by simp)
end
end K03

namespace K03
open PySem PySem.Spec PyProof.Rows L2 Evl Cn
theorem all_mk {l : PySem.W.OpenLaw} {w : World} {K : PySem.W.Frag} {h : Heap} {mg : Str → Option Value} {fa : Addr} (X : K.In h) (G : h.Ns mainGlobals mg) (hfa : mg "law" = some (.ref fa))
    {od_way_of_trip an_way_of_trip : Option Addr} {sl_way_of_trip : Array (Option Value)} {oc_way_of_trip kV_way_of_trip dc_way_of_trip pm_way_of_trip cd_way_of_trip ct_way_of_trip : Value} {f_way_of_trip : Addr}
    (a_way_of_trip : PySem.W.nsIn K mainGlobals "way_of_trip" = some (some (.ref f_way_of_trip)))
    (l_way_of_trip : K.lookup f_way_of_trip = some ⟨oc_way_of_trip, od_way_of_trip, .func (PySem.W.fnOf "way_of_trip" "way_of_trip" (defArgs s_way_of_trip) (defBody s_way_of_trip) (defScope s_way_of_trip) .none kV_way_of_trip dc_way_of_trip pm_way_of_trip an_way_of_trip cd_way_of_trip ct_way_of_trip), sl_way_of_trip⟩)
    (c_way_of_trip : PySem.W.codeIn K cd_way_of_trip "way_of_trip" = true) (k_way_of_trip : PySem.W.keepIn K (.ref f_way_of_trip) = true)
    {od_l_deck an_l_deck : Option Addr} {sl_l_deck : Array (Option Value)} {oc_l_deck kV_l_deck dc_l_deck pm_l_deck cd_l_deck ct_l_deck : Value} {f_l_deck : Addr}
    (a_l_deck : PySem.W.nsIn K mainGlobals "_law_deck" = some (some (.ref f_l_deck)))
    (l_l_deck : K.lookup f_l_deck = some ⟨oc_l_deck, od_l_deck, .func (PySem.W.fnOf "_law_deck" "_law_deck" (defArgs s_l_deck) (defBody s_l_deck) (defScope s_l_deck) .none kV_l_deck dc_l_deck pm_l_deck an_l_deck cd_l_deck ct_l_deck), sl_l_deck⟩)
    (c_l_deck : PySem.W.codeIn K cd_l_deck "_law_deck" = true) (k_l_deck : PySem.W.keepIn K (.ref f_l_deck) = true)
    {od_l_draw an_l_draw : Option Addr} {sl_l_draw : Array (Option Value)} {oc_l_draw kV_l_draw dc_l_draw pm_l_draw cd_l_draw ct_l_draw : Value} {f_l_draw : Addr}
    (a_l_draw : PySem.W.nsIn K mainGlobals "_law_draw" = some (some (.ref f_l_draw)))
    (l_l_draw : K.lookup f_l_draw = some ⟨oc_l_draw, od_l_draw, .func (PySem.W.fnOf "_law_draw" "_law_draw" (defArgs s_l_draw) (defBody s_l_draw) (defScope s_l_draw) .none kV_l_draw dc_l_draw pm_l_draw an_l_draw cd_l_draw ct_l_draw), sl_l_draw⟩)
    (c_l_draw : PySem.W.codeIn K cd_l_draw "_law_draw" = true) (k_l_draw : PySem.W.keepIn K (.ref f_l_draw) = true)
    {od_l_same an_l_same : Option Addr} {sl_l_same : Array (Option Value)} {oc_l_same kV_l_same dc_l_same pm_l_same cd_l_same ct_l_same : Value} {f_l_same : Addr}
    (a_l_same : PySem.W.nsIn K mainGlobals "_law_same" = some (some (.ref f_l_same)))
    (l_l_same : K.lookup f_l_same = some ⟨oc_l_same, od_l_same, .func (PySem.W.fnOf "_law_same" "_law_same" (defArgs s_l_same) (defBody s_l_same) (defScope s_l_same) .none kV_l_same dc_l_same pm_l_same an_l_same cd_l_same ct_l_same), sl_l_same⟩)
    (c_l_same : PySem.W.codeIn K cd_l_same "_law_same" = true) (k_l_same : PySem.W.keepIn K (.ref f_l_same) = true)
    {od_l_garden an_l_garden : Option Addr} {sl_l_garden : Array (Option Value)} {oc_l_garden kV_l_garden dc_l_garden pm_l_garden cd_l_garden ct_l_garden : Value} {f_l_garden : Addr}
    (a_l_garden : PySem.W.nsIn K mainGlobals "_law_garden" = some (some (.ref f_l_garden)))
    (l_l_garden : K.lookup f_l_garden = some ⟨oc_l_garden, od_l_garden, .func (PySem.W.fnOf "_law_garden" "_law_garden" (defArgs s_l_garden) (defBody s_l_garden) (defScope s_l_garden) .none kV_l_garden dc_l_garden pm_l_garden an_l_garden cd_l_garden ct_l_garden), sl_l_garden⟩)
    (c_l_garden : PySem.W.codeIn K cd_l_garden "_law_garden" = true) (k_l_garden : PySem.W.keepIn K (.ref f_l_garden) = true)
    {od_l_trip an_l_trip : Option Addr} {sl_l_trip : Array (Option Value)} {oc_l_trip kV_l_trip dc_l_trip pm_l_trip cd_l_trip ct_l_trip : Value} {f_l_trip : Addr}
    (a_l_trip : PySem.W.nsIn K mainGlobals "_law_trip" = some (some (.ref f_l_trip)))
    (l_l_trip : K.lookup f_l_trip = some ⟨oc_l_trip, od_l_trip, .func (PySem.W.fnOf "_law_trip" "_law_trip" (defArgs s_l_trip) (defBody s_l_trip) (defScope s_l_trip) .none kV_l_trip dc_l_trip pm_l_trip an_l_trip cd_l_trip ct_l_trip), sl_l_trip⟩)
    (c_l_trip : PySem.W.codeIn K cd_l_trip "_law_trip" = true) (k_l_trip : PySem.W.keepIn K (.ref f_l_trip) = true)
    {od_l_way an_l_way : Option Addr} {sl_l_way : Array (Option Value)} {oc_l_way kV_l_way dc_l_way pm_l_way cd_l_way ct_l_way : Value} {f_l_way : Addr}
    (a_l_way : PySem.W.nsIn K mainGlobals "_law_way" = some (some (.ref f_l_way)))
    (l_l_way : K.lookup f_l_way = some ⟨oc_l_way, od_l_way, .func (PySem.W.fnOf "_law_way" "_law_way" (defArgs s_l_way) (defBody s_l_way) (defScope s_l_way) .none kV_l_way dc_l_way pm_l_way an_l_way cd_l_way ct_l_way), sl_l_way⟩)
    (c_l_way : PySem.W.codeIn K cd_l_way "_law_way" = true) (k_l_way : PySem.W.keepIn K (.ref f_l_way) = true)
    {od_law an_law : Option Addr} {sl_law : Array (Option Value)} {oc_law kV_law dc_law pm_law cd_law ct_law : Value} {f_law : Addr}
    (a_law : PySem.W.nsIn K mainGlobals "law" = some (some (.ref f_law)))
    (l_law : K.lookup f_law = some ⟨oc_law, od_law, .func (PySem.W.fnOf "law" "law" (defArgs s_law) (defBody s_law) (defScope s_law) .none kV_law dc_law pm_law an_law cd_law ct_law), sl_law⟩)
    (c_law : PySem.W.codeIn K cd_law "law" = true) (k_law : PySem.W.keepIn K (.ref f_law) = true)
    (z_set : PySem.W.nsIn K mainGlobals "set" = some none)
    (z_sorted : PySem.W.nsIn K mainGlobals "sorted" = some none)
    (z_tuple : PySem.W.nsIn K mainGlobals "tuple" = some none)
    (z_abs : PySem.W.nsIn K mainGlobals "abs" = some none)
    (z_len : PySem.W.nsIn K mainGlobals "len" = some none)
    (z_repr : PySem.W.nsIn K mainGlobals "repr" = some none)
    (z_range : PySem.W.nsIn K mainGlobals "range" = some none)
    (z_min : PySem.W.nsIn K mainGlobals "min" = some none)
    (z_max : PySem.W.nsIn K mainGlobals "max" = some none)
    (z_dict : PySem.W.nsIn K mainGlobals "dict" = some none)
    : ∃ fd : FuncData, (∀ (s : Shared) (v : Value), BindsTo s fd ⟨[v], []⟩ [("_law_script", v)]) ∧ ∀ base : Heap, K.In base → base.Ns mainGlobals mg → FnG l.prog w K mg base 3 fa fd ["_law_script"] (spLaw K) := by
  have e := hfa.symm.trans (PySem.W.mg_of X G a_law)
  cases e
  have m_set : mg "set" = none := PySem.W.mg_none_of X G z_set
  have m_sorted : mg "sorted" = none := PySem.W.mg_none_of X G z_sorted
  have m_tuple : mg "tuple" = none := PySem.W.mg_none_of X G z_tuple
  have m_abs : mg "abs" = none := PySem.W.mg_none_of X G z_abs
  have m_len : mg "len" = none := PySem.W.mg_none_of X G z_len
  have m_repr : mg "repr" = none := PySem.W.mg_none_of X G z_repr
  have m_range : mg "range" = none := PySem.W.mg_none_of X G z_range
  have m_min : mg "min" = none := PySem.W.mg_none_of X G z_min
  have m_max : mg "max" = none := PySem.W.mg_none_of X G z_max
  have m_dict : mg "dict" = none := PySem.W.mg_none_of X G z_dict
  have F_way_of_trip := fun_mk (st := s_way_of_trip) l_way_of_trip c_way_of_trip k_way_of_trip
  have b_way_of_trip := F_way_of_trip.binds (ps := ["garden", "trip"]) fun _ _ _ _ _ _ us hl => match us, hl with | [_, _], _ => rfl
  have g_way_of_trip := PySem.W.mg_of X G a_way_of_trip
  have F_l_deck := fun_mk (st := s_l_deck) l_l_deck c_l_deck k_l_deck
  have b_l_deck := F_l_deck.binds (ps := ["_law_script"]) fun _ _ _ _ _ _ us hl => match us, hl with | [_], _ => rfl
  have g_l_deck := PySem.W.mg_of X G a_l_deck
  have F_l_draw := fun_mk (st := s_l_draw) l_l_draw c_l_draw k_l_draw
  have b_l_draw := F_l_draw.binds (ps := ["_law_deck_here", "_law_limit"]) fun _ _ _ _ _ _ us hl => match us, hl with | [_, _], _ => rfl
  have g_l_draw := PySem.W.mg_of X G a_l_draw
  have F_l_same := fun_mk (st := s_l_same) l_l_same c_l_same k_l_same
  have b_l_same := F_l_same.binds (ps := ["_law_value", "_law_due"]) fun _ _ _ _ _ _ us hl => match us, hl with | [_, _], _ => rfl
  have g_l_same := PySem.W.mg_of X G a_l_same
  have F_l_garden := fun_mk (st := s_l_garden) l_l_garden c_l_garden k_l_garden
  have b_l_garden := F_l_garden.binds (ps := ["_law_deck_here", "_law_most", "_law_top"]) fun _ _ _ _ _ _ us hl => match us, hl with | [_, _, _], _ => rfl
  have g_l_garden := PySem.W.mg_of X G a_l_garden
  have F_l_trip := fun_mk (st := s_l_trip) l_l_trip c_l_trip k_l_trip
  have b_l_trip := F_l_trip.binds (ps := ["_law_deck_here", "_law_garden_here", "_law_wants"]) fun _ _ _ _ _ _ us hl => match us, hl with | [_, _, _], _ => rfl
  have g_l_trip := PySem.W.mg_of X G a_l_trip
  have F_l_way := fun_mk (st := s_l_way) l_l_way c_l_way k_l_way
  have b_l_way := F_l_way.binds (ps := ["_law_garden_here", "_law_trip_here"]) fun _ _ _ _ _ _ us hl => match us, hl with | [_, _], _ => rfl
  have g_l_way := PySem.W.mg_of X G a_l_way
  have F_law := fun_mk (st := s_law) l_law c_law k_law
  refine ⟨PySem.W.fnOf "law" "law" (defArgs s_law) (defBody s_law) (defScope s_law) .none kV_law dc_law pm_law an_law cd_law ct_law, fun s v => .of_eq rfl, fun base inB glB => ?_⟩
  have G_way_of_trip := ok_way_of_trip (P := l.prog) (w := w) (base := base) F_way_of_trip m_max
  have G_l_deck := ok_l_deck (P := l.prog) (w := w) (base := base) F_l_deck m_abs
  have G_l_draw := ok_l_draw (P := l.prog) (w := w) (base := base) F_l_draw m_len
  have G_l_same := ok_l_same (P := l.prog) (w := w) (base := base) F_l_same m_repr
  have G_l_garden := ok_l_garden (P := l.prog) (w := w) (base := base) F_l_garden m_len m_range m_set m_sorted m_tuple G_l_draw g_l_draw F_l_draw b_l_draw
  have G_l_trip := ok_l_trip (P := l.prog) (w := w) (base := base) F_l_trip m_min m_sorted m_tuple G_l_draw g_l_draw F_l_draw b_l_draw
  have G_l_way := ok_l_way (P := l.prog) (w := w) (base := base) F_l_way m_max
  exact ok_law F_law m_dict m_range m_repr G_l_deck g_l_deck F_l_deck b_l_deck G_l_garden g_l_garden F_l_garden b_l_garden G_l_same g_l_same F_l_same b_l_same G_l_trip g_l_trip F_l_trip b_l_trip G_l_way g_l_way F_l_way b_l_way G_way_of_trip g_way_of_trip F_way_of_trip b_way_of_trip
end K03
open PySem PySem.W PyProof.Rows
set_option maxHeartbeats 0 in
theorem PySem.Challenge.cw_canpath_k03_ways_of_trips_holds : PySem.Challenge.rw_canpath_k03_ways_of_trips.Holds := by
  w_on; o_law; k_head; (case hw => w_witness2)
  k_fill
  refine Cn.walkG (l := PySem.Challenge.rw_canpath_k03_ways_of_trips) (n := 63) (k := 3) (x := "_law_script") (sp := K03.spLaw) rfl (by decide) rfl ⟨rfl, by decide, by decide⟩ (fun w h Y => PySem.W.kIn_of Y) ?F (fun K H a ns hl hS => ⟨a, ns, rfl, hS, hl, fun _ => rfl⟩)
  case F =>
    intro w mg fa h KX G hmg
    refine' K03.all_mk KX G hmg ?a_way_of_trip ?l_way_of_trip ?c_way_of_trip ?k_way_of_trip ?a_l_deck ?l_l_deck ?c_l_deck ?k_l_deck ?a_l_draw ?l_l_draw ?c_l_draw ?k_l_draw ?a_l_same ?l_l_same ?c_l_same ?k_l_same ?a_l_garden ?l_l_garden ?c_l_garden ?k_l_garden ?a_l_trip ?l_l_trip ?c_l_trip ?k_l_trip ?a_l_way ?l_l_way ?c_l_way ?k_l_way ?a_law ?l_law ?c_law ?k_law ?z_set ?z_sorted ?z_tuple ?z_abs ?z_len ?z_repr ?z_range ?z_min ?z_max ?z_dict
    (case a_way_of_trip => k_is)
    (case l_way_of_trip => k_is)
    (case c_way_of_trip => k_is)
    (case k_way_of_trip => k_is)
    (case a_l_deck => k_is)
    (case l_l_deck => k_is)
    (case c_l_deck => k_is)
    (case k_l_deck => k_is)
    (case a_l_draw => k_is)
    (case l_l_draw => k_is)
    (case c_l_draw => k_is)
    (case k_l_draw => k_is)
    (case a_l_same => k_is)
    (case l_l_same => k_is)
    (case c_l_same => k_is)
    (case k_l_same => k_is)
    (case a_l_garden => k_is)
    (case l_l_garden => k_is)
    (case c_l_garden => k_is)
    (case k_l_garden => k_is)
    (case a_l_trip => k_is)
    (case l_l_trip => k_is)
    (case c_l_trip => k_is)
    (case k_l_trip => k_is)
    (case a_l_way => k_is)
    (case l_l_way => k_is)
    (case c_l_way => k_is)
    (case k_l_way => k_is)
    (case a_law => k_is)
    (case l_law => k_is)
    (case c_law => k_is)
    (case k_law => k_is)
    (case z_set => k_is)
    (case z_sorted => k_is)
    (case z_tuple => k_is)
    (case z_abs => k_is)
    (case z_len => k_is)
    (case z_repr => k_is)
    (case z_range => k_is)
    (case z_min => k_is)
    (case z_max => k_is)
    (case z_dict => k_is)
