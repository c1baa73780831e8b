import PyProof.Rows.All
import Wide.All
import OpenK.AllK
import Wide.FinOn
import PyProof.ReprRoads
import PyProof.ReprLen
import HandS.Base
import HandS.Call
import HandS.List
import HandS.Comp
import HandS.Ends
import HandS.Dict
import HandS.Iter
import HandS.Text
import HandS.Words
import HandS.WordsList
import HandS.ForMost
import HandS.Style
import HandS.Wide
import HandS.Evl
import PySem.Challenge.RW_keptrest_k19_ways_of_winds
set_option Elab.async false
set_option linter.all false
set_option maxRecDepth 100000
/-! Kt, part A: defs that are known to run while no repr is under way, so that repr of data can be told. -/
namespace Kt
open PySem PySem.Spec PyProof.Rows L2

/-- as FnOk, for calls while nothing guarded is under way -/
structure FnG (P : Program) (w : World) (K : PySem.W.Frag) (mg : Str → Option Value) (base : Heap) (CX : CXT) (k : Nat) (f : Addr) (fd : FuncData) (ps : List Str) (sp : Sp) : Prop where
  len : ∀ vs H Q E, sp vs H Q E → vs.length = ps.length
  run : ∀ (A : Around) (outer : List Env) (s : Shared) (H : Hp) (args : Args) (us : List Value) (vs : List V) (Q : VK) (E : XK), A.guards = some [] → Room k A → Env0 P w K mg base A outer s H →
    BindsTo s fd args (ps.zip us) → Vals vs us → sp vs H Q E → codeAny (model P w) A (.call (.ref f) args) (CR CX outer P w H s Q E) s

section
variable {P : Program} {w : World} {K : PySem.W.Frag} {mg : Str → Option Value} {base : Heap}

theorem FnG.mono {CX : CXT} {j k : Nat} {f : Addr} {fd : FuncData} {ps : List Str} {sp : Sp} (F : FnG P w K mg base CX j f fd ps sp) (h : j ≤ k) : FnG P w K mg base CX k f fd ps sp :=
  ⟨F.len, fun A outer s H args us vs Q E hg hr => F.run A outer s H args us vs Q E hg (hr.mono h)⟩

theorem FnG.of {CX : CXT} {k : Nat} {f : Addr} {fd : FuncData} {ps : List Str} {sp : Sp} (F : FnOk P w K mg base CX k f fd ps sp) : FnG P w K mg base CX k f fd ps sp :=
  ⟨F.len, fun A outer s H args us vs Q E _ hr => F.run A outer s H args us vs Q E hr⟩

/-- a def by its body, while no repr is under way -/
theorem FunG {x qual : Str} {st : Stmt} {f : Addr} {fd : FuncData} {N ps : List Str} {k : Nat} {sp : Sp} (F : Fun K x qual st f fd) (S : FnScope N ps (defScope st))
    (len : ∀ vs H Q E, sp vs H Q E → vs.length = ps.length)
    (hbody : ∀ (cdv : Value) (A : Around) (outer : List Env) (s : Shared) (H : Hp) (vs : List V) (Q : VK) (E : XK), A.guards = some [] → Room k (A.deeper (envOfC qual (defScope st) s.heap.objs.size f cdv)) → sp vs H Q E →
      ∃ t, PSs (cxOf CX0 P w K mg base N qual (defScope st) f cdv A outer s H E).nox (defBody st) t ∧ t { nx := fun _ H' => Q .non H', rt := Q } (start N vs) H) : FnG P w K mg base CX0 (k + 1) f fd ps sp := by
  obtain ⟨oc, od, kV, doc, pm, an, cdv, ct, osl, rfl, lk, hcd⟩ := F.ex
  refine ⟨len, ?_⟩
  intro A outer s H args us vs Q E hg hr e0 hb r hsp
  have keepB : ∀ b o, base.get? b = some o → s.heap.get? b = some o := fun b o e => (e0.bs b o e).1
  have KX := e0.mod.kin.keeps keepB
  have lim := e0.mod.nolimit.keeps keepB
  refine codeAny_call_function hr.depth (KX _ _ lk) rfl S.co S.gen rfl (PySem.W.codeRec_of KX hcd) (hb _ _ _ _ ?_)
  refine wpAny_newFunctionEnv_cells S.kind (fun y hy => ?_) fun env he s1 x1 => ?_
  · obtain ⟨n, v⟩ := y
    exact (S.par n (List.of_mem_zip hy).1).imp id fun q => ⟨q, PySem.W.cellsFrom_some _ _ _ (.inl q)⟩
  subst he
  refine ⟨lim.keeps x1.toInCall.keep, codeAny_func ?_⟩
  obtain ⟨t, ht, hq⟩ := hbody cdv A outer s H vs Q E hg (hr.deeper _) hsp
  refine wpAny_mono (ht.nox.run [] s1 (start N vs) H _ (inv_start (P := P) (w := w) S hr.hd e0 (len _ _ _ _ hsp) r x1) hq) (fun fl s' hs => ?_) fun _ _ hs => hs
  cases fl with
  | ret u =>
    obtain ⟨v, σ', H', J, rv, q⟩ := hs
    exact ⟨v, H', J.os, J.bare, J.base, J.hok, rv, q⟩
  | next =>
    obtain ⟨σ', H', J, q⟩ := hs
    exact ⟨V.non, H', J.os, J.bare, J.base, J.hok, rfl, q⟩
  | brk =>
    obtain ⟨_, _, _, q⟩ := hs
    exact q.elim
  | cont =>
    obtain ⟨_, _, _, q⟩ := hs
    exact q.elim

/-- a def that may be called by its name -/
structure CalG (P : Program) (w : World) (K : PySem.W.Frag) (mg : Str → Option Value) (base : Heap) (k : Nat) (x : Str) (sp : Sp) : Prop where
  ex : ∃ (f : Addr) (fd : FuncData) (ps : List Str), FnG P w K mg base CX0 k f fd ps sp ∧ mg x = some (.ref f) ∧ PySem.W.keepIn K (.ref f) = true ∧ Binds K fd ps []
/-- a def of the module's text, under its name -/
structure DefG (K : PySem.W.Frag) (mg : Str → Option Value) (x : Str) (st : Stmt) (ps : List Str) : Prop where
  ex : ∃ (f : Addr) (fd : FuncData), Fun K x x st f fd ∧ mg x = some (.ref f) ∧ Binds K fd ps []
theorem calG {x : Str} {st : Stmt} {N ps : List Str} {k : Nat} {sp : Sp} (D : DefG K mg x st ps) (S : FnScope N ps (defScope st)) (len : ∀ vs H Q E, sp vs H Q E → vs.length = ps.length)
    (hbody : ∀ (cdv : Value) (f : Addr) (A : Around) (outer : List Env) (s : Shared) (H : Hp) (vs : List V) (Q : VK) (E : XK), A.guards = some [] → Room k (A.deeper (envOfC x (defScope st) s.heap.objs.size f cdv)) → sp vs H Q E →
      ∃ t, PSs (cxOf CX0 P w K mg base N x (defScope st) f cdv A outer s H E).nox (defBody st) t ∧ t { nx := fun _ H' => Q .non H', rt := Q } (start N vs) H) : CalG P w K mg base (k + 1) x sp := by
  obtain ⟨f, fd, F, m, b⟩ := D.ex
  exact ⟨f, fd, ps, FunG F S len fun cdv => hbody cdv f, m, F.kp, b⟩
end

section
variable {X : Cx} {k j : Nat} {x : Str} {sp : Sp} {p pos : Pos} {e : Expr} {es : List Expr} {t : TA}
theorem run_fnG {f : Addr} {fd : FuncData} {ps : List Str} {pins : List (Addr × Obj)} {σ : L2.St} {H : Hp} {s : Shared} {Q : VK} {us : List Value} {vs : List V} (F : FnG X.prog X.w X.K X.mg X.base CX0 k f fd ps sp) (hA : X.A.guards = some []) (hr : Room k X.A) (hb : Binds X.K fd ps [])
    (I : Inv X pins σ H s) (r : Vals vs us) (h : sp vs H Q E0) : wpAny (model X.prog X.w) X.A (call (.ref f) us) (EP X pins σ Q) X.xe s := by
  have e0 : us ++ [] = us := List.append_nil us
  have hl : (us ++ []).length = ps.length := by rw [e0, ← r.length]; exact F.len _ _ _ _ h
  have hbs := hb s us I.kIn hl
  rw [e0] at hbs
  refine wpAny_call (codeAny_mono (F.run X.A X.stack s H ⟨us, []⟩ us vs Q E0 hA hr I.env0 hbs r h) fun r' s' hq => ?_)
  match r', hq with
  | .error _, hq => exact hq.elim
  | .ok (.ret _), hq => exact I.after hq
  | .ok .next, hq => exact False.elim hq
  | .ok .brk, hq => exact False.elim hq
  | .ok .cont, hq => exact False.elim hq
/-- f(e, ..) -/
theorem pe_cG (c : CalG X.prog X.w X.K X.mg X.base k x sp) (hA : X.A.guards = some []) (hr : Room j X.A) (hk : k ≤ j) (hg : Gl X x) (ha : PA X (e :: es) t) (hdb : (x == ("__debug__" : Str)) = false := by decide)
    (he : starEach (e :: es) X.env = (false, eval e X.env) :: starEach es X.env := by rfl) (hpl : (backTo pos (starEach es X.env)).any (·.1) = false := by rfl) :
    PE X (.Call (.Name x p) (e :: es) [] pos) (fun σ H Q => t σ H fun vs H1 => sp vs H1 Q E0) := by
  obtain ⟨f, fd, ps, F, m, kp, b⟩ := c.ex
  refine ⟨fun pins s σ H Q I h => ?_⟩
  refine wpAny_Call_Name_kw (ld_glob I hg m ?_ hdb)
  refine PySem.W.callWith_K (h₀ := X.base) I.ok.mod.kin kp (thn (ha.run pos pins s σ H _ I h) fun us s1 ⟨vs, H1, I1, r, q⟩ => ⟨I1.kIn, ?_⟩) he hpl
  exact run_fnG F hA (hr.mono hk) b I1 r q
end

/-! ### repr of data -/
section
variable {X : Cx}
def rReprD (K : PySem.W.Frag) : List V → Hp → VK → Prop := fun vs H Q => ∃ (a : Addr) (d : PyData), vs = [.ref a] ∧ Dp K H (.ref a) d ∧ d.showable = true ∧ d.canLay0 = true ∧ d.depth ≤ 128 ∧ d.shown.length ≤ sizeLine ∧ Q (.str d.shown) H
theorem call_reprD (hA : X.A.guards = some []) (hu : X.A.units + 129 < cLine) : CallR X (.builtin "repr") (rReprD X.K) := by
  intro pins s σ H vs us Q I r h
  obtain ⟨a, d, rfl, hd, hs, hc, hdp, hz, q⟩ := h
  obtain ⟨u, rfl, ru⟩ := vals1 r
  cases ru
  obtain ⟨as, rd⟩ := Dp.reads I d _ _ hd rfl
  refine repr_of_reads' rd hs (PyData.noDict_hsm (PyData.hasDict_of_canLay d hc)) hA (by omega) (fun _ _ e => e) (fun h' u tk hk => ?_) hz
  exact ⟨.str d.shown, H, I.kept hk, ⟨u, rfl⟩, q⟩
end
/-! ### the end of a law's row -/
section
variable {P : Program} {w : World} {K : PySem.W.Frag} {mg mb : Str → Option Value}
/-- what stands while the law is called: True, nothing old changed -/
def LawEnd (s₁ : Shared) (r : Result) (s' : Shared) : Prop := r = .ok (.ret (.bool true)) ∧ OldK s₁.heap s'.heap ∧ s'.os = s₁.os ∧ AllBare s'.gens
/-- the heap in which the script alone is tracked -/
def scriptHp (a : Addr) (vs : List Value) (ns : List Int) : Hp := fun b => if b = a then some (.frz { cls := .type "list", data := .seq vs.toArray } (.lst (ns.map V.int))) else none
theorem scriptHp_self {a : Addr} {vs : List Value} {ns : List Int} : scriptHp a vs ns a = some (.frz { cls := .type "list", data := .seq vs.toArray } (.lst (ns.map V.int))) := if_pos rfl
theorem scriptHp_other {a b : Addr} {vs : List Value} {ns : List Int} (h : b ≠ a) : scriptHp a vs ns b = none := if_neg h

theorem lawG_core {k : Nat} {fa a : Addr} {fd : FuncData} {x : Str} {sp : Sp} {s₁ : Shared} {vs : List Value} {ns : List Int} {H : Hp}
    (KX : K.In s₁.heap) (hns : s₁.heap.Ns mainGlobals mg) (hb : s₁.heap.Ns builtinsNs mb) (hbb : ∀ x : Str, x ≠ "__name__" → mb x = bootBuiltins x) (hlim : s₁.heap.NoLimit) (hg : s₁.gens = #[])
    (ha : s₁.heap.get? a = some { cls := .type "list", data := .seq vs.toArray }) (hr : Room k callerA)
    (F : ∀ base : Heap, K.In base → base.Ns mainGlobals mg → FnG P w K mg base CX0 k fa fd [x] sp) (hbind : ∀ (s : Shared) (u : Value), BindsTo s fd ⟨[u], []⟩ [(x, u)])
    (hsp : sp [.ref a] H (fun v _ => v = .bl true) E0)
    (hO : ∀ b, H b = none ∨ (b = a ∧ K.lookup a = none ∧ H b = some (.frz { cls := .type "list", data := .seq vs.toArray } (.lst (ns.map V.int))))) (hok : HOk P w H s₁.heap) :
    codeAny (model P w) callerA (.call (.ref fa) ⟨[.ref a], []⟩) (LawEnd s₁) s₁ := by
  have isA : ∀ {b : Addr} {u : HO}, H b = some u → b = a ∧ K.lookup a = none := fun {b u} e => by
    rcases hO b with z | ⟨z1, z2, _⟩
    · rw [e] at z; cases z
    · exact ⟨z1, z2⟩
  have seen : ∀ {b : Addr} {o : Obj}, s₁.heap.get? b = some o → (b = a → False) → (hidT s₁.heap H).get? b = some o := fun {b o} e n => hidT_get e (by
    cases q : H b with
    | none => rfl
    | some u => exact (n (isA q).1).elim)
  have nsK : ∀ {b : Addr} {m : Str → Option Value}, s₁.heap.Ns b m → (hidT s₁.heap H).Ns b m := fun {b m} ⟨o, es, ep, e, d, r⟩ => ⟨o, es, ep, seen e (fun z => by
    subst z
    rw [ha] at e
    cases e
    cases d), d, r⟩
  have hKb : K.In (hidT s₁.heap H) := fun b o e => hidT_get (KX b o e) (by
    cases q : H b with
    | none => rfl
    | some u =>
      obtain ⟨z1, z2⟩ := isA q
      subst z1
      rw [z2] at e
      cases e)
  obtain ⟨mc, l1, l2⟩ := hlim
  have hM : Mod K mg (hidT s₁.heap H) := ⟨hKb, nsK hns, ⟨mb, nsK hb, hbb⟩, ⟨mc, nsK l1, l2⟩⟩
  have none_in : ∀ {b : Addr}, b ∉ frs ([] : List Env) := fun z => by cases z
  have e0 : Env0 P w K mg (hidT s₁.heap H) callerA [] s₁ H := ⟨rfl, hM, fun b o e => of_hidT e, Nat.le_of_eq (hidT_size _ _), trivial, fun b z => (none_in z).elim, hok, .of_eq hg⟩
  refine codeAny_mono ((F _ hKb (nsK hns)).run callerA [] s₁ H ⟨[.ref a], []⟩ [.ref a] [.ref a] _ _ rfl hr e0 (hbind s₁ (.ref a)) (.cons rfl .nil) hsp) fun r s' h => ?_
  match r, h with
  | .error _, h => exact h.elim
  | .ok .next, h => exact False.elim h
  | .ok .brk, h => exact False.elim h
  | .ok .cont, h => exact False.elim h
  | .ok (.ret u), h =>
    obtain ⟨v, H', os, bare, un, hok', rv, q⟩ := h
    have q' : v = .bl true := q
    subst q'
    cases (show u = Value.bool true from rv)
    refine ⟨rfl, OldK.of_keep fun b o e => ?_, os, bare⟩
    rcases hO b with z | ⟨z1, _, z⟩
    · exact un.keep b o e z none_in (fun y => by cases y)
    · obtain ⟨e1, _⟩ := hok b _ z
      obtain ⟨e2, _⟩ := hok' b _ (un.frzs b _ _ z)
      rw [e] at e1
      cases e1
      exact e2

theorem walk_ofG {l : PySem.W.OpenLaw} {n k : Nat} {q : Program} {loose : List Str} {XP : (Str → Option Value) → Heap → Prop} {YP : World → Heap → Prop} {d : DefRec} {K : Params → PySem.W.Frag} {sp : PySem.W.Frag → Sp} {x : Str}
    (hn : l.most = some n) (hn2 : n ≤ sizeLine) (hdf : d.params.defaults = []) (hr : Room k callerA) (hY : ∀ (w : World) (h : Heap), YP w h → (K w.params).In h)
    (F : ∀ (w : World) (mg : Str → Option Value) (fa : Addr) (h : Heap), (K w.params).In h → h.Ns mainGlobals mg → mg d.name = some (.ref fa) →
      ∃ fd : FuncData, (∀ (s : Shared) (u : Value), BindsTo s fd ⟨[u], []⟩ [(x, u)]) ∧ ∀ base : Heap, (K w.params).In base → base.Ns mainGlobals mg → FnG l.prog w (K w.params) mg base CX0 k fa fd [x] (sp (K w.params)))
    (hsp : ∀ (K : PySem.W.Frag) (H : Hp) (a : Addr) (ns : List Int), ns.length ≤ n → SqL K H a (ns.map V.int) → sp K [.ref a] H (fun v _ => v = .bl true) E0) :
    PySem.W.WalkO q loose XP YP l.row.toRowW d [] (fun f vs => PySem.call f vs) := by
  refine Att.attach_call hn hdf fun w s₀ s₁ mg mb fa o pm cd doc a vs ns G Y ho hd hcd hmg hobj hints hlen hg => ?_
  have KX := hY w _ Y
  obtain ⟨fd, hb, hF⟩ := F w mg fa _ KX G.T.g hmg
  have rv := vals_ints hints
  have hl2 : ns.length ≤ sizeLine := Nat.le_trans hlen hn2
  cases hk : (K w.params).lookup a with
  | some oo =>
    have e := KX a oo hk
    rw [hobj] at e
    cases e
    refine lawG_core (ns := ns) (H := fun _ => none) KX G.T.g G.T.b G.T.builtins G.T.nolimit hg hobj hr hF hb (hsp _ _ a ns hlen (.inr ⟨_, vs.toArray, _, hk, rfl, rfl, rfl, ?_, by simpa using rv⟩)) (fun b => .inl rfl) (fun b u z => by cases z)
    rw [List.size_toArray, hints.length]
    exact hl2
  | none =>
    refine lawG_core (ns := ns) (H := scriptHp a vs ns) KX G.T.g G.T.b G.T.builtins G.T.nolimit hg hobj hr hF hb (hsp _ _ a ns hlen (.inl (.inr ⟨_, scriptHp_self⟩))) (fun b => ?_) (fun b u z => ?_)
    · by_cases hb' : b = a
      · subst hb'
        exact .inr ⟨rfl, hk, scriptHp_self⟩
      · exact .inl (scriptHp_other hb')
    · by_cases hb' : b = a
      · subst hb'
        rw [scriptHp_self] at z
        cases z
        exact ⟨hobj, by rw [List.length_map]; exact hl2, vs, _, rv, hobj⟩
      · rw [scriptHp_other hb'] at z
        cases z
end
end Kt
/-! Kt, part B: one small step a combinator, and a walk over them. -/
namespace Kt
open PySem PySem.Spec PyProof.Rows L2 Evl
/-! ### readings under a name -/
/-- a new tuple, a new list, whose size is asked; and whose size is not -/
def NewT (xs : List V) (H : Hp) (Q : VK) : Prop := xs.length ≤ sizeLine ∧ ∀ p, H p = none → Q (.ref p) (upd H p (.tup xs))
def NewL (xs : List V) (H : Hp) (Q : VK) : Prop := xs.length ≤ sizeLine ∧ ∀ p, H p = none → Q (.ref p) (upd H p (.lst xs))
def MakT (xs : List V) (H : Hp) (Q : VK) : Prop := ∀ p, H p = none → Q (.ref p) (upd H p (.tup xs))
def MakL (xs : List V) (H : Hp) (Q : VK) : Prop := ∀ p, H p = none → Q (.ref p) (upd H p (.lst xs))
def rTupO (K : PySem.W.Frag) : List V → Hp → VK → Prop := fun vs H Q => ∃ p ys, vs = [.ref p] ∧ ((SqL K H p ys ∧ MakT ys H Q) ∨ (SqT K H p ys ∧ Q (.ref p) H))
def rLstO (K : PySem.W.Frag) : List V → Hp → VK → Prop := fun vs H Q => ∃ p ys, vs = [.ref p] ∧ (SqL K H p ys ∨ SqT K H p ys) ∧ MakL ys H Q
def rLenO (K : PySem.W.Frag) : List V → Hp → VK → Prop := fun vs H Q => ∃ p ys, vs = [.ref p] ∧ (SqL K H p ys ∨ SqT K H p ys) ∧ Q (.int ys.length) H
def rIntO : List V → Hp → VK → Prop := fun vs H Q => (∃ i, vs = [.int i] ∧ Q (.int i) H) ∨ ∃ k, vs = [.bl k] ∧ Q (.int (if k then 1 else 0)) H
section
variable {X : Cx}
theorem call_tupO : CallR X (.type "tuple") (rTupO X.K) := call_tuple_of
theorem call_lstO : CallR X (.type "list") (rLstO X.K) := call_list_of
theorem call_lenO : CallR X (.builtin "len") (rLenO X.K) := call_len_seq
theorem call_intO : CallR X (.type "int") rIntO := call_int1
end
/-! their steps -/
section
variable {H : Hp} {Q : VK} {K : PySem.W.Frag}
theorem rd_newT {xs : List V} (q : ∀ p H', H p = none → Ex H H' → H' p = some (.tup xs) → Q (.ref p) H') (hz : xs.length ≤ sizeLine := by exact Nat.le_of_ble_eq_true rfl) : NewT xs H Q := ⟨hz, fun p hp => q p _ hp (Ex.new hp) upd_same⟩
theorem rd_newL {xs : List V} (q : ∀ p H', H p = none → Ex H H' → H' p = some (.lst xs) → Q (.ref p) H') (hz : xs.length ≤ sizeLine := by exact Nat.le_of_ble_eq_true rfl) : NewL xs H Q := ⟨hz, fun p hp => q p _ hp (Ex.new hp) upd_same⟩
theorem rd_makT {xs : List V} (q : ∀ p H', H p = none → Ex H H' → H' p = some (.tup xs) → Q (.ref p) H') : MakT xs H Q := fun p hp => q p _ hp (Ex.new hp) upd_same
theorem rd_makL {xs : List V} (q : ∀ p H', H p = none → Ex H H' → H' p = some (.lst xs) → Q (.ref p) H') : MakL xs H Q := fun p hp => q p _ hp (Ex.new hp) upd_same
theorem rd_tupO {p : Addr} {ys : List V} (h : SqL K H p ys) (q : ∀ p H', H p = none → Ex H H' → H' p = some (.tup ys) → Q (.ref p) H') : rTupO K [.ref p] H Q := ⟨p, ys, rfl, Or.inl ⟨h, rd_makT q⟩⟩
theorem rd_tupT {p : Addr} {ys : List V} (h : SqT K H p ys) (q : Q (.ref p) H) : rTupO K [.ref p] H Q := ⟨p, ys, rfl, Or.inr ⟨h, q⟩⟩
theorem rd_lstO {p : Addr} {ys : List V} (h : SqL K H p ys ∨ SqT K H p ys) (q : ∀ p H', H p = none → Ex H H' → H' p = some (.lst ys) → Q (.ref p) H') : rLstO K [.ref p] H Q := ⟨p, ys, rfl, h, rd_makL q⟩
theorem rd_lenO {p : Addr} {ys : List V} (h : SqL K H p ys ∨ SqT K H p ys) (q : Q (.int ys.length) H) : rLenO K [.ref p] H Q := ⟨p, ys, rfl, h, q⟩
theorem rd_intO {a : Int} (q : Q (.int a) H) : rIntO [.int a] H Q := Or.inl ⟨a, rfl, q⟩
theorem rd_slL {a : Addr} {xs : List V} {lo hi : Option Int} (h : SqL K H a xs) (q : ∀ p H', H p = none → Ex H H' → H' p = some (.lst (cutV xs lo hi)) → Q (.ref p) H') : rSlL K (.ref a) lo hi H Q := ⟨a, xs, rfl, h, rd_makL q⟩
theorem rd_cat {l b : Addr} {xs zs : List V} (h1 : H l = some (.lst xs)) (h2 : H b = some (.lst zs)) (hz : xs.length + zs.length ≤ sizeLine) (q : ∀ p H', H p = none → Ex H H' → H' p = some (.lst (xs ++ zs)) → Q (.ref p) H') : rCat (.ref l) (.ref b) H Q := ⟨l, b, xs, zs, rfl, rfl, h1, h2, hz, rd_makL q⟩
end
section
variable {K : PySem.W.Frag} {σ : L2.St} {H : Hp} {Q : VK} {QB : Bool → Hp → Prop} {QA : List V → Hp → Prop} {D : Ends} {v x y : V} {ta tb te tc : TE} {tt tu : TT} {tr : TA} {s u z : TS} {r : R2} {i : Nat}
theorem rd_var (h : σ[i]? = some (some v)) (q : Q v H) : tVar i σ H Q := ⟨v, h, q⟩
theorem rd_c (q : Q v H) : tC v σ H Q := q
theorem rd_nil (q : QA [] H) : tNil σ H QA := q
theorem rd_cons (q : ta σ H fun x H1 => tr σ H1 fun xs H2 => QA (x :: xs) H2) : tCons ta tr σ H QA := q
theorem rd_op (q : ta σ H fun x H1 => tb σ H1 fun y H2 => r x y H2 Q) : tOp r ta tb σ H Q := q
theorem rd_un {r : V → Hp → VK → Prop} (q : ta σ H fun x H1 => r x H1 Q) : tUn r ta σ H Q := q
theorem rd_I0 {g : Int → Int → V} {a b : Int} (q : Q (g a b) H) : rI0 g (.int a) (.int b) H Q := ⟨a, b, rfl, rfl, q⟩
theorem rd_I {C : Int → Int → Prop} {g : Int → Int → V} {a b : Int} (c : C a b) (q : Q (g a b) H) : rI C g (.int a) (.int b) H Q := ⟨a, b, rfl, rfl, c, q⟩
theorem rd_U {g : Int → V} {a : Int} (q : Q (g a) H) : rU g (.int a) H Q := ⟨a, rfl, q⟩
theorem rd_cb {r : List V → Hp → VK → Prop} (q : tr σ H fun vs H1 => r vs H1 Q) : tCB r tr σ H Q := q
theorem rd_test (q : ta σ H fun x H' => ∃ k, x = .bl k ∧ QB k H') : tTest ta σ H QB := q
theorem rd_tB (q : ta σ H fun x H' => ∃ k, x = .bl k ∧ QB k H') : tB ta σ H QB := q
theorem rd_bl {b : Bool} {P : Bool → Prop} (q : P b) : ∃ k, V.bl b = .bl k ∧ P k := ⟨b, rfl, q⟩
theorem rd_eq (h : scal x y = true) (q : Q (.bl (decide (x = y))) H) : rEq x y H Q := ⟨h, q⟩
theorem rd_ne (h : scal x y = true) (q : Q (.bl (!decide (x = y))) H) : rNe x y H Q := ⟨h, q⟩
theorem rd_tup (q : tr σ H fun xs H1 => NewT xs H1 Q) : tTup tr σ H Q := q
theorem rd_lst (q : tr σ H fun xs H1 => NewL xs H1 Q) : tLst tr σ H Q := q
theorem rd_ifE (q : tt σ H fun c H1 => if c = true then ta σ H1 Q else tb σ H1 Q) : tIf tt ta tb σ H Q := q
theorem rd_and (q : tt σ H fun c H1 => if c = true then tu σ H1 QB else QB false H1) : tAnd tt tu σ H QB := q
theorem rd_or (q : tt σ H fun c H1 => if c = true then QB true H1 else tu σ H1 QB) : tOr tt tu σ H QB := q
theorem rd_not (q : tt σ H fun c H1 => QB (!c) H1) : tNot tt σ H QB := q
theorem rd_seq (q : s { D with nx := u D } σ H) : tSeq s u D σ H := q
theorem rd_next (q : D.nx σ H) : tNext D σ H := q
theorem rd_asg {g : TG} (q : te σ H fun x H1 => g x σ H1 D.nx) : tAsg te g D σ H := q
theorem rd_name {QS : L2.St → Hp → Prop} (q : QS (σ.set i (some v)) H) : gName i v σ H QS := q
theorem rd_par {j : Nat} (q : tr σ H fun vs H1 => ∃ v w, vs = [v, w] ∧ D.nx ((σ.set i (some v)).set j (some w)) H1) : tPar i j tr D σ H := q
theorem rd_par1 {P : V → V → Prop} {w : V} (q : P v w) : ∃ v' w', [v, w] = [v', w'] ∧ P v' w' := ⟨v, w, rfl, q⟩
theorem rd_ifS (q : tt σ H fun b H1 => if b = true then s D σ H1 else u D σ H1) : tIfS tt s u D σ H := q
theorem rd_ret (q : te σ H D.rt) : tRet te D σ H := q
theorem rd_drop (q : te σ H fun _ H1 => D.nx σ H1) : tDrop te D σ H := q
theorem rd_bm {T : String} {r : V → List V → Hp → VK → Prop} (q : ta σ H fun x H1 => tyV K T x H1 ∧ tr σ H1 fun xs H2 => r x xs H2 Q) : tBM K T r ta tr σ H Q := q
theorem rd_bm0 {T : String} {r : V → List V → Hp → VK → Prop} (q : ta σ H fun x H1 => tyV K T x H1 ∧ r x [] H1 Q) : tBM0 K T r ta σ H Q := q
theorem rd_dget (q : ta σ H fun x H1 => tb σ H1 fun y H2 => ∃ a v, x = .ref a ∧ DGet H2 a y (some v) ∧ Q v H2) : tDGet ta tb σ H Q := q
theorem rd_dput (q : tc σ H fun v H1 => ta σ H1 fun x H2 => tb σ H2 fun y H3 => ∃ a H4, x = .ref a ∧ DPut H3 a y v H4 ∧ D.nx σ H4) : sDPut ta tb tc D σ H := q
theorem rd_sl {r : V → Option Int → Option Int → Hp → VK → Prop} {tl th : TO} (q : te σ H fun x H1 => tl σ H1 fun l H2 => th σ H2 fun u H3 => r x l u H3 Q) : tSl r te tl th σ H Q := q
theorem rd_no {QO : Option Int → Hp → Prop} (q : QO none H) : tNoPart σ H QO := q
theorem rd_some {QO : Option Int → Hp → Prop} (q : te σ H fun x H1 => ∃ i, x = .int i ∧ QO (some i) H1) : tPart te σ H QO := q
theorem rd_some1 {P : Int → Prop} {a : Int} (q : P a) : ∃ i, V.int a = .int i ∧ P i := ⟨a, rfl, q⟩
theorem rd_yes (q : QB true H) : tYes σ H QB := q
/-! what the heap is asked -/
theorem rd_ixT {p : Addr} {xs : List V} {a : Int} (h : SqT K H p xs) (e : atI xs a = some v) (q : Q v H) : rIxT K (.ref p) (.int a) H Q := ⟨p, xs, a, v, rfl, rfl, h, e, q⟩
theorem rd_ixL {p : Addr} {xs : List V} {a : Int} (h : SqL K H p xs) (e : atI xs a = some v) (q : Q v H) : rIxL K (.ref p) (.int a) H Q := ⟨p, xs, a, v, rfl, rfl, h, e, q⟩
theorem rd_neD {d e : PyData} (h1 : Dp K H x d) (h2 : Dp K H y e) (s1 : SeqAt.shaped d = true) (s2 : SeqAt.shaped e = true) (q : Q (.bl (!PyData.eqv d e)) H) : rNeD K x y H Q := ⟨d, e, h1, h2, s1, s2, q⟩
theorem rd_eqD {d e : PyData} (h1 : Dp K H x d) (h2 : Dp K H y e) (s1 : SeqAt.shaped d = true) (s2 : SeqAt.shaped e = true) (q : Q (.bl (PyData.eqv d e)) H) : rEqD K x y H Q := ⟨d, e, h1, h2, s1, s2, q⟩
theorem rd_app {l : Addr} {xs : List V} (h : H l = some (.lst xs)) (hz : xs.length < sizeLine) (q : Q .non (upd H l (.lst (xs ++ [v])))) : rAppend (.ref l) [v] H Q := ⟨l, xs, v, rfl, rfl, h, hz, q⟩
theorem rd_tyL {l : Addr} {xs : List V} {P : Prop} (h : SqL K H l xs) (q : P) : tyV K "list" (.ref l) H ∧ P := ⟨Or.inl ⟨rfl, xs, h⟩, q⟩
theorem rd_dg {p : Addr} {kvs : List (Key × V)} {k : Key} (e : H p = some (.dK kvs)) {P : V → Prop} (l : valV kvs k = some v) (q : P v) : ∃ a v', V.ref p = .ref a ∧ DGet H a (kV k) (some v') ∧ P v' := ⟨p, v, rfl, l ▸ DGet.k (k := k) e, q⟩
theorem rd_dp {p : Addr} {kvs : List (Key × V)} {k : Key} {QH : Hp → Prop} (e : H p = some (.dK kvs)) (hl : kvs.length < sizeLine) (q : QH (upd H p (.dK (putK kvs k v)))) : ∃ a H4, V.ref p = .ref a ∧ DPut H a (kV k) v H4 ∧ QH H4 := ⟨p, _, rfl, DPut.k (k := k) e hl, q⟩
theorem rd_repr {a : Addr} {d : PyData} (h : Dp K H (.ref a) d) (h1 : d.showable = true) (h2 : d.canLay0 = true) (h3 : d.depth ≤ 128) (h4 : d.shown.length ≤ sizeLine) (q : Q (.str d.shown) H) : rReprD K [.ref a] H Q := ⟨a, d, rfl, h, h1, h2, h3, h4, q⟩
end
end Kt
namespace Kt
open PySem PySem.Spec PyProof.Rows L2 Evl
/-! ### heaps of which one object may have changed -/
/-- all that H holds but what stands at m is held by H' -/
def Keeps (m : Addr) (H H' : Hp) : Prop := ∀ b o, b ≠ m → H b = some o → H' b = some o
theorem Keeps.refl (m : Addr) (H : Hp) : Keeps m H H := fun _ _ _ h => h
theorem Keeps.trans {m : Addr} {H H1 H2 : Hp} (a : Keeps m H H1) (b : Keeps m H1 H2) : Keeps m H H2 := fun c o n h => b c o n (a c o n h)
theorem Keeps.ex {m : Addr} {H H' : Hp} (e : Ex H H') : Keeps m H H' := fun b o _ h => e b o h
theorem Keeps.put {m : Addr} {H : Hp} {o : HO} : Keeps m H (upd H m o) := fun b u n h => (upd_ne n).trans h
theorem Keeps.new {m p : Addr} {H : Hp} {o : HO} (h : H p = none) : Keeps m H (upd H p o) := Keeps.ex (Ex.new h)
theorem Keeps.mut {m p : Addr} {H H' : Hp} {o : HO} (e : Keeps m H H') (h : H p = none) : Keeps m H (upd H' p o) := fun b u n hb => (upd_ne (ne_of_none hb h)).trans (e b u n hb)
theorem Keeps.putm {m : Addr} {H H' : Hp} {o : HO} (e : Keeps m H H') : Keeps m H (upd H' m o) := e.trans Keeps.put
theorem Keeps.back {m p : Addr} {H H' : Hp} (e : Keeps m H H') (h : H' p = none) (n : p ≠ m) : H p = none := by
  cases q : H p with
  | none => rfl
  | some o => rw [e p o n q] at h; cases h
theorem Keeps.toEx {m : Addr} {H H' : Hp} (e : Keeps m H H') (h : H m = none) : Ex H H' := fun b o q => e b o (ne_of_none q h) q
/-- a tuple is none of the objects that change -/
theorem Keeps.tup {K : PySem.W.Frag} {m p : Addr} {H H' : Hp} {xs : List V} {kvs : List (Key × V)} (e : Keeps m H H') (hm : H m = some (.dK kvs)) (h : SqT K H p xs) : SqT K H' p xs := by
  rcases h with (h | ⟨o, h⟩) | h
  · exact .inl (.inl (e p _ (ne_of h hm (fun z => by cases z)) h))
  · exact .inl (.inr ⟨o, e p _ (ne_of h hm (fun z => by cases z)) h⟩)
  · exact .inr h
theorem Keeps.lst {K : PySem.W.Frag} {m p : Addr} {H H' : Hp} {xs : List V} {kvs : List (Key × V)} (e : Keeps m H H') (hm : H m = some (.dK kvs)) (h : SqL K H p xs) : SqL K H' p xs := by
  rcases h with (h | ⟨o, h⟩) | h
  · exact .inl (.inl (e p _ (ne_of h hm (fun z => by cases z)) h))
  · exact .inl (.inr ⟨o, e p _ (ne_of h hm (fun z => by cases z)) h⟩)
  · exact .inr h

/-! ### the state of the draws -/
abbrev kLeft : Key := Sum.inr "left"
abbrev kSeed : Key := Sum.inr "seed"
abbrev kCells : Key := Sum.inr "cells"
abbrev kSpot : Key := Sum.inr "spot"
theorem sum_ne {a b : Str} (h : ¬ a = b) : ¬ (Sum.inr a : Key) = Sum.inr b := fun e => h (Sum.inr.inj e)
theorem n_ls : ¬ kLeft = kSpot := sum_ne (by decide +kernel)
theorem n_ld : ¬ kLeft = kSeed := sum_ne (by decide +kernel)
theorem n_lc : ¬ kLeft = kCells := sum_ne (by decide +kernel)
theorem n_sd : ¬ kSpot = kSeed := sum_ne (by decide +kernel)
theorem n_sc : ¬ kSpot = kCells := sum_ne (by decide +kernel)
theorem n_dc : ¬ kSeed = kCells := sum_ne (by decide +kernel)
/-- at m stands the state of the draws, of which at most n have been drawn, its cells at c -/
structure Drw (H : Hp) (m c : Addr) (n : Nat) : Prop where
  ex : ∃ (kvs : List (Key × V)) (l sd sp : Int), H m = some (.dK kvs) ∧ kvs.length ≤ 10 + n ∧
    valV kvs kLeft = some (.int l) ∧ valV kvs kSeed = some (.int sd) ∧ valV kvs kSpot = some (.int sp) ∧ valV kvs kCells = some (.ref c) ∧ 0 ≤ sd ∧ sd < 2147483647 ∧ 0 ≤ sp ∧ sp ≤ n
/-- at c stand cells -/
def Cel (K : PySem.W.Frag) (H : Hp) (c : Addr) : Prop := ∃ ns : List Int, SqL K H c (ns.map V.int) ∧ 0 < ns.length ∧ ns.length ≤ 1000
theorem Drw.keep {H H' : Hp} {m c : Addr} {n : Nat} (d : Drw H m c n) (e : Ex H H') : Drw H' m c n := by
  obtain ⟨kvs, l, sd, sp, h1, h2⟩ := d.ex
  exact ⟨kvs, l, sd, sp, e _ _ h1, h2⟩
theorem Drw.mono {H : Hp} {m c : Addr} {n n' : Nat} (d : Drw H m c n) (h : n ≤ n') : Drw H m c n' := by
  obtain ⟨kvs, l, sd, sp, h1, h2, h3, h4, h5, h6, h10, h11, h12, h13⟩ := d.ex
  exact ⟨kvs, l, sd, sp, h1, by omega, h3, h4, h5, h6, h10, h11, h12, by omega⟩
theorem Drw.at {H : Hp} {m c : Addr} {n : Nat} (d : Drw H m c n) : ∃ kvs, H m = some (.dK kvs) := by
  obtain ⟨kvs, l, sd, sp, h1, _⟩ := d.ex
  exact ⟨kvs, h1⟩
/-- another object may change -/
theorem Drw.oth {H : Hp} {m c p : Addr} {n : Nat} {o : HO} (d : Drw H m c n) (h : m ≠ p) : Drw (upd H p o) m c n := by
  obtain ⟨kvs, l, sd, sp, h1, h2⟩ := d.ex
  exact ⟨kvs, l, sd, sp, (upd_ne h).trans h1, h2⟩
theorem Drw.tup {K : PySem.W.Frag} {H H' : Hp} {m c p : Addr} {n : Nat} {xs : List V} (d : Drw H m c n) (e : Keeps m H H') (h : SqT K H p xs) : SqT K H' p xs := let ⟨_, h1⟩ := d.at; e.tup h1 h
theorem Drw.lst {K : PySem.W.Frag} {H H' : Hp} {m c p : Addr} {n : Nat} {xs : List V} (d : Drw H m c n) (e : Keeps m H H') (h : SqL K H p xs) : SqL K H' p xs := let ⟨_, h1⟩ := d.at; e.lst h1 h
theorem Drw.cel {K : PySem.W.Frag} {H H' : Hp} {m c : Addr} {n : Nat} (d : Drw H m c n) (e : Keeps m H H') (h : Cel K H c) : Cel K H' c := let ⟨ns, h1, h2⟩ := h; ⟨ns, d.lst e h1, h2⟩
theorem Cel.keep {K : PySem.W.Frag} {H H' : Hp} {c : Addr} (h : Cel K H c) (e : Ex H H') : Cel K H' c := let ⟨ns, h1, h2⟩ := h; ⟨ns, ex_l e h1, h2⟩
theorem Drw.lne {H : Hp} {m c p : Addr} {n : Nat} {xs : List V} (d : Drw H m c n) (h : H p = some (.lst xs)) : p ≠ m := let ⟨_, h1⟩ := d.at; ne_of h h1 (fun z => by cases z)
/-! ### heaps in which no tuple has changed -/
structure Tx (H H' : Hp) : Prop where
  t : ∀ p xs, H p = some (.tup xs) → H' p = some (.tup xs)
  f : ∀ p o xs, H p = some (.frz o (.tup xs)) → H' p = some (.frz o (.tup xs))
theorem Tx.ex {H H' : Hp} (e : Ex H H') : Tx H H' := ⟨fun _ _ h => e _ _ h, fun _ _ _ h => e _ _ h⟩
theorem Tx.trans {H H1 H2 : Hp} (a : Tx H H1) (b : Tx H1 H2) : Tx H H2 := ⟨fun _ _ h => b.t _ _ (a.t _ _ h), fun _ _ _ h => b.f _ _ _ (a.f _ _ _ h)⟩
theorem Tx.lst {H : Hp} {p : Addr} {ys : List V} {o : HO} (h : H p = some (.lst ys)) : Tx H (upd H p o) :=
  ⟨fun q xs h' => (upd_ne (ne_of h' h (fun z => by cases z))).trans h', fun q u xs h' => (upd_ne (ne_of h' h (fun z => by cases z))).trans h'⟩
theorem Drw.tx {H H' : Hp} {m c : Addr} {n : Nat} (d : Drw H m c n) (e : Keeps m H H') : Tx H H' := by
  obtain ⟨kvs, h⟩ := d.at
  exact ⟨fun q xs h' => e _ _ (ne_of h' h (fun z => by cases z)) h', fun q u xs h' => e _ _ (ne_of h' h (fun z => by cases z)) h'⟩
theorem tx_t {K : PySem.W.Frag} {H H' : Hp} {a : Addr} {xs : List V} (e : Tx H H') (h : SqT K H a xs) : SqT K H' a xs := by
  rcases h with (h | ⟨o, h⟩) | h
  · exact .inl (.inl (e.t _ _ h))
  · exact .inl (.inr ⟨o, e.f _ _ _ h⟩)
  · exact .inr h
abbrev kNext : Key := Sum.inr "next"
theorem n_nl : ¬ kNext = kLeft := sum_ne (by decide +kernel)
theorem n_nd : ¬ kNext = kSeed := sum_ne (by decide +kernel)
theorem n_nc : ¬ kNext = kCells := sum_ne (by decide +kernel)
theorem n_ns : ¬ kNext = kSpot := sum_ne (by decide +kernel)
theorem merge4 (a b c d : V) : (mergeK [] [(kLeft, a), (kSeed, b), (kCells, c), (kSpot, d)]).length ≤ 5 ∧ valV (mergeK [] [(kLeft, a), (kSeed, b), (kCells, c), (kSpot, d)]) kLeft = some a ∧ valV (mergeK [] [(kLeft, a), (kSeed, b), (kCells, c), (kSpot, d)]) kSeed = some b ∧
    valV (mergeK [] [(kLeft, a), (kSeed, b), (kCells, c), (kSpot, d)]) kSpot = some d ∧ valV (mergeK [] [(kLeft, a), (kSeed, b), (kCells, c), (kSpot, d)]) kCells = some c := by
  show (putK (putK (putK (putK [] kLeft a) kSeed b) kCells c) kSpot d).length ≤ 5 ∧ valV (putK (putK (putK (putK [] kLeft a) kSeed b) kCells c) kSpot d) kLeft = some a ∧ valV (putK (putK (putK (putK [] kLeft a) kSeed b) kCells c) kSpot d) kSeed = some b ∧
    valV (putK (putK (putK (putK [] kLeft a) kSeed b) kCells c) kSpot d) kSpot = some d ∧ valV (putK (putK (putK (putK [] kLeft a) kSeed b) kCells c) kSpot d) kCells = some c
  have l1 := length_putK [] kLeft a
  have l2 := length_putK (putK [] kLeft a) kSeed b
  have l3 := length_putK (putK (putK [] kLeft a) kSeed b) kCells c
  have l4 := length_putK (putK (putK (putK [] kLeft a) kSeed b) kCells c) kSpot d
  refine ⟨by rw [List.length_nil] at l1; omega, ?_, ?_, ?_, ?_⟩
  · rw [valV_put, if_neg n_ls, valV_put, if_neg n_lc, valV_put, if_neg n_ld, valV_put, if_pos rfl]
  · rw [valV_put, if_neg (fun z => n_sd z.symm), valV_put, if_neg n_dc, valV_put, if_pos rfl]
  · rw [valV_put, if_pos rfl]
  · rw [valV_put, if_neg (fun z => n_sc z.symm), valV_put, if_pos rfl]
theorem merge5 (a b c d e : V) : (mergeK [] [(kLeft, a), (kSeed, b), (kCells, c), (kSpot, d), (kNext, e)]).length ≤ 6 ∧ valV (mergeK [] [(kLeft, a), (kSeed, b), (kCells, c), (kSpot, d), (kNext, e)]) kLeft = some a ∧ valV (mergeK [] [(kLeft, a), (kSeed, b), (kCells, c), (kSpot, d), (kNext, e)]) kSeed = some b ∧
    valV (mergeK [] [(kLeft, a), (kSeed, b), (kCells, c), (kSpot, d), (kNext, e)]) kSpot = some d ∧ valV (mergeK [] [(kLeft, a), (kSeed, b), (kCells, c), (kSpot, d), (kNext, e)]) kCells = some c := by
  obtain ⟨h1, h2, h3, h4, h5⟩ := merge4 a b c d
  show (putK (mergeK [] [(kLeft, a), (kSeed, b), (kCells, c), (kSpot, d)]) kNext e).length ≤ 6 ∧ valV (putK (mergeK [] [(kLeft, a), (kSeed, b), (kCells, c), (kSpot, d)]) kNext e) kLeft = some a ∧ valV (putK (mergeK [] [(kLeft, a), (kSeed, b), (kCells, c), (kSpot, d)]) kNext e) kSeed = some b ∧
    valV (putK (mergeK [] [(kLeft, a), (kSeed, b), (kCells, c), (kSpot, d)]) kNext e) kSpot = some d ∧ valV (putK (mergeK [] [(kLeft, a), (kSeed, b), (kCells, c), (kSpot, d)]) kNext e) kCells = some c
  have l5 := length_putK (mergeK [] [(kLeft, a), (kSeed, b), (kCells, c), (kSpot, d)]) kNext e
  refine ⟨by omega, ?_, ?_, ?_, ?_⟩
  · rw [valV_put, if_neg (fun z => n_nl z.symm)]; exact h2
  · rw [valV_put, if_neg (fun z => n_nd z.symm)]; exact h3
  · rw [valV_put, if_neg (fun z => n_ns z.symm)]; exact h4
  · rw [valV_put, if_neg (fun z => n_nc z.symm)]; exact h5
theorem cut_ints (ns : List Int) (lo hi : Option Int) : ∃ ms : List Int, cutV (ns.map V.int) lo hi = ms.map V.int ∧ ms.length ≤ ns.length := by
  refine ⟨(ns.drop (HT.sIx (ns.map V.int).length 0 lo)).take (HT.sIx (ns.map V.int).length (ns.map V.int).length hi - HT.sIx (ns.map V.int).length 0 lo), ?_, ?_⟩
  · unfold cutV
    rw [List.map_take, List.map_drop]
  · rw [List.length_take, List.length_drop]
    omega
theorem get_ints {ns : List Int} {i : Nat} {x : V} (h : (ns.map V.int)[i]? = some x) : ∃ z, x = .int z ∧ ns[i]? = some z := by
  rw [List.getElem?_map] at h
  cases e : ns[i]? with
  | none => rw [e] at h; cases h
  | some z => rw [e] at h; exact ⟨z, (Option.some.inj h).symm, rfl⟩
section
variable {σ : L2.St} {H : Hp} {Q : VK} {tk tv : TE} {trs : List (TE × TE)}
theorem rd_pnil {QP : List (V × V) → Hp → Prop} (q : QP [] H) : tPairs [] σ H QP := q
theorem rd_pcons {QP : List (V × V) → Hp → Prop} (q : tk σ H fun x H1 => tv σ H1 fun y H2 => tPairs trs σ H2 fun ps H3 => QP ((x, y) :: ps) H3) : tPairs ((tk, tv) :: trs) σ H QP := q
end
/-- a conditional expression whose two ways give a value of one kind: what follows is shown once -/
theorem rd_ifE2 {α : Type} {f : α → V} {tt : TT} {ta tb : TE} {σ : L2.St} {H : Hp} {Q : VK} (all : ∀ z : α, Q (f z) H) (h : (∀ z : α, Q (f z) H) → tIf tt ta tb σ H Q) : tIf tt ta tb σ H Q := h all
theorem rd_ifE3 {tt : TT} {ta tb : TE} {σ : L2.St} {H : Hp} {Q : VK} (P : V → Hp → Prop) (all : ∀ v H', P v H' → Q v H') (h : (∀ v H', P v H' → Q v H') → tIf tt ta tb σ H Q) : tIf tt ta tb σ H Q := h all
/-- _law_begun(script, k): the state of the draws, none drawn yet -/
def spBegun (K : PySem.W.Frag) : Sp := fun vs H Q _ => ∃ (a : Addr) (ns : List Int) (k : Int), vs = [.ref a, .int k] ∧ SqL K H a (ns.map V.int) ∧ ns.length ≤ 63 ∧ 0 ≤ k ∧ k ≤ 100 ∧
  ∀ (m c : Addr) (H' : Hp), H m = none → Ex H H' → Drw H' m c 0 → Cel K H' c → Q (.ref m) H'
/-- _law_draw(m, below) -/
def spDraw (K : PySem.W.Frag) : Sp := fun vs H Q _ => ∃ (m c : Addr) (b : Int) (n : Nat), vs = [.ref m, .int b] ∧ Drw H m c n ∧ Cel K H c ∧ n < 1000000 ∧ 0 < b ∧ b < 1000000 ∧
  ∀ (r : Int) (H' : Hp), 0 ≤ r → r < b → Keeps m H H' → Drw H' m c (n + 1) → Q (.int r) H'
/-- _law_of(m, some) -/
def spOf (K : PySem.W.Frag) : Sp := fun vs H Q _ => ∃ (m c p : Addr) (xs : List V) (n : Nat), vs = [.ref m, .ref p] ∧ SqL K H p xs ∧ 0 < xs.length ∧ xs.length < 1000000 ∧ Drw H m c n ∧ Cel K H c ∧ n < 1000000 ∧
  ∀ (i : Nat) (x : V) (H' : Hp), xs[i]? = some x → Keeps m H H' → Drw H' m c (n + 1) → Q x H'
end Kt
/-! Kt, part C: t[::-1] of a tuple. -/
namespace Kt
open PySem PySem.Spec PyProof.Rows L2
section
variable {prog : Program} {w : World} {A : Around} {E : Value → Shared → Prop} {s : Shared}
theorem adjust_back (n : Nat) : Builtin.Slice.sliceAdjust none none (-1) (n : Int) = ((n : Int) - 1, -1) := by
  unfold Builtin.Slice.sliceAdjust
  rfl
theorem places_back (n : Nat) : Builtin.Slice.slicePlaces ((n : Int) - 1) (-1) (-1) = n := by
  unfold Builtin.Slice.slicePlaces
  have h1 : ¬ ((-1 : Int) > 0) := by decide
  rw [if_neg h1]
  by_cases h : (n : Int) - 1 > -1
  · rw [if_pos h, show -(-1 : Int) = 1 by decide, Int.ediv_one]
    omega
  · rw [if_neg h]
    omega
theorem applied_back {sl : Addr} {tk : Tok} {n : Nat} {Q : Int × Int × Nat → Shared → Prop} (hs : s.heap.IsSliceOf sl .none .none (.int (-1) tk)) (h : Q ((n : Int) - 1, -1, n) s) :
    wpAny (model prog w) A (Builtin.Slice.sliceApplied (.ref sl) (pure (n : Int))) Q E s := by
  obtain ⟨os, hos, hcs, hds⟩ := id hs
  unfold Builtin.Slice.sliceApplied Builtin.Slice.sliceFields
  refine wpAny_bind (wpAny_bind (wpAny_field hos hds (x := .none) rfl (wpAny_bind (wpAny_field hos hds (x := .none) rfl (wpAny_bind (wpAny_field hos hds (x := .int (-1) tk) rfl (wpAny_pure ?_)))))))
  refine wpAny_bind (slicePart_int ?_)
  show wpAny _ _ (if ((-1 : Int) == 0) = true then _ else _) _ _ s
  rw [if_neg (by decide)]
  refine wpAny_bind (slicePart_none (wpAny_bind (slicePart_none (wpAny_bind (wpAny_pure ?_)))))
  show wpAny _ _ (match Builtin.Slice.sliceAdjust none none (-1) (n : Int) with | (lo, hi) => pure (lo, (-1 : Int), Builtin.Slice.slicePlaces lo hi (-1))) _ _ s
  rw [adjust_back]
  show wpAny _ _ (pure ((n : Int) - 1, (-1 : Int), Builtin.Slice.slicePlaces ((n : Int) - 1) (-1) (-1))) _ _ s
  rw [places_back]
  exact wpAny_pure h
theorem pick_back (xs : Array Value) : ((List.range xs.size).filterMap fun (k : Nat) => xs[((xs.size : Int) - 1 + (k : Int) * -1).toNat]?).toArray = xs.toList.reverse.toArray := by
  have e : (List.range xs.size).filterMap (fun (k : Nat) => xs[((xs.size : Int) - 1 + (k : Int) * -1).toNat]?) = ((List.range xs.size).map fun k => xs.size - 1 - k).filterMap (xs[·]?) := by
    rw [List.filterMap_map]
    have ef : (fun (k : Nat) => xs[((xs.size : Int) - 1 + (k : Int) * -1).toNat]?) = (xs[·]?) ∘ fun k => xs.size - 1 - k := by
      funext k
      have : ((xs.size : Int) - 1 + (k : Int) * -1).toNat = xs.size - 1 - k := by omega
      rw [this]
      rfl
    rw [ef]
  rw [e, PySem.W.krv_range, List.filterMap_reverse, PySem.W.krv_all]
theorem getItem_tuple_back {t sl : Addr} {items : Array Value} {tk : Tok} {Q : Value → Shared → Prop} (ht : IsTup s.heap t items) (hs : s.heap.IsSliceOf sl .none .none (.int (-1) tk))
    (h : Q (.ref s.heap.objs.size) { s with heap := s.heap.push { cls := .type "tuple", data := .seq items.toList.reverse.toArray } })
    (hsz : items.size ≤ sizeLine) : wpAny (model prog w) A (getItem (.ref t) (.ref sl)) Q E s := by
  have hz : sizeOk (.seq items.toList.reverse.toArray) := by
    show items.toList.reverse.toArray.size ≤ sizeLine
    rw [List.size_toArray, List.length_reverse, Array.length_toList]
    exact hsz
  obtain ⟨os, hos, hcs, hds⟩ := id hs
  have hTs : s.TypeIs (.ref sl) "slice" := ⟨os, hos, hcs⟩
  unfold getItem
  try with_reducible refine wpAny_holding ?_
  first | refine wpAny_bind (wpAny_pure ?_) | skip
  refine wpAny_bind (wpAny_sequenceKey ht.typeIs (by decide) ?_)
  refine wpAny_bind (wpAny_callSpecial?_slot (name := Str.ofString "__getitem__") ht.typeIs PyProof.Rows.slot_tuple_getitem
    (wpAny_call_entry PyProof.Rows.slot_tuple_getitem ht.typeIs entry_tuple_getitem ?_ (args_tuple_getitem _ _)))
  show wpAny _ _ (Builtin.Tuple.tupleItemsOf (.ref t) >>= _) _ _ s
  refine wpAny_bind (tupleItemsOf_ ht ?_)
  refine wpAny_bind (wpAny_typeOf hTs ?_)
  rw [if_pos (by decide)]
  refine wpAny_bind (applied_back (n := items.size) hs ?_)
  have hno : ¬ (((items.size : Int) - 1 == 0 && (-1 : Int) == 1 && items.size == items.size) = true) := by
    intro q
    rw [Bool.and_eq_true, Bool.and_eq_true] at q
    exact absurd q.1.2 (by decide)
  show wpAny _ _ (if ((items.size : Int) - 1 == 0 && (-1 : Int) == 1 && items.size == items.size) = true then _ else _) _ _ s
  rw [if_neg hno, pick_back]
  first
    | exact wpAny_bind (m := Builtin.Tuple.tupleExact _) (wpAny_newObj_type (wpAny_pure ⟨_, rfl, wpAny_pure h⟩) hz)
    | exact wpAny_bind (m := Builtin.Tuple.tupleExact _) (wpAny_newObj_type (wpAny_bind (wpAny_pure (wpAny_pure ⟨_, rfl, wpAny_pure h⟩))) hz)
    | exact wpAny_bind (wpAny_bind (m := Builtin.Tuple.tupleExact _) (wpAny_newObj_type (wpAny_pure (wpAny_pure ⟨_, rfl, wpAny_pure h⟩)) hz))
    | exact wpAny_bind (wpAny_bind (m := Builtin.Tuple.tupleExact _) (wpAny_newObj_type (wpAny_pure ⟨_, rfl, wpAny_pure h⟩) hz))
end
section
variable {X : Cx}
/-- t[::-1], t a tuple -/
def tRevT (K : PySem.W.Frag) (te : TE) : TE := fun σ H Q => te σ H fun x H1 => ∃ a xs, x = .ref a ∧ SqT K H1 a xs ∧ ∀ p, H1 p = none → Q (.ref p) (upd H1 p (.tup xs.reverse))
theorem pe_revT {e : Expr} {te : TE} {k : Nat} {p1 p2 p3 pos : Pos} (he : PE X e te) : PE X (.Subscript e (.Slice none none (some (.UnaryOp .USub (.Constant (.int 1) k p1) p2)) p3) pos) (tRevT X.K te) := by
  refine ⟨fun pins s σ H Q I h => ?_⟩
  refine Subscript_ (thn (he.run pins s σ H _ I h) fun v s1 ⟨x, H1, I1, r1, a, xs, ex, hx, q⟩ => ?_)
  subst ex
  cases r1
  refine wpAny_Slice (thn (po_none.run pins s1 σ H1 (fun o H2 => o = none ∧ H2 = H1) I1 ⟨rfl, rfl⟩) fun vl s2 ⟨l, H2, I2, pl, el, e2⟩ => ?_)
  subst el e2
  refine thn (po_none.run pins s2 σ H2 (fun o H3 => o = none ∧ H3 = H2) I2 ⟨rfl, rfl⟩) fun vu s3 ⟨u, H3, I3, pu, eu, e3⟩ => ?_
  subst eu e3
  refine thn ((po_some (pe_un un_neg pe_int)).run pins s3 σ H3 (fun o H4 => o = some (-1) ∧ H4 = H3) I3 ⟨1, rfl, -1, rfl, rfl, rfl⟩) fun vs s4 ⟨o, H4, I4, ps, eo, e4⟩ => ?_
  subst eo e4
  cases pl
  cases pu
  cases ps with
  | int _ tk =>
    have I5 : Inv X pins σ H4 { s4 with heap := s4.heap.push { cls := .type "slice", data := .fields #[.none, .none, .int (-1) tk] } } := I4.kept (t' := s4.toks) fun b ob q => Heap.get?_push_of_some _ q
    obtain ⟨its, r, ht, hz⟩ := I5.tuple hx
    show wpAny (model X.prog X.w) X.A (subscriptTail e (.Slice none none (some (.UnaryOp .USub (.Constant (.int 1) k p1) p2)) p3) (.ref a) (.ref s4.heap.objs.size)) (EP X pins σ Q) X.xe { s4 with heap := s4.heap.push { cls := .type "slice", data := .fields #[.none, .none, .int (-1) tk] } }
    refine tail_any (ops := [.ref a, .ref s4.heap.objs.size]) ht.typeIs PyProof.Rows.slot_tuple_getitem.lookup ?_ (by with_unfolding_all rfl)
    refine getItem_tuple_back ht (Heap.IsSliceOf.new _ _ _ _) ?_ (by rw [List.size_toArray, ← r.length]; exact hz)
    refine ⟨.ref _, _, I5.laid (t' := s4.toks) (o := .tup xs.reverse) (fun b ob q => Heap.get?_push_of_some _ q) (Nat.le_refl _) ?_, rfl, q _ (I5.hok.fresh (Nat.le_refl _))⟩
    exact ⟨by rw [List.length_reverse]; exact hz, _, r.reverse, IsTup.new _ _⟩
end
/-! ### loops -/
def ForW (J : It) (g : TG) (tb : TS) (D : Ends) (σ : L2.St) (H : Hp) : Prop := ∃ W : Nat → Nat → L2.St → Hp → Prop, (∃ m, W 0 m σ H) ∧ ∀ i m σ H, W i m σ H →
  (J.stop i H ∧ D.nx σ H) ∨ (J.go i H ∧ ∃ N : L2.St → Hp → Prop, (∀ σ' H', N σ' H' → ∃ m', m' < m ∧ W (i + 1) m' σ' H') ∧ ∀ x H', J.yld i H x H' → g x σ H' fun σ2 H2 => tb { D with nx := N, ct := N, bk := D.nx } σ2 H2)
def LcW (J : It) (g : TG) (tt : TT) (te : TE) (vs : List Nat) (σ : L2.St) (H1 : Hp) (Q : VK) : Prop := ∀ D, H1 D = none → ∃ W : Nat → Nat → Hp → Prop, (∃ m, W 0 m (upd H1 D (.lst []))) ∧ ∀ i m H, W i m H →
  (J.stop i H ∧ Q (.ref D) H) ∨ (J.go i H ∧ ∃ Nx : Hp → Prop, (∀ H', Nx H' → ∃ m', m' < m ∧ W (i + 1) m' H') ∧ ∀ x H', J.yld i H x H' → g x (wipe σ vs) H' fun σ2 H2 => wipe σ2 vs = wipe σ vs ∧ tt σ2 H2 fun b H3 =>
    if b = true then te σ2 H3 fun y H4 => ∃ acc, H4 D = some (.lst acc) ∧ acc.length < sizeLine ∧ Nx (upd H4 D (.lst (acc ++ [y]))) else Nx H3)
def RngW (vs : List V) (H : Hp) (R : It → Hp → Prop) : Prop := ∃ j : Int, vs = [.int j] ∧ -(2 ^ 62) ≤ j ∧ j < 2 ^ 62 ∧ R (Itr 0 j.toNat) H
def LstW (K : PySem.W.Frag) (x : V) (H : Hp) (R : It → Hp → Prop) : Prop := ∃ a, x = .ref a ∧ (∃ xs, SqL K H a xs) ∧ R (Itl K a) H
def TupW (K : PySem.W.Frag) (x : V) (H : Hp) (R : It → Hp → Prop) : Prop := ∃ a, x = .ref a ∧ (∃ xs, SqT K H a xs) ∧ R (Itt K a) H
section
variable {K : PySem.W.Frag} {wi : TI} {g : TG} {tb : TS} {D : Ends} {σ : L2.St} {H : Hp} {R : It → Hp → Prop} {ta : TA} {tl te : TE} {tt : TT} {vs : List Nat} {Q : VK}
theorem rd_for (q : wi σ H fun J H1 => ForW J g tb D σ H1) : tFor wi g tb D σ H := q
theorem rd_lc (q : wi σ H fun J H1 => LcW J g tt te vs σ H1 Q) : tLc wi g tt te vs σ H Q := q
theorem rd_irng (q : ta σ H fun vs H1 => RngW vs H1 R) : iRng1 ta σ H R := q
theorem rd_ilst (q : tl σ H fun x H1 => LstW K x H1 R) : iList K tl σ H R := q
theorem rd_itup (q : tl σ H fun x H1 => TupW K x H1 R) : iTup K tl σ H R := q
theorem rd_rngW {j : Int} (h1 : -(2 ^ 62) ≤ j) (h2 : j < 2 ^ 62) (q : R (Itr 0 j.toNat) H) : RngW [.int j] H R := ⟨j, rfl, h1, h2, q⟩
theorem rd_lstW {a : Addr} {xs : List V} (h : SqL K H a xs) (q : R (Itl K a) H) : LstW K (.ref a) H R := ⟨a, rfl, ⟨xs, h⟩, q⟩
theorem rd_tupW {a : Addr} {xs : List V} (h : SqT K H a xs) (q : R (Itt K a) H) : TupW K (.ref a) H R := ⟨a, rfl, ⟨xs, h⟩, q⟩
theorem rd_forN {j n : Nat} (Pv : Nat → L2.St → Hp → Prop) (h0 : Pv 0 σ H) (hs : ∀ i σ' H', i < n → Pv i σ' H' → tb { D with nx := Pv (i + 1), ct := Pv (i + 1), bk := D.nx } (σ'.set j (some (.int (i : Int)))) H')
    (hd : ∀ σ' H', Pv n σ' H' → D.nx σ' H') : ForW (Itr 0 n) (gName j) tb D σ H :=
  for_range (lo := 0) (n := n) Pv h0 (fun i σ' H' hi p => by
    show tb { D with nx := Pv (i + 1), ct := Pv (i + 1), bk := D.nx } (σ'.set j (some (.int ((0 : Int) + (i : Int))))) H'
    rw [Int.zero_add]
    exact hs i σ' H' hi p) hd
theorem rd_forL {a : Addr} {j : Nat} (xs : List V) (Pv : Nat → L2.St → Hp → Prop) (h0 : Pv 0 σ H) (hl : ∀ i σ' H', i ≤ xs.length → Pv i σ' H' → SqL K H' a xs)
    (hs : ∀ i x σ' H', xs[i]? = some x → Pv i σ' H' → tb { D with nx := Pv (i + 1), ct := Pv (i + 1), bk := D.nx } (σ'.set j (some x)) H') (hd : ∀ σ' H', Pv xs.length σ' H' → D.nx σ' H') : ForW (Itl K a) (gName j) tb D σ H :=
  for_list Pv h0 hl hs hd
theorem rd_forLg {a : Addr} (xs : List V) (Pv : Nat → L2.St → Hp → Prop) (h0 : Pv 0 σ H) (hl : ∀ i σ' H', i ≤ xs.length → Pv i σ' H' → SqL K H' a xs)
    (hs : ∀ i x σ' H', xs[i]? = some x → Pv i σ' H' → g x σ' H' fun σ2 H2 => tb { D with nx := Pv (i + 1), ct := Pv (i + 1), bk := D.nx } σ2 H2) (hd : ∀ σ' H', Pv xs.length σ' H' → D.nx σ' H') : ForW (Itl K a) g tb D σ H :=
  for_list Pv h0 hl hs hd
theorem rd_forTg {a : Addr} (xs : List V) (Pv : Nat → L2.St → Hp → Prop) (h0 : Pv 0 σ H) (hl : ∀ i σ' H', i ≤ xs.length → Pv i σ' H' → SqT K H' a xs)
    (hs : ∀ i x σ' H', xs[i]? = some x → Pv i σ' H' → g x σ' H' fun σ2 H2 => tb { D with nx := Pv (i + 1), ct := Pv (i + 1), bk := D.nx } σ2 H2) (hd : ∀ σ' H', Pv xs.length σ' H' → D.nx σ' H') : ForW (Itt K a) g tb D σ H :=
  for_tup Pv h0 hl hs hd
/-- a comprehension that filters a list by a test that changes nothing -/
theorem rd_lcF {a : Addr} {j : Nat} (xs : List V) (keep : V → Bool) (hx : ∀ H', Evl.Ex H H' → SqL K H' a xs) (hw : ∀ x, wipe ((wipe σ vs).set j (some x)) vs = wipe σ vs)
    (ht : ∀ x H', x ∈ xs → Evl.Ex H H' → ∀ Q' : Bool → Hp → Prop, Q' (keep x) H' → tt ((wipe σ vs).set j (some x)) H' Q') (he : ∀ x H', ∀ Q' : VK, Q' x H' → te ((wipe σ vs).set j (some x)) H' Q')
    (hz : xs.length < sizeLine) (q : ∀ p H', H p = none → Evl.Ex H H' → H' p = some (.lst (xs.filter keep)) → Q (.ref p) H') : LcW (Itl K a) (gName j) tt te vs σ H Q := fun Dl hD =>
  lc_list (xs := xs) (fun i H' => Evl.Ex H H' ∧ H' Dl = some (.lst ((xs.take i).filter keep))) ⟨Evl.Ex.new hD, upd_same⟩ (fun i H' _ p => hx H' p.1) (fun i x H' hi p => ⟨hw x, ht x H' (List.mem_of_getElem? hi) p.1 _ (by
    have e : xs.take (i + 1) = xs.take i ++ [x] := by rw [List.take_add_one, hi]; rfl
    have el : ((xs.take i).filter keep).length < sizeLine := Nat.lt_of_le_of_lt (Nat.le_trans (List.length_filter_le _ _) (by rw [List.length_take]; exact Nat.min_le_right _ _)) hz
    cases hk : keep x with
    | true =>
      refine iteT (he x H' _ ⟨_, p.2, el, p.1.mut hD, ?_⟩)
      rw [upd_same, e, List.filter_append, List.filter_cons, if_pos hk]
      rfl
    | false =>
      refine iteF ⟨p.1, ?_⟩
      rw [e, List.filter_append, List.filter_cons, if_neg (by rw [hk]; decide)]
      show H' Dl = some (.lst ((xs.take i).filter keep ++ []))
      rw [List.append_nil]
      exact p.2)⟩)
    (fun H' p => q Dl H' hD p.1 (by rw [← List.take_length (l := xs)]; exact p.2))
theorem rd_truL {p : Addr} {xs : List V} {P : Bool → Prop} (h : SqL K H p xs) (q : P (!xs.isEmpty)) : ∃ k, TruV K (.ref p) H k ∧ P k := ⟨_, .inl ⟨xs, h, rfl⟩, q⟩
theorem rd_pop {l : Addr} {xs : List V} {y : V} (h : H l = some (.lst (xs ++ [y]))) (q : Q y (upd H l (.lst xs))) : rPop (.ref l) [] H Q := ⟨l, xs ++ [y], y, rfl, rfl, h, by simp, by rw [List.dropLast_concat]; exact q⟩
theorem rd_revL {a : Addr} {xs : List V} {P : Addr → List V → Prop} (h : SqL K H a xs) (q : P a xs) : ∃ a' xs', V.ref a = .ref a' ∧ SqL K H a' xs' ∧ P a' xs' := ⟨a, xs, rfl, h, q⟩
def RevLW (K : PySem.W.Frag) (x : V) (H : Hp) (Q : VK) : Prop := ∃ a xs, x = .ref a ∧ SqL K H a xs ∧ MakL xs.reverse H Q
def RevTW (K : PySem.W.Frag) (x : V) (H : Hp) (Q : VK) : Prop := ∃ a xs, x = .ref a ∧ SqT K H a xs ∧ MakT xs.reverse H Q
theorem rd_tRevL (q : te σ H fun x H1 => RevLW K x H1 Q) : tRevL K te σ H Q := q
theorem rd_tRevT (q : te σ H fun x H1 => RevTW K x H1 Q) : tRevT K te σ H Q := q
theorem rd_revLW {a : Addr} {xs : List V} (h : SqL K H a xs) (q : ∀ p H', H p = none → Evl.Ex H H' → H' p = some (.lst xs.reverse) → Q (.ref p) H') : RevLW K (.ref a) H Q := ⟨a, xs, rfl, h, rd_makL q⟩
theorem rd_revTW {a : Addr} {xs : List V} (h : SqT K H a xs) (q : ∀ p H', H p = none → Evl.Ex H H' → H' p = some (.tup xs.reverse) → Q (.ref p) H') : RevTW K (.ref a) H Q := ⟨a, xs, rfl, h, rd_makT q⟩
theorem rd_in {neg : Bool} {x : V} {p : Addr} {xs : List V} (h : SqL K H p xs ∨ SqT K H p xs) (hx : flatV x = true) (ha : xs.all flatV = true) (q : Q (.bl (if neg then !inV x xs else inV x xs)) H) : rIn K neg x (.ref p) H Q := ⟨p, xs, rfl, h, hx, ha, q⟩
theorem flat_ints (ns : List Int) : (ns.map V.int).all flatV = true := by
  rw [List.all_map]
  exact List.all_eq_true.mpr fun _ _ => rfl
theorem in_ints (z : Int) (ns : List Int) : inV (.int z) (ns.map V.int) = decide (z ∈ ns) := by
  unfold inV
  rw [List.any_map]
  rw [Bool.eq_iff_iff]
  rw [List.any_eq_true, decide_eq_true_eq]
  constructor
  · rintro ⟨x, hx, e⟩
    have e' : (x == z) = true := e
    rw [beq_iff_eq] at e'
    exact e' ▸ hx
  · intro h
    exact ⟨z, h, by show (z == z) = true; exact beq_self_eq_true z⟩
theorem rd_whileX {tt : TT} (Exc : L2.St → Hp → Prop) (hd : ∀ σ' H', Exc σ' H' → D.nx σ' H') (h : (∀ σ' H', Exc σ' H' → D.nx σ' H') → tWhile tt tb D σ H) : tWhile tt tb D σ H := h hd
theorem filter_ints (l r : List Int) : (l.map V.int).filter (fun v => !inV v (r.map V.int)) = (l.filter fun z => !decide (z ∈ r)).map V.int := by
  rw [List.filter_map]
  congr 1
  apply List.filter_congr
  intro z _
  show (!inV (V.int z) (r.map V.int)) = _
  rw [in_ints]
theorem rd_gtup {n : Nat} {t : TGs} {a : Addr} {xs : List V} {QS : L2.St → Hp → Prop} (h : SqT K H a xs) (hn : xs.length = n) (q : t xs σ H QS) : gTup K n t (.ref a) σ H QS := ⟨a, xs, rfl, h, hn, q⟩
theorem rd_gcons {t : TG} {u : TGs} {v : V} {r : List V} {QS : L2.St → Hp → Prop} (q : t v σ H fun σ' H' => u r σ' H' QS) : gCons t u (v :: r) σ H QS := ⟨v, r, rfl, q⟩
theorem rd_gnil {QS : L2.St → Hp → Prop} (q : QS σ H) : gNil [] σ H QS := ⟨rfl, q⟩
end
end Kt
/-! Kt, part D: data whose repr is told: how great they are. -/
namespace Kt
open PySem PySem.Spec PyProof.Rows L2
/-- data of short ints and texts, of a weight and a depth of at most so much -/
structure Sm (w dp : Nat) (d : PyData) : Prop where
  sh : d.showable = true
  cl : d.canLay0 = true
  de : d.depth ≤ dp
  wt : d.weight ≤ w
  lf : d.leavesShort 40 = true
structure SmAll (w dp : Nat) (ds : List PyData) : Prop where
  sh : PyData.showableAll ds = true
  cl : PyData.canLayAll0 ds = true
  de : PyData.depthAll ds ≤ dp
  wt : PyData.weightAll ds ≤ w
  lf : PyData.leavesShortAll 40 ds = true
theorem log2_small {n : Nat} (h : n < 10 ^ 38) : n.log2 < 129 := by
  by_cases h0 : n = 0
  · subst h0; decide
  · rw [Nat.log2_lt h0]
    exact Nat.lt_of_lt_of_le h (by decide +kernel)
theorem shown_short {i : Int} (h : i.natAbs < 10 ^ 38) : (PyData.shown (.int i)).length ≤ 40 := by
  have e := int_text_length_le10 (k := 38) (by decide) h
  show (Str.ofString (toString i)).length ≤ 40
  rw [PySem.ofString_length]
  omega
theorem Sm.int {i : Int} (h : i.natAbs < 10 ^ 38) : Sm 130 0 (.int i) := by
  have hl := log2_small h
  refine ⟨?_, rfl, Nat.le_refl _, ?_, ?_⟩
  · simp only [PyData.showable, decide_eq_true_eq]
    omega
  · simp only [PyData.weight]
    split <;> omega
  · simp only [PyData.leavesShort, decide_eq_true_eq]
    exact shown_short h
theorem Sm.bool {b : Bool} : Sm 0 0 (.bool b) := ⟨rfl, rfl, Nat.le_refl _, Nat.le_refl _, rfl⟩
theorem Sm.none : Sm 0 0 .none := ⟨rfl, rfl, Nat.le_refl _, Nat.le_refl _, rfl⟩
theorem Sm.str {x : Str} (h : PyData.strOk x = true) : Sm x.cps.size 0 (.str x) := by
  have hc : PyData.canLay0 (.str x) = true := by simp only [PyData.canLay0]; exact h
  exact ⟨rfl, hc, Nat.le_refl _, by simp only [PyData.weight]; exact Nat.le_refl _, PyData.leavesShort_of_canLay0 40 _ hc rfl⟩
theorem SmAll.nil : SmAll 0 0 [] := ⟨rfl, rfl, Nat.le_refl _, Nat.le_refl _, rfl⟩
theorem SmAll.cons {w dp w' dp' : Nat} {d : PyData} {ds : List PyData} (a : Sm w dp d) (b : SmAll w' dp' ds) : SmAll (w + 1 + w') (max dp dp') (d :: ds) := by
  refine ⟨?_, ?_, ?_, ?_, ?_⟩
  · simp only [PyData.showableAll, a.sh, b.sh, Bool.and_self]
  · simp only [PyData.canLayAll0, a.cl, b.cl, Bool.and_self]
  · simp only [PyData.depthAll]; have := a.de; have := b.de; omega
  · simp only [PyData.weightAll]; have := a.wt; have := b.wt; omega
  · simp only [PyData.leavesShortAll, a.lf, b.lf, Bool.and_self]
theorem Sm.tuple {w dp : Nat} {ds : List PyData} (a : SmAll w dp ds) : Sm w (dp + 1) (.tuple ds) := by
  refine ⟨?_, ?_, ?_, ?_, ?_⟩
  · simp only [PyData.showable, a.sh]
  · simp only [PyData.canLay0, a.cl]
  · simp only [PyData.depth]; have := a.de; omega
  · simp only [PyData.weight]; exact a.wt
  · simp only [PyData.leavesShort, a.lf]
theorem Sm.list {w dp : Nat} {ds : List PyData} (a : SmAll w dp ds) : Sm w (dp + 1) (.list ds) := by
  refine ⟨?_, ?_, ?_, ?_, ?_⟩
  · simp only [PyData.showable, a.sh]
  · simp only [PyData.canLay0, a.cl]
  · simp only [PyData.depth]; have := a.de; omega
  · simp only [PyData.weight]; exact a.wt
  · simp only [PyData.leavesShort, a.lf]
theorem Sm.more {w dp w' dp' : Nat} {d : PyData} (a : Sm w dp d) (h1 : w ≤ w') (h2 : dp ≤ dp') : Sm w' dp' d := ⟨a.sh, a.cl, Nat.le_trans a.de h2, Nat.le_trans a.wt h1, a.lf⟩
theorem SmAll.ints : ∀ ns : List Int, (∀ z ∈ ns, z.natAbs < 10 ^ 38) → SmAll (131 * ns.length) 0 (ns.map .int)
  | [], _ => .nil
  | z :: r, h => by
    have q := SmAll.cons (Sm.int (h z List.mem_cons_self)) (SmAll.ints r fun y hy => h y (List.mem_cons_of_mem _ hy))
    rw [List.map_cons, List.length_cons]
    rw [show 131 * (r.length + 1) = 130 + 1 + 131 * r.length by omega]
    exact q
theorem Sm.fits {w dp : Nat} {d : PyData} (a : Sm w dp d) (h : w ≤ 390000) : d.shown.length ≤ sizeLine := by
  have q := PyData.shown_le 40 (by decide) d a.lf
  have h2 : (40 + 2) * d.weight ≤ 42 * 390000 := Nat.mul_le_mul (by decide) (Nat.le_trans a.wt h)
  have e : 42 * 390000 + 40 ≤ sizeLine := by decide
  omega
section
variable {K : PySem.W.Frag} {H : Hp} {Q : VK}
theorem dp_ints (ns : List Int) : DpAll K H (ns.map V.int) (ns.map .int) := by
  induction ns with
  | nil => exact .nil
  | cons z r ih => exact .cons (.int z) ih
theorem rd_repr' {a : Addr} {d : PyData} {w dp : Nat} (h : Dp K H (.ref a) d) (s : Sm w dp d) (hw : w ≤ 390000) (hd : dp ≤ 128) (q : Q (.str d.shown) H) : rReprD K [.ref a] H Q := ⟨a, d, rfl, h, s.sh, s.cl, Nat.le_trans s.de hd, s.fits hw, q⟩
end
end Kt
local macro_rules | `(tactic| walk_at "rd1") => `(tactic| first
  | with_reducible refine Kt.rd_seq ?_ | with_reducible refine Kt.rd_asg ?_ | with_reducible refine Kt.rd_name ?_ | with_reducible refine Kt.rd_c ?_
  | ((with_reducible refine' Kt.rd_var ?h ?q); (case h => exact rfl))
  | with_reducible refine Kt.rd_nil ?_ | with_reducible refine Kt.rd_cons ?_ | with_reducible refine Kt.rd_op ?_ | with_reducible refine Kt.rd_un ?_ | with_reducible refine Kt.rd_I0 ?_ | with_reducible refine Kt.rd_U ?_
  | with_reducible refine Kt.rd_cb ?_ | with_reducible refine Kt.rd_test ?_ | with_reducible refine Kt.rd_tB ?_ | with_reducible refine Kt.rd_bl ?_ | with_reducible refine Kt.rd_tup ?_ | with_reducible refine Kt.rd_lst ?_
  | with_reducible refine Kt.rd_and ?_ | with_reducible refine Kt.rd_or ?_ | with_reducible refine Kt.rd_not ?_ | with_reducible refine Kt.rd_next ?_ | with_reducible refine Kt.rd_par ?_ | with_reducible refine Kt.rd_par1 ?_
  | with_reducible refine Kt.rd_ifS ?_ | with_reducible refine Kt.rd_ret ?_ | with_reducible refine Kt.rd_drop ?_ | with_reducible refine Kt.rd_bm ?_ | with_reducible refine Kt.rd_bm0 ?_ | with_reducible refine Kt.rd_dget ?_ | with_reducible refine Kt.rd_dput ?_
  | with_reducible refine Kt.rd_sl ?_ | with_reducible refine Kt.rd_no ?_ | with_reducible refine Kt.rd_some ?_ | with_reducible refine Kt.rd_some1 ?_ | with_reducible refine Kt.rd_intO ?_ | with_reducible refine Kt.rd_yes ?_ | with_reducible refine Kt.rd_pcons ?_ | with_reducible refine Kt.rd_pnil ?_)
local macro_rules | `(tactic| walk_at "rd1") => `(tactic| first | with_reducible refine Kt.rd_for ?_ | with_reducible refine Kt.rd_gcons ?_ | with_reducible refine Kt.rd_gnil ?_ | with_reducible refine Kt.rd_lc ?_ | with_reducible refine Kt.rd_irng ?_ | with_reducible refine Kt.rd_ilst ?_ | with_reducible refine Kt.rd_itup ?_ | with_reducible refine Kt.rd_tRevL ?_ | with_reducible refine Kt.rd_tRevT ?_)
local macro_rules | `(tactic| walk_at "rd") => `(tactic| repeat (walk_at "rd1"))
namespace K19
open PySem PySem.Spec PyProof.Rows L2 Kt Evl
def topS (i : Nat) : Stmt := PySem.Challenge.pw_keptrest_k19_ways_of_winds.main.body.getD i (.Pass ⟨0, 0, 0, 0⟩)
structure Txt (K : PySem.W.Frag) (mg : Str → Option Value) : Prop where
  len : mg "len" = none
  int : mg "int" = none
  repr : mg "repr" = none
  tuple : mg "tuple" = none
  list : mg "list" = none
  range : mg "range" = none

section
variable {P : Program} {w : World} {K : PySem.W.Frag} {mg : Str → Option Value} {base : Heap}

theorem ok_thing : PyData.strOk ("thing" : Str) = true := by decide +kernel
theorem shaped_thing (n : Int) : SeqAt.shaped (.tuple [.str "thing", .int n]) = true := by
  simp [SeqAt.shaped, PyData.canLay0, PyData.canLayAll0, PyData.depth, PyData.depthAll, ok_thing]
/-- the row of winds from a value on -/
inductive Chain (H : Hp) (xs : List V) : V → List Int → Prop
  | nil {p : Addr} : H p = some (.tup []) → Chain H xs (.ref p) []
  | cons {p q : Addr} {n : Nat} {a b c d r : V} {ns : List Int} : H p = some (.tup [.str "thing", .int n]) → xs[n]? = some (.ref q) → H q = some (.tup [a, b, c, d, r]) → Chain H xs r ns → Chain H xs (.ref p) ((n : Int) :: ns)
theorem Chain.tx {H H' : Hp} {xs : List V} (e : Tx H H') : ∀ {v : V} {ns : List Int}, Chain H xs v ns → Chain H' xs v ns
  | _, _, .nil h => .nil (e.t _ _ h)
  | _, _, .cons h1 h2 h3 h4 => .cons (e.t _ _ h1) h2 (e.t _ _ h3) (Chain.tx e h4)
theorem Chain.mono {H H' : Hp} {xs : List V} (e : Ex H H') {v : V} {ns : List Int} (c : Chain H xs v ns) : Chain H' xs v ns := c.tx (Tx.ex e)
theorem Chain.app {H : Hp} {xs ys : List V} : ∀ {v : V} {ns : List Int}, Chain H xs v ns → Chain H (xs ++ ys) v ns
  | _, _, .nil h => .nil h
  | _, _, .cons h1 h2 h3 h4 => .cons h1 (by rw [List.getElem?_append_left (List.getElem?_eq_some_iff.mp h2).1]; exact h2) h3 (Chain.app h4)
theorem Chain.dat {H : Hp} {xs : List V} {v : V} {ns : List Int} (c : Chain H xs v ns) : ∃ d, Dp K H v d ∧ SeqAt.shaped d = true ∧ PyData.eqv d (.tuple []) = ns.isEmpty := by
  cases c with
  | nil h => exact ⟨.tuple [], .tup (st_of h) .nil, by decide +kernel, rfl⟩
  | @cons p q n a b c d r ns h1 h2 h3 h4 => exact ⟨.tuple [.str "thing", .int n], .tup (st_of h1) (.cons (.str _) (.cons (.int _) .nil)), shaped_thing _, rfl⟩
/-- a value leads to one row alone -/
theorem Chain.one {H : Hp} {xs : List V} : ∀ {v : V} {ns ms : List Int}, Chain H xs v ns → Chain H xs v ms → ns = ms
  | _, _, _, .nil h, .nil _ => rfl
  | _, _, _, .nil h, .cons h1 _ _ _ => by rw [h] at h1; cases h1
  | _, _, _, .cons h1 _ _ _, .nil h => by rw [h] at h1; cases h1
  | _, _, _, .cons h1 h2 h3 h4, .cons g1 g2 g3 g4 => by
    rw [h1] at g1
    have e : _ = _ := V.int.inj (List.cons.inj (List.cons.inj (HO.tup.inj (Option.some.inj g1))).2).1
    have e' := Int.ofNat.inj e
    subst e'
    rw [h2] at g2
    cases g2
    rw [h3] at g3
    cases g3
    rw [Chain.one h4 g4]
/-- behind each wind the row is the one from its REST on -/
theorem Chain.behind {H : Hp} {xs : List V} {x : Int} {s : List Int} : ∀ {v : V} {l : List Int}, Chain H xs v l → ∀ p : List Int, l = p ++ x :: s → ∃ (n : Nat) (q : Addr) (a b c d r : V), x = (n : Int) ∧ xs[n]? = some (.ref q) ∧ H q = some (.tup [a, b, c, d, r]) ∧ Chain H xs r s
  | _, _, .nil _, p, e => by cases p <;> cases e
  | _, _, .cons h1 h2 h3 h4, [], e => by
    obtain ⟨e1, e2⟩ := List.cons.inj e
    subst e1 e2
    exact ⟨_, _, _, _, _, _, _, rfl, h2, h3, h4⟩
  | _, _, .cons h1 h2 h3 h4, y :: p, e => Chain.behind h4 p (List.cons.inj e).2
/-- two rows that share a wind share all behind it -/
theorem Chain.det {H : Hp} {xs : List V} {v u : V} {l r : List Int} (cl : Chain H xs v l) (cr : Chain H xs u r) {p p' s s' : List Int} {x : Int} (e : l = p ++ x :: s) (e' : r = p' ++ x :: s') : s = s' := by
  subst e e'
  obtain ⟨n, q, a, b, c, d, z, e1, h1, h2, h3⟩ := cl.behind p rfl
  obtain ⟨n', q', a', b', c', d', z', e2, g1, g2, g3⟩ := cr.behind p' rfl
  have e3 : n = n' := by omega
  subst e3
  rw [h1] at g1
  cases g1
  rw [h2] at g2
  cases g2
  exact h3.one g3
/-- what two rows do not share, where nothing more can be taken off both ends -/
theorem way_left {l r L R t : List Int} (det : ∀ (p p' s s' : List Int) (x : Int), l = p ++ x :: s → r = p' ++ x :: s' → s = s') (el : l = L ++ t) (er : r = R ++ t)
    (mx : ∀ (L' R' : List Int) (x : Int), ¬ (L = L' ++ [x] ∧ R = R' ++ [x])) : l.filter (fun x => !decide (x ∈ r)) = L := by
  have inT : t.filter (fun x => !decide (x ∈ r)) = [] := by
    rw [List.filter_eq_nil_iff]
    intro x hx
    simp [er, hx]
  have inL : L.filter (fun x => !decide (x ∈ r)) = L := by
    rw [List.filter_eq_self]
    intro x hx
    have hn : ¬ x ∈ r := fun hr => by
      obtain ⟨p, s, e1⟩ := List.append_of_mem hx
      obtain ⟨p', s', e2⟩ := List.append_of_mem hr
      have e3 : l = p ++ x :: (s ++ t) := by rw [el, e1]; simp
      have e4 := det p p' (s ++ t) s' x e3 e2
      have e5 : R = p' ++ x :: s := by
        rw [er, ← e4] at e2
        have : R ++ t = (p' ++ x :: s) ++ t := by rw [e2]; simp
        exact List.append_cancel_right this
      have hne : x :: s ≠ [] := List.cons_ne_nil _ _
      have e6 : x :: s = (x :: s).dropLast ++ [(x :: s).getLast hne] := (List.dropLast_concat_getLast hne).symm
      refine mx (p ++ (x :: s).dropLast) (p' ++ (x :: s).dropLast) ((x :: s).getLast hne) ⟨?_, ?_⟩
      · rw [List.append_assoc, ← e6]; exact e1
      · rw [List.append_assoc, ← e6]; exact e5
    simp [hn]
  rw [el, List.filter_append]
  rw [el] at *
  rw [inT, inL, List.append_nil]

abbrev s_winds_of : Stmt := topS 1
theorem sc_winds_of : FnScope ["store", "winds", "found"] ["store", "winds"] (defScope s_winds_of) := ⟨rfl, rfl, rfl, by decide +kernel, rfl, by decide +kernel, by decide +kernel⟩
def spWinds (K : PySem.W.Frag) : Sp := fun vs H Q _ => ∃ (a : Addr) (xs : List V) (v : V) (ns : List Int), vs = [.ref a, v] ∧ SqT K H a xs ∧ Chain H xs v ns ∧ ns.length ≤ 1000 ∧ ∀ p H', Ex H H' → H p = none → H' p = some (.tup (ns.map V.int)) → Q (.ref p) H'
theorem c_winds_of (T : Txt K mg) (D : DefG K mg "winds_of" s_winds_of ["store", "winds"]) : CalG P w K mg base 1 "winds_of" (spWinds K) := by
  refine calG D sc_winds_of (fun vs H Q E h => ?_) (fun cdv f A outer s H vs Q E hA hr h => ?_)
  · obtain ⟨a, xs, v, ns, rfl, _⟩ := h
    rfl
  · obtain ⟨a, xs, v, ns, rfl, hS, hC, hl, q⟩ := h
    have hu := hu_of hr
    refine ⟨_, pss_cons (ps_set (i := 2) sc_winds_of.nd rfl (Or.inl rfl) (pe_lst pa_nil))
      (pss_cons (ps_while PassesOwn.never (pt_cmpR (op_neD hr.units) (pv 1) (pe_tup pa_nil) (nomark _))
        (pss_cons (ps_expr (pe_bm PySem.F.plainAttrs_list PySem.F.slot_list_append PySem.F.type_list_append mt_append (pv 2) (pa_cons (pe_ix ix_tup (pv 1) pe_int (fun _ _ => rfl)) pa_nil)))
        (pss_one (ps_set (i := 1) sc_winds_of.nd rfl (Or.inl rfl) (pe_ix ix_tup (pe_ix ix_tup (pv 0) (pe_ix ix_tup (pv 1) pe_int (fun _ _ => rfl)) (fun _ _ => rfl)) pe_int (fun _ _ => rfl))))))
      (pss_one (ps_ret (pe_callTy call_tupO (by rfl) T.tuple (by decide +kernel) (pa_cons (pv 2) pa_nil))))), ?_⟩
    walk_at "rd"
    refine rd_newL fun p H0 hp e0 h0 => ?_
    walk_at "rd"
    refine ⟨fun m σ H' => ∃ v' ms acc, σ = [some (.ref a), some v', some (.ref p)] ∧ Ex H H' ∧ H' p = some (.lst (acc.map V.int)) ∧ Chain H xs v' ms ∧ acc ++ ms = ns ∧ m = ms.length,
      ⟨ns.length, v, ns, [], rfl, e0, h0, hC, rfl, rfl⟩, fun m σ H1 hw => ?_⟩
    obtain ⟨v', ms, acc, rfl, e1, h1, c1, rfl, rfl⟩ := hw
    walk_at "rd"
    refine rd_newT fun t H2 _ e12 ht => ?_
    have e2 : Ex H H2 := e1.trans e12
    have h2 := e12 _ _ h1
    obtain ⟨d, hd, sd, ed⟩ := (c1.mono e2).dat (K := K)
    refine rd_neD hd (.tup (st_of ht) .nil) sd (by decide +kernel) ?_
    rw [ed]
    walk_at "rd"
    cases c1 with
    | nil h =>
      refine iteF ?_
      walk_at "rd"
      refine rd_tupO (sq_of h2) fun l H3 hl e3 h3 => ?_
      rw [List.append_nil] at *
      exact q l _ (e2.trans e3) (fresh_back e2 hl) h3
    | @cons p1 q1 n a1 b1 c1 d1 r1 ms h3 h4 h5 h6 =>
      refine iteT ?_
      refine ⟨fun σ' H' => ∃ v' acc', σ' = [some (.ref a), some v', some (.ref p)] ∧ Ex H H' ∧ H' p = some (.lst (acc'.map V.int)) ∧ Chain H xs v' ms ∧ acc' ++ ms = acc ++ ((n : Int) :: ms), fun σ' H' h => ?_, ?_⟩
      · obtain ⟨v', acc', z1, z2, z3, z4, z5⟩ := h
        exact ⟨ms.length, Nat.lt_succ_self _, v', ms, acc', z1, z2, z3, z4, z5, rfl⟩
      · walk_at "rd"
        refine rd_tyL (sq_of h2) ?_
        walk_at "rd"
        refine rd_ixT (st_of (e2 _ _ h3)) (atI_nat (j := 1) rfl) ?_
        walk_at "rd"
        refine rd_app h2 ?_ ?_
        · rw [List.length_map]
          exact Nat.lt_of_lt_of_le (by simp only [List.length_append] at hl; omega) (by decide : 1001 ≤ sizeLine)
        have e3 : Ex H (upd H2 p (.lst (acc.map V.int ++ [.int n]))) := e2.mut hp
        walk_at "rd"
        refine rd_ixT (st_of (e3 _ _ h3)) (atI_nat (j := 1) rfl) ?_
        walk_at "rd"
        refine rd_ixT (ex_t e3 hS) (atI_nat h4) ?_
        walk_at "rd"
        refine rd_ixT (st_of (e3 _ _ h5)) (atI_nat (j := 4) rfl) ?_
        walk_at "rd"
        exact ⟨r1, acc ++ [(n : Int)], rfl, e3, by rw [upd_same, List.map_append]; rfl, h6, by simp⟩
end
end K19
namespace K19
open PySem PySem.Spec PyProof.Rows L2 Kt Evl
section
variable {P : Program} {w : World} {K : PySem.W.Frag} {mg : Str → Option Value} {base : Heap}
abbrev s_law_draw : Stmt := topS 5
theorem sc_law_draw : FnScope ["m", "below", "found", "spot", "cells", "added", "cell", "blend"] ["m", "below"] (defScope s_law_draw) := ⟨rfl, rfl, rfl, by decide +kernel, rfl, by decide +kernel, by decide +kernel⟩
theorem c_law_draw (T : Txt K mg) (D : DefG K mg "_law_draw" s_law_draw ["m", "below"]) : CalG P w K mg base 1 "_law_draw" (spDraw K) := by
  refine calG D sc_law_draw (fun vs H Q E h => ?_) (fun cdv f A outer s H vs Q E hA hr h => ?_)
  · obtain ⟨m, c, b, n, rfl, _⟩ := h
    rfl
  · obtain ⟨m, c, b, n, rfl, hD, ⟨ns, h7, h8, h9⟩, hn, hb, hb2, q⟩ := h
    have hu := hu_of hr
    obtain ⟨kvs, l, sd, sp, h1, h2, h3, h4, h5, h6, h10, h11, h12, h13⟩ := id hD.ex
    have hz : kvs.length < sizeLine := Nat.lt_of_le_of_lt h2 (Nat.lt_of_lt_of_le (by omega) (by decide : 2000000 ≤ sizeLine))
    refine ⟨_, pss_cons (ps_if (pt_cmpR op_gt (pe_dget hu (pv 0) pe_str (fun _ _ => rfl)) pe_int (nomark _))
        (pss_cons (ps_set (i := 2) sc_law_draw.nd rfl (Or.inl rfl) (pe_op op_modN (pe_callTy call_intO (by rfl) T.int (by decide +kernel) (pa_cons (pe_dget hu (pv 0) pe_str (fun _ _ => rfl)) pa_nil)) (pv 1)))
        (pss_cons (ps_dput hu (pv 0) pe_str (pe_op op_fdivN (pe_dget hu (pv 0) pe_str (fun _ _ => rfl)) (pv 1)) rfl)
        (pss_one (ps_ret (pv 2)))))
        (pss_nil))
      (pss_cons (ps_set (i := 3) sc_law_draw.nd rfl (Or.inl rfl) (pe_dget hu (pv 0) pe_str (fun _ _ => rfl)))
      (pss_cons (ps_dput hu (pv 0) pe_str (pe_op op_add (pv 3) pe_int) rfl)
      (pss_cons (ps_par (i := 4) (j := 5) (by rfl) sc_law_draw.nd rfl rfl (by decide) rfl rfl (pa_cons (pe_dget hu (pv 0) pe_str (fun _ _ => rfl)) (pa_cons (pe_op op_add (pe_dget hu (pv 0) pe_str (fun _ _ => rfl)) (pe_op op_mul (pe_op op_mul pe_int (pv 3)) (pv 3))) pa_nil)) (by rfl))
      (pss_cons (ps_set (i := 6) sc_law_draw.nd rfl (Or.inl rfl) (pe_ix ix_list (pv 4) (pe_op op_modN (pe_callTy call_intO (by rfl) T.int (by decide +kernel) (pa_cons (pv 3) pa_nil)) (pe_callB call_lenO (by rfl) T.len (by decide +kernel) (pa_cons (pv 4) pa_nil))) (fun _ _ => rfl)))
      (pss_cons (ps_set (i := 7) sc_law_draw.nd rfl (Or.inl rfl) (pe_op op_modN (pe_callTy call_intO (by rfl) T.int (by decide +kernel) (pa_cons (pe_op op_add (pe_op op_mul (pv 6) (pe_op op_add (pe_op op_mul pe_int (pv 3)) pe_int)) (pv 5)) pa_nil)) pe_int))
      (pss_cons (ps_set (i := 7) sc_law_draw.nd rfl (Or.inl rfl) (pe_op op_modN (pe_callTy call_intO (by rfl) T.int (by decide +kernel) (pa_cons (pe_op op_add (pe_op op_add (pe_op op_mul (pv 7) (pv 7)) (pe_op op_mul pe_int (pv 3))) (pe_dget hu (pv 0) pe_str (fun _ _ => rfl))) pa_nil)) pe_int))
      (pss_one (ps_ret (pe_op op_modN (pe_op op_fdivN (pe_op op_modN (pe_callTy call_intO (by rfl) T.int (by decide +kernel) (pa_cons (pe_op op_add (pe_op op_mul (pv 7) pe_int) (pv 3)) pa_nil)) pe_int) pe_int) (pv 1)))))))))), ?_⟩
    walk_at "rd"
    refine rd_dg (k := kLeft) h1 h3 ?_
    walk_at "rd"
    refine ite2 (fun hl => ?_) (fun hl => ?_)
    · walk_at "rd"
      refine rd_dg (k := kLeft) h1 h3 ?_
      walk_at "rd"
      refine rd_I (by omega) ?_
      walk_at "rd"
      refine rd_dg (k := kLeft) h1 h3 ?_
      walk_at "rd"
      refine rd_I ⟨by omega, by omega⟩ ?_
      walk_at "rd"
      refine rd_dp (k := kLeft) h1 hz ?_
      walk_at "rd"
      refine q _ _ (Int.fmod_nonneg_of_pos _ hb) (Int.fmod_lt_of_pos _ hb) Keeps.put ⟨_, l.fdiv b, sd, sp, upd_same, Nat.le_trans (length_putK _ _ _) (by omega), ?_, ?_, ?_, ?_, h10, h11, h12, by omega⟩
      · rw [valV_put, if_pos rfl]
      · rw [valV_put, if_neg (fun z => n_ld z.symm)]; exact h4
      · rw [valV_put, if_neg (fun z => n_ls z.symm)]; exact h5
      · rw [valV_put, if_neg (fun z => n_lc z.symm)]; exact h6
    · walk_at "rd"
      refine rd_dg (k := kSpot) h1 h5 ?_
      walk_at "rd"
      refine rd_dp (k := kSpot) h1 hz ?_
      have g1 : (upd H m (.dK (putK kvs kSpot (.int (sp + 1))))) m = some (.dK (putK kvs kSpot (.int (sp + 1)))) := upd_same
      have k2 : Keeps m H (upd H m (.dK (putK kvs kSpot (.int (sp + 1))))) := Keeps.put
      have g3 : valV (putK kvs kSpot (.int (sp + 1))) kLeft = some (.int l) := by rw [valV_put, if_neg n_ls]; exact h3
      have g4 : valV (putK kvs kSpot (.int (sp + 1))) kSeed = some (.int sd) := by rw [valV_put, if_neg (fun z => n_sd z.symm)]; exact h4
      have g5 : valV (putK kvs kSpot (.int (sp + 1))) kSpot = some (.int (sp + 1)) := by rw [valV_put, if_pos rfl]
      have g6 : valV (putK kvs kSpot (.int (sp + 1))) kCells = some (.ref c) := by rw [valV_put, if_neg (fun z => n_sc z.symm)]; exact h6
      have g7 := k2.lst h1 h7
      have gz : (putK kvs kSpot (.int (sp + 1))).length ≤ 10 + (n + 1) := Nat.le_trans (length_putK _ _ _) (by omega)
      generalize upd H m (.dK (putK kvs kSpot (.int (sp + 1)))) = H2 at *
      generalize putK kvs kSpot (.int (sp + 1)) = kv2 at *
      walk_at "rd"
      refine rd_dg (k := kCells) g1 g6 ?_
      walk_at "rd"
      refine rd_dg (k := kSeed) g1 g4 ?_
      walk_at "rd"
      refine rd_I (.inl ⟨by omega, by omega⟩) ?_
      walk_at "rd"
      refine rd_I (.inr ⟨by omega, by omega⟩) ?_
      walk_at "rd"
      refine rd_lenO (.inl g7) ?_
      have hfl : (0 : Int) < ((ns.map V.int).length : Int) := by rw [List.length_map]; omega
      walk_at "rd"
      refine rd_I (by omega) ?_
      have f1 := Int.fmod_nonneg_of_pos sp hfl
      have f2 := Int.fmod_lt_of_pos sp hfl
      obtain ⟨j, hj⟩ : ∃ j : Nat, sp.fmod ((ns.map V.int).length : Int) = (j : Int) := ⟨(sp.fmod _).toNat, (Int.toNat_of_nonneg f1).symm⟩
      rw [hj] at f2 ⊢
      have hjn : j < ns.length := by rw [List.length_map] at f2; omega
      walk_at "rd"
      refine rd_ixL g7 (atI_nat (v := .int ns[j]) (by rw [List.getElem?_map, List.getElem?_eq_getElem hjn]; rfl)) ?_
      generalize ns[j] = cell
      walk_at "rd"
      refine rd_I (.inl ⟨by omega, by omega⟩) ?_
      walk_at "rd"
      refine rd_I (.inr ⟨by omega, by omega⟩) ?_
      walk_at "rd"
      refine rd_I (by omega) ?_
      generalize hB1 : (cell * (2 * sp + 3) + (sd + 40503 * sp * sp)).fmod 2147483647 = B1
      have b1 : 0 ≤ B1 := hB1 ▸ Int.fmod_nonneg_of_pos _ (by omega)
      have b2 : B1 < 2147483647 := hB1 ▸ Int.fmod_lt_of_pos _ (by omega)
      walk_at "rd"
      refine rd_I (.inl ⟨by omega, by omega⟩) ?_
      walk_at "rd"
      refine rd_I (.inl ⟨by omega, by omega⟩) ?_
      walk_at "rd"
      refine rd_dg (k := kSeed) g1 g4 ?_
      walk_at "rd"
      refine rd_I (by omega) ?_
      generalize hB2 : (B1 * B1 + 69621 * sp + sd).fmod 2147483629 = B2
      have b3 : 0 ≤ B2 := hB2 ▸ Int.fmod_nonneg_of_pos _ (by omega)
      have b4 : B2 < 2147483629 := hB2 ▸ Int.fmod_lt_of_pos _ (by omega)
      walk_at "rd"
      refine rd_I (.inl ⟨by omega, by omega⟩) ?_
      walk_at "rd"
      refine rd_I (by omega) ?_
      walk_at "rd"
      refine rd_I ⟨by omega, by omega⟩ ?_
      walk_at "rd"
      refine rd_I (by omega) ?_
      exact q _ _ (Int.fmod_nonneg_of_pos _ hb) (Int.fmod_lt_of_pos _ hb) k2 ⟨kv2, l, sd, sp + 1, g1, gz, g3, g4, g5, g6, h10, h11, by omega, by omega⟩

abbrev s_law_of : Stmt := topS 6
theorem sc_law_of : FnScope ["m", "some"] ["m", "some"] (defScope s_law_of) := ⟨rfl, rfl, rfl, by decide +kernel, rfl, by decide +kernel, by decide +kernel⟩
theorem c_law_of (T : Txt K mg) (D : DefG K mg "_law_of" s_law_of ["m", "some"]) (c_law_draw : CalG P w K mg base 1 "_law_draw" (spDraw K)) : CalG P w K mg base 2 "_law_of" (spOf K) := by
  refine calG D sc_law_of (fun vs H Q E h => ?_) (fun cdv f A outer s H vs Q E hA hr h => ?_)
  · obtain ⟨m, c, p, xs, n, rfl, _⟩ := h
    rfl
  · obtain ⟨m, c, p, xs, n, rfl, hL, hl, hl2, hD, hC, hn, q⟩ := h
    refine ⟨_, pss_one (ps_ret (pe_ix ix_list (pv 1) (pe_cG c_law_draw hA hr (by decide) (by rfl) (pa_cons (pv 0) (pa_cons (pe_callB call_lenO (by rfl) T.len (by decide +kernel) (pa_cons (pv 1) pa_nil)) pa_nil))) (fun _ _ => rfl))), ?_⟩
    walk_at "rd"
    refine rd_lenO (.inl hL) ?_
    walk_at "rd"
    refine ⟨m, c, _, n, rfl, hD, hC, hn, by omega, by omega, fun r H' r0 r1 k2 d2 => ?_⟩
    obtain ⟨j, rfl⟩ : ∃ j : Nat, r = (j : Int) := ⟨r.toNat, (Int.toNat_of_nonneg r0).symm⟩
    have hj : j < xs.length := by omega
    refine rd_ixL (hD.lst k2 hL) (atI_nat (List.getElem?_eq_getElem hj)) ?_
    exact q j _ H' (List.getElem?_eq_getElem hj) k2 d2
end
end K19
namespace K19
open PySem PySem.Spec PyProof.Rows L2 Kt Evl
section
variable {P : Program} {w : World} {K : PySem.W.Frag} {mg : Str → Option Value} {base : Heap}
abbrev s_law_begun : Stmt := topS 4
theorem sc_law_begun : FnScope ["script", "k", "cells", "great", "cell", "begun"] ["script", "k"] (defScope s_law_begun) := ⟨rfl, rfl, rfl, by decide +kernel, rfl, by decide +kernel, by decide +kernel⟩
theorem c_law_begun (T : Txt K mg) (D : DefG K mg "_law_begun" s_law_begun ["script", "k"]) : CalG P w K mg base 1 "_law_begun" (spBegun K) := by
  refine calG D sc_law_begun (fun vs H Q E h => ?_) (fun cdv f A outer s H vs Q E hA hr h => ?_)
  · obtain ⟨a, ns, k, rfl, _⟩ := h
    rfl
  · obtain ⟨a, ns, k, rfl, hS, hl, hk0, hk1, q⟩ := h
    have hu := hu_of hr
    refine ⟨_, pss_cons (ps_set (i := 2) sc_law_begun.nd rfl (Or.inl rfl) (pe_op op_cat (pe_slice sl_list (pv 0) (po_some (pv 1)) po_none) (pe_slice sl_list (pv 0) po_none (po_some (pv 1)))))
      (pss_cons (ps_setLc (i := 3) (own := [("cell", 4)]) (g := gName 4) (by rfl) sc_law_begun.nd rfl rfl (sw_true rfl rfl rfl (by decide +kernel)) (pi_list (pv 0)) (blkOk_by (own := [("cell", 4)]) (N := ["script", "k", "cells", "great", "cell", "begun"]) (sc := defScope s_law_begun) (by decide +kernel)) (fun _ _ _ _ _ => pg_name (i := 4) sc_law_begun.nd rfl (Or.inl rfl)) (fun _ _ _ _ _ => pts_one (pt_cmpR op_ge (pv 4) (pe_op op_pow pe_int pe_int) (nomark _))) (fun _ _ _ _ _ => pv 4))
      (pss_cons (ps_set (i := 5) sc_law_begun.nd rfl (Or.inl rfl) (pe_op op_add pe_int (pe_op op_mul pe_int (pv 1))))
      (pss_cons (ps_for PassesOwn.never rfl (pi_list (pv 2)) (pg_name (i := 4) sc_law_begun.nd rfl (Or.inl rfl))
        (pss_one (ps_set (i := 5) sc_law_begun.nd rfl (Or.inl rfl) (pe_op op_modN (pe_callTy call_intO (by rfl) T.int (by decide +kernel) (pa_cons (pe_op op_add (pe_op op_mul (pv 5) pe_int) (pv 4)) pa_nil)) pe_int))))
      (pss_one (ps_ret (pe_disp (pps_cons pe_str (pe_ifExp (pt_cmpR op_lt (pv 1) (pe_callB call_lenO (by rfl) T.len (by decide +kernel) (pa_cons (pv 3) pa_nil)) (nomark _)) (pe_ix ix_list (pv 3) (pv 1) (fun _ _ => rfl)) pe_int) (pps_cons pe_str (pv 5) (pps_cons pe_str (pe_op op_cat (pv 2) (pe_lst (pa_cons (pe_op op_add (pe_op op_mul pe_int (pv 1)) pe_int) pa_nil))) (pps_cons pe_str pe_int (pps_cons pe_str pe_int pps_nil))))) (by rfl) (by rfl) (fun z => by cases z) (by decide))))))), ?_⟩
    walk_at "rd"
    refine rd_slL hS fun p1 H1 n1 e1 h1 => ?_
    walk_at "rd"
    refine rd_slL (ex_l e1 hS) fun p2 H2 n2 e12 h2 => ?_
    obtain ⟨m1, q1, l1⟩ := cut_ints ns (some k) none
    obtain ⟨m2, q2, l2⟩ := cut_ints ns none (some k)
    rw [q1] at h1
    rw [q2] at h2
    have e2 := e1.trans e12
    refine rd_cat (e12 _ _ h1) h2 ?_ fun cl H3 n3 e23 g3 => ?_
    · rw [List.length_map, List.length_map]
      exact Nat.le_trans (by omega : _ ≤ 126) (by decide)
    have e3 := e2.trans e23
    have n3' : H cl = none := fresh_back e2 n3
    rw [← List.map_append] at g3
    have hcl : (m1 ++ m2).length ≤ 126 := by rw [List.length_append]; omega
    generalize m1 ++ m2 = cs at *
    walk_at "rd"
    refine rd_lstW (ex_l e3 hS) fun gr n4 => ?_
    refine lc_list (xs := ns.map V.int) (fun i H' => Ex H3 H' ∧ ∃ gs : List Int, H' gr = some (.lst (gs.map V.int)) ∧ gs.length ≤ i) ⟨Ex.new n4, [], upd_same, Nat.le_refl _⟩ (fun i H' _ p => ex_l (e3.trans p.1) hS) (fun i x H' hi p => ?_) (fun H' p => ?_)
    · obtain ⟨z, rfl, hz⟩ := get_ints hi
      obtain ⟨e4, gs, h4, l4⟩ := p
      have hil : i < ns.length := (List.getElem?_eq_some_iff.mp hz).1
      walk_at "rd"
      refine ⟨rfl, ?_⟩
      walk_at "rd"
      refine rd_I ⟨by decide, by decide, by decide⟩ ?_
      walk_at "rd"
      refine ite2 (fun hb => ?_) (fun hb => ?_)
      · walk_at "rd"
        refine ⟨_, h4, ?_, e4.mut n4, gs ++ [z], ?_, ?_⟩
        · rw [List.length_map]
          exact Nat.lt_of_le_of_lt (by omega : _ ≤ 63) (by decide)
        · rw [upd_same, List.map_append]; rfl
        · rw [List.length_append]; exact Nat.succ_le_succ l4
      · exact ⟨e4, gs, h4, Nat.le_succ_of_le l4⟩
    · obtain ⟨e4, gs, h4, l4⟩ := p
      rw [List.length_map] at l4
      have e5 := e3.trans e4
      have h5 := e4 _ _ g3
      have n4' : H gr = none := fresh_back e3 n4
      walk_at "rd"
      refine rd_I (.inl ⟨by decide, by decide⟩) ?_
      walk_at "rd"
      refine rd_lstW (sq_of h5) (for_list (xs := cs.map V.int) (fun i σ H'' => ∃ (b : Int) (x : Option V), σ = [some (.ref a), some (.int k), some (.ref cl), some (.ref gr), x, some (.int b)] ∧ H'' = H' ∧ 0 ≤ b ∧ b < 2147483647)
        ⟨61 + 6 * k, none, rfl, rfl, by omega, by omega⟩ (fun i σ H'' _ p => ?_) (fun i x σ H'' hi p => ?_) (fun σ H'' p => ?_))
      · obtain ⟨b, x, rfl, rfl, _⟩ := p
        exact sq_of h5
      · obtain ⟨b, x', rfl, rfl, b0, b1⟩ := p
        obtain ⟨z, rfl, hz⟩ := get_ints hi
        walk_at "rd"
        refine rd_I (.inl ⟨by omega, by omega⟩) ?_
        walk_at "rd"
        refine rd_I (by omega) ?_
        walk_at "rd"
        exact ⟨_, some (.int z), rfl, rfl, Int.fmod_nonneg_of_pos _ (by omega), Int.fmod_lt_of_pos _ (by omega)⟩
      · obtain ⟨b, x', rfl, rfl, b0, b1⟩ := p
        walk_at "rd"
        intro m nm
        have e6 := e5.trans (Ex.new (o := .dK []) nm)
        have f1 : Ex H'' (upd H'' m (.dK [])) := Ex.new nm
        have m1' : (upd H'' m (.dK [])) m = some (.dK []) := upd_same
        have nm' : H m = none := fresh_back e5 nm
        generalize upd H'' m (.dK []) = H6 at *
        walk_at "rd"
        refine rd_ifE2 (f := V.int) (fun lf => ?_) (fun all => ?_)
        · walk_at "rd"
          refine rd_I (.inl ⟨by decide, by decide⟩) ?_
          walk_at "rd"
          refine rd_newL fun p6 H7 n6 e67 h7 => ?_
          refine rd_cat (e67 _ _ (f1 _ _ h5)) h7 ?_ fun cl2 H8 n7 e78 g8 => ?_
          · rw [List.length_map]
            exact Nat.le_trans (Nat.add_le_add_right hcl 1) (by decide)
          have g1 := e78 _ _ (e67 _ _ m1')
          have e8 := (e6.trans e67).trans e78
          rw [show cs.map V.int ++ [V.int (47 * k + 19)] = (cs ++ [47 * k + 19]).map V.int by rw [List.map_append]; rfl] at g8
          walk_at "rd"
          obtain ⟨z0, z1, z2, z3, z4⟩ := merge5 (.int lf) (.int b) (.ref cl2) (.int 0) (.int 0)
          refine ⟨g1, [(kLeft, .int lf), (kSeed, .int b), (kCells, .ref cl2), (kSpot, .int 0), (kNext, .int 0)], rfl, by show 5 ≤ 15; decide, ?_⟩
          refine q m cl2 _ nm' (e8.mut nm') ⟨_, lf, b, 0, upd_same, Nat.le_trans z0 (by decide), z1, z2, z3, z4, b0, b1, by decide, by decide⟩ ⟨cs ++ [47 * k + 19], sq_of ((upd_ne (fun z => ?_)).trans g8), ?_, ?_⟩
          · rw [z, g1] at g8
            cases g8
          · rw [List.length_append]; exact Nat.succ_pos _
          · rw [List.length_append]; exact Nat.le_trans (Nat.add_le_add_right hcl 1) (by decide)
        · refine rd_ifE ?_
          walk_at "rd"
          refine rd_lenO (.inl (sq_of (f1 _ _ h4))) ?_
          rw [List.length_map]
          walk_at "rd"
          refine ite2 (fun hb => ?_) (fun hb => ?_)
          · obtain ⟨j, rfl⟩ : ∃ j : Nat, k = (j : Int) := ⟨k.toNat, (Int.toNat_of_nonneg hk0).symm⟩
            have hj : j < gs.length := by have := of_decide_eq_true hb; omega
            walk_at "rd"
            refine rd_ixL (sq_of (f1 _ _ h4)) (atI_nat (v := .int gs[j]) (by rw [List.getElem?_map, List.getElem?_eq_getElem hj]; rfl)) ?_
            exact all _
          · exact all 0
end
end K19
namespace K19
open PySem PySem.Spec PyProof.Rows L2 Kt Evl
/-- while the store is made: s the list of things, kn the list of the values that lead to winds -/
structure Mk19 (H : Hp) (m c s kn : Addr) (Hc : Hp) (xs ks : List V) (n : Nat) : Prop where
  kp : Keeps m H Hc
  ne : kn ≠ s
  fs : H s = none
  fk : H kn = none
  hs : Hc s = some (.lst xs)
  hk : Hc kn = some (.lst ks)
  d : Drw Hc m c n
  ch : ∀ x ∈ ks, ∃ ns, Chain Hc xs x ns ∧ ns.length < ks.length
section
variable {H Hc H' : Hp} {m c s kn : Addr} {xs ks : List V} {n n' : Nat} {v : V}
theorem Mk19.ex (t : Mk19 H m c s kn Hc xs ks n) (e : Ex Hc H') : Mk19 H m c s kn H' xs ks n :=
  ⟨t.kp.trans (Keeps.ex e), t.ne, t.fs, t.fk, e _ _ t.hs, e _ _ t.hk, t.d.keep e, fun x hx => let ⟨ns, h1, h2⟩ := t.ch x hx; ⟨ns, h1.mono e, h2⟩⟩
theorem Mk19.draw (t : Mk19 H m c s kn Hc xs ks n) (e : Keeps m Hc H') (d : Drw H' m c n') : Mk19 H m c s kn H' xs ks n' :=
  ⟨t.kp.trans e, t.ne, t.fs, t.fk, e _ _ (t.d.lne t.hs) t.hs, e _ _ (t.d.lne t.hk) t.hk, d, fun x hx => let ⟨ns, h1, h2⟩ := t.ch x hx; ⟨ns, h1.tx (t.d.tx e), h2⟩⟩
theorem Mk19.app (t : Mk19 H m c s kn Hc xs ks n) : Mk19 H m c s kn (upd Hc s (.lst (xs ++ [v]))) (xs ++ [v]) ks n :=
  ⟨t.kp.mut t.fs, t.ne, t.fs, t.fk, upd_same, (upd_ne t.ne).trans t.hk, t.d.oth (t.d.lne t.hs).symm, fun x hx => let ⟨ns, h1, h2⟩ := t.ch x hx; ⟨ns, (h1.tx (Tx.lst t.hs)).app, h2⟩⟩
theorem Mk19.appk (t : Mk19 H m c s kn Hc xs ks n) (hv : ∃ ns, Chain Hc xs v ns ∧ ns.length ≤ ks.length) : Mk19 H m c s kn (upd Hc kn (.lst (ks ++ [v]))) xs (ks ++ [v]) n := by
  refine ⟨t.kp.mut t.fk, t.ne, t.fs, t.fk, (upd_ne t.ne.symm).trans t.hs, upd_same, t.d.oth (t.d.lne t.hk).symm, fun x hx => ?_⟩
  rw [List.length_append]
  rcases List.mem_append.mp hx with hx | hx
  · obtain ⟨ns, h1, h2⟩ := t.ch x hx
    exact ⟨ns, h1.tx (Tx.lst t.hk), Nat.lt_succ_of_lt h2⟩
  · rw [List.mem_singleton.mp hx]
    obtain ⟨ns, h1, h2⟩ := hv
    exact ⟨ns, h1.tx (Tx.lst t.hk), Nat.lt_succ_of_le h2⟩
theorem Mk19.more (t : Mk19 H m c s kn Hc xs ks n) (h : n ≤ n') : Mk19 H m c s kn Hc xs ks n' := ⟨t.kp, t.ne, t.fs, t.fk, t.hs, t.hk, t.d.mono h, t.ch⟩
end
section
variable {P : Program} {w : World} {K : PySem.W.Frag} {mg : Str → Option Value} {base : Heap}
def spStore (K : PySem.W.Frag) : Sp := fun vs H Q _ => ∃ (m c : Addr) (many : Int) (n : Nat), vs = [.ref m, .int many] ∧ Drw H m c n ∧ Cel K H c ∧ n ≤ 100000 ∧ 1 ≤ many ∧ many ≤ 100 ∧
  ∀ (p a kn : Addr) (xs ks : List V) (H' : Hp), Keeps m H H' → Drw H' m c (n + 1000) → H' p = some (.tup [.ref a, .ref kn]) → H' a = some (.tup xs) → H' kn = some (.lst ks) → 0 < ks.length → ks.length ≤ 200 → ks.length ≤ xs.length → xs.length ≤ 1000 →
    (∀ x ∈ ks, ∃ ns, Chain H' xs x ns ∧ ns.length < ks.length) → Q (.ref p) H'
abbrev s_law_store : Stmt := topS 7
theorem sc_law_store : FnScope ["m", "many", "store", "known", "k", "lap", "rest"] ["m", "many"] (defScope s_law_store) := ⟨rfl, rfl, rfl, by decide +kernel, rfl, by decide +kernel, by decide +kernel⟩
theorem c_law_store (T : Txt K mg) (D : DefG K mg "_law_store" s_law_store ["m", "many"]) (c_law_draw : CalG P w K mg base 1 "_law_draw" (spDraw K)) (c_law_of : CalG P w K mg base 2 "_law_of" (spOf K)) : CalG P w K mg base 3 "_law_store" (spStore K) := by
  refine calG D sc_law_store (fun vs H Q E h => ?_) (fun cdv f A outer s0 H vs Q E hA hr h => ?_)
  · obtain ⟨m, c, many, n, rfl, _⟩ := h
    rfl
  · obtain ⟨m, c, many, n, rfl, hD, hC, hn, hm1, hm2, q⟩ := h
    have hu := hu_of hr
    refine ⟨_, pss_cons (ps_par (i := 2) (j := 3) (by rfl) sc_law_store.nd rfl rfl (by decide) rfl rfl (pa_cons (pe_lst (pa_cons (pe_tup (pa_cons pe_str (pa_cons (pe_tup (pa_cons pe_int pa_nil)) (pa_cons (pe_tup pa_nil) pa_nil)))) (pa_cons (pe_tup (pa_cons pe_str (pa_cons pe_int pa_nil))) pa_nil))) (pa_cons (pe_lst (pa_cons (pe_tup pa_nil) pa_nil)) pa_nil)) (by rfl))
      (pss_cons (ps_for PassesOwn.never rfl (pi_range1 (by rfl) T.range (pa_cons (pv 1) pa_nil)) (pg_name (i := 4) sc_law_store.nd rfl (Or.inl rfl))
        (pss_cons (ps_for PassesOwn.never rfl (pi_range1 (by rfl) T.range (pa_cons (pe_cG c_law_draw hA hr (by decide) (by rfl) (pa_cons (pv 0) (pa_cons pe_int pa_nil))) pa_nil)) (pg_name (i := 5) sc_law_store.nd rfl (Or.inl rfl))
          (pss_one (ps_expr (pe_bm PySem.F.plainAttrs_list PySem.F.slot_list_append PySem.F.type_list_append mt_append (pv 2) (pa_cons (pe_cG c_law_of hA hr (by decide) (by rfl) (pa_cons (pv 0) (pa_cons (pe_lst (pa_cons (pe_tup (pa_cons pe_str (pa_cons (pe_tup (pa_cons pe_str (pa_cons pe_int pa_nil))) (pa_cons (pv 4) pa_nil)))) (pa_cons (pe_tup (pa_cons pe_str (pa_cons (pe_tup pa_nil) pa_nil))) (pa_cons (pe_tup (pa_cons pe_str (pa_cons (pe_tup (pa_cons pe_int (pa_cons (pv 4) pa_nil))) (pa_cons (pe_tup (pa_cons (pe_tup (pa_cons pe_int (pa_cons pe_int pa_nil))) pa_nil)) pa_nil)))) pa_nil)))) pa_nil))) pa_nil)))))
        (pss_cons (ps_set (i := 6) sc_law_store.nd rfl (Or.inl rfl) (pe_ifExp (pt_cmpR op_gt (pe_cG c_law_draw hA hr (by decide) (by rfl) (pa_cons (pv 0) (pa_cons pe_int pa_nil))) pe_int (nomark _)) (pe_ix ix_list (pv 3) (pe_un un_neg pe_int) (fun _ _ => rfl)) (pe_cG c_law_of hA hr (by decide) (by rfl) (pa_cons (pv 0) (pa_cons (pv 3) pa_nil)))))
        (pss_cons (ps_expr (pe_bm PySem.F.plainAttrs_list PySem.F.slot_list_append PySem.F.type_list_append mt_append (pv 2) (pa_cons (pe_tup (pa_cons pe_str (pa_cons (pe_tup (pa_cons (pv 4) pa_nil)) (pa_cons (pe_tup (pa_cons pe_str (pa_cons pe_int pa_nil))) (pa_cons (pe_tup (pa_cons pe_str (pa_cons pe_int pa_nil))) (pa_cons (pv 6) pa_nil)))))) pa_nil)))
        (pss_one (ps_expr (pe_bm PySem.F.plainAttrs_list PySem.F.slot_list_append PySem.F.type_list_append mt_append (pv 3) (pa_cons (pe_tup (pa_cons pe_str (pa_cons (pe_op op_sub (pe_callB call_lenO (by rfl) T.len (by decide +kernel) (pa_cons (pv 2) pa_nil)) pe_int) pa_nil))) pa_nil))))))))
      (pss_one (ps_ret (pe_tup (pa_cons (pe_callTy call_tupO (by rfl) T.tuple (by decide +kernel) (pa_cons (pv 2) pa_nil)) (pa_cons (pv 3) pa_nil)))))), ?_⟩
    walk_at "rd"
    refine rd_newT fun t1 H1 _ e1 h1 => ?_
    walk_at "rd"
    refine rd_newT fun t2 H2 _ e2 h2 => ?_
    walk_at "rd"
    refine rd_newT fun t3 H3 _ e3 h3 => ?_
    walk_at "rd"
    refine rd_newT fun t4 H4 _ e4 h4 => ?_
    walk_at "rd"
    refine rd_newL fun s H5 ns e5 h5 => ?_
    have e05 := (((e1.trans e2).trans e3).trans e4).trans e5
    have fs := fresh_back (((e1.trans e2).trans e3).trans e4) ns
    clear e1 e2 e3 e4 e5
    walk_at "rd"
    refine rd_newT fun t6 H6 _ e6 h6 => ?_
    walk_at "rd"
    refine rd_newL fun kn H7 nk e7 h7 => ?_
    have fk := fresh_back (e05.trans e6) nk
    have hs6 := e6 _ _ h5
    have t0 : Mk19 H m c s kn H7 [.ref t3, .ref t4] [.ref t6] n := ⟨Keeps.ex ((e05.trans e6).trans e7), (fun z => by rw [z, hs6] at nk; cases nk), fs, fk, e7 _ _ hs6, h7, hD.keep ((e05.trans e6).trans e7), fun x hx => by
      rw [List.mem_singleton.mp hx]
      exact ⟨[], .nil (e7 _ _ h6), Nat.zero_lt_one⟩⟩
    clear h1 h2 h3 h4 h5 h6 h7 e6 e7 hs6
    walk_at "rd"
    refine rd_rngW (by omega) (by omega) ?_
    refine rd_forN (fun i σ H' => ∃ (a b r : Option V) (xs ks : List V), σ = [some (.ref m), some (.int many), some (.ref s), some (.ref kn), a, b, r] ∧ Mk19 H m c s kn H' xs ks (n + 6 * i) ∧ ks.length = i + 1 ∧ ks.length ≤ xs.length ∧ xs.length ≤ 2 + 3 * i)
      ⟨none, none, none, _, _, rfl, t0, rfl, by show 1 ≤ 2; decide, by show 2 ≤ 2; decide⟩ (fun i σ H' hi p => ?_) (fun σ H' p => ?_)
    · obtain ⟨a, b, r, xs, ks, rfl, t, l1, l2, l3⟩ := p
      have hi2 : i < 100 := by omega
      walk_at "rd"
      refine ⟨m, c, 3, _, rfl, t.d, hD.cel t.kp hC, by omega, by decide, by decide, fun lp H1 lp0 lp3 k1 d1 => ?_⟩
      have t1 := t.draw k1 d1
      walk_at "rd"
      refine rd_rngW (by omega) (by omega) ?_
      refine rd_forN (fun j σ H' => ∃ (b : Option V) (xs : List V), σ = [some (.ref m), some (.int many), some (.ref s), some (.ref kn), some (.int i), b, r] ∧ Mk19 H m c s kn H' xs ks (n + 6 * i + 1 + j) ∧ ks.length ≤ xs.length ∧ xs.length ≤ 2 + 3 * i + j)
        ⟨b, xs, rfl, t1, l2, l3⟩ (fun j σ H' hj p => ?_) (fun σ H' p => ?_)
      · obtain ⟨b, xs, rfl, t, l2, l3⟩ := p
        walk_at "rd"
        refine rd_tyL (sq_of t.hs) ?_
        walk_at "rd"
        refine rd_newT fun p1 H1 _ e1 h1 => ?_
        walk_at "rd"
        refine rd_newT fun p2 H2 _ e2 h2 => ?_
        walk_at "rd"
        refine rd_newT fun p3 H3 _ e3 h3 => ?_
        walk_at "rd"
        refine rd_newT fun p4 H4 _ e4 h4 => ?_
        walk_at "rd"
        refine rd_newT fun p5 H5 _ e5 h5 => ?_
        walk_at "rd"
        refine rd_newT fun p6 H6 _ e6 h6 => ?_
        walk_at "rd"
        refine rd_newT fun p7 H7 _ e7 h7 => ?_
        walk_at "rd"
        refine rd_newT fun p8 H8 _ e8 h8 => ?_
        walk_at "rd"
        refine rd_newL fun p9 H9 _ e9 h9 => ?_
        have t2 := t.ex ((((((((e1.trans e2).trans e3).trans e4).trans e5).trans e6).trans e7).trans e8).trans e9)
        walk_at "rd"
        refine ⟨m, c, p9, _, _, rfl, sq_of h9, by show 0 < 3; decide, by show 3 < 1000000; decide, t2.d, hD.cel t2.kp hC, by omega, fun ix x H10 hx k10 d10 => ?_⟩
        have t3 := t2.draw k10 d10
        walk_at "rd"
        refine rd_app t3.hs (Nat.lt_of_le_of_lt l3 (Nat.lt_of_lt_of_le (by omega) (by decide : 1000 ≤ sizeLine))) ?_
        walk_at "rd"
        exact ⟨some (.int j), xs ++ [x], rfl, t3.app, by rw [List.length_append]; omega, by rw [List.length_append]; exact Nat.add_le_add_right l3 1⟩
      · obtain ⟨b, xs, rfl, t, l2, l3⟩ := p
        have lp4 : lp.toNat ≤ 2 := by omega
        have t := t.more (show _ ≤ n + 6 * i + 3 by omega)
        walk_at "rd"
        refine rd_ifE3 (fun rv H1 => rv ∈ ks ∧ Mk19 H m c s kn H1 xs ks (n + 6 * i + 5)) (fun rv H1 hP => ?_) (fun all => ?_)
        · obtain ⟨hrv, t5⟩ := hP
          walk_at "rd"
          refine rd_tyL (sq_of t5.hs) ?_
          walk_at "rd"
          refine rd_newT fun p1 H2 _ e1 h1 => ?_
          walk_at "rd"
          refine rd_newT fun p2 H3 _ e2 h2 => ?_
          walk_at "rd"
          refine rd_newT fun p3 H4 _ e3 h3 => ?_
          walk_at "rd"
          refine rd_newT fun p4 H5 _ e4 h4 => ?_
          have t6 := t5.ex (((e1.trans e2).trans e3).trans e4)
          walk_at "rd"
          refine rd_app t6.hs (Nat.lt_of_le_of_lt l3 (Nat.lt_of_lt_of_le (by omega) (by decide : 1000 ≤ sizeLine))) ?_
          have t7 := t6.app (v := .ref p4)
          have h4' := (Tx.lst (o := .lst (xs ++ [.ref p4])) t6.hs).t _ _ h4
          walk_at "rd"
          refine rd_tyL (sq_of t7.hk) ?_
          walk_at "rd"
          refine rd_lenO (.inl (sq_of t7.hs)) ?_
          walk_at "rd"
          refine rd_newT fun p5 H6 _ e5 h5 => ?_
          have t8 := t7.ex e5
          walk_at "rd"
          refine rd_app t8.hk (Nat.lt_of_le_of_lt (Nat.le_of_eq l1) (Nat.lt_of_lt_of_le (by omega) (by decide : 1000 ≤ sizeLine))) ?_
          obtain ⟨ns, cns, lns⟩ := t8.ch rv hrv
          have el : (((xs ++ [V.ref p4]).length : Nat) : Int) - 1 = ((xs.length : Nat) : Int) := by rw [List.length_append]; show ((xs.length + 1 : Nat) : Int) - 1 = _; omega
          rw [el] at h5
          have t9 := t8.appk (v := .ref p5) ⟨(xs.length : Int) :: ns, .cons h5 (by rw [List.getElem?_append_right (Nat.le_refl _), Nat.sub_self]; rfl) (e5 _ _ h4') cns, lns⟩
          walk_at "rd"
          refine ⟨_, _, _, _, _, rfl, t9.more (by omega), ?_, ?_, ?_⟩
          · rw [List.length_append, l1]; rfl
          · rw [List.length_append, List.length_append]; exact Nat.add_le_add_right l2 1
          · rw [List.length_append]; show xs.length + 1 ≤ _; omega
        · refine rd_ifE ?_
          walk_at "rd"
          refine ⟨m, c, 3, _, rfl, t.d, hD.cel t.kp hC, by omega, by decide, by decide, fun z H1 z0 z3 k1 d1 => ?_⟩
          have t1 := t.draw k1 d1
          walk_at "rd"
          refine ite2 (fun hb => ?_) (fun hb => ?_)
          · obtain ⟨k0, x, rfl⟩ : ∃ k0 x, ks = k0 ++ [x] := ⟨ks.dropLast, ks.getLast (by intro z; rw [z] at l1; cases l1), (List.dropLast_concat_getLast _).symm⟩
            walk_at "rd"
            refine rd_ixL (sq_of t1.hk) (atI_last _ _) ?_
            exact all _ _ ⟨by simp, t1.more (by omega)⟩
          · walk_at "rd"
            refine ⟨m, c, kn, ks, _, rfl, sq_of t1.hk, by omega, by omega, t1.d, hD.cel t1.kp hC, by omega, fun ix x H2 hx k2 d2 => ?_⟩
            exact all _ _ ⟨List.mem_of_getElem? hx, (t1.draw k2 d2).more (by omega)⟩
    · obtain ⟨a, b, r, xs, ks, rfl, t, l1, l2, l3⟩ := p
      have hmn : many.toNat ≤ 100 := by omega
      walk_at "rd"
      refine rd_tupO (sq_of t.hs) fun ap H1 na e1 h1 => ?_
      walk_at "rd"
      refine rd_newT fun p H2 np e2 h2 => ?_
      have t2 := t.ex (e1.trans e2)
      exact q p ap kn xs ks H2 t2.kp (t2.more (by omega)).d h2 (e2 _ _ h1) t2.hk (by omega) (by omega) l2 (by omega) t2.ch

/-- _law_list(store, value) -/
def spList (K : PySem.W.Frag) : Sp := fun vs H Q _ => ∃ (a : Addr) (xs : List V) (v : V) (ns : List Int), vs = [.ref a, v] ∧ SqT K H a xs ∧ xs.length ≤ 100000 ∧ Chain H xs v ns ∧ ns.length ≤ xs.length ∧ ∀ p H', Ex H H' → H p = none → H' p = some (.lst (ns.map V.int)) → Q (.ref p) H'
abbrev s_law_list : Stmt := topS 8
theorem sc_law_list : FnScope ["store", "value", "found", "lap"] ["store", "value"] (defScope s_law_list) := ⟨rfl, rfl, rfl, by decide +kernel, rfl, by decide +kernel, by decide +kernel⟩
theorem c_law_list (T : Txt K mg) (D : DefG K mg "_law_list" s_law_list ["store", "value"]) : CalG P w K mg base 1 "_law_list" (spList K) := by
  refine calG D sc_law_list (fun vs H Q E h => ?_) (fun cdv f A outer s0 H vs Q E hA hr h => ?_)
  · obtain ⟨a, xs, v, ns, rfl, _⟩ := h
    rfl
  · obtain ⟨a, xs, v, ns, rfl, hS, hx, hC, hl, q⟩ := h
    have hu := hu_of hr
    refine ⟨_, pss_cons (ps_set (i := 2) sc_law_list.nd rfl (Or.inl rfl) (pe_lst pa_nil))
      (pss_cons (ps_for PassesOwn.never rfl (pi_range1 (by rfl) T.range (pa_cons (pe_callB call_lenO (by rfl) T.len (by decide +kernel) (pa_cons (pv 0) pa_nil)) pa_nil)) (pg_name (i := 3) sc_law_list.nd rfl (Or.inl rfl))
        (pss_one (ps_if (pt_cmpR (op_neD hr.units) (pv 1) (pe_tup pa_nil) (nomark _))
          (pss_cons (ps_expr (pe_bm PySem.F.plainAttrs_list PySem.F.slot_list_append PySem.F.type_list_append mt_append (pv 2) (pa_cons (pe_ix ix_tup (pv 1) pe_int (fun _ _ => rfl)) pa_nil)))
          (pss_one (ps_set (i := 1) sc_law_list.nd rfl (Or.inl rfl) (pe_ix ix_tup (pe_ix ix_tup (pv 0) (pe_ix ix_tup (pv 1) pe_int (fun _ _ => rfl)) (fun _ _ => rfl)) pe_int (fun _ _ => rfl)))))
          (pss_nil))))
      (pss_one (ps_ret (pv 2)))), ?_⟩
    walk_at "rd"
    refine rd_newL fun p H0 hp e0 h0 => ?_
    walk_at "rd"
    refine rd_lenO (.inr (ex_t e0 hS)) ?_
    walk_at "rd"
    refine rd_rngW (by omega) (by omega) ?_
    refine rd_forN (fun i σ H' => ∃ v' ms acc x, σ = [some (.ref a), some v', some (.ref p), x] ∧ Ex H H' ∧ H' p = some (.lst (acc.map V.int)) ∧ Chain H xs v' ms ∧ acc ++ ms = ns ∧ (ms = [] ∨ acc.length = i))
      ⟨v, ns, [], none, rfl, e0, h0, hC, rfl, .inr rfl⟩ (fun i σ H1 hi hw => ?_) (fun σ H1 hw => ?_)
    · obtain ⟨v', ms, acc, x, rfl, e1, h1, c1, rfl, hdone⟩ := hw
      walk_at "rd"
      refine rd_newT fun t H2 _ e12 ht => ?_
      have e2 : Ex H H2 := e1.trans e12
      have h2 := e12 _ _ h1
      obtain ⟨d, hd, sd, ed⟩ := (c1.mono e2).dat (K := K)
      refine rd_neD hd (.tup (st_of ht) .nil) sd (by decide +kernel) ?_
      rw [ed]
      walk_at "rd"
      cases c1 with
      | nil h =>
        refine iteF ?_
        walk_at "rd"
        exact ⟨_, [], acc, _, rfl, e2, h2, .nil h, rfl, .inl rfl⟩
      | @cons p1 q1 n a1 b1 c1 d1 r1 ms h3 h4 h5 h6 =>
        refine iteT ?_
        walk_at "rd"
        refine rd_tyL (sq_of h2) ?_
        walk_at "rd"
        refine rd_ixT (st_of (e2 _ _ h3)) (atI_nat (j := 1) rfl) ?_
        walk_at "rd"
        refine rd_app h2 ?_ ?_
        · rw [List.length_map]
          exact Nat.lt_of_lt_of_le (by simp only [List.length_append] at hl; omega) (by decide : 100001 ≤ sizeLine)
        have e3 : Ex H (upd H2 p (.lst (acc.map V.int ++ [.int n]))) := e2.mut hp
        walk_at "rd"
        refine rd_ixT (st_of (e3 _ _ h3)) (atI_nat (j := 1) rfl) ?_
        walk_at "rd"
        refine rd_ixT (ex_t e3 hS) (atI_nat h4) ?_
        walk_at "rd"
        refine rd_ixT (st_of (e3 _ _ h5)) (atI_nat (j := 4) rfl) ?_
        walk_at "rd"
        refine ⟨r1, ms, acc ++ [(n : Int)], _, rfl, e3, by rw [upd_same, List.map_append]; rfl, h6, by simp, ?_⟩
        rcases hdone with z | z
        · cases z
        · exact .inr (by rw [List.length_append, z]; rfl)
    · obtain ⟨v', ms, acc, x, rfl, e1, h1, c1, rfl, hdone⟩ := hw
      have em : ms = [] := by
        rcases hdone with z | z
        · exact z
        · rw [List.length_append] at hl
          rw [Int.toNat_natCast] at z
          exact List.length_eq_zero_iff.mp (by omega)
      subst em
      walk_at "rd"
      rw [List.append_nil] at *
      exact q p _ e1 hp h1
end
end K19
namespace K19
open PySem PySem.Spec PyProof.Rows L2 Kt Evl
section
variable {P : Program} {w : World} {K : PySem.W.Frag} {mg : Str → Option Value} {base : Heap}
def spWay (K : PySem.W.Frag) : Sp := fun vs H Q _ => ∃ (p1 p2 : Addr) (l r : List Int), vs = [.ref p1, .ref p2] ∧ SqL K H p1 (l.map V.int) ∧ SqL K H p2 (r.map V.int) ∧ l.length ≤ 100000 ∧ r.length ≤ 100000 ∧
  ∀ (p a b : Addr) (H' : Hp), Ex H H' → H' p = some (.tup [.ref a, .ref b]) → H' a = some (.tup ((l.filter fun z => !decide (z ∈ r)).map V.int)) → H' b = some (.tup ((r.filter fun z => !decide (z ∈ l)).reverse.map V.int)) → Q (.ref p) H'
abbrev s_law_way : Stmt := topS 9
theorem sc_law_way : FnScope ["one", "other", "left", "spot", "entered"] ["one", "other"] (defScope s_law_way) := ⟨rfl, rfl, rfl, by decide +kernel, rfl, by decide +kernel, by decide +kernel⟩
theorem c_law_way (T : Txt K mg) (D : DefG K mg "_law_way" s_law_way ["one", "other"]) : CalG P w K mg base 1 "_law_way" (spWay K) := by
  refine calG D sc_law_way (fun vs H Q E h => ?_) (fun cdv f A outer s0 H vs Q E hA hr h => ?_)
  · obtain ⟨p1, p2, l, r, rfl, _⟩ := h
    rfl
  · obtain ⟨p1, p2, l, r, rfl, hL, hR, zl, zr, q⟩ := h
    have hu := hu_of hr
    have sl : ∀ n, n ≤ 100000 → n < sizeLine := fun n h => Nat.lt_of_le_of_lt h (by decide)
    refine ⟨_, pss_cons (ps_setLc (i := 2) (own := [("spot", 3)]) (g := gName 3) (by rfl) sc_law_way.nd rfl rfl (sw_true rfl rfl rfl (by decide +kernel)) (pi_list (pv 0)) (blkOk_by (own := [("spot", 3)]) (N := ["one", "other", "left", "spot", "entered"]) (sc := defScope s_law_way) (by decide +kernel)) (fun _ _ _ _ _ => pg_name (i := 3) sc_law_way.nd rfl (Or.inl rfl)) (fun _ _ _ _ _ => pts_one (pt_cmpR (op_notIn_seq : OpR _ _ (rIn K true)) (pv 3) (pv 1) rfl)) (fun _ _ _ _ _ => pv 3))
      (pss_cons (ps_setLc (i := 4) (own := [("spot", 3)]) (g := gName 3) (by rfl) sc_law_way.nd rfl rfl (sw_true rfl rfl rfl (by decide +kernel)) (pi_list (pv 1)) (blkOk_by (own := [("spot", 3)]) (N := ["one", "other", "left", "spot", "entered"]) (sc := defScope s_law_way) (by decide +kernel)) (fun _ _ _ _ _ => pg_name (i := 3) sc_law_way.nd rfl (Or.inl rfl)) (fun _ _ _ _ _ => pts_one (pt_cmpR (op_notIn_seq : OpR _ _ (rIn K true)) (pv 3) (pv 0) rfl)) (fun _ _ _ _ _ => pv 3))
      (pss_one (ps_ret (pe_tup (pa_cons (pe_callTy call_tupO (by rfl) T.tuple (by decide +kernel) (pa_cons (pv 2) pa_nil)) (pa_cons (pe_callTy call_tupO (by rfl) T.tuple (by decide +kernel) (pa_cons (pe_revL (pv 4)) pa_nil)) pa_nil)))))), ?_⟩
    walk_at "rd"
    refine rd_lstW hL ?_
    refine rd_lcF (l.map V.int) (fun v => !inV v (r.map V.int)) (fun H' e => ex_l e hL) (fun x => rfl) (fun x H' hx e Q' q' => ?_) (fun x H' Q' q' => ?_) (by rw [List.length_map]; exact sl _ zl) fun pl H1 n1 e1 h1 => ?_
    · obtain ⟨z, _, rfl⟩ := List.mem_map.mp hx
      walk_at "rd"
      refine rd_in (.inl (ex_l e hR)) rfl (flat_ints r) ?_
      walk_at "rd"
      exact q'
    · walk_at "rd"
      exact q'
    rw [filter_ints] at h1
    walk_at "rd"
    refine rd_lstW (ex_l e1 hR) ?_
    refine rd_lcF (r.map V.int) (fun v => !inV v (l.map V.int)) (fun H' e => ex_l (e1.trans e) hR) (fun x => rfl) (fun x H' hx e Q' q' => ?_) (fun x H' Q' q' => ?_) (by rw [List.length_map]; exact sl _ zr) fun pr H2 n2 e2 h2 => ?_
    · obtain ⟨z, _, rfl⟩ := List.mem_map.mp hx
      walk_at "rd"
      refine rd_in (.inl (ex_l (e1.trans e) hL)) rfl (flat_ints l) ?_
      walk_at "rd"
      exact q'
    · walk_at "rd"
      exact q'
    rw [filter_ints] at h2
    walk_at "rd"
    refine rd_tupO (sq_of (e2 _ _ h1)) fun ta H3 n3 e3 h3 => ?_
    walk_at "rd"
    refine rd_revLW (sq_of (e3 _ _ h2)) fun rv H4 n4 e4 h4 => ?_
    walk_at "rd"
    refine rd_tupO (sq_of h4) fun tb H5 n5 e5 h5 => ?_
    walk_at "rd"
    refine rd_newT fun p H6 n6 e6 h6 => ?_
    rw [← List.map_reverse] at h5
    exact q p ta tb H6 (((((e1.trans e2).trans e3).trans e4).trans e5).trans e6) h6 (e6 _ _ (e5 _ _ (e4 _ _ h3))) (e6 _ _ h5)

/-- winds_way(store, one, other) -/
def spWindsWay (K : PySem.W.Frag) : Sp := fun vs H Q _ => ∃ (a : Addr) (xs : List V) (v u : V) (l r : List Int), vs = [.ref a, v, u] ∧ SqT K H a xs ∧ Chain H xs v l ∧ Chain H xs u r ∧ l.length ≤ 1000 ∧ r.length ≤ 1000 ∧
  ∀ (p pa pb : Addr) (H' : Hp) (L R t : List Int), Ex H H' → H' p = some (.tup [.ref pa, .ref pb]) → H' pa = some (.tup (L.map V.int)) → H' pb = some (.tup (R.reverse.map V.int)) → l = L ++ t → r = R ++ t →
    (∀ (L' R' : List Int) (x : Int), ¬ (L = L' ++ [x] ∧ R = R' ++ [x])) → Q (.ref p) H'
abbrev s_winds_way : Stmt := topS 2
theorem sc_winds_way : FnScope ["store", "one", "other", "left", "entered"] ["store", "one", "other"] (defScope s_winds_way) := ⟨rfl, rfl, rfl, by decide +kernel, rfl, by decide +kernel, by decide +kernel⟩
theorem c_winds_way (T : Txt K mg) (D : DefG K mg "winds_way" s_winds_way ["store", "one", "other"]) (c_winds_of : CalG P w K mg base 1 "winds_of" (spWinds K)) : CalG P w K mg base 2 "winds_way" (spWindsWay K) := by
  refine calG D sc_winds_way (fun vs H Q E h => ?_) (fun cdv f A outer s0 H vs Q E hA hr h => ?_)
  · obtain ⟨a, xs, v, u, l, r, rfl, _⟩ := h
    rfl
  · obtain ⟨a, xs, v, u, l, r, rfl, hS, hl, hr', zl, zr, q⟩ := h
    have hu := hu_of hr
    refine ⟨_, pss_cons (ps_set (i := 3) sc_winds_way.nd rfl (Or.inl rfl) (pe_callTy call_lstO (by rfl) T.list (by decide +kernel) (pa_cons (pe_cG c_winds_of hA hr (by decide) (by rfl) (pa_cons (pv 0) (pa_cons (pv 1) pa_nil))) pa_nil)))
      (pss_cons (ps_set (i := 4) sc_winds_way.nd rfl (Or.inl rfl) (pe_callTy call_lstO (by rfl) T.list (by decide +kernel) (pa_cons (pe_cG c_winds_of hA hr (by decide) (by rfl) (pa_cons (pv 0) (pa_cons (pv 2) pa_nil))) pa_nil)))
      (pss_cons (ps_while PassesOwn.never (PW.pt (pw_and (pt_truth (pv 3) (by intro _; rfl)) (pw_and (pt_truth (pv 4) (by intro _; rfl)) (pw_and1 (pt_cmpR op_eq (pe_ix ix_list (pv 3) (pe_un un_neg pe_int) (fun _ _ => rfl)) (pe_ix ix_list (pv 4) (pe_un un_neg pe_int) (fun _ _ => rfl)) (nomark _))))))
        (pss_cons (ps_expr (pe_bm0 PySem.F.plainAttrs_list PySem.F.slot_list_pop PySem.F.type_list_pop mt_pop (pv 3)))
        (pss_one (ps_expr (pe_bm0 PySem.F.plainAttrs_list PySem.F.slot_list_pop PySem.F.type_list_pop mt_pop (pv 4))))))
      (pss_one (ps_ret (pe_tup (pa_cons (pe_callTy call_tupO (by rfl) T.tuple (by decide +kernel) (pa_cons (pv 3) pa_nil)) (pa_cons (pe_callTy call_tupO (by rfl) T.tuple (by decide +kernel) (pa_cons (pe_revL (pv 4)) pa_nil)) pa_nil))))))), ?_⟩
    walk_at "rd"
    refine ⟨a, xs, v, l, rfl, hS, hl, zl, fun t1 H1 e1 n1 h1 => ?_⟩
    refine rd_lstO (.inr (st_of h1)) fun pl H2 n2 e12 h2 => ?_
    have e2 := e1.trans e12
    walk_at "rd"
    refine ⟨a, xs, u, r, rfl, ex_t e2 hS, hr'.mono e2, zr, fun t3 H3 e23 n3 h3 => ?_⟩
    refine rd_lstO (.inr (st_of h3)) fun pr H4 n4 e34 h4 => ?_
    have e4 := (e2.trans e23).trans e34
    have g2 := e34 _ _ (e23 _ _ h2)
    have npl : H pl = none := fresh_back e1 n2
    have npr : H pr = none := fresh_back (e2.trans e23) n4
    have hne : pl ≠ pr := fun z => by rw [← z, e23 _ _ h2] at n4; cases n4
    walk_at "rd"
    refine rd_whileX (fun σ' H' => ∃ L R t, σ' = [some (.ref a), some v, some u, some (.ref pl), some (.ref pr)] ∧ Ex H H' ∧ H' pl = some (.lst (L.map V.int)) ∧ H' pr = some (.lst (R.map V.int)) ∧ l = L ++ t ∧ r = R ++ t ∧ ∀ (L' R' : List Int) (x : Int), ¬ (L = L' ++ [x] ∧ R = R' ++ [x])) (fun σ' H' p => ?_) (fun fin => ?_)
    · obtain ⟨L, R, t, rfl, e5, hL, hR, el, er, mx⟩ := p
      walk_at "rd"
      refine rd_tupO (sq_of hL) fun ta H6 n6 e6 h6 => ?_
      walk_at "rd"
      refine rd_revLW (sq_of (e6 _ _ hR)) fun rv H7 n7 e7 h7 => ?_
      walk_at "rd"
      refine rd_tupO (sq_of h7) fun tb H8 n8 e8 h8 => ?_
      walk_at "rd"
      refine rd_newT fun p H9 n9 e9 h9 => ?_
      rw [← List.map_reverse] at h8
      exact q p ta tb H9 L R t ((((e5.trans e6).trans e7).trans e8).trans e9) h9 (e9 _ _ (e8 _ _ (e7 _ _ h6))) (e9 _ _ h8) el er mx
    · refine ⟨fun m σ' H' => ∃ L R t, σ' = [some (.ref a), some v, some u, some (.ref pl), some (.ref pr)] ∧ Ex H H' ∧ H' pl = some (.lst (L.map V.int)) ∧ H' pr = some (.lst (R.map V.int)) ∧ l = L ++ t ∧ r = R ++ t ∧ m = L.length,
        ⟨l.length, l, r, [], rfl, e4, g2, h4, (List.append_nil _).symm, (List.append_nil _).symm, rfl⟩, fun m σ' H' hw => ?_⟩
      obtain ⟨L, R, t, rfl, e5, hL, hR, el, er, rfl⟩ := hw
      walk_at "rd"
      refine rd_truL (sq_of hL) ?_
      rcases List.eq_nil_or_concat L with rfl | ⟨L', x, rfl⟩
      · refine iteF (iteF (fin _ _ ⟨[], R, t, rfl, e5, hL, hR, el, er, fun L' R' x z => ?_⟩))
        cases L' <;> cases z.1
      rw [List.concat_eq_append] at *
      rw [show (!((L' ++ [x]).map V.int).isEmpty) = true by simp]
      refine iteT ?_
      walk_at "rd"
      refine rd_truL (sq_of hR) ?_
      rcases List.eq_nil_or_concat R with rfl | ⟨R', y, rfl⟩
      · refine iteF (iteF (fin _ _ ⟨_, [], t, rfl, e5, hL, hR, el, er, fun L' R' x z => ?_⟩))
        cases R' <;> cases z.2
      rw [List.concat_eq_append] at *
      rw [show (!((R' ++ [y]).map V.int).isEmpty) = true by simp]
      refine iteT ?_
      have hL2 := hL
      have hR2 := hR
      rw [List.map_append] at hL2 hR2
      walk_at "rd"
      refine rd_ixL (sq_of hL2) (atI_last _ _) ?_
      walk_at "rd"
      refine rd_ixL (sq_of hR2) (atI_last _ _) ?_
      refine rd_eq rfl ?_
      walk_at "rd"
      refine ite2 (fun hb => ?_) (fun hb => ?_)
      · have exy : x = y := V.int.inj (of_decide_eq_true hb)
        subst exy
        refine ⟨fun σ' H' => ∃ L R t, σ' = [some (.ref a), some v, some u, some (.ref pl), some (.ref pr)] ∧ Ex H H' ∧ H' pl = some (.lst (L.map V.int)) ∧ H' pr = some (.lst (R.map V.int)) ∧ l = L ++ t ∧ r = R ++ t ∧ L = L', fun σ2 H2 z => ?_, ?_⟩
        · obtain ⟨L, R, t, z1, z2, z3, z4, z5, z6, z7⟩ := z
          exact ⟨L'.length, by rw [List.length_append]; exact Nat.lt_succ_self _, L, R, t, z1, z2, z3, z4, z5, z6, by rw [z7]⟩
        · walk_at "rd"
          refine rd_tyL (sq_of hL) ?_
          refine rd_pop hL2 ?_
          walk_at "rd"
          have hR3 : (upd H' pl (.lst (L'.map V.int))) pr = some (.lst (R'.map V.int ++ [V.int x])) := (upd_ne hne.symm).trans hR2
          refine rd_tyL (sq_of hR3) ?_
          refine rd_pop hR3 ?_
          walk_at "rd"
          exact ⟨L', R', x :: t, rfl, (e5.mut npl).mut npr, (upd_ne hne).trans upd_same, upd_same, by rw [el]; simp, by rw [er]; simp, rfl⟩
      · refine fin _ _ ⟨_, _, t, rfl, e5, hL, hR, el, er, fun L2 R2 z hz => hb ?_⟩
        have h1 := (List.append_inj' hz.1 rfl).2
        have h2 := (List.append_inj' hz.2 rfl).2
        cases h1
        cases h2
        exact decide_eq_true rfl
end
end K19
namespace K19
open PySem PySem.Spec PyProof.Rows L2 Kt Evl
theorem Chain.lt {H : Hp} {xs : List V} : ∀ {v : V} {ns : List Int}, Chain H xs v ns → ∀ z ∈ ns, 0 ≤ z ∧ z < xs.length
  | _, _, .nil _, z, h => by cases h
  | _, _, .cons h1 h2 h3 h4, z, h => by
    rcases List.mem_cons.mp h with rfl | h
    · have := (List.getElem?_eq_some_iff.mp h2).1
      omega
    · exact Chain.lt h4 z h
/-- while the law looks: the store and the list of known values stand -/
structure In19 (K : PySem.W.Frag) (H : Hp) (m c a kn : Addr) (xs ks : List V) (Hc : Hp) (n : Nat) : Prop where
  kp : Keeps m H Hc
  fm : H m = none
  d : Drw Hc m c n
  ce : Cel K Hc c
  st : Hc a = some (.tup xs)
  hk : Hc kn = some (.lst ks)
  k0 : 0 < ks.length
  k2 : ks.length ≤ 200
  kx : ks.length ≤ xs.length
  x2 : xs.length ≤ 1000
  ch : ∀ x ∈ ks, ∃ ns, Chain Hc xs x ns ∧ ns.length < ks.length
section
variable {K : PySem.W.Frag} {H Hc H' : Hp} {m c a kn : Addr} {xs ks : List V} {n n' : Nat}
theorem In19.ex (t : In19 K H m c a kn xs ks Hc n) (e : Ex Hc H') : In19 K H m c a kn xs ks H' n :=
  ⟨t.kp.trans (Keeps.ex e), t.fm, t.d.keep e, t.ce.keep e, e _ _ t.st, e _ _ t.hk, t.k0, t.k2, t.kx, t.x2, fun x hx => let ⟨ns, h1, h2⟩ := t.ch x hx; ⟨ns, h1.mono e, h2⟩⟩
theorem In19.draw (t : In19 K H m c a kn xs ks Hc n) (e : Keeps m Hc H') (d : Drw H' m c n') : In19 K H m c a kn xs ks H' n' :=
  ⟨t.kp.trans e, t.fm, d, t.d.cel e t.ce, (t.d.tx e).t _ _ t.st, e _ _ (t.d.lne t.hk) t.hk, t.k0, t.k2, t.kx, t.x2, fun x hx => let ⟨ns, h1, h2⟩ := t.ch x hx; ⟨ns, h1.tx (t.d.tx e), h2⟩⟩
theorem In19.more (t : In19 K H m c a kn xs ks Hc n) (h : n ≤ n') : In19 K H m c a kn xs ks Hc n' := ⟨t.kp, t.fm, t.d.mono h, t.ce, t.st, t.hk, t.k0, t.k2, t.kx, t.x2, t.ch⟩
theorem In19.old (t : In19 K H m c a kn xs ks Hc n) : Ex H Hc := t.kp.toEx t.fm
/-- the data of the rows' numbers -/
theorem sm_row {l : List Int} (h : ∀ z ∈ l, 0 ≤ z ∧ z < 1000) (hl : l.length ≤ 1000) : Sm 131000 1 (.tuple (l.map .int)) :=
  (Sm.tuple (SmAll.ints l fun z hz => Nat.lt_of_lt_of_le (by have := h z hz; omega : z.natAbs < 1000) (by decide))).more (by omega) (Nat.le_refl _)
theorem sm_two {l r : List Int} (hl : ∀ z ∈ l, 0 ≤ z ∧ z < 1000) (hr : ∀ z ∈ r, 0 ≤ z ∧ z < 1000) (zl : l.length ≤ 1000) (zr : r.length ≤ 1000) : Sm 262002 2 (.tuple [.tuple (l.map .int), .tuple (r.map .int)]) :=
  (Sm.tuple (.cons (sm_row hl zl) (.cons (sm_row hr zr) .nil))).more (by decide) (by decide)
theorem dp_row {p : Addr} {l : List Int} (h : H p = some (.tup (l.map V.int))) : Dp K H (.ref p) (.tuple (l.map .int)) := .tup (st_of h) (dp_ints l)
theorem dp_two {p a b : Addr} {l r : List Int} (h : H p = some (.tup [.ref a, .ref b])) (ha : H a = some (.tup (l.map V.int))) (hb : H b = some (.tup (r.map V.int))) : Dp K H (.ref p) (.tuple [.tuple (l.map .int), .tuple (r.map .int)]) :=
  .tup (st_of h) (.cons (dp_row ha) (.cons (dp_row hb) .nil))
end
section
variable {P : Program} {w : World} {K : PySem.W.Frag} {mg : Str → Option Value} {base : Heap}
def spLaw (K : PySem.W.Frag) : Sp := fun vs H Q _ => ∃ (a : Addr) (ns : List Int), vs = [.ref a] ∧ SqL K H a (ns.map V.int) ∧ ns.length ≤ 63 ∧ ∀ H', Q (.bl true) H'
abbrev s_law : Stmt := topS 10
theorem sc_law : FnScope ["script", "k", "m", "store", "known", "lap", "one", "other", "first", "second", "end"] ["script"] (defScope s_law) := ⟨rfl, rfl, rfl, by decide +kernel, rfl, by decide +kernel, by decide +kernel⟩
set_option maxHeartbeats 8000000 in
theorem g_law {fa : Addr} {fd : FuncData} (T : Txt K mg) (F : Fun K "law" "law" s_law fa fd) (c_law_begun : CalG P w K mg base 1 "_law_begun" (spBegun K)) (c_law_draw : CalG P w K mg base 1 "_law_draw" (spDraw K)) (c_law_of : CalG P w K mg base 2 "_law_of" (spOf K))
    (c_law_store : CalG P w K mg base 3 "_law_store" (spStore K)) (c_law_list : CalG P w K mg base 1 "_law_list" (spList K)) (c_law_way : CalG P w K mg base 1 "_law_way" (spWay K)) (c_winds_of : CalG P w K mg base 1 "winds_of" (spWinds K))
    (c_winds_way : CalG P w K mg base 2 "winds_way" (spWindsWay K)) : FnG P w K mg base CX0 4 fa fd ["script"] (spLaw K) := by
  refine FunG F sc_law (fun vs H Q E h => ?_) (fun cdv A outer s0 H vs Q E hA hr h => ?_)
  · obtain ⟨a, ns, rfl, _⟩ := h
    rfl
  · obtain ⟨sa, sn, rfl, hS, hl, q⟩ := h
    have hu := hu_of hr
    have hR : (A.deeper (envOfC "law" (defScope s_law) s0.heap.objs.size fa cdv)).units + 129 < cLine := by have := hr.un; omega
    refine ⟨_, pss_cons (ps_for PassesOwn.never rfl (pi_range1 (by rfl) T.range (pa_cons pe_int pa_nil)) (pg_name (i := 1) sc_law.nd rfl (Or.inl rfl))
        (pss_cons (ps_set (i := 2) sc_law.nd rfl (Or.inl rfl) (pe_cG c_law_begun hA hr (by decide) (by rfl) (pa_cons (pv 0) (pa_cons (pv 1) pa_nil))))
        (pss_cons (ps_asg (pe_cG c_law_store hA hr (by decide) (by rfl) (pa_cons (pv 2) (pa_cons (pe_op op_add pe_int (pe_cG c_law_draw hA hr (by decide) (by rfl) (pa_cons (pv 2) (pa_cons pe_int pa_nil)))) pa_nil))) (pg_tup rfl (pgs_cons (pg_name (i := 3) sc_law.nd rfl (Or.inl rfl)) (pgs_cons (pg_name (i := 4) sc_law.nd rfl (Or.inl rfl)) pgs_nil))))
        (pss_cons (ps_for PassesOwn.never rfl (pi_range1 (by rfl) T.range (pa_cons pe_int pa_nil)) (pg_name (i := 5) sc_law.nd rfl (Or.inl rfl))
          (pss_cons (ps_par (i := 6) (j := 7) (by rfl) sc_law.nd rfl rfl (by decide) rfl rfl (pa_cons (pe_cG c_law_of hA hr (by decide) (by rfl) (pa_cons (pv 2) (pa_cons (pv 4) pa_nil))) (pa_cons (pe_cG c_law_of hA hr (by decide) (by rfl) (pa_cons (pv 2) (pa_cons (pv 4) pa_nil))) pa_nil)) (by rfl))
          (pss_cons (ps_par (i := 8) (j := 9) (by rfl) sc_law.nd rfl rfl (by decide) rfl rfl (pa_cons (pe_cG c_law_list hA hr (by decide) (by rfl) (pa_cons (pv 3) (pa_cons (pv 6) pa_nil))) (pa_cons (pe_cG c_law_list hA hr (by decide) (by rfl) (pa_cons (pv 3) (pa_cons (pv 7) pa_nil))) pa_nil)) (by rfl))
          (pss_cons (ps_if (pt_cmpR op_ne (pe_callB (call_reprD hA hR) (by rfl) T.repr (by decide +kernel) (pa_cons (pe_cG c_winds_of hA hr (by decide) (by rfl) (pa_cons (pv 3) (pa_cons (pv 6) pa_nil))) pa_nil)) (pe_callB (call_reprD hA hR) (by rfl) T.repr (by decide +kernel) (pa_cons (pe_callTy call_tupO (by rfl) T.tuple (by decide +kernel) (pa_cons (pv 8) pa_nil)) pa_nil)) (nomark _))
            (pss_one (ps_ret (pe_bl)))
            (pss_nil))
          (pss_cons (ps_if (pt_cmpR op_ne (pe_callB (call_reprD hA hR) (by rfl) T.repr (by decide +kernel) (pa_cons (pe_cG c_winds_way hA hr (by decide) (by rfl) (pa_cons (pv 3) (pa_cons (pv 6) (pa_cons (pv 7) pa_nil)))) pa_nil)) (pe_callB (call_reprD hA hR) (by rfl) T.repr (by decide +kernel) (pa_cons (pe_cG c_law_way hA hr (by decide) (by rfl) (pa_cons (pv 8) (pa_cons (pv 9) pa_nil))) pa_nil)) (nomark _))
            (pss_one (ps_ret (pe_bl)))
            (pss_nil))
          (pss_one (ps_if (pt_cmpR op_ne (pe_callB (call_reprD hA hR) (by rfl) T.repr (by decide +kernel) (pa_cons (pe_cG c_winds_way hA hr (by decide) (by rfl) (pa_cons (pv 3) (pa_cons (pv 6) (pa_cons (pv 6) pa_nil)))) pa_nil)) (pe_callB (call_reprD hA hR) (by rfl) T.repr (by decide +kernel) (pa_cons (pe_tup (pa_cons (pe_tup pa_nil) (pa_cons (pe_tup pa_nil) pa_nil))) pa_nil)) (nomark _))
            (pss_one (ps_ret (pe_bl)))
            (pss_nil))))))))
        (pss_cons (ps_set (i := 10) sc_law.nd rfl (Or.inl rfl) (pe_ix ix_list (pv 4) (pe_un un_neg pe_int) (fun _ _ => rfl)))
        (pss_cons (ps_if (pt_cmpR op_ne (pe_callB (call_reprD hA hR) (by rfl) T.repr (by decide +kernel) (pa_cons (pe_cG c_winds_way hA hr (by decide) (by rfl) (pa_cons (pv 3) (pa_cons (pv 10) (pa_cons (pe_tup pa_nil) pa_nil)))) pa_nil)) (pe_callB (call_reprD hA hR) (by rfl) T.repr (by decide +kernel) (pa_cons (pe_tup (pa_cons (pe_cG c_winds_of hA hr (by decide) (by rfl) (pa_cons (pv 3) (pa_cons (pv 10) pa_nil))) (pa_cons (pe_tup pa_nil) pa_nil))) pa_nil)) (nomark _))
          (pss_one (ps_ret (pe_bl)))
          (pss_nil))
        (pss_one (ps_if (pt_cmpR op_ne (pe_callB (call_reprD hA hR) (by rfl) T.repr (by decide +kernel) (pa_cons (pe_cG c_winds_way hA hr (by decide) (by rfl) (pa_cons (pv 3) (pa_cons (pe_tup pa_nil) (pa_cons (pv 10) pa_nil)))) pa_nil)) (pe_callB (call_reprD hA hR) (by rfl) T.repr (by decide +kernel) (pa_cons (pe_tup (pa_cons (pe_tup pa_nil) (pa_cons (pe_revT (pe_cG c_winds_of hA hr (by decide) (by rfl) (pa_cons (pv 3) (pa_cons (pv 10) pa_nil)))) pa_nil))) pa_nil)) (nomark _))
          (pss_one (ps_ret (pe_bl)))
          (pss_nil)))))))))
      (pss_one (ps_ret (pe_bl))), ?_⟩
    walk_at "rd"
    refine rd_rngW (by omega) (by omega) ?_
    refine rd_forN (n := 3) (fun i σ H' => ∃ a b c d e f g h i2 j, σ = [some (.ref sa), a, b, c, d, e, f, g, h, i2, j] ∧ Ex H H') ⟨none, none, none, none, none, none, none, none, none, none, rfl, Ex.refl H⟩ (fun i σ H' hi p => ?_) (fun σ H' p => ?_)
    · obtain ⟨y1, y2, y3, y4, y5, y6, y7, y8, y9, y10, rfl, e0⟩ := p
      walk_at "rd"
      refine ⟨sa, sn, i, rfl, ex_l e0 hS, hl, by omega, by omega, fun m c0 H1 nm e01 d1 ce1 => ?_⟩
      walk_at "rd"
      refine ⟨m, c0, 40, 0, rfl, d1, ce1, by decide, by decide, by decide, fun dr H2 dr0 dr1 k2 d2 => ?_⟩
      have ce2 := d1.cel k2 ce1
      walk_at "rd"
      refine ⟨m, c0, 1 + dr, _, rfl, d2, ce2, by omega, by omega, by omega, fun p a kn xs ks H3 k3 d3 h3 h4 h5 k0 kk2 kx x2 ch => ?_⟩
      have t3 : In19 K H m c0 a kn xs ks H3 2000 := ⟨((Keeps.ex (e0.trans e01)).trans k2).trans k3, fresh_back e0 nm, d3.mono (by omega), d2.cel k3 ce2, h4, h5, k0, kk2, kx, x2, ch⟩
      have nil_dp : ∀ {H' : Hp} {z : Addr}, H' z = some (.tup []) → H' z = some (.tup (([] : List Int).map V.int)) := fun h => h
      refine rd_gtup (st_of h3) rfl ?_
      walk_at "rd"
      refine rd_rngW (by omega) (by omega) ?_
      refine rd_forN (n := 6) (fun j σ H' => ∃ a5 b c d e f, σ = [some (.ref sa), some (.int i), some (.ref m), some (.ref a), some (.ref kn), a5, b, c, d, e, f] ∧ In19 K H m c0 a kn xs ks H' (2000 + 2 * j)) ⟨_, _, _, _, _, _, rfl, t3⟩ (fun j σ H' hj p => ?_) (fun σ H' p => ?_)
      · obtain ⟨a5, a6, a7, a8, a9, a10, rfl, t⟩ := p
        walk_at "rd"
        refine ⟨m, c0, kn, ks, _, rfl, sq_of t.hk, t.k0, by omega, t.d, t.ce, by omega, fun i1 v1 H4 hv1 k4 d4 => ?_⟩
        have t4 := t.draw k4 d4
        walk_at "rd"
        refine ⟨m, c0, kn, ks, _, rfl, sq_of t4.hk, t4.k0, by omega, t4.d, t4.ce, by omega, fun i2 v2 H5 hv2 k5 d5 => ?_⟩
        have t5 := t4.draw k5 d5
        obtain ⟨l, cl, zl⟩ := t5.ch v1 (List.mem_of_getElem? hv1)
        obtain ⟨r, cr, zr⟩ := t5.ch v2 (List.mem_of_getElem? hv2)
        have bl : ∀ z ∈ l, 0 ≤ z ∧ z < 1000 := fun z hz => by have := cl.lt z hz; omega
        have br : ∀ z ∈ r, 0 ≤ z ∧ z < 1000 := fun z hz => by have := cr.lt z hz; omega
        have zl2 : l.length ≤ 1000 := by omega
        have zr2 : r.length ≤ 1000 := by omega
        walk_at "rd"
        refine ⟨a, xs, v1, l, rfl, st_of t5.st, by omega, cl, by omega, fun f1 H6 e6 n6 g6 => ?_⟩
        have t6 := t5.ex e6
        walk_at "rd"
        refine ⟨a, xs, v2, r, rfl, st_of t6.st, by omega, cr.mono e6, by omega, fun f2 H7 e7 n7 g7 => ?_⟩
        have t7 := t6.ex e7
        have g6' := e7 _ _ g6
        have cl7 := cl.mono (e6.trans e7)
        have cr7 := cr.mono (e6.trans e7)
        walk_at "rd"
        -- the row of one
        refine ⟨a, xs, v1, l, rfl, st_of t7.st, cl7, zl2, fun p8 H8 e8 n8 g8 => ?_⟩
        walk_at "rd"
        refine rd_repr' (dp_row g8) (sm_row bl zl2) (by decide) (by decide) ?_
        walk_at "rd"
        refine rd_tupO (sq_of (e8 _ _ g6')) fun p9 H9 n9 e9 g9 => ?_
        walk_at "rd"
        refine rd_repr' (dp_row g9) (sm_row bl zl2) (by decide) (by decide) ?_
        refine rd_ne rfl ?_
        walk_at "rd"
        refine iteNS rfl ?_
        have e79 := e8.trans e9
        have t9 := t7.ex e79
        have cl9 := cl7.mono e79
        have cr9 := cr7.mono e79
        have f19 := e79 _ _ g6'
        have f29 := e79 _ _ g7
        walk_at "rd"
        -- the way
        refine ⟨a, xs, v1, v2, l, r, rfl, st_of t9.st, cl9, cr9, zl2, zr2, fun w1 wa wb H10 L R tt e10 g10 ga gb el er mx => ?_⟩
        have eL := way_left (fun p p' s s' x h h' => cl9.det cr9 h h') el er mx
        have eR := way_left (fun p p' s s' x h h' => cr9.det cl9 h h') er el (fun R' L' x z => mx L' R' x ⟨z.2, z.1⟩)
        have bL : ∀ z ∈ L, 0 ≤ z ∧ z < 1000 := fun z hz => bl z (by rw [el]; exact List.mem_append_left _ hz)
        have bR : ∀ z ∈ R.reverse, 0 ≤ z ∧ z < 1000 := fun z hz => br z (by rw [er]; exact List.mem_append_left _ (List.mem_reverse.mp hz))
        have zL : L.length ≤ 1000 := by rw [el, List.length_append] at zl2; omega
        have zR : R.reverse.length ≤ 1000 := by rw [er, List.length_append] at zr2; rw [List.length_reverse]; omega
        walk_at "rd"
        refine rd_repr' (dp_two g10 ga gb) (sm_two bL bR zL zR) (by decide) (by decide) ?_
        walk_at "rd"
        refine ⟨f1, f2, l, r, rfl, sq_of (e10 _ _ f19), sq_of (e10 _ _ f29), by omega, by omega, fun w2 xa xb H11 e11 g11 ha hb => ?_⟩
        rw [eL] at ha
        rw [eR] at hb
        walk_at "rd"
        refine rd_repr' (dp_two g11 ha hb) (sm_two bL bR zL zR) (by decide) (by decide) ?_
        refine rd_ne rfl ?_
        walk_at "rd"
        refine iteNS rfl ?_
        have e911 := e10.trans e11
        have t11 := t9.ex e911
        have cl11 := cl9.mono e911
        walk_at "rd"
        -- the way to itself
        refine ⟨a, xs, v1, v1, l, l, rfl, st_of t11.st, cl11, cl11, zl2, zl2, fun w3 ya yb H12 L2 R2 t2 e12 g12 ga2 gb2 el2 er2 mx2 => ?_⟩
        have eLR : L2 = R2 := List.append_cancel_right (el2.symm.trans er2)
        have eN : L2 = [] := by
          rcases List.eq_nil_or_concat L2 with z | ⟨L', x, z⟩
          · exact z
          · rw [List.concat_eq_append] at z
            exact (mx2 L' L' x ⟨z, eLR ▸ z⟩).elim
        rw [← eLR, eN] at gb2
        rw [eN] at ga2
        walk_at "rd"
        refine rd_repr' (dp_two g12 ga2 (l := []) (r := []) gb2) (sm_two (by simp) (by simp) (by decide) (by decide)) (by decide) (by decide) ?_
        walk_at "rd"
        refine rd_newT fun u1 H13 _ e13 g13 => ?_
        walk_at "rd"
        refine rd_newT fun u2 H14 _ e14 g14 => ?_
        walk_at "rd"
        refine rd_newT fun u3 H15 _ e15 g15 => ?_
        walk_at "rd"
        refine rd_repr' (dp_two g15 (l := []) (r := []) (e15 _ _ (e14 _ _ g13)) (e15 _ _ g14)) (sm_two (by simp) (by simp) (by decide) (by decide)) (by decide) (by decide) ?_
        refine rd_ne rfl ?_
        walk_at "rd"
        refine iteNS rfl ?_
        walk_at "rd"
        exact ⟨_, _, _, _, _, _, rfl, (t11.ex (((e12.trans e13).trans e14).trans e15)).more (by omega)⟩
      · obtain ⟨a5, a6, a7, a8, a9, a10, rfl, t⟩ := p
        obtain ⟨k1, x, rfl⟩ : ∃ k1 x, ks = k1 ++ [x] := ⟨ks.dropLast, ks.getLast (by intro z; rw [z] at k0; cases k0), (List.dropLast_concat_getLast _).symm⟩
        obtain ⟨l, cl, zl⟩ := t.ch x (by simp)
        have bl : ∀ z ∈ l, 0 ≤ z ∧ z < 1000 := fun z hz => by have := cl.lt z hz; omega
        have bl' : ∀ z ∈ l.reverse, 0 ≤ z ∧ z < 1000 := fun z hz => bl z (List.mem_reverse.mp hz)
        have zl2 : l.length ≤ 1000 := by omega
        have zl3 : l.reverse.length ≤ 1000 := by rw [List.length_reverse]; exact zl2
        walk_at "rd"
        refine rd_ixL (sq_of t.hk) (atI_last _ _) ?_
        walk_at "rd"
        -- the way to ()
        refine rd_newT fun u1 H4 _ e4 g4 => ?_
        have t4 := t.ex e4
        have cl4 := cl.mono e4
        walk_at "rd"
        refine ⟨a, xs, x, .ref u1, l, [], rfl, st_of t4.st, cl4, .nil g4, zl2, Nat.zero_le _, fun w1 wa wb H5 L R tt e5 g5 ga gb el er mx => ?_⟩
        have eR : R = [] := (List.append_eq_nil_iff.mp er.symm).1
        have et : tt = [] := (List.append_eq_nil_iff.mp er.symm).2
        rw [et, List.append_nil] at el
        rw [← el] at ga
        rw [eR] at gb
        walk_at "rd"
        refine rd_repr' (dp_two g5 ga (r := []) gb) (sm_two bl (by simp) zl2 (by decide)) (by decide) (by decide) ?_
        have t5 := t4.ex e5
        have cl5 := cl4.mono e5
        walk_at "rd"
        refine ⟨a, xs, x, l, rfl, st_of t5.st, cl5, zl2, fun p6 H6 e6 n6 g6 => ?_⟩
        walk_at "rd"
        refine rd_newT fun u2 H7 _ e7 g7 => ?_
        walk_at "rd"
        refine rd_newT fun u3 H8 _ e8 g8 => ?_
        walk_at "rd"
        refine rd_repr' (dp_two g8 (r := []) (e8 _ _ (e7 _ _ g6)) (e8 _ _ g7)) (sm_two bl (by simp) zl2 (by decide)) (by decide) (by decide) ?_
        refine rd_ne rfl ?_
        walk_at "rd"
        refine iteNS rfl ?_
        have e58 := (e6.trans e7).trans e8
        have t8 := t5.ex e58
        have cl8 := cl5.mono e58
        walk_at "rd"
        -- the way from ()
        refine rd_newT fun u4 H9 _ e9 g9 => ?_
        have t9 := t8.ex e9
        have cl9 := cl8.mono e9
        walk_at "rd"
        refine ⟨a, xs, .ref u4, x, [], l, rfl, st_of t9.st, .nil g9, cl9, Nat.zero_le _, zl2, fun w2 xa xb H10 L R tt e10 g10 ga gb el er mx => ?_⟩
        have eL : L = [] := (List.append_eq_nil_iff.mp el.symm).1
        have et : tt = [] := (List.append_eq_nil_iff.mp el.symm).2
        rw [et, List.append_nil] at er
        rw [← er] at gb
        rw [eL] at ga
        walk_at "rd"
        refine rd_repr' (dp_two g10 (l := []) ga gb) (sm_two (by simp) bl' (by decide) zl3) (by decide) (by decide) ?_
        have t10 := t9.ex e10
        have cl10 := cl9.mono e10
        walk_at "rd"
        refine rd_newT fun u5 H11 _ e11 g11 => ?_
        have t11 := t10.ex e11
        have cl11 := cl10.mono e11
        walk_at "rd"
        refine ⟨a, xs, x, l, rfl, st_of t11.st, cl11, zl2, fun p12 H12 e12 n12 g12 => ?_⟩
        walk_at "rd"
        refine rd_revTW (st_of g12) fun p13 H13 n13 e13 g13 => ?_
        rw [← List.map_reverse] at g13
        walk_at "rd"
        refine rd_newT fun u6 H14 _ e14 g14 => ?_
        walk_at "rd"
        refine rd_repr' (dp_two g14 (l := []) (e14 _ _ (e13 _ _ (e12 _ _ g11))) (e14 _ _ g13)) (sm_two (by simp) bl' (by decide) zl3) (by decide) (by decide) ?_
        refine rd_ne rfl ?_
        walk_at "rd"
        refine iteNS rfl ?_
        walk_at "rd"
        exact ⟨_, _, _, _, _, _, _, _, _, _, rfl, (t11.ex ((e12.trans e13).trans e14)).old⟩
    · obtain ⟨y1, y2, y3, y4, y5, y6, y7, y8, y9, y10, rfl, e0⟩ := p
      walk_at "rd"
      exact q H'
end
end K19
namespace K19
open PySem PySem.Spec PyProof.Rows L2 Kt Evl
section
theorem defG_mk {K : PySem.W.Frag} {h : Heap} {mg : Str → Option Value} {x : Str} {st : Stmt} {ps : List Str} {f : Addr} {oc kV dc pm cd ct : Value} {od an : Option Addr} {sl : Array (Option Value)} (X : K.In h) (G : h.Ns mainGlobals mg)
    (a : PySem.W.nsIn K mainGlobals x = some (some (.ref f))) (l : K.lookup f = some ⟨oc, od, .func (PySem.W.fnOf x x (defArgs st) (defBody st) (defScope st) .none kV dc pm an cd ct), sl⟩) (c : PySem.W.codeIn K cd x = true) (k : PySem.W.keepIn K (.ref f) = true)
    (hb : ∀ (kV doc pm : Value) (an : Option Addr) (cdv ct : Value) (us : List Value), us.length = ps.length → bindArgs (PySem.W.fnOf x x (defArgs st) (defBody st) (defScope st) .none kV doc pm an cdv ct) ⟨us, []⟩ = pure (ps.zip us)) : DefG K mg x st ps :=
  ⟨f, _, fun_mk l c k, PySem.W.mg_of X G a, (fun_mk l c k).binds hb⟩
theorem all_mk {P : Program} {w : World} {K : PySem.W.Frag} {h : Heap} {mg : Str → Option Value} {fa : Addr} (X : K.In h) (G : h.Ns mainGlobals mg) (hfa : mg "law" = some (.ref fa))
    {f0 : Addr} {oc0 kV0 dc0 pm0 cd0 ct0 : Value} {od0 an0 : Option Addr} {sl0 : Array (Option Value)}
    (a0 : PySem.W.nsIn K mainGlobals "_law_draw" = some (some (.ref f0))) (l0 : K.lookup f0 = some ⟨oc0, od0, .func (PySem.W.fnOf "_law_draw" "_law_draw" (defArgs s_law_draw) (defBody s_law_draw) (defScope s_law_draw) .none kV0 dc0 pm0 an0 cd0 ct0), sl0⟩) (c0 : PySem.W.codeIn K cd0 "_law_draw" = true) (k0 : PySem.W.keepIn K (.ref f0) = true)
    {f1 : Addr} {oc1 kV1 dc1 pm1 cd1 ct1 : Value} {od1 an1 : Option Addr} {sl1 : Array (Option Value)}
    (a1 : PySem.W.nsIn K mainGlobals "_law_of" = some (some (.ref f1))) (l1 : K.lookup f1 = some ⟨oc1, od1, .func (PySem.W.fnOf "_law_of" "_law_of" (defArgs s_law_of) (defBody s_law_of) (defScope s_law_of) .none kV1 dc1 pm1 an1 cd1 ct1), sl1⟩) (c1 : PySem.W.codeIn K cd1 "_law_of" = true) (k1 : PySem.W.keepIn K (.ref f1) = true)
    {f2 : Addr} {oc2 kV2 dc2 pm2 cd2 ct2 : Value} {od2 an2 : Option Addr} {sl2 : Array (Option Value)}
    (a2 : PySem.W.nsIn K mainGlobals "_law_begun" = some (some (.ref f2))) (l2 : K.lookup f2 = some ⟨oc2, od2, .func (PySem.W.fnOf "_law_begun" "_law_begun" (defArgs s_law_begun) (defBody s_law_begun) (defScope s_law_begun) .none kV2 dc2 pm2 an2 cd2 ct2), sl2⟩) (c2 : PySem.W.codeIn K cd2 "_law_begun" = true) (k2 : PySem.W.keepIn K (.ref f2) = true)
    {f3 : Addr} {oc3 kV3 dc3 pm3 cd3 ct3 : Value} {od3 an3 : Option Addr} {sl3 : Array (Option Value)}
    (a3 : PySem.W.nsIn K mainGlobals "_law_store" = some (some (.ref f3))) (l3 : K.lookup f3 = some ⟨oc3, od3, .func (PySem.W.fnOf "_law_store" "_law_store" (defArgs s_law_store) (defBody s_law_store) (defScope s_law_store) .none kV3 dc3 pm3 an3 cd3 ct3), sl3⟩) (c3 : PySem.W.codeIn K cd3 "_law_store" = true) (k3 : PySem.W.keepIn K (.ref f3) = true)
    {f4 : Addr} {oc4 kV4 dc4 pm4 cd4 ct4 : Value} {od4 an4 : Option Addr} {sl4 : Array (Option Value)}
    (a4 : PySem.W.nsIn K mainGlobals "_law_list" = some (some (.ref f4))) (l4 : K.lookup f4 = some ⟨oc4, od4, .func (PySem.W.fnOf "_law_list" "_law_list" (defArgs s_law_list) (defBody s_law_list) (defScope s_law_list) .none kV4 dc4 pm4 an4 cd4 ct4), sl4⟩) (c4 : PySem.W.codeIn K cd4 "_law_list" = true) (k4 : PySem.W.keepIn K (.ref f4) = true)
    {f5 : Addr} {oc5 kV5 dc5 pm5 cd5 ct5 : Value} {od5 an5 : Option Addr} {sl5 : Array (Option Value)}
    (a5 : PySem.W.nsIn K mainGlobals "_law_way" = some (some (.ref f5))) (l5 : K.lookup f5 = some ⟨oc5, od5, .func (PySem.W.fnOf "_law_way" "_law_way" (defArgs s_law_way) (defBody s_law_way) (defScope s_law_way) .none kV5 dc5 pm5 an5 cd5 ct5), sl5⟩) (c5 : PySem.W.codeIn K cd5 "_law_way" = true) (k5 : PySem.W.keepIn K (.ref f5) = true)
    {f6 : Addr} {oc6 kV6 dc6 pm6 cd6 ct6 : Value} {od6 an6 : Option Addr} {sl6 : Array (Option Value)}
    (a6 : PySem.W.nsIn K mainGlobals "winds_of" = some (some (.ref f6))) (l6 : K.lookup f6 = some ⟨oc6, od6, .func (PySem.W.fnOf "winds_of" "winds_of" (defArgs s_winds_of) (defBody s_winds_of) (defScope s_winds_of) .none kV6 dc6 pm6 an6 cd6 ct6), sl6⟩) (c6 : PySem.W.codeIn K cd6 "winds_of" = true) (k6 : PySem.W.keepIn K (.ref f6) = true)
    {f7 : Addr} {oc7 kV7 dc7 pm7 cd7 ct7 : Value} {od7 an7 : Option Addr} {sl7 : Array (Option Value)}
    (a7 : PySem.W.nsIn K mainGlobals "winds_way" = some (some (.ref f7))) (l7 : K.lookup f7 = some ⟨oc7, od7, .func (PySem.W.fnOf "winds_way" "winds_way" (defArgs s_winds_way) (defBody s_winds_way) (defScope s_winds_way) .none kV7 dc7 pm7 an7 cd7 ct7), sl7⟩) (c7 : PySem.W.codeIn K cd7 "winds_way" = true) (k7 : PySem.W.keepIn K (.ref f7) = true)
    {f8 : Addr} {oc8 kV8 dc8 pm8 cd8 ct8 : Value} {od8 an8 : Option Addr} {sl8 : Array (Option Value)}
    (a8 : PySem.W.nsIn K mainGlobals "law" = some (some (.ref f8))) (l8 : K.lookup f8 = some ⟨oc8, od8, .func (PySem.W.fnOf "law" "law" (defArgs s_law) (defBody s_law) (defScope s_law) .none kV8 dc8 pm8 an8 cd8 ct8), sl8⟩) (c8 : PySem.W.codeIn K cd8 "law" = true) (k8 : PySem.W.keepIn K (.ref f8) = true)
    (z0 : PySem.W.nsIn K mainGlobals "len" = some none)
    (z1 : PySem.W.nsIn K mainGlobals "int" = some none)
    (z2 : PySem.W.nsIn K mainGlobals "repr" = some none)
    (z3 : PySem.W.nsIn K mainGlobals "tuple" = some none)
    (z4 : PySem.W.nsIn K mainGlobals "list" = some none)
    (z5 : PySem.W.nsIn K mainGlobals "range" = some none) :
    ∃ fd : FuncData, (∀ (s : Shared) (v : Value), BindsTo s fd ⟨[v], []⟩ [("script", v)]) ∧ ∀ base : Heap, K.In base → base.Ns mainGlobals mg → FnG P w K mg base CX0 4 fa fd ["script"] (spLaw K) := by
  have e := hfa.symm.trans (PySem.W.mg_of X G a8)
  cases e
  have T : Txt K mg := ⟨PySem.W.mg_none_of X G z0, PySem.W.mg_none_of X G z1, PySem.W.mg_none_of X G z2, PySem.W.mg_none_of X G z3, PySem.W.mg_none_of X G z4, PySem.W.mg_none_of X G z5⟩
  refine ⟨PySem.W.fnOf "law" "law" (defArgs s_law) (defBody s_law) (defScope s_law) .none kV8 dc8 pm8 an8 cd8 ct8, fun s v => .of_eq rfl, fun base _ _ => ?_⟩
  have D0 : DefG K mg "_law_draw" s_law_draw ["m", "below"] := defG_mk X G a0 l0 c0 k0 fun _ _ _ _ _ _ us hl => match us, hl with | [_, _], _ => rfl
  have D1 : DefG K mg "_law_of" s_law_of ["m", "some"] := defG_mk X G a1 l1 c1 k1 fun _ _ _ _ _ _ us hl => match us, hl with | [_, _], _ => rfl
  have D2 : DefG K mg "_law_begun" s_law_begun ["script", "k"] := defG_mk X G a2 l2 c2 k2 fun _ _ _ _ _ _ us hl => match us, hl with | [_, _], _ => rfl
  have D3 : DefG K mg "_law_store" s_law_store ["m", "many"] := defG_mk X G a3 l3 c3 k3 fun _ _ _ _ _ _ us hl => match us, hl with | [_, _], _ => rfl
  have D4 : DefG K mg "_law_list" s_law_list ["store", "value"] := defG_mk X G a4 l4 c4 k4 fun _ _ _ _ _ _ us hl => match us, hl with | [_, _], _ => rfl
  have D5 : DefG K mg "_law_way" s_law_way ["one", "other"] := defG_mk X G a5 l5 c5 k5 fun _ _ _ _ _ _ us hl => match us, hl with | [_, _], _ => rfl
  have D6 : DefG K mg "winds_of" s_winds_of ["store", "winds"] := defG_mk X G a6 l6 c6 k6 fun _ _ _ _ _ _ us hl => match us, hl with | [_, _], _ => rfl
  have D7 : DefG K mg "winds_way" s_winds_way ["store", "one", "other"] := defG_mk X G a7 l7 c7 k7 fun _ _ _ _ _ _ us hl => match us, hl with | [_, _, _], _ => rfl
  have C0 := c_law_draw (P := P) (w := w) (base := base) T D0
  have C1 := c_law_of (P := P) (w := w) (base := base) T D1 C0
  have C2 := c_law_begun (P := P) (w := w) (base := base) T D2
  have C3 := c_law_store (P := P) (w := w) (base := base) T D3 C0 C1
  have C4 := c_law_list (P := P) (w := w) (base := base) T D4
  have C5 := c_law_way (P := P) (w := w) (base := base) T D5
  have C6 := c_winds_of (P := P) (w := w) (base := base) T D6
  have C7 := c_winds_way (P := P) (w := w) (base := base) T D7 C6
  exact g_law T (fun_mk (st := s_law) l8 c8 k8) (c_law_draw := C0) (c_law_of := C1) (c_law_begun := C2) (c_law_store := C3) (c_law_list := C4) (c_law_way := C5) (c_winds_of := C6) (c_winds_way := C7)
end
end K19
open PySem PySem.W PyProof.Rows
set_option maxRecDepth 100000 in
set_option maxHeartbeats 0 in
theorem PySem.Challenge.cw_keptrest_k19_ways_of_winds_holds : PySem.Challenge.rw_keptrest_k19_ways_of_winds.Holds := by
  w_on; o_law; k_head; (case hw => w_witness2)
  k_fill
  refine Kt.walk_ofG (l := PySem.Challenge.rw_keptrest_k19_ways_of_winds) (n := 63) (k := 4) (x := "script") (sp := K19.spLaw) rfl (by decide) rfl ⟨rfl, by decide, by decide⟩ (fun w h Y => PySem.W.kIn_of Y) ?F (fun K H a ns hl hS => ⟨a, ns, rfl, hS, hl, fun _ => rfl⟩)
  case F =>
    intro w mg fa h KX G hmg
    refine' K19.all_mk KX G hmg ?a0 ?l0 ?c0 ?k0 ?a1 ?l1 ?c1 ?k1 ?a2 ?l2 ?c2 ?k2 ?a3 ?l3 ?c3 ?k3 ?a4 ?l4 ?c4 ?k4 ?a5 ?l5 ?c5 ?k5 ?a6 ?l6 ?c6 ?k6 ?a7 ?l7 ?c7 ?k7 ?a8 ?l8 ?c8 ?k8 ?z0 ?z1 ?z2 ?z3 ?z4 ?z5
    (case a0 => k_is); (case l0 => k_is); (case c0 => k_is); (case k0 => k_is)
    (case a1 => k_is); (case l1 => k_is); (case c1 => k_is); (case k1 => k_is)
    (case a2 => k_is); (case l2 => k_is); (case c2 => k_is); (case k2 => k_is)
    (case a3 => k_is); (case l3 => k_is); (case c3 => k_is); (case k3 => k_is)
    (case a4 => k_is); (case l4 => k_is); (case c4 => k_is); (case k4 => k_is)
    (case a5 => k_is); (case l5 => k_is); (case c5 => k_is); (case k5 => k_is)
    (case a6 => k_is); (case l6 => k_is); (case c6 => k_is); (case k6 => k_is)
    (case a7 => k_is); (case l7 => k_is); (case c7 => k_is); (case k7 => k_is)
    (case a8 => k_is); (case l8 => k_is); (case c8 => k_is); (case k8 => k_is)
    (case z0 => k_is); (case z1 => k_is); (case z2 => k_is); (case z3 => k_is); (case z4 => k_is); (case z5 => k_is)
