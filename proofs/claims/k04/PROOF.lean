import PyProof.Rows.All
import Wide.All
import OpenK.AllK
import Wide.FinOn
import HandS.Base
import HandS.Call
import HandS.List
import HandS.Comp
import HandS.Ends
import HandS.Dict
import HandS.Iter
import HandS.Text
import HandS.Words
import HandS.WordsList
import HandS.Wide
import HandS.IsInst
import HandS.Walk
import PyProof.ReprRoads
import HandS.More
import HandS.Codes
import PyProof.ReprLen
import PyProof.StrLawsRepr
import PyProof.Rows.ReprOcc
import PySem.Challenge.RW_variantnest_k04_values
set_option Elab.async false
set_option linter.all false
set_option maxRecDepth 100000
set_option maxHeartbeats 2000000
/-! Vn: calls where it is known that no repr is under way (guards = some []), and repr of data at any depth. -/
namespace Vn
open PySem PySem.Spec PyProof.Rows L2

/-! ### a def's run at one surrounding -/
/-- f, called within A, keeps sp -/
def RunAt (P : Program) (w : World) (K : PySem.W.Frag) (mg : Str → Option Value) (base : Heap) (CX : CXT)
    (f : Addr) (fd : FuncData) (ps : List Str) (sp : Sp) (A : Around) : Prop :=
  ∀ (outer : List Env) (s : Shared) (H : Hp) (args : Args) (us : List Value) (vs : List V) (Q : VK) (E : XK),
    Env0 P w K mg base A outer s H → BindsTo s fd args (ps.zip us) → Vals vs us → sp vs H Q E →
      codeAny (model P w) A (.call (.ref f) args) (CR CX outer P w H s Q E) s
/-- FnOk for callers under which no repr is under way -/
structure FnG (P : Program) (w : World) (K : PySem.W.Frag) (mg : Str → Option Value) (base : Heap) (CX : CXT)
    (k : Nat) (f : Addr) (fd : FuncData) (ps : List Str) (sp : Sp) : Prop where
  len : ∀ vs H Q E, sp vs H Q E → vs.length = ps.length
  run : ∀ A : Around, A.guards = some [] → Room k A → RunAt P w K mg base CX f fd ps sp A
theorem FnG.of {P : Program} {w : World} {K : PySem.W.Frag} {mg : Str → Option Value} {base : Heap} {CX : CXT}
    {k : Nat} {f : Addr} {fd : FuncData} {ps : List Str} {sp : Sp} (F : FnOk P w K mg base CX k f fd ps sp) :
    FnG P w K mg base CX k f fd ps sp :=
  ⟨F.len, fun A _ r outer s H args us vs Q E => F.run A outer s H args us vs Q E r⟩

section
variable {P : Program} {w : World} {K : PySem.W.Frag} {mg : Str → Option Value} {base : Heap} {CX : CXT} {k : Nat}
  {f : Addr} {fd : FuncData} {N ps : List Str} {sp : Sp}
/-- from the walk of a body -/
theorem runAt_body {A : Around} {name qual : Str} {params : Arguments} {body : List Stmt} {scope : Scope} {dV kV doc pm cdv ct oc : Value} {an od : Option Addr} {osl : Array (Option Value)}
    (lk : K.lookup f = some ⟨oc, od, .func (PySem.W.fnOf name qual params body scope dV kV doc pm an cdv ct), osl⟩)
    (hcd : PySem.W.codeIn K cdv qual = true) (S : FnScope N ps scope) (hlen : ∀ vs H Q E, sp vs H Q E → vs.length = ps.length)
    (hr : Room (k + 1) A)
    (hbody : ∀ (outer : List Env) (s : Shared) (H : Hp) (vs : List V) (Q : VK) (E : XK),
      Room k (A.deeper (envOfC qual scope s.heap.objs.size f cdv)) → sp vs H Q E →
      ∃ t, PSs (cxOf CX P w K mg base N qual scope f cdv A outer s H E) body t ∧ t { nx := fun _ H' => Q .non H', rt := Q } (start N vs) H) :
    RunAt P w K mg base CX f (PySem.W.fnOf name qual params body scope dV kV doc pm an cdv ct) ps sp A := by
  intro outer s H args us vs Q E e0 hb rv hsp
  have stands : ∀ b o, base.get? b = some o → s.heap.get? b = some o := fun b o e => (e0.bs b o e).1
  have inK : K.In s.heap := e0.mod.kin.keeps stands
  have nolim : s.heap.NoLimit := e0.mod.nolimit.keeps stands
  have n1 := hlen _ _ _ _ hsp
  refine codeAny_call_function hr.depth (inK _ _ lk) rfl S.co S.gen rfl
    (PySem.W.codeRec_of inK hcd) (hb _ _ _ _ (wpAny_newFunctionEnv_cells S.kind ?kinds fun env he s1 x => ?inside))
  case kinds =>
    rintro ⟨n, v⟩ hy
    cases S.par n (List.of_mem_zip hy).1 with
    | inl q => exact .inl q
    | inr q => exact .inr ⟨q, PySem.W.cellsFrom_some _ _ _ (.inl q)⟩
  case inside =>
    subst he
    refine ⟨nolim.keeps x.toInCall.keep, codeAny_func ?_⟩
    obtain ⟨t, ht, hq⟩ := hbody outer s H vs Q E (hr.deeper _) hsp
    have J0 := inv_start (CX := CX) (E := E) S hr.hd e0 n1 rv x
    refine wpAny_mono (ht.run [] s1 (start N vs) H _ J0 hq) (fun fl s' z => ?_) (fun _ _ z => z)
    match fl, z with
    | .ret u, ⟨v, _, H', J, r, q⟩ => exact ⟨v, H', J.os, J.bare, J.base, J.hok, r, q⟩
    | .next, ⟨_, H', J, q⟩ => exact ⟨V.non, H', J.os, J.bare, J.base, J.hok, rfl, q⟩
    | .brk, ⟨_, _, _, q⟩ => exact q.elim
    | .cont, ⟨_, _, _, q⟩ => exact q.elim
/-- a def of the text whose body needs to know that no repr is under way; nothing leaves it -/
theorem Fun_okG {x qual : Str} {st : Stmt} (F : Fun K x qual st f fd) (S : FnScope N ps (defScope st))
    (hlen : ∀ vs H Q E, sp vs H Q E → vs.length = ps.length)
    (hbody : ∀ (cdv : Value) (A : Around) (outer : List Env) (s : Shared) (H : Hp) (vs : List V) (Q : VK) (E : XK),
      A.guards = some [] → Room k (A.deeper (envOfC qual (defScope st) s.heap.objs.size f cdv)) → sp vs H Q E →
      ∃ t, PSs (cxOf CX0 P w K mg base N qual (defScope st) f cdv A outer s H E).nox (defBody st) t ∧ t { nx := fun _ H' => Q .non H', rt := Q } (start N vs) H) :
    FnG P w K mg base CX0 (k + 1) f fd ps sp := by
  obtain ⟨oc, od, kV, doc, pm, an, cdv, ct, osl, rfl, lk, hcd⟩ := F.ex
  refine ⟨hlen, fun A hg hr => runAt_body lk hcd S hlen hr fun outer s H vs Q E r1 h1 => ?_⟩
  obtain ⟨t, h, q⟩ := hbody cdv A outer s H vs Q E hg r1 h1
  exact ⟨t, h.nox, q⟩
end

section
variable {X : Cx} {CX : CXT} {k : Nat} {f : Addr} {fd : FuncData} {ps : List Str} {sp : Sp} {dvs : List V} {ds : List Value} {E : XK} {x : Str} {p pos : Pos} {e : Expr} {es : List Expr} {t : TA}
/-- f(e, ..) where no repr is under way -/
theorem pe_callG (F : FnG X.prog X.w X.K X.mg X.base CX k f fd ps sp) (hG : X.A.guards = some []) (hr : Room k X.A)
    (hg : Gl X x) (hm : X.mg x = some (.ref f)) (hk : PySem.W.keepIn X.K (.ref f) = true) (hb : Binds X.K fd ps ds) (hd : Vals dvs ds)
    (hx : Passes CX X E) (ha : PA X (e :: es) t) (hdb : (x == ("__debug__" : Str)) = false := by decide)
    (he : starEach (e :: es) X.env = (false, eval e X.env) :: starEach es X.env := by rfl)
    (hpl : (backTo pos (starEach es X.env)).any (·.1) = false := by rfl) : PE X (.Call (.Name x p) (e :: es) [] pos) (tCall sp dvs E t) := by
  constructor
  intro pins s σ H Q I h
  refine wpAny_Call_Name_kw (ld_glob I hg hm (PySem.W.callWith_K (h₀ := X.base) I.ok.mod.kin hk (thn (ha.run pos pins s σ H _ I h) ?_) he hpl) hdb)
  rintro us s1 ⟨vs, H1, I1, r, q⟩
  have r2 : Vals (vs ++ dvs) (us ++ ds) := r.append hd
  have hl : (us ++ ds).length = ps.length := r2.length.symm.trans (F.len _ _ _ _ q)
  refine ⟨I1.kIn, wpAny_call (codeAny_mono (F.run X.A hG hr X.stack s1 H1 ⟨us, []⟩ (us ++ ds) _ Q E I1.env0 (hb s1 us I1.kIn hl) r2 q) fun o s' z => ?_)⟩
  match o, z with
  | .error e, z => exact hx pins σ H1 s1 e s' I1 z
  | .ok (.ret u), z => exact I1.after z
  | .ok .next, z => exact z.elim
  | .ok .brk, z => exact z.elim
  | .ok .cont, z => exact z.elim

/-- repr of data: none, bools, ints, texts, lists, tuples, at any depth below 60 -/
def rReprD (K : PySem.W.Frag) : List V → Hp → VK → Prop := fun xs H Q => ∃ (v : V) (d : PyData), xs = [v] ∧ Dp K H v d ∧ d.showable = true ∧ d.hasDict = false ∧ d.depth ≤ 60 ∧ d.shown.length ≤ sizeLine ∧ Q (.str d.shown) H
theorem call_reprD (hG : X.A.guards = some []) (hu : X.A.units + 64 < cLine) : CallR X (.builtin "repr") (rReprD X.K) := by
  intro pins s σ H xs us Q I r h
  obtain ⟨v, d, rfl, hd, h1, h2, h3, h4, q⟩ := h
  obtain ⟨u, rfl, rx⟩ := vals1 r
  cases hd with
  | non =>
    cases (show u = Value.none from rx)
    exact PySem.P.repr_of_none ⟨.str _, H, I.tok _, ⟨_, rfl⟩, q⟩
  | bl b =>
    cases (show u = Value.bool b from rx)
    exact PySem.P.repr_of_bool ⟨.str _, H, I.tok _, ⟨_, rfl⟩, q⟩
  | int i =>
    obtain ⟨t, rfl⟩ := (show ∃ t, u = Value.int i t from rx)
    exact PySem.P.repr_of_int (of_decide_eq_true h1) ⟨.str _, H, I.tok _, ⟨_, rfl⟩, q⟩
  | str x =>
    obtain ⟨t, rfl⟩ := (show ∃ t, u = Value.str x t from rx)
    exact PySem.P.repr_of_str ⟨.str _, H, I.tok _, ⟨_, rfl⟩, q⟩ h4
  | lst hs ha =>
    cases (show u = Value.ref _ from rx)
    obtain ⟨as, rd⟩ := Dp.reads I _ _ _ (.lst hs ha) rx
    exact repr_of_reads' rd h1 (PyData.noDict_hsm h2) hG (by omega) (fun _ _ e => e)
      (fun h' u tk hk => ⟨.str _, H, I.kept hk, ⟨_, rfl⟩, q⟩) h4
  | tup hs ha =>
    cases (show u = Value.ref _ from rx)
    obtain ⟨as, rd⟩ := Dp.reads I _ _ _ (.tup hs ha) rx
    exact repr_of_reads' rd h1 (PyData.noDict_hsm h2) hG (by omega) (fun _ _ e => e)
      (fun h' u tk hk => ⟨.str _, H, I.kept hk, ⟨_, rfl⟩, q⟩) h4
end

/-! ### the law's own run: FnG at the outermost call -/
section
variable {P : Program} {w : World} {K : PySem.W.Frag} {mg mb : Str → Option Value} {k : Nat} {fa a : Addr} {fd : FuncData} {x : Str} {sp : Sp} {s₁ : Shared} {vs : List Value} {ns : List Int}
/-- what a row wants behind its call -/
abbrev GoodEnd (s₁ : Shared) (r : Result) (s' : Shared) : Prop :=
  r = .ok (.ret (.bool true)) ∧ OldK s₁.heap s'.heap ∧ s'.os = s₁.os ∧ AllBare s'.gens
/-- from an abstract heap H that tracks the script at most -/
theorem law_at (KX : K.In s₁.heap) (hns : s₁.heap.Ns mainGlobals mg) (hb : s₁.heap.Ns builtinsNs mb)
    (hbb : ∀ y : Str, y ≠ "__name__" → mb y = bootBuiltins y) (hlim : s₁.heap.NoLimit) (hgen : s₁.gens = #[])
    (ha : s₁.heap.get? a = some { cls := .type "list", data := .seq vs.toArray }) (hr : Room k callerA)
    (F : ∀ base : Heap, K.In base → base.Ns mainGlobals mg → FnG P w K mg base CX0 k fa fd [x] sp)
    (hbind : ∀ (s : Shared) (u : Value), BindsTo s fd ⟨[u], []⟩ [(x, u)]) (H : Hp) (hO : Only H)
    (hsp : sp [.ref a] H (fun v _ => v = .bl true) fun _ _ _ => False) (hok : HOk P w H s₁.heap)
    (hA : ∀ b, H b ≠ none → b = a) (hK : H a ≠ none → K.lookup a = none) :
    codeAny (model P w) callerA (.call (.ref fa) ⟨[.ref a], []⟩) (GoodEnd s₁) s₁ := by
  have tracked : ∀ {b : Addr}, ¬ b = a → H b = none := fun {b} n => by
    cases q : H b with
    | none => rfl
    | some u => exact absurd (hA b (by rw [q]; exact Option.some_ne_none u)) n
  have noDict : ∀ {b : Addr} {o : Obj} {es : Array DictEntry} {ep : Nat}, s₁.heap.get? b = some o → o.data = .dict es ep → H b = none := by
    intro b o es ep e d
    refine tracked fun z => ?_
    rw [z, ha] at e
    cases e
    cases (show Data.seq vs.toArray _ = Data.dict es ep from d)
  have nsH : ∀ {b : Addr} {m : Str → Option Value}, s₁.heap.Ns b m → (hidT s₁.heap H).Ns b m := by
    rintro b m ⟨o, es, ep, e, d, r⟩
    exact ⟨o, es, ep, hidT_get e (noDict e d), d, r⟩
  have inK : K.In (hidT s₁.heap H) := by
    intro b o e
    refine hidT_get (KX b o e) ?_
    by_cases z : b = a
    · cases q : H b with
      | none => rfl
      | some u =>
        subst z
        rw [hK (by rw [q]; exact Option.some_ne_none u)] at e
        cases e
    · exact tracked z
  have lim : (hidT s₁.heap H).NoLimit := by
    obtain ⟨mc, h1, h2⟩ := hlim
    exact ⟨mc, nsH h1, h2⟩
  have no : ∀ {b : Addr}, ¬ b ∈ ([] : List Addr) := fun h => nomatch h
  have e0 : Env0 P w K mg (hidT s₁.heap H) callerA [] s₁ H :=
    { frames := rfl, mod := ⟨inK, nsH hns, ⟨mb, nsH hb, hbb⟩, lim⟩, bs := fun b o e => of_hidT e, bsz := Nat.le_of_eq (hidT_size _ _),
      funs := trivial, frf := fun b z => (no (b := b) z).elim, hok := hok, bare := .of_eq hgen }
  refine codeAny_mono ((F _ inK (nsH hns)).run callerA rfl hr [] s₁ H ⟨[.ref a], []⟩ [.ref a] [.ref a] _ _ e0
    (hbind s₁ (.ref a)) (.cons rfl .nil) hsp) fun r s' h => ?_
  match r, h with
  | .error e, h => exact h.elim
  | .ok .next, h => exact h.elim
  | .ok .brk, h => exact h.elim
  | .ok .cont, h => exact h.elim
  | .ok (.ret u), ⟨v, H', os, bare, un, hok', rv, (q : v = .bl true)⟩ =>
    subst q
    cases (show u = Value.bool true from rv)
    refine ⟨rfl, OldK.of_keep fun b o e => ?_, os, bare⟩
    rcases hO b with z | ⟨ob, xs, z⟩
    · exact un.keep b o e z (fun m => (no (b := b) m).elim) (fun m => (no (b := b) m).elim)
    · obtain ⟨e1, _⟩ := hok b _ z
      obtain ⟨e2, _⟩ := hok' b _ (un.frzs b ob _ z)
      cases e.symm.trans e1
      exact e2
/-- the end of a law row whose def keeps its promise where no repr is under way -/
theorem walk_ofG {l : PySem.W.OpenLaw} {n : Nat} {q : Program} {loose : List Str} {XP : (Str → Option Value) → Heap → Prop} {YP : World → Heap → Prop} {d : DefRec} {K : Params → PySem.W.Frag} {sp : World → Sp}
    (hn : l.most = some n) (hn2 : n ≤ sizeLine) (hdf : d.params.defaults = []) (hr : Room k callerA)
    (hY : ∀ (w : World) (h : Heap), YP w h → (K w.params).In h)
    (F : ∀ (w : World) (mg : Str → Option Value) (fa : Addr) (h : Heap), (K w.params).In h → h.Ns mainGlobals mg → mg d.name = some (.ref fa) →
      ∃ fd : FuncData, (∀ (s : Shared) (u : Value), BindsTo s fd ⟨[u], []⟩ [(x, u)]) ∧
        ∀ base : Heap, (K w.params).In base → base.Ns mainGlobals mg → FnG l.prog w (K w.params) mg base CX0 k fa fd [x] (sp w))
    (hsp : ∀ (w : World) (H : Hp) (a : Addr) (ns : List Int), ns.length ≤ n → Only H → SqL (K w.params) H a (ns.map V.int) → sp w [.ref a] H (fun v _ => v = .bl true) fun _ _ _ => False) :
    PySem.W.WalkO q loose XP YP l.row.toRowW d [] (fun f vs => PySem.call f vs) := by
  refine Att.attach_call hn hdf ?_
  intro w s₀ s₁ mg mb fa o pm cd doc a vs ns G Y ho hd hcd hmg hobj hints hlen hgen
  have KX := hY w _ Y
  obtain ⟨fd, hb, hF⟩ := F w mg fa _ KX G.T.g hmg
  have rv := vals_ints hints
  have small : ns.length ≤ sizeLine := Nat.le_trans hlen hn2
  have go := law_at (P := l.prog) (w := w) KX G.T.g G.T.b G.T.builtins G.T.nolimit hgen hobj hr hF hb
  cases hk : (K w.params).lookup a with
  | some ob =>
    have e := KX a ob hk
    rw [hobj] at e
    cases e
    refine go (fun _ => none) (fun _ => .inl rfl) (hsp w _ a ns hlen (fun _ => .inl rfl) (.inr ⟨_, vs.toArray, _, hk, rfl, rfl, rfl, ?_, rv⟩)) (fun _ _ z => nomatch z) (fun _ z => (z rfl).elim) (fun z => (z rfl).elim)
    rw [List.size_toArray, hints.length]
    exact small
  | none =>
    have at_a : ∀ b, (if b = a then some (HO.frz { cls := .type "list", data := .seq vs.toArray } (.lst (ns.map V.int))) else none) ≠ none → b = a := by
      intro b z
      by_cases e : b = a
      · exact e
      · rw [if_neg e] at z
        exact (z rfl).elim
    have only : Only fun b => if b = a then some (.frz { cls := .type "list", data := .seq vs.toArray } (.lst (ns.map V.int))) else none := by
      intro b
      by_cases e : b = a
      · exact .inr ⟨_, _, if_pos e⟩
      · exact .inl (if_neg e)
    refine go _ only (hsp w _ a ns hlen only (.inl (.inr ⟨_, if_pos rfl⟩))) (fun b u z => ?_) at_a fun _ => hk
    obtain rfl := at_a b (by rw [z]; exact Option.some_ne_none u)
    rw [if_pos rfl] at z
    cases z
    exact ⟨hobj, by rw [List.length_map]; exact small, vs, _, rv, hobj⟩
end
end Vn

set_option Elab.async false
set_option linter.all false
set_option maxRecDepth 100000
set_option maxHeartbeats 2000000
/-! Vn: data as the laws draw it: its size, its place beside the stream, the stream. -/
namespace Vn
open PySem PySem.Spec PyProof.Rows L2

/-! ### data that can be shown -/
mutual
/-- no text of it is shown by more signs than this -/
def big : PyData → Nat
  | .none | .bool _ => 5
  | .int _ => 2000
  | .str x => 10 * x.length + 2
  | .list xs | .tuple xs => bigs xs + 3
  | .dict _ => 0
def bigs : List PyData → Nat
  | [] => 0
  | x :: xs => big x + 2 + bigs xs
end
mutual
def fine : PyData → Bool
  | .none | .bool _ => true
  | .int i => decide (i.natAbs.log2 < 1920)
  | .str x => x.cps.toList.all fun c => decide (c < 1114112)
  | .list xs | .tuple xs => fines xs
  | .dict _ => false
def fines : List PyData → Bool
  | [] => true
  | x :: xs => fine x && fines xs
end
theorem toString_small {i : Int} (h : i.natAbs.log2 < 1920) : (Str.ofString (toString i)).length ≤ 2000 := by
  rw [PySem.ofString_length]
  have := int_text_length_le (k := 1920) (by decide) h
  omega
mutual
theorem shown_big : ∀ d : PyData, fine d = true → d.showable = true ∧ d.hasDict = false ∧ d.shown.length ≤ big d
  | .none, _ => by
    simp only [PyData.showable, PyData.hasDict, PyData.shown, big]
    exact ⟨trivial, trivial, by decide⟩
  | .bool b, _ => by
    simp only [PyData.showable, PyData.hasDict, PyData.shown, big]
    cases b <;> exact ⟨trivial, trivial, by decide⟩
  | .int i, h => by
    simp only [fine] at h
    simp only [PyData.showable, PyData.hasDict, PyData.shown, big]
    exact ⟨h, trivial, toString_small (of_decide_eq_true h)⟩
  | .str x, h => by
    simp only [fine, List.all_eq_true, decide_eq_true_eq] at h
    simp only [PyData.showable, PyData.hasDict, PyData.shown, big]
    exact ⟨trivial, trivial, StrLaws.reprText_len x fun c hc => Nat.lt_trans (h c hc) (by decide)⟩
  | .list xs, h => by
    simp only [fine] at h
    obtain ⟨h1, h2, h3⟩ := shown_bigs xs h
    simp only [PyData.showable, PyData.hasDict, PyData.shown, big]
    refine ⟨h1, h2, ?_⟩
    have := listText_len_le (PyData.shownAll xs)
    omega
  | .tuple xs, h => by
    simp only [fine] at h
    obtain ⟨h1, h2, h3⟩ := shown_bigs xs h
    simp only [PyData.showable, PyData.hasDict, PyData.shown, big]
    refine ⟨h1, h2, ?_⟩
    have := tupleText_len_le (PyData.shownAll xs)
    omega
  | .dict _, h => by simp [fine] at h
theorem shown_bigs : ∀ ds : List PyData, fines ds = true → PyData.showableAll ds = true ∧ PyData.hasDictAll ds = false ∧ ((PyData.shownAll ds).map (·.length)).sum + 2 * (PyData.shownAll ds).length ≤ bigs ds
  | [], _ => by simp [PyData.showableAll, PyData.hasDictAll, PyData.shownAll, bigs]
  | d :: ds, h => by
    simp only [fines, Bool.and_eq_true] at h
    obtain ⟨a1, a2, a3⟩ := shown_big d h.1
    obtain ⟨b1, b2, b3⟩ := shown_bigs ds h.2
    simp only [PyData.showableAll, PyData.hasDictAll, PyData.shownAll, bigs, a1, a2, b1, b2, List.map_cons, List.sum_cons, List.length_cons]
    exact ⟨rfl, rfl, by omega⟩
end
/-- depth at most n, shown by at most b signs -/
structure Nice (n b : Nat) (d : PyData) : Prop where
  fine : fine d = true
  depth : d.depth ≤ n
  big : big d ≤ b
structure Nices (n b : Nat) (ds : List PyData) : Prop where
  fine : fines ds = true
  depth : PyData.depthAll ds ≤ n
  big : bigs ds ≤ b
theorem Nice.mono {n b n' b' : Nat} {d : PyData} (h : Nice n b d) (hn : n ≤ n') (hb : b ≤ b') : Nice n' b' d := ⟨h.fine, Nat.le_trans h.depth hn, Nat.le_trans h.big hb⟩
theorem Nices.nil {n b : Nat} : Nices n b [] := ⟨rfl, Nat.zero_le _, Nat.zero_le _⟩
theorem Nices.mono {n b n' b' : Nat} {ds : List PyData} (h : Nices n b ds) (hn : n ≤ n') (hb : b ≤ b') : Nices n' b' ds := ⟨h.fine, Nat.le_trans h.depth hn, Nat.le_trans h.big hb⟩
theorem fines_append : ∀ {ds es : List PyData}, fines (ds ++ es) = (fines ds && fines es)
  | [], _ => by simp [fines]
  | d :: ds, es => by simp [fines, fines_append (ds := ds) (es := es), Bool.and_assoc]
theorem bigs_append : ∀ {ds es : List PyData}, bigs (ds ++ es) = bigs ds + bigs es
  | [], _ => by simp [bigs]
  | d :: ds, es => by
    simp only [List.cons_append, bigs, bigs_append (ds := ds) (es := es)]
    omega
theorem depthAll_append : ∀ {ds es : List PyData}, PyData.depthAll (ds ++ es) = max (PyData.depthAll ds) (PyData.depthAll es)
  | [], _ => by simp [PyData.depthAll]
  | d :: ds, es => by
    simp only [List.cons_append, PyData.depthAll, depthAll_append (ds := ds) (es := es)]
    omega
theorem Nices.append {n b c : Nat} {ds es : List PyData} (h : Nices n b ds) (g : Nices n c es) : Nices n (b + c) (ds ++ es) :=
  ⟨by rw [fines_append, h.fine, g.fine]; rfl, by rw [depthAll_append]; exact Nat.max_le.mpr ⟨h.depth, g.depth⟩, by rw [bigs_append]; exact Nat.add_le_add h.big g.big⟩
theorem Nices.one {n b : Nat} {d : PyData} (h : Nice n b d) : Nices n (b + 2) [d] :=
  ⟨by simp [fines, h.fine], by simp only [PyData.depthAll]; have := h.depth; omega, by simp only [bigs]; have := h.big; omega⟩
theorem Nices.snoc {n b c : Nat} {ds : List PyData} {d : PyData} (h : Nices n b ds) (g : Nice n c d) : Nices n (b + (c + 2)) (ds ++ [d]) := h.append (.one g)
theorem Nices.lst {n b : Nat} {ds : List PyData} (h : Nices n b ds) : Nice (n + 1) (b + 3) (.list ds) :=
  ⟨by simp only [Vn.fine]; exact h.fine, by simp only [PyData.depth]; have := h.depth; omega, by simp only [Vn.big]; have := h.big; omega⟩
theorem Nices.tup {n b : Nat} {ds : List PyData} (h : Nices n b ds) : Nice (n + 1) (b + 3) (.tuple ds) :=
  ⟨by simp only [Vn.fine]; exact h.fine, by simp only [PyData.depth]; have := h.depth; omega, by simp only [Vn.big]; have := h.big; omega⟩
theorem Nices.mem {n b : Nat} : ∀ {ds : List PyData} {d : PyData}, Nices n b ds → d ∈ ds → Nice n b d
  | [], _, _, h => nomatch h
  | e :: ds, d, H, h => by
    have h1 := H.fine
    have h2 := H.depth
    have h3 := H.big
    simp only [fines, Bool.and_eq_true] at h1
    simp only [PyData.depthAll] at h2
    simp only [bigs] at h3
    cases h with
    | head => exact ⟨h1.1, by omega, by omega⟩
    | tail _ m => exact Nices.mem ⟨h1.2, by omega, by omega⟩ m
theorem Nice.int {n : Nat} {i : Int} (h : i.natAbs.log2 < 1920) : Nice n 2000 (.int i) := ⟨decide_eq_true h, Nat.zero_le _, Nat.le_refl _⟩
set_option exponentiation.threshold 3000 in
theorem log2_small {i : Int} (h : i.natAbs < 2 ^ 1000) : i.natAbs.log2 < 1920 := by
  by_cases z : i.natAbs = 0
  · rw [z]; decide
  · exact Nat.lt_trans ((Nat.log2_lt z).mpr h) (by decide)

/-! ### where data stands -/
/-- all but the stream and its script -/
def cut (S C : Addr) (H : Hp) : Hp := fun a => if a = S ∨ a = C then none else H a
theorem cut_in {S C a : Addr} {H : Hp} (h1 : a ≠ S) (h2 : a ≠ C) : cut S C H a = H a := if_neg fun h => h.elim h1 h2
theorem cut_same {S C : Addr} {H : Hp} : Same (cut S C H) H := fun b o h => by
  unfold cut at h
  by_cases z : b = S ∨ b = C
  · rw [if_pos z] at h; cases h
  · rwa [if_neg z] at h
theorem cut_some {S C a : Addr} {o : HO} {H : Hp} (h : cut S C H a = some o) : a ≠ S ∧ a ≠ C ∧ H a = some o := by
  unfold cut at h
  by_cases z : a = S ∨ a = C
  · rw [if_pos z] at h; cases h
  · rw [if_neg z] at h
    exact ⟨fun e => z (.inl e), fun e => z (.inr e), h⟩
/-- what was tracked stands, but the stream and its script -/
abbrev Fr (S C : Addr) (H H' : Hp) : Prop := Same (cut S C H) (cut S C H')
theorem Fr.of_same {S C : Addr} {H H' : Hp} (h : Same H H') : Fr S C H H' := fun b o q => by
  obtain ⟨h1, h2, h3⟩ := cut_some q
  rw [cut_in h1 h2]
  exact h b o h3
theorem Fr.updS {S C : Addr} {H : Hp} {o : HO} : Fr S C H (upd H S o) := fun b u q => by
  obtain ⟨h1, h2, h3⟩ := cut_some q
  rw [cut_in h1 h2, upd_ne h1]
  exact h3
theorem Fr.updC {S C : Addr} {H : Hp} {o : HO} : Fr S C H (upd H C o) := fun b u q => by
  obtain ⟨h1, h2, h3⟩ := cut_some q
  rw [cut_in h1 h2, upd_ne h2]
  exact h3
theorem same_new {H : Hp} {p : Addr} (h : H p = none) (o : HO) : Same H (upd H p o) := fun b u q => by
  rw [upd_ne (ne_of_none q h)]
  exact q
theorem Same.seqT {K : PySem.W.Frag} {H H' : Hp} {a : Addr} {xs : List V} (e : Same H H') (h : SqT K H a xs) : SqT K H' a xs := by
  rcases h with (h | ⟨o, h⟩) | h
  · exact .inl (.inl (e _ _ h))
  · exact .inl (.inr ⟨o, e _ _ h⟩)
  · exact .inr h
mutual
theorem Dp_mono {K : PySem.W.Frag} {H H' : Hp} (e : Same H H') : ∀ {d : PyData} {v : V}, Dp K H v d → Dp K H' v d
  | _, _, .non => .non
  | _, _, .bl b => .bl b
  | _, _, .int i => .int i
  | _, _, .str x => .str x
  | _, _, .lst h a => .lst (e.seq h) (DpAll_mono e a)
  | _, _, .tup h a => .tup (Same.seqT e h) (DpAll_mono e a)
theorem DpAll_mono {K : PySem.W.Frag} {H H' : Hp} (e : Same H H') : ∀ {ds : List PyData} {vs : List V}, DpAll K H vs ds → DpAll K H' vs ds
  | _, _, .nil => .nil
  | _, _, .cons h a => .cons (Dp_mono e h) (DpAll_mono e a)
end
theorem DpAll_append {K : PySem.W.Frag} {H : Hp} : ∀ {ds es : List PyData} {vs us : List V}, DpAll K H vs ds → DpAll K H us es → DpAll K H (vs ++ us) (ds ++ es)
  | _, _, _, _, .nil, h => h
  | _, _, _, _, .cons a r, h => .cons a (DpAll_append r h)
theorem DpAll_snoc {K : PySem.W.Frag} {H : Hp} {ds : List PyData} {vs : List V} {v : V} {d : PyData} (h : DpAll K H vs ds) (g : Dp K H v d) : DpAll K H (vs ++ [v]) (ds ++ [d]) := DpAll_append h (.cons g .nil)
theorem DpAll_len {K : PySem.W.Frag} {H : Hp} : ∀ {ds : List PyData} {vs : List V}, DpAll K H vs ds → vs.length = ds.length
  | _, _, .nil => rfl
  | _, _, .cons _ r => congrArg (· + 1) (DpAll_len r)
theorem DpAll_get {K : PySem.W.Frag} {H : Hp} : ∀ (i : Nat) {ds : List PyData} {vs : List V} {v : V}, DpAll K H vs ds → vs[i]? = some v → ∃ d, ds[i]? = some d ∧ Dp K H v d
  | _, _, _, _, .nil, e => by simp at e
  | 0, _, _, _, .cons h _, e => ⟨_, rfl, by cases e; exact h⟩
  | i + 1, _, _, _, .cons _ r, e => DpAll_get i r e
theorem DpAll_take {K : PySem.W.Frag} {H : Hp} : ∀ {ds : List PyData} {vs : List V} (n : Nat), DpAll K H vs ds → DpAll K H (vs.take n) (ds.take n)
  | _, _, 0, _ => .nil
  | _, _, _ + 1, .nil => .nil
  | _, _, n + 1, .cons a r => .cons a (DpAll_take n r)
theorem DpAll_drop {K : PySem.W.Frag} {H : Hp} : ∀ {ds : List PyData} {vs : List V} (n : Nat), DpAll K H vs ds → DpAll K H (vs.drop n) (ds.drop n)
  | _, _, 0, h => h
  | _, _, _ + 1, .nil => .nil
  | _, _, n + 1, .cons _ r => DpAll_drop n r
/-- the i-th of some drawn values by a number below their number -/
theorem DpAll_at {K : PySem.W.Frag} {H : Hp} {ds : List PyData} {vs : List V} {r : Int} (h : DpAll K H vs ds) (h0 : 0 ≤ r) (h1 : r < (vs.length : Int)) :
    ∃ v d, atI vs r = some v ∧ d ∈ ds ∧ Dp K H v d := by
  have q : r.toNat < vs.length := by omega
  obtain ⟨d, hd, hv⟩ := DpAll_get _ h (List.getElem?_eq_getElem q)
  have e : r = ((r.toNat : Nat) : Int) := by omega
  have z : atI vs ((r.toNat : Nat) : Int) = some vs[r.toNat] := atI_nat (List.getElem?_eq_getElem q)
  rw [← e] at z
  exact ⟨vs[r.toNat], d, z, List.mem_of_getElem? hd, hv⟩

/-! ### the type of data -/
def tyName : PyData → String
  | .none => "NoneType"
  | .bool _ => "bool"
  | .int _ => "int"
  | .str _ => "str"
  | .list _ => "list"
  | .tuple _ => "tuple"
  | .dict _ => "dict"
theorem Dp_type {K : PySem.W.Frag} {H : Hp} {v : V} {d : PyData} (h : Dp K H v d) : TyX K H v (.type (tyName d)) := by
  cases h with
  | non => exact .base .non
  | bl b => exact .base (.bl b)
  | int i => exact .base (.int i)
  | str x => exact .base (.str x)
  | lst hs _ =>
    rcases hs with (h | ⟨o, h⟩) | ⟨o, its, n, h, hc, _⟩
    · exact .base (.lst h)
    · exact .base (.frz h)
    · exact .kList h hc
  | tup hs _ =>
    rcases hs with (h | ⟨o, h⟩) | ⟨o, its, n, h, hc, _⟩
    · exact .base (.tup h)
    · exact .fTuple h
    · exact .kTuple h hc
def isStr : PyData → Bool
  | .str _ => true
  | _ => false
def isTup : PyData → Bool
  | .tuple _ => true
  | _ => false
theorem kit_str {K : PySem.W.Frag} {v : V} {d : PyData} {H : Hp} (h : Dp K H v d) : PySem.W.kitOne K (.type (tyName d)) (.type "str") = some (isStr d) := by
  refine kit_ty ?_
  cases h <;> (simp only [tyName, isStr]; decide +kernel)
theorem kit_tup {K : PySem.W.Frag} {v : V} {d : PyData} {H : Hp} (h : Dp K H v d) : PySem.W.kitOne K (.type (tyName d)) (.type "tuple") = some (isTup d) := by
  refine kit_ty ?_
  cases h <;> (simp only [tyName, isTup]; decide +kernel)
def isInt : PyData → Bool
  | .int _ => true
  | .bool _ => true
  | _ => false
def isBool : PyData → Bool
  | .bool _ => true
  | _ => false
def isLst : PyData → Bool
  | .list _ => true
  | _ => false
theorem kit_int {K : PySem.W.Frag} {v : V} {d : PyData} {H : Hp} (h : Dp K H v d) : PySem.W.kitOne K (.type (tyName d)) (.type "int") = some (isInt d) := by
  refine kit_ty ?_
  cases h <;> (simp only [tyName, isInt]; decide +kernel)
theorem kit_bool {K : PySem.W.Frag} {v : V} {d : PyData} {H : Hp} (h : Dp K H v d) : PySem.W.kitOne K (.type (tyName d)) (.type "bool") = some (isBool d) := by
  refine kit_ty ?_
  cases h <;> (simp only [tyName, isBool]; decide +kernel)
theorem kit_lst {K : PySem.W.Frag} {v : V} {d : PyData} {H : Hp} (h : Dp K H v d) : PySem.W.kitOne K (.type (tyName d)) (.type "list") = some (isLst d) := by
  refine kit_ty ?_
  cases h <;> (simp only [tyName, isLst]; decide +kernel)

/-! ### the stream -/
/-- at S the stream, at C what is left of the script; at most n draws so far -/
def Strm (S C : Addr) (n : Nat) (H : Hp) : Prop := S ≠ C ∧ ∃ (ns : List Int) (x1 x2 x3 : Int),
  H S = some (.lst [.ref C, .int x1, .int x2, .int x3]) ∧ H C = some (.lst (ns.map V.int)) ∧ ns.length ≤ 63 ∧ 0 ≤ x1 ∧ 0 ≤ x2 ∧ x2 ≤ (n : Int) ∧ 0 ≤ x3 ∧ x3 < 2147483647
theorem Strm.mono {S C : Addr} {n m : Nat} {H : Hp} (h : Strm S C n H) (q : n ≤ m) : Strm S C m H := by
  obtain ⟨h0, ns, x1, x2, x3, h1, h2, h3, h4, h5, h6, h7, h8⟩ := h
  exact ⟨h0, ns, x1, x2, x3, h1, h2, h3, h4, h5, by omega, h7, h8⟩
theorem Strm.same {S C : Addr} {n : Nat} {H H' : Hp} (h : Strm S C n H) (e : Same H H') : Strm S C n H' := by
  obtain ⟨h0, ns, x1, x2, x3, h1, h2, r⟩ := h
  exact ⟨h0, ns, x1, x2, x3, e _ _ h1, e _ _ h2, r⟩
theorem Strm.neS {S C p : Addr} {n : Nat} {H : Hp} (h : Strm S C n H) (q : H p = none) : p ≠ S := by
  obtain ⟨h0, ns, x1, x2, x3, h1, h2, r⟩ := h
  exact fun e => by rw [e, h1] at q; cases q
theorem Strm.neC {S C p : Addr} {n : Nat} {H : Hp} (h : Strm S C n H) (q : H p = none) : p ≠ C := by
  obtain ⟨h0, ns, x1, x2, x3, h1, h2, r⟩ := h
  exact fun e => by rw [e, h2] at q; cases q
/-- a new object beside the stream is in the part of the heap that draws leave alone -/
theorem Strm.new {S C p : Addr} {n : Nat} {H : Hp} {o : HO} (h : Strm S C n H) (q : H p = none) : cut S C (upd H p o) p = some o := by
  rw [cut_in (h.neS q) (h.neC q), upd_same]
end Vn

set_option Elab.async false
set_option linter.all false
set_option maxRecDepth 100000
set_option maxHeartbeats 4000000
/-! Vn: what is drawn is new; draws, picks, lists of drawn things. -/
namespace Vn
open PySem PySem.Spec PyProof.Rows L2

/-- the part of H' that was not tracked in H -/
def newp (H H' : Hp) : Hp := fun a => match H a with
  | none => H' a
  | some _ => none
theorem newp_some {H H' : Hp} {a : Addr} {o : HO} (h : newp H H' a = some o) : H a = none ∧ H' a = some o := by
  unfold newp at h
  cases e : H a with
  | none => rw [e] at h; exact ⟨rfl, h⟩
  | some u => rw [e] at h; cases h
theorem newp_of {H H' : Hp} {a : Addr} (h : H a = none) : newp H H' a = H' a := by
  unfold newp
  rw [h]
theorem newp_same {H H' : Hp} : Same (newp H H') H' := fun _ _ h => (newp_some h).2
/-- what is tracked stays tracked -/
def Ext (H H' : Hp) : Prop := ∀ a, H' a = none → H a = none
theorem Ext.trans {H H1 H2 : Hp} (a : Ext H H1) (b : Ext H1 H2) : Ext H H2 := fun x h => a x (b x h)
theorem Ext.of_same {H H' : Hp} (e : Same H H') : Ext H H' := fun _ h => e.free h
theorem Ext.upd {H : Hp} {p : Addr} {o : HO} : Ext H (upd H p o) := fun a h => by
  by_cases e : a = p
  · rw [e, upd_same] at h; cases h
  · rwa [upd_ne e] at h
theorem Fr.ext {S C : Addr} {n : Nat} {H H' : Hp} (st : Strm S C n H') (f : Fr S C H H') : Ext H H' := fun a h => by
  have h1 := st.neS h
  have h2 := st.neC h
  have := f.free (by rw [cut_in h1 h2]; exact h)
  rwa [cut_in h1 h2] at this
theorem newp_left {H H1 H2 : Hp} (e : Ext H H1) : Same (newp H1 H2) (newp H H2) := fun a o h => by
  obtain ⟨h1, h2⟩ := newp_some h
  rw [newp_of (e a h1)]
  exact h2
theorem newp_right {H H1 H2 : Hp} (e : Same H1 H2) : Same (newp H H1) (newp H H2) := fun a o h => by
  obtain ⟨h1, h2⟩ := newp_some h
  rw [newp_of h1]
  exact e _ _ h2
theorem newp_fr {S C : Addr} {n : Nat} {H H1 H2 : Hp} (st : Strm S C n H) (f : Fr S C H1 H2) : Same (newp H H1) (newp H H2) := fun a o h => by
  obtain ⟨h1, h2⟩ := newp_some h
  have n1 := st.neS h1
  have n2 := st.neC h1
  rw [newp_of h1]
  exact (cut_some (f a o (by rw [cut_in n1 n2]; exact h2))).2.2
/-- another value at a place that was tracked ahead -/
theorem newp_upd {H H1 : Hp} {p : Addr} {o : HO} (h : H p ≠ none) : Same (newp H H1) (newp H (upd H1 p o)) := fun a u q => by
  obtain ⟨h1, h2⟩ := newp_some q
  rw [newp_of h1, upd_ne (fun e : a = p => h (by rw [← e]; exact h1))]
  exact h2
theorem newp_at {H H1 : Hp} {p : Addr} {o : HO} (h : H p = none) : newp H (upd H1 p o) p = some o := by rw [newp_of h, upd_same]
theorem cut_keep {S C p : Addr} {H H' : Hp} {o : HO} (f : Fr S C H H') (h1 : p ≠ S) (h2 : p ≠ C) (h : H p = some o) : H' p = some o :=
  (cut_some (f p o (by rw [cut_in h1 h2]; exact h))).2.2
/-- an object that was laid beside the stream stands behind draws -/
theorem Strm.keep {S C p : Addr} {n : Nat} {H H' : Hp} {o : HO} (st : Strm S C n H) (np : H p = none) (f : Fr S C (upd H p o) H') : H' p = some o :=
  cut_keep f (st.neS np) (st.neC np) upd_same
theorem Strm.lay {S C p : Addr} {n : Nat} {H : Hp} (st : Strm S C n H) (np : H p = none) (o : HO) : Strm S C n (upd H p o) := st.same (same_new np o)
theorem Strm.upd {S C p : Addr} {n : Nat} {H : Hp} (st : Strm S C n H) (h1 : p ≠ S) (h2 : p ≠ C) (o : HO) : Strm S C n (upd H p o) := by
  obtain ⟨h0, ns, x1, x2, x3, a, b, r⟩ := st
  exact ⟨h0, ns, x1, x2, x3, (upd_ne h1.symm).trans a, (upd_ne h2.symm).trans b, r⟩
theorem Fr.lay {S C p : Addr} {H : Hp} (np : H p = none) (o : HO) : Fr S C H (upd H p o) := .of_same (same_new np o)
theorem Fr.upd {S C p : Addr} {H H1 : Hp} {o : HO} (f : Fr S C H H1) (np : H p = none) : Fr S C H (upd H1 p o) := fun a u q => by
  obtain ⟨h1, h2, h3⟩ := cut_some q
  have h4 := f a u q
  rw [cut_in h1 h2] at h4 ⊢
  rw [upd_ne (ne_of_none h3 np)]
  exact h4

/-! ### rules whose reading names K itself (within comprehensions) -/
section
variable {X : Cx} {K : PySem.W.Frag}
theorem ixL (h : X.K = K := by rfl) : IxR X (rIxL K) := by subst h; exact ix_list
theorem ixT (h : X.K = K := by rfl) : IxR X (rIxT K) := by subst h; exact ix_tup
theorem catK (h : X.K = K := by rfl) : OpR X (binaryOp .Add) (rCatT K) := by subst h; exact op_catT
theorem isiK (h : X.K = K := by rfl) : CallR X (.builtin "isinstance") (rIsi K) := by subst h; exact call_isi
theorem eqDK (hu : X.A.units + 64 < cLine) (h : X.K = K := by rfl) : OpR X (compareOp .Eq) (rEqD K) := by subst h; exact op_eqD hu
theorem neDK (hu : X.A.units + 64 < cLine) (h : X.K = K := by rfl) : OpR X (compareOp .NotEq) (rNeD K) := by subst h; exact op_neD hu
theorem allK (hc : X.calm = true) (h : X.K = K := by rfl) : CallR X (.builtin "all") (rAll K) := by subst h; exact cr_all hc
theorem reprK (hG : X.A.guards = some []) (hu : X.A.units + 64 < cLine) (h : X.K = K := by rfl) : CallR X (.builtin "repr") (rReprD K) := by subst h; exact call_reprD hG hu
theorem lenK (h : X.K = K := by rfl) : CallR X (.builtin "len") (fun xs H Q => ∃ p ys, xs = [.ref p] ∧ (SqL K H p ys ∨ SqT K H p ys) ∧ Q (.int ys.length) H) := by
  subst h; exact call_len_seq
theorem tupK (h : X.K = K := by rfl) : CallR X (.type "tuple") (fun xs H Q => ∃ p ys, xs = [.ref p] ∧ ((SqL K H p ys ∧ ∀ l, H l = none → Q (.ref l) (L2.upd H l (.tup ys))) ∨ (SqT K H p ys ∧ Q (.ref p) H))) := by
  subst h; exact call_tuple_of
theorem lstK (h : X.K = K := by rfl) : CallR X (.type "list") (fun xs H Q => ∃ p ys, xs = [.ref p] ∧ (SqL K H p ys ∨ SqT K H p ys) ∧ ∀ l, H l = none → Q (.ref l) (L2.upd H l (.lst ys))) := by
  subst h; exact call_list_of
end

/-! ### promises of drawing defs -/
/-- _law_draw(stream, many) -/
def spDraw : Sp := fun vs H Q _ => ∃ (S C : Addr) (n : Nat) (m : Int), vs = [.ref S, .int m] ∧ Strm S C n H ∧ n < 1000000 ∧ 0 < m ∧ m < 1000000 ∧
  ∀ (r : Int) (H' : Hp), 0 ≤ r → r < m → Strm S C (n + 1) H' → Fr S C H H' → Q (.int r) H'
/-- f(stream, ..): at most k draws, a new thing of the kind R; A: what is asked of the further arguments -/
def spGet (K : PySem.W.Frag) (k : Nat) (A : List V → Prop) (R : PyData → Prop) : Sp := fun vs H Q _ => ∃ (S C : Addr) (n : Nat) (us : List V), vs = .ref S :: us ∧ A us ∧ Strm S C n H ∧ n + k ≤ 1000000 ∧
  ∀ (v : V) (d : PyData) (H' : Hp), Dp K (newp H H') v d → R d → Strm S C (n + k) H' → Fr S C H H' → Q v H'
/-- a draw by a caller -/
theorem draw_by {S C : Addr} {n : Nat} {m : Int} {H : Hp} {Q : VK} {E : XK} (st : Strm S C n H) (hn : n < 1000000) (h0 : 0 < m) (h1 : m < 1000000)
    (q : ∀ (r : Int) (H' : Hp), 0 ≤ r → r < m → Strm S C (n + 1) H' → Fr S C H H' → Q (.int r) H') : spDraw [.ref S, .int m] H Q E :=
  ⟨S, C, n, m, rfl, st, hn, h0, h1, q⟩
theorem get_by {K : PySem.W.Frag} {k : Nat} {A : List V → Prop} {R : PyData → Prop} {S C : Addr} {n : Nat} {us : List V} {H : Hp} {Q : VK} {E : XK} (st : Strm S C n H) (hn : n + k ≤ 1000000) (a : A us)
    (q : ∀ (v : V) (d : PyData) (H' : Hp), Dp K (newp H H') v d → R d → Strm S C (n + k) H' → Fr S C H H' → Q v H') : spGet K k A R (.ref S :: us) H Q E :=
  ⟨S, C, n, us, rfl, a, st, hn, q⟩
theorem at_int {vs : List V} {r : Int} (h0 : 0 ≤ r) (h1 : r < (vs.length : Int)) : ∃ v, atI vs r = some v ∧ vs[r.toNat]? = some v := by
  have q : r.toNat < vs.length := by omega
  have z : atI vs ((r.toNat : Nat) : Int) = some vs[r.toNat] := atI_nat (List.getElem?_eq_getElem q)
  rw [show ((r.toNat : Nat) : Int) = r by omega] at z
  exact ⟨_, z, List.getElem?_eq_getElem q⟩
/-- [..][draw(stream, m)]: the list is laid, a number drawn, the item taken -/
theorem pick_by {K : PySem.W.Frag} {S C p : Addr} {n : Nat} {m : Int} {vs : List V} {H : Hp} {Q : VK} {E : XK} (st : Strm S C n H) (hn : n < 1000000) (hp : H p = none) (hm : m = (vs.length : Int)) (h0 : 0 < vs.length) (h1 : vs.length < 1000)
    (q : ∀ (v : V) (i : Nat) (H' : Hp), vs[i]? = some v → Strm S C (n + 1) H' → Fr S C H H' → Same (newp H (L2.upd H p (.lst vs))) (newp H H') → Q v H') :
    spDraw [.ref S, .int m] (L2.upd H p (.lst vs)) (fun y H2 => rIxL K (.ref p) y H2 Q) E :=
  draw_by (st.lay hp _) hn (by omega) (by omega) fun r H' r0 r1 s1 f1 => by
    obtain ⟨v, e1, e2⟩ := at_int (vs := vs) r0 (by omega)
    exact ⟨p, vs, r, v, rfl, rfl, SqL.of (st.keep hp f1), e1, q v _ H' e2 s1 ((Fr.lay hp _).trans f1) (newp_fr st f1)⟩

/-! ### the numbers of _law_draw -/
theorem ints_eqv_nil {ns : List Int} : PyData.eqv (.list (ns.map PyData.int)) (.list []) = decide (ns = []) := by
  cases ns <;> simp [PyData.eqv, PyData.eqvAll]
theorem ints_shaped (ns : List Int) : SeqAt.shaped (.list (ns.map PyData.int)) = true := by
  have h1 : PyData.canLayAll0 (ns.map PyData.int) = true := by
    induction ns with
    | nil => rfl
    | cons n r ih => simpa [PyData.canLayAll0, PyData.canLay0] using ih
  have h2 : PyData.depthAll (ns.map PyData.int) = 0 := by
    clear h1
    induction ns with
    | nil => rfl
    | cons n r ih => simp only [List.map_cons, PyData.depthAll, PyData.depth, ih]; rfl
  simp [SeqAt.shaped, PyData.canLay0, PyData.depth, h1, h2]
/-- the mixed number is one of 0 .. m - 1 -/
theorem pow5_ok {x2 x3 : Int} (h3 : 0 ≤ x3) (h3' : x3 < 2147483647) (h2 : 0 ≤ x2) (h2' : x2 ≤ 1000000) : CPow (x3 + 104729 * x2 + 17) 5 := by
  refine ⟨by decide, by decide, ?_⟩
  have e : (2 : Nat) ^ 64 = 18446744073709551616 := by decide
  rw [e]
  omega
theorem sq_small {x2 : Int} (h2 : 0 ≤ x2) (h2' : x2 ≤ 1000000) : 0 ≤ x2 * x2 ∧ x2 * x2 ≤ 1000000000000 := by
  refine ⟨Int.mul_nonneg h2 h2, ?_⟩
  have := Int.mul_le_mul h2' h2' h2 (by decide : (0 : Int) ≤ 1000000)
  simpa using this
theorem pow3_ok {x2 y : Int} (h3 : 0 ≤ y) (h3' : y < 2147483629) (h2 : 0 ≤ x2) (h2' : x2 ≤ 1000000) : CPow (y * 48271 + 40503 * x2 * x2 + 13) 3 := by
  refine ⟨by decide, by decide, ?_⟩
  have e : (2 : Nat) ^ 64 = 18446744073709551616 := by decide
  obtain ⟨s1, s2⟩ := sq_small h2 h2'
  rw [e, Int.mul_assoc]
  generalize x2 * x2 = z at *
  omega
theorem many_div {x m : Int} (h : 0 < m) (h1 : m < 1000000) : CDivW x m := by
  refine wide_div (b := 64) h ?_ (by decide) (by decide)
  have e : (2 : Nat) ^ 64 = 18446744073709551616 := by decide
  rw [e]
  omega
theorem ten18_ok : CPow 10 18 := ⟨by decide, by decide, by decide⟩
theorem DpAll_ints {K : PySem.W.Frag} {H : Hp} : ∀ ns : List Int, DpAll K H (ns.map V.int) (ns.map PyData.int)
  | [] => .nil
  | n :: r => .cons (.int n) (DpAll_ints r)

/-! ### lists of drawn things -/
/-- [f(stream, ..) for k in range(m)], from the new list at D on -/
theorem lc_get {K : PySem.W.Frag} {S C D : Addr} {n k m j : Nat} {R : PyData → Prop} {te : TE} {own : List Nat} {σ : L2.St} {H : Hp} {Qd : Hp → Prop}
    (st : Strm S C n H) (nD : H D = none) (hm : m < 100000) (hw : ∀ v, wipe ((wipe σ own).set j v) own = wipe σ own)
    (elt : ∀ (i : Nat) (H3 : Hp) (q : VK), i < m → Strm S C (n + i * k) H3 →
      (∀ (v : V) (d : PyData) (H4 : Hp), Dp K (newp H3 H4) v d → R d → Strm S C (n + i * k + k) H4 → Fr S C H3 H4 → q v H4) → te ((wipe σ own).set j (some (.int (0 + (i : Int))))) H3 q)
    (done : ∀ (H' : Hp) (vs : List V) (ds : List PyData), H' D = some (.lst vs) → DpAll K (newp (L2.upd H D (.lst [])) H') vs ds → ds.length = m → (∀ d ∈ ds, R d) → Strm S C (n + m * k) H' → Fr S C H H' → Qd H') :
    ∃ W : Nat → Nat → Hp → Prop, (∃ z, W 0 z (L2.upd H D (.lst []))) ∧ ∀ i z H, W i z H → ((Itr 0 m).stop i H ∧ Qd H) ∨
      ((Itr 0 m).go i H ∧ ∃ N : Hp → Prop, (∀ H', N H' → ∃ z', z' < z ∧ W (i + 1) z' H') ∧ ∀ x H', (Itr 0 m).yld i H x H' →
        gName j x (wipe σ own) H' fun σ2 H2 => wipe σ2 own = wipe σ own ∧ tYes σ2 H2 fun b H3 =>
          if b = true then te σ2 H3 fun y H4 => ∃ acc, H4 D = some (.lst acc) ∧ acc.length < sizeLine ∧ N (L2.upd H4 D (.lst (acc ++ [y]))) else N H3) := by
  have neS := st.neS nD
  have neC := st.neC nD
  have tr : (L2.upd H D (.lst [])) D ≠ none := by rw [upd_same]; exact Option.some_ne_none _
  refine lc_range (fun i H' => ∃ (vs : List V) (ds : List PyData), H' D = some (.lst vs) ∧ DpAll K (newp (L2.upd H D (.lst [])) H') vs ds ∧ ds.length = i ∧ (∀ d ∈ ds, R d) ∧ Strm S C (n + i * k) H' ∧ Fr S C H H' ∧ Ext (L2.upd H D (.lst [])) H')
    ⟨[], [], upd_same, .nil, rfl, (fun _ h => nomatch h), by rw [Nat.zero_mul, Nat.add_zero]; exact st.lay nD _, Fr.lay nD _, fun _ h => h⟩ ?_ ?_
  · rintro i H3 hi ⟨vs, ds, e, dp, hl, hR, s3, f3, x3⟩
    refine ⟨hw _, ?_⟩
    unfold tYes
    refine iteT ?_
    refine elt i H3 _ hi s3 fun v d H4 hv hd s4 f4 => ?_
    have e4 : H4 D = some (.lst vs) := cut_keep f4 neS neC e
    refine ⟨vs, e4, ?_, vs ++ [v], ds ++ [d], upd_same, ?_, by rw [List.length_append, hl]; rfl, ?_, ?_, ?_, ?_⟩
    · rw [DpAll_len dp, hl]
      exact Nat.lt_of_lt_of_le hi (Nat.le_trans (Nat.le_of_lt hm) (by decide))
    · refine DpAll_snoc (DpAll_mono ((newp_fr (st.lay nD _) f4).trans (newp_upd tr)) dp) (Dp_mono ((newp_left x3).trans (newp_upd tr)) hv)
    · intro x hx
      rcases List.mem_append.mp hx with hx | hx
      · exact hR x hx
      · rw [List.mem_singleton.mp hx]; exact hd
    · rw [Nat.succ_mul, ← Nat.add_assoc]
      exact s4.upd neS neC _
    · exact Fr.upd (f3.trans f4) nD
    · exact (x3.trans (f4.ext s4)).trans Ext.upd
  · rintro H' ⟨vs, ds, e, dp, hl, hR, s3, f3, x3⟩
    exact done H' vs ds e dp hl hR s3 f3
/-- the region behind the new list lies in what is new -/
theorem DpAll_out {K : PySem.W.Frag} {H H' : Hp} {D : Addr} {o : HO} {vs : List V} {ds : List PyData} (h : DpAll K (newp (L2.upd H D o) H') vs ds) : DpAll K (newp H H') vs ds :=
  DpAll_mono (newp_left Ext.upd) h
theorem nices_of {n b : Nat} : ∀ {ds : List PyData}, (∀ d ∈ ds, Nice n b d) → Nices n (ds.length * (b + 2)) ds
  | [], _ => .nil
  | d :: ds, h => by
    have h1 := Nices.one (h d List.mem_cons_self)
    have h2 := nices_of (n := n) (b := b) fun x hx => h x (List.mem_cons_of_mem _ hx)
    have := h1.append h2
    rw [List.length_cons, Nat.succ_mul, Nat.add_comm]
    exact this
/-- a new list or tuple of new things -/
theorem new_lst {K : PySem.W.Frag} {H H' : Hp} {D : Addr} {vs : List V} {ds : List PyData} (n : H D = none) (e : H' D = some (.lst vs)) (h : DpAll K (newp H H') vs ds) : Dp K (newp H H') (.ref D) (.list ds) :=
  .lst (SqL.of ((newp_of n).trans e)) h
theorem new_tup {K : PySem.W.Frag} {H H' : Hp} {D : Addr} {vs : List V} {ds : List PyData} (n : H D = none) (e : H' D = some (.tup vs)) (h : DpAll K (newp H H') vs ds) : Dp K (newp H H') (.ref D) (.tuple ds) :=
  .tup (SqT.of ((newp_of n).trans e)) h

/-! ### names, paths -/
def nameD : PyData → Bool
  | .str x => decide (1 ≤ x.length) && decide (x.length ≤ 8) && x.cps.toList.all fun c => decide (97 ≤ c) && decide (c ≤ 122)
  | _ => false
def pathD : PyData → Bool
  | .tuple ds => decide (ds.length ≤ 8) && ds.all nameD
  | _ => false
/-- data that can be looked at: its texts are not too long -/
structure Ok (d : PyData) : Prop where
  fine : fine d = true
  big : big d ≤ sizeLine
  depth : d.depth ≤ 60
theorem Nice.ok {n b : Nat} {d : PyData} (h : Nice n b d) (hn : n ≤ 60 := by decide) (hb : b ≤ 16777216 := by decide) : Ok d :=
  ⟨h.fine, Nat.le_trans h.big (by rw [sizeLine_eq]; exact hb), Nat.le_trans h.depth hn⟩
theorem Ok.str {x : Str} (h : Ok (.str x)) : x.length ≤ sizeLine := by
  have := h.big
  simp only [Vn.big] at this
  omega
theorem Ok.item {ds : List PyData} {d : PyData} (h : Ok (.tuple ds)) (hd : d ∈ ds) : Ok d := by
  have h1 := h.fine
  have h2 := h.big
  have h3 := h.depth
  simp only [Vn.fine] at h1
  simp only [Vn.big] at h2
  simp only [PyData.depth] at h3
  have q : Nice 60 sizeLine d := Nices.mem ⟨h1, by omega, by omega⟩ hd
  exact ⟨q.fine, q.big, q.depth⟩
theorem Ok.items {ds : List PyData} {d : PyData} (h : Ok (.list ds)) (hd : d ∈ ds) : Ok d := by
  have h1 := h.fine
  have h2 := h.big
  have h3 := h.depth
  simp only [Vn.fine] at h1
  simp only [Vn.big] at h2
  simp only [PyData.depth] at h3
  have q : Nice 60 sizeLine d := Nices.mem ⟨h1, by omega, by omega⟩ hd
  exact ⟨q.fine, q.big, q.depth⟩
/-- f(thing): answers a bool, all that stood stands -/
def spTell (K : PySem.W.Frag) (f : PyData → Bool) : Sp := fun vs H Q _ => ∃ (v : V) (d : PyData), vs = [v] ∧ Dp K H v d ∧ Ok d ∧ ∀ H', Same H H' → Q (.bl (f d)) H'
theorem lt1 (c b : Nat) : decide ([c] < [b]) = decide (c < b) := by
  congr 1
  simp [List.cons_lt_cons_iff]
theorem sign_az (c : Nat) : ((!decide ([c] < [97])) && (!decide ([122] < [c]))) = (decide (97 ≤ c) && decide (c ≤ 122)) := by
  rw [lt1, lt1]
  by_cases h1 : c < 97 <;> by_cases h2 : 122 < c <;> simp [h1, h2] <;> omega
theorem sign_in (c : Nat) : decide (c ∈ (Str.ofString "abcdefghijklmnopqrstuvwxyz").cps.toList) = (decide (97 ≤ c) && decide (c ≤ 122)) := by
  have e : (Str.ofString "abcdefghijklmnopqrstuvwxyz").cps.toList = List.range' 97 26 := by decide +kernel
  rw [e]
  by_cases h1 : 97 ≤ c <;> by_cases h2 : c ≤ 122 <;> simp [h1, h2, List.mem_range'_1] <;> omega
theorem take_snoc {α : Type} {l : List α} {i : Nat} {x : α} (h : l[i]? = some x) : l.take (i + 1) = l.take i ++ [x] := by
  rw [List.take_add_one, h]
  rfl
/-- a list comprehension over a text whose element is a bool by the sign -/
theorem lc_signs {D j : Nat} {x : Str} {te : TE} {own : List Nat} {σ : L2.St} {H : Hp} {Qd : Hp → Prop} (g : Nat → Bool) (nD : H D = none) (hx : x.length ≤ sizeLine)
    (hw : ∀ v, wipe ((wipe σ own).set j v) own = wipe σ own)
    (elt : ∀ (c : Nat) (H3 : Hp) (q : VK), c ∈ x.cps.toList → q (.bl (g c)) H3 → te ((wipe σ own).set j (some (.str ⟨#[c]⟩))) H3 q)
    (done : ∀ H', Same H H' → H' D = some (.lst ((x.cps.toList.map g).map V.bl)) → Qd H') :
    ∃ W : Nat → Nat → Hp → Prop, (∃ z, W 0 z (L2.upd H D (.lst []))) ∧ ∀ i z H, W i z H → ((Its x).stop i H ∧ Qd H) ∨
      ((Its x).go i H ∧ ∃ N : Hp → Prop, (∀ H', N H' → ∃ z', z' < z ∧ W (i + 1) z' H') ∧ ∀ u H', (Its x).yld i H u H' →
        gName j u (wipe σ own) H' fun σ2 H2 => wipe σ2 own = wipe σ own ∧ tYes σ2 H2 fun b H3 =>
          if b = true then te σ2 H3 fun y H4 => ∃ acc, H4 D = some (.lst acc) ∧ acc.length < sizeLine ∧ N (L2.upd H4 D (.lst (acc ++ [y]))) else N H3) := by
  refine lc_it walk_str (fun i H' => Same H H' ∧ H' D = some (.lst (((x.cps.toList.take i).map g).map V.bl))) ⟨same_new nD _, upd_same⟩ (fun _ _ _ _ => trivial) ?_ ?_
  · rintro i v H3 H4 hi ⟨s3, e3⟩ ⟨rfl, c, ec, rfl⟩
    refine ⟨hw _, ?_⟩
    unfold tYes
    refine iteT ?_
    have ec' : x.cps.toList[i]? = some c := by rw [Array.getElem?_toList]; exact ec
    refine elt c _ _ (List.mem_of_getElem? ec') ⟨_, e3, ?_, ?_, ?_⟩
    · rw [List.length_map, List.length_map, List.length_take]
      have h1 : x.length = x.cps.size := rfl
      omega
    · exact fun b o q => by
        rw [upd_ne (ne_of_none q nD)]
        exact s3 b o q
    · rw [upd_same, take_snoc ec', List.map_append, List.map_append]
      rfl
  · rintro H' ⟨s3, e3⟩
    refine done H' s3 ?_
    rw [e3, List.take_of_length_le (by rw [Array.length_toList]; exact Nat.le_refl _)]
/-- a list comprehension over a tuple of data whose element is a bool by the item -/
theorem lc_items {K : PySem.W.Frag} {D j : Nat} {a : Addr} {xs : List V} {ds : List PyData} {te : TE} {own : List Nat} {σ : L2.St} {H : Hp} {Qd : Hp → Prop} (g : PyData → Bool) (nD : H D = none)
    (hq : SqT K H a xs) (dp : DpAll K H xs ds) (hl : ds.length ≤ sizeLine) (hw : ∀ v, wipe ((wipe σ own).set j v) own = wipe σ own)
    (elt : ∀ (v : V) (d : PyData) (H3 : Hp) (q : VK), d ∈ ds → Dp K H3 v d → Same H H3 → (∀ H4, Same H3 H4 → q (.bl (g d)) H4) → te ((wipe σ own).set j (some v)) H3 q)
    (done : ∀ H', Same H H' → H' D = some (.lst ((ds.map g).map V.bl)) → Qd H') :
    ∃ W : Nat → Nat → Hp → Prop, (∃ z, W 0 z (L2.upd H D (.lst []))) ∧ ∀ i z H, W i z H → ((Itt K a).stop i H ∧ Qd H) ∨
      ((Itt K a).go i H ∧ ∃ N : Hp → Prop, (∀ H', N H' → ∃ z', z' < z ∧ W (i + 1) z' H') ∧ ∀ u H', (Itt K a).yld i H u H' →
        gName j u (wipe σ own) H' fun σ2 H2 => wipe σ2 own = wipe σ own ∧ tYes σ2 H2 fun b H3 =>
          if b = true then te σ2 H3 fun y H4 => ∃ acc, H4 D = some (.lst acc) ∧ acc.length < sizeLine ∧ N (L2.upd H4 D (.lst (acc ++ [y]))) else N H3) := by
  have hlen := DpAll_len dp
  refine lc_tup (xs := xs) (fun i H' => Same H H' ∧ H' D = some (.lst (((ds.take i).map g).map V.bl))) ⟨same_new nD _, upd_same⟩ (fun i H' _ p => Same.seqT p.1 hq) ?_ ?_
  · rintro i v H3 hv ⟨s3, e3⟩
    refine ⟨hw _, ?_⟩
    unfold tYes
    refine iteT ?_
    obtain ⟨d, hd, hvd⟩ := DpAll_get i dp hv
    refine elt v d _ _ (List.mem_of_getElem? hd) (Dp_mono s3 hvd) s3 fun H4 s4 => ⟨_, s4 _ _ e3, ?_, ?_, ?_⟩
    · rw [List.length_map, List.length_map, List.length_take]
      have := (List.getElem?_eq_some_iff.mp hd).1
      omega
    · exact fun b o q => by
        rw [upd_ne (ne_of_none q nD)]
        exact s4 _ _ (s3 b o q)
    · rw [upd_same, take_snoc hd, List.map_append, List.map_append]
      rfl
  · rintro H' ⟨s3, e3⟩
    refine done H' s3 ?_
    rw [e3, hlen, List.take_of_length_le (Nat.le_refl _)]

/-- _law_same(found, due): are both shown by one text? -/
def spSame (K : PySem.W.Frag) : Sp := fun vs H Q _ => ∃ (v u : V) (d e : PyData), vs = [v, u] ∧ Dp K H v d ∧ Dp K H u e ∧ Ok d ∧ Ok e ∧ Q (.bl (decide (d.shown = e.shown))) H
theorem str_dec (a b : Str) : decide (V.str a = V.str b) = decide (a = b) := by
  by_cases h : a = b
  · subst h
    simp
  · have q : ¬ V.str a = V.str b := fun z => h (V.str.inj z)
    rw [decide_eq_false h, decide_eq_false q]
theorem repr_by {K : PySem.W.Frag} {v : V} {d : PyData} {H : Hp} {Q : VK} (h : Dp K H v d) (ok : Ok d) (q : Q (.str d.shown) H) : rReprD K [v] H Q := by
  obtain ⟨h1, h2, h3⟩ := shown_big d ok.fine
  exact ⟨v, d, rfl, h, h1, h2, ok.depth, Nat.le_trans h3 ok.big, q⟩

/-! ### texts -/
/-- every sign can be shown -/
def okStr (x : Str) : Prop := ∀ c ∈ x.cps.toList, c < 1114112
theorem Nice.str {n b : Nat} {x : Str} (h : okStr x) (hb : 10 * x.length + 2 ≤ b) : Nice n b (.str x) := by
  refine ⟨?_, Nat.zero_le _, hb⟩
  simp only [Vn.fine, List.all_eq_true, decide_eq_true_eq]
  exact h
theorem okStr_app {x y : Str} (h : okStr x) (g : okStr y) : okStr (x ++ y) := fun c hc => by
  have e : (x ++ y).cps.toList = x.cps.toList ++ y.cps.toList := Array.toList_append
  rw [e] at hc
  exact (List.mem_append.mp hc).elim (h c) (g c)
theorem len_app (x y : Str) : (x ++ y).length = x.length + y.length := Array.size_append
theorem okStr_cut {x : Str} (h : okStr x) (lo hi : Option Int) : okStr (cutS x lo hi) := fun c hc => by
  unfold cutS at hc
  exact h c (List.mem_of_mem_drop (List.mem_of_mem_take (by simpa using hc)))
/-- letters a to z alone -/
def azStr (x : Str) : Prop := ∀ c ∈ x.cps.toList, 97 ≤ c ∧ c ≤ 122
theorem azStr.ok {x : Str} (h : azStr x) : okStr x := fun c hc => Nat.lt_of_le_of_lt (h c hc).2 (by decide)
theorem joined {m : Nat} : ∀ {ys : List Str}, ys.length = m → (∀ y ∈ ys, y.length = 1 ∧ azStr y) → (Str.join (Str.ofString "") ys).length = m ∧ azStr (Str.join (Str.ofString "") ys)
  | [], h, _ => ⟨h, fun c hc => by
      have e : (Str.join (Str.ofString "") []).cps.toList = [] := by decide +kernel
      rw [e] at hc
      exact nomatch hc⟩
  | [y], h, g => by
    have e : Str.join (Str.ofString "") [y] = y := rfl
    rw [e]
    obtain ⟨a, b⟩ := g y List.mem_cons_self
    exact ⟨a.trans h, b⟩
  | y :: z :: r, h, g => by
    obtain ⟨a, b⟩ := g y List.mem_cons_self
    obtain ⟨c, d⟩ := joined (ys := z :: r) rfl fun u hu => g u (List.mem_cons_of_mem _ hu)
    have e : Str.join (Str.ofString "") (y :: z :: r) = y ++ Str.ofString "" ++ Str.join (Str.ofString "") (z :: r) := rfl
    have e0 : (Str.ofString "").length = 0 := by decide +kernel
    have e1 : (Str.ofString "").cps.toList = [] := by decide +kernel
    refine ⟨?_, fun c hc => ?_⟩
    · rw [e, len_app, len_app, a, c, e0, ← h]
      simp only [List.length_cons]
      omega
    · have q : (y ++ Str.ofString "" ++ Str.join (Str.ofString "") (z :: r)).cps.toList = (y.cps.toList ++ (Str.ofString "").cps.toList) ++ (Str.join (Str.ofString "") (z :: r)).cps.toList := by
        rw [show (y ++ Str.ofString "" ++ Str.join (Str.ofString "") (z :: r)).cps.toList = (y ++ Str.ofString "").cps.toList ++ _ from Array.toList_append, show (y ++ Str.ofString "").cps.toList = _ from Array.toList_append]
      rw [e, q, e1, List.append_nil] at hc
      exact (List.mem_append.mp hc).elim (b c) (d c)
/-- texts of one sign as values -/
theorem strs_of {K : PySem.W.Frag} {H : Hp} : ∀ {vs : List V} {ds : List PyData}, DpAll K H vs ds → (∀ d ∈ ds, ∃ x, d = .str x ∧ x.length = 1 ∧ azStr x) →
    ∃ ys : List Str, vs = ys.map V.str ∧ ys.length = ds.length ∧ ∀ y ∈ ys, y.length = 1 ∧ azStr y
  | _, _, .nil, _ => ⟨[], rfl, rfl, fun _ h => nomatch h⟩
  | _, _, .cons h r, g => by
    obtain ⟨x, rfl, hx⟩ := g _ List.mem_cons_self
    cases h
    obtain ⟨ys, rfl, hl, hy⟩ := strs_of r fun d hd => g d (List.mem_cons_of_mem _ hd)
    exact ⟨x :: ys, rfl, by rw [List.length_cons, List.length_cons, hl], fun y hm => by
      cases hm with
      | head => exact hx
      | tail _ m => exact hy y m⟩
/-- _law_letters(stream, many) -/
def spLetters : Sp := fun vs H Q _ => ∃ (S C : Addr) (n m : Nat), vs = [.ref S, .int (m : Int)] ∧ m ≤ 100 ∧ Strm S C n H ∧ n + m ≤ 1000000 ∧
  ∀ (x : Str) (H' : Hp), x.length = m → azStr x → Strm S C (n + m) H' → Fr S C H H' → Q (.str x) H'
theorem letters_by {S C : Addr} {n : Nat} {i : Int} (m : Nat) {H : Hp} {Q : VK} {E : XK} (st : Strm S C n H) (hi : i = (m : Int)) (hm : m ≤ 100) (hn : n + m ≤ 1000000)
    (q : ∀ (x : Str) (H' : Hp), x.length = m → azStr x → Strm S C (n + m) H' → Fr S C H H' → Q (.str x) H') : spLetters [.ref S, .int i] H Q E :=
  ⟨S, C, n, m, by rw [hi], hm, st, hn, q⟩
def kT : Nat → Nat
  | 0 => 3
  | m + 1 => 3 * kT m + 5
def bT : Nat → Nat
  | 0 => 2100
  | m + 1 => 3 * (bT m + 2) + 3
abbrev spThing (K : PySem.W.Frag) (m : Nat) : Sp := spGet K (kT m) (fun us => us = [.int (m : Int)]) (Nice (m + 1) (bT m))
/-- a thing of _law_thing's own list -/
theorem some_thing {K : PySem.W.Frag} {H : Hp} {p1 p2 p3 p4 : Addr} (n1 : H p1 = some (.tup [])) (n2 : H p2 = some (.lst [])) (n3 : H p3 = some (.tup [.str "a"])) (n4 : H p4 = some (.lst [.str "a"])) :
    DpAll K H [V.non, V.bl true, V.bl false, V.int 0, V.int 1, V.int (-7), V.int (10 ^ 30 - 1), V.str "", V.str "link", V.str "a", V.str "on", V.ref p1, V.ref p2, V.ref p3, V.ref p4, V.str "A", V.str "b c"]
      [.none, .bool true, .bool false, .int 0, .int 1, .int (-7), .int (10 ^ 30 - 1), .str "", .str "link", .str "a", .str "on", .tuple [], .list [], .tuple [.str "a"], .list [.str "a"], .str "A", .str "b c"] :=
  .cons .non (.cons (.bl _) (.cons (.bl _) (.cons (.int _) (.cons (.int _) (.cons (.int _) (.cons (.int _) (.cons (.str _) (.cons (.str _) (.cons (.str _) (.cons (.str _)
    (.cons (.tup (SqT.of n1) .nil) (.cons (.lst (SqL.of n2) .nil) (.cons (.tup (SqT.of n3) (.cons (.str _) .nil)) (.cons (.lst (SqL.of n4) (.cons (.str _) .nil)) (.cons (.str _) (.cons (.str _) .nil))))))))))))))))
theorem some_nice : ∀ d ∈ ([.none, .bool true, .bool false, .int 0, .int 1, .int (-7), .int (10 ^ 30 - 1), .str "", .str "link", .str "a", .str "on", .tuple [], .list [], .tuple [.str "a"], .list [.str "a"], .str "A", .str "b c"] : List PyData),
    fine d = true ∧ d.depth ≤ 1 ∧ big d ≤ 2100 := by
  intro d hd
  simp only [List.mem_cons, List.not_mem_nil, or_false] at hd
  rcases hd with rfl | rfl | rfl | rfl | rfl | rfl | rfl | rfl | rfl | rfl | rfl | rfl | rfl | rfl | rfl | rfl | rfl <;> exact ⟨by decide +kernel, by decide +kernel, by decide +kernel⟩
theorem bigs_take_drop (ds : List PyData) (i : Nat) : bigs (ds.take i) + bigs (ds.drop i) = bigs ds := by rw [← bigs_append, List.take_append_drop]
theorem fines_take_drop (ds : List PyData) (i : Nat) : (fines (ds.take i) && fines (ds.drop i)) = fines ds := by rw [← fines_append, List.take_append_drop]
theorem depth_take_drop (ds : List PyData) (i : Nat) : max (PyData.depthAll (ds.take i)) (PyData.depthAll (ds.drop i)) = PyData.depthAll ds := by rw [← depthAll_append, List.take_append_drop]
theorem Nices.take {n b : Nat} {ds : List PyData} (h : Nices n b ds) (i : Nat) : Nices n b (ds.take i) := by
  have h1 := fines_take_drop ds i
  rw [h.fine, Bool.and_eq_true] at h1
  have h2 := depth_take_drop ds i
  have h3 := bigs_take_drop ds i
  have := h.depth
  have := h.big
  exact ⟨h1.1, by omega, by omega⟩
theorem Nices.drop {n b : Nat} {ds : List PyData} (h : Nices n b ds) (i : Nat) : Nices n b (ds.drop i) := by
  have h1 := fines_take_drop ds i
  rw [h.fine, Bool.and_eq_true] at h1
  have h2 := depth_take_drop ds i
  have h3 := bigs_take_drop ds i
  have := h.depth
  have := h.big
  exact ⟨h1.2, by omega, by omega⟩
theorem Nices.insert {n b c : Nat} {ds : List PyData} {d : PyData} (h : Nices n b ds) (g : Nice n c d) (i : Nat) : Nices n (b + (c + 2)) (ds.take i ++ [d] ++ ds.drop i) := by
  have h1 := fines_take_drop ds i
  rw [h.fine, Bool.and_eq_true] at h1
  have h2 := depth_take_drop ds i
  have h3 := bigs_take_drop ds i
  have := h.depth
  have := h.big
  have := g.depth
  have := g.big
  refine ⟨?_, ?_, ?_⟩
  · rw [fines_append, fines_append]
    simp [fines, h1.1, h1.2, g.fine]
  · rw [depthAll_append, depthAll_append]
    simp only [PyData.depthAll]
    omega
  · rw [bigs_append, bigs_append]
    simp only [bigs]
    omega
theorem Nices.set {n b c : Nat} {ds : List PyData} {d : PyData} (h : Nices n b ds) (g : Nice n c d) (i : Nat) : Nices n (b + (c + 2)) (ds.set i d) := by
  by_cases hi : i < ds.length
  · have e : ds.set i d = ds.take i ++ [d] ++ ds.drop (i + 1) := by
      rw [List.set_eq_take_append_cons_drop, if_pos hi, List.append_assoc]
      rfl
    rw [e]
    have q := (h.take i).append (.one g)
    have r := h.drop (i + 1)
    have h2 := bigs_take_drop ds i
    have h3 : bigs (ds.drop (i + 1)) ≤ bigs (ds.drop i) := by
      have := bigs_take_drop (ds.drop i) 1
      rw [List.drop_drop] at this
      omega
    have := h.big
    have := g.big
    refine ⟨?_, ?_, ?_⟩
    · rw [fines_append, q.fine, r.fine]; rfl
    · rw [depthAll_append]; exact Nat.max_le.mpr ⟨q.depth, r.depth⟩
    · rw [bigs_append, bigs_append]
      simp only [bigs]
      omega
  · rw [List.set_eq_of_length_le (by omega)]
    exact h.mono (Nat.le_refl _) (by omega)
theorem Nices.erase {n b : Nat} {ds : List PyData} (h : Nices n b ds) (i : Nat) : Nices n (b + b) (ds.eraseIdx i) := by
  rw [List.eraseIdx_eq_take_drop_succ]
  exact (h.take i).append (h.drop (i + 1))
theorem DpAll_set {K : PySem.W.Frag} {H : Hp} {v : V} {d : PyData} (g : Dp K H v d) : ∀ {ds : List PyData} {vs : List V} (i : Nat), DpAll K H vs ds → DpAll K H (vs.set i v) (ds.set i d)
  | _, _, _, .nil => .nil
  | _, _, 0, .cons _ r => .cons g r
  | _, _, i + 1, .cons a r => .cons a (DpAll_set g i r)
theorem DpAll_erase {K : PySem.W.Frag} {H : Hp} : ∀ {ds : List PyData} {vs : List V} (i : Nat), DpAll K H vs ds → DpAll K H (vs.eraseIdx i) (ds.eraseIdx i)
  | _, _, _, .nil => .nil
  | _, _, 0, .cons _ r => r
  | _, _, i + 1, .cons a r => .cons a (DpAll_erase i r)
theorem item_nice {n b : Nat} {K : PySem.W.Frag} {H : Hp} {vs : List V} {ds : List PyData} {i : Nat} {v : V} (h : DpAll K H vs ds) (g : Nices n b ds) (e : vs[i]? = some v) : ∃ d, Dp K H v d ∧ Nice n b d := by
  obtain ⟨d, hd, hv⟩ := DpAll_get i h e
  exact ⟨d, hv, g.mem (List.mem_of_getElem? hd)⟩
theorem ext_laid {S C D : Addr} {n : Nat} {H H' : Hp} {o u : HO} (s : Strm S C n H') (f : Fr S C H H') (e : H' D = some u) : Ext (L2.upd H D o) H' := fun a h => by
  have hn : a ≠ D := fun z => by
    rw [z, e] at h
    cases h
  rw [upd_ne hn]
  exact f.ext s a h
/-- a new object D beside new things: what is new but for D -/
theorem side {S C D : Addr} {n1 n2 : Nat} {H1 H2 : Hp} (s1 : Strm S C n1 H1) (s2 : Strm S C n2 H2) (f : Fr S C H1 H2) (nD : H2 D = none) (o : HO) :
    ∃ G, Ext H1 G ∧ G D ≠ none ∧ Strm S C n1 G ∧ Same (newp H1 H2) (newp G (L2.upd H2 D o)) ∧ Ext G (L2.upd H2 D o) := by
  have n1D : H1 D = none := Fr.ext s2 f D nD
  refine ⟨L2.upd H1 D (.lst []), Ext.upd, by rw [upd_same]; exact Option.some_ne_none _, s1.lay n1D _, fun a u h => ?_, fun a h => ?_⟩
  · obtain ⟨h1, h2⟩ := newp_some h
    have hn : a ≠ D := ne_of_none h2 nD
    rw [newp_of (by rw [upd_ne hn]; exact h1), upd_ne hn]
    exact h2
  · by_cases e : a = D
    · rw [e, upd_same] at h
      cases h
    · rw [upd_ne e] at h ⊢
      exact Fr.ext s2 f a h
theorem ix0 {n : Nat} (h : 0 < n) : ixN n 0 = some 0 := by simp [ixN, h]
theorem seqIx {n : Nat} {i : Int} (h0 : 0 ≤ i) (h : i < (n : Int)) : seqIndex? i n = some i.toNat := by
  have q : ixN n i = some i.toNat := by
    unfold ixN
    rw [if_pos h0, if_pos h]
  exact (ixN_seq q).1
end Vn

set_option Elab.async false
set_option linter.all false
set_option maxRecDepth 100000
set_option maxHeartbeats 4000000
/-! Vn: values, links: what is shown by 'link'; == of data. -/
namespace Vn
open PySem PySem.Spec PyProof.Rows L2

mutual
theorem lay_of : ∀ d : PyData, fine d = true → d.canLay0 = true
  | .none, _ => by simp only [PyData.canLay0]
  | .bool _, _ => by simp only [PyData.canLay0]
  | .int _, _ => by simp only [PyData.canLay0]
  | .str x, h => by
    simp only [Vn.fine, List.all_eq_true, decide_eq_true_eq] at h
    simp only [PyData.canLay0, PyData.strOk, Array.all_eq_true', decide_eq_true_eq]
    exact fun c hc => h c (Array.mem_toList_iff.mpr hc)
  | .list xs, h => by
    simp only [Vn.fine] at h
    simp only [PyData.canLay0]
    exact lays_of xs h
  | .tuple xs, h => by
    simp only [Vn.fine] at h
    simp only [PyData.canLay0]
    exact lays_of xs h
  | .dict _, h => by simp [Vn.fine] at h
theorem lays_of : ∀ ds : List PyData, fines ds = true → PyData.canLayAll0 ds = true
  | [], _ => by simp only [PyData.canLayAll0]
  | d :: ds, h => by
    simp only [Vn.fines, Bool.and_eq_true] at h
    simp only [PyData.canLayAll0, lay_of d h.1, lays_of ds h.2]
    rfl
end
theorem Ok.shaped {d : PyData} (h : Ok d) : SeqAt.shaped d = true := by
  unfold SeqAt.shaped
  rw [lay_of d h.fine, decide_eq_true (Nat.le_trans h.depth (by decide))]
  rfl
theorem str_ext {x y : Str} (h : x.cps.toList = y.cps.toList) : x = y := by
  cases x
  cases y
  congr 1
  exact Array.toList_inj.mp h
/-- the signs of a text's repr -/
theorem fold_signs (f : Nat → List Nat) : ∀ (l : List Nat) (acc : Array Nat), (l.foldl (fun out c => out ++ (f c).toArray) acc).toList = acc.toList ++ l.flatMap f
  | [], acc => by simp
  | c :: r, acc => by
    rw [List.foldl_cons, fold_signs f r, List.flatMap_cons]
    simp
theorem repr_signs (x : Str) : (reprText x).cps.toList = reprQuote x :: (x.cps.toList.flatMap (Builtin.Str.reprChar (reprQuote x)) ++ [reprQuote x]) := by
  unfold reprText
  rw [Array.toList_push, ← Array.foldl_toList, fold_signs]
  simp
theorem sign_shown (q c : Nat) : Builtin.Str.reprChar q c = [c] ∨ 92 ∈ Builtin.Str.reprChar q c := by
  unfold Builtin.Str.reprChar
  split
  · exact .inr List.mem_cons_self
  split
  · exact .inr List.mem_cons_self
  split
  · exact .inr List.mem_cons_self
  split
  · exact .inr List.mem_cons_self
  split
  · exact .inl rfl
  split
  · exact .inr List.mem_cons_self
  split
  · exact .inr List.mem_cons_self
  · exact .inr List.mem_cons_self
theorem signs_plain (q : Nat) : ∀ l : List Nat, 92 ∉ l.flatMap (Builtin.Str.reprChar q) → l.flatMap (Builtin.Str.reprChar q) = l
  | [], _ => rfl
  | c :: r, h => by
    rw [List.flatMap_cons] at h ⊢
    have h1 : 92 ∉ Builtin.Str.reprChar q c := fun m => h (List.mem_append_left _ m)
    have h2 : 92 ∉ r.flatMap (Builtin.Str.reprChar q) := fun m => h (List.mem_append_right _ m)
    rw [signs_plain q r h2, (sign_shown q c).resolve_right h1]
    rfl
theorem link_signs : (PyData.str (Str.ofString "link")).shown.cps.toList = [39, 108, 105, 110, 107, 39] := by decide +kernel
theorem shown_link {d : PyData} (hf : fine d = true) : decide (d.shown = (PyData.str (Str.ofString "link")).shown) = PyData.eqv d (.str (Str.ofString "link")) := by
  have key : ∀ {l : List Nat}, d.shown.cps.toList = l → l ≠ [39, 108, 105, 110, 107, 39] → decide (d.shown = (PyData.str (Str.ofString "link")).shown) = false := fun e n =>
    decide_eq_false fun z => n (by rw [← e, z, link_signs])
  cases d with
  | none => rw [key (l := [78, 111, 110, 101]) (by decide +kernel) (by decide)]; rfl
  | bool b => cases b <;> (rw [key rfl (by decide +kernel)]; simp only [PyData.eqv])
  | int i =>
    rw [decide_eq_false fun z => (shown_int_free_39 i).mp (by rw [z, link_signs]; exact List.mem_cons_self)]
    simp only [PyData.eqv]
  | list xs =>
    rw [decide_eq_false fun z => ?_]
    · simp only [PyData.eqv]
    · obtain ⟨l, e⟩ : ∃ l, (PyData.list xs).shown.cps.toList = 91 :: l := by
        simp only [PyData.shown, listText_eq_join]
        rw [cps_toList_append, cps_toList_append, signs_lbrack]
        exact ⟨_, rfl⟩
      rw [z, link_signs] at e
      cases e
  | tuple xs =>
    rw [decide_eq_false fun z => ?_]
    · simp only [PyData.eqv]
    · obtain ⟨l, e⟩ : ∃ l, (PyData.tuple xs).shown.cps.toList = 40 :: l := by
        simp only [PyData.shown, tupleText]
        rw [cps_toList_append, cps_toList_append, signs_lparen]
        exact ⟨_, rfl⟩
      rw [z, link_signs] at e
      cases e
  | dict _ => simp [Vn.fine] at hf
  | str x =>
    simp only [PyData.eqv]
    by_cases h : x = Str.ofString "link"
    · subst h
      simp
    · rw [decide_eq_false fun z => h (str_ext ?_)]
      · simp [h]
      · have e := link_signs
        rw [← z] at e
        simp only [PyData.shown] at e
        rw [repr_signs] at e
        have q39 : reprQuote x = 39 := (List.cons.inj e).1
        rw [q39] at e
        have e2 : x.cps.toList.flatMap (Builtin.Str.reprChar 39) = [108, 105, 110, 107] := List.append_cancel_right (as := x.cps.toList.flatMap (Builtin.Str.reprChar 39)) (bs := [39]) (cs := [108, 105, 110, 107]) (List.cons.inj e).2
        rw [signs_plain 39 _ (by rw [e2]; decide)] at e2
        rw [e2]
        decide +kernel
theorem int_dec (a b : Int) : decide (V.int a = V.int b) = decide (a = b) := by
  by_cases h : a = b
  · subst h
    simp
  · rw [decide_eq_false h, decide_eq_false fun z => h (V.int.inj z)]
/-- a list comprehension over a list of data whose element is a bool by the item -/
theorem lc_itemsL {K : PySem.W.Frag} {D j : Nat} {a : Addr} {xs : List V} {ds : List PyData} {te : TE} {own : List Nat} {σ : L2.St} {H : Hp} {Qd : Hp → Prop} (g : PyData → Bool) (nD : H D = none)
    (hq : SqL K H a xs) (dp : DpAll K H xs ds) (hl : ds.length ≤ sizeLine) (hw : ∀ v, wipe ((wipe σ own).set j v) own = wipe σ own)
    (elt : ∀ (v : V) (d : PyData) (H3 : Hp) (q : VK), d ∈ ds → Dp K H3 v d → Same H H3 → (∀ H4, Same H3 H4 → q (.bl (g d)) H4) → te ((wipe σ own).set j (some v)) H3 q)
    (done : ∀ H', Same H H' → H' D = some (.lst ((ds.map g).map V.bl)) → Qd H') :
    ∃ W : Nat → Nat → Hp → Prop, (∃ z, W 0 z (L2.upd H D (.lst []))) ∧ ∀ i z H, W i z H → ((Itl K a).stop i H ∧ Qd H) ∨
      ((Itl K a).go i H ∧ ∃ N : Hp → Prop, (∀ H', N H' → ∃ z', z' < z ∧ W (i + 1) z' H') ∧ ∀ u H', (Itl K a).yld i H u H' →
        gName j u (wipe σ own) H' fun σ2 H2 => wipe σ2 own = wipe σ own ∧ tYes σ2 H2 fun b H3 =>
          if b = true then te σ2 H3 fun y H4 => ∃ acc, H4 D = some (.lst acc) ∧ acc.length < sizeLine ∧ N (L2.upd H4 D (.lst (acc ++ [y]))) else N H3) := by
  have hlen := DpAll_len dp
  refine lc_list (xs := xs) (fun i H' => Same H H' ∧ H' D = some (.lst (((ds.take i).map g).map V.bl))) ⟨same_new nD _, upd_same⟩ (fun i H' _ p => Same.seq p.1 hq) ?_ ?_
  · rintro i v H3 hv ⟨s3, e3⟩
    refine ⟨hw _, ?_⟩
    unfold tYes
    refine iteT ?_
    obtain ⟨d, hd, hvd⟩ := DpAll_get i dp hv
    refine elt v d _ _ (List.mem_of_getElem? hd) (Dp_mono s3 hvd) s3 fun H4 s4 => ⟨_, s4 _ _ e3, ?_, ?_, ?_⟩
    · rw [List.length_map, List.length_map, List.length_take]
      have := (List.getElem?_eq_some_iff.mp hd).1
      omega
    · exact fun b o q => by
        rw [upd_ne (ne_of_none q nD)]
        exact s4 _ _ (s3 b o q)
    · rw [upd_same, take_snoc hd, List.map_append, List.map_append]
      rfl
  · rintro H' ⟨s3, e3⟩
    refine done H' s3 ?_
    rw [e3, hlen, List.take_of_length_le (Nat.le_refl _)]

/-- [f(thing) for k in range(m)], all that stood stands -/
theorem lc_again {D j m : Nat} {b : Bool} {te : TE} {own : List Nat} {σ : L2.St} {H : Hp} {Qd : Hp → Prop} (nD : H D = none) (hm : m < 1000)
    (hw : ∀ v, wipe ((wipe σ own).set j v) own = wipe σ own)
    (elt : ∀ (i : Nat) (H3 : Hp) (q : VK), Same H H3 → (∀ H4, Same H3 H4 → q (.bl b) H4) → te ((wipe σ own).set j (some (.int (0 + (i : Int))))) H3 q)
    (done : ∀ H', Same H H' → H' D = some (.lst (List.replicate m (V.bl b))) → Qd H') :
    ∃ W : Nat → Nat → Hp → Prop, (∃ z, W 0 z (L2.upd H D (.lst []))) ∧ ∀ i z H, W i z H → ((Itr 0 m).stop i H ∧ Qd H) ∨
      ((Itr 0 m).go i H ∧ ∃ N : Hp → Prop, (∀ H', N H' → ∃ z', z' < z ∧ W (i + 1) z' H') ∧ ∀ u H', (Itr 0 m).yld i H u H' →
        gName j u (wipe σ own) H' fun σ2 H2 => wipe σ2 own = wipe σ own ∧ tYes σ2 H2 fun b H3 =>
          if b = true then te σ2 H3 fun y H4 => ∃ acc, H4 D = some (.lst acc) ∧ acc.length < sizeLine ∧ N (L2.upd H4 D (.lst (acc ++ [y]))) else N H3) := by
  refine lc_range (fun i H' => Same H H' ∧ H' D = some (.lst (List.replicate i (V.bl b)))) ⟨same_new nD _, upd_same⟩ ?_ ?_
  · rintro i H3 hi ⟨s3, e3⟩
    refine ⟨hw _, ?_⟩
    unfold tYes
    refine iteT ?_
    refine elt i _ _ s3 fun H4 s4 => ⟨_, s4 _ _ e3, ?_, ?_, ?_⟩
    · rw [List.length_replicate]
      exact Nat.lt_of_lt_of_le hi (Nat.le_trans (Nat.le_of_lt hm) (by decide))
    · exact fun c o q => by
        rw [upd_ne (ne_of_none q nD)]
        exact s4 _ _ (s3 c o q)
    · rw [upd_same, List.replicate_succ']
  · rintro H' ⟨s3, e3⟩
    exact done H' s3 e3
theorem DpAll_bools {K : PySem.W.Frag} {H : Hp} : ∀ bs : List Bool, DpAll K H (bs.map V.bl) (bs.map PyData.bool)
  | [] => .nil
  | b :: r => .cons (.bl b) (DpAll_bools r)
/-- values -/
def linkD : PyData → Bool
  | .tuple [a, p] => PyData.eqv a (.str (Str.ofString "link")) && pathD p
  | _ => false
def intD : PyData → Bool
  | .int _ => true
  | _ => false
theorem linkD_not {ds : List PyData} (h : ds.length ≠ 2) : linkD (.tuple ds) = false := by
  match ds with
  | [] => rfl
  | [_] => rfl
  | [_, _] => exact absurd rfl h
  | _ :: _ :: _ :: _ => rfl
theorem two_of {K : PySem.W.Frag} {H : Hp} {xs : List V} {ds : List PyData} (h : DpAll K H xs ds) (e : xs.length = 2) : ∃ x y d0 d1, xs = [x, y] ∧ ds = [d0, d1] ∧ Dp K H x d0 ∧ Dp K H y d1 := by
  cases h with
  | nil => cases e
  | cons a r =>
    cases r with
    | nil => cases e
    | cons b r =>
      cases r with
      | nil => exact ⟨_, _, _, _, rfl, rfl, a, b⟩
      | cons _ _ => simp at e
theorem ne_two {n : Nat} (c : (!decide (V.int (n : Int) = V.int 2)) = true) : n ≠ 2 := fun e => by
  subst e
  simp at c
theorem is_two {n : Nat} (c : ¬ (!decide (V.int (n : Int) = V.int 2)) = true) : n = 2 := by
  rw [int_dec] at c
  simp at c
  omega
theorem is_two' {n : Nat} (c : decide (V.int (n : Int) = V.int 2) = true) : n = 2 := by
  rw [int_dec] at c
  simp at c
  omega
theorem ne_two' {n : Nat} (c : ¬ decide (V.int (n : Int) = V.int 2) = true) : n ≠ 2 := fun e => by
  subst e
  simp at c
theorem link_shaped : SeqAt.shaped (.str (Str.ofString "link")) = true := by decide +kernel
theorem link_ok : Ok (.str (Str.ofString "link")) := ⟨by decide +kernel, by decide +kernel, by decide +kernel⟩
def valueD (d : PyData) : Bool := intD d || (nameD d || linkD d)
end Vn

set_option Elab.async false
set_option linter.all false
set_option maxRecDepth 100000
set_option maxHeartbeats 8000000
namespace Vn
open PySem PySem.Spec PyProof.Rows L2
/-! ### the text by places -/
def topS (i : Nat) : Stmt := PySem.Challenge.pw_variantnest_k04_values.main.body.getD i (.Pass ⟨0, 0, 0, 0⟩)
abbrev s_is_name : Stmt := topS 3
theorem sc_is_name : FnScope ["value", "sign"] ["value"] (defScope s_is_name) :=
  ⟨rfl, rfl, rfl, by decide +kernel, rfl, by decide +kernel, by decide +kernel⟩
abbrev s_is_path : Stmt := topS 4
theorem sc_is_path : FnScope ["value", "name"] ["value"] (defScope s_is_path) :=
  ⟨rfl, rfl, rfl, by decide +kernel, rfl, by decide +kernel, by decide +kernel⟩
abbrev s_is_value : Stmt := topS 5
theorem sc_is_value : FnScope ["value"] ["value"] (defScope s_is_value) :=
  ⟨rfl, rfl, rfl, by decide +kernel, rfl, by decide +kernel, by decide +kernel⟩
abbrev s_is_integer : Stmt := topS 6
theorem sc_is_integer : FnScope ["value"] ["value"] (defScope s_is_integer) :=
  ⟨rfl, rfl, rfl, by decide +kernel, rfl, by decide +kernel, by decide +kernel⟩
abbrev s_is_link : Stmt := topS 7
theorem sc_is_link : FnScope ["value"] ["value"] (defScope s_is_link) :=
  ⟨rfl, rfl, rfl, by decide +kernel, rfl, by decide +kernel, by decide +kernel⟩
abbrev s__law_draw : Stmt := topS 9
theorem sc__law_draw : FnScope ["_law_stream", "_law_many", "_law_digit", "_law_mixed"] ["_law_stream", "_law_many"] (defScope s__law_draw) :=
  ⟨rfl, rfl, rfl, by decide +kernel, rfl, by decide +kernel, by decide +kernel⟩
abbrev s__law_same : Stmt := topS 10
theorem sc__law_same : FnScope ["_law_found", "_law_due"] ["_law_found", "_law_due"] (defScope s__law_same) :=
  ⟨rfl, rfl, rfl, by decide +kernel, rfl, by decide +kernel, by decide +kernel⟩
abbrev s__law_path : Stmt := topS 11
theorem sc__law_path : FnScope ["_law_stream", "_law_most", "_law_k"] ["_law_stream", "_law_most"] (defScope s__law_path) :=
  ⟨rfl, rfl, rfl, by decide +kernel, rfl, by decide +kernel, by decide +kernel⟩
abbrev s__law_value : Stmt := topS 12
theorem sc__law_value : FnScope ["_law_stream", "_law_way"] ["_law_stream"] (defScope s__law_value) :=
  ⟨rfl, rfl, rfl, by decide +kernel, rfl, by decide +kernel, by decide +kernel⟩
abbrev s__law_is_name : Stmt := topS 13
theorem sc__law_is_name : FnScope ["_law_thing_here", "_law_sign"] ["_law_thing_here"] (defScope s__law_is_name) :=
  ⟨rfl, rfl, rfl, by decide +kernel, rfl, by decide +kernel, by decide +kernel⟩
abbrev s__law_is_path : Stmt := topS 14
theorem sc__law_is_path : FnScope ["_law_thing_here", "_law_one"] ["_law_thing_here"] (defScope s__law_is_path) :=
  ⟨rfl, rfl, rfl, by decide +kernel, rfl, by decide +kernel, by decide +kernel⟩
abbrev s__law_is_value : Stmt := topS 15
theorem sc__law_is_value : FnScope ["_law_thing_here"] ["_law_thing_here"] (defScope s__law_is_value) :=
  ⟨rfl, rfl, rfl, by decide +kernel, rfl, by decide +kernel, by decide +kernel⟩
abbrev s__law_letters : Stmt := topS 16
theorem sc__law_letters : FnScope ["_law_stream", "_law_many", "_law_letters_here", "_law_k"] ["_law_stream", "_law_many"] (defScope s__law_letters) :=
  ⟨rfl, rfl, rfl, by decide +kernel, rfl, by decide +kernel, by decide +kernel⟩
abbrev s__law_near_name : Stmt := topS 17
theorem sc__law_near_name : FnScope ["_law_stream", "_law_found", "_law_at", "_law_sign"] ["_law_stream"] (defScope s__law_near_name) :=
  ⟨rfl, rfl, rfl, by decide +kernel, rfl, by decide +kernel, by decide +kernel⟩
abbrev s__law_thing : Stmt := topS 18
theorem sc__law_thing : FnScope ["_law_stream", "_law_deep", "_law_some", "_law_parts", "_law_k"] ["_law_stream", "_law_deep"] (defScope s__law_thing) :=
  ⟨rfl, rfl, rfl, by decide +kernel, rfl, by decide +kernel, by decide +kernel⟩
abbrev s__law_near_path : Stmt := topS 19
theorem sc__law_near_path : FnScope ["_law_stream", "_law_many", "_law_parts", "_law_k", "_law_odd"] ["_law_stream"] (defScope s__law_near_path) :=
  ⟨rfl, rfl, rfl, by decide +kernel, rfl, by decide +kernel, by decide +kernel⟩
abbrev s__law_near_value : Stmt := topS 20
theorem sc__law_near_value : FnScope ["_law_stream", "_law_way", "_law_parts"] ["_law_stream"] (defScope s__law_near_value) :=
  ⟨rfl, rfl, rfl, by decide +kernel, rfl, by decide +kernel, by decide +kernel⟩
abbrev s_law : Stmt := topS 21
theorem sc_law : FnScope ["_law_script", "_law_stream", "_law_turn", "_law_thing_here", "_law_kept", "_law_found", "_law_again", "_law_some"] ["_law_script"] (defScope s_law) :=
  ⟨rfl, rfl, rfl, by decide +kernel, rfl, by decide +kernel, by decide +kernel⟩
/-- a def of the text, bound to its name -/
structure Df (K : PySem.W.Frag) (mg : Str → Option Value) (x : String) (st : Stmt) (ps : List Str) (f : Addr) (fd : FuncData) : Prop where
  F : Fun K x x st f fd
  b : Binds K fd ps []
  m : mg x = some (.ref f)
/-- the built-in's names that the text calls are the built-in's -/
structure Bi (mg : Str → Option Value) : Prop where
  len : mg "len" = none
  isinstance : mg "isinstance" = none
  all : mg "all" = none
  int : mg "int" = none
  str : mg "str" = none
  tuple : mg "tuple" = none
  list : mg "list" = none
  range : mg "range" = none
  repr : mg "repr" = none
  bool : mg "bool" = none
/-- where the defs of the text stand -/
structure Env (K : PySem.W.Frag) (mg : Str → Option Value) where
  T : Bi mg
  t_LONGEST_NAME : Tok
  g_LONGEST_NAME : mg "LONGEST_NAME" = some (.int 8 t_LONGEST_NAME)
  t_LONGEST_PATH : Tok
  g_LONGEST_PATH : mg "LONGEST_PATH" = some (.int 8 t_LONGEST_PATH)
  f_is_name : Addr
  fd_is_name : FuncData
  D_is_name : Df K mg "is_name" s_is_name ["value"] f_is_name fd_is_name
  f_is_path : Addr
  fd_is_path : FuncData
  D_is_path : Df K mg "is_path" s_is_path ["value"] f_is_path fd_is_path
  f_is_value : Addr
  fd_is_value : FuncData
  D_is_value : Df K mg "is_value" s_is_value ["value"] f_is_value fd_is_value
  f_is_integer : Addr
  fd_is_integer : FuncData
  D_is_integer : Df K mg "is_integer" s_is_integer ["value"] f_is_integer fd_is_integer
  f_is_link : Addr
  fd_is_link : FuncData
  D_is_link : Df K mg "is_link" s_is_link ["value"] f_is_link fd_is_link
  f__law_draw : Addr
  fd__law_draw : FuncData
  D__law_draw : Df K mg "_law_draw" s__law_draw ["_law_stream", "_law_many"] f__law_draw fd__law_draw
  f__law_same : Addr
  fd__law_same : FuncData
  D__law_same : Df K mg "_law_same" s__law_same ["_law_found", "_law_due"] f__law_same fd__law_same
  f__law_path : Addr
  fd__law_path : FuncData
  D__law_path : Df K mg "_law_path" s__law_path ["_law_stream", "_law_most"] f__law_path fd__law_path
  f__law_value : Addr
  fd__law_value : FuncData
  D__law_value : Df K mg "_law_value" s__law_value ["_law_stream"] f__law_value fd__law_value
  f__law_is_name : Addr
  fd__law_is_name : FuncData
  D__law_is_name : Df K mg "_law_is_name" s__law_is_name ["_law_thing_here"] f__law_is_name fd__law_is_name
  f__law_is_path : Addr
  fd__law_is_path : FuncData
  D__law_is_path : Df K mg "_law_is_path" s__law_is_path ["_law_thing_here"] f__law_is_path fd__law_is_path
  f__law_is_value : Addr
  fd__law_is_value : FuncData
  D__law_is_value : Df K mg "_law_is_value" s__law_is_value ["_law_thing_here"] f__law_is_value fd__law_is_value
  f__law_letters : Addr
  fd__law_letters : FuncData
  D__law_letters : Df K mg "_law_letters" s__law_letters ["_law_stream", "_law_many"] f__law_letters fd__law_letters
  f__law_near_name : Addr
  fd__law_near_name : FuncData
  D__law_near_name : Df K mg "_law_near_name" s__law_near_name ["_law_stream"] f__law_near_name fd__law_near_name
  f__law_thing : Addr
  fd__law_thing : FuncData
  D__law_thing : Df K mg "_law_thing" s__law_thing ["_law_stream", "_law_deep"] f__law_thing fd__law_thing
  f__law_near_path : Addr
  fd__law_near_path : FuncData
  D__law_near_path : Df K mg "_law_near_path" s__law_near_path ["_law_stream"] f__law_near_path fd__law_near_path
  f__law_near_value : Addr
  fd__law_near_value : FuncData
  D__law_near_value : Df K mg "_law_near_value" s__law_near_value ["_law_stream"] f__law_near_value fd__law_near_value
section
variable {P : Program} {w : World} {K : PySem.W.Frag} {mg : Str → Option Value} {base : Heap} (Z : Env K mg)
include Z

/-! ### _law_draw -/
theorem ok__law_draw : FnOk P w K mg base CX0 1 Z.f__law_draw Z.fd__law_draw ["_law_stream", "_law_many"] spDraw := by
  refine Z.D__law_draw.F.ok sc__law_draw (fun vs H Q E h => ?_) (fun cdv A outer s H vs Q E hr h => ?_)
  · obtain ⟨S, C, n, m, rfl, _⟩ := h
    rfl
  obtain ⟨S, C, n, m, rfl, ⟨nSC, ns, x1, x2, x3, hS, hC, hl, h1, h2, h2', h3, h3'⟩, hn, m0, m1, q⟩ := h
  refine ⟨_, (pss_cons (ps_asg (pe_op op_add (pe_ix (ixL (K := K)) (pv 0) pe_int (fun _ _ => rfl)) pe_int) (pg_sub (pv 0) pe_int set_list))
    (C8.pss_cut (ps_if (PW.pt (pw_and (pt_cmpR op_eq (pe_ix (ixL (K := K)) (pv 0) pe_int (fun _ _ => rfl)) pe_int (nomark _)) (pw_and1 (pt_cmpR (neDK (K := K) hr.units) (pe_ix (ixL (K := K)) (pv 0) pe_int (fun _ _ => rfl)) (pe_lst pa_nil) (nomark _))))) (pss_cons (ps_asg (pe_bm PySem.F.plainAttrs_list PySem.F.slot_list_pop PySem.F.type_list_pop mt_popAt (pe_ix (ixL (K := K)) (pv 0) pe_int (fun _ _ => rfl)) (pa_cons pe_int pa_nil)) (pg_sub (pv 0) pe_int set_list))
    (pss_one (ps_if (pt_cmpR op_lt (pe_ix (ixL (K := K)) (pv 0) pe_int (fun _ _ => rfl)) (pe_op op_pow pe_int pe_int) (nomark _)) (pss_cons (ps_asg (pe_op op_mod (pe_callTy call_int1 (by rfl) Z.T.int (by decide +kernel) (pa_cons (pe_op op_add (pe_op op_add (pe_op op_mul (pe_ix (ixL (K := K)) (pv 0) pe_int (fun _ _ => rfl)) pe_int) (pe_ix (ixL (K := K)) (pv 0) pe_int (fun _ _ => rfl))) pe_int) pa_nil)) pe_int) (pg_sub (pv 0) pe_int set_list))
    (pss_one (ps_asg pe_int (pg_sub (pv 0) pe_int set_list)))) pss_nil))) pss_nil)
    (pss_cons (ps_if (pt_cmpR op_gt (pe_ix (ixL (K := K)) (pv 0) pe_int (fun _ _ => rfl)) pe_int (nomark _)) (pss_cons (ps_set (i := 2) sc__law_draw.nd rfl (.inl rfl) (pe_op op_mod (pe_callTy call_int1 (by rfl) Z.T.int (by decide +kernel) (pa_cons (pe_ix (ixL (K := K)) (pv 0) pe_int (fun _ _ => rfl)) pa_nil)) (pv 1)))
    (pss_cons (ps_asg (pe_op op_fdivW (pe_ix (ixL (K := K)) (pv 0) pe_int (fun _ _ => rfl)) (pv 1)) (pg_sub (pv 0) pe_int set_list))
    (pss_one (ps_ret (pv 2))))) pss_nil)
    (pss_cons (ps_set (i := 3) sc__law_draw.nd rfl (.inl rfl) (pe_op op_mod (pe_op op_pow (pe_op op_add (pe_op op_add (pe_ix (ixL (K := K)) (pv 0) pe_int (fun _ _ => rfl)) (pe_op op_mul pe_int (pe_ix (ixL (K := K)) (pv 0) pe_int (fun _ _ => rfl)))) pe_int) pe_int) pe_int))
    (pss_one (ps_ret (pe_op op_mod (pe_op op_mod (pe_op op_pow (pe_op op_add (pe_op op_add (pe_op op_mul (pv 3) pe_int) (pe_op op_mul (pe_op op_mul pe_int (pe_ix (ixL (K := K)) (pv 0) pe_int (fun _ _ => rfl))) (pe_ix (ixL (K := K)) (pv 0) pe_int (fun _ _ => rfl)))) pe_int) pe_int) pe_int) (pv 1)))))))), ?_⟩
  -- stream[2] += 1
  refine ⟨_, rfl, S, _, _, _, rfl, rfl, SqL.of hS, rfl, _, _, rfl, rfl, _, rfl, S, _, _, 2, rfl, rfl, hS, rfl, ?_⟩
  have f0 : Fr S C H (upd H S (.lst ([V.ref C, V.int x1, V.int x2, V.int x3].set 2 (.int (x2 + 1))))) := Fr.updS
  have gS : (upd H S (.lst ([V.ref C, V.int x1, V.int x2, V.int x3].set 2 (.int (x2 + 1))))) S = some (.lst [V.ref C, .int x1, .int (x2 + 1), .int x3]) := upd_same
  have gC : (upd H S (.lst ([V.ref C, V.int x1, V.int x2, V.int x3].set 2 (.int (x2 + 1))))) C = some (.lst (ns.map V.int)) := (upd_ne nSC.symm).trans hC
  generalize (upd H S (.lst ([V.ref C, V.int x1, V.int x2, V.int x3].set 2 (.int (x2 + 1))))) = H0 at f0 gS gC
  refine ⟨fun σ H' => σ = [some (.ref S), some (.int m), none, none] ∧ ∃ (ns : List Int) (x1 x3 : Int), Fr S C H H' ∧ H' S = some (.lst [V.ref C, .int x1, .int (x2 + 1), .int x3]) ∧ H' C = some (.lst (ns.map V.int)) ∧ ns.length ≤ 63 ∧ 0 ≤ x1 ∧ 0 ≤ x3 ∧ x3 < 2147483647, ?_, ?_⟩
  · refine ⟨_, rfl, S, _, _, _, rfl, rfl, SqL.of gS, rfl, rfl, _, rfl, ite2 (fun c => ?_) (fun c => ?_)⟩
    · refine ⟨_, rfl, S, _, _, _, rfl, rfl, SqL.of gS, rfl, (by show 0 ≤ sizeLine; decide), fun e ne => ?_⟩
      have neS : S ≠ e := ne_of_none gS ne
      have neC : C ≠ e := ne_of_none gC ne
      have f1 : Fr S C H (upd H0 e (.lst [])) := f0.trans (Fr.of_same (same_new ne _))
      have gS1 : (upd H0 e (.lst [])) S = _ := (upd_ne neS).trans gS
      have gC1 : (upd H0 e (.lst [])) C = _ := (upd_ne neC).trans gC
      have gE1 : (upd H0 e (.lst [])) e = some (.lst []) := upd_same
      generalize (upd H0 e (.lst [])) = H1 at f1 gS1 gC1 gE1
      refine ⟨.list (ns.map PyData.int), .list [], .lst (SqL.of gC1) (DpAll_ints ns), .lst (SqL.of gE1) .nil, ints_shaped ns, ints_shaped [], _, rfl, ?_⟩
      rw [ints_eqv_nil]
      cases ns with
      | nil => exact iteF ⟨rfl, [], x1, x3, f1, gS1, gC1, hl, h1, h3, h3'⟩
      | cons y ns =>
        refine iteT ?_
        refine ⟨_, rfl, S, _, _, _, rfl, rfl, SqL.of gS1, rfl, .inl ⟨rfl, _, SqL.of gC1⟩, C, _, 0, 0, .int y, rfl, rfl, gC1, (by decide), (by decide), ?_, rfl, ?_⟩
        · simp [seqIndex?]
        have f2 : Fr S C H (upd H1 C (.lst (((y :: ns).map V.int).eraseIdx 0))) := f1.trans Fr.updC
        have gS2 : (upd H1 C (.lst (((y :: ns).map V.int).eraseIdx 0))) S = _ := (upd_ne nSC).trans gS1
        have gC2 : (upd H1 C (.lst (((y :: ns).map V.int).eraseIdx 0))) C = some (.lst (ns.map V.int)) := upd_same
        generalize (upd H1 C (.lst (((y :: ns).map V.int).eraseIdx 0))) = H2 at f2 gS2 gC2
        refine ⟨_, rfl, S, _, _, 1, rfl, rfl, gS2, rfl, ?_⟩
        have f3 : Fr S C H (upd H2 S (.lst ([V.ref C, V.int x1, V.int (x2 + 1), V.int x3].set 1 (.int y)))) := f2.trans Fr.updS
        have gS3 : (upd H2 S (.lst ([V.ref C, V.int x1, V.int (x2 + 1), V.int x3].set 1 (.int y)))) S = some (.lst [V.ref C, .int y, .int (x2 + 1), .int x3]) := upd_same
        have gC3 : (upd H2 S (.lst ([V.ref C, V.int x1, V.int (x2 + 1), V.int x3].set 1 (.int y)))) C = _ := (upd_ne nSC.symm).trans gC2
        generalize (upd H2 S (.lst ([V.ref C, V.int x1, V.int (x2 + 1), V.int x3].set 1 (.int y)))) = H3 at f3 gS3 gC3
        have hl' : ns.length ≤ 63 := by rw [List.length_cons] at hl; omega
        refine ⟨_, rfl, S, _, _, _, rfl, rfl, SqL.of gS3, rfl, _, _, rfl, rfl, ten18_ok, _, _, rfl, rfl, _, rfl, ite2 (fun c => ?_) (fun c => ?_)⟩
        · refine ⟨_, rfl, S, _, _, _, rfl, rfl, SqL.of gS3, rfl, _, _, rfl, rfl, .inl ⟨by omega, by omega⟩, _, rfl, S, _, _, _, rfl, rfl, SqL.of gS3, rfl, _, _, rfl, rfl, _, _, rfl, rfl, .inl ⟨_, rfl, _, _, rfl, rfl, (by show (0 : Int) < 2147483647; decide), ?_⟩⟩
          have z0 := Int.emod_nonneg (x3 * 31 + y + 7) (by decide : (2147483647 : Int) ≠ 0)
          have z1 := Int.emod_lt_of_pos (x3 * 31 + y + 7) (by decide : (0 : Int) < 2147483647)
          show gSub (tVar 0) (tC (V.int 3)) rSetL (.int ((x3 * 31 + y + 7) % 2147483647)) _ _ _
          generalize (x3 * 31 + y + 7) % 2147483647 = z at z0 z1 ⊢
          refine ⟨_, rfl, S, _, _, 3, rfl, rfl, gS3, rfl, ?_⟩
          refine ⟨_, rfl, S, _, _, 1, rfl, rfl, upd_same, rfl, rfl, ns, 0, z, (f3.trans Fr.updS).trans Fr.updS, upd_same, ?_, hl', Int.le_refl _, z0, z1⟩
          rw [upd_ne nSC.symm, upd_ne nSC.symm]
          exact gC3
        · have c' : ¬ y < 10 ^ (18 : Int).toNat := of_decide_eq_false (Bool.eq_false_iff.mpr c)
          have e18 : (10 : Int) ^ (18 : Int).toNat = 1000000000000000000 := by decide
          rw [e18] at c'
          exact ⟨rfl, ns, y, x3, f3, gS3, gC3, hl', by omega, h3, h3'⟩
    · exact ⟨rfl, ns, x1, x3, f0, gS, gC, hl, h1, h3, h3'⟩
  · rintro σ H1 ⟨rfl, ns, x1, x3, f1, gS1, gC1, hl, h1, h3, h3'⟩
    refine ⟨_, rfl, S, _, _, _, rfl, rfl, SqL.of gS1, rfl, _, _, rfl, rfl, _, rfl, ite2 (fun c => ?_) (fun c => ?_)⟩
    · refine ⟨_, rfl, S, _, _, _, rfl, rfl, SqL.of gS1, rfl, .inl ⟨_, rfl, _, rfl, _, _, rfl, rfl, m0, ?_⟩⟩
      refine ⟨_, rfl, S, _, _, _, rfl, rfl, SqL.of gS1, rfl, _, rfl, _, _, rfl, rfl, many_div m0 m1, _, rfl, S, _, _, 1, rfl, rfl, gS1, rfl, ?_⟩
      refine ⟨_, rfl, q _ _ (Int.emod_nonneg _ (by omega)) (Int.emod_lt_of_pos _ m0) ⟨nSC, ns, x1 / m, x2 + 1, x3, upd_same, (upd_ne nSC.symm).trans gC1, hl, Int.ediv_nonneg h1 (by omega), by omega, by omega, h3, h3'⟩ (f1.trans Fr.updS)⟩
    · refine ⟨_, rfl, S, _, _, _, rfl, rfl, SqL.of gS1, rfl, _, rfl, S, _, _, _, rfl, rfl, SqL.of gS1, rfl, _, _, rfl, rfl, .inl ⟨by decide, by decide⟩, _, _, rfl, rfl, _, _, rfl, rfl, _, _, rfl, rfl, pow5_ok h3 h3' (by omega) (by omega), _, _, rfl, rfl, (by show (0 : Int) < 2147483629; decide), ?_⟩
      have z0 := Int.emod_nonneg ((x3 + 104729 * (x2 + 1) + 17) ^ (5 : Int).toNat) (by decide : (2147483629 : Int) ≠ 0)
      have z1 := Int.emod_lt_of_pos ((x3 + 104729 * (x2 + 1) + 17) ^ (5 : Int).toNat) (by decide : (0 : Int) < 2147483629)
      show gName 3 (.int ((x3 + 104729 * (x2 + 1) + 17) ^ (5 : Int).toNat % 2147483629)) _ _ _
      generalize (x3 + 104729 * (x2 + 1) + 17) ^ (5 : Int).toNat % 2147483629 = z at z0 z1 ⊢
      refine ⟨_, rfl, _, _, rfl, rfl, .inl ⟨by omega, by omega⟩, _, rfl, S, _, _, _, rfl, rfl, SqL.of gS1, rfl, _, _, rfl, rfl, .inl ⟨by decide, by decide⟩, _, rfl, S, _, _, _, rfl, rfl, SqL.of gS1, rfl, _, _, rfl, rfl, .inl ⟨by omega, by omega⟩, _, _, rfl, rfl, _, _, rfl, rfl, _, _, rfl, rfl, pow3_ok z0 z1 (by omega) (by omega), _, _, rfl, rfl, (by show (0 : Int) < 1000000007; decide), _, rfl, _, _, rfl, rfl, m0, ?_⟩
      exact q _ _ (Int.emod_nonneg _ (by omega)) (Int.emod_lt_of_pos _ m0) ⟨nSC, ns, x1, x2 + 1, x3, gS1, gC1, hl, h1, by omega, by omega, h3, h3'⟩ f1

/-! ### is_name, is_path -/
theorem ok_is_name : FnOk P w K mg base CX0 1 Z.f_is_name Z.fd_is_name ["value"] (spTell K nameD) := by
  refine Z.D_is_name.F.ok sc_is_name (fun vs H Q E h => ?_) (fun cdv A outer s H vs Q E hr h => ?_)
  · obtain ⟨v, d, rfl, _⟩ := h
    rfl
  obtain ⟨v, d, rfl, hd, ok, q⟩ := h
  refine ⟨_, (pss_cons (ps_if (PW.pt (pw_or (pt_not (pt_val (pe_callB (isiK (K := K)) (by rfl) Z.T.isinstance (by decide +kernel) (pa_cons (pv 0) (pa_cons (pe_bltn (v := .ty "str") (u := .type "str") (by rfl) Z.T.str (by decide +kernel) rfl) pa_nil))))) (pw_or1 (pt_not (pt_chain op_le op_le pe_int (pe_callB call_len_str (by rfl) Z.T.len (by decide +kernel) (pa_cons (pv 0) pa_nil)) (pe_glob (v := .int 8) (by rfl) Z.g_LONGEST_NAME ⟨_, rfl⟩)))))) (pss_one (ps_ret pe_bl)) pss_nil)
    (pss_one (ps_ret (pe_callB (allK (K := K) rfl) (by rfl) Z.T.all (by decide +kernel) (pa_cons (pe_lc (own := [("sign", 1)]) (g := gName 1) (tt := tYes) rfl sc_is_name.nd (pi_str (pv 0)) (blkOk_by (own := [("sign", 1)]) (N := ["value", "sign"]) (sc := defScope s_is_name) (by decide +kernel)) (fun _ _ _ _ _ => (pg_name (i := 1) sc_is_name.nd rfl (.inl rfl))) (fun _ _ _ _ _ => pts_nil) (fun _ _ _ _ _ => (pe_chain op_le_str op_le_str pe_str (pv 1) pe_str))) pa_nil))))), ?_⟩
  refine ⟨_, rfl, _, _, _, _, isStr d, rfl, .ty "str", Dp_type hd, kit_str hd, _, rfl, ?_⟩
  cases d with
  | str x =>
    cases hd
    have hx := ok.str
    refine iteF ?_
    refine ⟨_, rfl, x, rfl, hx, _, _, rfl, rfl, _, rfl, ?_⟩
    have name : ∀ H', Same H H' → Q (.bl ((decide (1 ≤ x.length) && decide (x.length ≤ 8)) && (x.cps.toList.map fun c => decide (97 ≤ c) && decide (c ≤ 122)).all id)) H' := fun H' s' => by
      have e := q H' s'
      simp only [nameD] at e
      rw [List.all_map]
      exact e
    refine ite2 (fun c1 => ?_) (fun c1 => ?_)
    · have c1' := of_decide_eq_true c1
      refine ⟨_, _, rfl, rfl, _, rfl, ?_⟩
      refine ite2 (fun c2 => ?_) (fun c2 => ?_)
      · have c2' : ¬ (x.length : Int) ≤ 8 := by simpa using c2
        have e := name H (Same.refl H)
        rw [decide_eq_false (show ¬ x.length ≤ 8 by omega), Bool.and_false, Bool.false_and] at e
        exact e
      · have c2' : (x.length : Int) ≤ 8 := by simpa using c2
        refine ⟨_, rfl, x, rfl, fun D nD => lc_signs (fun c => decide (97 ≤ c) && decide (c ≤ 122)) nD hx (fun _ => rfl) (fun c H3 q3 _ h3 => ?_) fun H' s' e' => ?_⟩
        · refine ⟨_, rfl, _, _, rfl, rfl, _, rfl, ?_⟩
          rw [← sign_az c] at h3
          refine ite2 (fun d1 => ?_) (fun d1 => ?_)
          · rw [show (!decide ([c] < [97])) = true from d1, Bool.true_and] at h3
            exact ⟨_, _, rfl, rfl, h3⟩
          · rw [show (!decide ([c] < [97])) = false from Bool.eq_false_iff.mpr d1, Bool.false_and] at h3
            exact h3
        · refine ⟨D, _, rfl, SqL.of e', ?_⟩
          have e := name H' s'
          rw [decide_eq_true (show 1 ≤ x.length by omega), decide_eq_true (show x.length ≤ 8 by omega), Bool.true_and, Bool.true_and] at e
          exact e
    · have c1' := of_decide_eq_false (Bool.eq_false_iff.mpr c1)
      refine ⟨_, rfl, iteT ?_⟩
      have e := name H (Same.refl H)
      rw [decide_eq_false (show ¬ 1 ≤ x.length by omega), Bool.false_and, Bool.false_and] at e
      exact e
  | _ => exact iteT (q H (Same.refl H))
theorem ok_is_path : FnOk P w K mg base CX0 2 Z.f_is_path Z.fd_is_path ["value"] (spTell K pathD) := by
  refine Z.D_is_path.F.ok sc_is_path (fun vs H Q E h => ?_) (fun cdv A outer s H vs Q E hr h => ?_)
  · obtain ⟨v, d, rfl, _⟩ := h
    rfl
  obtain ⟨v, d, rfl, hd, ok, q⟩ := h
  refine ⟨_, (pss_cons (ps_if (PW.pt (pw_or (pt_not (pt_val (pe_callB (isiK (K := K)) (by rfl) Z.T.isinstance (by decide +kernel) (pa_cons (pv 0) (pa_cons (pe_bltn (v := .ty "tuple") (u := .type "tuple") (by rfl) Z.T.tuple (by decide +kernel) rfl) pa_nil))))) (pw_or1 (pt_cmpR op_gt (pe_callB (lenK (K := K)) (by rfl) Z.T.len (by decide +kernel) (pa_cons (pv 0) pa_nil)) (pe_glob (v := .int 8) (by rfl) Z.g_LONGEST_PATH ⟨_, rfl⟩) (nomark _))))) (pss_one (ps_ret pe_bl)) pss_nil)
    (pss_one (ps_ret (pe_callB (allK (K := K) rfl) (by rfl) Z.T.all (by decide +kernel) (pa_cons (pe_lc (own := [("name", 1)]) (g := gName 1) (tt := tYes) rfl sc_is_path.nd (pi_tup (pv 0)) (blkOk_by (own := [("name", 1)]) (N := ["value", "name"]) (sc := defScope s_is_path) (by decide +kernel)) (fun _ _ _ _ _ => (pg_name (i := 1) sc_is_path.nd rfl (.inl rfl))) (fun _ _ _ _ _ => pts_nil) (fun _ _ _ _ _ => (pe_call (ok_is_name Z) (hr.mono (by decide)) (by rfl) Z.D_is_name.m Z.D_is_name.F.kp Z.D_is_name.b .nil pass0 (pa_cons (pv 1) pa_nil)))) pa_nil))))), ?_⟩
  refine ⟨_, rfl, _, _, _, _, isTup d, rfl, .ty "tuple", Dp_type hd, kit_tup hd, _, rfl, ?_⟩
  cases d with
  | tuple ds =>
    cases hd with
    | @tup a xs _ hs ha =>
      have hl := DpAll_len ha
      refine iteF ?_
      refine ⟨_, rfl, a, xs, rfl, .inr hs, _, _, rfl, rfl, _, rfl, ?_⟩
      refine ite2 (fun c => ?_) (fun c => ?_)
      · have c' : (8 : Int) < (xs.length : Int) := of_decide_eq_true c
        have e := q H (Same.refl H)
        simp only [pathD] at e
        rw [decide_eq_false (show ¬ ds.length ≤ 8 by omega), Bool.false_and] at e
        exact e
      · have c' : ¬ (8 : Int) < (xs.length : Int) := of_decide_eq_false (Bool.eq_false_iff.mpr c)
        refine ⟨_, rfl, a, rfl, ⟨xs, hs⟩, fun D nD => lc_items nameD nD hs ha (Nat.le_trans (show ds.length ≤ 8 by omega) (by decide)) (fun _ => rfl) (fun v d H3 q3 hd hv _ k => ?_) fun H' s' e' => ?_⟩
        · exact ⟨_, rfl, v, d, rfl, hv, ok.item hd, k⟩
        · refine ⟨D, _, rfl, SqL.of e', ?_⟩
          have e := q H' s'
          simp only [pathD] at e
          rw [decide_eq_true (show ds.length ≤ 8 by omega), Bool.true_and] at e
          rw [List.all_map]
          exact e
  | _ => exact iteT (q H (Same.refl H))

/-! ### _law_same, _law_is_name, _law_is_path -/
theorem ok__law_same : FnG P w K mg base CX0 1 Z.f__law_same Z.fd__law_same ["_law_found", "_law_due"] (spSame K) := by
  refine Fun_okG Z.D__law_same.F sc__law_same (fun vs H Q E h => ?_) (fun cdv A outer s H vs Q E hG hr h => ?_)
  · obtain ⟨v, u, d, e, rfl, _⟩ := h
    rfl
  obtain ⟨v, u, d, e, rfl, hd, he, od, oe, q⟩ := h
  refine ⟨_, (pss_one (ps_ret (pe_cmpR op_eq (pe_callB (reprK (K := K) hG hr.units) (by rfl) Z.T.repr (by decide +kernel) (pa_cons (pv 0) pa_nil)) (pe_callB (reprK (K := K) hG hr.units) (by rfl) Z.T.repr (by decide +kernel) (pa_cons (pv 1) pa_nil)) (nomark _)))), ?_⟩
  obtain ⟨a1, a2, a3⟩ := shown_big d od.fine
  obtain ⟨b1, b2, b3⟩ := shown_big e oe.fine
  refine ⟨_, rfl, v, d, rfl, hd, a1, a2, od.depth, Nat.le_trans a3 od.big, _, rfl, u, e, rfl, he, b1, b2, oe.depth, Nat.le_trans b3 oe.big, rfl, ?_⟩
  rw [str_dec]
  exact q
theorem ok__law_is_name : FnOk P w K mg base CX0 1 Z.f__law_is_name Z.fd__law_is_name ["_law_thing_here"] (spTell K nameD) := by
  refine Z.D__law_is_name.F.ok sc__law_is_name (fun vs H Q E h => ?_) (fun cdv A outer s H vs Q E hr h => ?_)
  · obtain ⟨v, d, rfl, _⟩ := h
    rfl
  obtain ⟨v, d, rfl, hd, ok, q⟩ := h
  refine ⟨_, (pss_cons (ps_if (PW.pt (pw_or (pt_not (pt_val (pe_callB (isiK (K := K)) (by rfl) Z.T.isinstance (by decide +kernel) (pa_cons (pv 0) (pa_cons (pe_bltn (v := .ty "str") (u := .type "str") (by rfl) Z.T.str (by decide +kernel) rfl) pa_nil))))) (pw_or1 (pt_not (pt_chain op_lt op_lt pe_int (pe_callB call_len_str (by rfl) Z.T.len (by decide +kernel) (pa_cons (pv 0) pa_nil)) pe_int))))) (pss_one (ps_ret pe_bl)) pss_nil)
    (pss_one (ps_ret (pe_callB (allK (K := K) rfl) (by rfl) Z.T.all (by decide +kernel) (pa_cons (pe_lc (own := [("_law_sign", 1)]) (g := gName 1) (tt := tYes) rfl sc__law_is_name.nd (pi_str (pv 0)) (blkOk_by (own := [("_law_sign", 1)]) (N := ["_law_thing_here", "_law_sign"]) (sc := defScope s__law_is_name) (by decide +kernel)) (fun _ _ _ _ _ => (pg_name (i := 1) sc__law_is_name.nd rfl (.inl rfl))) (fun _ _ _ _ _ => pts_nil) (fun _ _ _ _ _ => (pe_cmpR op_in_sign (pv 1) pe_str rfl))) pa_nil))))), ?_⟩
  refine ⟨_, rfl, _, _, _, _, isStr d, rfl, .ty "str", Dp_type hd, kit_str hd, _, rfl, ?_⟩
  cases d with
  | str x =>
    cases hd
    have hx := ok.str
    refine iteF ?_
    refine ⟨_, rfl, x, rfl, hx, _, _, rfl, rfl, _, rfl, ?_⟩
    have name : ∀ H', Same H H' → Q (.bl ((decide (1 ≤ x.length) && decide (x.length ≤ 8)) && (x.cps.toList.map fun c => decide (97 ≤ c) && decide (c ≤ 122)).all id)) H' := fun H' s' => by
      have e := q H' s'
      simp only [nameD] at e
      rw [List.all_map]
      exact e
    refine ite2 (fun c1 => ?_) (fun c1 => ?_)
    · have c1' := of_decide_eq_true c1
      refine ⟨_, _, rfl, rfl, _, rfl, ?_⟩
      refine ite2 (fun c2 => ?_) (fun c2 => ?_)
      · have c2' : ¬ (x.length : Int) < 9 := by simpa using c2
        have e := name H (Same.refl H)
        rw [decide_eq_false (show ¬ x.length ≤ 8 by omega), Bool.and_false, Bool.false_and] at e
        exact e
      · have c2' : (x.length : Int) < 9 := by simpa using c2
        refine ⟨_, rfl, x, rfl, fun D nD => lc_signs (fun c => decide (97 ≤ c) && decide (c ≤ 122)) nD hx (fun _ => rfl) (fun c H3 q3 _ h3 => ?_) fun H' s' e' => ?_⟩
        · refine ⟨_, rfl, c, _, rfl, rfl, ?_⟩
          rw [sign_in]
          exact h3
        · refine ⟨D, _, rfl, SqL.of e', ?_⟩
          have e := name H' s'
          rw [decide_eq_true (show 1 ≤ x.length by omega), decide_eq_true (show x.length ≤ 8 by omega), Bool.true_and, Bool.true_and] at e
          exact e
    · have c1' := of_decide_eq_false (Bool.eq_false_iff.mpr c1)
      refine ⟨_, rfl, iteT ?_⟩
      have e := name H (Same.refl H)
      rw [decide_eq_false (show ¬ 1 ≤ x.length by omega), Bool.false_and, Bool.false_and] at e
      exact e
  | _ => exact iteT (q H (Same.refl H))
theorem ok__law_is_path : FnOk P w K mg base CX0 2 Z.f__law_is_path Z.fd__law_is_path ["_law_thing_here"] (spTell K pathD) := by
  refine Z.D__law_is_path.F.ok sc__law_is_path (fun vs H Q E h => ?_) (fun cdv A outer s H vs Q E hr h => ?_)
  · obtain ⟨v, d, rfl, _⟩ := h
    rfl
  obtain ⟨v, d, rfl, hd, ok, q⟩ := h
  refine ⟨_, (pss_one (ps_ret (pe_and (pe_callB (isiK (K := K)) (by rfl) Z.T.isinstance (by decide +kernel) (pa_cons (pv 0) (pa_cons (pe_bltn (v := .ty "tuple") (u := .type "tuple") (by rfl) Z.T.tuple (by decide +kernel) rfl) pa_nil))) (pe_and (pe_cmpR op_lt (pe_callB (lenK (K := K)) (by rfl) Z.T.len (by decide +kernel) (pa_cons (pv 0) pa_nil)) pe_int (nomark _)) (pe_one (pe_callB (allK (K := K) rfl) (by rfl) Z.T.all (by decide +kernel) (pa_cons (pe_lc (own := [("_law_one", 1)]) (g := gName 1) (tt := tYes) rfl sc__law_is_path.nd (pi_tup (pv 0)) (blkOk_by (own := [("_law_one", 1)]) (N := ["_law_thing_here", "_law_one"]) (sc := defScope s__law_is_path) (by decide +kernel)) (fun _ _ _ _ _ => (pg_name (i := 1) sc__law_is_path.nd rfl (.inl rfl))) (fun _ _ _ _ _ => pts_nil) (fun _ _ _ _ _ => (pe_call (ok__law_is_name Z) (hr.mono (by decide)) (by rfl) Z.D__law_is_name.m Z.D__law_is_name.F.kp Z.D__law_is_name.b .nil pass0 (pa_cons (pv 1) pa_nil)))) pa_nil))))))), ?_⟩
  refine ⟨_, rfl, _, _, _, _, isTup d, rfl, .ty "tuple", Dp_type hd, kit_tup hd, _, rfl, ?_⟩
  cases d with
  | tuple ds =>
    cases hd with
    | @tup a xs _ hs ha =>
      have hl := DpAll_len ha
      refine iteT ?_
      refine ⟨_, rfl, a, xs, rfl, .inr hs, _, _, rfl, rfl, _, rfl, ?_⟩
      refine ite2 (fun c => ?_) (fun c => ?_)
      · have c' : (xs.length : Int) < 9 := of_decide_eq_true c
        refine ⟨_, rfl, a, rfl, ⟨xs, hs⟩, fun D nD => lc_items nameD nD hs ha (Nat.le_trans (show ds.length ≤ 8 by omega) (by decide)) (fun _ => rfl) (fun v d H3 q3 hd hv _ k => ?_) fun H' s' e' => ?_⟩
        · exact ⟨_, rfl, v, d, rfl, hv, ok.item hd, k⟩
        · refine ⟨D, _, rfl, SqL.of e', ?_⟩
          have e := q H' s'
          simp only [pathD] at e
          rw [decide_eq_true (show ds.length ≤ 8 by omega), Bool.true_and] at e
          rw [List.all_map]
          exact e
      · have c' : ¬ (xs.length : Int) < 9 := of_decide_eq_false (Bool.eq_false_iff.mpr c)
        have e := q H (Same.refl H)
        simp only [pathD] at e
        rw [decide_eq_false (show ¬ ds.length ≤ 8 by omega), Bool.false_and] at e
        exact e
  | _ => exact iteF (q H (Same.refl H))

/-! ### _law_letters, _law_near_name -/
theorem ok__law_letters : FnOk P w K mg base CX0 2 Z.f__law_letters Z.fd__law_letters ["_law_stream", "_law_many"] spLetters := by
  refine Z.D__law_letters.F.ok sc__law_letters (fun vs H Q E h => ?_) (fun cdv A outer s H vs Q E hr h => ?_)
  · obtain ⟨S, C, n, m, rfl, _⟩ := h
    rfl
  obtain ⟨S, C, n, m, rfl, hm, st, hn, q⟩ := h
  refine ⟨_, (pss_cons (ps_set (i := 2) sc__law_letters.nd rfl (.inr rfl) pe_str)
    (pss_one (ps_ret (pe_join pe_str (pe_lc (own := [("_law_k", 3)]) (g := gName 3) (tt := tYes) rfl sc__law_letters.nd (pi_range1 (by rfl) Z.T.range (pa_cons (pv 1) pa_nil)) (blkOk_by (own := [("_law_k", 3)]) (N := ["_law_stream", "_law_many", "_law_letters_here", "_law_k"]) (sc := defScope s__law_letters) (by decide +kernel)) (fun _ _ _ _ _ => (pg_name (i := 3) sc__law_letters.nd rfl (.inl rfl))) (fun _ _ _ _ _ => pts_nil) (fun _ _ _ _ _ => (pe_ix ix_str (pv 2) (pe_call (ok__law_draw Z) (hr.mono (by decide)) (by rfl) Z.D__law_draw.m Z.D__law_draw.F.kp Z.D__law_draw.b .nil pass0 (pa_cons (pv 0) (pa_cons pe_int pa_nil))) (fun _ _ => rfl)))))))), ?_⟩
  refine ⟨⟨_, rfl⟩, _, rfl, m, rfl, by omega, by omega, fun D nD => ?_⟩
  refine lc_get (K := K) (k := 1) (R := fun d => ∃ x, d = .str x ∧ x.length = 1 ∧ azStr x) st nD (by omega) (fun _ => rfl) (fun i H3 q3 hi s3 k3 => ?_) fun H' vs ds e dp hl hR s3 f3 => ?_
  · refine ⟨_, rfl, _, rfl, S, C, _, 26, rfl, s3, by omega, by decide, by decide, fun r H4 r0 r1 s4 f4 => ?_⟩
    have el : (Str.ofString "abcdefghijklmnopqrstuvwxyz").cps.toList = List.range' 97 26 := by decide +kernel
    have hr : r.toNat < 26 := by omega
    have z : atI (Str.ofString "abcdefghijklmnopqrstuvwxyz").cps.toList ((r.toNat : Nat) : Int) = some (97 + r.toNat) := atI_nat (by
      rw [el, List.getElem?_range' hr]
      simp)
    rw [show ((r.toNat : Nat) : Int) = r by omega] at z
    refine ⟨_, r, _, rfl, rfl, (by decide +kernel), z, k3 _ (.str _) H4 (.str _) ⟨_, rfl, rfl, fun c hc => ?_⟩ (s4.mono (by omega)) f4⟩
    have : c = 97 + r.toNat := by simpa using hc
    omega
  · obtain ⟨ys, rfl, hy, g⟩ := strs_of dp hR
    refine ⟨_, D, ys, rfl, rfl, .inl (SqL.of e), ?_, ?_⟩
    · have e0 : (Str.ofString "").length = 0 := by decide +kernel
      have hs : (ys.map (·.length)).sum = ys.length := by
        clear e dp hy
        induction ys with
        | nil => rfl
        | cons y r ih =>
          rw [List.map_cons, List.sum_cons, List.length_cons, (g y List.mem_cons_self).1, ih fun u hu => g u (List.mem_cons_of_mem _ hu)]
          omega
      rw [hs, e0]
      omega
    · obtain ⟨j1, j2⟩ := joined (hy.trans hl) g
      rw [TL.join_eq]
      exact q _ _ j1 j2 (s3.mono (by omega)) f3
theorem ok__law_near_name : FnOk P w K mg base CX0 3 Z.f__law_near_name Z.fd__law_near_name ["_law_stream"] (spGet K 30 (fun us => us = []) fun d => ∃ x, d = .str x ∧ x.length ≤ 40 ∧ okStr x) := by
  refine Z.D__law_near_name.F.ok sc__law_near_name (fun vs H Q E h => ?_) (fun cdv A outer s H vs Q E hr h => ?_)
  · obtain ⟨S, C, n, us, rfl, rfl, _⟩ := h
    rfl
  obtain ⟨S, C, n, us, rfl, rfl, st, hn, q⟩ := h
  refine ⟨_, (pss_cons (ps_set (i := 1) sc__law_near_name.nd rfl (.inl rfl) (pe_call (ok__law_letters Z) (hr.mono (by decide)) (by rfl) Z.D__law_letters.m Z.D__law_letters.F.kp Z.D__law_letters.b .nil pass0 (pa_cons (pv 0) (pa_cons (pe_ix (ixL (K := K)) (pe_lst (pa_cons pe_int (pa_cons pe_int (pa_cons pe_int (pa_cons pe_int (pa_cons pe_int (pa_cons pe_int (pa_cons pe_int (pa_cons pe_int (pa_cons pe_int pa_nil)))))))))) (pe_call (ok__law_draw Z) (hr.mono (by decide)) (by rfl) Z.D__law_draw.m Z.D__law_draw.F.kp Z.D__law_draw.b .nil pass0 (pa_cons (pv 0) (pa_cons pe_int pa_nil))) (fun _ _ => rfl)) pa_nil))))
    (pss_cons (ps_if (pt_cmpR op_eq (pe_call (ok__law_draw Z) (hr.mono (by decide)) (by rfl) Z.D__law_draw.m Z.D__law_draw.F.kp Z.D__law_draw.b .nil pass0 (pa_cons (pv 0) (pa_cons pe_int pa_nil))) pe_int (nomark _)) (pss_cons (ps_set (i := 2) sc__law_near_name.nd rfl (.inl rfl) (pe_call (ok__law_draw Z) (hr.mono (by decide)) (by rfl) Z.D__law_draw.m Z.D__law_draw.F.kp Z.D__law_draw.b .nil pass0 (pa_cons (pv 0) (pa_cons (pe_op op_add (pe_callB call_len_str (by rfl) Z.T.len (by decide +kernel) (pa_cons (pv 1) pa_nil)) pe_int) pa_nil))))
    (pss_cons (ps_set (i := 3) sc__law_near_name.nd rfl (.inl rfl) (pe_ix (ixL (K := K)) (pe_lst (pa_cons pe_str (pa_cons pe_str (pa_cons pe_str (pa_cons pe_str (pa_cons pe_str (pa_cons pe_str (pa_cons pe_str (pa_cons pe_str (pa_cons pe_str (pa_cons pe_str (pa_cons pe_str (pa_cons pe_str (pa_cons pe_str pa_nil)))))))))))))) (pe_call (ok__law_draw Z) (hr.mono (by decide)) (by rfl) Z.D__law_draw.m Z.D__law_draw.F.kp Z.D__law_draw.b .nil pass0 (pa_cons (pv 0) (pa_cons pe_int pa_nil))) (fun _ _ => rfl)))
    (pss_one (ps_set (i := 1) sc__law_near_name.nd rfl (.inl rfl) (pe_op op_add_str (pe_op op_add_str (pe_slice sl_str (pv 1) po_none (po_some (pv 2))) (pv 3)) (pe_slice sl_str (pv 1) (po_some (pe_op op_add (pv 2) (pe_call (ok__law_draw Z) (hr.mono (by decide)) (by rfl) Z.D__law_draw.m Z.D__law_draw.F.kp Z.D__law_draw.b .nil pass0 (pa_cons (pv 0) (pa_cons pe_int pa_nil))))) po_none)))))) pss_nil)
    (pss_one (ps_ret (pv 1))))), ?_⟩
  refine ⟨_, rfl, (by decide), fun p np => ⟨_, rfl, S, C, n, 9, rfl, st.lay np _, by omega, by decide, by decide, fun r H1 r0 r1 s1 f1 => ?_⟩⟩
  obtain ⟨v, e1, e2⟩ := at_int (vs := [V.int 0, V.int 1, V.int 1, V.int 2, V.int 3, V.int 7, V.int 8, V.int 9, V.int 16]) r0 r1
  refine ⟨p, _, r, v, rfl, rfl, SqL.of (st.keep np f1), e1, ?_⟩
  have hv : ∃ m : Nat, v = .int (m : Int) ∧ m ≤ 16 := by
    have := List.mem_of_getElem? e2
    simp only [List.mem_cons, List.not_mem_nil, or_false] at this
    rcases this with rfl | rfl | rfl | rfl | rfl | rfl | rfl | rfl | rfl
    · exact ⟨0, rfl, by decide⟩
    · exact ⟨1, rfl, by decide⟩
    · exact ⟨1, rfl, by decide⟩
    · exact ⟨2, rfl, by decide⟩
    · exact ⟨3, rfl, by decide⟩
    · exact ⟨7, rfl, by decide⟩
    · exact ⟨8, rfl, by decide⟩
    · exact ⟨9, rfl, by decide⟩
    · exact ⟨16, rfl, by decide⟩
  obtain ⟨m, rfl, hm⟩ := hv
  have f1' : Fr S C H H1 := (Fr.lay np _).trans f1
  refine ⟨S, C, n + 1, m, rfl, by omega, s1, by omega, fun x H2 hx az s2 f2 => ?_⟩
  have f2' : Fr S C H H2 := f1'.trans f2
  refine ⟨_, rfl, S, C, _, 3, rfl, s2, by omega, by decide, by decide, fun r H3 r0 r1 s3 f3 => ⟨rfl, _, rfl, ite2 (fun c => ?_) (fun c => ?_)⟩⟩
  · have f3' : Fr S C H H3 := f2'.trans f3
    refine ⟨_, rfl, _, rfl, x, rfl, Nat.le_trans (show x.length ≤ 100 by omega) (by decide), _, _, rfl, rfl, S, C, _, (x.length : Int) + 1, rfl, s3, by omega, by omega, by omega, fun r2 H4 r0 r1 s4 f4 => ?_⟩
    refine ⟨(by decide), fun p np => ⟨_, rfl, S, C, _, 13, rfl, s4.lay np _, by omega, by decide, by decide, fun r H5 r0 r1 s5 f5 => ?_⟩⟩
    obtain ⟨v, e1, e2⟩ := at_int (vs := ["A", "Z", " ", "_", "0", "9", "-", ".", "/", "@", "{", "`", "\n"].map fun z => V.str (Str.ofString z)) r0 r1
    refine ⟨p, _, r, v, rfl, rfl, SqL.of (s4.keep np f5), e1, ?_⟩
    have hv : ∃ y : Str, v = .str y ∧ y.length = 1 ∧ okStr y := by
      have one : ∀ z ∈ ["A", "Z", " ", "_", "0", "9", "-", ".", "/", "@", "{", "`", "\n"], (Str.ofString z).length = 1 ∧ ∀ c ∈ (Str.ofString z).cps.toList, c < 1114112 := by decide +kernel
      obtain ⟨z, hz, rfl⟩ := List.mem_map.mp (List.mem_of_getElem? e2)
      exact ⟨_, rfl, one z hz⟩
    obtain ⟨y, rfl, hy, oy⟩ := hv
    have f5' : Fr S C H H5 := (f3'.trans f4).trans ((Fr.lay np _).trans f5)
    have c1 := cutS_length x none (some r2)
    have big : ∀ {k : Nat}, k ≤ 100 → k ≤ sizeLine := fun h => Nat.le_trans h (by decide)
    refine ⟨_, rfl, _, rfl, r2, rfl, x, rfl, big (by omega), _, rfl, _, _, rfl, rfl, big (by omega), ?_⟩
    refine ⟨_, rfl, _, rfl, _, rfl, S, C, _, 2, rfl, s5, by omega, by decide, by decide, fun r3 H6 r0 r1 s6 f6 => ?_⟩
    have c2 := cutS_length x (some (r2 + r3)) none
    have l1 := len_app (cutS x none (some r2)) y
    have l2 := len_app (cutS x none (some r2) ++ y) (cutS x (some (r2 + r3)) none)
    refine ⟨_, _, rfl, rfl, _, rfl, x, rfl, big (by omega), _, _, rfl, rfl, big (by omega), _, rfl, ?_⟩
    exact q _ (.str _) _ (.str _) ⟨_, rfl, by omega, okStr_app (okStr_app (okStr_cut az.ok _ _) oy) (okStr_cut az.ok _ _)⟩ (s6.mono (by omega)) (f5'.trans f6)
  · refine ⟨_, rfl, q _ (.str x) _ (.str x) ⟨x, rfl, by omega, az.ok⟩ (s3.mono (by omega)) (f2'.trans f3)⟩

/-! ### _law_path, _law_thing -/
theorem ok__law_path : FnOk P w K mg base CX0 2 Z.f__law_path Z.fd__law_path ["_law_stream", "_law_most"] (spGet K 40 (fun us => ∃ m : Nat, us = [.int (m : Int)] ∧ m ≤ 20) (Nice 1 2000)) := by
  refine Z.D__law_path.F.ok sc__law_path (fun vs H Q E h => ?_) (fun cdv A outer s H vs Q E hr h => ?_)
  · obtain ⟨S, C, n, us, rfl, ⟨m, rfl, _⟩, _⟩ := h
    rfl
  obtain ⟨S, C, n, us, rfl, ⟨m, rfl, hm⟩, st, hn, q⟩ := h
  refine ⟨_, (pss_one (ps_ret (pe_callTy (tupK (K := K)) (by rfl) Z.T.tuple (by decide +kernel) (pa_cons (pe_lc (own := [("_law_k", 2)]) (g := gName 2) (tt := tYes) rfl sc__law_path.nd (pi_range1 (by rfl) Z.T.range (pa_cons (pe_call (ok__law_draw Z) (hr.mono (by decide)) (by rfl) Z.D__law_draw.m Z.D__law_draw.F.kp Z.D__law_draw.b .nil pass0 (pa_cons (pv 0) (pa_cons (pe_op op_add (pv 1) pe_int) pa_nil))) pa_nil)) (blkOk_by (own := [("_law_k", 2)]) (N := ["_law_stream", "_law_most", "_law_k"]) (sc := defScope s__law_path) (by decide +kernel)) (fun _ _ _ _ _ => (pg_name (i := 2) sc__law_path.nd rfl (.inl rfl))) (fun _ _ _ _ _ => pts_nil) (fun _ _ _ _ _ => (pe_ix (ixL (K := K)) (pe_lst (pa_cons pe_str (pa_cons pe_str (pa_cons pe_str pa_nil)))) (pe_call (ok__law_draw Z) (hr.mono (by decide)) (by rfl) Z.D__law_draw.m Z.D__law_draw.F.kp Z.D__law_draw.b .nil pass0 (pa_cons (pv 0) (pa_cons pe_int pa_nil))) (fun _ _ => rfl)))) pa_nil)))), ?_⟩
  refine ⟨_, rfl, _, rfl, _, _, rfl, rfl, S, C, n, (m : Int) + 1, rfl, st, by omega, by omega, by omega, fun r H1 r0 r1 s1 f1 => ?_⟩
  refine ⟨r, rfl, by omega, by omega, fun D nD => ?_⟩
  refine lc_get (K := K) (k := 1) (R := Nice 0 40) s1 nD (by omega) (fun _ => rfl) (fun i H3 q3 hi s3 k3 => ?_) fun H' vs ds e dp hl hR s3 f3 => ?_
  · refine ⟨by decide, fun p np => ⟨_, rfl, S, C, _, 3, rfl, s3.lay np _, by omega, by decide, by decide, fun r2 H4 r0 r1 s4 f4 => ?_⟩⟩
    obtain ⟨v, e1, e2⟩ := at_int (vs := ["a", "ab", "kid"].map fun z => V.str (Str.ofString z)) r0 r1
    refine ⟨p, _, r2, v, rfl, rfl, SqL.of (s3.keep np f4), e1, ?_⟩
    have one : ∀ z ∈ ["a", "ab", "kid"], fine (.str (Str.ofString z)) = true ∧ big (.str (Str.ofString z)) ≤ 40 := by decide +kernel
    obtain ⟨z, hz, rfl⟩ := List.mem_map.mp (List.mem_of_getElem? e2)
    obtain ⟨o1, o2⟩ := one z hz
    exact k3 _ (.str _) H4 (.str _) ⟨o1, Nat.zero_le _, o2⟩ (s4.mono (by omega)) ((Fr.lay np _).trans f4)
  · refine ⟨D, vs, rfl, .inl ⟨SqL.of e, fun l nl => ?_⟩⟩
    have f : Fr S C H H' := f1.trans f3
    have nl0 : H l = none := f.ext s3 l nl
    refine q _ (.tuple ds) _ (new_tup nl0 upd_same (DpAll_mono (newp_right (same_new nl _)) (DpAll_mono ((newp_left Ext.upd).trans (newp_left (f1.ext s1))) dp))) ?_ ((s3.lay nl _).mono (by omega)) (f.trans (Fr.lay nl _))
    have nn := (nices_of hR).tup
    rw [hl] at nn
    exact nn.mono (by decide) (by omega)

theorem thing_step (m kk : Nat) (spR : Sp) (ih : FnOk P w K mg base CX0 kk Z.f__law_thing Z.fd__law_thing ["_law_stream", "_law_deep"] spR) (hk : kk ≤ m + 1) (hsp : ∀ m', m = m' + 1 → spR = spThing K m') : FnOk P w K mg base CX0 (m+2) Z.f__law_thing Z.fd__law_thing ["_law_stream", "_law_deep"] (spThing K m) := by
  refine Z.D__law_thing.F.ok sc__law_thing (fun vs H Q E h => ?_) (fun cdv A outer s H vs Q E hr h => ?_)
  · obtain ⟨S, C, n, us, rfl, rfl, _⟩ := h
    rfl
  obtain ⟨S, C, n, us, rfl, rfl, st, hn, q⟩ := h
  have hr1 : Room 1 (A.deeper (envOfC "_law_thing" (defScope s__law_thing) s.heap.objs.size Z.f__law_thing cdv)) := hr.mono (by omega)
  have hrk : Room kk (A.deeper (envOfC "_law_thing" (defScope s__law_thing) s.heap.objs.size Z.f__law_thing cdv)) := hr.mono hk
  have k3 : 3 ≤ kT m := by
    cases m with
    | zero => exact Nat.le_refl _
    | succ m => show 3 ≤ 3 * kT m + 5; omega
  have b1 : 2100 ≤ bT m := by
    clear ih hsp hk q hn k3 hr hrk
    induction m with
    | zero => exact Nat.le_refl _
    | succ m i => show 2100 ≤ 3 * (bT m + 2) + 3; omega
  refine ⟨_, (pss_cons (ps_set (i := 2) sc__law_thing.nd rfl (.inl rfl) (pe_lst (pa_cons pe_non (pa_cons pe_bl (pa_cons pe_bl (pa_cons pe_int (pa_cons pe_int (pa_cons (pe_un un_neg pe_int) (pa_cons (pe_op op_sub (pe_op op_pow pe_int pe_int) pe_int) (pa_cons pe_str (pa_cons pe_str (pa_cons pe_str (pa_cons pe_str (pa_cons (pe_tup pa_nil) (pa_cons (pe_lst pa_nil) (pa_cons (pe_tup (pa_cons pe_str pa_nil)) (pa_cons (pe_lst (pa_cons pe_str pa_nil)) (pa_cons pe_str (pa_cons pe_str pa_nil)))))))))))))))))))
    (pss_cons (ps_if (PW.pt (pw_or (pt_cmpR op_eq (pv 1) pe_int (nomark _)) (pw_or1 (pt_cmpR op_gt (pe_call (ok__law_draw Z) hr1 (by rfl) Z.D__law_draw.m Z.D__law_draw.F.kp Z.D__law_draw.b .nil pass0 (pa_cons (pv 0) (pa_cons pe_int pa_nil))) pe_int (nomark _))))) (pss_one (ps_ret (pe_ix (ixL (K := K)) (pv 2) (pe_call (ok__law_draw Z) hr1 (by rfl) Z.D__law_draw.m Z.D__law_draw.F.kp Z.D__law_draw.b .nil pass0 (pa_cons (pv 0) (pa_cons pe_int pa_nil))) (fun _ _ => rfl)))) pss_nil)
    (pss_cons (ps_setLc (i := 3) (own := [("_law_k", 4)]) (g := gName 4) (tt := tYes) rfl sc__law_thing.nd rfl rfl (sw_true rfl rfl rfl (by decide +kernel)) (pi_range1 (by rfl) Z.T.range (pa_cons (pe_call (ok__law_draw Z) hr1 (by rfl) Z.D__law_draw.m Z.D__law_draw.F.kp Z.D__law_draw.b .nil pass0 (pa_cons (pv 0) (pa_cons pe_int pa_nil))) pa_nil)) (blkOk_by (own := [("_law_k", 4)]) (N := ["_law_stream", "_law_deep", "_law_some", "_law_parts", "_law_k"]) (sc := defScope s__law_thing) (by decide +kernel)) (fun _ _ _ _ _ => (pg_name (i := 4) sc__law_thing.nd rfl (.inl rfl))) (fun _ _ _ _ _ => pts_nil) (fun _ _ _ _ _ => (pe_call ih hrk (by rfl) Z.D__law_thing.m Z.D__law_thing.F.kp Z.D__law_thing.b .nil pass0 (pa_cons (pv 0) (pa_cons (pe_op op_sub (pv 1) pe_int) pa_nil)))))
    (pss_one (ps_ret (pe_ix (ixL (K := K)) (pe_lst (pa_cons (pv 3) (pa_cons (pe_callTy (tupK (K := K)) (by rfl) Z.T.tuple (by decide +kernel) (pa_cons (pv 3) pa_nil)) pa_nil))) (pe_call (ok__law_draw Z) hr1 (by rfl) Z.D__law_draw.m Z.D__law_draw.F.kp Z.D__law_draw.b .nil pass0 (pa_cons (pv 0) (pa_cons pe_int pa_nil))) (fun _ _ => rfl))))))), ?_⟩
  have c30 : CPow 10 30 := ⟨by decide, by decide, by decide⟩
  refine ⟨_, rfl, _, _, rfl, rfl, c30, _, _, rfl, rfl, (by decide), fun p1 n1 => ⟨(by decide), fun p2 n2 => ⟨(by decide), fun p3 n3 => ⟨(by decide), fun p4 n4 => ⟨(by show 17 ≤ sizeLine; decide), fun p5 n5 => ?_⟩⟩⟩⟩⟩
  have q1 := same_new n1 (.tup [])
  have a1 : (upd H p1 (.tup [])) p1 = some (.tup []) := upd_same
  generalize (upd H p1 (.tup [])) = H1 at n2 n3 n4 n5 q1 a1 ⊢
  have q2 := same_new n2 (.lst [])
  have a2 : (upd H1 p2 (.lst [])) p2 = some (.lst []) := upd_same
  generalize (upd H1 p2 (.lst [])) = H2 at n3 n4 n5 q2 a2 ⊢
  have q3 := same_new n3 (.tup [.str "a"])
  have a3 : (upd H2 p3 (.tup [.str "a"])) p3 = some (.tup [.str "a"]) := upd_same
  generalize (upd H2 p3 (.tup [.str "a"])) = H3 at n4 n5 q3 a3 ⊢
  have q4 := same_new n4 (.lst [.str "a"])
  have a4 : (upd H3 p4 (.lst [.str "a"])) p4 = some (.lst [.str "a"]) := upd_same
  generalize (upd H3 p4 (.lst [.str "a"])) = H4 at n5 q4 a4 ⊢
  have s12 := q1.trans q2
  have s13 := s12.trans q3
  have s14 := s13.trans q4
  have st4 : Strm S C n H4 := st.same s14
  have dpv := some_thing (K := K) (H := newp H H4) ((newp_of n1).trans (q4 _ _ (q3 _ _ (q2 _ _ a1)))) ((newp_of (q1.free n2)).trans (q4 _ _ (q3 _ _ a2))) ((newp_of (s12.free n3)).trans (q4 _ _ a3)) ((newp_of (s13.free n4)).trans a4)
  have f4 : Fr S C H H4 := .of_same s14
  have dp5 := DpAll_mono (newp_right (H := H) (same_new n5 (.lst [V.non, V.bl true, V.bl false, V.int 0, V.int 1, V.int (-7), V.int (10 ^ 30 - 1), V.str "", V.str "link", V.str "a", V.str "on", V.ref p1, V.ref p2, V.ref p3, V.ref p4, V.str "A", V.str "b c"]))) dpv
  have e5 : (upd H4 p5 (.lst [V.non, V.bl true, V.bl false, V.int 0, V.int 1, V.int (-7), V.int (10 ^ 30 - 1), V.str "", V.str "link", V.str "a", V.str "on", V.ref p1, V.ref p2, V.ref p3, V.ref p4, V.str "A", V.str "b c"])) p5 = _ := upd_same
  have f5 : Fr S C H _ := f4.trans (Fr.lay n5 (.lst [V.non, V.bl true, V.bl false, V.int 0, V.int 1, V.int (-7), V.int (10 ^ 30 - 1), V.str "", V.str "link", V.str "a", V.str "on", V.ref p1, V.ref p2, V.ref p3, V.ref p4, V.str "A", V.str "b c"]))
  have st5 := st4.lay n5 (.lst [V.non, V.bl true, V.bl false, V.int 0, V.int 1, V.int (-7), V.int (10 ^ 30 - 1), V.str "", V.str "link", V.str "a", V.str "on", V.ref p1, V.ref p2, V.ref p3, V.ref p4, V.str "A", V.str "b c"])
  have n5S := st4.neS n5
  have n5C := st4.neC n5
  have hvs : ([V.non, V.bl true, V.bl false, V.int 0, V.int 1, V.int (-7), V.int (10 ^ 30 - 1), V.str "", V.str "link", V.str "a", V.str "on", V.ref p1, V.ref p2, V.ref p3, V.ref p4, V.str "A", V.str "b c"] : List V).length = 17 := rfl
  show gName 2 (.ref p5) _ (upd H4 p5 (.lst [V.non, V.bl true, V.bl false, V.int 0, V.int 1, V.int (-7), V.int (10 ^ 30 - 1), V.str "", V.str "link", V.str "a", V.str "on", V.ref p1, V.ref p2, V.ref p3, V.ref p4, V.str "A", V.str "b c"])) _
  generalize [V.non, V.bl true, V.bl false, V.int 0, V.int 1, V.int (-7), V.int (10 ^ 30 - 1), V.str "", V.str "link", V.str "a", V.str "on", V.ref p1, V.ref p2, V.ref p3, V.ref p4, V.str "A", V.str "b c"] = vs at dp5 e5 f5 st5 hvs ⊢
  generalize (upd H4 p5 (.lst vs)) = H5 at dp5 e5 f5 st5 ⊢
  clear dpv a1 a2 a3 a4 q1 q2 q3 q4 n1 n2 n3 n4 n5 s12 s13 s14 st4 f4
  -- an item of the list
  have item : ∀ (k : Nat) (H6 : Hp), k + 1 ≤ kT m → Strm S C (n + k) H6 → Fr S C H5 H6 →
      tOp (rIxL K) (tVar 2) (tCall spDraw [] E0 (tCons (tVar 0) (tCons (tC (V.int 17)) tNil))) [some (.ref S), some (.int (m : Int)), some (.ref p5), none, none] H6 Q := by
    intro k H6 hk s6 f6
    refine ⟨_, rfl, _, rfl, S, C, n + k, 17, rfl, s6, by omega, by decide, by decide, fun r H7 r0 r1 s7 f7 => ?_⟩
    have f57 : Fr S C H5 H7 := f6.trans f7
    obtain ⟨v, d, e1, hd, hv⟩ := DpAll_at (DpAll_mono (newp_fr st f57) dp5) r0 (by omega)
    obtain ⟨o1, o2, o3⟩ := some_nice d hd
    exact ⟨p5, vs, r, v, rfl, rfl, SqL.of (cut_keep f57 n5S n5C e5), e1, q v d H7 hv ⟨o1, by omega, by omega⟩ (s7.mono (by omega)) (f5.trans f57)⟩
  refine ⟨_, rfl, rfl, _, rfl, ite2 (fun c => ?_) (fun c => ?_)⟩
  · exact iteT (item 0 H5 (by omega) st5 (fun _ _ h => h))
  have hm : m ≠ 0 := fun z => by
    subst z
    exact c (decide_eq_true rfl)
  cases m with
  | zero => exact absurd rfl hm
  | succ m =>
  obtain rfl := hsp m rfl
  have hk5 : kT (m + 1) = 3 * kT m + 5 := rfl
  refine ⟨_, rfl, S, C, n, 3, rfl, st5, by omega, by decide, by decide, fun r H6 r0 r1 s6 f6 => ⟨_, _, rfl, rfl, _, rfl, ite2 (fun c2 => ?_) (fun c2 => ?_)⟩⟩
  · exact item 1 H6 (by omega) s6 f6
  have f6' : Fr S C H H6 := f5.trans f6
  refine ⟨_, rfl, S, C, n + 1, 4, rfl, s6, by omega, by decide, by decide, fun r H7 r0 r1 s7 f7 => ?_⟩
  have f7' : Fr S C H H7 := f6'.trans f7
  refine ⟨r, rfl, by omega, by omega, fun D nD => ?_⟩
  have hr3 : r.toNat ≤ 3 := by omega
  have hmul : r.toNat * kT m ≤ 3 * kT m := Nat.mul_le_mul_right _ hr3
  refine lc_get (K := K) (k := kT m) (R := Nice (m + 1) (bT m)) s7 nD (by omega) (fun _ => rfl) (fun i H8 q8 hi s8 k8 => ?_) fun H8 vs ds e dp hl hR s8 f8 => ?_
  · have him : i * kT m + kT m ≤ r.toNat * kT m := by
      have := Nat.mul_le_mul_right (kT m) (show i + 1 ≤ r.toNat from hi)
      rw [Nat.succ_mul] at this
      exact this
    refine ⟨_, rfl, _, rfl, _, _, rfl, rfl, S, C, _, _, rfl, ?_, s8, by omega, k8⟩
    show [V.int (((m + 1 : Nat) : Int) - 1)] = [V.int (m : Int)]
    rw [show (((m + 1 : Nat) : Int) - 1) = (m : Int) by omega]
  · have f8' : Fr S C H H8 := f7'.trans f8
    have dp8 := DpAll_mono ((newp_left Ext.upd).trans (newp_left (f7'.ext s7))) dp
    have nD0 : H D = none := f7'.ext s7 D nD
    refine ⟨_, rfl, _, rfl, D, vs, rfl, .inl ⟨SqL.of e, fun l nl => ⟨(by show 2 ≤ sizeLine; decide), fun p np => ?_⟩⟩⟩
    have w1 := same_new nl (.tup vs)
    have al : (upd H8 l (.tup vs)) l = some (.tup vs) := upd_same
    have nl0 : H l = none := f8'.ext s8 l nl
    generalize (upd H8 l (.tup vs)) = H9 at np w1 al ⊢
    have w2 := same_new np (.lst [V.ref D, V.ref l])
    have ap : (upd H9 p (.lst [V.ref D, V.ref l])) p = some (.lst [V.ref D, V.ref l]) := upd_same
    have npS := (s8.same w1).neS np
    have npC := (s8.same w1).neC np
    generalize (upd H9 p (.lst [V.ref D, V.ref l])) = H10 at w2 ap ⊢
    have s10 := (s8.same w1).same w2
    refine ⟨_, rfl, S, C, _, 2, rfl, s10, by omega, by decide, by decide, fun r2 H11 r0 r1 s11 f11 => ?_⟩
    have f11' : Fr S C H H11 := ((f8'.trans (Fr.of_same w1)).trans (Fr.of_same w2)).trans f11
    have e10 := w2 _ _ (w1 _ _ e)
    have dp11 := DpAll_mono (((newp_right (w1.trans w2)).trans (newp_fr st f11))) dp8
    have nn := nices_of hR
    rw [hl] at nn
    have hb : r.toNat * (bT m + 2) ≤ 3 * (bT m + 2) := Nat.mul_le_mul_right _ hr3
    have hB : bT (m + 1) = 3 * (bT m + 2) + 3 := rfl
    have dD : Dp K (newp H H11) (.ref D) (.list ds) := new_lst nD0 (cut_keep f11 (s7.neS nD) (s7.neC nD) e10) dp11
    have dl : Dp K (newp H H11) (.ref l) (.tuple ds) := new_tup nl0 (cut_keep f11 (s8.neS nl) (s8.neC nl) (w2 _ _ al)) dp11
    have both : DpAll K (newp H H11) [V.ref D, V.ref l] [.list ds, .tuple ds] := .cons dD (.cons dl .nil)
    obtain ⟨v, d, e1, hd, hv⟩ := DpAll_at both r0 r1
    refine ⟨p, _, r2, v, rfl, rfl, SqL.of (cut_keep f11 npS npC ap), e1, q v d H11 hv ?_ (s11.mono (by omega)) f11'⟩
    simp only [List.mem_cons, List.not_mem_nil, or_false] at hd
    rcases hd with rfl | rfl
    · exact nn.lst.mono (by omega) (by omega)
    · exact nn.tup.mono (by omega) (by omega)
theorem ok__law_thing (m : Nat) : FnOk P w K mg base CX0 (m+2) Z.f__law_thing Z.fd__law_thing ["_law_stream", "_law_deep"] (spThing K m) := by
  induction m with
  | zero => exact thing_step Z 0 0 (fun _ _ _ _ => False) ⟨fun _ _ _ _ h => h.elim, fun _ _ _ _ _ _ _ _ _ _ _ _ _ h => h.elim⟩ (Nat.zero_le _) (fun m' h => nomatch h)
  | succ m ih => exact thing_step Z (m + 1) (m + 2) _ ih (Nat.le_refl _) fun m' h => by rw [Nat.succ.inj h]

/-! ### _law_value, _law_near_path, _law_near_value -/
theorem ok__law_value : FnOk P w K mg base CX0 3 Z.f__law_value Z.fd__law_value ["_law_stream"] (spGet K 50 (fun us => us = []) (Nice 2 3000)) := by
  refine Z.D__law_value.F.ok sc__law_value (fun vs H Q E h => ?_) (fun cdv A outer s H vs Q E hr h => ?_)
  · obtain ⟨S, C, n, us, rfl, rfl, _⟩ := h
    rfl
  obtain ⟨S, C, n, us, rfl, rfl, st, hn, q⟩ := h
  have c30 : CPow 10 30 := ⟨by decide, by decide, by decide⟩
  refine ⟨_, (pss_cons (ps_set (i := 1) sc__law_value.nd rfl (.inl rfl) (pe_call (ok__law_draw Z) (hr.mono (by decide)) (by rfl) Z.D__law_draw.m Z.D__law_draw.F.kp Z.D__law_draw.b .nil pass0 (pa_cons (pv 0) (pa_cons pe_int pa_nil))))
    (pss_cons (ps_if (pt_cmpR op_lt (pv 1) pe_int (nomark _)) (pss_one (ps_ret (pe_op op_sub (pe_call (ok__law_draw Z) (hr.mono (by decide)) (by rfl) Z.D__law_draw.m Z.D__law_draw.F.kp Z.D__law_draw.b .nil pass0 (pa_cons (pv 0) (pa_cons pe_int pa_nil))) pe_int))) pss_nil)
    (pss_cons (ps_if (pt_cmpR op_eq (pv 1) pe_int (nomark _)) (pss_one (ps_ret (pe_ix (ixL (K := K)) (pe_lst (pa_cons (pe_op op_sub (pe_op op_pow pe_int pe_int) pe_int) (pa_cons (pe_op op_sub pe_int (pe_op op_pow pe_int pe_int)) (pa_cons pe_int (pa_cons pe_int pa_nil))))) (pe_call (ok__law_draw Z) (hr.mono (by decide)) (by rfl) Z.D__law_draw.m Z.D__law_draw.F.kp Z.D__law_draw.b .nil pass0 (pa_cons (pv 0) (pa_cons pe_int pa_nil))) (fun _ _ => rfl)))) pss_nil)
    (pss_one (ps_ret (pe_ix (ixL (K := K)) (pe_lst (pa_cons pe_str (pa_cons pe_str (pa_cons (pe_tup (pa_cons pe_str (pa_cons (pe_call (ok__law_path Z) (hr.mono (by decide)) (by rfl) Z.D__law_path.m Z.D__law_path.F.kp Z.D__law_path.b .nil pass0 (pa_cons (pv 0) (pa_cons pe_int pa_nil))) pa_nil))) pa_nil)))) (pe_call (ok__law_draw Z) (hr.mono (by decide)) (by rfl) Z.D__law_draw.m Z.D__law_draw.F.kp Z.D__law_draw.b .nil pass0 (pa_cons (pv 0) (pa_cons pe_int pa_nil))) (fun _ _ => rfl))))))), ?_⟩
  refine ⟨_, rfl, S, C, n, 8, rfl, st, by omega, by decide, by decide, fun r H1 r0 r1 s1 f1 => ?_⟩
  refine ⟨_, rfl, _, _, rfl, rfl, _, rfl, ite2 (fun c => ?_) (fun c => ?_)⟩
  · refine ⟨_, rfl, S, C, n + 1, 5, rfl, s1, by omega, by decide, by decide, fun r2 H2 r0 r1 s2 f2 => ?_⟩
    refine ⟨_, _, rfl, rfl, q (.int (r2 - 2)) (.int (r2 - 2)) H2 (.int _) ⟨?_, Nat.zero_le _, (by show 2000 ≤ 3000; decide)⟩ (s2.mono (by omega)) (f1.trans f2)⟩
    refine decide_eq_true (log2_small (Nat.lt_of_lt_of_le (show (r2 - 2).natAbs < 16 by omega) ?_))
    exact Nat.le_trans (show 16 ≤ 2 ^ 4 by decide) (Nat.pow_le_pow_right (by decide) (by decide))
  refine ⟨_, rfl, rfl, _, rfl, ite2 (fun c2 => ?_) (fun c2 => ?_)⟩
  · refine ⟨_, _, rfl, rfl, c30, _, _, rfl, rfl, _, _, rfl, rfl, c30, _, _, rfl, rfl, (by show 4 ≤ sizeLine; decide), fun p np => ⟨_, rfl, S, C, n + 1, 4, rfl, s1.lay np _, by omega, by decide, by decide, fun r2 H2 r0 r1 s2 f2 => ?_⟩⟩
    have dp : DpAll K (newp H H2) [V.int (10 ^ 30 - 1), V.int (1 - 10 ^ 30), V.int 17, V.int 1000] [.int (10 ^ 30 - 1), .int (1 - 10 ^ 30), .int 17, .int 1000] := .cons (.int _) (.cons (.int _) (.cons (.int _) (.cons (.int _) .nil)))
    obtain ⟨v, d, e1, hd, hv⟩ := DpAll_at dp r0 r1
    have ni : Nice 2 3000 d := by
      have all : ∀ d ∈ ([.int (10 ^ 30 - 1), .int (1 - 10 ^ 30), .int 17, .int 1000] : List PyData), Nice 2 3000 d := by
        intro d hd
        simp only [List.mem_cons, List.not_mem_nil, or_false] at hd
        rcases hd with rfl | rfl | rfl | rfl <;> exact ⟨by decide +kernel, by decide +kernel, by decide +kernel⟩
      exact all d hd
    exact ⟨p, _, r2, v, rfl, rfl, SqL.of (s1.keep np f2), e1, q v d H2 hv ni (s2.mono (by omega)) ((f1.trans (Fr.lay np _)).trans f2)⟩
  · refine ⟨_, rfl, S, C, n + 1, _, rfl, ⟨2, rfl, by decide⟩, s1, by omega, fun v d H2 hv nv s2 f2 => ⟨(by show 2 ≤ sizeLine; decide), fun l nl => ⟨(by show 3 ≤ sizeLine; decide), fun p np => ?_⟩⟩⟩
    have f02 : Fr S C H H2 := f1.trans f2
    have nl0 : H l = none := f02.ext s2 l nl
    have w1 := same_new nl (.tup [V.str "link", v])
    have al : (upd H2 l (.tup [V.str "link", v])) l = _ := upd_same
    have s3 := s2.lay nl (.tup [V.str "link", v])
    generalize (upd H2 l (.tup [V.str "link", v])) = H3 at np w1 al s3 ⊢
    refine ⟨_, rfl, S, C, _, 3, rfl, s3.lay np _, by omega, by decide, by decide, fun r2 H4 r0 r1 s4 f4 => ?_⟩
    have f34 : Fr S C H3 H4 := (Fr.lay np _).trans f4
    have hv4 : Dp K (newp H H4) v d := Dp_mono ((newp_left (f1.ext s1)).trans ((newp_right w1).trans (newp_fr st f34))) hv
    have dl : Dp K (newp H H4) (.ref l) (.tuple [.str "link", d]) := new_tup nl0 (cut_keep f34 (s2.neS nl) (s2.neC nl) al) (.cons (.str _) (.cons hv4 .nil))
    have dp : DpAll K (newp H H4) [V.str "on", V.str "rank", V.ref l] [.str "on", .str "rank", .tuple [.str "link", d]] := .cons (.str _) (.cons (.str _) (.cons dl .nil))
    obtain ⟨u, e, e1, hd, hu⟩ := DpAll_at dp r0 r1
    refine ⟨p, _, r2, u, rfl, rfl, SqL.of (s3.keep np f4), e1, q u e H4 hu ?_ (s4.mono (by omega)) ((f02.trans (Fr.of_same w1)).trans f34)⟩
    simp only [List.mem_cons, List.not_mem_nil, or_false] at hd
    have lk : Nice 1 60 (.str "link") := ⟨by decide +kernel, by decide +kernel, by decide +kernel⟩
    rcases hd with rfl | rfl | rfl
    · exact ⟨by decide +kernel, by decide +kernel, by decide +kernel⟩
    · exact ⟨by decide +kernel, by decide +kernel, by decide +kernel⟩
    · have := ((Nices.one lk).append (.one nv)).tup
      exact this.mono (by omega) (by omega)

theorem ok__law_near_path : FnOk P w K mg base CX0 4 Z.f__law_near_path Z.fd__law_near_path ["_law_stream"] (spGet K 240 (fun us => us = []) (Nice 3 9100)) := by
  refine Z.D__law_near_path.F.ok sc__law_near_path (fun vs H Q E h => ?_) (fun cdv A outer s H vs Q E hr h => ?_)
  · obtain ⟨S, C, n, us, rfl, rfl, _⟩ := h
    rfl
  obtain ⟨S, C, n, us, rfl, rfl, st, hn, q⟩ := h
  refine ⟨_, (pss_cons (ps_set (i := 1) sc__law_near_path.nd rfl (.inl rfl) (pe_ix (ixL (K := K)) (pe_lst (pa_cons pe_int (pa_cons pe_int (pa_cons pe_int (pa_cons pe_int (pa_cons pe_int (pa_cons pe_int (pa_cons pe_int (pa_cons pe_int pa_nil))))))))) (pe_call (ok__law_draw Z) (hr.mono (by decide)) (by rfl) Z.D__law_draw.m Z.D__law_draw.F.kp Z.D__law_draw.b .nil pass0 (pa_cons (pv 0) (pa_cons pe_int pa_nil))) (fun _ _ => rfl)))
    (pss_cons (ps_setLc (i := 2) (own := [("_law_k", 3)]) (g := gName 3) (tt := tYes) rfl sc__law_near_path.nd rfl rfl (sw_true rfl rfl rfl (by decide +kernel)) (pi_range1 (by rfl) Z.T.range (pa_cons (pv 1) pa_nil)) (blkOk_by (own := [("_law_k", 3)]) (N := ["_law_stream", "_law_many", "_law_parts", "_law_k", "_law_odd"]) (sc := defScope s__law_near_path) (by decide +kernel)) (fun _ _ _ _ _ => (pg_name (i := 3) sc__law_near_path.nd rfl (.inl rfl))) (fun _ _ _ _ _ => pts_nil) (fun _ _ _ _ _ => (pe_call (ok__law_letters Z) (hr.mono (by decide)) (by rfl) Z.D__law_letters.m Z.D__law_letters.F.kp Z.D__law_letters.b .nil pass0 (pa_cons (pv 0) (pa_cons (pe_op op_add pe_int (pe_call (ok__law_draw Z) (hr.mono (by decide)) (by rfl) Z.D__law_draw.m Z.D__law_draw.F.kp Z.D__law_draw.b .nil pass0 (pa_cons (pv 0) (pa_cons pe_int pa_nil)))) pa_nil)))))
    (C8.pss_cut (ps_if (pt_cmpR op_eq (pe_call (ok__law_draw Z) (hr.mono (by decide)) (by rfl) Z.D__law_draw.m Z.D__law_draw.F.kp Z.D__law_draw.b .nil pass0 (pa_cons (pv 0) (pa_cons pe_int pa_nil))) pe_int (nomark _)) (pss_cons (ps_set (i := 4) sc__law_near_path.nd rfl (.inl rfl) (pe_ix (ixL (K := K)) (pe_lst (pa_cons (pe_call (ok__law_near_name Z) (hr.mono (by decide)) (by rfl) Z.D__law_near_name.m Z.D__law_near_name.F.kp Z.D__law_near_name.b .nil pass0 (pa_cons (pv 0) pa_nil)) (pa_cons (pe_call (ok__law_thing Z 1) (hr.mono (by decide)) (by rfl) Z.D__law_thing.m Z.D__law_thing.F.kp Z.D__law_thing.b .nil pass0 (pa_cons (pv 0) (pa_cons pe_int pa_nil))) pa_nil))) (pe_call (ok__law_draw Z) (hr.mono (by decide)) (by rfl) Z.D__law_draw.m Z.D__law_draw.F.kp Z.D__law_draw.b .nil pass0 (pa_cons (pv 0) (pa_cons pe_int pa_nil))) (fun _ _ => rfl)))
    (pss_one (ps_expr (pe_bm PySem.F.plainAttrs_list PySem.F.slot_list_insert PySem.F.type_list_insert mt_insert (pv 2) (pa_cons (pe_call (ok__law_draw Z) (hr.mono (by decide)) (by rfl) Z.D__law_draw.m Z.D__law_draw.F.kp Z.D__law_draw.b .nil pass0 (pa_cons (pv 0) (pa_cons (pe_op op_add (pe_callB (lenK (K := K)) (by rfl) Z.T.len (by decide +kernel) (pa_cons (pv 2) pa_nil)) pe_int) pa_nil))) (pa_cons (pv 4) pa_nil)))))) pss_nil)
    (pss_one (ps_ret (pe_ifExp (pt_cmpR op_eq (pe_call (ok__law_draw Z) (hr.mono (by decide)) (by rfl) Z.D__law_draw.m Z.D__law_draw.F.kp Z.D__law_draw.b .nil pass0 (pa_cons (pv 0) (pa_cons pe_int pa_nil))) pe_int (nomark _)) (pv 2) (pe_callTy (tupK (K := K)) (by rfl) Z.T.tuple (by decide +kernel) (pa_cons (pv 2) pa_nil)))))))), ?_⟩
  refine ⟨(by show 8 ≤ sizeLine; decide), fun p np => ⟨_, rfl, S, C, n, 8, rfl, st.lay np _, by omega, by decide, by decide, fun r H1 r0 r1 s1 f1 => ?_⟩⟩
  obtain ⟨v, e1, e2⟩ := at_int (vs := [V.int 0, V.int 1, V.int 2, V.int 3, V.int 7, V.int 8, V.int 9, V.int 20]) r0 r1
  refine ⟨p, _, r, v, rfl, rfl, SqL.of (st.keep np f1), e1, ?_⟩
  have hv : ∃ m : Nat, v = .int (m : Int) ∧ m ≤ 20 := by
    have := List.mem_of_getElem? e2
    simp only [List.mem_cons, List.not_mem_nil, or_false] at this
    rcases this with rfl | rfl | rfl | rfl | rfl | rfl | rfl | rfl
    · exact ⟨0, rfl, by decide⟩
    · exact ⟨1, rfl, by decide⟩
    · exact ⟨2, rfl, by decide⟩
    · exact ⟨3, rfl, by decide⟩
    · exact ⟨7, rfl, by decide⟩
    · exact ⟨8, rfl, by decide⟩
    · exact ⟨9, rfl, by decide⟩
    · exact ⟨20, rfl, by decide⟩
  obtain ⟨m, rfl, hm⟩ := hv
  have f1' : Fr S C H H1 := (Fr.lay np _).trans f1
  clear f1 e1 e2
  refine ⟨_, rfl, (m : Int), rfl, by omega, by omega, fun D nD => ?_⟩
  refine lc_get (K := K) (k := 9) (R := Nice 0 82) s1 nD (by omega) (fun _ => rfl) (fun i H8 q8 hi s8 k8 => ?_) fun H2 vs ds e dp hl hR s2 f2 => ?_
  · have hi' : i < m := hi
    refine ⟨_, rfl, _, rfl, S, C, _, 8, rfl, s8, by omega, by decide, by decide, fun r3 H9 r0 r1 s9 f9 => ?_⟩
    refine ⟨_, _, rfl, rfl, S, C, _, (1 + r3).toNat, ?_, by omega, s9, by omega, fun x H10 hx az s10 f10 => ?_⟩
    · show [V.ref S, V.int (1 + r3)] = [V.ref S, V.int (((1 + r3).toNat : Nat) : Int)]
      rw [show (((1 + r3).toNat : Nat) : Int) = 1 + r3 by omega]
    · exact k8 (.str x) (.str x) H10 (.str x) (.str az.ok (by omega)) (s10.mono (by omega)) (f9.trans f10)
  have hl' : ds.length = m := hl
  have hmn : (m : Int).toNat = m := rfl
  have f2' : Fr S C H H2 := f1'.trans f2
  have nD0 : H D = none := f1'.ext s1 D nD
  have sB := s1.lay nD (.lst [])
  have tr : (upd H1 D (.lst [])) D ≠ none := by rw [upd_same]; exact Option.some_ne_none _
  have xB : Ext (upd H1 D (.lst [])) H2 := ext_laid s2 f2 e
  have xH : Ext H (upd H1 D (.lst [])) := (f1'.ext s1).trans Ext.upd
  generalize (upd H1 D (.lst [])) = B at dp sB tr xB xH
  have dp2 := dp
  have n2 : Nices 2 (20 * 84) ds := (nices_of hR).mono (by decide) (by
    have := Nat.mul_le_mul_right 84 (show ds.length ≤ 20 by omega)
    exact this)
  have neS := s1.neS nD
  have neC := s1.neC nD
  have s2' : Strm S C (n + 181) H2 := s2.mono (by omega)
  clear dp s2 hR
  -- what the rest asks
  refine ⟨fun σ H' => (∃ o, σ = [some (.ref S), some (.int (m : Int)), some (.ref D), none, o]) ∧ ∃ (vs : List V) (ds : List PyData), H' D = some (.lst vs) ∧ DpAll K (newp B H') vs ds ∧ Nices 2 9000 ds ∧ Strm S C (n + 238) H' ∧ Fr S C H H', ?_, ?_⟩
  · refine ⟨_, rfl, S, C, _, 3, rfl, s2', by omega, by decide, by decide, fun r3 H3 r0 r1 s3 f3 => ⟨rfl, _, rfl, ite2 (fun c => ?_) (fun c => ?_)⟩⟩
    · have f3' : Fr S C H H3 := f2'.trans f3
      have e3 : H3 D = some (.lst vs) := cut_keep f3 neS neC e
      have dp3 := DpAll_mono (newp_fr sB f3) dp2
      have xB3 : Ext B H3 := xB.trans (Fr.ext s3 f3)
      refine ⟨_, rfl, S, C, _, [], rfl, rfl, s3, by omega, fun v1 d1 H4 hv1 ⟨x, hx, hx2, ox⟩ s4 f4 => ?_⟩
      have ni1 : Nice 2 6309 d1 := by
        rw [hx]
        exact .str ox (by omega)
      refine ⟨_, rfl, S, C, _, _, rfl, rfl, s4, (by show n + 181 + 1 + 30 + 14 ≤ _; omega), fun v2 d2 H5 hv2 ni2 s5 f5 => ⟨(by show 2 ≤ sizeLine; decide), fun p2 np2 => ?_⟩⟩
      have s5' : Strm S C (n + 226) H5 := s5.mono (by show n + 181 + 1 + 30 + 14 ≤ _; omega)
      have f45 := f4.trans f5
      refine ⟨_, rfl, S, C, _, 2, rfl, s5'.lay np2 _, by omega, by decide, by decide, fun r4 H6 r0 r1 s6 f6 => ?_⟩
      have f56 : Fr S C H5 H6 := (Fr.lay np2 _).trans f6
      have f36 : Fr S C H3 H6 := f45.trans f56
      have h1 : Dp K (newp B H6) v1 d1 := Dp_mono ((newp_left xB3).trans (newp_fr sB (f5.trans f56))) hv1
      have h2 : Dp K (newp B H6) v2 d2 := Dp_mono ((newp_left (xB3.trans (Fr.ext s4 f4))).trans (newp_fr sB f56)) hv2
      have both : DpAll K (newp B H6) [v1, v2] [d1, d2] := .cons h1 (.cons h2 .nil)
      obtain ⟨u, eo, e1, hd, hu⟩ := DpAll_at both r0 r1
      have nu : Nice 2 6309 eo := by
        simp only [List.mem_cons, List.not_mem_nil, or_false] at hd
        rcases hd with rfl | rfl
        · exact ni1
        · exact ni2
      refine ⟨p2, _, r4, u, rfl, rfl, SqL.of (s5'.keep np2 f6), e1, ?_⟩
      have e6 : H6 D = some (.lst vs) := cut_keep f36 neS neC e3
      have hvl := DpAll_len dp3
      refine ⟨_, rfl, .inl ⟨rfl, _, SqL.of e6⟩, _, rfl, _, rfl, D, vs, rfl, .inl (SqL.of e6), _, _, rfl, rfl, S, C, _, (vs.length : Int) + 1, rfl, s6, by omega, by omega, by omega, fun r7 H7 r0 r1 s7 f7 => ?_⟩
      have e7 : H7 D = some (.lst vs) := cut_keep f7 neS neC e6
      have dp7 := DpAll_mono (newp_fr sB (f36.trans f7)) dp3
      have hu7 := Dp_mono (newp_fr sB f7) hu
      refine ⟨_, rfl, D, vs, r7, u, rfl, rfl, e7, ?_, r0, by omega, ?_⟩
      · exact Nat.lt_of_le_of_lt (show vs.length ≤ 20 by omega) (by decide)
      · refine ⟨⟨_, rfl⟩, _, ds.take r7.toNat ++ [eo] ++ ds.drop r7.toNat, upd_same, ?_, (n2.insert nu _).mono (by decide) (by decide), (s7.upd neS neC _).mono (by omega), Fr.upd (f3'.trans (f36.trans f7)) nD0⟩
        exact DpAll_mono (newp_upd tr) (DpAll_append (DpAll_snoc (DpAll_take _ dp7) hu7) (DpAll_drop _ dp7))
    · exact ⟨⟨_, rfl⟩, vs, ds, cut_keep f3 neS neC e, DpAll_mono (newp_fr sB f3) dp2, n2.mono (by decide) (by decide), s3.mono (by omega), f2'.trans f3⟩
  · rintro σ H3 ⟨⟨o, rfl⟩, vs, ds, e3, dp3, n3, s3, f3⟩
    refine ⟨_, rfl, S, C, _, 6, rfl, s3, by omega, by decide, by decide, fun r4 H4 r0 r1 s4 f4 => ⟨rfl, _, rfl, ite2 (fun c => ?_) (fun c => ?_)⟩⟩
    · exact ⟨_, rfl, q _ _ _ (new_lst nD0 (cut_keep f4 neS neC e3) (DpAll_mono ((newp_fr sB f4).trans (newp_left xH)) dp3)) (n3.lst.mono (by decide) (by decide)) (s4.mono (by omega)) (f3.trans f4)⟩
    · have e4 : H4 D = some (.lst vs) := cut_keep f4 neS neC e3
      refine ⟨_, rfl, D, vs, rfl, .inl ⟨SqL.of e4, fun l nl => ?_⟩⟩
      have nl0 : H l = none := Fr.ext s4 (f3.trans f4) l nl
      exact q _ _ _ (new_tup nl0 upd_same (DpAll_mono (((newp_fr sB f4).trans (newp_right (same_new nl _))).trans (newp_left xH)) dp3)) (n3.tup.mono (by decide) (by decide)) ((s4.lay nl _).mono (by omega)) ((f3.trans f4).trans (Fr.lay nl _))

theorem ok__law_near_value : FnOk P w K mg base CX0 5 Z.f__law_near_value Z.fd__law_near_value ["_law_stream"] (spGet K 260 (fun us => us = []) (Nice 4 40000)) := by
  refine Z.D__law_near_value.F.ok sc__law_near_value (fun vs H Q E h => ?_) (fun cdv A outer s H vs Q E hr h => ?_)
  · obtain ⟨S, C, n, us, rfl, rfl, _⟩ := h
    rfl
  obtain ⟨S, C, n, us, rfl, rfl, st, hn, q⟩ := h
  have c30 : CPow 10 30 := ⟨by decide, by decide, by decide⟩
  refine ⟨_, (pss_cons (ps_set (i := 1) sc__law_near_value.nd rfl (.inl rfl) (pe_call (ok__law_draw Z) (hr.mono (by decide)) (by rfl) Z.D__law_draw.m Z.D__law_draw.F.kp Z.D__law_draw.b .nil pass0 (pa_cons (pv 0) (pa_cons pe_int pa_nil))))
    (pss_cons (ps_if (pt_cmpR op_eq (pv 1) pe_int (nomark _)) (pss_one (ps_ret (pe_call (ok__law_value Z) (hr.mono (by decide)) (by rfl) Z.D__law_value.m Z.D__law_value.F.kp Z.D__law_value.b .nil pass0 (pa_cons (pv 0) pa_nil)))) pss_nil)
    (pss_cons (ps_if (pt_cmpR op_eq (pv 1) pe_int (nomark _)) (pss_one (ps_ret (pe_call (ok__law_near_name Z) (hr.mono (by decide)) (by rfl) Z.D__law_near_name.m Z.D__law_near_name.F.kp Z.D__law_near_name.b .nil pass0 (pa_cons (pv 0) pa_nil)))) pss_nil)
    (pss_cons (ps_if (pt_cmpR op_eq (pv 1) pe_int (nomark _)) (pss_one (ps_ret (pe_call (ok__law_thing Z 2) (hr.mono (by decide)) (by rfl) Z.D__law_thing.m Z.D__law_thing.F.kp Z.D__law_thing.b .nil pass0 (pa_cons (pv 0) (pa_cons pe_int pa_nil))))) pss_nil)
    (pss_cons (ps_if (pt_cmpR op_eq (pv 1) pe_int (nomark _)) (pss_one (ps_ret (pe_ix (ixL (K := K)) (pe_lst (pa_cons pe_bl (pa_cons pe_bl (pa_cons (pe_op op_sub (pe_op op_pow pe_int pe_int) pe_int) (pa_cons (pe_op op_sub pe_int (pe_op op_pow pe_int pe_int)) (pa_cons pe_int (pa_cons (pe_un un_neg pe_int) pa_nil))))))) (pe_call (ok__law_draw Z) (hr.mono (by decide)) (by rfl) Z.D__law_draw.m Z.D__law_draw.F.kp Z.D__law_draw.b .nil pass0 (pa_cons (pv 0) (pa_cons pe_int pa_nil))) (fun _ _ => rfl)))) pss_nil)
    (pss_cons (ps_set (i := 2) sc__law_near_value.nd rfl (.inl rfl) (pe_lst (pa_cons pe_str (pa_cons (pe_call (ok__law_near_path Z) (hr.mono (by decide)) (by rfl) Z.D__law_near_path.m Z.D__law_near_path.F.kp Z.D__law_near_path.b .nil pass0 (pa_cons (pv 0) pa_nil)) pa_nil))))
    (C8.pss_cut (ps_if (pt_cmpR op_eq (pv 1) pe_int (nomark _)) (pss_one (ps_asg (pe_ix (ixL (K := K)) (pe_lst (pa_cons pe_str (pa_cons pe_str (pa_cons pe_str (pa_cons pe_non (pa_cons (pe_tup (pa_cons pe_str pa_nil)) (pa_cons pe_int pa_nil))))))) (pe_call (ok__law_draw Z) (hr.mono (by decide)) (by rfl) Z.D__law_draw.m Z.D__law_draw.F.kp Z.D__law_draw.b .nil pass0 (pa_cons (pv 0) (pa_cons pe_int pa_nil))) (fun _ _ => rfl)) (pg_sub (pv 2) pe_int set_list))) pss_nil)
    (C8.pss_cut (ps_if (pt_cmpR op_eq (pv 1) pe_int (nomark _)) (pss_one (ps_expr (pe_bm PySem.F.plainAttrs_list PySem.F.slot_list_append PySem.F.type_list_append mt_append (pv 2) (pa_cons (pe_ix (ixL (K := K)) (pe_lst (pa_cons pe_non (pa_cons (pe_tup pa_nil) (pa_cons pe_str pa_nil)))) (pe_call (ok__law_draw Z) (hr.mono (by decide)) (by rfl) Z.D__law_draw.m Z.D__law_draw.F.kp Z.D__law_draw.b .nil pass0 (pa_cons (pv 0) (pa_cons pe_int pa_nil))) (fun _ _ => rfl)) pa_nil)))) pss_nil)
    (C8.pss_cut (ps_if (pt_cmpR op_eq (pv 1) pe_int (nomark _)) (pss_one (ps_expr (pe_bm PySem.F.plainAttrs_list PySem.F.slot_list_pop PySem.F.type_list_pop mt_popAt (pv 2) (pa_cons (pe_call (ok__law_draw Z) (hr.mono (by decide)) (by rfl) Z.D__law_draw.m Z.D__law_draw.F.kp Z.D__law_draw.b .nil pass0 (pa_cons (pv 0) (pa_cons pe_int pa_nil))) pa_nil)))) pss_nil)
    (pss_one (ps_ret (pe_ifExp (pt_cmpR op_eq (pv 1) pe_int (nomark _)) (pv 2) (pe_callTy (tupK (K := K)) (by rfl) Z.T.tuple (by decide +kernel) (pa_cons (pv 2) pa_nil)))))))))))))), ?_⟩
  refine ⟨_, rfl, S, C, n, 10, rfl, st, by omega, by decide, by decide, fun r H1 r0 r1 s1 f1 => ?_⟩
  refine ⟨_, rfl, rfl, _, rfl, ite2 (fun c => ?_) (fun c => ?_)⟩
  · refine ⟨_, rfl, S, C, n + 1, [], rfl, rfl, s1, by omega, fun v d H2 hv nv s2 f2 => ?_⟩
    exact q v d H2 (Dp_mono (newp_left (f1.ext s1)) hv) (nv.mono (by decide) (by decide)) (s2.mono (by omega)) (f1.trans f2)
  clear c
  refine ⟨_, rfl, rfl, _, rfl, ite2 (fun c => ?_) (fun c => ?_)⟩
  · refine ⟨_, rfl, S, C, n + 1, [], rfl, rfl, s1, by omega, fun v d H2 hv ⟨x, hx, hl, ox⟩ s2 f2 => ?_⟩
    exact q v d H2 (Dp_mono (newp_left (f1.ext s1)) hv) (by rw [hx]; exact .str ox (by omega)) (s2.mono (by omega)) (f1.trans f2)
  clear c
  refine ⟨_, rfl, rfl, _, rfl, ite2 (fun c => ?_) (fun c => ?_)⟩
  · refine ⟨_, rfl, S, C, n + 1, _, rfl, rfl, s1, (by show n + 1 + 47 ≤ _; omega), fun v d H2 hv nv s2 f2 => ?_⟩
    exact q v d H2 (Dp_mono (newp_left (f1.ext s1)) hv) (nv.mono (by decide) (by decide)) (s2.mono (by show n + 1 + 47 ≤ _; omega)) (f1.trans f2)
  clear c
  refine ⟨_, rfl, rfl, _, rfl, ite2 (fun c => ?_) (fun c => ?_)⟩
  · refine ⟨_, _, rfl, rfl, c30, _, _, rfl, rfl, _, _, rfl, rfl, c30, _, _, rfl, rfl, _, rfl, (by show 6 ≤ sizeLine; decide), fun p np => ⟨_, rfl, S, C, n + 1, 6, rfl, s1.lay np _, by omega, by decide, by decide, fun r2 H2 r0 r1 s2 f2 => ?_⟩⟩
    have dp : DpAll K (newp H H2) [V.bl true, V.bl false, V.int (10 ^ 30 - 1), V.int (1 - 10 ^ 30), V.int 0, V.int (-1)] [.bool true, .bool false, .int (10 ^ 30 - 1), .int (1 - 10 ^ 30), .int 0, .int (-1)] :=
      .cons (.bl _) (.cons (.bl _) (.cons (.int _) (.cons (.int _) (.cons (.int _) (.cons (.int _) .nil)))))
    obtain ⟨v, d, e1, hd, hv⟩ := DpAll_at dp r0 r1
    have all : ∀ d ∈ ([.bool true, .bool false, .int (10 ^ 30 - 1), .int (1 - 10 ^ 30), .int 0, .int (-1)] : List PyData), Nice 4 40000 d := by
      intro d hd
      simp only [List.mem_cons, List.not_mem_nil, or_false] at hd
      rcases hd with rfl | rfl | rfl | rfl | rfl | rfl <;> exact ⟨by decide +kernel, by decide +kernel, by decide +kernel⟩
    exact ⟨p, _, r2, v, rfl, rfl, SqL.of (s1.keep np f2), e1, q v d H2 hv (all d hd) (s2.mono (by omega)) ((f1.trans (Fr.lay np _)).trans f2)⟩
  clear c
  refine ⟨_, rfl, S, C, n + 1, [], rfl, rfl, s1, by omega, fun v0 d0 H2 hv0 nv0 s2 f2 => ⟨(by show 2 ≤ sizeLine; decide), fun D nD => ?_⟩⟩
  have f2' : Fr S C H H2 := f1.trans f2
  have nD0 : H D = none := f2'.ext s2 D nD
  have neS := s2.neS nD
  have neC := s2.neC nD
  obtain ⟨G, xG, trG, sG, wG, xGB⟩ := side s1 s2 f2 nD (.lst [V.str "link", v0])
  have dB : DpAll K (newp G (upd H2 D (.lst [V.str "link", v0]))) [V.str "link", v0] [.str "link", d0] := .cons (.str _) (.cons (Dp_mono wG hv0) .nil)
  have lk : Nice 1 50 (.str "link") := ⟨by decide +kernel, by decide +kernel, by decide +kernel⟩
  have nB : Nices 3 9200 [.str "link", d0] := (((Nices.one lk).mono (n' := 3) (by decide) (Nat.le_refl _)).append (.one nv0)).mono (by decide) (by decide)
  have xHG : Ext H G := (f1.ext s1).trans xG
  have sB := s2.lay nD (.lst [V.str "link", v0])
  have eB : (upd H2 D (.lst [V.str "link", v0])) D = some (.lst [V.str "link", v0]) := upd_same
  have fB : Fr S C H (upd H2 D (.lst [V.str "link", v0])) := f2'.trans (Fr.lay nD _)
  generalize (upd H2 D (.lst [V.str "link", v0])) = B at sB eB fB dB xGB ⊢
  let Md : Nat → Nat → Nat → Hp → Prop := fun m k b H' => ∃ (vs : List V) (ds : List PyData), H' D = some (.lst vs) ∧ 2 ≤ vs.length ∧ vs.length ≤ m ∧ DpAll K (newp G H') vs ds ∧ Nices 3 b ds ∧ Strm S C (n + k) H' ∧ Fr S C H H' ∧ Ext G H'
  -- if way == 4
  refine ⟨fun σ H' => σ = [some (.ref S), some (.int r), some (.ref D)] ∧ Md 2 246 12000 H', ?_, ?_⟩
  · refine ⟨_, rfl, rfl, _, rfl, ite2 (fun c => ?_) (fun c => ?_)⟩
    · refine ⟨(by show 1 ≤ sizeLine; decide), fun p1 n1 => ⟨(by show 6 ≤ sizeLine; decide), fun p2 n2 => ?_⟩⟩
      have w1 := same_new n1 (.tup [V.str "link"])
      have a1 : (upd B p1 (.tup [V.str "link"])) p1 = some (.tup [V.str "link"]) := upd_same
      have sB1 := sB.lay n1 (.tup [V.str "link"])
      have ng1 : G p1 = none := xGB p1 n1
      have n1S := sB.neS n1
      have n1C := sB.neC n1
      generalize (upd B p1 (.tup [V.str "link"])) = B1 at n2 w1 a1 sB1 ⊢
      refine ⟨_, rfl, S, C, _, 6, rfl, sB1.lay n2 _, by omega, by decide, by decide, fun r2 H3 r0 r1 s3 f3 => ?_⟩
      have f13 : Fr S C B1 H3 := (Fr.lay n2 _).trans f3
      have fB3 : Fr S C B H3 := (Fr.of_same w1).trans f13
      have dp : DpAll K (newp G H3) [V.str "Link", V.str "links", V.str "", V.non, V.ref p1, V.int 0] [.str "Link", .str "links", .str "", .none, .tuple [.str "link"], .int 0] :=
        .cons (.str _) (.cons (.str _) (.cons (.str _) (.cons .non (.cons (new_tup ng1 (cut_keep f13 n1S n1C a1) (.cons (.str _) .nil)) (.cons (.int _) .nil)))))
      obtain ⟨v, d, e1, hd, hv⟩ := DpAll_at dp r0 r1
      have all : ∀ d ∈ ([.str "Link", .str "links", .str "", .none, .tuple [.str "link"], .int 0] : List PyData), Nice 3 2000 d := by
        intro d hd
        simp only [List.mem_cons, List.not_mem_nil, or_false] at hd
        rcases hd with rfl | rfl | rfl | rfl | rfl | rfl <;> exact ⟨by decide +kernel, by decide +kernel, by decide +kernel⟩
      have e3 : H3 D = some (.lst [V.str "link", v0]) := cut_keep fB3 neS neC eB
      refine ⟨p2, _, r2, v, rfl, rfl, SqL.of (sB1.keep n2 f3), e1, _, rfl, D, _, _, 0, rfl, rfl, e3, rfl, rfl, _, [.str "link", d0].set 0 d, upd_same, (by show 2 ≤ 2; decide), (by show 2 ≤ 2; decide), ?_, (nB.set (all d hd) 0).mono (by decide) (by decide), (s3.upd neS neC _).mono (by omega), Fr.upd (fB.trans fB3) nD0, (xGB.trans (Fr.ext s3 fB3)).trans Ext.upd⟩
      exact DpAll_mono (newp_upd trG) (DpAll_set hv 0 (DpAll_mono (newp_fr sG fB3) dB))
    · exact ⟨rfl, _, _, eB, (by show 2 ≤ 2; decide), (by show 2 ≤ 2; decide), dB, nB.mono (by decide) (by decide), sB.mono (by omega), fB, xGB⟩
  rintro σ B4 ⟨rfl, v4, d4, e4, l4, l4', dp4, n4, s4, f4, x4⟩
  -- if way == 5
  refine ⟨fun σ H' => σ = [some (.ref S), some (.int r), some (.ref D)] ∧ Md 3 247 13000 H', ?_, ?_⟩
  · refine ⟨_, rfl, rfl, _, rfl, ite2 (fun c => ?_) (fun c => ?_)⟩
    · refine ⟨_, rfl, .inl ⟨rfl, _, SqL.of e4⟩, (by show 0 ≤ sizeLine; decide), fun p1 n1 => ⟨(by show 3 ≤ sizeLine; decide), fun p2 n2 => ?_⟩⟩
      have w1 := same_new n1 (.tup [])
      have a1 : (upd B4 p1 (.tup [])) p1 = some (.tup []) := upd_same
      have sB1 := s4.lay n1 (.tup [])
      have ng1 : G p1 = none := x4 p1 n1
      have n1S := s4.neS n1
      have n1C := s4.neC n1
      generalize (upd B4 p1 (.tup [])) = B1 at n2 w1 a1 sB1 ⊢
      refine ⟨_, rfl, S, C, _, 3, rfl, sB1.lay n2 _, by omega, by decide, by decide, fun r2 H3 r0 r1 s3 f3 => ?_⟩
      have f13 : Fr S C B1 H3 := (Fr.lay n2 _).trans f3
      have fB3 : Fr S C B4 H3 := (Fr.of_same w1).trans f13
      have dp : DpAll K (newp G H3) [V.non, V.ref p1, V.str "a"] [.none, .tuple [], .str "a"] :=
        .cons .non (.cons (new_tup ng1 (cut_keep f13 n1S n1C a1) .nil) (.cons (.str _) .nil))
      obtain ⟨v, d, e1, hd, hv⟩ := DpAll_at dp r0 r1
      have all : ∀ d ∈ ([.none, .tuple [], .str "a"] : List PyData), Nice 3 20 d := by
        intro d hd
        simp only [List.mem_cons, List.not_mem_nil, or_false] at hd
        rcases hd with rfl | rfl | rfl <;> exact ⟨by decide +kernel, by decide +kernel, by decide +kernel⟩
      have e3 : H3 D = some (.lst v4) := cut_keep fB3 neS neC e4
      refine ⟨p2, _, r2, v, rfl, rfl, SqL.of (sB1.keep n2 f3), e1, D, _, _, rfl, rfl, e3, Nat.lt_of_le_of_lt l4' (by decide), rfl, _, d4 ++ [d], upd_same, ?_, ?_, ?_, (n4.snoc (all d hd)).mono (by decide) (by decide), (s3.upd neS neC _).mono (by omega), Fr.upd (f4.trans fB3) nD0, (x4.trans (Fr.ext s3 fB3)).trans Ext.upd⟩
      · rw [List.length_append]; omega
      · rw [List.length_append]; show v4.length + 1 ≤ 3; omega
      · exact DpAll_mono (newp_upd trG) (DpAll_snoc (DpAll_mono (newp_fr sG fB3) dp4) hv)
    · exact ⟨rfl, v4, d4, e4, l4, by omega, dp4, n4.mono (by decide) (by decide), s4.mono (by omega), f4, x4⟩
  rintro σ B5 ⟨rfl, v5, d5, e5, l5, l5', dp5, n5, s5, f5, x5⟩
  -- if way == 6
  refine ⟨fun σ H' => σ = [some (.ref S), some (.int r), some (.ref D)] ∧ ∃ (vs : List V) (ds : List PyData), H' D = some (.lst vs) ∧ DpAll K (newp G H') vs ds ∧ Nices 3 26000 ds ∧ Strm S C (n + 248) H' ∧ Fr S C H H', ?_, ?_⟩
  · refine ⟨_, rfl, rfl, _, rfl, ite2 (fun c => ?_) (fun c => ?_)⟩
    · refine ⟨_, rfl, .inl ⟨rfl, _, SqL.of e5⟩, _, rfl, S, C, _, 2, rfl, s5, by omega, by decide, by decide, fun r2 H3 r0 r1 s3 f3 => ?_⟩
      have e3 : H3 D = some (.lst v5) := cut_keep f3 neS neC e5
      have hlt : r2.toNat < v5.length := by omega
      refine ⟨D, v5, r2, r2.toNat, v5[r2.toNat], rfl, rfl, e3, by omega, by omega, seqIx r0 (by omega), List.getElem?_eq_getElem hlt, rfl, _, d5.eraseIdx r2.toNat, upd_same, ?_, (n5.erase _).mono (by decide) (by decide), (s3.upd neS neC _).mono (by omega), Fr.upd (f5.trans f3) nD0⟩
      exact DpAll_mono (newp_upd trG) (DpAll_erase _ (DpAll_mono (newp_fr sG f3) dp5))
    · exact ⟨rfl, v5, d5, e5, dp5, n5.mono (by decide) (by decide), s5.mono (by omega), f5⟩
  rintro σ B6 ⟨rfl, v6, d6, e6, dp6, n6, s6, f6⟩
  refine ⟨_, rfl, rfl, _, rfl, ite2 (fun c => ?_) (fun c => ?_)⟩
  · exact ⟨_, rfl, q _ _ _ (new_lst nD0 e6 (DpAll_mono (newp_left xHG) dp6)) (n6.lst.mono (by decide) (by decide)) (s6.mono (by omega)) f6⟩
  · refine ⟨_, rfl, D, v6, rfl, .inl ⟨SqL.of e6, fun l nl => ?_⟩⟩
    have nl0 : H l = none := f6.ext s6 l nl
    exact q _ _ _ (new_tup nl0 upd_same (DpAll_mono ((newp_right (same_new nl _)).trans (newp_left xHG)) dp6)) (n6.tup.mono (by decide) (by decide)) ((s6.lay nl _).mono (by omega)) (f6.trans (Fr.lay nl _))

/-! ### is_value -/
theorem ok_is_integer : FnOk P w K mg base CX0 1 Z.f_is_integer Z.fd_is_integer ["value"] (spTell K intD) := by
  refine Z.D_is_integer.F.ok sc_is_integer (fun vs H Q E h => ?_) (fun cdv A outer s H vs Q E hr h => ?_)
  · obtain ⟨v, d, rfl, _⟩ := h
    rfl
  obtain ⟨v, d, rfl, hd, ok, q⟩ := h
  refine ⟨_, (pss_one (ps_ret (pe_and (pe_callB (isiK (K := K)) (by rfl) Z.T.isinstance (by decide +kernel) (pa_cons (pv 0) (pa_cons (pe_bltn (v := .ty "int") (u := .type "int") (by rfl) Z.T.int (by decide +kernel) rfl) pa_nil))) (pe_one (pe_not (pe_callB (isiK (K := K)) (by rfl) Z.T.isinstance (by decide +kernel) (pa_cons (pv 0) (pa_cons (pe_bltn (v := .ty "bool") (u := .type "bool") (by rfl) Z.T.bool (by decide +kernel) rfl) pa_nil)))))))), ?_⟩
  refine ⟨_, rfl, _, _, _, _, isInt d, rfl, .ty "int", Dp_type hd, kit_int hd, _, rfl, ?_⟩
  have e : intD d = (isInt d && !isBool d) := by cases d <;> rfl
  have q' := q H (Same.refl H)
  rw [e] at q'
  refine ite2 (fun c => ?_) (fun c => ?_)
  · refine ⟨_, rfl, _, _, _, _, isBool d, rfl, .ty "bool", Dp_type hd, kit_bool hd, _, rfl, ?_⟩
    rw [c, Bool.true_and] at q'
    exact q'
  · rw [Bool.eq_false_iff.mpr c, Bool.false_and] at q'
    exact q'

theorem ok_is_link : FnOk P w K mg base CX0 3 Z.f_is_link Z.fd_is_link ["value"] (spTell K linkD) := by
  refine Z.D_is_link.F.ok sc_is_link (fun vs H Q E h => ?_) (fun cdv A outer s H vs Q E hr h => ?_)
  · obtain ⟨v, d, rfl, _⟩ := h
    rfl
  obtain ⟨v, d, rfl, hd, ok, q⟩ := h
  refine ⟨_, (pss_cons (ps_if (PW.pt (pw_or (pt_not (pt_val (pe_callB (isiK (K := K)) (by rfl) Z.T.isinstance (by decide +kernel) (pa_cons (pv 0) (pa_cons (pe_bltn (v := .ty "tuple") (u := .type "tuple") (by rfl) Z.T.tuple (by decide +kernel) rfl) pa_nil))))) (pw_or1 (pt_cmpR op_ne (pe_callB (lenK (K := K)) (by rfl) Z.T.len (by decide +kernel) (pa_cons (pv 0) pa_nil)) pe_int (nomark _))))) (pss_one (ps_ret pe_bl)) pss_nil)
    (pss_one (ps_ret (pe_and (pe_cmpR (eqDK (K := K) hr.units) (pe_ix (ixT (K := K)) (pv 0) pe_int (fun _ _ => rfl)) pe_str (nomark _)) (pe_one (pe_call (ok_is_path Z) (hr.mono (by decide)) (by rfl) Z.D_is_path.m Z.D_is_path.F.kp Z.D_is_path.b .nil pass0 (pa_cons (pe_ix (ixT (K := K)) (pv 0) pe_int (fun _ _ => rfl)) pa_nil))))))), ?_⟩
  refine ⟨_, rfl, _, _, _, _, isTup d, rfl, .ty "tuple", Dp_type hd, kit_tup hd, _, rfl, ?_⟩
  cases d with
  | tuple ds =>
    cases hd with
    | @tup a xs _ hs ha =>
      have hl := DpAll_len ha
      refine iteF ?_
      refine ⟨_, rfl, a, xs, rfl, .inr hs, rfl, _, rfl, ite2 (fun c => ?_) (fun c => ?_)⟩
      · have q' := q H (Same.refl H)
        rw [linkD_not (by rw [← hl]; exact ne_two c)] at q'
        exact q'
      obtain ⟨x, y, d0, d1, rfl, rfl, h0, h1⟩ := two_of ha (is_two c)
      have ok0 := ok.item (List.mem_cons_self (a := d0) (l := [d1]))
      have ok1 := ok.item (List.mem_cons_of_mem d0 (List.mem_cons_self (a := d1) (l := [])))
      have q2 : ∀ H', Same H H' → Q (.bl (PyData.eqv d0 (.str (Str.ofString "link")) && pathD d1)) H' := q
      refine ⟨_, rfl, a, _, 0, x, rfl, rfl, hs, rfl, d0, _, h0, .str _, ok0.shaped, link_shaped, _, rfl, ite2 (fun c => ?_) (fun c => ?_)⟩
      · refine ⟨_, rfl, a, _, 1, y, rfl, rfl, hs, rfl, y, d1, rfl, h1, ok1, fun H' s' => ?_⟩
        have q3 := q2 H' s'
        rw [c, Bool.true_and] at q3
        exact q3
      · have q3 := q2 H (Same.refl H)
        rw [Bool.eq_false_iff.mpr c, Bool.false_and] at q3
        exact q3
  | _ => exact iteT (q H (Same.refl H))

theorem ok_is_value : FnOk P w K mg base CX0 4 Z.f_is_value Z.fd_is_value ["value"] (spTell K valueD) := by
  refine Z.D_is_value.F.ok sc_is_value (fun vs H Q E h => ?_) (fun cdv A outer s H vs Q E hr h => ?_)
  · obtain ⟨v, d, rfl, _⟩ := h
    rfl
  obtain ⟨v, d, rfl, hd, ok, q⟩ := h
  refine ⟨_, (pss_one (ps_ret (pe_or (pe_call (ok_is_integer Z) (hr.mono (by decide)) (by rfl) Z.D_is_integer.m Z.D_is_integer.F.kp Z.D_is_integer.b .nil pass0 (pa_cons (pv 0) pa_nil)) (pe_or (pe_call (ok_is_name Z) (hr.mono (by decide)) (by rfl) Z.D_is_name.m Z.D_is_name.F.kp Z.D_is_name.b .nil pass0 (pa_cons (pv 0) pa_nil)) (pe_one (pe_call (ok_is_link Z) (hr.mono (by decide)) (by rfl) Z.D_is_link.m Z.D_is_link.F.kp Z.D_is_link.b .nil pass0 (pa_cons (pv 0) pa_nil))))))), ?_⟩
  refine ⟨_, rfl, v, d, rfl, hd, ok, fun H1 s1 => ⟨_, rfl, ite2 (fun c => ?_) (fun c => ?_)⟩⟩
  · have q' := q H1 s1
    unfold valueD at q'
    rw [c, Bool.true_or] at q'
    exact q'
  refine ⟨_, rfl, v, d, rfl, Dp_mono s1 hd, ok, fun H2 s2 => ⟨_, rfl, ite2 (fun c2 => ?_) (fun c2 => ?_)⟩⟩
  · have q' := q H2 (s1.trans s2)
    unfold valueD at q'
    rw [Bool.eq_false_iff.mpr c, c2, Bool.true_or, Bool.or_true] at q'
    exact q'
  refine ⟨_, rfl, v, d, rfl, Dp_mono (s1.trans s2) hd, ok, fun H3 s3 => ?_⟩
  have q' := q H3 ((s1.trans s2).trans s3)
  unfold valueD at q'
  rw [Bool.eq_false_iff.mpr c, Bool.eq_false_iff.mpr c2, Bool.false_or, Bool.false_or] at q'
  exact q'

/-! ### _law_is_value -/
theorem ok__law_is_value : FnG P w K mg base CX0 3 Z.f__law_is_value Z.fd__law_is_value ["_law_thing_here"] (spTell K valueD) := by
  refine Fun_okG Z.D__law_is_value.F sc__law_is_value (fun vs H Q E h => ?_) (fun cdv A outer s H vs Q E hG hr h => ?_)
  · obtain ⟨v, d, rfl, _⟩ := h
    rfl
  obtain ⟨v, d, rfl, hd, ok, q⟩ := h
  refine ⟨_, (pss_cons (ps_if (pt_val (pe_callB (isiK (K := K)) (by rfl) Z.T.isinstance (by decide +kernel) (pa_cons (pv 0) (pa_cons (pe_bltn (v := .ty "tuple") (u := .type "tuple") (by rfl) Z.T.tuple (by decide +kernel) rfl) pa_nil)))) (pss_one (ps_ret (pe_and (pe_cmpR op_eq (pe_callB (lenK (K := K)) (by rfl) Z.T.len (by decide +kernel) (pa_cons (pv 0) pa_nil)) pe_int (nomark _)) (pe_and (pe_callG (ok__law_same Z) hG (hr.mono (by decide)) (by rfl) Z.D__law_same.m Z.D__law_same.F.kp Z.D__law_same.b .nil pass0 (pa_cons (pe_ix (ixT (K := K)) (pv 0) pe_int (fun _ _ => rfl)) (pa_cons pe_str pa_nil))) (pe_one (pe_call (ok__law_is_path Z) (hr.mono (by decide)) (by rfl) Z.D__law_is_path.m Z.D__law_is_path.F.kp Z.D__law_is_path.b .nil pass0 (pa_cons (pe_ix (ixT (K := K)) (pv 0) pe_int (fun _ _ => rfl)) pa_nil))))))) pss_nil)
    (pss_one (ps_ret (pe_or (pe_call (ok__law_is_name Z) (hr.mono (by decide)) (by rfl) Z.D__law_is_name.m Z.D__law_is_name.F.kp Z.D__law_is_name.b .nil pass0 (pa_cons (pv 0) pa_nil)) (pe_one (pe_and (pe_callB (isiK (K := K)) (by rfl) Z.T.isinstance (by decide +kernel) (pa_cons (pv 0) (pa_cons (pe_bltn (v := .ty "int") (u := .type "int") (by rfl) Z.T.int (by decide +kernel) rfl) pa_nil))) (pe_one (pe_not (pe_callB (isiK (K := K)) (by rfl) Z.T.isinstance (by decide +kernel) (pa_cons (pv 0) (pa_cons (pe_bltn (v := .ty "bool") (u := .type "bool") (by rfl) Z.T.bool (by decide +kernel) rfl) pa_nil))))))))))), ?_⟩
  refine ⟨_, rfl, _, _, _, _, isTup d, rfl, .ty "tuple", Dp_type hd, kit_tup hd, _, rfl, ite2 (fun ct => ?_) (fun ct => ?_)⟩
  · cases d with
    | tuple ds =>
      cases hd with
      | @tup a xs _ hs ha =>
        have hl := DpAll_len ha
        refine ⟨_, rfl, a, xs, rfl, .inr hs, rfl, _, rfl, ite2 (fun c => ?_) (fun c => ?_)⟩
        · obtain ⟨x, y, d0, d1, rfl, rfl, h0, h1⟩ := two_of ha (is_two' c)
          have ok0 := ok.item (List.mem_cons_self (a := d0) (l := [d1]))
          have ok1 := ok.item (List.mem_cons_of_mem d0 (List.mem_cons_self (a := d1) (l := [])))
          have q2 : ∀ H', Same H H' → Q (.bl (PyData.eqv d0 (.str (Str.ofString "link")) && pathD d1)) H' := q
          refine ⟨_, rfl, a, _, 0, x, rfl, rfl, hs, rfl, x, _, d0, .str _, rfl, h0, .str _, ok0, link_ok, _, rfl, ?_⟩
          rw [shown_link ok0.fine]
          refine ite2 (fun c => ?_) (fun c => ?_)
          · refine ⟨_, rfl, a, _, 1, y, rfl, rfl, hs, rfl, y, d1, rfl, h1, ok1, fun H' s' => ?_⟩
            have q3 := q2 H' s'
            rw [c, Bool.true_and] at q3
            exact q3
          · have q3 := q2 H (Same.refl H)
            rw [Bool.eq_false_iff.mpr c, Bool.false_and] at q3
            exact q3
        · have q2 : Q (.bl (linkD (.tuple ds))) H := q H (Same.refl H)
          rw [linkD_not (by rw [← hl]; exact ne_two' c)] at q2
          exact q2
    | _ => cases ct
  · have e : valueD d = (nameD d || intD d) := by
      cases d <;> first | rfl | exact absurd rfl ct | simp [valueD, intD, linkD, nameD]
    refine ⟨_, rfl, v, d, rfl, hd, ok, fun H1 s1 => ⟨_, rfl, ite2 (fun c => ?_) (fun c => ?_)⟩⟩
    · have q' := q H1 s1
      rw [e, c, Bool.true_or] at q'
      exact q'
    have hd1 := Dp_mono s1 hd
    have q' := q H1 s1
    rw [e, Bool.eq_false_iff.mpr c, Bool.false_or, show intD d = (isInt d && !isBool d) by cases d <;> rfl] at q'
    refine ⟨_, rfl, _, _, _, _, isInt d, rfl, .ty "int", Dp_type hd1, kit_int hd1, _, rfl, ite2 (fun c => ?_) (fun c => ?_)⟩
    · refine ⟨_, rfl, _, _, _, _, isBool d, rfl, .ty "bool", Dp_type hd1, kit_bool hd1, _, rfl, ?_⟩
      rw [c, Bool.true_and] at q'
      exact q'
    · rw [Bool.eq_false_iff.mpr c, Bool.false_and] at q'
      exact q'

/-! ### law -/
def spLaw (K : PySem.W.Frag) : Sp := fun vs H Q _ => ∃ (a : Addr) (ns : List Int), vs = [.ref a] ∧ SqL K H a (ns.map V.int) ∧ ns.length ≤ 63 ∧ ∀ H', Q (.bl true) H'

theorem ok_law {f : Addr} {fd : FuncData} (F : Fun K "law" "law" s_law f fd) : FnG P w K mg base CX0 6 f fd ["_law_script"] (spLaw K) := by
  refine Fun_okG F sc_law (fun vs H Q E h => ?_) (fun cdv A outer s H vs Q E hG hr h => ?_)
  · obtain ⟨a, ns, rfl, _⟩ := h
    rfl
  obtain ⟨a, ns, rfl, hS, hl, q⟩ := h
  refine ⟨_, (pss_cons (ps_set (i := 1) sc_law.nd rfl (.inl rfl) (pe_lst (pa_cons (pe_callTy (lstK (K := K)) (by rfl) Z.T.list (by decide +kernel) (pa_cons (pv 0) pa_nil)) (pa_cons pe_int (pa_cons pe_int (pa_cons pe_int pa_nil))))))
    (pss_cons (ps_for PassesOwn.never rfl (pi_range1 (by rfl) Z.T.range (pa_cons pe_int pa_nil)) (pg_name (i := 2) sc_law.nd rfl (.inl rfl)) (pss_cons (ps_set (i := 3) sc_law.nd rfl (.inr rfl) (pe_call (ok__law_near_value Z) (hr.mono (by decide)) (by rfl) Z.D__law_near_value.m Z.D__law_near_value.F.kp Z.D__law_near_value.b .nil pass0 (pa_cons (pv 1) pa_nil)))
    (pss_cons (ps_set (i := 4) sc_law.nd rfl (.inl rfl) (pe_callB (reprK (K := K) hG hr.units) (by rfl) Z.T.repr (by decide +kernel) (pa_cons (pv 3) pa_nil)))
    (pss_cons (ps_setLc (i := 5) (own := [("_law_again", 6)]) (g := gName 6) (tt := tYes) rfl sc_law.nd rfl rfl (sw_true rfl rfl rfl (by decide +kernel)) (pi_range1 (by rfl) Z.T.range (pa_cons pe_int pa_nil)) (blkOk_by (own := [("_law_again", 6)]) (N := ["_law_script", "_law_stream", "_law_turn", "_law_thing_here", "_law_kept", "_law_found", "_law_again", "_law_some"]) (sc := defScope s_law) (by decide +kernel)) (fun _ _ _ _ _ => (pg_name (i := 6) sc_law.nd rfl (.inl rfl))) (fun _ _ _ _ _ => pts_nil) (fun _ _ _ _ _ => (pe_call (ok_is_value Z) (hr.mono (by decide)) (by rfl) Z.D_is_value.m Z.D_is_value.F.kp Z.D_is_value.b .nil pass0 (pa_cons (pv 3) pa_nil))))
    (pss_one (ps_if (PW.pt (pw_or (pt_not (pt_val (pe_callG (ok__law_same Z) hG (hr.mono (by decide)) (by rfl) Z.D__law_same.m Z.D__law_same.F.kp Z.D__law_same.b .nil pass0 (pa_cons (pv 5) (pa_cons (pe_op op_rep (pe_lst (pa_cons (pe_callG (ok__law_is_value Z) hG (hr.mono (by decide)) (by rfl) Z.D__law_is_value.m Z.D__law_is_value.F.kp Z.D__law_is_value.b .nil pass0 (pa_cons (pv 3) pa_nil)) pa_nil)) pe_int) pa_nil))))) (pw_or1 (pt_cmpR op_ne (pe_callB (reprK (K := K) hG hr.units) (by rfl) Z.T.repr (by decide +kernel) (pa_cons (pv 3) pa_nil)) (pv 4) (nomark _))))) (pss_one (ps_ret pe_bl)) pss_nil))))))
    (pss_cons (ps_set (i := 7) sc_law.nd rfl (.inl rfl) (pe_lst (pa_cons pe_int (pa_cons (pe_un un_neg pe_int) (pa_cons pe_str (pa_cons (pe_tup (pa_cons pe_str (pa_cons (pe_tup pa_nil) pa_nil))) (pa_cons pe_bl (pa_cons pe_bl (pa_cons pe_str (pa_cons (pe_lst (pa_cons pe_str (pa_cons (pe_tup pa_nil) pa_nil))) (pa_cons (pe_tup (pa_cons pe_str (pa_cons (pe_lst pa_nil) pa_nil))) (pa_cons (pe_tup (pa_cons pe_str pa_nil)) (pa_cons (pe_tup (pa_cons pe_str (pa_cons pe_str pa_nil))) (pa_cons pe_non pa_nil))))))))))))))
    (pss_one (ps_ret (pe_cmpR (eqDK (K := K) hr.units) (pe_lc (own := [("_law_thing_here", 3)]) (g := gName 3) (tt := tYes) rfl sc_law.nd (pi_list (pv 7)) (blkOk_by (own := [("_law_thing_here", 3)]) (N := ["_law_script", "_law_stream", "_law_turn", "_law_thing_here", "_law_kept", "_law_found", "_law_again", "_law_some"]) (sc := defScope s_law) (by decide +kernel)) (fun _ _ _ _ _ => (pg_name (i := 3) sc_law.nd rfl (.inl rfl))) (fun _ _ _ _ _ => pts_nil) (fun _ _ _ _ _ => (pe_call (ok_is_value Z) (hr.mono (by decide)) (by rfl) Z.D_is_value.m Z.D_is_value.F.kp Z.D_is_value.b .nil pass0 (pa_cons (pv 3) pa_nil)))) (pe_op op_cat (pe_op op_rep (pe_lst (pa_cons pe_bl pa_nil)) pe_int) (pe_op op_rep (pe_lst (pa_cons pe_bl pa_nil)) pe_int)) (nomark _))))))), ?_⟩
  refine ⟨_, rfl, a, _, rfl, .inl hS, fun C nC => ⟨(by show 4 ≤ sizeLine; decide), fun S nS => ?_⟩⟩
  have nSC : S ≠ C := fun e => by
    rw [e, upd_same] at nS
    cases nS
  have st : Strm S C 0 (upd (upd H C (.lst (ns.map V.int))) S (.lst [V.ref C, V.int 0, V.int 0, V.int 0])) :=
    ⟨nSC, ns, 0, 0, 0, upd_same, (upd_ne nSC.symm).trans upd_same, hl, by omega, by omega, by omega, by omega, by omega⟩
  generalize (upd (upd H C (.lst (ns.map V.int))) S (.lst [V.ref C, V.int 0, V.int 0, V.int 0])) = H0 at st ⊢
  refine ⟨30, rfl, by decide, by decide, for_range (lo := 0) (n := 30) (fun i σ H' => (∃ x2 x3 x4 x5, σ = [some (.ref a), some (.ref S), x2, x3, x4, x5, none, none]) ∧ Strm S C (i * 260) H') ⟨⟨none, none, none, none, rfl⟩, st⟩ ?_ ?_⟩
  · rintro i σ H1 hi ⟨⟨x2, x3, x4, x5, rfl⟩, s1⟩
    have hi' : i * 260 ≤ 29 * 260 := Nat.mul_le_mul_right _ (by omega)
    refine ⟨_, rfl, S, C, _, [], rfl, rfl, s1, by omega, fun v d H2 h1 nd s2 f2 => ?_⟩
    have hd := Dp_mono newp_same h1
    have ok := nd.ok
    obtain ⟨sh1, sh2, sh3⟩ := shown_big d ok.fine
    have sh4 := Nat.le_trans sh3 ok.big
    refine ⟨_, rfl, v, d, rfl, hd, sh1, sh2, ok.depth, sh4, ?_⟩
    refine ⟨2, rfl, by decide, by decide, fun D nD => lc_again (b := valueD d) nD (by decide) (fun _ => rfl) (fun k H3 q3 s3 k3 => ?_) fun H3 s3 e3 => ?_⟩
    · exact ⟨_, rfl, v, d, rfl, Dp_mono s3 hd, ok, k3⟩
    have okB : Ok (.list [.bool (valueD d), .bool (valueD d)]) := by
      refine ⟨rfl, ?_, ?_⟩
      · show 17 ≤ sizeLine
        decide
      · simp [PyData.depth, PyData.depthAll]
    have hd3 := Dp_mono s3 hd
    refine ⟨_, rfl, _, rfl, v, d, rfl, hd3, ok, fun H4 s4 => ⟨(by show 1 ≤ sizeLine; decide), fun p np => ?_⟩⟩
    have w5 := same_new np (.lst [V.bl (valueD d)])
    have e5 : (upd H4 p (.lst [V.bl (valueD d)])) p = _ := upd_same
    generalize (upd H4 p (.lst [V.bl (valueD d)])) = H5 at w5 e5 ⊢
    refine ⟨p, 2, _, rfl, rfl, e5, by decide, by decide, (by show 1 * 2 ≤ sizeLine; decide), fun p2 np2 => ?_⟩
    have w6 := same_new np2 (.lst (List.replicate (2 : Int).toNat [V.bl (valueD d)]).flatten)
    have e6 : (upd H5 p2 (.lst (List.replicate (2 : Int).toNat [V.bl (valueD d)]).flatten)) p2 = some (.lst [V.bl (valueD d), V.bl (valueD d)]) := upd_same
    generalize (upd H5 p2 (.lst (List.replicate (2 : Int).toNat [V.bl (valueD d)]).flatten)) = H6 at w6 e6 ⊢
    have w36 := (s4.trans w5).trans w6
    refine ⟨.ref D, .ref p2, .list [.bool (valueD d), .bool (valueD d)], .list [.bool (valueD d), .bool (valueD d)], rfl, .lst (SqL.of (w36 _ _ e3)) (.cons (.bl _) (.cons (.bl _) .nil)), .lst (SqL.of e6) (.cons (.bl _) (.cons (.bl _) .nil)), okB, okB, _, rfl, iteNS rfl ?_⟩
    refine ⟨_, rfl, v, d, rfl, Dp_mono w36 hd3, sh1, sh2, ok.depth, sh4, _, rfl, rfl, _, rfl, iteNS rfl ?_⟩
    exact ⟨⟨_, _, _, _, rfl⟩, (s2.same (s3.trans w36)).mono (by omega)⟩
  · rintro σ H1 ⟨⟨x2, x3, x4, x5, rfl⟩, s1⟩
    refine ⟨_, rfl, (by show 0 ≤ sizeLine; decide), fun p1 n1 => ⟨(by show 2 ≤ sizeLine; decide), fun p2 n2 => ⟨(by show 0 ≤ sizeLine; decide), fun p3 n3 => ⟨(by show 2 ≤ sizeLine; decide), fun p4 n4 => ⟨(by show 0 ≤ sizeLine; decide), fun p5 n5 => ⟨(by show 2 ≤ sizeLine; decide), fun p6 n6 => ⟨(by show 1 ≤ sizeLine; decide), fun p7 n7 => ⟨(by show 2 ≤ sizeLine; decide), fun p8 n8 => ⟨(by show 12 ≤ sizeLine; decide), fun p9 n9 => ?_⟩⟩⟩⟩⟩⟩⟩⟩⟩
    have w1 := same_new n1 (.tup [])
    have e1 : (upd H1 p1 (.tup [])) p1 = _ := upd_same
    generalize (upd H1 p1 (.tup [])) = G1 at n2 n3 n4 n5 n6 n7 n8 n9 w1 e1 ⊢
    have w2 := same_new n2 (.tup [V.str "link", V.ref p1])
    have e2 : (upd G1 p2 (.tup [V.str "link", V.ref p1])) p2 = _ := upd_same
    generalize (upd G1 p2 (.tup [V.str "link", V.ref p1])) = G2 at n3 n4 n5 n6 n7 n8 n9 w2 e2 ⊢
    have w3 := same_new n3 (.tup [])
    have e3 : (upd G2 p3 (.tup [])) p3 = _ := upd_same
    generalize (upd G2 p3 (.tup [])) = G3 at n4 n5 n6 n7 n8 n9 w3 e3 ⊢
    have w4 := same_new n4 (.lst [V.str "link", V.ref p3])
    have e4 : (upd G3 p4 (.lst [V.str "link", V.ref p3])) p4 = _ := upd_same
    generalize (upd G3 p4 (.lst [V.str "link", V.ref p3])) = G4 at n5 n6 n7 n8 n9 w4 e4 ⊢
    have w5 := same_new n5 (.lst [])
    have e5 : (upd G4 p5 (.lst [])) p5 = _ := upd_same
    generalize (upd G4 p5 (.lst [])) = G5 at n6 n7 n8 n9 w5 e5 ⊢
    have w6 := same_new n6 (.tup [V.str "link", V.ref p5])
    have e6 : (upd G5 p6 (.tup [V.str "link", V.ref p5])) p6 = _ := upd_same
    generalize (upd G5 p6 (.tup [V.str "link", V.ref p5])) = G6 at n7 n8 n9 w6 e6 ⊢
    have w7 := same_new n7 (.tup [V.str "link"])
    have e7 : (upd G6 p7 (.tup [V.str "link"])) p7 = _ := upd_same
    generalize (upd G6 p7 (.tup [V.str "link"])) = G7 at n8 n9 w7 e7 ⊢
    have w8 := same_new n8 (.tup [V.str "link", V.str "a"])
    have e8 : (upd G7 p8 (.tup [V.str "link", V.str "a"])) p8 = _ := upd_same
    generalize (upd G7 p8 (.tup [V.str "link", V.str "a"])) = G8 at n9 w8 e8 ⊢
    have w78 := w7.trans w8
    have w68 := w6.trans w78
    have w58 := w5.trans w68
    have w48 := w4.trans w58
    have w38 := w3.trans w48
    have w28 := w2.trans w38
    have dp : DpAll K G8 [V.int 0, V.int (-5), V.str "on", V.ref p2, V.bl true, V.bl false, V.str "On", V.ref p4, V.ref p6, V.ref p7, V.ref p8, V.non]
        [.int 0, .int (-5), .str "on", .tuple [.str "link", .tuple []], .bool true, .bool false, .str "On", .list [.str "link", .tuple []], .tuple [.str "link", .list []], .tuple [.str "link"], .tuple [.str "link", .str "a"], .none] :=
      .cons (.int _) (.cons (.int _) (.cons (.str _) (.cons (.tup (SqT.of (w38 _ _ e2)) (.cons (.str _) (.cons (.tup (SqT.of (w28 _ _ e1)) .nil) .nil))) (.cons (.bl _) (.cons (.bl _) (.cons (.str _)
        (.cons (.lst (SqL.of (w58 _ _ e4)) (.cons (.str _) (.cons (.tup (SqT.of (w48 _ _ e3)) .nil) .nil)))
        (.cons (.tup (SqT.of (w78 _ _ e6)) (.cons (.str _) (.cons (.lst (SqL.of (w68 _ _ e5)) .nil) .nil)))
        (.cons (.tup (SqT.of (w8 _ _ e7)) (.cons (.str _) .nil)) (.cons (.tup (SqT.of e8) (.cons (.str _) (.cons (.str _) .nil))) (.cons .non .nil)))))))))))
    have oks : ∀ d ∈ ([.int 0, .int (-5), .str "on", .tuple [.str "link", .tuple []], .bool true, .bool false, .str "On", .list [.str "link", .tuple []], .tuple [.str "link", .list []], .tuple [.str "link"], .tuple [.str "link", .str "a"], .none] : List PyData), Ok d := by
      intro d hd
      simp only [List.mem_cons, List.not_mem_nil, or_false] at hd
      rcases hd with rfl | rfl | rfl | rfl | rfl | rfl | rfl | rfl | rfl | rfl | rfl | rfl <;> exact ⟨by decide +kernel, by decide +kernel, by decide +kernel⟩
    have w9 := same_new n9 (.lst [V.int 0, V.int (-5), V.str "on", V.ref p2, V.bl true, V.bl false, V.str "On", V.ref p4, V.ref p6, V.ref p7, V.ref p8, V.non])
    have e9 : (upd G8 p9 (.lst [V.int 0, V.int (-5), V.str "on", V.ref p2, V.bl true, V.bl false, V.str "On", V.ref p4, V.ref p6, V.ref p7, V.ref p8, V.non])) p9 = _ := upd_same
    have dp9 := DpAll_mono w9 dp
    show gName 7 (.ref p9) _ (upd G8 p9 (.lst [V.int 0, V.int (-5), V.str "on", V.ref p2, V.bl true, V.bl false, V.str "On", V.ref p4, V.ref p6, V.ref p7, V.ref p8, V.non])) _
    generalize (upd G8 p9 (.lst [V.int 0, V.int (-5), V.str "on", V.ref p2, V.bl true, V.bl false, V.str "On", V.ref p4, V.ref p6, V.ref p7, V.ref p8, V.non])) = G9 at e9 dp9 ⊢
    refine ⟨_, rfl, p9, rfl, ⟨_, SqL.of e9⟩, fun D nD => lc_itemsL valueD nD (SqL.of e9) dp9 (by show 12 ≤ sizeLine; decide) (fun _ => rfl) (fun v d H3 q3 hd hv _ k3 => ?_) fun H' s' e' => ?_⟩
    · exact ⟨_, rfl, v, d, rfl, hv, oks d hd, k3⟩
    · refine ⟨(by show 1 ≤ sizeLine; decide), fun a1 m1 => ?_⟩
      have v1 := same_new m1 (.lst [V.bl true])
      have b1 : (upd H' a1 (.lst [V.bl true])) a1 = _ := upd_same
      generalize (upd H' a1 (.lst [V.bl true])) = K1 at v1 b1 ⊢
      refine ⟨a1, 4, _, rfl, rfl, b1, by decide, by decide, (by show 1 * 4 ≤ sizeLine; decide), fun a2 m2 => ?_⟩
      have v2 := same_new m2 (.lst (List.replicate (4 : Int).toNat [V.bl true]).flatten)
      have b2 : (upd K1 a2 (.lst (List.replicate (4 : Int).toNat [V.bl true]).flatten)) a2 = _ := upd_same
      generalize (upd K1 a2 (.lst (List.replicate (4 : Int).toNat [V.bl true]).flatten)) = K2 at v2 b2 ⊢
      refine ⟨(by show 1 ≤ sizeLine; decide), fun a3 m3 => ?_⟩
      have v3 := same_new m3 (.lst [V.bl false])
      have b3 : (upd K2 a3 (.lst [V.bl false])) a3 = _ := upd_same
      generalize (upd K2 a3 (.lst [V.bl false])) = K3 at v3 b3 ⊢
      refine ⟨a3, 8, _, rfl, rfl, b3, by decide, by decide, (by show 1 * 8 ≤ sizeLine; decide), fun a4 m4 => ?_⟩
      have v4 := same_new m4 (.lst (List.replicate (8 : Int).toNat [V.bl false]).flatten)
      have b4 : (upd K3 a4 (.lst (List.replicate (8 : Int).toNat [V.bl false]).flatten)) a4 = _ := upd_same
      generalize (upd K3 a4 (.lst (List.replicate (8 : Int).toNat [V.bl false]).flatten)) = K4 at v4 b4 ⊢
      refine ⟨a2, a4, _, _, rfl, rfl, v4 _ _ (v3 _ _ b2), b4, (by show 4 + 8 ≤ sizeLine; decide), fun a5 m5 => ?_⟩
      have sD := same_new m5 (.lst ([true, true, true, true, false, false, false, false, false, false, false, false].map V.bl)) _ _ (v4 _ _ (v3 _ _ (v2 _ _ (v1 _ _ e'))))
      refine ⟨_, .list ([true, true, true, true, false, false, false, false, false, false, false, false].map PyData.bool), .lst (SqL.of sD) (DpAll_bools _), .lst (SqL.of upd_same) (DpAll_bools [true, true, true, true, false, false, false, false, false, false, false, false]), ?_, ?_, ?_⟩
      · decide +kernel
      · decide +kernel
      · have fin : ∀ {b : Bool} {Hx : Hp}, b = true → Q (.bl b) Hx := fun e => by
          rw [e]
          exact q _
        exact fin (by decide +kernel)

end
/-! ### the top: each def stands where the text says -/
theorem all_mk {l : PySem.W.OpenLaw} {w : World} {K : PySem.W.Frag} {h : Heap} {mg : Str → Option Value} {fa : Addr} (X : K.In h) (G : h.Ns mainGlobals mg) (hfa : mg "law" = some (.ref fa))
    {t_LONGEST_NAME : Tok} {t_LONGEST_PATH : Tok} {F_is_name : Addr} {od_is_name an_is_name : Option Addr} {sl_is_name : Array (Option Value)} {oc_is_name kV_is_name dc_is_name pm_is_name cd_is_name ct_is_name : Value} {F_is_path : Addr} {od_is_path an_is_path : Option Addr} {sl_is_path : Array (Option Value)} {oc_is_path kV_is_path dc_is_path pm_is_path cd_is_path ct_is_path : Value} {F_is_value : Addr} {od_is_value an_is_value : Option Addr} {sl_is_value : Array (Option Value)} {oc_is_value kV_is_value dc_is_value pm_is_value cd_is_value ct_is_value : Value} {F_is_integer : Addr} {od_is_integer an_is_integer : Option Addr} {sl_is_integer : Array (Option Value)} {oc_is_integer kV_is_integer dc_is_integer pm_is_integer cd_is_integer ct_is_integer : Value} {F_is_link : Addr} {od_is_link an_is_link : Option Addr} {sl_is_link : Array (Option Value)} {oc_is_link kV_is_link dc_is_link pm_is_link cd_is_link ct_is_link : Value} {F__law_draw : Addr} {od__law_draw an__law_draw : Option Addr} {sl__law_draw : Array (Option Value)} {oc__law_draw kV__law_draw dc__law_draw pm__law_draw cd__law_draw ct__law_draw : Value} {F__law_same : Addr} {od__law_same an__law_same : Option Addr} {sl__law_same : Array (Option Value)} {oc__law_same kV__law_same dc__law_same pm__law_same cd__law_same ct__law_same : Value} {F__law_path : Addr} {od__law_path an__law_path : Option Addr} {sl__law_path : Array (Option Value)} {oc__law_path kV__law_path dc__law_path pm__law_path cd__law_path ct__law_path : Value} {F__law_value : Addr} {od__law_value an__law_value : Option Addr} {sl__law_value : Array (Option Value)} {oc__law_value kV__law_value dc__law_value pm__law_value cd__law_value ct__law_value : Value} {F__law_is_name : Addr} {od__law_is_name an__law_is_name : Option Addr} {sl__law_is_name : Array (Option Value)} {oc__law_is_name kV__law_is_name dc__law_is_name pm__law_is_name cd__law_is_name ct__law_is_name : Value} {F__law_is_path : Addr} {od__law_is_path an__law_is_path : Option Addr} {sl__law_is_path : Array (Option Value)} {oc__law_is_path kV__law_is_path dc__law_is_path pm__law_is_path cd__law_is_path ct__law_is_path : Value} {F__law_is_value : Addr} {od__law_is_value an__law_is_value : Option Addr} {sl__law_is_value : Array (Option Value)} {oc__law_is_value kV__law_is_value dc__law_is_value pm__law_is_value cd__law_is_value ct__law_is_value : Value} {F__law_letters : Addr} {od__law_letters an__law_letters : Option Addr} {sl__law_letters : Array (Option Value)} {oc__law_letters kV__law_letters dc__law_letters pm__law_letters cd__law_letters ct__law_letters : Value} {F__law_near_name : Addr} {od__law_near_name an__law_near_name : Option Addr} {sl__law_near_name : Array (Option Value)} {oc__law_near_name kV__law_near_name dc__law_near_name pm__law_near_name cd__law_near_name ct__law_near_name : Value} {F__law_thing : Addr} {od__law_thing an__law_thing : Option Addr} {sl__law_thing : Array (Option Value)} {oc__law_thing kV__law_thing dc__law_thing pm__law_thing cd__law_thing ct__law_thing : Value} {F__law_near_path : Addr} {od__law_near_path an__law_near_path : Option Addr} {sl__law_near_path : Array (Option Value)} {oc__law_near_path kV__law_near_path dc__law_near_path pm__law_near_path cd__law_near_path ct__law_near_path : Value} {F__law_near_value : Addr} {od__law_near_value an__law_near_value : Option Addr} {sl__law_near_value : Array (Option Value)} {oc__law_near_value kV__law_near_value dc__law_near_value pm__law_near_value cd__law_near_value ct__law_near_value : Value} {F_law : Addr} {od_law an_law : Option Addr} {sl_law : Array (Option Value)} {oc_law kV_law dc_law pm_law cd_law ct_law : Value}
    (c_LONGEST_NAME : PySem.W.nsIn K mainGlobals "LONGEST_NAME" = some (some (.int 8 t_LONGEST_NAME)))
    (c_LONGEST_PATH : PySem.W.nsIn K mainGlobals "LONGEST_PATH" = some (some (.int 8 t_LONGEST_PATH)))
    (a_is_name : PySem.W.nsIn K mainGlobals "is_name" = some (some (.ref F_is_name)))
    (l_is_name : K.lookup F_is_name = some ⟨oc_is_name, od_is_name, .func (PySem.W.fnOf "is_name" "is_name" (defArgs s_is_name) (defBody s_is_name) (defScope s_is_name) .none kV_is_name dc_is_name pm_is_name an_is_name cd_is_name ct_is_name), sl_is_name⟩)
    (c_is_name : PySem.W.codeIn K cd_is_name "is_name" = true)
    (k_is_name : PySem.W.keepIn K (.ref F_is_name) = true)
    (a_is_path : PySem.W.nsIn K mainGlobals "is_path" = some (some (.ref F_is_path)))
    (l_is_path : K.lookup F_is_path = some ⟨oc_is_path, od_is_path, .func (PySem.W.fnOf "is_path" "is_path" (defArgs s_is_path) (defBody s_is_path) (defScope s_is_path) .none kV_is_path dc_is_path pm_is_path an_is_path cd_is_path ct_is_path), sl_is_path⟩)
    (c_is_path : PySem.W.codeIn K cd_is_path "is_path" = true)
    (k_is_path : PySem.W.keepIn K (.ref F_is_path) = true)
    (a_is_value : PySem.W.nsIn K mainGlobals "is_value" = some (some (.ref F_is_value)))
    (l_is_value : K.lookup F_is_value = some ⟨oc_is_value, od_is_value, .func (PySem.W.fnOf "is_value" "is_value" (defArgs s_is_value) (defBody s_is_value) (defScope s_is_value) .none kV_is_value dc_is_value pm_is_value an_is_value cd_is_value ct_is_value), sl_is_value⟩)
    (c_is_value : PySem.W.codeIn K cd_is_value "is_value" = true)
    (k_is_value : PySem.W.keepIn K (.ref F_is_value) = true)
    (a_is_integer : PySem.W.nsIn K mainGlobals "is_integer" = some (some (.ref F_is_integer)))
    (l_is_integer : K.lookup F_is_integer = some ⟨oc_is_integer, od_is_integer, .func (PySem.W.fnOf "is_integer" "is_integer" (defArgs s_is_integer) (defBody s_is_integer) (defScope s_is_integer) .none kV_is_integer dc_is_integer pm_is_integer an_is_integer cd_is_integer ct_is_integer), sl_is_integer⟩)
    (c_is_integer : PySem.W.codeIn K cd_is_integer "is_integer" = true)
    (k_is_integer : PySem.W.keepIn K (.ref F_is_integer) = true)
    (a_is_link : PySem.W.nsIn K mainGlobals "is_link" = some (some (.ref F_is_link)))
    (l_is_link : K.lookup F_is_link = some ⟨oc_is_link, od_is_link, .func (PySem.W.fnOf "is_link" "is_link" (defArgs s_is_link) (defBody s_is_link) (defScope s_is_link) .none kV_is_link dc_is_link pm_is_link an_is_link cd_is_link ct_is_link), sl_is_link⟩)
    (c_is_link : PySem.W.codeIn K cd_is_link "is_link" = true)
    (k_is_link : PySem.W.keepIn K (.ref F_is_link) = true)
    (a__law_draw : PySem.W.nsIn K mainGlobals "_law_draw" = some (some (.ref F__law_draw)))
    (l__law_draw : K.lookup F__law_draw = some ⟨oc__law_draw, od__law_draw, .func (PySem.W.fnOf "_law_draw" "_law_draw" (defArgs s__law_draw) (defBody s__law_draw) (defScope s__law_draw) .none kV__law_draw dc__law_draw pm__law_draw an__law_draw cd__law_draw ct__law_draw), sl__law_draw⟩)
    (c__law_draw : PySem.W.codeIn K cd__law_draw "_law_draw" = true)
    (k__law_draw : PySem.W.keepIn K (.ref F__law_draw) = true)
    (a__law_same : PySem.W.nsIn K mainGlobals "_law_same" = some (some (.ref F__law_same)))
    (l__law_same : K.lookup F__law_same = some ⟨oc__law_same, od__law_same, .func (PySem.W.fnOf "_law_same" "_law_same" (defArgs s__law_same) (defBody s__law_same) (defScope s__law_same) .none kV__law_same dc__law_same pm__law_same an__law_same cd__law_same ct__law_same), sl__law_same⟩)
    (c__law_same : PySem.W.codeIn K cd__law_same "_law_same" = true)
    (k__law_same : PySem.W.keepIn K (.ref F__law_same) = true)
    (a__law_path : PySem.W.nsIn K mainGlobals "_law_path" = some (some (.ref F__law_path)))
    (l__law_path : K.lookup F__law_path = some ⟨oc__law_path, od__law_path, .func (PySem.W.fnOf "_law_path" "_law_path" (defArgs s__law_path) (defBody s__law_path) (defScope s__law_path) .none kV__law_path dc__law_path pm__law_path an__law_path cd__law_path ct__law_path), sl__law_path⟩)
    (c__law_path : PySem.W.codeIn K cd__law_path "_law_path" = true)
    (k__law_path : PySem.W.keepIn K (.ref F__law_path) = true)
    (a__law_value : PySem.W.nsIn K mainGlobals "_law_value" = some (some (.ref F__law_value)))
    (l__law_value : K.lookup F__law_value = some ⟨oc__law_value, od__law_value, .func (PySem.W.fnOf "_law_value" "_law_value" (defArgs s__law_value) (defBody s__law_value) (defScope s__law_value) .none kV__law_value dc__law_value pm__law_value an__law_value cd__law_value ct__law_value), sl__law_value⟩)
    (c__law_value : PySem.W.codeIn K cd__law_value "_law_value" = true)
    (k__law_value : PySem.W.keepIn K (.ref F__law_value) = true)
    (a__law_is_name : PySem.W.nsIn K mainGlobals "_law_is_name" = some (some (.ref F__law_is_name)))
    (l__law_is_name : K.lookup F__law_is_name = some ⟨oc__law_is_name, od__law_is_name, .func (PySem.W.fnOf "_law_is_name" "_law_is_name" (defArgs s__law_is_name) (defBody s__law_is_name) (defScope s__law_is_name) .none kV__law_is_name dc__law_is_name pm__law_is_name an__law_is_name cd__law_is_name ct__law_is_name), sl__law_is_name⟩)
    (c__law_is_name : PySem.W.codeIn K cd__law_is_name "_law_is_name" = true)
    (k__law_is_name : PySem.W.keepIn K (.ref F__law_is_name) = true)
    (a__law_is_path : PySem.W.nsIn K mainGlobals "_law_is_path" = some (some (.ref F__law_is_path)))
    (l__law_is_path : K.lookup F__law_is_path = some ⟨oc__law_is_path, od__law_is_path, .func (PySem.W.fnOf "_law_is_path" "_law_is_path" (defArgs s__law_is_path) (defBody s__law_is_path) (defScope s__law_is_path) .none kV__law_is_path dc__law_is_path pm__law_is_path an__law_is_path cd__law_is_path ct__law_is_path), sl__law_is_path⟩)
    (c__law_is_path : PySem.W.codeIn K cd__law_is_path "_law_is_path" = true)
    (k__law_is_path : PySem.W.keepIn K (.ref F__law_is_path) = true)
    (a__law_is_value : PySem.W.nsIn K mainGlobals "_law_is_value" = some (some (.ref F__law_is_value)))
    (l__law_is_value : K.lookup F__law_is_value = some ⟨oc__law_is_value, od__law_is_value, .func (PySem.W.fnOf "_law_is_value" "_law_is_value" (defArgs s__law_is_value) (defBody s__law_is_value) (defScope s__law_is_value) .none kV__law_is_value dc__law_is_value pm__law_is_value an__law_is_value cd__law_is_value ct__law_is_value), sl__law_is_value⟩)
    (c__law_is_value : PySem.W.codeIn K cd__law_is_value "_law_is_value" = true)
    (k__law_is_value : PySem.W.keepIn K (.ref F__law_is_value) = true)
    (a__law_letters : PySem.W.nsIn K mainGlobals "_law_letters" = some (some (.ref F__law_letters)))
    (l__law_letters : K.lookup F__law_letters = some ⟨oc__law_letters, od__law_letters, .func (PySem.W.fnOf "_law_letters" "_law_letters" (defArgs s__law_letters) (defBody s__law_letters) (defScope s__law_letters) .none kV__law_letters dc__law_letters pm__law_letters an__law_letters cd__law_letters ct__law_letters), sl__law_letters⟩)
    (c__law_letters : PySem.W.codeIn K cd__law_letters "_law_letters" = true)
    (k__law_letters : PySem.W.keepIn K (.ref F__law_letters) = true)
    (a__law_near_name : PySem.W.nsIn K mainGlobals "_law_near_name" = some (some (.ref F__law_near_name)))
    (l__law_near_name : K.lookup F__law_near_name = some ⟨oc__law_near_name, od__law_near_name, .func (PySem.W.fnOf "_law_near_name" "_law_near_name" (defArgs s__law_near_name) (defBody s__law_near_name) (defScope s__law_near_name) .none kV__law_near_name dc__law_near_name pm__law_near_name an__law_near_name cd__law_near_name ct__law_near_name), sl__law_near_name⟩)
    (c__law_near_name : PySem.W.codeIn K cd__law_near_name "_law_near_name" = true)
    (k__law_near_name : PySem.W.keepIn K (.ref F__law_near_name) = true)
    (a__law_thing : PySem.W.nsIn K mainGlobals "_law_thing" = some (some (.ref F__law_thing)))
    (l__law_thing : K.lookup F__law_thing = some ⟨oc__law_thing, od__law_thing, .func (PySem.W.fnOf "_law_thing" "_law_thing" (defArgs s__law_thing) (defBody s__law_thing) (defScope s__law_thing) .none kV__law_thing dc__law_thing pm__law_thing an__law_thing cd__law_thing ct__law_thing), sl__law_thing⟩)
    (c__law_thing : PySem.W.codeIn K cd__law_thing "_law_thing" = true)
    (k__law_thing : PySem.W.keepIn K (.ref F__law_thing) = true)
    (a__law_near_path : PySem.W.nsIn K mainGlobals "_law_near_path" = some (some (.ref F__law_near_path)))
    (l__law_near_path : K.lookup F__law_near_path = some ⟨oc__law_near_path, od__law_near_path, .func (PySem.W.fnOf "_law_near_path" "_law_near_path" (defArgs s__law_near_path) (defBody s__law_near_path) (defScope s__law_near_path) .none kV__law_near_path dc__law_near_path pm__law_near_path an__law_near_path cd__law_near_path ct__law_near_path), sl__law_near_path⟩)
    (c__law_near_path : PySem.W.codeIn K cd__law_near_path "_law_near_path" = true)
    (k__law_near_path : PySem.W.keepIn K (.ref F__law_near_path) = true)
    (a__law_near_value : PySem.W.nsIn K mainGlobals "_law_near_value" = some (some (.ref F__law_near_value)))
    (l__law_near_value : K.lookup F__law_near_value = some ⟨oc__law_near_value, od__law_near_value, .func (PySem.W.fnOf "_law_near_value" "_law_near_value" (defArgs s__law_near_value) (defBody s__law_near_value) (defScope s__law_near_value) .none kV__law_near_value dc__law_near_value pm__law_near_value an__law_near_value cd__law_near_value ct__law_near_value), sl__law_near_value⟩)
    (c__law_near_value : PySem.W.codeIn K cd__law_near_value "_law_near_value" = true)
    (k__law_near_value : PySem.W.keepIn K (.ref F__law_near_value) = true)
    (a_law : PySem.W.nsIn K mainGlobals "law" = some (some (.ref F_law)))
    (l_law : K.lookup F_law = some ⟨oc_law, od_law, .func (PySem.W.fnOf "law" "law" (defArgs s_law) (defBody s_law) (defScope s_law) .none kV_law dc_law pm_law an_law cd_law ct_law), sl_law⟩)
    (c_law : PySem.W.codeIn K cd_law "law" = true)
    (k_law : PySem.W.keepIn K (.ref F_law) = true)
    (z_len : PySem.W.nsIn K mainGlobals "len" = some none)
    (z_isinstance : PySem.W.nsIn K mainGlobals "isinstance" = some none)
    (z_all : PySem.W.nsIn K mainGlobals "all" = some none)
    (z_int : PySem.W.nsIn K mainGlobals "int" = some none)
    (z_str : PySem.W.nsIn K mainGlobals "str" = some none)
    (z_tuple : PySem.W.nsIn K mainGlobals "tuple" = some none)
    (z_list : PySem.W.nsIn K mainGlobals "list" = some none)
    (z_range : PySem.W.nsIn K mainGlobals "range" = some none)
    (z_repr : PySem.W.nsIn K mainGlobals "repr" = some none)
    (z_bool : PySem.W.nsIn K mainGlobals "bool" = some none)
    : ∃ fd : FuncData, (∀ (s : Shared) (v : Value), BindsTo s fd ⟨[v], []⟩ [("_law_script", v)]) ∧ ∀ base : Heap, K.In base → base.Ns mainGlobals mg → FnG l.prog w K mg base CX0 6 fa fd ["_law_script"] (spLaw K) := by
  have e := hfa.symm.trans (PySem.W.mg_of X G a_law)
  cases e
  have E_is_name := fun_mk (st := s_is_name) l_is_name c_is_name k_is_name
  have E_is_path := fun_mk (st := s_is_path) l_is_path c_is_path k_is_path
  have E_is_value := fun_mk (st := s_is_value) l_is_value c_is_value k_is_value
  have E_is_integer := fun_mk (st := s_is_integer) l_is_integer c_is_integer k_is_integer
  have E_is_link := fun_mk (st := s_is_link) l_is_link c_is_link k_is_link
  have E__law_draw := fun_mk (st := s__law_draw) l__law_draw c__law_draw k__law_draw
  have E__law_same := fun_mk (st := s__law_same) l__law_same c__law_same k__law_same
  have E__law_path := fun_mk (st := s__law_path) l__law_path c__law_path k__law_path
  have E__law_value := fun_mk (st := s__law_value) l__law_value c__law_value k__law_value
  have E__law_is_name := fun_mk (st := s__law_is_name) l__law_is_name c__law_is_name k__law_is_name
  have E__law_is_path := fun_mk (st := s__law_is_path) l__law_is_path c__law_is_path k__law_is_path
  have E__law_is_value := fun_mk (st := s__law_is_value) l__law_is_value c__law_is_value k__law_is_value
  have E__law_letters := fun_mk (st := s__law_letters) l__law_letters c__law_letters k__law_letters
  have E__law_near_name := fun_mk (st := s__law_near_name) l__law_near_name c__law_near_name k__law_near_name
  have E__law_thing := fun_mk (st := s__law_thing) l__law_thing c__law_thing k__law_thing
  have E__law_near_path := fun_mk (st := s__law_near_path) l__law_near_path c__law_near_path k__law_near_path
  have E__law_near_value := fun_mk (st := s__law_near_value) l__law_near_value c__law_near_value k__law_near_value
  have E_law := fun_mk (st := s_law) l_law c_law k_law
  have b_is_name := E_is_name.binds (ps := ["value"]) fun _ _ _ _ _ _ us hl => match us, hl with | [_], _ => rfl
  have b_is_path := E_is_path.binds (ps := ["value"]) fun _ _ _ _ _ _ us hl => match us, hl with | [_], _ => rfl
  have b_is_value := E_is_value.binds (ps := ["value"]) fun _ _ _ _ _ _ us hl => match us, hl with | [_], _ => rfl
  have b_is_integer := E_is_integer.binds (ps := ["value"]) fun _ _ _ _ _ _ us hl => match us, hl with | [_], _ => rfl
  have b_is_link := E_is_link.binds (ps := ["value"]) fun _ _ _ _ _ _ us hl => match us, hl with | [_], _ => rfl
  have b__law_draw := E__law_draw.binds (ps := ["_law_stream", "_law_many"]) fun _ _ _ _ _ _ us hl => match us, hl with | [_, _], _ => rfl
  have b__law_same := E__law_same.binds (ps := ["_law_found", "_law_due"]) fun _ _ _ _ _ _ us hl => match us, hl with | [_, _], _ => rfl
  have b__law_path := E__law_path.binds (ps := ["_law_stream", "_law_most"]) fun _ _ _ _ _ _ us hl => match us, hl with | [_, _], _ => rfl
  have b__law_value := E__law_value.binds (ps := ["_law_stream"]) fun _ _ _ _ _ _ us hl => match us, hl with | [_], _ => rfl
  have b__law_is_name := E__law_is_name.binds (ps := ["_law_thing_here"]) fun _ _ _ _ _ _ us hl => match us, hl with | [_], _ => rfl
  have b__law_is_path := E__law_is_path.binds (ps := ["_law_thing_here"]) fun _ _ _ _ _ _ us hl => match us, hl with | [_], _ => rfl
  have b__law_is_value := E__law_is_value.binds (ps := ["_law_thing_here"]) fun _ _ _ _ _ _ us hl => match us, hl with | [_], _ => rfl
  have b__law_letters := E__law_letters.binds (ps := ["_law_stream", "_law_many"]) fun _ _ _ _ _ _ us hl => match us, hl with | [_, _], _ => rfl
  have b__law_near_name := E__law_near_name.binds (ps := ["_law_stream"]) fun _ _ _ _ _ _ us hl => match us, hl with | [_], _ => rfl
  have b__law_thing := E__law_thing.binds (ps := ["_law_stream", "_law_deep"]) fun _ _ _ _ _ _ us hl => match us, hl with | [_, _], _ => rfl
  have b__law_near_path := E__law_near_path.binds (ps := ["_law_stream"]) fun _ _ _ _ _ _ us hl => match us, hl with | [_], _ => rfl
  have b__law_near_value := E__law_near_value.binds (ps := ["_law_stream"]) fun _ _ _ _ _ _ us hl => match us, hl with | [_], _ => rfl
  let Z : Env K mg := {
    T := { len := PySem.W.mg_none_of X G z_len, isinstance := PySem.W.mg_none_of X G z_isinstance, all := PySem.W.mg_none_of X G z_all, int := PySem.W.mg_none_of X G z_int, str := PySem.W.mg_none_of X G z_str, tuple := PySem.W.mg_none_of X G z_tuple, list := PySem.W.mg_none_of X G z_list, range := PySem.W.mg_none_of X G z_range, repr := PySem.W.mg_none_of X G z_repr, bool := PySem.W.mg_none_of X G z_bool }
    t_LONGEST_NAME := t_LONGEST_NAME, g_LONGEST_NAME := PySem.W.mg_of X G c_LONGEST_NAME
    t_LONGEST_PATH := t_LONGEST_PATH, g_LONGEST_PATH := PySem.W.mg_of X G c_LONGEST_PATH
    f_is_name := F_is_name, fd_is_name := _, D_is_name := ⟨E_is_name, b_is_name, PySem.W.mg_of X G a_is_name⟩
    f_is_path := F_is_path, fd_is_path := _, D_is_path := ⟨E_is_path, b_is_path, PySem.W.mg_of X G a_is_path⟩
    f_is_value := F_is_value, fd_is_value := _, D_is_value := ⟨E_is_value, b_is_value, PySem.W.mg_of X G a_is_value⟩
    f_is_integer := F_is_integer, fd_is_integer := _, D_is_integer := ⟨E_is_integer, b_is_integer, PySem.W.mg_of X G a_is_integer⟩
    f_is_link := F_is_link, fd_is_link := _, D_is_link := ⟨E_is_link, b_is_link, PySem.W.mg_of X G a_is_link⟩
    f__law_draw := F__law_draw, fd__law_draw := _, D__law_draw := ⟨E__law_draw, b__law_draw, PySem.W.mg_of X G a__law_draw⟩
    f__law_same := F__law_same, fd__law_same := _, D__law_same := ⟨E__law_same, b__law_same, PySem.W.mg_of X G a__law_same⟩
    f__law_path := F__law_path, fd__law_path := _, D__law_path := ⟨E__law_path, b__law_path, PySem.W.mg_of X G a__law_path⟩
    f__law_value := F__law_value, fd__law_value := _, D__law_value := ⟨E__law_value, b__law_value, PySem.W.mg_of X G a__law_value⟩
    f__law_is_name := F__law_is_name, fd__law_is_name := _, D__law_is_name := ⟨E__law_is_name, b__law_is_name, PySem.W.mg_of X G a__law_is_name⟩
    f__law_is_path := F__law_is_path, fd__law_is_path := _, D__law_is_path := ⟨E__law_is_path, b__law_is_path, PySem.W.mg_of X G a__law_is_path⟩
    f__law_is_value := F__law_is_value, fd__law_is_value := _, D__law_is_value := ⟨E__law_is_value, b__law_is_value, PySem.W.mg_of X G a__law_is_value⟩
    f__law_letters := F__law_letters, fd__law_letters := _, D__law_letters := ⟨E__law_letters, b__law_letters, PySem.W.mg_of X G a__law_letters⟩
    f__law_near_name := F__law_near_name, fd__law_near_name := _, D__law_near_name := ⟨E__law_near_name, b__law_near_name, PySem.W.mg_of X G a__law_near_name⟩
    f__law_thing := F__law_thing, fd__law_thing := _, D__law_thing := ⟨E__law_thing, b__law_thing, PySem.W.mg_of X G a__law_thing⟩
    f__law_near_path := F__law_near_path, fd__law_near_path := _, D__law_near_path := ⟨E__law_near_path, b__law_near_path, PySem.W.mg_of X G a__law_near_path⟩
    f__law_near_value := F__law_near_value, fd__law_near_value := _, D__law_near_value := ⟨E__law_near_value, b__law_near_value, PySem.W.mg_of X G a__law_near_value⟩
  }
  refine ⟨_, fun s v => .of_eq rfl, fun base _ _ => ok_law Z E_law⟩
theorem walk {l : PySem.W.OpenLaw} {q : Program} {loose : List Str} {XP : (Str → Option Value) → Heap → Prop} {YP : World → Heap → Prop} {d : DefRec} {K : Params → PySem.W.Frag} (hn : l.most = some 63) (hdf : d.params.defaults = [])
    (hY : ∀ (w : World) (h : Heap), YP w h → (K w.params).In h)
    (F : ∀ (w : World) (mg : Str → Option Value) (fa : Addr) (h : Heap), (K w.params).In h → h.Ns mainGlobals mg → mg d.name = some (.ref fa) →
      ∃ fd : FuncData, (∀ (s : Shared) (u : Value), BindsTo s fd ⟨[u], []⟩ [("_law_script", u)]) ∧ ∀ base : Heap, (K w.params).In base → base.Ns mainGlobals mg → FnG l.prog w (K w.params) mg base CX0 6 fa fd ["_law_script"] (spLaw (K w.params))) :
    PySem.W.WalkO q loose XP YP l.row.toRowW d [] (fun f vs => PySem.call f vs) :=
  walk_ofG (n := 63) (k := 6) (x := "_law_script") (sp := fun w => spLaw (K w.params)) hn (by decide) hdf ⟨rfl, by decide, by decide⟩ hY F (fun _ _ a ns hl _ hS => ⟨a, ns, rfl, hS, hl, fun _ => rfl⟩)
end Vn
open PySem PySem.W PyProof.Rows
set_option maxRecDepth 100000 in
set_option maxHeartbeats 0 in
theorem PySem.Challenge.cw_variantnest_k04_values_holds : PySem.Challenge.rw_variantnest_k04_values.Holds := by
  w_on; o_law; k_head; (case hw => w_witness2)
  k_fill
  refine Vn.walk (l := PySem.Challenge.rw_variantnest_k04_values) rfl rfl (fun w h Y => PySem.W.kIn_of Y) ?F
  case F =>
    intro w mg fa h KX G hmg
    refine' Vn.all_mk KX G hmg ?c_LONGEST_NAME ?c_LONGEST_PATH ?a_is_name ?l_is_name ?c_is_name ?k_is_name ?a_is_path ?l_is_path ?c_is_path ?k_is_path ?a_is_value ?l_is_value ?c_is_value ?k_is_value ?a_is_integer ?l_is_integer ?c_is_integer ?k_is_integer ?a_is_link ?l_is_link ?c_is_link ?k_is_link ?a__law_draw ?l__law_draw ?c__law_draw ?k__law_draw ?a__law_same ?l__law_same ?c__law_same ?k__law_same ?a__law_path ?l__law_path ?c__law_path ?k__law_path ?a__law_value ?l__law_value ?c__law_value ?k__law_value ?a__law_is_name ?l__law_is_name ?c__law_is_name ?k__law_is_name ?a__law_is_path ?l__law_is_path ?c__law_is_path ?k__law_is_path ?a__law_is_value ?l__law_is_value ?c__law_is_value ?k__law_is_value ?a__law_letters ?l__law_letters ?c__law_letters ?k__law_letters ?a__law_near_name ?l__law_near_name ?c__law_near_name ?k__law_near_name ?a__law_thing ?l__law_thing ?c__law_thing ?k__law_thing ?a__law_near_path ?l__law_near_path ?c__law_near_path ?k__law_near_path ?a__law_near_value ?l__law_near_value ?c__law_near_value ?k__law_near_value ?a_law ?l_law ?c_law ?k_law ?z_len ?z_isinstance ?z_all ?z_int ?z_str ?z_tuple ?z_list ?z_range ?z_repr ?z_bool
    (case c_LONGEST_NAME => k_is)
    (case c_LONGEST_PATH => k_is)
    (case a_is_name => k_is)
    (case l_is_name => k_is)
    (case c_is_name => k_is)
    (case k_is_name => k_is)
    (case a_is_path => k_is)
    (case l_is_path => k_is)
    (case c_is_path => k_is)
    (case k_is_path => k_is)
    (case a_is_value => k_is)
    (case l_is_value => k_is)
    (case c_is_value => k_is)
    (case k_is_value => k_is)
    (case a_is_integer => k_is)
    (case l_is_integer => k_is)
    (case c_is_integer => k_is)
    (case k_is_integer => k_is)
    (case a_is_link => k_is)
    (case l_is_link => k_is)
    (case c_is_link => k_is)
    (case k_is_link => k_is)
    (case a__law_draw => k_is)
    (case l__law_draw => k_is)
    (case c__law_draw => k_is)
    (case k__law_draw => k_is)
    (case a__law_same => k_is)
    (case l__law_same => k_is)
    (case c__law_same => k_is)
    (case k__law_same => k_is)
    (case a__law_path => k_is)
    (case l__law_path => k_is)
    (case c__law_path => k_is)
    (case k__law_path => k_is)
    (case a__law_value => k_is)
    (case l__law_value => k_is)
    (case c__law_value => k_is)
    (case k__law_value => k_is)
    (case a__law_is_name => k_is)
    (case l__law_is_name => k_is)
    (case c__law_is_name => k_is)
    (case k__law_is_name => k_is)
    (case a__law_is_path => k_is)
    (case l__law_is_path => k_is)
    (case c__law_is_path => k_is)
    (case k__law_is_path => k_is)
    (case a__law_is_value => k_is)
    (case l__law_is_value => k_is)
    (case c__law_is_value => k_is)
    (case k__law_is_value => k_is)
    (case a__law_letters => k_is)
    (case l__law_letters => k_is)
    (case c__law_letters => k_is)
    (case k__law_letters => k_is)
    (case a__law_near_name => k_is)
    (case l__law_near_name => k_is)
    (case c__law_near_name => k_is)
    (case k__law_near_name => k_is)
    (case a__law_thing => k_is)
    (case l__law_thing => k_is)
    (case c__law_thing => k_is)
    (case k__law_thing => k_is)
    (case a__law_near_path => k_is)
    (case l__law_near_path => k_is)
    (case c__law_near_path => k_is)
    (case k__law_near_path => k_is)
    (case a__law_near_value => k_is)
    (case l__law_near_value => k_is)
    (case c__law_near_value => k_is)
    (case k__law_near_value => k_is)
    (case a_law => k_is)
    (case l_law => k_is)
    (case c_law => k_is)
    (case k_law => k_is)
    (case z_len => k_is)
    (case z_isinstance => k_is)
    (case z_all => k_is)
    (case z_int => k_is)
    (case z_str => k_is)
    (case z_tuple => k_is)
    (case z_list => k_is)
    (case z_range => k_is)
    (case z_repr => k_is)
    (case z_bool => k_is)

