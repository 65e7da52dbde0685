import PyProof.Rows.All
import Wide.All
import OpenK.AllK
import Wide.FinOn
import HandS.ForMost
import HandS.ForExc
import HandS.TupAny
import HandS.TupMul
import HandS.Wide
import HandS.Style
import HandS.Conv
import PyProof.ReprRoads
import HandS.AnyAll
import HandS.Lambda
import HandS.CallLocal
import HandS.More
import KE.GoesEnum
import HandS.Walk
import HandS.Codes
import HandS.Star
import KE.KTupSum
import HandS.IsInst
import HandS.Sort
import HandS.Dict
import HandS.Strs
import HandS.SetFor
import HandS.DictComp
import HandS.RevRange
import HandS.Rev
import HandS.Small
import KE.KRevSl
import HandS.SortInts
import HandS.Zip
import PySem.Challenge.RW_runnets_k09_whole_forms_by_own_words
set_option Elab.async false
set_option linter.all false
set_option maxRecDepth 100000
set_option maxHeartbeats 4000000
/-! a def's promise where it is known besides that no repr is under way -/
namespace My
open PySem PySem.Spec PyProof.Rows L2

/-- room, and nothing under way that a repr would mind -/
structure Rm (k : Nat) (A : Around) : Prop where
  r : Room k A
  g : A.guards = some []
theorem Rm.mono {j k : Nat} {A : Around} (h : Rm k A) (e : j ≤ k) : Rm j A := ⟨h.r.mono e, h.g⟩
theorem Rm.deeper {k : Nat} {A : Around} (h : Rm (k + 1) A) (env : Env) : Rm k (A.deeper env) :=
  ⟨h.r.deeper env, h.g⟩

structure FnG (P : Program) (w : World) (K : PySem.W.Frag) (mg : Str → Option Value)
    (base : Heap) (CX : CXT) (k : Nat) (f : Addr) (fd : FuncData) (ps : List Str) (sp : Sp) : Prop where
  len : ∀ vs H Q E, sp vs H Q E → vs.length = ps.length
  go : ∀ (A : Around) (outer : List Env) (s : Shared) (H : Hp) (args : Args)
    (us : List Value) (vs : List V) (Q : VK) (E : XK), Rm k A →
    Env0 P w K mg base A outer s H → BindsTo s fd args (ps.zip us) → Vals vs us →
    sp vs H Q E → codeAny (model P w) A (.call (.ref f) args) (CR CX outer P w H s Q E) s

section
variable {P : Program} {w : World} {K : PySem.W.Frag} {mg : Str → Option Value} {base : Heap}
variable {CX : CXT} {k : Nat} {f : Addr} {fd : FuncData} {ps : List Str} {sp : Sp}
theorem FnG.mono {j : Nat} (F : FnG P w K mg base CX j f fd ps sp) (h : j ≤ k) :
    FnG P w K mg base CX k f fd ps sp :=
  ⟨F.len, fun A o s H args us vs Q E r => F.go A o s H args us vs Q E (r.mono h)⟩
/-- a promise of the library's kind is one of this kind -/
theorem FnG.of (F : FnOk P w K mg base CX k f fd ps sp) : FnG P w K mg base CX k f fd ps sp :=
  ⟨F.len, fun A o s H args us vs Q E r => F.run A o s H args us vs Q E r.r⟩

/-- with what follows wished away: a def by its body -/
theorem fnG_of {x qual : Str} {st : Stmt} {N : List Str}
    (F : Fun K x qual st f fd) (S : FnScope N ps (defScope st))
    (len : ∀ vs H Q E, sp vs H Q E → vs.length = ps.length)
    (hb : ∀ (cdv : Value) (A : Around) (outer : List Env) (s : Shared) (H : Hp) (vs : List V) (Q : VK) (E : XK),
      (∀ fd', (∃ oc od osl, K.lookup f = some ⟨oc, od, .func fd', osl⟩) → fd'.code = cdv) →
      Rm k (A.deeper (envOfC qual (defScope st) s.heap.objs.size f cdv)) → sp vs H Q E →
      ∃ t, PSs (cxOf CX P w K mg base N qual (defScope st) f cdv A outer s H E) (defBody st) t ∧
        t { nx := fun _ H' => Q .non H', rt := Q } (start N vs) H) :
    FnG P w K mg base CX (k + 1) f fd ps sp := by
  refine ⟨len, fun A outer s H args us vs Q E hr e0 bt rv hsp => ?_⟩
  obtain ⟨oc, od, kV, doc, pm, an, cdv, ct, osl, efd, lk, hcd⟩ := F.ex
  subst efd
  have keep := fun b o e => (e0.bs b o e).1
  have lim : s.heap.NoLimit := e0.mod.nolimit.keeps keep
  have hl : vs.length = ps.length := len _ _ _ _ hsp
  refine codeAny_call_function hr.r.depth ((e0.mod.kin.keeps keep) _ _ lk) rfl S.co S.gen rfl
    (PySem.W.codeRec_of (e0.mod.kin.keeps keep) hcd) (bt _ _ _ _ ?_)
  refine wpAny_newFunctionEnv_cells S.kind (fun ⟨n, v⟩ hy => ?_) fun env he s1 x => ?_
  · rcases S.par n (List.of_mem_zip hy).1 with q | q
    · exact Or.inl q
    · exact Or.inr (And.intro q (PySem.W.cellsFrom_some _ _ _ (Or.inl q)))
  subst he
  refine ⟨lim.keeps x.toInCall.keep, codeAny_func ?_⟩
  have hc1 : ∀ fd', (∃ oc od osl, K.lookup f = some ⟨oc, od, .func fd', osl⟩) → fd'.code = cdv := fun fd' hz => by
    obtain ⟨oc', od', osl', e'⟩ := hz
    rw [lk] at e'
    cases e'
    rfl
  obtain ⟨t, ht, hq⟩ := hb cdv A outer s H vs Q E hc1 (hr.deeper _) hsp
  have I := inv_start (CX := CX) (qual := qual) (f := f) (cd := cdv) (E := E) S hr.r.hd e0 hl rv x
  refine wpAny_mono (ht.run [] s1 _ H _ I hq) (fun fl s' hs => ?_) fun e s' hs => hs
  cases fl with
  | ret u =>
    obtain ⟨v, σ', H', J, r', q⟩ := hs
    exact ⟨v, H', J.os, J.bare, J.base, J.hok, r', q⟩
  | next =>
    obtain ⟨σ', H', J, q⟩ := hs
    exact ⟨V.non, H', J.os, J.bare, J.base, J.hok, rfl, q⟩
  | brk => exact hs.elim fun _ z => z.elim fun _ z => False.elim z.2
  | cont => exact hs.elim fun _ z => z.elim fun _ z => False.elim z.2

end

/-- how a call lies in a body: what it returns, what it raises -/
theorem endG {X : Cx} {CX : CXT} {E : XK} {Q : VK} {c : Code} {pins : List (Addr × Obj)} {σ : L2.St} {H : Hp} {s : Shared}
    (I : Inv X pins σ H s) (hx : Passes CX X E)
    (h : codeAny (model X.prog X.w) X.A c (CR CX X.stack X.prog X.w H s Q E) s) {f : Value} {a : Args}
    (e : c = .call f a) : codeAny (model X.prog X.w) X.A c (fun r s' => match r with
      | .ok (.ret u) => EP X pins σ Q u s'
      | .ok _ => False
      | .error z => X.xe z s') s := by
  refine codeAny_mono h fun r s' hq => ?_
  match r, hq with
  | .error z, hq => exact hx pins σ H s z s' I hq
  | .ok (.ret u), hq => exact I.after hq

section
variable {X : Cx} {CX : CXT} {k : Nat} {f : Addr} {fd : FuncData} {ps ks : List Str} {sp : Sp} {E : XK} {ds : List Value} {dvs : List V}
theorem run_fnG {pins : List (Addr × Obj)} {σ : L2.St} {H : Hp} {s : Shared} {Q : VK} {us : List Value} {vs : List V}
    (F : FnG X.prog X.w X.K X.mg X.base CX k f fd ps sp) (hr : Rm k X.A)
    (hb : Binds X.K fd ps ds) (hd : Vals dvs ds) (hx : Passes CX X E)
    (I : Inv X pins σ H s) (r : Vals vs us) (h : sp (vs ++ dvs) H Q E) :
    wpAny (model X.prog X.w) X.A (call (.ref f) us) (EP X pins σ Q) X.xe s := by
  have r2 := r.append hd
  have hl : (us ++ ds).length = ps.length := r2.length.symm.trans (F.len _ _ _ _ h)
  have c := F.go X.A X.stack s H ⟨us, []⟩ _ _ Q E hr I.env0 (hb s us I.kIn hl) r2 h
  refine wpAny_call (codeAny_mono c fun r s' hq => ?_)
  match r, hq with
  | .error z, hq => exact hx pins σ H s z s' I hq
  | .ok (.ret u), hq => exact I.after hq

variable {g : List Value → List Value → List Value} {gV : List V → List V → List V}
theorem run_fnkG {pins : List (Addr × Obj)} {σ : L2.St} {H : Hp} {s : Shared} {Q : VK} {us ws : List Value} {vs zs : List V}
    (F : FnG X.prog X.w X.K X.mg X.base CX k f fd ps sp) (hr : Rm k X.A)
    (hb : KBinds X.K fd ps ks g gV) (hx : Passes CX X E)
    (I : Inv X pins σ H s) (r : Vals vs us) (rz : Vals zs ws) (h : sp (gV vs zs) H Q E) :
    wpAny (model X.prog X.w) X.A (call (.ref f) us (ks.zip ws)) (EP X pins σ Q) X.xe s := by
  have r2 := hb.rel r rz
  have hl : (g us ws).length = ps.length := r2.length.symm.trans (F.len _ _ _ _ h)
  have c := F.go X.A X.stack s H ⟨us, ks.zip ws⟩ _ _ Q E hr I.env0 (hb.to s us ws I.kIn hl) r2 h
  refine wpAny_call (codeAny_mono c fun r s' hq => ?_)
  match r, hq with
  | .error z, hq => exact hx pins σ H s z s' I hq
  | .ok (.ret u), hq => exact I.after hq
end

/-- the def's data stands at f -/
def At (K : PySem.W.Frag) (f : Addr) (fd : FuncData) : Prop := ∃ oc od osl, K.lookup f = some ⟨oc, od, .func fd, osl⟩
theorem At.inj {K : PySem.W.Frag} {f : Addr} {d e : FuncData} (a : At K f d) (b : At K f e) : d = e := by
  obtain ⟨oc, od, osl, h1⟩ := a
  obtain ⟨oc', od', osl', h2⟩ := b
  rw [h1] at h2
  cases h2
  rfl
theorem At.of {K : PySem.W.Frag} {x qual : Str} {st : Stmt} {f : Addr} {fd : FuncData} (F : Fun K x qual st f fd) : At K f fd := by
  obtain ⟨oc, od, kV, doc, pm, an, cdv, ct, osl, e, lk, _⟩ := F.ex
  exact ⟨oc, od, osl, lk⟩
/-- a def of the text, as its callers see it -/
structure Df (P : Program) (w : World) (K : PySem.W.Frag) (mg : Str → Option Value) (base : Heap)
    (CX : CXT) (k : Nat) (x : Str) (f : Addr) (ps : List Str) (sp : Sp) : Prop where
  ex : ∃ fd, FnG P w K mg base CX k f fd ps sp ∧ Binds K fd ps [] ∧ At K f fd
  kp : PySem.W.keepIn K (.ref f) = true
  gl : mg x = some (.ref f)
section
variable {X : Cx} {CX : CXT} {k j : Nat} {f : Addr} {ps : List Str} {sp : Sp} {E : XK} {x : Str} {p pos : Pos} {e : Expr} {es : List Expr} {t : TA}
/-- f(e, ..) -/
theorem pe_df (D : Df X.prog X.w X.K X.mg X.base CX j x f ps sp) (hr : Rm k X.A) (hj : j ≤ k) (hg : Gl X x) (hx : Passes CX X E)
    (ha : PA X (e :: es) t) (hdb : (x == ("__debug__" : Str)) = false := by decide)
    (he : starEach (e :: es) X.env = (false, eval e X.env) :: starEach es X.env := by rfl)
    (hpl : (backTo pos (starEach es X.env)).any (·.1) = false := by rfl) :
    PE X (.Call (.Name x p) (e :: es) [] pos) (tCall sp [] E t) := by
  obtain ⟨fd, F, b, _⟩ := D.ex
  refine PE.mk fun pins s σ H Q I h => wpAny_Call_Name_kw (ld_glob I hg D.gl ?_ hdb)
  refine PySem.W.callWith_K (h₀ := X.base) I.ok.mod.kin D.kp (thn (ha.run pos pins s σ H _ I h) ?_) he hpl
  intro us s1 hz
  obtain ⟨vs, H1, I1, r, q⟩ := hz
  exact ⟨I1.kIn, run_fnG F (hr.mono hj) b .nil hx I1 r q⟩
/-- how a call by names binds: g puts the values in the parameters' order -/
structure Kwb (K : PySem.W.Frag) (f : Addr) (ps ks : List Str) (g : List Value → List Value) (gV : List V → List V) : Prop where
  to : ∃ fd, At K f fd ∧ ∀ (s : Shared) (ws : List Value), K.In s.heap → ws.length = ks.length → BindsTo s fd ⟨[], ks.zip ws⟩ (ps.zip (g ws))
  rel : ∀ {zs : List V} {ws : List Value}, Vals zs ws → Vals (gV zs) (g ws)
def tCallKw (ks : List Str) (sp : Sp) (gV : List V → List V) (E : XK) (tk : TA) : TE := fun σ H Q => tk σ H fun zs H2 => zs.length = ks.length ∧ sp (gV zs) H2 Q E
/-- f(k = v, ..) -/
theorem pe_dfk {ks : List Str} {g : List Value → List Value} {gV : List V → List V} {kws : List Keyword} {tk : TA}
    (D : Df X.prog X.w X.K X.mg X.base CX j x f ps sp) (B : Kwb X.K f ps ks g gV) (hr : Rm k X.A) (hj : j ≤ k) (hg : Gl X x) (hx : Passes CX X E)
    (hkw : PK X kws tk) (hall : (backToKw pos (keywordEach kws X.env)).all (·.1.isSome) = true := by rfl)
    (hks : (backToKw pos (keywordEach kws X.env)).filterMap (·.1) = ks := by rfl) (hdb : (x == ("__debug__" : Str)) = false := by decide)
    (hpl : ((backTo pos (starEach [] X.env)).any (·.1) || (backToKw pos (keywordEach kws X.env)).any (·.1.isNone)) = false := by rfl) :
    PE X (.Call (.Name x p) [] kws pos) (tCallKw ks sp gV E tk) := by
  obtain ⟨fd, F, b, at1⟩ := D.ex
  obtain ⟨fd', at2, hb⟩ := B.to
  cases at1.inj at2
  refine PE.mk fun pins s σ H Q I h => wpAny_Call_Name_kw (ld_glob I hg D.gl ?_ hdb)
  refine PySem.W.callWith_KW0 (h₀ := X.base) I.ok.mod.kin D.kp hall (thn (hkw.run pos pins s σ H _ I h) ?_) hpl
  intro ws s2 hz
  obtain ⟨zs, H2, I2, rz, hl, q2⟩ := hz
  refine ⟨I2.kIn, ?_⟩
  rw [hks]
  have r2 := B.rel rz
  have c := F.go X.A X.stack s2 H2 ⟨[], ks.zip ws⟩ _ _ Q E (hr.mono hj) I2.env0 (hb s2 ws I2.kIn (rz.length.symm.trans hl)) r2 q2
  refine wpAny_call (codeAny_mono c fun r s' hq => ?_)
  match r, hq with
  | .error z, hq => exact hx pins σ H2 s2 z s' I2 hq
  | .ok (.ret u), hq => exact I2.after hq
end
end My

/-! the law's own call, from a promise of this kind -/
namespace My
open PySem PySem.Spec PyProof.Rows L2

/-- what the end of a law asks of its run -/
abbrev Fine (s₁ : Shared) (r : Result) (s' : Shared) : Prop :=
  r = .ok (.ret (.bool true)) ∧ OldK s₁.heap s'.heap ∧ s'.os = s₁.os ∧ AllBare s'.gens

section
variable {P : Program} {w : World} {K : PySem.W.Frag} {mg mb : Str → Option Value} {CX : CXT} {k : Nat}
variable {fa a : Addr} {fd : FuncData} {x : Str} {sp : Sp} {s₁ : Shared}

/-- from an abstract heap H that tracks nothing but the script -/
theorem run_law (H : Hp) (KX : K.In s₁.heap) (g0 : s₁.heap.Ns mainGlobals mg) (b0 : s₁.heap.Ns builtinsNs mb)
    (bb : ∀ y : Str, y ≠ "__name__" → mb y = bootBuiltins y) (nl : s₁.heap.NoLimit) (ng : s₁.gens = #[])
    {its : Array Value} (ha : s₁.heap.get? a = some { cls := .type "list", data := .seq its })
    (hr : Rm k callerA) (bd : ∀ (s : Shared) (u : Value), BindsTo s fd ⟨[u], []⟩ [(x, u)])
    (F : ∀ base : Heap, K.In base → base.Ns mainGlobals mg → FnG P w K mg base CX k fa fd [x] sp)
    (hO : Only H) (hsp : sp [.ref a] H (fun v _ => v = .bl true) fun _ _ _ => False)
    (hok : HOk P w H s₁.heap) (hA : ∀ b, H b ≠ none → b = a) (hK : H a ≠ none → K.lookup a = none)
    (hCX : ∀ H e s', CX [] H s₁ (fun _ _ _ => False) e s' → False) :
    codeAny (model P w) callerA (.call (.ref fa) ⟨[.ref a], []⟩) (Fine s₁) s₁ := by
  have only_a : ∀ {b : Addr} {u : HO}, H b = some u → b = a := fun q => hA _ (by rw [q]; nofun)
  have free_dict : ∀ {b : Addr} {o : Obj} {es ep}, s₁.heap.get? b = some o → o.data = .dict es ep → H b = none := by
    intro b o es ep e d
    match q : H b with
    | none => rfl
    | some u =>
      rw [only_a q, ha] at e
      cases e
      exact nomatch d
  have ns' : ∀ {b m}, s₁.heap.Ns b m → (hidT s₁.heap H).Ns b m := by
    intro b m z
    obtain ⟨o, es, ep, e, d, r⟩ := z
    exact ⟨o, es, ep, hidT_get e (free_dict e d), d, r⟩
  have kin : K.In (hidT s₁.heap H) := by
    intro b o e
    refine hidT_get (KX b o e) ?_
    match q : H b with
    | none => rfl
    | some u =>
      have eb := only_a q
      subst eb
      rw [hK (by rw [q]; nofun)] at e
      cases e
  obtain ⟨mc, n1, n2⟩ := nl
  have M : Mod K mg (hidT s₁.heap H) := ⟨kin, ns' g0, ⟨mb, ns' b0, bb⟩, ⟨mc, ns' n1, n2⟩⟩
  have e0 : Env0 P w K mg (hidT s₁.heap H) callerA [] s₁ H :=
    { frames := rfl, mod := M, bs := fun b o e => of_hidT e, bsz := Nat.le_of_eq (hidT_size _ _)
      funs := trivial, frf := (fun b hb => nomatch hb), hok := hok, bare := .of_eq ng }
  have c := (F _ kin (ns' g0)).go callerA [] s₁ H ⟨[.ref a], []⟩ [.ref a] [.ref a] _ _ hr e0 (bd s₁ _) (.cons rfl .nil) hsp
  refine codeAny_mono c fun r s' h => ?_
  match r, h with
  | .error e, h => exact absurd h (hCX H e s')
  | .ok (.ret u), h =>
    obtain ⟨v, H', os, bare, un, hok', r', q⟩ := h
    cases (show v = .bl true from q)
    cases (show u = Value.bool true from r')
    refine ⟨rfl, OldK.of_keep fun b o e => ?_, os, bare⟩
    match q : H b with
    | none => exact un.keep b o e q (fun z => nomatch z) (fun z => nomatch z)
    | some u =>
      rcases hO b with z | ⟨ob, xs, z⟩
      · exact nomatch q.symm.trans z
      · have e1 := (hok b _ z).1
        have e2 := (hok' b _ (un.frzs b ob _ z)).1
        rw [e] at e1
        cases e1
        exact e2

theorem law_callG {vs : List Value} {ns : List Int} (KX : K.In s₁.heap) (g0 : s₁.heap.Ns mainGlobals mg) (b0 : s₁.heap.Ns builtinsNs mb)
    (bb : ∀ y : Str, y ≠ "__name__" → mb y = bootBuiltins y) (nl : s₁.heap.NoLimit) (ng : s₁.gens = #[])
    (ha : s₁.heap.get? a = some { cls := .type "list", data := .seq vs.toArray }) (hi : IntsAre vs ns) (hl : ns.length ≤ sizeLine)
    (hr : Rm k callerA) (bd : ∀ (s : Shared) (u : Value), BindsTo s fd ⟨[u], []⟩ [(x, u)])
    (F : ∀ base : Heap, K.In base → base.Ns mainGlobals mg → FnG P w K mg base CX k fa fd [x] sp)
    (hsp : ∀ H : Hp, Only H → SqL K H a (ns.map V.int) → sp [.ref a] H (fun v _ => v = .bl true) fun _ _ _ => False)
    (hCX : ∀ H e s', CX [] H s₁ (fun _ _ _ => False) e s' → False) :
    codeAny (model P w) callerA (.call (.ref fa) ⟨[.ref a], []⟩) (Fine s₁) s₁ := by
  have rv := vals_ints hi
  match hk : K.lookup a with
  | some o =>
    have e := KX a o hk
    rw [ha] at e
    cases e
    have hS : SqL K (fun _ => none) a (ns.map V.int) :=
      Or.inr ⟨_, vs.toArray, _, hk, rfl, rfl, rfl, by rw [List.size_toArray, hi.length]; exact hl, by simpa using rv⟩
    have oN : Only fun _ => none := fun _ => Or.inl rfl
    exact run_law _ KX g0 b0 bb nl ng ha hr bd F oN (hsp _ oN hS) (fun b u z => nomatch z) (fun b z => (z rfl).elim) (fun z => (z rfl).elim) hCX
  | none =>
    let u : HO := .frz { cls := .type "list", data := .seq vs.toArray } (.lst (ns.map V.int))
    let H : Hp := fun b => if b = a then some u else none
    have at_a : H a = some u := if_pos rfl
    have off : ∀ {b}, b ≠ a → H b = none := fun h => if_neg h
    have oN : Only H := fun b => if h : b = a then by subst h; exact Or.inr ⟨_, _, at_a⟩ else Or.inl (off h)
    have hS : SqL K H a (ns.map V.int) := Or.inl (Or.inr ⟨_, at_a⟩)
    refine run_law H KX g0 b0 bb nl ng ha hr bd F oN (hsp _ oN hS) (fun b o z => ?_) (fun b z => ?_) (fun _ => hk) hCX
    · by_cases hb : b = a
      · subst hb
        cases at_a.symm.trans z
        exact ⟨ha, by rw [List.length_map]; exact hl, vs, _, rv, ha⟩
      · exact nomatch (off hb).symm.trans z
    · exact Classical.byContradiction fun hb => z (off hb)
end

/-- what k_head leaves, from the law's promise -/
theorem walkG {l : PySem.W.OpenLaw} {n k : Nat} {q : Program} {loose : List Str} {XP : (Str → Option Value) → Heap → Prop} {YP : World → Heap → Prop}
    {d : DefRec} {K : Params → PySem.W.Frag} {CX : World → CXT} {sp : World → Sp} {x : Str}
    (hn : l.most = some n) (hn2 : n ≤ sizeLine) (hdf : d.params.defaults = []) (hr : Rm k callerA)
    (hY : ∀ (w : World) (h : Heap), YP w h → (K w.params).In h)
    (F : ∀ (w : World) (mg : Str → Option Value) (fa : Addr) (h : Heap), (K w.params).In h → h.Ns mainGlobals mg → mg d.name = some (.ref fa) →
      ∃ fd, (∀ (s : Shared) (u : Value), BindsTo s fd ⟨[u], []⟩ [(x, u)]) ∧ ∀ base : Heap,
        (K w.params).In base → base.Ns mainGlobals mg → FnG l.prog w (K w.params) mg base (CX w) k fa fd [x] (sp w))
    (hsp : ∀ (w : World) (H : Hp) (a : Addr) (ns : List Int), ns.length ≤ n → Only H → SqL (K w.params) H a (ns.map V.int) →
      sp w [.ref a] H (fun v _ => v = .bl true) fun _ _ _ => False)
    (hCX : ∀ (w : World) (H : Hp) (s : Shared) (e : Value) (s' : Shared), CX w [] H s (fun _ _ _ => False) e s' → False) :
    PySem.W.WalkO q loose XP YP l.row.toRowW d [] (fun f vs => PySem.call f vs) := by
  refine Att.attach_call hn hdf ?_
  intro w s₀ s₁ mg mb fa o pm cd doc a vs ns G Y ho hd hcd hmg hobj hints hlen hg
  obtain ⟨fd, hb, hF⟩ := F w mg fa _ (hY w _ Y) G.T.g hmg
  exact law_callG (hY w _ Y) G.T.g G.T.b G.T.builtins G.T.nolimit hg hobj hints (Nat.le_trans hlen hn2) hr hb hF
    (fun H hO hS => hsp w H a ns hlen hO hS) fun H e s' => hCX w H s₁ e s'
end My

/-! repr of data -/
namespace My
open PySem PySem.Spec PyProof.Rows L2

mutual
/-- a bound for how long it is written out -/
def cost : PyData → Nat
  | .none => 4
  | .bool _ => 5
  | .int i => i.natAbs.log2 + 2
  | .str x => (reprText x).length
  | .list xs => costs xs + 2
  | .tuple xs => costs xs + 3
  | .dict _ => 0
def costs : List PyData → Nat
  | [] => 0
  | x :: xs => cost x + 2 + costs xs
end
theorem listText_le : ∀ ts : List Str, (listText ts).length ≤ piled ts + 2
  | [] => by decide
  | t :: r => by
    have h := textFrom_length_pos r 1 (("[" : Str) ++ (if (0 : Nat) > 0 then ", " else "" : String) ++ t) Nat.one_pos
    have e : (listText (t :: r)) = textFrom 1 (("[" : Str) ++ (if (0 : Nat) > 0 then ", " else "" : String) ++ t) r ++ "]" := rfl
    have e1 : ((("[" : Str) ++ (if (0 : Nat) > 0 then ", " else "" : String))).length = 1 := rfl
    have e2 : (("]" : String) : Str).length = 1 := rfl
    rw [e, strLen_append, h, strLen_append, e1, e2, piled_cons]
    omega
theorem tupleText_le (ts : List Str) : (tupleText ts).length ≤ piled ts + 3 := by
  have e3 : (((if ts.length == 1 then ",)" else ")" : String) : Str)).length ≤ 2 := by
    split <;> decide +kernel
  have e1 : ((("(" : String) : Str)).length = 1 := rfl
  have e4 : (Str.join ", " ts).length ≤ piled ts := by
    by_cases h : ts = []
    · subst h
      decide +kernel
    · have := join_length_add ts h
      omega
  unfold tupleText
  rw [strLen_append, strLen_append, e1]
  omega
mutual
theorem shown_le : ∀ d : PyData, d.hasDict = false → d.shown.length ≤ cost d
  | .none, _ => by simp only [PyData.shown, cost]; decide
  | .bool b, _ => by cases b <;> (simp only [PyData.shown, cost]; decide)
  | .int i, _ => by
    have e := int_text_length_le (a := i) (k := i.natAbs.log2 + 1) (Nat.succ_pos _) (Nat.lt_succ_self _)
    simp only [PyData.shown, cost]
    rw [PySem.ofString_length]
    omega
  | .str x, _ => by simp only [PyData.shown, cost]; exact Nat.le_refl _
  | .list xs, h => by
    have e := shown_les xs (by simpa [PyData.hasDict] using h)
    have e2 := listText_le (PyData.shownAll xs)
    simp only [PyData.shown, cost]
    omega
  | .tuple xs, h => by
    have e := shown_les xs (by simpa [PyData.hasDict] using h)
    have e2 := tupleText_le (PyData.shownAll xs)
    simp only [PyData.shown, cost]
    omega
  | .dict _, h => by simp [PyData.hasDict] at h
theorem shown_les : ∀ ds : List PyData, PyData.hasDictAll ds = false → piled (PyData.shownAll ds) ≤ costs ds
  | [], _ => by simp [PyData.shownAll, costs, piled]
  | d :: ds, h => by
    simp only [PyData.hasDictAll, Bool.or_eq_false_iff] at h
    have e1 := shown_le d h.1
    have e2 := shown_les ds h.2
    simp only [PyData.shownAll, costs]
    rw [piled_cons]
    omega
end

/-- data that repr takes -/
structure Shows (d : PyData) : Prop where
  s : d.showable = true
  n : d.hasDict = false
  dp : d.depth ≤ 60
  z : cost d ≤ sizeLine

def rReprD (K : PySem.W.Frag) : List V → Hp → VK → Prop := fun xs H Q =>
  ∃ v d, xs = [v] ∧ Dp K H v d ∧ Shows d ∧ Q (.str d.shown) H
theorem call_reprD {X : Cx} {k : Nat} (hr : Rm k X.A) : CallR X (.builtin "repr") (rReprD X.K) := by
  intro pins s σ H xs us Q I r h
  obtain ⟨v, d, rfl, hd, S, q⟩ := h
  obtain ⟨u, rfl, ru⟩ := vals1 r
  have hz : d.shown.length ≤ sizeLine := Nat.le_trans (shown_le d S.n) S.z
  have hu := hr.r.units
  obtain ⟨as, rd⟩ := Dp.reads I d v u hd ru
  have fin : ∀ t, EP X pins σ Q (.str d.shown t) { s with toks := s.toks + 1 } :=
    fun t => ⟨.str d.shown, H, I.tok _, ⟨t, rfl⟩, q⟩
  have ref : ∀ a, u = .ref a → wpAny (model X.prog X.w) X.A (call (.builtin "repr") [u]) (EP X pins σ Q) X.xe s := by
    intro a e
    subst e
    have := S.dp
    refine repr_of_reads' rd S.s (PyData.noDict_hsm S.n) hr.g (by omega) (fun _ _ e => e) (fun h' t tk kp => ?_) hz
    exact ⟨.str d.shown, H, I.kept (h' := h') (t' := tk) kp, ⟨t, rfl⟩, q⟩
  cases hd with
  | non =>
    cases ru
    exact PySem.P.repr_of_none (fin _)
  | bl b =>
    cases ru
    exact PySem.P.repr_of_bool (by cases b <;> exact fin _)
  | int i =>
    obtain ⟨t, rfl⟩ := ru
    exact PySem.P.repr_of_int (by simpa [PyData.showable] using S.s) (fin _)
  | str x =>
    obtain ⟨t, rfl⟩ := ru
    exact PySem.P.repr_of_str (fin _) (by simpa [PyData.shown] using hz)
  | lst _ _ => exact ref _ ru
  | tup _ _ => exact ref _ ru
end My

/-! a small def, called from anywhere: type(value) is int and least <= value <= most -/
namespace My
open PySem PySem.Spec PyProof.Rows L2

/-- whether a value is a whole number within bounds -/
def whole (u : Value) (l m : Int) : Bool := match u with
  | .int i _ => decide (l ≤ i) && decide (i ≤ m)
  | _ => false

/-- what is written of the def -/
structure WholeD (K : PySem.W.Frag) (mg : Str → Option Value) (f : Addr) (fd : FuncData) (st : Stmt) : Prop where
  fn : Fun K "is_whole" "is_whole" st f fd
  sc : FnScope ["value", "least", "most"] ["value", "least", "most"] (defScope st)
  bd : Binds K fd ["value", "least", "most"] []
  ty : mg "type" = none
  it : mg "int" = none
  gty : (defScope st).names.lookup ("type" : Str) = some NameKind.globalImplicit
  git : (defScope st).names.lookup ("int" : Str) = some NameKind.globalImplicit
  lv : (defScope st).names.lookup ("value" : Str) = some NameKind.local
  ll : (defScope st).names.lookup ("least" : Str) = some NameKind.local
  lm : (defScope st).names.lookup ("most" : Str) = some NameKind.local
  body : ∃ p1 p2 p3 p4 p5 p6 p7 p8 p9 p10 p11, defBody st = [.Return (some (.BoolOp .And [
    .Compare (.Call (.Name "type" p1) [.Name "value" p2] [] p3) [.Is] [.Name "int" p4] p5,
    .Compare (.Name "least" p6) [.LtE, .LtE] [.Name "value" p7, .Name "most" p8] p9] p10)) p11]

section
variable {P : Program} {w : World} {K : PySem.W.Frag} {mg : Str → Option Value} {base : Heap}
variable {A : Around} {E : Value → Shared → Prop} {s : Shared}

theorem keeps_of {s s' : Shared} {h : Heap} {t : Nat} (e : s' = { s with heap := h, toks := t })
    (k : ∀ b o, s.heap.get? b = some o → h.get? b = some o) : Keeps s s' := ⟨h, t, e, k⟩

theorem typeIs_kept {s s' : Shared} {u : Value} {T : String} (h : s.TypeIs u T)
    (k : ∀ b o, s.heap.get? b = some o → s'.heap.get? b = some o) : s'.TypeIs u T := by
  cases u with
  | ref a =>
    obtain ⟨o, e, c⟩ := h
    exact ⟨o, k _ _ e, c⟩
  | _ => exact h
theorem whole_low {f : Addr} {fd : FuncData} {st : Stmt} (D : WholeD K mg f fd st) (M : L2.Mod K mg base)
    (hk : ∀ b o, base.get? b = some o → s.heap.get? b = some o) (hd : A.handled = none)
    (dp : A.depth + 2 < recursionLimit) (un : A.units + 40 < cLine) {u : Value} {T : String} (hT : s.TypeIs u T)
    (nb : (Value.type T == Value.type "builtin_function_or_method") = false)
    (hi : T = "int" → ∃ i t, u = .int i t) (ni : T ≠ "int" → ∀ i t, u ≠ .int i t) {l m : Int} {t1 t2 : Tok} :
    wpAny (model P w) A (call (.ref f) [u, .int l t1, .int m t2]) (fun y s' => y = .bool (whole u l m) ∧ Keeps s s') E s := by
  obtain ⟨oc, od, kV, doc, pm, an, cdv, ct, osl, efd, lk, hcd⟩ := D.fn.ex
  subst efd
  have kin := M.kin.keeps hk
  have lim : s.heap.NoLimit := M.nolimit.keeps hk
  refine wpAny_call ?_
  refine codeAny_call_function (by omega) (kin _ _ lk) rfl D.sc.co D.sc.gen rfl
    (PySem.W.codeRec_of kin hcd) (D.bd s [u, .int l t1, .int m t2] kin rfl _ _ _ _ ?_)
  refine wpAny_newFunctionEnv_cells D.sc.kind (fun ⟨n, v⟩ hy => ?_) fun env he s1 x => ?_
  · rcases D.sc.par n (List.of_mem_zip hy).1 with q | q
    · exact Or.inl q
    · exact Or.inr (And.intro q (PySem.W.cellsFrom_some _ _ _ (Or.inl q)))
  obtain ⟨h1, tk, es1, hk1⟩ := x.done
  refine ⟨lim.keeps x.toInCall.keep, codeAny_func ?_⟩
  obtain ⟨p1, p2, p3, p4, p5, p6, p7, p8, p9, p10, p11, hb⟩ := D.body
  rw [hb]
  subst he
  have kb1 : ∀ b o, base.get? b = some o → s1.heap.get? b = some o := fun b o e => x.toInCall.keep b o (hk b o e)
  have ns := x.toInCall.ns
  obtain ⟨mb, bl1, bl2⟩ := M.blt
  have nd : (["value", "least", "most"] : List Str).Nodup := D.sc.nd
  have v0 := bindL_get (kindOf := (envOfC "is_whole" (defScope st) s.heap.objs.size f cdv).kindOf) (i := 0) (vs := [u, .int l t1, .int m t2]) (m := fun _ => none) nd rfl rfl D.lv
  have v1 := bindL_get (kindOf := (envOfC "is_whole" (defScope st) s.heap.objs.size f cdv).kindOf) (i := 1) (vs := [u, .int l t1, .int m t2]) (m := fun _ => none) nd rfl rfl D.ll
  have v2 := bindL_get (kindOf := (envOfC "is_whole" (defScope st) s.heap.objs.size f cdv).kindOf) (i := 2) (vs := [u, .int l t1, .int m t2]) (m := fun _ => none) nd rfl rfl D.lm
  have ldB : ∀ {A' : Around} {E' : Value → Shared → Prop} {y : Str} {v : Value} {pos : Pos} {Q : Value → Shared → Prop}, (defScope st).names.lookup y = some NameKind.globalImplicit → mg y = none → bootBuiltins y = some v → y ≠ "__name__" → (y == ("__debug__" : Str)) = false → Q v s1 →
      wpAny (model P w) A' (eval (.Name y pos) (envOfC "is_whole" (defScope st) s.heap.objs.size f cdv)) Q E' s1 := by
    intro A' E' y v pos Q g0 g1 g2 g3 g4 q
    exact Calls.Name_function_global D.sc.kind g0 (Calls.loadGlobal_builtin (M.glob.keeps kb1) g1 (bl1.keeps kb1) ((bl2 y g3).trans g2) q) g4
  have fin : ∀ b, b = whole u l m → Value.bool b = .bool (whole u l m) ∧ Keeps s s1 := fun b e => ⟨by rw [e], h1, tk, es1, hk1⟩
  refine wpAny_execs_cons (wpAny_Return_some (BoolOp_and (wpAny_Compare1 (wpAny_Call_Name_kw (ldB (v := .type "type") D.gty D.ty (by decide +kernel) (by decide) (by decide) ?_)))))
  refine PyProof.Rows.callWith_type1 (Calls.spliced_cons (wpAny_Name (wpAny_loadName_local D.sc.kind D.lv ns v0 (Calls.spliced_nil ?_))))
  have hT1 : s1.TypeIs u T := typeIs_kept hT x.toInCall.keep
  refine call_type_of hT1 nb (ldB (v := .type "int") D.git D.it (by decide +kernel) (by decide) (by decide) (wpAny_is_plain rfl ?_))
  refine wpAny_truthy_bool ?_
  by_cases e : T = "int"
  · obtain ⟨i, t, eu⟩ := hi e
    subst eu e
    rw [beq_self_eq_true]
    refine BoolOp_one (Compare_chain (wpAny_Name (wpAny_loadName_local D.sc.kind D.ll ns v1 (chain_link (wpAny_Name (wpAny_loadName_local D.sc.kind D.lv ns v0 (le_int (wpAny_truthy_bool ?_))))))) (by with_unfolding_all rfl))
    by_cases h : l ≤ i
    · rw [decide_eq_true h]
      exact chain_last (wpAny_Name (wpAny_loadName_local D.sc.kind D.lm ns v2 (le_int (fin _ (by simp only [whole, decide_eq_true h, Bool.true_and])))))
    · rw [decide_eq_false h]
      exact fin _ (by simp only [whole, decide_eq_false h, Bool.false_and])
  · have e' : (Value.type T == Value.type "int") = false := beq_eq_false_iff_ne.mpr fun z => e (Value.type.inj z)
    rw [e']
    refine fin _ ?_
    cases u with
    | int i t => exact (ni e i t rfl).elim
    | _ => rfl
end
end My

/-! all(test for x in t), t a tuple, the test may call defs -/
namespace My
open PySem PySem.Spec PyProof.Rows L2 GxR

/-- the test at each item, from where the tuple stood (all but the table at P is kept) -/
def EltOk (X : Cx) (P : Addr) (scope : Scope) (x : Str) (elt : Expr) (s1 : Shared) (its : List Value) (pb : Value → Bool) : Prop :=
  ∀ (cenv : Env) (A' : Around) (E' : Value → Shared → Prop) (v : Value) (s2 : Shared) (m2 : Str → Option Value),
    cenv.scope = scope → cenv.globals = mainGlobals → cenv.builtins = builtinsNs →
    cenv.cells = cloFrom X.env.cells scope.names [] → A'.handled = none →
    A'.depth ≤ X.A.depth + 1 → A'.units ≤ X.A.units + 8 → v ∈ its → s2.heap.Ns cenv.locals m2 → m2 x = some v →
    (∀ b o, b ≠ P → s1.heap.get? b = some o → s2.heap.get? b = some o) →
    wpAny (model X.prog X.w) A' (eval elt cenv) (fun y s3 => y = .bool (pb v) ∧ Keeps s2 s3) E' s2

/-- the j-th answer -/
def ansAt (pb : Value → Bool) (l : List Value) (j : Nat) : Bool := (l[j]?.map pb).getD false
theorem ansAt_of {pb : Value → Bool} {l : List Value} {j : Nat} {v : Value} (h : l[j]? = some v) : ansAt pb l j = pb v := by
  simp only [ansAt, h, Option.map_some, Option.getD_some]
theorem all_ansAt (l : List Value) (pb : Value → Bool) : (List.range l.length).all (ansAt pb l) = l.all pb := by
  apply Bool.eq_iff_iff.mpr
  simp only [List.all_eq_true]
  refine ⟨fun h v hv => ?_, fun h j hj => ?_⟩
  · obtain ⟨j, hj, e⟩ := List.getElem_of_mem hv
    have q := h j (List.mem_range.mpr hj)
    rwa [ansAt_of ((List.getElem?_eq_getElem hj).trans (congrArg some e))] at q
  · have hj' := List.mem_range.mp hj
    rw [ansAt_of (List.getElem?_eq_getElem hj')]
    exact h _ (List.getElem_mem hj')

/-- a generator over the items its, ready in the state s5; H1: what was held before -/
def RdyT (X : Cx) (pins : List (Addr × Obj)) (σ : L2.St) (H1 : Hp) (P : Addr) (its : List Value) (pb : Value → Bool) (g : Addr) (s5 : Shared) : Prop :=
  ∃ (fp wr : List Addr) (G : Array GenState → Array GenState → Prop) (F : Nat → Value → Prop) (St : Nat → Shared → Prop),
    WalksS X.prog X.w X.A.in1 g fp wr G its.length F St ∧ St 0 s5 ∧ TruthOf X.prog X.w X.A.in1 F (ansAt pb its) ∧
    ∀ s', Moved wr G s5 s' → ∃ H2, Tabbed P H1 H2 ∧ Inv X pins σ H2 s'

/-- the generator expression's code object: new, or found in the table -/
theorem genexpr_code {M : Model} {A : Around} {E : Value → Shared → Prop} {s : Shared} {env : Env} {c P : Addr} {ps : Array Value}
    {pos : Pos} {qn : Str} {scope : Scope} {Q : Value → Shared → Prop} (hc : env.code = .ref c) (cd : PySem.W.CodeHd s.heap c P)
    (hP : s.heap.get? P = some { cls := .none, data := .fields ps }) (ht : TriplesOk ps.toList)
    (h : ∀ (code : Value) (h3 : Heap) (tk : Nat) (more : Array Value), Heap.ExtBut P s.heap h3 → s.heap.objs.size ≤ h3.objs.size →
      h3.get? P = some { cls := .none, data := .fields (ps ++ more) } → TriplesOk (ps ++ more).toList →
      Q code { s with heap := h3, toks := tk }) :
    wpAny M A (genexprCode env pos qn scope) Q E s := by
  match hf : codeAmong pos ps.toList with
  | none =>
    refine wpAny_genexprCodeX hc (cd.code hP ht) (cd.tab hP) hf fun c' h' tk hx hge hlt hco _ htab _ => ?_
    obtain ⟨o1, vs, f1, tf, fl, tg, inF, tx, tt, op, _, _, _, _, _, _, _, _, _, htr, _⟩ := hco
    exact h _ h' tk _ hx (Nat.le_trans hge (Nat.le_of_lt hlt)) htab.2 htr
  | some cv =>
    refine wpAny_genexprCode_hit hc (cd.code hP ht) hf ?_
    have e : ps ++ #[] = ps := Array.append_empty
    exact h cv s.heap s.toks #[] (Heap.ExtBut.refl _ _) (Nat.le_refl _) (by rw [e]; exact hP) (by rw [e]; exact ht)

section
variable {X : Cx} {pins : List (Addr × Obj)} {σ : L2.St} {H : Hp} {s : Shared}
theorem gen_tup {c P : Addr} {elt iter : Expr} {x : Str} {px gpos : Pos} {scope : Scope} {te : TE} {k : Nat}
    {Q' : Value → Shared → Prop} {R : Hp → (Value → Bool) → List Value → Prop}
    (hr : Room k X.A) (TB : TabB X.base X.mg c P) (hcode : X.env.code = .ref c) (S : GenS X.env scope x) (hi : PE X iter te)
    (hs : ∀ v, genFold iter X.env v = pure v) (I : Inv X pins σ H s)
    {Φ : V → Hp → Prop} (h : te σ H Φ) (hΦ : ∀ v H1, Φ v H1 → ∃ (a : Addr) (xs : List V), v = .ref a ∧ SqT X.K H1 a xs ∧ TabG H1 P ∧
      ∀ (s1 : Shared) (its : List Value), Inv X pins σ H1 s1 → Vals xs its →
        ∃ pb, EltOk X P scope x elt s1 its pb ∧ R H1 pb its)
    (hQ : ∀ H1 pb its g s5, R H1 pb its → RdyT X pins σ H1 P its pb g s5 → Q' (.ref g) s5) :
    wpAny (model X.prog X.w) X.A (eval (.GeneratorExp elt [⟨.Name x px, iter, [], 0⟩] scope gpos) X.env) Q' X.xe s := by
  refine wpAny_GeneratorExp_walksQD hr.hd S.co (closure_ok S.free) S.cell S.dot S.loc S.kind (by have := hr.dp; omega) ?_ hs
  refine thn (hi.run pins s σ H _ I h) fun xv s1 hz => ?_
  obtain ⟨v, H1, I1, r1, hz⟩ := hz
  obtain ⟨a, xs, ev, hq, ⟨ps, hP, ht⟩, hel⟩ := hΦ v H1 hz
  subst ev
  cases r1
  obtain ⟨its, rv, tp, hlen⟩ := I1.tuple hq
  obtain ⟨pb, hE, hR⟩ := hel s1 its I1 rv
  refine wpAny_pyIter_tuple (show s1.heap.IsTuple a its.toArray from tp) ?_
  generalize ho : ({ cls := .type "tuple_iterator", data := .fields #[.ref a, .int 0 0] } : Obj) = o
  have pushK : ∀ b u, s1.heap.get? b = some u → (s1.heap.push o).get? b = some u := fun b u e => Heap.get?_push_of_some _ e
  have hPs : s1.heap.get? P = some { cls := .none, data := .fields ps } := I1.hok P _ hP
  have szo : (s1.heap.push o).objs.size = s1.heap.objs.size + 1 := Heap.size_push ..
  have lim2 : (s1.heap.push o).NoLimit := I1.nolimit.push o
  have cd := (TB.code.keeps fun b u e => pushK b u (I1.bk b u e))
  have hcl : cStatics < s1.heap.objs.size := by
    obtain ⟨_, hns, _⟩ := I1.nolimit
    exact hns.lt
  have hcP : cStatics ≠ P := by
    intro e
    obtain ⟨_, ⟨o', es, ep, h1, h2, _⟩, _⟩ := I1.nolimit
    rw [e, hPs] at h1
    cases h1
    cases h2
  obtain ⟨bm, ob, e1, e2, e3, e4, e5, e6, e7, e8⟩ := TB.bm
  refine ⟨lim2, ?_⟩
  have hP2 : (s1.heap.push o).get? P = some { cls := .none, data := .fields ps } := pushK P _ hPs
  refine genexpr_code hcode cd hP2 ht fun code h3 tk more hx hsz hP3 ht3 => ?_
  have keep3 : ∀ b u, b ≠ P → s1.heap.get? b = some u → h3.get? b = some u := fun b u hb e => hx b u hb (pushK b u e)
  refine wpAny_builtinsFor (m := X.mg) ?_ e1 e2 (keep3 _ _ e4 (I1.bk _ _ e5)) e6 e7 e8 ?_
  · rw [I1.ok.glob]
    exact ((I1.mod.glob.keeps I1.bk).push o).extBut hx TB.gP
  have It : (s1.heap.push o).IsTupleIter s1.heap.objs.size a 0 := by
    subst ho
    exact ⟨_, Heap.get?_push_size _ rfl, rfl, rfl⟩
  have nPi : s1.heap.objs.size ≠ P := (Nat.ne_of_lt (Heap.lt_size hPs)).symm
  have aI : a ≠ s1.heap.objs.size := Nat.ne_of_lt tp.lt
  have aP : a ≠ P := by
    intro e
    obtain ⟨o1, q1, q2, _⟩ := tp
    rw [e, hPs] at q1
    cases q1
    cases q2
  refine ⟨s1.heap.objs.size, [s1.heap.objs.size, a], [s1.heap.objs.size], its.toArray.size, _, _, (fun _ => true),
    (fun i y => ∃ v, its[i]? = some v ∧ y = .bool (pb v)), rfl, fun A' hA => Walks.tuple (A := A') hA s1.heap.objs.size a aI its.toArray, ?_, ?_, lim2.extBut hx hcP, ?_, ?_, ?_⟩
  · exact ⟨It.at fun u e => hx _ u nPi e, Heap.IsTuple.at (show s1.heap.IsTuple a its.toArray from tp) fun u e => keep3 a u aP e⟩
  · intro b hb
    have hsz' : (s1.heap.push o).objs.size ≤ h3.objs.size := hsz
    have hz : (s1.heap.objs.size : Nat) < h3.objs.size := by omega
    rcases List.mem_cons.mp hb with z | z
    · rw [z]
      exact hz
    · rw [List.mem_singleton.mp z]
      exact Nat.lt_trans tp.lt hz
  · intro z
    exact Nat.ne_of_lt hcl (List.mem_singleton.mp z)
  · intro href hhref
    refine ⟨fun A' E' i v s₂ m₂ hA _ _ hPv hn hm hk => ?_, fun A' E' i v s₂ m₂ hA hD hU hPv hp hn hm hk => ?_⟩
    · rw [List.forIn_nil]
      exact wpAny_pure (And.intro rfl (keeps_refl _))
    · have hv : its[i]? = some v := by rw [← Array.getElem?_toList] at hPv; exact hPv
      refine wpAny_mono (hE _ A' E' v s₂ m₂ rfl I1.ok.glob rfl rfl hA hD hU (List.mem_of_getElem? hv) hn hm ?_) (fun y s3 r => ⟨⟨v, hv, r.1⟩, r.2⟩) fun _ _ e => e
      intro b u nb e
      have e3 : h3.get? b = some u := keep3 b u nb e
      have hb : b < s1.heap.objs.size := Heap.lt_size e
      refine hk b (List.mem_range.mpr (Heap.lt_size e3)) (fun z => ?_) u (hhref b u e3)
      exact Nat.ne_of_lt hb (List.mem_singleton.mp z)
  · intro g h5 tk5 gs hgb hag hsz5 hk5 W5 hat
    have pT : passing (fun _ => true) its.toArray.size 0 = List.range its.length := passing_true _
    rw [pT, List.length_range] at W5
    refine hQ H1 pb its g _ hR ⟨_, _, _, _, _, W5.in4_1, hat, ?_, fun s' hm => ?_⟩
    · intro j y sj Qj Ej hy hQj
      obtain ⟨i, hij, v, hv, ey⟩ := hy
      subst ey
      obtain ⟨hj, ej⟩ := List.getElem?_eq_some_iff.mp hij
      rw [List.getElem_range] at ej
      subst ej
      have hQ2 : Qj (ansAt pb its j) sj := hQj
      rw [ansAt_of hv] at hQ2
      exact wpAny_truthy_bool hQ2
    · have nwr : ∀ b u, s1.heap.get? b = some u → b ∉ h3.objs.size :: [s1.heap.objs.size] := by
        intro b u e z
        have hl := Heap.lt_size e
        have hsz' : (s1.heap.push o).objs.size ≤ h3.objs.size := hsz
        rcases List.mem_cons.mp z with z | z
        · rw [z] at hl
          exact Nat.lt_irrefl _ (Nat.lt_of_lt_of_le (Nat.lt_of_lt_of_le hl (Nat.le_of_lt (by rw [szo] at hsz'; exact hsz'))) (Nat.le_refl _))
        · rw [List.mem_singleton.mp z] at hl
          exact Nat.lt_irrefl _ hl
      have J := inv_tab (more := more) (h' := s'.heap) (g' := s'.gens) (d' := s'.drawn) (t' := s'.toks) I1 hP
        (fun b u hb e => hm.heap b u (nwr b u e) (hk5 b u (keep3 b u hb e)))
        (hm.heap P _ (nwr P _ hPs) (hk5 P _ hP3)) (AllBare.movedS (I1.bare.push hgb) hm)
      rw [sh_eta s1 s' hm.os] at J
      exact ⟨_, ⟨⟨_, upd_same, ht3⟩, fun b hb => upd_ne hb⟩, J⟩
/-- all(..) of it -/
def tAllT (K : PySem.W.Frag) (P : Addr) (te : TE) (W : L2.St → Hp → List V → (Bool → Prop) → Prop) : TE := fun σ H Q =>
  te σ H fun v H1 => ∃ a xs, v = .ref a ∧ SqT K H1 a xs ∧ TabG H1 P ∧ W σ H1 xs fun b => ∀ H2, Tabbed P H1 H2 → Q (.bl b) H2
theorem pe_allT {c P : Addr} {elt iter : Expr} {x : Str} {px p pos gpos : Pos} {scope : Scope} {te : TE} {k : Nat}
    {W : L2.St → Hp → List V → (Bool → Prop) → Prop}
    (hr : Room k X.A) (hg : Gl X "all") (hm : X.mg "all" = none) (TB : TabB X.base X.mg c P) (hcode : X.env.code = .ref c)
    (S : GenS X.env scope x) (hi : PE X iter te)
    (hel : ∀ (pins : List (Addr × Obj)) (σ : L2.St) (s1 : Shared) (H1 : Hp) (xs : List V) (its : List Value) (q : Bool → Prop),
      Inv X pins σ H1 s1 → Vals xs its → W σ H1 xs q → ∃ pb, EltOk X P scope x elt s1 its pb ∧ q (its.all pb))
    (hs : ∀ v, genFold iter X.env v = pure v)
    (he : starEach [.GeneratorExp elt [⟨.Name x px, iter, [], 0⟩] scope gpos] X.env = (false, eval (.GeneratorExp elt [⟨.Name x px, iter, [], 0⟩] scope gpos) X.env) :: starEach [] X.env := by rfl) :
    PE X (.Call (.Name "all" p) [.GeneratorExp elt [⟨.Name x px, iter, [], 0⟩] scope gpos] [] pos) (tAllT X.K P te W) := by
  have hv : bootBuiltins "all" = some (.builtin "all") := by decide +kernel
  refine PE.mk fun pins s σ H Q I h => wpAny_Call_Name_kw (ld_blt I hg hm hv ?_)
  refine PyProof.Rows.callWith_builtin1 ?_ he (by rfl)
  rw [he]
  refine Calls.spliced_cons (gen_tup (R := fun H1 pb its => ∀ H2, Tabbed P H1 H2 → Q (.bl (its.all pb)) H2) hr TB hcode S hi hs I h ?_ ?_)
  · rintro v H1 ⟨a, xs, e, hq, ht, hw⟩
    exact ⟨a, xs, e, hq, ht, fun s1 its I1 rv => hel pins σ s1 H1 xs its _ I1 rv hw⟩
  · intro H1 pb its g s5 hR hG
    obtain ⟨fp, wr, G, F, St, W, hst, htr, hI⟩ := hG
    refine Calls.spliced_nil (call_all_walkS (W.self 0 _ _ _ hst ⟨g, fp, wr, G, _, F, St, _, rfl, W, hst, htr, fun s' hmv => ?_⟩))
    obtain ⟨H2, hT, J⟩ := hI s' hmv
    refine ⟨.bl _, H2, J, rfl, ?_⟩
    rw [all_ansAt]
    exact hR H2 hT
end
end My

/-! the test is_whole(value, 0, many - 1) at each item -/
namespace My
open PySem PySem.Spec PyProof.Rows L2 GxR

def wholeV (x : V) (l m : Int) : Bool := match x with
  | .int i => decide (l ≤ i) && decide (i ≤ m)
  | _ => false
theorem wholeV_of {x : V} {u : Value} (r : RelV x u) (l m : Int) : whole u l m = wholeV x l m := by
  cases x with
  | int i =>
    obtain ⟨t, rfl⟩ := r
    rfl
  | non => cases (show u = Value.none from r); rfl
  | bl b => cases (show u = Value.bool b from r); rfl
  | str z => obtain ⟨t, rfl⟩ := (show ∃ t, u = Value.str z t from r); rfl
  | byt z => obtain ⟨t, rfl⟩ := (show ∃ t, u = Value.bytes z t from r); rfl
  | flt z => obtain ⟨t, rfl⟩ := (show ∃ t, u = Value.float z t from r); rfl
  | ref a => cases (show u = Value.ref a from r); rfl
  | ty n => cases (show u = Value.type n from r); rfl
theorem all_wholeV {l m : Int} : ∀ {xs : List V} {its : List Value}, Vals xs its → its.all (fun u => whole u l m) = xs.all fun x => wholeV x l m
  | _, _, .nil => rfl
  | _, _, .cons r t => by rw [List.all_cons, List.all_cons, wholeV_of r, all_wholeV t]
theorem Vals.mem {u : Value} : ∀ {xs : List V} {its : List Value}, Vals xs its → u ∈ its → ∃ x ∈ xs, RelV x u
  | _, _, .nil, h => nomatch h
  | _, _, .cons (a := x) r t, h => by
    rcases List.mem_cons.mp h with e | h
    · subst e
      exact ⟨_, List.mem_cons_self, r⟩
    · obtain ⟨y, hy, q⟩ := Vals.mem t h
      exact ⟨y, List.mem_cons_of_mem _ hy, q⟩
theorem tyInt {K : PySem.W.Frag} {H : Hp} {x : V} {u : Value} {T : String} (t : TyB K H x T) (r : RelV x u) :
    (T = "int" → ∃ i k, u = .int i k) ∧ (T ≠ "int" → ∀ i k, u ≠ .int i k) := by
  cases t with
  | int i =>
    obtain ⟨k, rfl⟩ := r
    exact ⟨fun _ => ⟨i, k, rfl⟩, fun h => (h rfl).elim⟩
  | non => cases (show u = Value.none from r); exact ⟨fun h => absurd h (by decide), fun _ _ _ => nofun⟩
  | bl b => cases (show u = Value.bool b from r); exact ⟨fun h => absurd h (by decide), fun _ _ _ => nofun⟩
  | str z => obtain ⟨k, rfl⟩ := (show ∃ t, u = Value.str z t from r); exact ⟨fun h => absurd h (by decide), fun _ _ _ => nofun⟩
  | byt z => obtain ⟨k, rfl⟩ := (show ∃ t, u = Value.bytes z t from r); exact ⟨fun h => absurd h (by decide), fun _ _ _ => nofun⟩
  | lst h => cases (show u = Value.ref _ from r); exact ⟨fun h => absurd h (by decide), fun _ _ _ => nofun⟩
  | tup h => cases (show u = Value.ref _ from r); exact ⟨fun h => absurd h (by decide), fun _ _ _ => nofun⟩
  | dK h => cases (show u = Value.ref _ from r); exact ⟨fun h => absurd h (by decide), fun _ _ _ => nofun⟩
theorem typeIs_but {s s' : Shared} {u : Value} {T : String} {P : Addr} {d : Data} (h : s.TypeIs u T) (hP : s.heap.get? P = some { cls := .none, data := d })
    (k : ∀ b o, b ≠ P → s.heap.get? b = some o → s'.heap.get? b = some o) : s'.TypeIs u T := by
  cases u with
  | ref a =>
    obtain ⟨o, e, c⟩ := h
    refine ⟨o, k a o (fun z => ?_) e, c⟩
    rw [z, hP] at e
    cases e
    cases c
  | _ => exact h

/-- the names of the test -/
structure EltS (X : Cx) (scope : Scope) (x m fn : Str) (im : Nat) : Prop where
  kind : scope.kind = .function
  lx : scope.names.lookup x = some .local
  lf : scope.names.lookup fn = some .globalImplicit
  lm : scope.names.lookup m = some .free
  nm : X.N[im]? = some m
  cm : X.env.scope.names.lookup m = some .cell
  dx : (x == ("__debug__" : Str)) = false
  df : (fn == ("__debug__" : Str)) = false
  dm : (m == ("__debug__" : Str)) = false
  dc : (m == ("__classdict__" : Str)) = false

def wholeW (K : PySem.W.Frag) (P : Addr) (im : Nat) : L2.St → Hp → List V → (Bool → Prop) → Prop := fun σ H xs q =>
  ∃ n : Int, σ[im]? = some (some (.int n)) ∧ (∃ ps, H P = some (.tbl ps)) ∧ (∀ x ∈ xs, ∃ T, TyB K H x T) ∧ q (xs.all fun x => wholeV x 0 (n - 1))

theorem elt_whole {X : Cx} {P : Addr} {scope : Scope} {x m : Str} {im : Nat} {f : Addr} {fd : FuncData} {st : Stmt}
    {p1 p2 p3 p4 p5 p6 p7 : Pos} {j1 j2 : Nat} {k : Nat} (hr : Room k X.A) (S : EltS X scope x m "is_whole" im)
    (D : WholeD X.K X.mg f fd st) (gf : X.mg "is_whole" = some (.ref f)) (pins : List (Addr × Obj)) (σ : L2.St) (s1 : Shared) (H1 : Hp)
    (xs : List V) (its : List Value) (q : Bool → Prop) (I : Inv X pins σ H1 s1) (rv : Vals xs its) (h : wholeW X.K P im σ H1 xs q) :
    ∃ pb, EltOk X P scope x (.Call (.Name "is_whole" p1) [.Name x p2, .Constant (.int 0) j1 p3, .BinOp (.Name m p4) .Sub (.Constant (.int 1) j2 p5) p6] [] p7) s1 its pb ∧ q (its.all pb) := by
  obtain ⟨n, hn, hP, hty, hq⟩ := h
  refine ⟨fun u => whole u 0 (n - 1), ?_, by rw [all_wholeV rv]; exact hq⟩
  intro cenv A' E' v s2 m2 hs hg hbt hc hd hD hU hv hns hm2 hk
  obtain ⟨x0, hx0, rx⟩ := Vals.mem rv hv
  obtain ⟨T, ty⟩ := hty x0 hx0
  obtain ⟨ps, hPs⟩ := hP
  have oP := I.hok P _ hPs
  have oP : s1.heap.get? P = some { cls := .none, data := .fields ps } := oP
  have kb : ∀ b o, X.base.get? b = some o → s2.heap.get? b = some o := fun b o e =>
    hk b o (fun z => by have := (I.bs b o e).2; rw [z, hPs] at this; cases this) (I.bk b o e)
  have hT : s2.TypeIs v T := typeIs_but (ty.is I rx) oP hk
  obtain ⟨t3, t4⟩ := tyInt ty rx
  -- the captured name
  obtain ⟨mm, _, hl⟩ := I.loc
  obtain ⟨un, ⟨tn, eun⟩, lk⟩ := hl im m (.int n) S.nm hn (Or.inr (Or.inl S.cm))
  subst eun
  obtain ⟨cc, hcc, hcell⟩ : ∃ c, X.env.cells.lookup m = some c ∧ s1.heap.IsCell c (some (.int n tn)) := by
    rcases lk with ⟨z, _⟩ | ⟨_, c, h1, h2⟩
    · exact nomatch (S.cm.symm.trans z)
    · exact ⟨c, h1, h2⟩
  have hcl : (cloFrom X.env.cells scope.names []).lookup m = some cc := by
    obtain ⟨c2, e2⟩ := mem_lookup (cloFrom_has (cells := X.env.cells) (acc := []) (PySem.mem_of_lookup S.lm))
    rcases cloFrom_mem (PySem.mem_of_lookup e2) with hm | ⟨_, h2⟩
    · cases hm
    · rw [e2]
      have e3 : c2 = cc := by
        rw [h2, hcc]
        rfl
      rw [e3]
  have hcell2 : s2.heap.IsCell cc (some (.int n tn)) := by
    obtain ⟨o, e, d⟩ := hcell
    refine ⟨o, hk cc o (fun z => ?_) e, d⟩
    rw [z, oP] at e
    cases e
    cases d
  have kin := I.mod.kin.keeps kb
  refine wpAny_Call_Name_kw (Calls.Name_function_global (by rw [hs]; exact S.kind) (show cenv.scope.names.lookup ("is_whole" : Str) = some NameKind.globalImplicit by rw [hs]; exact S.lf)
    (Calls.loadGlobal_global (by rw [hg]; exact I.mod.glob.keeps kb) gf ?_) S.df)
  refine PySem.W.callWith_K (h₀ := X.base) I.mod.kin D.fn.kp ?_ (by rfl) (by rfl)
  refine Calls.spliced_cons (wpAny_Name (wpAny_loadName_local (by rw [hs]; exact S.kind) (show cenv.scope.names.lookup x = some .local by rw [hs]; exact S.lx) hns hm2 ?_) S.dx)
  show wpAny _ _ (spliced ((false, eval (.Constant (.int 0) j1 p3) cenv) :: backTo p7 (starEach [.BinOp (.Name m p4) .Sub (.Constant (.int 1) j2 p5) p6] cenv))) _ _ _
  refine Calls.spliced_cons (wpAny_Constant_int ?_)
  show wpAny _ _ (spliced ((false, eval (.BinOp (.Name m p4) .Sub (.Constant (.int 1) j2 p5) p6) cenv) :: backTo p7 (starEach [] cenv))) _ _ _
  refine Calls.spliced_cons (wpAny_BinOp (wpAny_Name (wpAny_loadName_free (by rw [hs]; exact S.kind) (show cenv.scope.names.lookup m = some .free by rw [hs]; exact S.lm)
    (by rw [hc]; exact hcl) hcell2 ?_ S.dc) S.dm))
  refine wpAny_Constant_int (sub_int (Calls.spliced_nil ⟨kin, ?_⟩))
  have w2 := whole_low (P := X.prog) (w := X.w) (A := A') (E := E') (s := { s2 with toks := s2.toks + 1 + 1 + 1 }) (l := 0) (m := n - 1) (t1 := s2.toks) (t2 := s2.toks + 1 + 1) D I.mod kb hd
    (by have := hr.dp; omega) (by have := hr.un; omega) (u := v) (T := T) hT ty.nb t3 t4
  refine wpAny_mono w2 (fun y s3 hz => ⟨hz.1, ?_⟩) fun _ _ e => e
  obtain ⟨h', tk, e, kk⟩ := hz.2
  exact ⟨h', tk, by rw [e], kk⟩
/-- the generator expression's scope, by one look -/
def genSB (sc scope : Scope) (x : Str) : Bool :=
  decide (scope.kind = .function) && !scope.isCoroutine && decide (scope.names.lookup (".0" : Str) = some NameKind.local) && decide (scope.names.lookup x = some NameKind.local) &&
    scope.names.all fun y => !decide (y.2 = NameKind.cell) && (!decide (y.2 = NameKind.free) || decide (sc.names.lookup y.1 = some NameKind.cell))
theorem genS_by {qual : Str} {sc scope : Scope} {L f : Addr} {cd : Value} {x : Str} (h : genSB sc scope x = true) : GenS (envOfC qual sc L f cd) scope x := by
  unfold genSB at h
  simp only [Bool.and_eq_true, Bool.or_eq_true, Bool.not_eq_true', decide_eq_true_eq, decide_eq_false_iff_not, List.all_eq_true] at h
  obtain ⟨⟨⟨⟨h1, h2⟩, h3⟩, h4⟩, h5⟩ := h
  refine ⟨h1, h2, fun y hy => (h5 y hy).1, h3, h4, fun y hy e => ?_⟩
  rcases (h5 y hy).2 with z | z
  · exact absurd e z
  · exact cell_has z
end My

/-! lambdas that capture nothing: made, handed on, called -/
namespace My
open PySem PySem.Spec PyProof.Rows L2
open LamX (CodeO TabS ExtN inv_table among_app codeO_ne)

/-- the function object o stands at f -/
def FnO (f : Addr) (o : Obj) : HO := .ext fun h => h.get? f = some o
theorem fnO_ok {P : Program} {w : World} {H : Hp} {h : Heap} {f : Addr} {o : Obj} (e : h.get? f = some o) : ObjOk P w H h f (FnO f o) :=
  ⟨e, ⟨o, e⟩, fun _ _ h1 st => st o h1⟩
theorem fnO_ne {f : Addr} {o : Obj} (ps : Array Value) : FnO f o ≠ .tbl ps := fun z => by
  unfold FnO at z
  cases z

theorem cloFrom_nil {cells : List (Str × Addr)} : ∀ {names : List (Str × NameKind)}, (∀ y ∈ names, y.2 ≠ .free) → cloFrom cells names [] = []
  | [], _ => rfl
  | (n, k) :: r, h => by
    have h1 : (k == NameKind.free) = false := beq_eq_false_iff_ne.mpr (h (n, k) List.mem_cons_self)
    unfold cloFrom
    rw [h1]
    exact cloFrom_nil fun y hy => h y (List.mem_cons_of_mem _ hy)

abbrev lamObj (q : Str) (params : Arguments) (body : Expr) (scope : Scope) (pm : Value) (c' : Addr) (ctv : Value) : Obj :=
  PySem.W.kla_obj "<lambda>" q params body scope [] pm c' ctv

section
variable {X : Cx} {pins : List (Addr × Obj)} {σ : L2.St} {H : Hp} {s : Shared}
/-- lambda ..: body -/
theorem lam_mk {c P : Addr} {params : Arguments} {body : Expr} {scope : Scope} {pos : Pos} {E : Value → Shared → Prop} {Q : Value → Shared → Prop}
    (I : Inv X pins σ H s) (TB : LamX.TabB X.base X.mg c P) (hcode : X.env.code = .ref c)
    (hT : TabS H P (X.env.qual ++ "<lambda>")) (hdef : defaultsOf params X.env = ([], [])) (nf : ∀ y ∈ scope.names, y.2 ≠ .free)
    (h : ∀ (f c' : Addr) (pm ctv : Value) (H1 : Hp) (s' : Shared), Inv X pins σ H1 s' → ExtN H H1 → TabS H1 P (X.env.qual ++ "<lambda>") →
      (∀ b, b ≠ P → H b ≠ none → H1 b = H b) → H f = none → H1 f = some (FnO f (lamObj (X.env.qual ++ "<lambda>") params body scope pm c' ctv)) →
      H1 c' = some (CodeO c' (X.env.qual ++ "<lambda>")) → Q (.ref f) s') :
    wpAny (model X.prog X.w) X.A (eval (.Lambda params body scope pos) X.env) Q E s := by
  obtain ⟨ps, hP, ht, ha⟩ := hT
  have hclos : closureFor scope X.env = pure [] := by
    have e := closure_ok (env := X.env) (scope := scope) fun y hy z => absurd z (nf y hy)
    rwa [cloFrom_nil nf] at e
  refine PySem.W.kla_eval hdef ?_
  have bP : s.heap.BuiltinsAt X.mg P := TB.bm.keeps I.bk
  have hP' : s.heap.get? P = some { cls := .none, data := .fields ps } := I.hok P _ hP
  have g0 := I.mod.glob.keeps I.bk
  have cd := TB.code.keeps I.bk
  match hc : codeAmong pos ps.toList with
  | none =>
    refine PySem.W.kla_makeFunction (mg := X.mg) (c := c) (P := P) (ps := ps) hclos I.ok.glob g0 hcode cd hP' ht hc TB.gP bP ?_
    intro c' ctv h' tk hx hge hlt hrec htb
    obtain ⟨c2, oc, vs, t, e2, hoc, hd, hv⟩ := hrec
    cases e2
    have hsz : s.heap.objs.size ≤ h'.objs.size := Nat.le_trans hge (Nat.le_of_lt hlt)
    have nC : H c' = none := I.hok.fresh hge
    have nF : H h'.objs.size = none := I.hok.fresh hsz
    have I1 := inv_table (q := X.env.qual ++ "<lambda>") (t' := tk) (more := #[rawInt pos.line, rawInt pos.col, .ref c']) (h' := h') I hP hx htb hge ⟨oc, vs, t, hoc, hd, hv⟩
    have I2 := I1.laid (a := h'.objs.size) (t' := tk) (h' := h'.push (lamObj (X.env.qual ++ "<lambda>") params body scope ((X.mg "__name__").getD .none) c' ctv))
      (fun b u e => Heap.get?_push_of_some _ e) (Nat.le_refl _) (fnO_ok (Heap.get?_push_size _ rfl))
    have nPF : P ≠ h'.objs.size := ne_of_none hP nF
    have nPC : P ≠ c' := ne_of_none hP nC
    have nCF : c' ≠ h'.objs.size := Nat.ne_of_lt hlt
    have old : ∀ b, b ≠ P → H b ≠ none → upd (upd (upd H P (.tbl (ps ++ #[rawInt pos.line, rawInt pos.col, .ref c']))) c' (CodeO c' (X.env.qual ++ "<lambda>"))) h'.objs.size (FnO h'.objs.size (lamObj (X.env.qual ++ "<lambda>") params body scope ((X.mg "__name__").getD .none) c' ctv)) b = H b := by
      intro b h1 h2
      rw [upd_ne (fun z => h2 (by rw [z]; exact nF)), upd_ne (fun z => h2 (by rw [z]; exact nC)), upd_ne h1]
    have ext : ExtN H _ := fun b o e n => (old b (fun z => n ps (Option.some.inj (e.symm.trans (by rw [z]; exact hP)))) (by rw [e]; nofun)).trans e
    have atC : upd (upd (upd H P (.tbl (ps ++ #[rawInt pos.line, rawInt pos.col, .ref c']))) c' (CodeO c' (X.env.qual ++ "<lambda>"))) h'.objs.size (FnO h'.objs.size (lamObj (X.env.qual ++ "<lambda>") params body scope ((X.mg "__name__").getD .none) c' ctv)) c' = some (CodeO c' (X.env.qual ++ "<lambda>")) := by
      rw [upd_ne nCF, upd_same]
    refine h h'.objs.size c' _ ctv _ _ I2 ext ⟨ps ++ #[rawInt pos.line, rawInt pos.col, .ref c'], ?_, ?_, fun p' cv hcv => ?_⟩ old nF upd_same atC
    · rw [upd_ne nPF, upd_ne nPC, upd_same]
    · rw [Array.toList_append]
      exact PySem.TriplesOk_snoc _ _ _ _ ht
    · rw [Array.toList_append] at hcv
      rcases among_app _ ht hcv with z | z
      · obtain ⟨c0, e1, e2⟩ := ha p' cv z
        exact ⟨c0, e1, ext _ _ e2 codeO_ne⟩
      · exact ⟨c', z, atC⟩
  | some cv =>
    obtain ⟨c', e, hco⟩ := ha pos cv hc
    subst e
    refine PySem.W.kla_makeFunctionHit (mg := X.mg) (c := c) (P := P) (ps := ps) hclos I.ok.glob g0 hcode cd hP' ht hc bP fun ctv h' tk hx hsz => ?_
    have nF : H h'.objs.size = none := I.hok.fresh hsz
    have I1 := I.kept (h' := h') (t' := tk) hx
    have I2 := I1.laid (a := h'.objs.size) (t' := tk) (h' := h'.push (lamObj (X.env.qual ++ "<lambda>") params body scope ((X.mg "__name__").getD .none) c' ctv))
      (fun b u e => Heap.get?_push_of_some _ e) (Nat.le_refl _) (fnO_ok (Heap.get?_push_size _ rfl))
    have old : ∀ b, H b ≠ none → upd H h'.objs.size (FnO h'.objs.size (lamObj (X.env.qual ++ "<lambda>") params body scope ((X.mg "__name__").getD .none) c' ctv)) b = H b := fun b h2 =>
      upd_ne (fun z => h2 (by rw [z]; exact nF))
    have all : ∀ b o, H b = some o → upd H h'.objs.size (FnO h'.objs.size (lamObj (X.env.qual ++ "<lambda>") params body scope ((X.mg "__name__").getD .none) c' ctv)) b = some o := fun b o e => (old b (by rw [e]; nofun)).trans e
    exact h h'.objs.size c' _ ctv _ _ I2 (ExtN.of all) (TabS.ext ⟨ps, hP, ht, ha⟩ all) (fun b _ h2 => old b h2) nF upd_same (all _ _ hco)
/-- the reading of a lambda -/
def tLam (P : Addr) (q : Str) (params : Arguments) (body : Expr) (scope : Scope) : TE := fun _ H Q => TabS H P q ∧
  ∀ (f c' : Addr) (pm ctv : Value) (H1 : Hp), ExtN H H1 → TabS H1 P q → (∀ b, b ≠ P → H b ≠ none → H1 b = H b) → H f = none →
    H1 f = some (FnO f (lamObj q params body scope pm c' ctv)) → H1 c' = some (CodeO c' q) → Q (.ref f) H1
theorem pe_lam {c P : Addr} {params : Arguments} {body : Expr} {scope : Scope} {pos : Pos} (TB : LamX.TabB X.base X.mg c P) (hcode : X.env.code = .ref c)
    (hdef : defaultsOf params X.env = ([], [])) (nf : ∀ y ∈ scope.names, y.2 ≠ .free) :
    PE X (.Lambda params body scope pos) (tLam P (X.env.qual ++ "<lambda>") params body scope) := by
  refine PE.mk fun pins s σ H Q I h => lam_mk I TB hcode h.1 hdef nf fun f c' pm ctv H1 s' I1 e t o nf' a1 a2 => ?_
  exact ⟨.ref f, H1, I1, rfl, h.2 f c' pm ctv H1 e t o nf' a1 a2⟩
end

/-- what may be called, with so many arguments -/
structure Cal (P : Program) (w : World) (K : PySem.W.Frag) (mg : Str → Option Value) (base : Heap) (k : Nat) (f : Addr) (H : Hp) (ar : Nat) (sp : Sp) : Prop where
  fn : PySem.W.keepIn K (.ref f) = true ∨ ∃ o : Obj, H f = some (FnO f o) ∧ ∃ oc od fd sl, o = ⟨oc, od, .func fd, sl⟩
  run : ∀ (A : Around) (outer : List Env) (s : Shared) (H' : Hp) (us : List Value) (vs : List V) (Q : VK) (E : XK), Rm k A →
    Env0 P w K mg base A outer s H' → ExtN H H' → Vals vs us → us.length = ar → sp vs H' Q E →
    codeAny (model P w) A (.call (.ref f) ⟨us, []⟩) (CR CX0 outer P w H' s Q E) s
section
variable {P : Program} {w : World} {K : PySem.W.Frag} {mg : Str → Option Value} {base : Heap} {k ar : Nat} {f : Addr} {H H1 : Hp} {sp : Sp}
theorem Cal.ext (c : Cal P w K mg base k f H ar sp) (e : ExtN H H1) : Cal P w K mg base k f H1 ar sp := by
  refine ⟨?_, fun A o s H' us vs Q E r e0 x => c.run A o s H' us vs Q E r e0 (e.trans x)⟩
  rcases c.fn with h | ⟨o, h, z⟩
  · exact Or.inl h
  · exact Or.inr ⟨o, e _ _ h fnO_ne, z⟩
theorem Cal.mono {j : Nat} (c : Cal P w K mg base j f H ar sp) (h : j ≤ k) : Cal P w K mg base k f H ar sp := ⟨c.fn, fun A o s H' us vs Q E r => c.run A o s H' us vs Q E (r.mono h)⟩
theorem Cal.of {x : Str} {ps : List Str} (D : Df P w K mg base CX0 k x f ps sp) (hl : ps.length = ar) : Cal P w K mg base k f H ar sp := by
  obtain ⟨fd, F, b, _⟩ := D.ex
  refine ⟨Or.inl D.kp, fun A outer s H' us vs Q E r e0 _ rv hu hs => ?_⟩
  have kin : K.In s.heap := e0.mod.kin.keeps fun b o e => (e0.bs b o e).1
  have hb := b s us kin (by rw [List.append_nil, hu, hl])
  rw [List.append_nil] at hb
  exact F.go A outer s H' _ us vs Q E r e0 hb rv hs
/-- a lambda that captures nothing, by its body -/
theorem lam_cal {q : Str} {params : Arguments} {body : Expr} {scope : Scope} {pm ctv : Value} {c' : Addr} {N ps : List Str}
    (h1 : H f = some (FnO f (lamObj q params body scope pm c' ctv))) (h2 : H c' = some (CodeO c' q)) (S : FnScope N ps scope)
    (hb : ∀ us : List Value, us.length = ps.length → bindArgs (PySem.W.kla_fn "<lambda>" q params body scope [] pm (.ref c') ctv) ⟨us, []⟩ = pure (ps.zip us))
    (hbody : ∀ (A : Around) (outer : List Env) (s : Shared) (H' : Hp) (vs : List V) (Q : VK) (E : XK),
      Rm k (A.deeper (envOfC q scope s.heap.objs.size f (.ref c'))) → sp vs H' Q E →
      ∃ t, PE (cxOf CX0 P w K mg base N q scope f (.ref c') A outer s H' E) body t ∧ t (start N vs) H' Q) :
    Cal P w K mg base (k + 1) f H ps.length sp := by
  refine ⟨Or.inr ⟨_, h1, _, _, _, _, rfl⟩, fun A outer s H' us vs Q E hr e0 ext rv hu hs => ?_⟩
  have hl : vs.length = ps.length := rv.length.trans hu
  have o1 : s.heap.get? f = some (lamObj q params body scope pm c' ctv) := (e0.hok f _ (ext _ _ h1 fnO_ne)).1
  obtain ⟨oc, fl, t, hoc, hdc, hvc⟩ := (e0.hok c' _ (ext _ _ h2 codeO_ne)).1
  have lim : s.heap.NoLimit := e0.mod.nolimit.keeps fun b o e => (e0.bs b o e).1
  refine PySem.W.kla_callFunE hr.r.depth o1 rfl S.co S.gen rfl ⟨c', oc, fl, t, rfl, hoc, hdc, hvc⟩ ?_
  rw [hb us hu]
  refine wpAny_pure (wpAny_newFunctionEnv_cells S.kind (fun ⟨n, v⟩ hy => ?_) fun env he s1 x => ?_)
  · rcases S.par n (List.of_mem_zip hy).1 with z | z
    · exact Or.inl z
    · exact Or.inr (And.intro z (PySem.W.cellsFrom_some _ _ _ (Or.inl z)))
  subst he
  refine ⟨lim.keeps x.toInCall.keep, PySem.W.kla_codeExpr ?_⟩
  obtain ⟨t, ht, hq⟩ := hbody A outer s H' vs Q E (hr.deeper _) hs
  have I := inv_start (CX := CX0) (qual := q) (f := f) (cd := .ref c') (E := E) S hr.r.hd e0 hl rv x
  refine wpAny_mono (ht.run [] s1 _ H' _ I hq) (fun v s' hz => ?_) fun e s' hz => hz
  obtain ⟨v', H2, J, r', qq⟩ := hz
  exact ⟨v', H2, J.os, J.bare, J.base, J.hok, r', qq⟩
end

section
variable {X : Cx} {k i j : Nat} {x : Str} {p pos : Pos} {e : Expr} {es : List Expr} {t : TA}
/-- a call of what the slot holds -/
def tCal (X : Cx) (j i ar : Nat) (t : TA) : TE := fun σ H Q => ∃ f sp, σ[i]? = some (some (.ref f)) ∧ Cal X.prog X.w X.K X.mg X.base j f H ar sp ∧
  t σ H fun vs H1 => vs.length = ar ∧ ExtN H H1 ∧ sp vs H1 Q E0
theorem pe_cal (hr : Rm k X.A) (hj : j ≤ k) (hN : X.N[i]? = some x) (hv : Vis X.env.scope x) (ha : PA X (e :: es) t)
    (hdb : (x == ("__debug__" : Str)) = false := by decide) (hcd : (x == ("__classdict__" : Str)) = false := by decide)
    (he : starEach (e :: es) X.env = (false, eval e X.env) :: starEach es X.env := by rfl)
    (hpl : (backTo pos (starEach es X.env)).any (·.1) = false := by rfl) {ar : Nat} :
    PE X (.Call (.Name x p) (e :: es) [] pos) (tCal X j i ar t) := by
  refine PE.mk fun pins s σ H Q I h => ?_
  obtain ⟨f, sp, hs, c, ht⟩ := h
  refine wpAny_Call_Name_kw (thn ((pe_var (pos := p) hN hv hdb hcd).run pins s σ H (fun v H1 => v = .ref f ∧ H1 = H) I ⟨.ref f, hs, rfl, rfl⟩) fun u s1 hz => ?_)
  obtain ⟨v, H1, I1, r1, e1, e2⟩ := hz
  subst e1 e2
  cases r1
  have run : ∀ us s2 vs H2, Inv X pins σ H2 s2 → Vals vs us → vs.length = ar ∧ ExtN H1 H2 ∧ sp vs H2 Q E0 →
      wpAny (model X.prog X.w) X.A (call (.ref f) us) (EP X pins σ Q) X.xe s2 := by
    intro us s2 vs H2 I2 r q
    refine wpAny_call (codeAny_mono (c.run X.A X.stack s2 H2 us vs Q E0 (hr.mono hj) I2.env0 q.2.1 r (r.length.symm.trans q.1) q.2.2) fun r s' hq => ?_)
    match r, hq with
    | .ok (.ret u), hq => exact I2.after hq
  rcases c.fn with hk | ⟨o, ho, oc, od, fd, sl, eo⟩
  · refine PySem.W.callWith_K (h₀ := X.base) I1.ok.mod.kin hk (thn (ha.run pos pins s1 σ _ _ I1 ht) ?_) he hpl
    intro us s2 hz
    obtain ⟨vs, H2, I2, r, q⟩ := hz
    exact ⟨I2.kIn, run us s2 vs H2 I2 r q⟩
  · subst eo
    refine PySem.W.callWith_F ⟨oc, od, fd, sl, (I1.hok f _ ho).1⟩ (thn (ha.run pos pins s1 σ _ _ I1 ht) ?_) he hpl
    intro us s2 hz
    obtain ⟨vs, H2, I2, r, q⟩ := hz
    exact ⟨⟨oc, od, fd, sl, (I2.hok f _ (q.2.1 _ _ ho fnO_ne)).1⟩, run us s2 vs H2 I2 r q⟩
end
end My

/-! the law's own call where tables of code objects may grow -/
namespace My
open PySem PySem.Spec PyProof.Rows L2

/-- what may be tracked at the law's start: the script, the tables -/
def Startable (a : Addr) (its : Array Value) (ts : List (Addr × Addr)) (h : Heap) (H : Hp) : Prop := ∀ b u, H b = some u →
  (b = a ∧ u = .frz { cls := .type "list", data := .seq its } (.lst ((its.toList.filterMap absV)))) ∨ (b ∈ ts.map (·.2) ∧ u = .tbl #[])

section
variable {P : Program} {w : World} {K : PySem.W.Frag} {mg mb : Str → Option Value} {CX : CXT} {k : Nat}
variable {fa a : Addr} {fd : FuncData} {x : Str} {sp : Sp} {s₁ : Shared} {ts : List (Addr × Addr)}

theorem run_lawT (H : Hp) (KX : K.In s₁.heap) (g0 : s₁.heap.Ns mainGlobals mg) (b0 : s₁.heap.Ns builtinsNs mb)
    (bb : ∀ y : Str, y ≠ "__name__" → mb y = bootBuiltins y) (nl : s₁.heap.NoLimit) (ng : s₁.gens = #[])
    (hT : PySem.W.TabsAt ts s₁.heap) (nT : ∀ p ∈ ts, K.lookup p.2 = none)
    (hbm : ∃ (bm : Addr) (ob : Obj), mg "__builtins__" = some (.ref bm) ∧ bm ≠ builtinsNs ∧ s₁.heap.get? bm = some ob ∧ ob.cls = .type "module" ∧ ob.dict = some builtinsNs ∧ ob.data = .plain)
    {its : Array Value} (ha : s₁.heap.get? a = some { cls := .type "list", data := .seq its })
    (hr : Rm k callerA) (bd : ∀ (s : Shared) (u : Value), BindsTo s fd ⟨[u], []⟩ [(x, u)])
    (F : ∀ base : Heap, K.In base → base.Ns mainGlobals mg → (∀ p ∈ ts, LamX.TabB base mg p.1 p.2) → FnG P w K mg base CX k fa fd [x] sp)
    (hA : ∀ b u, H b = some u → (b = a ∧ ∃ xs, u = .frz { cls := .type "list", data := .seq its } (.lst xs)) ∨ (b ∈ ts.map (·.2) ∧ u = .tbl #[]))
    (hsp : sp [.ref a] H (fun v _ => v = .bl true) fun _ _ _ => False)
    (hok : HOk P w H s₁.heap) (hK : H a ≠ none → K.lookup a = none)
    (hCX : ∀ H e s', CX [] H s₁ (fun _ _ _ => False) e s' → False) :
    codeAny (model P w) callerA (.call (.ref fa) ⟨[.ref a], []⟩) (Fine s₁) s₁ := by
  have tabObj : ∀ b, b ∈ ts.map (·.2) → s₁.heap.get? b = some { cls := .none, data := .fields #[] } := by
    intro b hb
    obtain ⟨p, hp, e⟩ := List.mem_map.mp hb
    rw [← e]
    exact (hT p hp).2
  -- what is neither a list nor an empty table is not tracked
  have free : ∀ {b : Addr} {o : Obj}, s₁.heap.get? b = some o → (∀ vs n, o.data ≠ .seq vs n) → o.data ≠ .fields #[] → H b = none := by
    intro b o e h1 h2
    match q : H b with
    | none => rfl
    | some u =>
      rcases hA b u q with ⟨z, _⟩ | ⟨z, _⟩
      · rw [z, ha] at e
        cases e
        exact absurd rfl (h1 _ _)
      · rw [tabObj b z] at e
        cases e
        exact absurd rfl h2
  have free_dict : ∀ {b : Addr} {o : Obj} {es ep}, s₁.heap.get? b = some o → o.data = .dict es ep → H b = none := fun e d =>
    free e (fun _ _ z => nomatch d.symm.trans z) fun z => nomatch d.symm.trans z
  have ns' : ∀ {b m}, s₁.heap.Ns b m → (hidT s₁.heap H).Ns b m := by
    intro b m z
    obtain ⟨o, es, ep, e, d, r⟩ := z
    exact ⟨o, es, ep, hidT_get e (free_dict e d), d, r⟩
  have kin : K.In (hidT s₁.heap H) := by
    intro b o e
    refine hidT_get (KX b o e) ?_
    match q : H b with
    | none => rfl
    | some u =>
      rcases hA b u q with ⟨z, _⟩ | ⟨z, _⟩
      · rw [z] at e q
        rw [hK (by rw [q]; nofun)] at e
        cases e
      · obtain ⟨p, hp, ep⟩ := List.mem_map.mp z
        rw [← ep, nT p hp] at e
        cases e
  obtain ⟨mc, n1, n2⟩ := nl
  have M : L2.Mod K mg (hidT s₁.heap H) := ⟨kin, ns' g0, ⟨mb, ns' b0, bb⟩, ⟨mc, ns' n1, n2⟩⟩
  have TB : ∀ p ∈ ts, LamX.TabB (hidT s₁.heap H) mg p.1 p.2 := by
    intro p hp
    have tP := (hT p hp).2
    obtain ⟨og, eg, eg2, g1, g2, _⟩ := id g0
    refine ⟨?_, ?_, fun z => ?_⟩
    · obtain ⟨o, vs, fl, tf, fg, tg, inF, tx, tt, e1, r1, r2, r3, r4⟩ := (hT p hp).1
      refine ⟨o, vs, fl, tf, fg, tg, inF, tx, tt, hidT_get e1 (free e1 ?_ fun z => ?_), r1, r2, r3, r4⟩
      · exact fun _ _ z => nomatch r2.symm.trans z
      · cases r2.symm.trans z
        simp at r3
    · obtain ⟨bm, ob, b1, b2, b3, b4, b5, b6⟩ := hbm
      refine ⟨bm, ob, b1, b2, fun z => ?_, fun z => ?_, hidT_get b3 (free b3 (fun _ _ z => nomatch b6.symm.trans z) fun z => nomatch b6.symm.trans z), b4, b5, b6⟩
      · rw [z, g1] at b3
        cases b3
        exact nomatch g2.symm.trans b6
      · rw [z, tP] at b3
        cases b3
        exact nomatch b6
    · rw [z, tP] at g1
      cases g1
      exact nomatch g2
  have e0 : Env0 P w K mg (hidT s₁.heap H) callerA [] s₁ H :=
    { frames := rfl, mod := M, bs := fun b o e => of_hidT e, bsz := Nat.le_of_eq (hidT_size _ _)
      funs := trivial, frf := (fun b hb => nomatch hb), hok := hok, bare := .of_eq ng }
  have c := (F _ kin (ns' g0) TB).go callerA [] s₁ H ⟨[.ref a], []⟩ [.ref a] [.ref a] _ _ hr e0 (bd s₁ _) (.cons rfl .nil) hsp
  refine codeAny_mono c fun r s' h => ?_
  match r, h with
  | .error e, h => exact absurd h (hCX H e s')
  | .ok (.ret u), h =>
    obtain ⟨v, H', os, bare, un, hok', r', q⟩ := h
    cases (show v = .bl true from q)
    cases (show u = Value.bool true from r')
    have key : ∀ b o, b ∉ ts.map (·.2) → s₁.heap.get? b = some o → s'.heap.get? b = some o := by
      intro b o nb e
      match q : H b with
      | none => exact un.keep b o e q (fun z => nomatch z) (fun z => nomatch z)
      | some u =>
        rcases hA b u q with ⟨_, xs, z⟩ | ⟨z, _⟩
        · rw [z] at q
          have e1 := (hok b _ q).1
          have e2 := (hok' b _ (un.frzs b _ _ q)).1
          rw [e] at e1
          cases e1
          exact e2
        · exact absurd z nb
    have grown : ∀ p ∈ ts, s'.heap.get? p.2 ≠ none ∧ (H p.2 = some (.tbl #[]) → ∃ more : Array Value, s'.heap.get? p.2 = some { cls := .none, data := .fields more }) := by
      intro p hp
      refine ⟨fun z => ?_, fun e => ?_⟩
      · obtain ⟨o', e'⟩ := un.there p.2 _ (hT p hp).2 (fun z => nomatch z)
        rw [z] at e'
        cases e'
      · obtain ⟨more, z⟩ := un.tbls p.2 #[] e
        exact ⟨_, hok' p.2 _ z⟩
    refine ⟨rfl, ⟨fun b o e => ?_, fun b o e => un.there b o e (fun z => nomatch z)⟩, os, bare⟩
    by_cases hb : b ∈ ts.map (·.2)
    · obtain ⟨p, hp, ep⟩ := List.mem_map.mp hb
      match q : H b with
      | none => exact Or.inl (un.keep b o e q (fun z => nomatch z) (fun z => nomatch z))
      | some u =>
        rcases hA b u q with ⟨z, _⟩ | ⟨_, z⟩
        · have t1 := tabObj b hb
          rw [z, ha] at t1
          cases t1
        · rw [z, ← ep] at q
          obtain ⟨more, hm⟩ := (grown p hp).2 q
          rw [← ep] at e ⊢
          rw [(hT p hp).2] at e
          cases e
          exact Or.inr (Or.inl ⟨((hT p hp).1.tab (hT p hp).2).isCodeTable, rfl, #[], more, rfl, by rw [Array.empty_append]; exact hm⟩)
    · exact Or.inl (key b o hb e)

theorem law_callT {vs : List Value} {ns : List Int} (KX : K.In s₁.heap) (g0 : s₁.heap.Ns mainGlobals mg) (b0 : s₁.heap.Ns builtinsNs mb)
    (bb : ∀ y : Str, y ≠ "__name__" → mb y = bootBuiltins y) (nl : s₁.heap.NoLimit) (ng : s₁.gens = #[])
    (hT : PySem.W.TabsAt ts s₁.heap) (nT : ∀ p ∈ ts, K.lookup p.2 = none)
    (hbm : ∃ (bm : Addr) (ob : Obj), mg "__builtins__" = some (.ref bm) ∧ bm ≠ builtinsNs ∧ s₁.heap.get? bm = some ob ∧ ob.cls = .type "module" ∧ ob.dict = some builtinsNs ∧ ob.data = .plain)
    (ha : s₁.heap.get? a = some { cls := .type "list", data := .seq vs.toArray }) (hi : IntsAre vs ns) (hl : ns.length ≤ sizeLine)
    (hr : Rm k callerA) (bd : ∀ (s : Shared) (u : Value), BindsTo s fd ⟨[u], []⟩ [(x, u)])
    (F : ∀ base : Heap, K.In base → base.Ns mainGlobals mg → (∀ p ∈ ts, LamX.TabB base mg p.1 p.2) → FnG P w K mg base CX k fa fd [x] sp)
    (hsp : ∀ H : Hp, (∀ p ∈ ts, H p.2 = some (.tbl #[])) → SqL K H a (ns.map V.int) → sp [.ref a] H (fun v _ => v = .bl true) fun _ _ _ => False)
    (hCX : ∀ H e s', CX [] H s₁ (fun _ _ _ => False) e s' → False) :
    codeAny (model P w) callerA (.call (.ref fa) ⟨[.ref a], []⟩) (Fine s₁) s₁ := by
  have rv := vals_ints hi
  have tabO : ∀ b, b ∈ ts.map (·.2) → s₁.heap.get? b = some { cls := .none, data := .fields #[] } := by
    intro b hb
    obtain ⟨p, hp, e⟩ := List.mem_map.mp hb
    rw [← e]
    exact (hT p hp).2
  have aT : a ∉ ts.map (·.2) := fun z => by
    have q := tabO a z
    rw [ha] at q
    cases q
  have mem : ∀ p ∈ ts, p.2 ∈ ts.map (·.2) := fun p hp => List.mem_map.mpr ⟨p, hp, rfl⟩
  let T : Hp := fun b => if b ∈ ts.map (·.2) then some (.tbl #[]) else none
  have T1 : ∀ {b}, b ∈ ts.map (·.2) → T b = some (.tbl #[]) := fun h => if_pos h
  have T0 : ∀ {b}, b ∉ ts.map (·.2) → T b = none := fun h => if_neg h
  match hk : K.lookup a with
  | some o =>
    have e := KX a o hk
    rw [ha] at e
    cases e
    have hS : SqL K T a (ns.map V.int) :=
      Or.inr ⟨_, vs.toArray, _, hk, rfl, rfl, rfl, by rw [List.size_toArray, hi.length]; exact hl, by simpa using rv⟩
    refine run_lawT T KX g0 b0 bb nl ng hT nT hbm ha hr bd F (fun b u z => ?_) (hsp _ (fun p hp => T1 (mem p hp)) hS) (fun b u z => ?_) (fun z => absurd (T0 aT) z) hCX
    · by_cases hb : b ∈ ts.map (·.2)
      · cases (T1 hb).symm.trans z
        exact Or.inr ⟨hb, rfl⟩
      · exact nomatch (T0 hb).symm.trans z
    · by_cases hb : b ∈ ts.map (·.2)
      · cases (T1 hb).symm.trans z
        exact tabO b hb
      · exact nomatch (T0 hb).symm.trans z
  | none =>
    let u : HO := .frz { cls := .type "list", data := .seq vs.toArray } (.lst (ns.map V.int))
    let H : Hp := fun b => if b = a then some u else T b
    have at_a : H a = some u := if_pos rfl
    have off : ∀ {b}, b ≠ a → H b = T b := fun h => if_neg h
    have hS : SqL K H a (ns.map V.int) := Or.inl (Or.inr ⟨_, at_a⟩)
    refine run_lawT H KX g0 b0 bb nl ng hT nT hbm ha hr bd F (fun b o z => ?_) (hsp _ (fun p hp => ?_) hS) (fun b o z => ?_) (fun _ => hk) hCX
    · by_cases hb : b = a
      · subst hb
        cases at_a.symm.trans z
        exact Or.inl ⟨rfl, _, rfl⟩
      · have z1 := (off hb).symm.trans z
        by_cases h2 : b ∈ ts.map (·.2)
        · cases (T1 h2).symm.trans z1
          exact Or.inr ⟨h2, rfl⟩
        · exact nomatch (T0 h2).symm.trans z1
    · rw [off (fun z => aT (by rw [← z]; exact mem p hp))]
      exact T1 (mem p hp)
    · by_cases hb : b = a
      · subst hb
        cases at_a.symm.trans z
        exact ⟨ha, by rw [List.length_map]; exact hl, vs, _, rv, ha⟩
      · have z1 := (off hb).symm.trans z
        by_cases h2 : b ∈ ts.map (·.2)
        · cases (T1 h2).symm.trans z1
          exact tabO b h2
        · exact nomatch (T0 h2).symm.trans z1
end

/-- what k_head leaves, from the law's promise: F gives the def, its tables and its promise -/
theorem walkT {l : PySem.W.OpenLaw} {n k : Nat} {q : Program} {loose : List Str} {XP : (Str → Option Value) → Heap → Prop} {YP : World → Heap → Prop}
    {d : DefRec} {K : Params → PySem.W.Frag} {CX : World → CXT} {x : Str}
    (hn : l.most = some n) (hn2 : n ≤ sizeLine) (hdf : d.params.defaults = []) (hr : Rm k callerA)
    (hY : ∀ (w : World) (h : Heap), YP w h → (K w.params).In h)
    (F : ∀ (w : World) (mg : Str → Option Value) (fa : Addr) (h : Heap), (K w.params).In h → h.Ns mainGlobals mg → mg d.name = some (.ref fa) →
      (∀ (y : Str) (e : DefRec) (c P : Addr), (PyProof.Rows.recsOf q).find? (fun r => r.name == y) = some e → PySem.W.tabIn (K w.params) y = some (c, P) →
        PySem.W.CodeHd h c P ∧ h.get? P = some (PySem.W.tabObj #[])) →
      ∃ (fd : FuncData) (ts : List (Addr × Addr)) (sp : Sp), PySem.W.TabsAt ts h ∧ (∀ p ∈ ts, (K w.params).lookup p.2 = none) ∧
        (∀ (s : Shared) (u : Value), BindsTo s fd ⟨[u], []⟩ [(x, u)]) ∧
        (∀ (H : Hp) (a : Addr) (ns : List Int), ns.length ≤ n → (∀ p ∈ ts, H p.2 = some (.tbl #[])) → SqL (K w.params) H a (ns.map V.int) →
          sp [.ref a] H (fun v _ => v = .bl true) fun _ _ _ => False) ∧
        ∀ base : Heap, (K w.params).In base → base.Ns mainGlobals mg → (∀ p ∈ ts, LamX.TabB base mg p.1 p.2) →
          FnG l.prog w (K w.params) mg base (CX w) k fa fd [x] sp)
    (hCX : ∀ (w : World) (H : Hp) (s : Shared) (e : Value) (s' : Shared), CX w [] H s (fun _ _ _ => False) e s' → False) :
    PySem.W.WalkO q loose XP YP l.row.toRowW d [] (fun f vs => PySem.call f vs) := by
  refine Att.attach_call hn hdf ?_
  intro w s₀ s₁ mg mb fa o pm cd doc a vs ns G Y ho hd hcd hmg hobj hints hlen hg
  have KX := hY w _ Y
  obtain ⟨fd, ts, sp, hT, nT, hb, hsp, hF⟩ := F w mg fa _ KX G.T.g hmg fun y e c P h1 h2 => PySem.W.tab_of G.T KX h1 h2
  exact law_callT KX G.T.g G.T.b G.T.builtins G.T.nolimit hg hT nT G.T.bmain hobj hints (Nat.le_trans hlen hn2) hr hb hF
    (fun H hH hS => hsp H a ns hlen hH hS) fun H e s' => hCX w H s₁ e s'
end My

/-! for i, x in enumerate(t), t a tuple -/
namespace My
open PySem PySem.Spec PyProof.Rows L2

theorem enum_new1 {v : Value} {o : Obj} {Hc : Heap → Prop} (B : Begins v o Hc) :
    Meets (Builtin.«enumerate.__new__» ⟨[.type "enumerate", v], []⟩) (fun _ R s => Hc s.heap ∧
      R (.ok (.ret (.ref (s.heap.push o).objs.size)))
        { s with heap := (s.heap.push o).push { cls := .type "enumerate", data := .fields #[.none, .bool false, .ref s.heap.objs.size, rawInt 0, .none, .none] } }) :=
  .of_wp fun prog w A R s hs => by
    obtain ⟨hp, g, d, tk, os⟩ := s
    obtain ⟨hv, hs⟩ := hs
    have hsub := sub_enumerate
    have it1 : ∀ {A' : Around} {E : Value → Shared → Prop} {Q : Value → Shared → Prop}, Q (.ref hp.objs.size) ⟨hp.push o, g, d, tk, os⟩ →
        wpAny (model prog w) A' (pyIter v) Q E ⟨hp, g, d, tk, os⟩ := fun q => B.iter prog w _ _ ⟨hp, g, d, tk, os⟩ _ hv q
    wp_walk using it1
    refine wpAny_stack_any fun st => wpAny_pure ?_
    split
    · rename_i c _ _ _ _ _
      cases (c == Value.type "enumerate")
      · wp_walk using it1
        exact Exists.intro _ (And.intro rfl hs)
      · wp_walk using it1
        exact Exists.intro _ (And.intro rfl hs)
    · wp_walk using it1
      exact Exists.intro _ (And.intro rfl hs)
section
variable {prog : Program} {w : World} {A : Around} {E : Value → Shared → Prop} {s : Shared}
theorem enum_call1 {v : Value} {o : Obj} {Hc : Heap → Prop} {Q : Value → Shared → Prop} (B : Begins v o Hc) (hv : Hc s.heap)
    (h : ∀ h', IsEnum h' (s.heap.objs.size + 1) s.heap.objs.size 0 .none → h'.get? s.heap.objs.size = some o → h'.objs.size = s.heap.objs.size + 2 →
      (∀ b u, s.heap.get? b = some u → h'.get? b = some u) → Q (.ref (s.heap.objs.size + 1)) { s with heap := h' }) :
    wpAny (model prog w) A (call (.type "enumerate") [v]) Q E s := by
  refine callType_new F.called_enumerate (by decide) (F.typeCall_enumerate_1 _) (F.newCall_enumerate_1 _) (fun obj => F.args_object_init_2 obj _)
    F.entry_enumerate_new (enum_new1 B) ⟨hv, ?_⟩
  have hz : (s.heap.push o).objs.size = s.heap.objs.size + 1 := Heap.size_push ..
  show _ ∧ _
  rw [hz]
  generalize ho2 : ({ cls := .type "enumerate", data := .fields #[.none, .bool false, .ref s.heap.objs.size, rawInt 0, .none, .none] } : Obj) = o2
  have he : ((s.heap.push o).push o2).get? (s.heap.objs.size + 1) = some o2 := by
    rw [← hz]
    exact Heap.get?_push_size _ (by rw [← ho2]; rfl)
  refine ⟨⟨o2, he, by rw [← ho2]⟩, h _ (by show Heap.get? _ _ = some _; rw [he, ← ho2]) ?_ (by rw [Heap.size_push, hz]) fun b u x => ?_⟩
  · exact Heap.get?_push_of_some _ (Heap.get?_push_size _ B.free)
  · exact Heap.get?_push_of_some _ (Heap.get?_push_of_some _ x)
end

/-- the turns: a new pair of the place and the item -/
def ItE (K : PySem.W.Frag) (a : Addr) : It :=
  ⟨fun i H => ∃ (xs : List V) (x : V), SqT K H a xs ∧ xs[i]? = some x,
    fun i H v H' => ∃ T x, v = .ref T ∧ H T = none ∧ H' = upd H T (.tup [.int (i : Nat), x]) ∧ ∀ xs, SqT K H a xs → xs[i]? = some x,
    fun i H => ∃ xs : List V, SqT K H a xs ∧ xs.length = i⟩
/-- the iterators' state -/
def EnSt (a e it : Addr) (i : Nat) (h : Heap) : Prop := (∃ old, IsEnum h e it (i : Int) old) ∧ h.IsTupleIter it a i ∧ e ≠ it
theorem turn_enT {P : Program} {w : World} {K : PySem.W.Frag} {elts : List Expr} {kk : Nat} {tpos : Pos} (a e it : Addr) (hea : a ≠ e) (hia : a ≠ it) :
    Turn P w K (.Tuple elts kk tpos) (ItE K a) [e, it] e (EnSt a e it) where
  mem := List.mem_cons_self
  obj := fun i h st b hb => by
    obtain ⟨⟨old, he⟩, ⟨o, ho, hc, hd⟩, _⟩ := st
    rcases List.mem_cons.mp hb with z | z
    · subst z
      exact ⟨_, he, fun v => nofun⟩
    · rw [List.mem_singleton.mp z]
      exact ⟨o, ho, fun v q => nomatch hd.symm.trans q⟩
  keep := fun i h h' st k => by
    obtain ⟨⟨old, he⟩, hi, hne⟩ := st
    exact ⟨⟨old, k e List.mem_cons_self _ he⟩, hi.at fun o q => k it (List.mem_cons_of_mem _ List.mem_cons_self) o q, hne⟩
  item := by
    intro X hP hw hK hc i pins s σ H E I hf st hg
    subst hP hw hK
    obtain ⟨⟨old, he⟩, hit, hne⟩ := st
    obtain ⟨xs, x, hq, hx⟩ := hg
    obtain ⟨its, rv, p, hz⟩ := I.tuple hq
    obtain ⟨u, hu, ru⟩ := rv.get hx
    have D := Draws.tuple (prog := X.prog) (w := X.w) (A := X.A.in1) (I.ok.hd hc) it a hia its.toArray
    have hi : i < its.toArray.size := by
      have := (List.getElem?_eq_some_iff.mp hu).1
      simpa using this
    have hel : e < s.heap.objs.size := Heap.lt_size he
    have hil : it < s.heap.objs.size := by
      obtain ⟨_, q, _⟩ := hit
      exact Heap.lt_size q
    have nef : e ∉ [it, a] := by
      intro z
      rcases List.mem_cons.mp z with z | z
      · exact hne z
      · exact hea (List.mem_singleton.mp z).symm
    refine wpAny_pyNext_enum_itemD D he ⟨hit, p⟩ hi hne nef fun y h' tk hy ho hst' hT hsz hk => ?_
    have ey : y = u := by
      have hy' : its[i]? = some y := by rw [← Array.getElem?_toList] at hy; exact hy
      exact Option.some.inj (hy'.symm.trans hu)
    subst ey
    refine ⟨_, rfl, wpAny_letOwnedTupleGo_enum (s := { s with heap := h', toks := tk + 1 }) ho fun h'' he' sb => ?_⟩
    have hT2 : h''.get? s.heap.objs.size = some { cls := .type "tuple", data := .seq #[.int i tk, y] } := (sb.2 _ (Nat.ne_of_gt hel)).trans hT
    have new : ObjOk X.prog X.w (upd H s.heap.objs.size (.tup [.int (i : Nat), x])) h'' s.heap.objs.size (.tup [.int (i : Nat), x]) :=
      ⟨by show 2 ≤ sizeLine; decide, [.int i tk, y], .cons ⟨_, rfl⟩ (.cons ru .nil), Exists.intro _ (And.intro hT2 ⟨rfl, _, rfl⟩)⟩
    have I1 : Inv X pins σ (upd H s.heap.objs.size (.tup [.int (i : Nat), x])) { s with heap := h'', toks := tk + 1 } :=
      I.turnedNew (ch := [e, it]) (fun b ob hb q => (sb.2 b (fun z => hb (z ▸ List.mem_cons_self))).trans
        (hk b ob (fun z => hb (z ▸ List.mem_cons_self)) (fun z => hb (z ▸ List.mem_cons_of_mem _ List.mem_cons_self)) q)) hf (Nat.le_refl _) new
    refine ⟨.ref s.heap.objs.size, _, I1, rfl, ⟨_, x, rfl, I.hok.fresh (Nat.le_refl _), rfl, fun ys h2 => by rw [I.tuple_inj h2 hq]; exact hx⟩, ⟨⟨y, ?_⟩, hst'.1.at fun o q => (sb.2 it (Ne.symm hne)).trans q, hne⟩, fun b hb => ?_⟩
    · rw [show ((i + 1 : Nat) : Int) = (i : Int) + 1 by omega]
      exact he'
    · have hb' : b < s.heap.objs.size := by
        rcases List.mem_cons.mp hb with z | z
        · rw [z]; exact hel
        · rw [List.mem_singleton.mp z]; exact hil
      rw [upd_ne (Nat.ne_of_lt hb')]
      exact (hf b hb).1
  done := by
    intro X hP hw hK hc i pins s σ H E I hf st hg
    subst hP hw hK
    obtain ⟨⟨old, he⟩, hit, hne⟩ := st
    obtain ⟨xs, hq, hx⟩ := hg
    obtain ⟨its, rv, p, hz⟩ := I.tuple hq
    have D := Draws.tuple (prog := X.prog) (w := X.w) (A := X.A.in1) (I.ok.hd hc) it a hia its.toArray
    obtain ⟨f0, f1, f2, f3, f4, f5⟩ := hf it (List.mem_cons_of_mem _ List.mem_cons_self)
    have el : i = its.toArray.size := by
      have := rv.length
      simp
      omega
    refine wpAny_pyNext_enum_endD D he ⟨el ▸ hit, p⟩ fun h' eb => ⟨rfl, ?_⟩
    exact I.turned (t' := s.toks) (fun b o hb q => eb b o hb q) f0 f1 f3 f4 f5
  self := fun A i s Q E st h => let ⟨⟨_, he⟩, _⟩ := st; wpAny_pyIter_enum he h
def iEnT (K : PySem.W.Frag) (te : TE) : TI := fun σ H R => te σ H fun v H1 => ∃ a xs, v = .ref a ∧ SqT K H1 a xs ∧ R (ItE K a) H1
theorem pi_enumT {X : Cx} {e : Expr} {te : TE} {p pos tpos : Pos} {elts : List Expr} {kk : Nat} (hg : Gl X "enumerate") (hm : X.mg "enumerate" = none) (ha : PE X e te)
    (hs : starEach [e] X.env = (false, eval e X.env) :: starEach [] X.env := by rfl) :
    PI X (.Tuple elts kk tpos) (.Call (.Name "enumerate" p) [e] [] pos) (iEnT X.K te) := by
  refine ⟨fun pins s σ H R I h => ?_⟩
  refine PyProof.Rows.Call_ (ld_blt I hg hm boot_enumerate (PyProof.Rows.callWith_type1 ?_ hs rfl))
  rw [hs]
  refine Calls.spliced_cons (thn (ha.run pins s σ H _ I h) fun u s1 hz => Calls.spliced_nil ?_)
  obtain ⟨v, H1, I1, r1, a, xs, ev, hq, q⟩ := hz
  subst ev
  cases r1
  obtain ⟨its, rv, p', _⟩ := I1.tuple hq
  refine enum_call1 (begins_tuple a its.toArray) p' fun h' he hit hsz hk => wpAny_pyIter_enum he ?_
  have I2 : Inv X pins σ H1 { s1 with heap := h' } := I1.kept (t' := s1.toks) hk
  have la : a < s1.heap.objs.size := p'.lt
  refine ⟨s1.heap.objs.size + 1, [s1.heap.objs.size + 1, s1.heap.objs.size], _, _, H1, rfl, I2,
    turn_enT a (s1.heap.objs.size + 1) s1.heap.objs.size (Nat.ne_of_lt (Nat.lt_succ_of_lt la)) (Nat.ne_of_lt la),
    ⟨⟨.none, he⟩, ⟨_, hit, rfl, rfl⟩, Nat.succ_ne_self _⟩, fun b hb => ?_, q⟩
  have hle : s1.heap.objs.size ≤ b := by
    rcases List.mem_cons.mp hb with z | z
    · rw [z]; exact Nat.le_add_right _ _
    · rw [List.mem_singleton.mp z]; exact Nat.le_refl _
  exact I1.fpOk hle (I1.hok.fresh hle)
theorem walk_enT {K : PySem.W.Frag} {a : Addr} {xs : List V} : L2.Walk (ItE K a) xs.length (fun H => SqT K H a xs)
    (fun i H v H' => ∃ T x, v = .ref T ∧ H T = none ∧ H' = upd H T (.tup [.int (i : Nat), x]) ∧ xs[i]? = some x) where
  goes := fun i H hi hG => ⟨xs, xs[i], hG, List.getElem?_eq_getElem hi⟩
  stops := fun H hG => ⟨xs, hG, rfl⟩
  yields := fun i H x H' _ hG y => by
    obtain ⟨T, z, e1, e2, e3, e4⟩ := y
    exact ⟨T, z, e1, e2, e3, e4 xs hG⟩
end My

/-! data in the heap, and how heaps go on -/
namespace My
open PySem PySem.Spec PyProof.Rows L2
open LamX (CodeO TabS ExtN)
open GxR (TabG Tabbed)

/-! ### operators by what their operands are -/
theorem OpR.either {X : Cx} {f : Value → Value → Sem Value} {r1 r2 : R2} (h1 : OpR X f r1) (h2 : OpR X f r2) :
    OpR X f (fun x y H Q => r1 x y H Q ∨ r2 x y H Q) := fun pins s σ H x y v u Q I rx ry h =>
  h.elim (h1 pins s σ H x y v u Q I rx ry) (h2 pins s σ H x y v u Q I rx ry)
theorem SlR.either {X : Cx} {r1 r2 : V → Option Int → Option Int → Hp → VK → Prop} (h1 : SlR X r1) (h2 : SlR X r2) :
    SlR X (fun x a b H Q => r1 x a b H Q ∨ r2 x a b H Q) := fun pins s σ H x v vl vu lo hi sl Q I rx hs pl pu h =>
  h.elim (h1 pins s σ H x v vl vu lo hi sl Q I rx hs pl pu) (h2 pins s σ H x v vl vu lo hi sl Q I rx hs pl pu)
section
variable {X : Cx} {k : Nat}
def rAddG (K : PySem.W.Frag) : R2 := fun x y H Q => rI0 (fun i j => .int (i + j)) x y H Q ∨ (rCat x y H Q ∨ (rCatA K x y H Q ∨
  ∃ i j, x = .str i ∧ y = .str j ∧ i.length + j.length ≤ sizeLine ∧ Q (.str (i ++ j)) H))
theorem op_addG : OpR X (binaryOp .Add) (rAddG X.K) := OpR.either op_add (OpR.either op_cat (OpR.either op_catA op_add_str))
def rMulG (K : PySem.W.Frag) : R2 := fun x y H Q => rI CMul (fun i j => .int (i * j)) x y H Q ∨ (rRep x y H Q ∨ rRepT K x y H Q)
theorem op_mulG : OpR X (binaryOp .Mult) (rMulG X.K) := OpR.either op_mul (OpR.either op_rep op_repT)
def rEqG (K : PySem.W.Frag) : R2 := fun x y H Q => rEq x y H Q ∨ rEqD K x y H Q
def rNeG (K : PySem.W.Frag) : R2 := fun x y H Q => rNe x y H Q ∨ rNeD K x y H Q
theorem op_eqG (hr : Rm k X.A) : OpR X (compareOp .Eq) (rEqG X.K) := OpR.either op_eq (op_eqD hr.r.units)
theorem op_neG (hr : Rm k X.A) : OpR X (compareOp .NotEq) (rNeG X.K) := OpR.either op_ne (op_neD hr.r.units)
def rIsG : R2 := fun x y H Q => (y = .non ∧ Q (.bl (decide (x = .non))) H) ∨ ((∃ a b, x = .ty a ∧ y = .ty b ∧ Q (.bl (decide (a = b))) H) ∨ rIsB x y H Q)
theorem op_isG : OpR X (compareOp .Is) rIsG := OpR.either op_isN (OpR.either op_isTyB op_isBl)
def rIsNotG : R2 := fun x y H Q => (y = .non ∧ Q (.bl (!decide (x = .non))) H) ∨ rNotB x y H Q
theorem op_isNotG : OpR X (compareOp .IsNot) rIsNotG := OpR.either op_notN op_notBl
def rSlG (K : PySem.W.Frag) : V → Option Int → Option Int → Hp → VK → Prop := fun x a b H Q => rSlL K x a b H Q ∨ rSlA K x a b H Q
theorem sl_seq : SlR X (rSlG X.K) := SlR.either sl_list sl_tupA
/-- what a for walks: a list or a tuple -/
def iSeq (K : PySem.W.Frag) (te : TE) : TI := fun σ H R => te σ H fun v H1 => ∃ a, v = .ref a ∧ (((∃ xs, SqL K H1 a xs) ∧ R (Itl K a) H1) ∨ ((∃ xs, SqT K H1 a xs) ∧ R (Itt K a) H1))
theorem pi_seq {tg l : Expr} {te : TE} (hl : PE X l te) : PI X tg l (iSeq X.K te) := by
  refine PI.mk fun pins s σ H R I h => thn (hl.run pins s σ H _ I h) fun v s1 hz => ?_
  obtain ⟨x, H1, I1, r1, a, ex, hz⟩ := hz
  subst ex
  cases r1
  have fp : ∀ b ∈ [s1.heap.objs.size], FpOk X pins H1 b := fun b hb => by
    cases List.mem_singleton.mp hb
    exact I1.fpOk (Nat.le_refl _) (I1.hok.fresh (Nat.le_refl _))
  rcases hz with ⟨⟨xs, hq⟩, q⟩ | ⟨⟨xs, hq⟩, q⟩
  · obtain ⟨its, _, p, _⟩ := I1.list hq
    exact wpAny_pyIter_list p.isList ⟨_, _, _, _, H1, rfl, I1.kept (t' := s1.toks) fun b o e => Heap.get?_push_of_some _ e, turn_list a _, ⟨_, Heap.get?_push_size _ rfl, rfl, rfl⟩, fp, q⟩
  · obtain ⟨its, _, p, _⟩ := I1.tuple hq
    exact wpAny_pyIter_tuple (show s1.heap.IsTuple a its.toArray from p) ⟨_, _, _, _, H1, rfl, I1.kept (t' := s1.toks) fun b o e => Heap.get?_push_of_some _ e, turn_tuple a _, ⟨_, Heap.get?_push_size _ rfl, rfl, rfl⟩, fp, q⟩
end
/-! the same with the written part named -/
section
variable {X : Cx} {K : PySem.W.Frag} {k : Nat}
theorem ix_K (h : X.K = K := by rfl) : IxR X (rIx K) := h ▸ ix_seq
theorem sl_K (h : X.K = K := by rfl) : SlR X (rSlG K) := h ▸ sl_seq
theorem op_addK (h : X.K = K := by rfl) : OpR X (binaryOp .Add) (rAddG K) := h ▸ op_addG
theorem op_mulK (h : X.K = K := by rfl) : OpR X (binaryOp .Mult) (rMulG K) := h ▸ op_mulG
theorem op_eqK (hr : Rm k X.A) (h : X.K = K := by rfl) : OpR X (compareOp .Eq) (rEqG K) := h ▸ op_eqG hr
theorem op_neK (hr : Rm k X.A) (h : X.K = K := by rfl) : OpR X (compareOp .NotEq) (rNeG K) := h ▸ op_neG hr
theorem op_inK (h : X.K = K := by rfl) : OpR X (compareOp .In) (rIn K false) := h ▸ op_in_seq
theorem op_notInK (h : X.K = K := by rfl) : OpR X (compareOp .NotIn) (rIn K true) := h ▸ op_notIn_seq
def rLenK (K : PySem.W.Frag) : List V → Hp → VK → Prop := fun xs H Q => ∃ p ys, xs = [.ref p] ∧ (SqL K H p ys ∨ SqT K H p ys) ∧ Q (.int ys.length) H
theorem call_lenK (h : X.K = K := by rfl) : CallR X (.builtin "len") (rLenK K) := h ▸ call_len_seq
def rListK (K : PySem.W.Frag) : List V → Hp → VK → Prop := fun xs H Q => ∃ p ys, xs = [.ref p] ∧ (SqL K H p ys ∨ SqT K H p ys) ∧ ∀ l, H l = none → Q (.ref l) (upd H l (.lst ys))
theorem call_listK (h : X.K = K := by rfl) : CallR X (.type "list") (rListK K) := h ▸ call_list_of
def rTupleK (K : PySem.W.Frag) : List V → Hp → VK → Prop := fun xs H Q => ∃ p ys, xs = [.ref p] ∧ ((SqL K H p ys ∧ ∀ l, H l = none → Q (.ref l) (upd H l (.tup ys))) ∨ (SqT K H p ys ∧ Q (.ref p) H))
theorem call_tupleK (h : X.K = K := by rfl) : CallR X (.type "tuple") (rTupleK K) := h ▸ call_tuple_of
theorem call_reprK (hr : Rm k X.A) (h : X.K = K := by rfl) : CallR X (.builtin "repr") (rReprD K) := h ▸ call_reprD hr
theorem call_typeK (h : X.K = K := by rfl) : CallR X (.type "type") (rTyp K) := h ▸ call_type1
theorem call_allK (hc : X.calm = true) (h : X.K = K := by rfl) : CallR X (.builtin "all") (rAll K) := h ▸ cr_all hc
theorem call_sumK (hc : X.calm = true) (h : X.K = K := by rfl) : CallR X (.builtin "sum") (rSum K) := h ▸ cr_sum hc
theorem call_maxK (hc : X.calm = true) (h : X.K = K := by rfl) : CallR X (.builtin "max") (rMax K) := h ▸ cr_max hc
theorem pi_K {tg l : Expr} {te : TE} (hl : PE X l te) (h : X.K = K := by rfl) : PI X tg l (iSeq K te) := h ▸ pi_seq hl
theorem pi_enK {e : Expr} {te : TE} {p pos tpos : Pos} {elts : List Expr} {kk : Nat} (hg : Gl X "enumerate") (hm : X.mg "enumerate" = none) (ha : PE X e te)
    (hs : starEach [e] X.env = (false, eval e X.env) :: starEach [] X.env := by rfl) (h : X.K = K := by rfl) :
    PI X (.Tuple elts kk tpos) (.Call (.Name "enumerate" p) [e] [] pos) (iEnT K te) := h ▸ pi_enumT hg hm ha hs
end
/-- a module's constant number -/
def Con1 (mg : Str → Option Value) (x : Str) (v : V) : Prop := ∃ u, mg x = some u ∧ RelV v u
theorem pe_gcon {X : Cx} {x : Str} {v : V} {pos : Pos} (h : Con1 X.mg x v) (hg : Gl X x) (hd : (x == ("__debug__" : Str)) = false := by decide) : PE X (.Name x pos) (tC v) := by
  obtain ⟨u, e, r⟩ := h
  exact pe_glob hg e r hd

/-! ### how heaps go on -/
/-- the tables of code objects -/
structure Ct where
  G : List Addr
  T : List (Addr × Str)
structure Gd (c : Ct) (H : Hp) : Prop where
  g : ∀ P ∈ c.G, TabG H P
  t : ∀ p ∈ c.T, TabS H p.1 p.2
/-- what stood stands, but for tables and what may change -/
structure Sm (c : Ct) (M : List Addr) (H H' : Hp) : Prop where
  ex : ∀ b o, b ∉ M → H b = some o → (∀ ps, o ≠ .tbl ps) → H' b = some o
  st : ∀ b, H b ≠ none → H' b ≠ none
  gd : Gd c H → Gd c H'
section
variable {c : Ct} {M M' : List Addr} {H H1 H2 H' : Hp} {p l : Addr} {o : HO}
theorem Sm.refl : Sm c M H H := ⟨fun _ _ _ e _ => e, fun _ e => e, fun g => g⟩
theorem Sm.trans (a : Sm c M H H1) (b : Sm c M H1 H2) : Sm c M H H2 :=
  ⟨fun x u n e t => b.ex x u n (a.ex x u n e t) t, fun x e => b.st x (a.st x e), fun g => b.gd (a.gd g)⟩
theorem Sm.sub (a : Sm c M H H1) (h : ∀ x ∈ M, x ∈ M') : Sm c M' H H1 := ⟨fun x u n => a.ex x u fun z => n (h x z), a.st, a.gd⟩
theorem Sm.any (a : Sm c [] H H1) : Sm c M H H1 := a.sub fun _ h => nomatch h
theorem Sm.fresh (a : Sm c M H H1) (h : H1 p = none) : H p = none := Classical.byContradiction fun z => a.st p z h
theorem Gd.of_all (g : Gd c H) (h : ∀ b u, H b = some u → H' b = some u) : Gd c H' :=
  ⟨fun P hP => let ⟨ps, e, t⟩ := g.g P hP; ⟨ps, h _ _ e, t⟩, fun q hq => (g.t q hq).ext h⟩
theorem Sm.of_all (h : ∀ b u, H b = some u → H' b = some u) : Sm c M H H' :=
  Sm.mk (fun b u _ e _ => h b u e) (fun b e z => (by
    match q : H b with
    | none => exact e q
    | some u => exact nomatch (h b u q).symm.trans z)) fun g => g.of_all h
theorem Sm.new (hp : H p = none) : Sm c M H (upd H p o) := Sm.of_all fun b u e => by rw [upd_ne (ne_of_none e hp)]; exact e
theorem Sm.ext (a : Sm c [] H H') : ExtN H H' := fun b o e n => a.ex b o (fun z => nomatch z) e n
/-- a list that may change is changed -/
theorem Sm.put {xs ys : List V} (hl : l ∈ M) (h : H l = some (.lst xs)) : Sm c M H (upd H l (.lst ys)) := by
  have off : ∀ b u, H b = some u → (∀ zs, u ≠ .lst zs) → upd H l (.lst ys) b = some u := fun b u e n => by
    rw [upd_ne (fun z => n xs (by rw [z, h] at e; exact (Option.some.inj e).symm))]
    exact e
  refine ⟨fun b u n e _ => by rw [upd_ne (fun z => n (by rw [z]; exact hl))]; exact e, fun b e z => ?_, fun g => ⟨fun P hP => ?_, fun q hq => ?_⟩⟩
  · by_cases hb : b = l
    · rw [hb, upd_same] at z
      cases z
    · rw [upd_ne hb] at z
      exact e z
  · obtain ⟨ps, e, t⟩ := g.g P hP
    exact ⟨ps, off _ _ e nofun, t⟩
  · obtain ⟨ps, e, t, a⟩ := g.t q hq
    refine ⟨ps, off _ _ e nofun, t, fun pos cv hc => ?_⟩
    obtain ⟨c0, e1, e2⟩ := a pos cv hc
    exact ⟨c0, e1, off _ _ e2 (fun zs z => by unfold CodeO at z; cases z)⟩
/-- what may change was made behind H: so it is nothing to H -/
theorem Sm.out (a : Sm c (l :: M) H H') (hl : H l = none) : Sm c M H H' :=
  ⟨fun b u n e t => a.ex b u (fun z => by
    rcases List.mem_cons.mp z with z | z
    · rw [z, hl] at e
      cases e
    · exact n z) e t, a.st, a.gd⟩
theorem Sm.tabbed {P : Addr} (h : Tabbed P H H') (hP : H P ≠ none) (n : ∀ q ∈ c.T, q.1 ≠ P) (d : ∀ ps, H P = some (.tbl ps) → True) (ht : ∃ ps, H P = some (.tbl ps)) : Sm c M H H' := by
  obtain ⟨ps0, e0⟩ := ht
  have off : ∀ b u, H b = some u → (∀ ps, u ≠ .tbl ps) → H' b = some u := fun b u e t => by
    rw [h.2 b (fun z => t ps0 (by rw [z, e0] at e; exact (Option.some.inj e).symm))]
    exact e
  refine ⟨fun b u _ e t => off b u e t, fun b e z => ?_, fun g => ⟨fun R hR => ?_, fun q hq => ?_⟩⟩
  · by_cases hb : b = P
    · obtain ⟨ps, e, _⟩ := h.1
      rw [hb, e] at z
      cases z
    · rw [h.2 b hb] at z
      exact e z
  · by_cases hb : R = P
    · rw [hb]
      exact h.1
    · obtain ⟨ps, e, t⟩ := g.g R hR
      exact ⟨ps, by rw [h.2 R hb]; exact e, t⟩
  · obtain ⟨ps, e, t, a⟩ := g.t q hq
    refine ⟨ps, by rw [h.2 _ (n q hq)]; exact e, t, fun pos cv hc => ?_⟩
    obtain ⟨c0, e1, e2⟩ := a pos cv hc
    exact ⟨c0, e1, off _ _ e2 (fun zs z => by unfold CodeO at z; cases z)⟩
end

/-! ### data -/
mutual
/-- v is the data d, nothing of which may change (M: what may) -/
inductive Dq (M : List Addr) (H : Hp) : V → PyData → Prop
  | non : Dq M H .non .none
  | bl (b : Bool) : Dq M H (.bl b) (.bool b)
  | int (i : Int) : Dq M H (.int i) (.int i)
  | str (x : Str) : Dq M H (.str x) (.str x)
  | lst {a : Addr} {xs : List V} {ds : List PyData} : a ∉ M → H a = some (.lst xs) → Dqs M H xs ds → Dq M H (.ref a) (.list ds)
  | tup {a : Addr} {xs : List V} {ds : List PyData} : a ∉ M → H a = some (.tup xs) → Dqs M H xs ds → Dq M H (.ref a) (.tuple ds)
  | dct {a : Addr} : a ∉ M → H a = some (.dK []) → Dq M H (.ref a) (.dict [])
inductive Dqs (M : List Addr) (H : Hp) : List V → List PyData → Prop
  | nil : Dqs M H [] []
  | cons {v : V} {vs : List V} {d : PyData} {ds : List PyData} : Dq M H v d → Dqs M H vs ds → Dqs M H (v :: vs) (d :: ds)
end
section
variable {c : Ct} {M M' : List Addr} {H H' : Hp}
mutual
theorem Dq.map (h : ∀ a o, a ∉ M → H a = some o → (∀ ps, o ≠ .tbl ps) → a ∉ M' ∧ H' a = some o) : ∀ {v : V} {d : PyData}, Dq M H v d → Dq M' H' v d
  | _, _, .non => .non
  | _, _, .bl b => .bl b
  | _, _, .int i => .int i
  | _, _, .str x => .str x
  | _, _, .lst n e r => let z := h _ _ n e nofun; .lst z.1 z.2 (Dqs.map h r)
  | _, _, .tup n e r => let z := h _ _ n e nofun; .tup z.1 z.2 (Dqs.map h r)
  | _, _, .dct n e => let z := h _ _ n e nofun; .dct z.1 z.2
theorem Dqs.map (h : ∀ a o, a ∉ M → H a = some o → (∀ ps, o ≠ .tbl ps) → a ∉ M' ∧ H' a = some o) : ∀ {vs : List V} {ds : List PyData}, Dqs M H vs ds → Dqs M' H' vs ds
  | _, _, .nil => .nil
  | _, _, .cons x r => .cons (Dq.map h x) (Dqs.map h r)
end
theorem Dq.sm {v : V} {d : PyData} (s : Sm c M H H') (x : Dq M H v d) : Dq M H' v d := x.map fun a o n e t => ⟨n, s.ex a o n e t⟩
theorem Dqs.sm {v : List V} {d : List PyData} (s : Sm c M H H') (x : Dqs M H v d) : Dqs M H' v d := x.map fun a o n e t => ⟨n, s.ex a o n e t⟩
theorem Dq.wk {v : V} {d : PyData} {l : Addr} (hl : H l = none) (x : Dq M H v d) : Dq (l :: M) H v d := x.map fun a o n e _ => ⟨fun z => by
  rcases List.mem_cons.mp z with z | z
  · rw [z, hl] at e
    cases e
  · exact n z, e⟩
theorem Dqs.wk {v : List V} {d : List PyData} {l : Addr} (hl : H l = none) (x : Dqs M H v d) : Dqs (l :: M) H v d := x.map fun a o n e _ => ⟨fun z => by
  rcases List.mem_cons.mp z with z | z
  · rw [z, hl] at e
    cases e
  · exact n z, e⟩
theorem Dq.sub {v : V} {d : PyData} (h : ∀ x ∈ M', x ∈ M) (x : Dq M H v d) : Dq M' H v d := x.map fun a o n e _ => ⟨fun z => n (h a z), e⟩
theorem Dqs.sub {v : List V} {d : List PyData} (h : ∀ x ∈ M', x ∈ M) (x : Dqs M H v d) : Dqs M' H v d := x.map fun a o n e _ => ⟨fun z => n (h a z), e⟩
theorem Dqs.length : ∀ {vs : List V} {ds : List PyData}, Dqs M H vs ds → vs.length = ds.length
  | _, _, .nil => rfl
  | _, _, .cons _ r => congrArg (· + 1) r.length
theorem Dqs.get : ∀ {vs : List V} {ds : List PyData} {i : Nat} {d : PyData}, Dqs M H vs ds → ds[i]? = some d → ∃ v, vs[i]? = some v ∧ Dq M H v d
  | _, _, 0, _, .cons x _, e => ⟨_, rfl, by cases e; exact x⟩
  | _, _, i + 1, _, .cons _ r, e => by simpa using Dqs.get (i := i) r (by simpa using e)
theorem Dqs.getV : ∀ {vs : List V} {ds : List PyData} {i : Nat} {v : V}, Dqs M H vs ds → vs[i]? = some v → ∃ d, ds[i]? = some d ∧ Dq M H v d
  | _, _, 0, _, .cons x _, e => ⟨_, rfl, by cases e; exact x⟩
  | _, _, i + 1, _, .cons _ r, e => by simpa using Dqs.getV (i := i) r (by simpa using e)
theorem Dqs.append : ∀ {vs ws : List V} {ds es : List PyData}, Dqs M H vs ds → Dqs M H ws es → Dqs M H (vs ++ ws) (ds ++ es)
  | _, _, _, _, .nil, r => r
  | _, _, _, _, .cons x q, r => .cons x (q.append r)
theorem Dqs.snoc {vs : List V} {ds : List PyData} {v : V} {d : PyData} (a : Dqs M H vs ds) (b : Dq M H v d) : Dqs M H (vs ++ [v]) (ds ++ [d]) := a.append (.cons b .nil)
theorem Dqs.ints : ∀ (ns : List Int), Dqs M H (ns.map V.int) (ns.map PyData.int)
  | [] => .nil
  | n :: r => .cons (.int n) (Dqs.ints r)
mutual
theorem Dq.dp {K : PySem.W.Frag} : ∀ {v : V} {d : PyData}, d.hasDict = false → Dq M H v d → Dp K H v d
  | _, _, _, .non => .non
  | _, _, _, .bl b => .bl b
  | _, _, _, .int i => .int i
  | _, _, _, .str x => .str x
  | _, _, h, .lst _ e r => .lst (SqL.of e) (Dqs.dp (by simpa [PyData.hasDict] using h) r)
  | _, _, h, .tup _ e r => .tup (SqT.of e) (Dqs.dp (by simpa [PyData.hasDict] using h) r)
  | _, _, h, .dct _ _ => by simp [PyData.hasDict] at h
theorem Dqs.dp {K : PySem.W.Frag} : ∀ {vs : List V} {ds : List PyData}, PyData.hasDictAll ds = false → Dqs M H vs ds → DpAll K H vs ds
  | _, _, _, .nil => .nil
  | _, _, h, .cons x r => by
    simp only [PyData.hasDictAll, Bool.or_eq_false_iff] at h
    exact .cons (Dq.dp h.1 x) (Dqs.dp h.2 r)
end
/-- the type's name -/
def tyName : PyData → String
  | .none => "NoneType"
  | .bool _ => "bool"
  | .int _ => "int"
  | .str _ => "str"
  | .list _ => "list"
  | .tuple _ => "tuple"
  | .dict _ => "dict"
theorem Dq.ty {K : PySem.W.Frag} {v : V} {d : PyData} (x : Dq M H v d) : TyB K H v (tyName d) := by
  cases x with
  | non => exact .non
  | bl b => exact .bl b
  | int i => exact .int i
  | str z => exact .str z
  | lst _ e _ => exact .lst (SqL.of e)
  | tup _ e _ => exact .tup (SqT.of e)
  | dct _ e => exact .dK e
theorem Dq.tup_inv {v : V} {ds : List PyData} (x : Dq M H v (.tuple ds)) : ∃ a xs, v = .ref a ∧ a ∉ M ∧ H a = some (.tup xs) ∧ Dqs M H xs ds := by
  cases x with
  | tup n e r => exact ⟨_, _, rfl, n, e, r⟩
theorem Dq.lst_inv {v : V} {ds : List PyData} (x : Dq M H v (.list ds)) : ∃ a xs, v = .ref a ∧ a ∉ M ∧ H a = some (.lst xs) ∧ Dqs M H xs ds := by
  cases x with
  | lst n e r => exact ⟨_, _, rfl, n, e, r⟩
theorem Dq.int_inv {v : V} {i : Int} (x : Dq M H v (.int i)) : v = .int i := by
  cases x
  rfl
end
end My

/-! promises over data; the nets -/
namespace My
open PySem PySem.Spec PyProof.Rows L2
open LamX (CodeO TabS ExtN)
open GxR (TabG Tabbed)

/-- a promise over data: pre tells the answer -/
def spD (c : Ct) (pre : List PyData → PyData → Prop) : Sp := fun vs H Q _ => ∃ (M : List Addr) (ds : List PyData) (d : PyData),
  Gd c H ∧ (∀ m ∈ M, H m ≠ none) ∧ Dqs M H vs ds ∧ pre ds d ∧ ∀ v H', Sm c [] H H' → Dq M H' v d → Q v H'
theorem spD_len {c : Ct} {pre : List PyData → PyData → Prop} {n : Nat} (h : ∀ ds d, pre ds d → ds.length = n) : ∀ vs H Q E, spD c pre vs H Q E → vs.length = n := by
  rintro vs H Q E ⟨M, ds, d, _, _, a, p, _⟩
  exact a.length.trans (h _ _ p)
theorem Dqs.inv1 {M : List Addr} {H : Hp} {vs : List V} {d : PyData} (x : Dqs M H vs [d]) : ∃ v, vs = [v] ∧ Dq M H v d := by
  cases x with
  | cons a r => cases r; exact ⟨_, rfl, a⟩
theorem Dqs.inv2 {M : List Addr} {H : Hp} {vs : List V} {d e : PyData} (x : Dqs M H vs [d, e]) : ∃ v w, vs = [v, w] ∧ Dq M H v d ∧ Dq M H w e := by
  cases x with
  | cons a r =>
    obtain ⟨w, rfl, b⟩ := r.inv1
    exact ⟨_, _, rfl, a, b⟩
theorem Dqs.inv3 {M : List Addr} {H : Hp} {vs : List V} {d e f : PyData} (x : Dqs M H vs [d, e, f]) : ∃ v w u, vs = [v, w, u] ∧ Dq M H v d ∧ Dq M H w e ∧ Dq M H u f := by
  cases x with
  | cons a r =>
    obtain ⟨w, u, rfl, b, c⟩ := r.inv2
    exact ⟨_, _, _, rfl, a, b, c⟩
theorem Dqs.one {M : List Addr} {H : Hp} {v : V} {d : PyData} (a : Dq M H v d) : Dqs M H [v] [d] := .cons a .nil
theorem Dqs.two {M : List Addr} {H : Hp} {v w : V} {d e : PyData} (a : Dq M H v d) (b : Dq M H w e) : Dqs M H [v, w] [d, e] := .cons a (.one b)
theorem Dqs.three {M : List Addr} {H : Hp} {v w u : V} {d e f : PyData} (a : Dq M H v d) (b : Dq M H w e) (x : Dq M H u f) : Dqs M H [v, w, u] [d, e, f] := .cons a (.two b x)
theorem dq_new {M : List Addr} {H : Hp} {p : Addr} {xs : List V} {ds : List PyData} (hM : ∀ m ∈ M, H m ≠ none) (hp : H p = none) (x : Dqs M H xs ds) : Dq M (upd H p (.tup xs)) (.ref p) (.tuple ds) :=
  .tup (fun z => hM p z hp) upd_same (x.sm (c := ⟨[], []⟩) (Sm.new hp))
theorem dq_newL {M : List Addr} {H : Hp} {p : Addr} {xs : List V} {ds : List PyData} (hM : ∀ m ∈ M, H m ≠ none) (hp : H p = none) (x : Dqs M H xs ds) : Dq M (upd H p (.lst xs)) (.ref p) (.list ds) :=
  .lst (fun z => hM p z hp) upd_same (x.sm (c := ⟨[], []⟩) (Sm.new hp))

/-! ### whole numbers, rows, nets -/
def wholeD (d : PyData) (l m : Int) : Bool := match d with
  | .int i => decide (l ≤ i) && decide (i ≤ m)
  | _ => false
def rowD (d : PyData) (l m : Int) : Bool := match d with
  | .tuple xs => decide (l ≤ (xs.length : Int)) && decide ((xs.length : Int) ≤ m)
  | _ => false
def wiresD (ds : List PyData) (m : Int) : Bool := ds.all fun d => wholeD d 0 (m - 1)
theorem wholeV_D {M : List Addr} {H : Hp} {v : V} {d : PyData} (x : Dq M H v d) (l m : Int) : wholeV v l m = wholeD d l m := by
  cases x <;> rfl
theorem wiresV_D {M : List Addr} {H : Hp} {l m : Int} : ∀ {vs : List V} {ds : List PyData}, Dqs M H vs ds → (vs.all fun v => wholeV v l m) = ds.all fun d => wholeD d l m
  | _, _, .nil => rfl
  | _, _, .cons x r => by rw [List.all_cons, List.all_cons, wholeV_D x, wiresV_D r]
/-- the boxes from the t-th one on are pairs of earlier wires -/
def boxesD (n : Int) : Nat → List PyData → Bool
  | _, [] => true
  | t, .tuple [a, b] :: r => wiresD [a, b] (n + (t : Int)) && boxesD n (t + 1) r
  | _, _ :: _ => false
def isNetD (d : PyData) : Bool := match d with
  | .tuple [.int n, .tuple bs, .tuple es] =>
    (decide (1 ≤ n) && decide (n ≤ 12)) && (decide ((bs.length : Int) ≤ 60) && (decide (1 ≤ (es.length : Int)) && decide ((es.length : Int) ≤ 24))) && (boxesD n 0 bs && wiresD es (n + (bs.length : Int)))
  | _ => false
end My
namespace My
open PySem PySem.Spec PyProof.Rows L2
theorem Dq.bool_inv {M : List Addr} {H : Hp} {v : V} {b : Bool} (x : Dq M H v (.bool b)) : v = .bl b := by
  cases x
  rfl
theorem Dq.none_inv {M : List Addr} {H : Hp} {v : V} (x : Dq M H v .none) : v = .non := by
  cases x
  rfl
theorem rowD3 {x : PyData} (h : rowD x 3 3 = true) : ∃ a b c, x = .tuple [a, b, c] := by
  cases x with
  | tuple xs =>
    simp only [rowD, Bool.and_eq_true, decide_eq_true_eq] at h
    match xs, h with
    | [a, b, c], _ => exact ⟨a, b, c, rfl⟩
    | [], h => simp at h
    | [_], h => simp at h
    | [_, _], h => simp at h
    | _ :: _ :: _ :: _ :: _, h => simp at h; omega
  | _ => simp [rowD] at h
theorem rowD2 {x : PyData} (h : rowD x 2 2 = true) : ∃ a b, x = .tuple [a, b] := by
  cases x with
  | tuple xs =>
    simp only [rowD, Bool.and_eq_true, decide_eq_true_eq] at h
    match xs, h with
    | [a, b], _ => exact ⟨a, b, rfl⟩
    | [], h => simp at h
    | [_], h => simp at h
    | _ :: _ :: _ :: _, h => simp at h; omega
  | _ => simp [rowD] at h
theorem wholeD_int {x : PyData} {l m : Int} (h : wholeD x l m = true) : ∃ i, x = .int i ∧ l ≤ i ∧ i ≤ m := by
  cases x with
  | int i => simp only [wholeD, Bool.and_eq_true, decide_eq_true_eq] at h; exact ⟨i, rfl, h⟩
  | _ => simp [wholeD] at h
theorem rowD_tup {x : PyData} {l m : Int} (h : rowD x l m = true) : ∃ xs, x = .tuple xs ∧ l ≤ (xs.length : Int) ∧ (xs.length : Int) ≤ m := by
  cases x with
  | tuple xs => simp only [rowD, Bool.and_eq_true, decide_eq_true_eq] at h; exact ⟨xs, rfl, h⟩
  | _ => simp [rowD] at h
theorem isNet_row {x : PyData} (h : rowD x 3 3 = false) : isNetD x = false := by
  unfold isNetD
  split
  · simp [rowD] at h
  · rfl
theorem isNet_places {a b c : PyData} (h : wholeD a 1 12 = false) : isNetD (.tuple [a, b, c]) = false := by
  unfold isNetD
  split
  · rename_i e
    cases e
    simp only [wholeD] at h
    rw [h, Bool.false_and, Bool.false_and]
  · rfl
theorem isNet_rows {n : Int} {b c : PyData} (h : (rowD b 0 60 && rowD c 1 24) = false) : isNetD (.tuple [.int n, b, c]) = false := by
  unfold isNetD
  split
  · rename_i bs es e
    cases e
    simp only [rowD] at h
    have h' : (decide ((bs.length : Int) ≤ 60) && (decide (1 ≤ (es.length : Int)) && decide ((es.length : Int) ≤ 24))) = false := by
      rw [← h, decide_eq_true (show (0 : Int) ≤ (bs.length : Int) by omega), Bool.true_and]
    rw [h', Bool.and_false, Bool.false_and]
  · rfl
theorem isNet_wires {n : Int} {bs es : List PyData} (h1 : wholeD (.int n) 1 12 = true) (h2 : rowD (.tuple bs) 0 60 = true) (h3 : rowD (.tuple es) 1 24 = true) :
    isNetD (.tuple [.int n, .tuple bs, .tuple es]) = (boxesD n 0 bs && wiresD es (n + (bs.length : Int))) := by
  simp only [wholeD, rowD, Bool.and_eq_true, decide_eq_true_eq] at h1 h2 h3
  simp only [isNetD]
  rw [decide_eq_true h1.1, decide_eq_true h1.2, decide_eq_true h2.2, decide_eq_true h3.1, decide_eq_true h3.2]
  rfl
/-- one more box -/
theorem boxesD_step {n : Int} {t : Nat} {x : PyData} {r : List PyData} (h : rowD x 2 2 = false ∨ ∃ ys, x = .tuple ys ∧ ys.length = 2 ∧ wiresD ys (n + (t : Int)) = false) : boxesD n t (x :: r) = false := by
  unfold boxesD
  split
  · rename_i e
    cases e
  · rename_i e
    cases e
    rcases h with h | ⟨ys, e, _, h⟩
    · simp [rowD] at h
    · cases e
      rw [h, Bool.false_and]
  · rfl
theorem boxesD_ok {n : Int} {t : Nat} {a b : PyData} {r : List PyData} (h : wiresD [a, b] (n + (t : Int)) = true) : boxesD n t (.tuple [a, b] :: r) = boxesD n (t + 1) r := by
  show (wiresD [a, b] (n + (t : Int)) && boxesD n (t + 1) r) = _
  rw [h, Bool.true_and]
end My
namespace My
open PySem PySem.Spec PyProof.Rows L2
/-! ### nets, typed -/
def nI (k : Nat) : PyData := .int (k : Int)
def encB (b : Nat × Nat) : PyData := .tuple [nI b.1, nI b.2]
def encW (w : List Nat) : PyData := .tuple (w.map nI)
def encNet (n : Nat) (bs : List (Nat × Nat)) (es : List Nat) : PyData := .tuple [nI n, .tuple (bs.map encB), encW es]
/-- the boxes from the t-th one on are of earlier wires -/
def boxOk (n : Nat) : Nat → List (Nat × Nat) → Prop
  | _, [] => True
  | t, b :: r => b.1 < n + t ∧ b.2 < n + t ∧ boxOk n (t + 1) r
structure NetOk (n : Nat) (bs : List (Nat × Nat)) (es : List Nat) : Prop where
  n1 : 1 ≤ n
  n2 : n ≤ 12
  b : bs.length ≤ 60
  e1 : 1 ≤ es.length
  e2 : es.length ≤ 24
  bx : boxOk n 0 bs
  ew : ∀ e ∈ es, e < n + bs.length
theorem wholeD_nI {k : Nat} {m : Int} : wholeD (nI k) 0 (m - 1) = decide ((k : Int) < m) := by
  show (decide ((0 : Int) ≤ (k : Int)) && decide ((k : Int) ≤ m - 1)) = _
  rw [decide_eq_true (show (0 : Int) ≤ (k : Int) by omega), Bool.true_and]
  by_cases h : (k : Int) < m
  · rw [decide_eq_true h, decide_eq_true (by omega)]
  · rw [decide_eq_false h, decide_eq_false (by omega)]
theorem boxesD_ok' {n : Nat} : ∀ {bs : List (Nat × Nat)} {t : Nat}, boxOk n t bs → boxesD (n : Int) t (bs.map encB) = true
  | [], _, _ => rfl
  | b :: r, t, h => by
    obtain ⟨h1, h2, h3⟩ := h
    show (wiresD [nI b.1, nI b.2] ((n : Int) + (t : Int)) && boxesD (n : Int) (t + 1) (r.map encB)) = true
    rw [boxesD_ok' h3, Bool.and_true]
    unfold wiresD
    simp only [List.all_cons, List.all_nil, Bool.and_true, wholeD_nI, Bool.and_eq_true, decide_eq_true_eq]
    omega
theorem isNetD_of {n : Nat} {bs : List (Nat × Nat)} {es : List Nat} (h : NetOk n bs es) : isNetD (encNet n bs es) = true := by
  obtain ⟨h1, h2, h3, h4, h5, h6, h7⟩ := h
  unfold encNet nI encW isNetD
  simp only [Bool.and_eq_true, decide_eq_true_eq, List.length_map]
  refine ⟨⟨⟨by omega, by omega⟩, by omega, by omega, by omega⟩, boxesD_ok' h6, ?_⟩
  unfold wiresD
  rw [List.all_eq_true]
  intro d hd
  obtain ⟨e, he, rfl⟩ := List.mem_map.mp hd
  rw [wholeD_nI]
  have := h7 e he
  exact decide_eq_true (by omega)
theorem boxOk_get {n : Nat} : ∀ {bs : List (Nat × Nat)} {t i : Nat} {b : Nat × Nat}, boxOk n t bs → bs[i]? = some b → b.1 < n + t + i ∧ b.2 < n + t + i
  | [], _, _, _, _, e => by simp at e
  | b :: r, t, 0, _, h, e => by
    cases e
    exact ⟨h.1, h.2.1⟩
  | _ :: r, t, i + 1, _, h, e => by
    have := boxOk_get (i := i) h.2.2 (by simpa using e)
    omega
/-- what the wires come to -/
def stepD (jf : PyData → PyData → PyData) (acc : List PyData) (b : Nat × Nat) : List PyData := acc ++ [jf (acc.getD b.1 .none) (acc.getD b.2 .none)]
def runD (jf : PyData → PyData → PyData) (ws : List PyData) (bs : List (Nat × Nat)) : List PyData := bs.foldl (stepD jf) ws
theorem runD_len {jf : PyData → PyData → PyData} : ∀ (bs : List (Nat × Nat)) (ws : List PyData), (runD jf ws bs).length = ws.length + bs.length
  | [], ws => rfl
  | b :: r, ws => by
    show (runD jf (stepD jf ws b) r).length = _
    rw [runD_len r]
    simp [stepD]
    omega
theorem runD_snoc {jf : PyData → PyData → PyData} {ws : List PyData} {bs : List (Nat × Nat)} {b : Nat × Nat} : runD jf ws (bs ++ [b]) = stepD jf (runD jf ws bs) b := by
  unfold runD
  rw [List.foldl_append]
  rfl
theorem sz_of {n : Nat} (h : n ≤ 100000) : n ≤ sizeLine := Nat.le_trans h (by decide)
theorem sz_lt {n : Nat} (h : n < 100000) : n < sizeLine := Nat.lt_of_lt_of_le h (by decide)
theorem atI_of {α : Type} {xs : List α} {j : Nat} {v : α} (h : xs[j]? = some v) : atI xs (j : Int) = some v := atI_nat h
end My
namespace My
open PySem PySem.Spec PyProof.Rows L2
open LamX (CodeO TabS ExtN)
theorem Sm.lam {c : Ct} {M : List Addr} {H H1 : Hp} {P : Addr} {q : Str} (e : ExtN H H1) (t : TabS H1 P q) (t0 : TabS H P q) (o : ∀ b, b ≠ P → H b ≠ none → H1 b = H b)
    (hq : ∀ p ∈ c.T, p.1 = P → p.2 = q) (hG : ∀ R ∈ c.G, R ≠ P) : Sm c M H H1 := by
  refine ⟨fun b u _ h n => e b u h n, fun b h z => ?_, fun g => ⟨fun R hR => ?_, fun p hp => ?_⟩⟩
  · by_cases hb : b = P
    · obtain ⟨ps, h1, _⟩ := t
      rw [hb, h1] at z
      cases z
    · rw [o b hb h] at z
      exact h z
  · obtain ⟨ps, h1, h2⟩ := g.g R hR
    exact ⟨ps, (o R (hG R hR) (by rw [h1]; nofun)).trans h1, h2⟩
  · by_cases hb : p.1 = P
    · rw [hq p hp hb, hb]
      exact t
    · obtain ⟨ps, h1, h2, h3⟩ := g.t p hp
      refine ⟨ps, (o _ hb (by rw [h1]; nofun)).trans h1, h2, fun pos cv hc => ?_⟩
      obtain ⟨c0, e1, e2⟩ := h3 pos cv hc
      exact ⟨c0, e1, e c0 _ e2 LamX.codeO_ne⟩
theorem flat_rep {α : Type} (x : α) : ∀ n : Nat, (List.replicate n [x]).flatten = List.replicate n x
  | 0 => rfl
  | n + 1 => by
    rw [List.replicate_succ, List.flatten_cons, flat_rep x n, List.replicate_succ]
    rfl
def addD (x y : PyData) : PyData := match x, y with
  | .int i, .int j => .int (i + j)
  | _, _ => .none
/-- how many places the words have -/
def lensD (n : Nat) (bs : List (Nat × Nat)) : List PyData := runD addD (List.replicate n (.int 1)) bs
def joinD (x y : PyData) : PyData := match x, y with
  | .tuple a, .tuple b => if a.length + b.length > 400 then .none else .tuple (a ++ b)
  | _, _ => .none
/-- the short words, None for long ones -/
def wordsD (n : Nat) (bs : List (Nat × Nat)) : List PyData := runD joinD ((List.range n).map fun k => .tuple [nI k]) bs
theorem Dqs.rep {M : List Addr} {H : Hp} {v : V} {d : PyData} (x : Dq M H v d) : ∀ n : Nat, Dqs M H (List.replicate n v) (List.replicate n d)
  | 0 => .nil
  | n + 1 => .cons x (Dqs.rep x n)
end My
namespace My
open PySem PySem.Spec PyProof.Rows L2
/-- a word that is short enough, or None -/
def PrW (d : PyData) : Prop := d = .none ∨ ∃ w : List PyData, d = .tuple w ∧ 1 ≤ w.length ∧ w.length ≤ 400
theorem prW_join {x y : PyData} (hx : PrW x) (hy : PrW y) : PrW (joinD x y) := by
  rcases hx with rfl | ⟨a, rfl, a1, a2⟩
  · exact Or.inl rfl
  · rcases hy with rfl | ⟨b, rfl, b1, b2⟩
    · exact Or.inl rfl
    · by_cases h : a.length + b.length > 400
      · exact Or.inl (if_pos h)
      · refine Or.inr ⟨a ++ b, if_neg h, ?_, ?_⟩ <;> (rw [List.length_append]; omega)
end My
namespace My
open PySem PySem.Spec PyProof.Rows L2
theorem lensD_ints (n : Nat) : ∀ (bs : List (Nat × Nat)) (ws : List PyData), (∀ x ∈ ws, ∃ i, x = .int i) → boxOk n (ws.length - n) bs → n ≤ ws.length → ∀ x ∈ runD addD ws bs, ∃ i, x = .int i
  | [], ws, h, _, _ => h
  | b :: r, ws, h, hb, hn => by
    obtain ⟨h1, h2, h3⟩ := hb
    have i1 : b.1 < ws.length := by omega
    have i2 : b.2 < ws.length := by omega
    refine lensD_ints n r (stepD addD ws b) ?_ ?_ (by simp [stepD]; omega)
    · intro x hx
      rcases List.mem_append.mp hx with z | z
      · exact h x z
      · rw [List.mem_singleton.mp z]
        obtain ⟨i, e1⟩ := h _ (List.getElem_mem i1)
        obtain ⟨j, e2⟩ := h _ (List.getElem_mem i2)
        rw [List.getD_eq_getElem?_getD, List.getD_eq_getElem?_getD, List.getElem?_eq_getElem i1, List.getElem?_eq_getElem i2]
        show ∃ k, addD ws[b.1] ws[b.2] = .int k
        rw [e1, e2]
        exact ⟨i + j, rfl⟩
    · have : (stepD addD ws b).length - n = ws.length - n + 1 := by simp [stepD]; omega
      rw [this]
      exact h3
end My
namespace My
open PySem PySem.Spec PyProof.Rows L2
open LamX (ExtN)
theorem sq_ext {K : PySem.W.Frag} {H H' : Hp} {a : Addr} {xs : List V} (e : ExtN H H') (h : SqL K H a xs) : SqL K H' a xs := by
  rcases h with (h | ⟨o, h⟩) | h
  · exact Or.inl (Or.inl (e _ _ h nofun))
  · exact Or.inl (Or.inr ⟨o, e _ _ h nofun⟩)
  · exact Or.inr h
theorem cut_mem {xs : List V} {lo hi : Option Int} {x : V} (h : x ∈ cutV xs lo hi) : x ∈ xs := by
  unfold cutV at h
  exact List.mem_of_mem_drop (List.mem_of_mem_take h)
/-- the law's well of numbers -/
structure Spr (H : Hp) (sp : Addr) : Prop where
  ex : ∃ x m c : Int, H sp = some (.lst [.int x, .int m, .int c]) ∧ 0 ≤ m ∧ m < 2147483647
theorem Spr.sm {c : Ct} {M : List Addr} {H H' : Hp} {sp : Addr} (h : Spr H sp) (s : Sm c M H H') (n : sp ∉ M) : Spr H' sp := by
  obtain ⟨x, m, k, e, r⟩ := h.ex
  exact ⟨x, m, k, s.ex sp _ n e nofun, r⟩
theorem Spr.some {H : Hp} {sp : Addr} (h : Spr H sp) : ∃ xs, H sp = some (.lst xs) := by
  obtain ⟨x, m, k, e, r⟩ := h.ex
  exact ⟨_, e⟩
end My
namespace My
open PySem PySem.Spec PyProof.Rows L2
/-! ### words -/
def wstep (acc : List (List Nat)) (b : Nat × Nat) : List (List Nat) := acc ++ [acc.getD b.1 [] ++ acc.getD b.2 []]
def wordsOf (n : Nat) (bs : List (Nat × Nat)) : List (List Nat) := bs.foldl wstep ((List.range n).map fun k => [k])
theorem wordsOf_snoc {n : Nat} {bs : List (Nat × Nat)} {b : Nat × Nat} : wordsOf n (bs ++ [b]) = wstep (wordsOf n bs) b := by
  unfold wordsOf
  rw [List.foldl_append]
  rfl
theorem wordsOf_nil {n : Nat} : wordsOf n [] = (List.range n).map fun k => [k] := rfl
theorem wfold_len : ∀ (bs : List (Nat × Nat)) (ws : List (List Nat)), (bs.foldl wstep ws).length = ws.length + bs.length
  | [], _ => rfl
  | b :: r, ws => by
    show (r.foldl wstep (wstep ws b)).length = _
    rw [wfold_len r]
    simp [wstep]
    omega
theorem wordsOf_len (n : Nat) (bs : List (Nat × Nat)) : (wordsOf n bs).length = n + bs.length := by
  unfold wordsOf
  rw [wfold_len]
  simp
theorem boxOk_snoc {n : Nat} {b : Nat × Nat} : ∀ {bs : List (Nat × Nat)} {t : Nat}, boxOk n t bs → b.1 < n + t + bs.length → b.2 < n + t + bs.length → boxOk n t (bs ++ [b])
  | [], t, _, h1, h2 => ⟨by simpa using h1, by simpa using h2, trivial⟩
  | a :: r, t, ⟨p, q, z⟩, h1, h2 => ⟨p, q, boxOk_snoc z (by simp at h1; omega) (by simp at h2; omega)⟩
theorem encW_get {ws : List (List Nat)} {i : Nat} {w : List Nat} (h : ws[i]? = some w) : (ws.map encW)[i]? = some (encW w) := by
  rw [List.getElem?_map, h]
  rfl
theorem getD_of {α : Type} {l : List α} {i : Nat} {x d : α} (h : l[i]? = some x) : l.getD i d = x := by
  rw [List.getD_eq_getElem?_getD, h]
  rfl
theorem enc_append (a b : List Nat) : encW (a ++ b) = .tuple (a.map nI ++ b.map nI) := by
  unfold encW
  rw [List.map_append]
/-- words of one place and more, of so many at most -/
def Lens (L : Nat) (ws : List (List Nat)) : Prop := ∀ w ∈ ws, 1 ≤ w.length ∧ w.length ≤ L
theorem Lens.snoc {L : Nat} {ws : List (List Nat)} {w : List Nat} (h : Lens L ws) (h1 : 1 ≤ w.length) (h2 : w.length ≤ L) : Lens L (ws ++ [w]) := fun x hx => by
  rcases List.mem_append.mp hx with z | z
  · exact h x z
  · rw [List.mem_singleton.mp z]
    exact ⟨h1, h2⟩
end My
namespace My
open PySem PySem.Spec PyProof.Rows L2
/-- the lists of the law's net while it grows -/
structure WebSt (c : Ct) (M : List Addr) (sp lb lw le : Addr) (n L : Nat) (H0 H : Hp) (bs : List (Nat × Nat)) (es : List Nat) : Prop where
  sm : Sm c [lb, lw, le, sp] H0 H
  spr : Spr H sp
  b : ∃ bV, H lb = some (.lst bV) ∧ Dqs (lb :: lw :: le :: M) H bV (bs.map encB)
  w : ∃ wV, H lw = some (.lst wV) ∧ Dqs (lb :: lw :: le :: M) H wV ((wordsOf n bs).map encW)
  e : ∃ eV, H le = some (.lst eV) ∧ Dqs (lb :: lw :: le :: M) H eV (es.map nI)
  bo : boxOk n 0 bs
  ln : Lens L (wordsOf n bs)
section
variable {c : Ct} {M : List Addr} {sp lb lw le : Addr} {n L : Nat} {H0 H H' : Hp} {bs : List (Nat × Nat)} {es : List Nat}
theorem WebSt.on (x : WebSt c M sp lb lw le n L H0 H bs es) (s : Sm c [sp] H H') (h : Spr H' sp) (ms : sp ∈ M) (n1 : lb ≠ sp) (n2 : lw ≠ sp) (n3 : le ≠ sp) : WebSt c M sp lb lw le n L H0 H' bs es := by
  have sub : ∀ z ∈ [sp], z ∈ lb :: lw :: le :: M := fun z hz => by
    rw [List.mem_singleton.mp hz]
    exact List.mem_cons_of_mem _ (List.mem_cons_of_mem _ (List.mem_cons_of_mem _ ms))
  obtain ⟨bV, hb, db⟩ := x.b
  obtain ⟨wV, hw, dw⟩ := x.w
  obtain ⟨eV, he, de⟩ := x.e
  refine ⟨x.sm.trans (s.sub fun z hz => ?_), h, ⟨bV, s.ex lb _ (fun z => n1 (List.mem_singleton.mp z)) hb nofun, db.sm (s.sub sub)⟩, ⟨wV, s.ex lw _ (fun z => n2 (List.mem_singleton.mp z)) hw nofun, dw.sm (s.sub sub)⟩,
    ⟨eV, s.ex le _ (fun z => n3 (List.mem_singleton.mp z)) he nofun, de.sm (s.sub sub)⟩, x.bo, x.ln⟩
  rw [List.mem_singleton.mp hz]
  simp
theorem WebSt.quiet (x : WebSt c M sp lb lw le n L H0 H bs es) (s : Sm c [] H H') : WebSt c M sp lb lw le n L H0 H' bs es := by
  obtain ⟨bV, hb, db⟩ := x.b
  obtain ⟨wV, hw, dw⟩ := x.w
  obtain ⟨eV, he, de⟩ := x.e
  exact ⟨x.sm.trans s.any, x.spr.sm s (fun z => nomatch z), ⟨bV, s.ex lb _ (fun z => nomatch z) hb nofun, db.sm s.any⟩, ⟨wV, s.ex lw _ (fun z => nomatch z) hw nofun, dw.sm s.any⟩,
    ⟨eV, s.ex le _ (fun z => nomatch z) he nofun, de.sm s.any⟩, x.bo, x.ln⟩
end
section
variable {c : Ct} {M : List Addr} {sp lb lw le : Addr} {n L : Nat} {H0 H H' : Hp} {bs : List (Nat × Nat)} {es : List Nat}
theorem WebSt.len {wV : List V} (x : WebSt c M sp lb lw le n L H0 H bs es) (dw : Dqs (lb :: lw :: le :: M) H wV ((wordsOf n bs).map encW)) : wV.length = n + bs.length := by
  have := dw.length
  rw [List.length_map, wordsOf_len] at this
  exact this
theorem WebSt.joined {i j : Nat} {w1 w2 : List Nat} {bV wV : List V} (x : WebSt c M sp lb lw le n L H0 H bs es) (s : Sm c [lb, lw] H H') (n1 : lb ≠ sp) (n2 : lw ≠ sp) (n3 : lb ≠ le) (n4 : lw ≠ le)
    (hb : H' lb = some (.lst bV)) (hw : H' lw = some (.lst wV)) (db : Dqs (lb :: lw :: le :: M) H' bV (bs.map encB ++ [encB (i, j)])) (dw : Dqs (lb :: lw :: le :: M) H' wV ((wordsOf n bs ++ [w1 ++ w2]).map encW))
    (e1 : (wordsOf n bs)[i]? = some w1) (e2 : (wordsOf n bs)[j]? = some w2) (hL : w1.length + w2.length ≤ L) : WebSt c M sp lb lw le n L H0 H' (bs ++ [(i, j)]) es := by
  obtain ⟨eV, he, de⟩ := x.e
  have l1 := x.ln w1 (List.mem_of_getElem? e1)
  have i1 : i < n + bs.length := by
    rw [← wordsOf_len]
    exact (List.getElem?_eq_some_iff.mp e1).1
  have i2 : j < n + bs.length := by
    rw [← wordsOf_len]
    exact (List.getElem?_eq_some_iff.mp e2).1
  have ew : wordsOf n (bs ++ [(i, j)]) = wordsOf n bs ++ [w1 ++ w2] := by
    rw [wordsOf_snoc]
    show wordsOf n bs ++ [(wordsOf n bs).getD i [] ++ (wordsOf n bs).getD j []] = _
    rw [getD_of e1, getD_of e2]
  have out : ∀ {z : Addr}, z ≠ lb → z ≠ lw → z ∉ [lb, lw] := fun a b h => by
    rcases List.mem_cons.mp h with h | h
    · exact a h
    · exact b (List.mem_singleton.mp h)
  refine ⟨x.sm.trans (s.sub fun z hz => ?_), x.spr.sm s (out n1.symm n2.symm), ⟨bV, hb, ?_⟩, ⟨wV, hw, ?_⟩, ⟨eV, s.ex le _ (out n3.symm n4.symm) he nofun, de.sm (s.sub fun z hz => ?_)⟩, boxOk_snoc x.bo (by simpa using i1) (by simpa using i2), ?_⟩
  · rcases List.mem_cons.mp hz with h | h
    · rw [h]; simp
    · rw [List.mem_singleton.mp h]; simp
  · rw [List.map_append]
    exact db
  · rw [ew]
    exact dw
  · rcases List.mem_cons.mp hz with h | h
    · rw [h]; simp
    · rw [List.mem_singleton.mp h]; simp
  · rw [ew]
    exact x.ln.snoc (by rw [List.length_append]; omega) (by rw [List.length_append]; exact hL)
theorem WebSt.more {k : Nat} {eV : List V} (x : WebSt c M sp lb lw le n L H0 H bs es) (n1 : lb ≠ le) (n2 : lw ≠ le) (n3 : le ≠ sp) (he : H le = some (.lst eV)) (de : Dqs (lb :: lw :: le :: M) H eV (es.map nI)) :
    WebSt c M sp lb lw le n L H0 (upd H le (.lst (eV ++ [.int (k : Int)]))) bs (es ++ [k]) := by
  obtain ⟨bV, hb, db⟩ := x.b
  obtain ⟨wV, hw, dw⟩ := x.w
  have s : ∀ {N}, le ∈ N → Sm c N H (upd H le (.lst (eV ++ [.int (k : Int)]))) := fun h => Sm.put h he
  have mA : le ∈ lb :: lw :: le :: M := by simp
  refine ⟨x.sm.trans (s (by simp)), x.spr.sm (s (N := [le]) (by simp)) (fun z => n3 (List.mem_singleton.mp z).symm), ⟨bV, by rw [upd_ne n1]; exact hb, db.sm (s mA)⟩, ⟨wV, by rw [upd_ne n2]; exact hw, dw.sm (s mA)⟩, ⟨_, upd_same, ?_⟩, x.bo, x.ln⟩
  rw [List.map_append]
  exact (de.sm (s mA)).snoc (.int _)
end
theorem wstep_low {ws : List (List Nat)} {i : Nat} {b : Nat × Nat} (h : i < ws.length) : (wstep ws b)[i]? = ws[i]? := by
  unfold wstep
  rw [List.getElem?_append_left h]
theorem wfold_low : ∀ (bs : List (Nat × Nat)) (ws : List (List Nat)) {i : Nat}, i < ws.length → (bs.foldl wstep ws)[i]? = ws[i]?
  | [], _, _, _ => rfl
  | b :: r, ws, i, h => by
    show (r.foldl wstep (wstep ws b))[i]? = _
    rw [wfold_low r (wstep ws b) (by simp [wstep]; omega), wstep_low h]
theorem wordsOf_low {n : Nat} {bs : List (Nat × Nat)} {i : Nat} (h : i < n) : (wordsOf n bs)[i]? = some [i] := by
  unfold wordsOf
  rw [wfold_low _ _ (by simpa using h)]
  simp [h]
theorem lens_get {L : Nat} {ws : List (List Nat)} {i : Nat} {w : List Nat} (h : Lens L ws) (e : ws[i]? = some w) : 1 ≤ w.length ∧ w.length ≤ L := h w (List.mem_of_getElem? e)
/-- an item of the words -/
theorem word_get {M : List Addr} {H : Hp} {wV : List V} {ws : List (List Nat)} {i : Nat} (dw : Dqs M H wV (ws.map encW)) (hi : i < ws.length) :
    ∃ a u w, wV[i]? = some (.ref a) ∧ ws[i]? = some w ∧ a ∉ M ∧ H a = some (.tup u) ∧ Dqs M H u (w.map nI) ∧ u.length = w.length := by
  have e : ws[i]? = some ws[i] := List.getElem?_eq_getElem hi
  obtain ⟨x, hx, dx⟩ := dw.get (encW_get e)
  obtain ⟨a, u, rfl, na, ha, hu⟩ := dx.tup_inv
  exact ⟨a, u, _, hx, e, na, ha, hu, by have := hu.length; simpa using this⟩
theorem canLay_nI : ∀ ks : List Nat, PyData.canLayAll0 (ks.map nI) = true
  | [] => rfl
  | k :: r => by
    show (PyData.canLay0 (nI k) && PyData.canLayAll0 (r.map nI)) = true
    rw [canLay_nI r]
    rfl
theorem depth_nI : ∀ ks : List Nat, PyData.depthAll (ks.map nI) = 0
  | [] => rfl
  | k :: r => by
    show max (PyData.depth (nI k)) (PyData.depthAll (r.map nI)) = 0
    rw [depth_nI r]
    rfl
theorem shaped_nI (ks : List Nat) : SeqAt.shaped (.list (ks.map nI)) = true := by
  have h1 : PyData.canLay0 (.list (ks.map nI)) = true := by
    simp only [PyData.canLay0]
    exact canLay_nI ks
  have h2 : PyData.depth (.list (ks.map nI)) = 1 := by
    simp only [PyData.depth]
    rw [depth_nI]
  unfold SeqAt.shaped
  rw [h1, h2]
  rfl
theorem dict_nI : ∀ ks : List Nat, PyData.hasDictAll (ks.map nI) = false
  | [] => rfl
  | k :: r => by
    show (PyData.hasDict (nI k) || PyData.hasDictAll (r.map nI)) = false
    rw [dict_nI r]
    rfl
theorem Dqs.nats {M : List Addr} {H : Hp} : ∀ ks : List Nat, Dqs M H (ks.map fun k : Nat => V.int (k : Int)) (ks.map nI)
  | [] => .nil
  | k :: r => .cons (.int _) (Dqs.nats r)
theorem wfold_pre : ∀ (bs : List (Nat × Nat)) (ws : List (List Nat)), ∃ r, bs.foldl wstep ws = ws ++ r
  | [], ws => ⟨[], (List.append_nil _).symm⟩
  | b :: t, ws => by
    obtain ⟨r, e⟩ := wfold_pre t (wstep ws b)
    exact ⟨_, e.trans (List.append_assoc _ _ _)⟩
theorem wordsOf_pre (n : Nat) (bs : List (Nat × Nat)) (i : Nat) : ∃ r, wordsOf n bs = wordsOf n (bs.take i) ++ r := by
  obtain ⟨r, e⟩ := wfold_pre (bs.drop i) (wordsOf n (bs.take i))
  refine ⟨r, ?_⟩
  rw [← e]
  unfold wordsOf
  rw [← List.foldl_append, List.take_append_drop]
theorem Lens.take {L n : Nat} {bs : List (Nat × Nat)} (h : Lens L (wordsOf n bs)) (i : Nat) : Lens L (wordsOf n (bs.take i)) := fun w hw => by
  obtain ⟨r, e⟩ := wordsOf_pre n bs i
  exact h w (by rw [e]; exact List.mem_append_left _ hw)
theorem wordsOf_take {n : Nat} {bs : List (Nat × Nat)} {i : Nat} {b : Nat × Nat} (h : bs[i]? = some b) : wordsOf n (bs.take (i + 1)) = wstep (wordsOf n (bs.take i)) b := by
  rw [List.take_add_one, h]
  exact wordsOf_snoc
end My

/-! words: what the program's own walk comes to; how they are shown -/
namespace My
open PySem PySem.Spec PyProof.Rows L2
theorem getD_map {α : Type} (f : α → PyData) {ws : List α} {i : Nat} {w : α} (h : ws[i]? = some w) : (ws.map f).getD i .none = f w := by
  rw [List.getD_eq_getElem?_getD, List.getElem?_map, h]
  rfl
theorem runD_words {jf : PyData → PyData → PyData} {f : List Nat → PyData} {L n : Nat} (hf : ∀ a b : List Nat, a.length + b.length ≤ L → jf (f a) (f b) = f (a ++ b)) :
    ∀ (bs : List (Nat × Nat)) (ws : List (List Nat)), boxOk n (ws.length - n) bs → n ≤ ws.length → Lens L (bs.foldl wstep ws) → runD jf (ws.map f) bs = (bs.foldl wstep ws).map f
  | [], ws, _, _, _ => rfl
  | b :: r, ws, hb, hn, hL => by
    obtain ⟨h1, h2, h3⟩ := hb
    have i1 : b.1 < ws.length := by omega
    have i2 : b.2 < ws.length := by omega
    have e : stepD jf (ws.map f) b = (wstep ws b).map f := by
      unfold stepD wstep
      rw [getD_map f (List.getElem?_eq_getElem i1), getD_map f (List.getElem?_eq_getElem i2), getD_of (List.getElem?_eq_getElem i1), getD_of (List.getElem?_eq_getElem i2), List.map_append]
      obtain ⟨z, ez⟩ := wfold_pre r (wstep ws b)
      have m : ws[b.1] ++ ws[b.2] ∈ (b :: r).foldl wstep ws := by
        show _ ∈ r.foldl wstep (wstep ws b)
        rw [ez]
        refine List.mem_append_left _ ?_
        unfold wstep
        rw [getD_of (List.getElem?_eq_getElem i1), getD_of (List.getElem?_eq_getElem i2)]
        exact List.mem_append_right _ (List.mem_singleton.mpr rfl)
      have := (hL _ m).2
      rw [List.length_append] at this
      rw [hf _ _ this]
      rfl
    show runD jf (stepD jf (ws.map f) b) r = (r.foldl wstep (wstep ws b)).map f
    rw [e]
    have l : (wstep ws b).length = ws.length + 1 := by simp [wstep]
    refine runD_words (n := n) hf r (wstep ws b) ?_ (by omega) hL
    rw [show (wstep ws b).length - n = ws.length - n + 1 by omega]
    exact h3
theorem lensD_words {L n : Nat} {bs : List (Nat × Nat)} (hb : boxOk n 0 bs) (hL : Lens L (wordsOf n bs)) : lensD n bs = (wordsOf n bs).map fun w => nI w.length := by
  have e : (List.replicate n (PyData.int 1)) = ((List.range n).map fun k => [k]).map fun w => nI w.length := by
    rw [List.map_map]
    refine (List.eq_replicate_iff.mpr ⟨by simp, fun x hx => ?_⟩).symm
    obtain ⟨k, _, rfl⟩ := List.mem_map.mp hx
    rfl
  unfold lensD
  rw [e]
  refine runD_words (n := n) (fun a b _ => ?_) bs _ (by simpa using hb) (by simp) hL
  show PyData.int ((a.length : Int) + (b.length : Int)) = _
  unfold nI
  rw [List.length_append]
  rfl
theorem wordsD_words {L n : Nat} {bs : List (Nat × Nat)} (hb : boxOk n 0 bs) (hL : Lens L (wordsOf n bs)) (h4 : L ≤ 400) : wordsD n bs = (wordsOf n bs).map encW := by
  have e : ((List.range n).map fun k => PyData.tuple [nI k]) = ((List.range n).map fun k => [k]).map encW := by
    rw [List.map_map]
    rfl
  unfold wordsD
  rw [e]
  refine runD_words (n := n) (fun a b h => ?_) bs _ (by simpa using hb) (by simp) hL
  rw [enc_append]
  show (if (a.map nI).length + (b.map nI).length > 400 then _ else _) = _
  rw [List.length_map, List.length_map, if_neg (by omega)]
/-- what word_of is asked -/
theorem word_at {L n k : Nat} {bs : List (Nat × Nat)} {w : List Nat} (hb : boxOk n 0 bs) (hL : Lens L (wordsOf n bs)) (h4 : L ≤ 400) (h : (wordsOf n bs)[k]? = some w) :
    (lensD n bs)[k]? = some (.int (w.length : Int)) ∧ (w.length : Int) ≤ 400 ∧ (wordsD n bs)[k]? = some (encW w) := by
  have := hL w (List.mem_of_getElem? h)
  refine ⟨?_, by omega, ?_⟩
  · rw [lensD_words hb hL, List.getElem?_map, h]
    rfl
  · rw [wordsD_words hb hL h4, List.getElem?_map, h]
    rfl
/-- the word of a box -/
theorem word_box {n t : Nat} {bs : List (Nat × Nat)} {b : Nat × Nat} (hb : boxOk n 0 bs) (h : bs[t]? = some b) :
    ∃ w1 w2, (wordsOf n bs)[b.1]? = some w1 ∧ (wordsOf n bs)[b.2]? = some w2 ∧ (wordsOf n bs)[n + t]? = some (w1 ++ w2) := by
  have ht := (List.getElem?_eq_some_iff.mp h).1
  obtain ⟨g1, g2⟩ := boxOk_get hb h
  obtain ⟨r, e⟩ := wordsOf_pre n bs (t + 1)
  have lt := wordsOf_len n (bs.take t)
  rw [List.length_take, Nat.min_eq_left (by omega)] at lt
  rw [wordsOf_take h] at e
  have i1 : b.1 < (wordsOf n (bs.take t)).length := by omega
  have i2 : b.2 < (wordsOf n (bs.take t)).length := by omega
  have l : (wstep (wordsOf n (bs.take t)) b).length = n + t + 1 := by
    simp [wstep]
    omega
  refine ⟨(wordsOf n (bs.take t))[b.1], (wordsOf n (bs.take t))[b.2], ?_, ?_, ?_⟩
  · rw [e, List.getElem?_append_left (by omega), wstep_low i1]
    exact List.getElem?_eq_getElem i1
  · rw [e, List.getElem?_append_left (by omega), wstep_low i2]
    exact List.getElem?_eq_getElem i2
  · rw [e, List.getElem?_append_left (by omega)]
    unfold wstep
    rw [List.getElem?_append_right (by omega), lt, Nat.sub_self, getD_of (List.getElem?_eq_getElem i1), getD_of (List.getElem?_eq_getElem i2)]
    rfl
/-- places are places -/
def Ent (n : Nat) (ws : List (List Nat)) : Prop := ∀ w ∈ ws, ∀ k ∈ w, k < n
theorem wfold_ent {n : Nat} : ∀ (bs : List (Nat × Nat)) (ws : List (List Nat)), Ent n ws → Ent n (bs.foldl wstep ws)
  | [], _, h => h
  | b :: r, ws, h => by
    refine wfold_ent r (wstep ws b) fun w hw k hk => ?_
    have at' : ∀ i, ∀ k ∈ ws.getD i [], k < n := fun i k hk => by
      rw [List.getD_eq_getElem?_getD] at hk
      cases e : ws[i]? with
      | none => rw [e] at hk; exact nomatch hk
      | some w => rw [e] at hk; exact h w (List.mem_of_getElem? e) k hk
    unfold wstep at hw
    rcases List.mem_append.mp hw with z | z
    · exact h w z k hk
    · rw [List.mem_singleton.mp z] at hk
      rcases List.mem_append.mp hk with y | y
      · exact at' _ k y
      · exact at' _ k y
theorem wordsOf_ent (n : Nat) (bs : List (Nat × Nat)) : Ent n (wordsOf n bs) := by
  refine wfold_ent bs _ fun w hw k hk => ?_
  obtain ⟨j, hj, rfl⟩ := List.mem_map.mp hw
  rw [List.mem_singleton.mp hk]
  exact List.mem_range.mp hj
/-! ### shown -/
theorem cost_ints : ∀ ks : List Nat, (∀ k ∈ ks, k < 2 ^ 64) → costs (ks.map nI) ≤ 68 * ks.length
  | [], _ => Nat.le_refl _
  | k :: r, h => by
    have e := cost_ints r fun x hx => h x (List.mem_cons_of_mem _ hx)
    have hk := h k List.mem_cons_self
    have l : (k : Int).natAbs.log2 ≤ 64 := by
      rw [Int.natAbs_natCast]
      by_cases z : k = 0
      · rw [z]; decide
      · exact Nat.le_of_lt ((Nat.log2_lt z).mpr hk)
    show cost (nI k) + 2 + costs (r.map nI) ≤ 68 * (r.length + 1)
    have : cost (nI k) = (k : Int).natAbs.log2 + 2 := by simp only [nI, cost]
    omega
theorem show_ints : ∀ ks : List Nat, (∀ k ∈ ks, k < 2 ^ 64) → PyData.showableAll (ks.map nI) = true
  | [], _ => rfl
  | k :: r, h => by
    show (PyData.showable (nI k) && PyData.showableAll (r.map nI)) = true
    rw [show_ints r fun x hx => h x (List.mem_cons_of_mem _ hx), Bool.and_true]
    have hk := h k List.mem_cons_self
    have l : (k : Int).natAbs.log2 < 1920 := by
      rw [Int.natAbs_natCast]
      by_cases z : k = 0
      · rw [z]; decide
      · exact Nat.lt_trans ((Nat.log2_lt z).mpr hk) (by decide)
    simp only [nI, PyData.showable]
    exact decide_eq_true l
theorem encW_facts {L : Nat} {w : List Nat} (hL : w.length ≤ L) (h : ∀ k ∈ w, k < 2 ^ 64) : PyData.showable (encW w) = true ∧ PyData.hasDict (encW w) = false ∧ PyData.depth (encW w) = 1 ∧ cost (encW w) ≤ 68 * L + 3 := by
  refine ⟨?_, ?_, ?_, ?_⟩
  · simp only [encW, PyData.showable]; exact show_ints w h
  · simp only [encW, PyData.hasDict]; exact dict_nI w
  · simp only [encW, PyData.depth]; rw [depth_nI]
  · simp only [encW, cost]
    have := cost_ints w h
    have : 68 * w.length ≤ 68 * L := Nat.mul_le_mul_left _ hL
    omega
theorem encWs_facts {L : Nat} : ∀ {ws : List (List Nat)}, (∀ w ∈ ws, w.length ≤ L) → (∀ w ∈ ws, ∀ k ∈ w, k < 2 ^ 64) → PyData.showableAll (ws.map encW) = true ∧ PyData.hasDictAll (ws.map encW) = false ∧ PyData.depthAll (ws.map encW) ≤ 1 ∧ costs (ws.map encW) ≤ (68 * L + 5) * ws.length
  | [], _, _ => ⟨rfl, rfl, Nat.zero_le _, Nat.le_refl _⟩
  | w :: r, h1, h2 => by
    obtain ⟨a, b, c, d⟩ := encWs_facts (ws := r) (fun x hx => h1 x (List.mem_cons_of_mem _ hx)) fun x hx => h2 x (List.mem_cons_of_mem _ hx)
    obtain ⟨a', b', c', d'⟩ := encW_facts (h1 w List.mem_cons_self) (h2 w List.mem_cons_self)
    refine ⟨?_, ?_, ?_, ?_⟩
    · show (PyData.showable (encW w) && PyData.showableAll (r.map encW)) = true
      rw [a, a']; rfl
    · show (PyData.hasDict (encW w) || PyData.hasDictAll (r.map encW)) = false
      rw [b, b']; rfl
    · show max (PyData.depth (encW w)) (PyData.depthAll (r.map encW)) ≤ 1
      rw [c']; omega
    · show cost (encW w) + 2 + costs (r.map encW) ≤ (68 * L + 5) * (r.length + 1)
      have : (68 * L + 5) * (r.length + 1) = (68 * L + 5) * r.length + (68 * L + 5) := by rw [Nat.mul_add, Nat.mul_one]
      omega
theorem shows_word {w : List Nat} (hL : w.length ≤ 10000) (h : ∀ k ∈ w, k < 2 ^ 64) : Shows (encW w) := by
  obtain ⟨a, b, c, d⟩ := encW_facts hL h
  exact ⟨a, b, by omega, Nat.le_trans d (by decide)⟩
theorem shows_words {ws : List (List Nat)} (hn : ws.length ≤ 100) (hL : ∀ w ∈ ws, w.length ≤ 1000) (h : ∀ w ∈ ws, ∀ k ∈ w, k < 2 ^ 64) : Shows (.list (ws.map encW)) := by
  obtain ⟨a, b, c, d⟩ := encWs_facts hL h
  refine ⟨?_, ?_, ?_, ?_⟩
  · simp only [PyData.showable]; exact a
  · simp only [PyData.hasDict]; exact b
  · simp only [PyData.depth]; omega
  · simp only [cost]
    have : (68 * 1000 + 5) * ws.length ≤ (68 * 1000 + 5) * 100 := Nat.mul_le_mul_left _ hn
    exact Nat.le_trans (show costs (ws.map encW) + 2 ≤ (68 * 1000 + 5) * 100 + 2 by omega) (by decide)
end My

/-! what the top has left, def by def -/
namespace My
open PySem PySem.Spec PyProof.Rows L2
/-- a def as the top has left it -/
structure HasFn (K : PySem.W.Frag) (x qual : Str) (st : Stmt) (f : Addr) : Prop where
  ex : ∃ (oc kV dc pm cd ct : Value) (od an : Option Addr) (sl : Array (Option Value)),
    K.lookup f = some ⟨oc, od, .func (PySem.W.fnOf x qual (defArgs st) (defBody st) (defScope st) .none kV dc pm an cd ct), sl⟩ ∧ PySem.W.codeIn K cd qual = true
  at_ : PySem.W.nsIn K mainGlobals x = some (some (.ref f))
  kp : PySem.W.keepIn K (.ref f) = true
section
variable {K : PySem.W.Frag} {h : Heap} {mg : Str → Option Value}
theorem hasFn {x qual : Str} {st : Stmt} {f : Addr} {oc kV dc pm cd ct : Value} {od an : Option Addr} {sl : Array (Option Value)} (a : PySem.W.nsIn K mainGlobals x = some (some (.ref f)))
    (l : K.lookup f = some ⟨oc, od, .func (PySem.W.fnOf x qual (defArgs st) (defBody st) (defScope st) .none kV dc pm an cd ct), sl⟩) (c : PySem.W.codeIn K cd qual = true) (k : PySem.W.keepIn K (.ref f) = true) : HasFn K x qual st f :=
  ⟨⟨oc, kV, dc, pm, cd, ct, od, an, sl, l, c⟩, a, k⟩
theorem HasFn.fn {x qual : Str} {st : Stmt} {f : Addr} {ps : List Str} (F : HasFn K x qual st f)
    (hb : ∀ (kV doc pm : Value) (an : Option Addr) (cdv ct : Value) (us : List Value), us.length = ps.length → bindArgs (PySem.W.fnOf x qual (defArgs st) (defBody st) (defScope st) .none kV doc pm an cdv ct) ⟨us, []⟩ = pure (ps.zip us)) :
    ∃ fd, Fun K x qual st f fd ∧ L2.Binds K fd ps [] := by
  obtain ⟨oc, kV, dc, pm, cd, ct, od, an, sl, l, c⟩ := F.ex
  have G := fun_mk (st := st) l c F.kp
  exact ⟨_, G, G.binds hb⟩
theorem HasFn.gl {x qual : Str} {st : Stmt} {f : Addr} (F : HasFn K x qual st f) (X : K.In h) (G : h.Ns mainGlobals mg) : mg x = some (.ref f) := PySem.W.mg_of X G F.at_
theorem HasFn.tab {x qual : Str} {st : Stmt} {f c P : Addr} (F : HasFn K x qual st f) (X : K.In h) (G : h.Ns mainGlobals mg) (ht : PySem.W.tabIn K x = some (c, P)) : ∃ fd, At K f fd ∧ fd.code = .ref c := by
  obtain ⟨oc, kV, dc, pm, cd, ct, od, an, sl, l, _⟩ := F.ex
  exact ⟨_, ⟨oc, od, sl, l⟩, PySem.W.law_code X G ht (F.gl X G) (X _ _ l) rfl⟩
theorem HasFn.kw {x qual : Str} {st : Stmt} {f : Addr} {ps ks : List Str} {g : List Value → List Value} {gV : List V → List V} (F : HasFn K x qual st f)
    (hb : ∀ (s : Shared) (kV doc pm : Value) (an : Option Addr) (cdv ct : Value) (ws : List Value), ws.length = ks.length → BindsTo s (PySem.W.fnOf x qual (defArgs st) (defBody st) (defScope st) .none kV doc pm an cdv ct) ⟨[], ks.zip ws⟩ (ps.zip (g ws)))
    (hr : ∀ {zs : List V} {ws : List Value}, Vals zs ws → Vals (gV zs) (g ws)) : Kwb K f ps ks g gV := by
  obtain ⟨oc, kV, dc, pm, cd, ct, od, an, sl, l, _⟩ := F.ex
  exact ⟨⟨_, ⟨oc, od, sl, l⟩, fun s ws _ hl => hb s _ _ _ _ _ _ ws hl⟩, hr⟩
theorem vals_getD : ∀ {zs : List V} {ws : List Value}, Vals zs ws → ∀ i : Nat, RelV (zs.getD i .non) (ws.getD i .none)
  | _, _, .nil, i => by cases i <;> exact rfl
  | _, _, .cons r _, 0 => r
  | _, _, .cons _ t, i + 1 => vals_getD t i
theorem con1_int {x : Str} {i : Int} (X : K.In h) (G : h.Ns mainGlobals mg) (e : ∃ t, PySem.W.nsIn K mainGlobals x = some (some (.int i t))) : Con1 mg x (.int i) := by
  obtain ⟨t, e⟩ := e
  exact ⟨_, PySem.W.mg_of X G e, ⟨t, rfl⟩⟩
end
end My
namespace My
open PySem PySem.Spec PyProof.Rows L2
theorem HasFn.one {K : PySem.W.Frag} {x qual : Str} {st : Stmt} {f : Addr} {fd : FuncData} {y : Str} (F : HasFn K x qual st f) (A : At K f fd)
    (hb : ∀ (s : Shared) (kV doc pm : Value) (an : Option Addr) (cdv ct u : Value), BindsTo s (PySem.W.fnOf x qual (defArgs st) (defBody st) (defScope st) .none kV doc pm an cdv ct) ⟨[u], []⟩ [(y, u)]) : ∀ (s : Shared) (u : Value), BindsTo s fd ⟨[u], []⟩ [(y, u)] := by
  obtain ⟨oc, kV, dc, pm, cd, ct, od, an, sl, l, _⟩ := F.ex
  cases A.inj ⟨oc, od, sl, l⟩
  exact fun s u => hb s _ _ _ _ _ _ u
theorem tabOf {K : PySem.W.Frag} {x : Str} {f c P : Addr} {oc oc2 : Value} {od od2 : Option Addr} {fd : FuncData} {sl sl2 : Array (Option Value)} {vs : Array Value} (a : PySem.W.nsIn K mainGlobals x = some (some (.ref f)))
    (l : K.lookup f = some ⟨oc, od, .func fd, sl⟩) (hc : fd.code = .ref c) (lc : K.lookup c = some ⟨oc2, od2, .fields vs, sl2⟩) (hv : vs[11]? = some (.ref P)) : PySem.W.tabIn K x = some (c, P) := by
  unfold PySem.W.tabIn
  rw [a]
  dsimp only
  rw [l]
  dsimp only
  rw [hc]
  dsimp only
  rw [lc]
  dsimp only
  rw [hv]
theorem tabG0 {H : Hp} {P : Addr} (h : H P = some (.tbl #[])) : GxR.TabG H P := ⟨_, h, trivial⟩
theorem tabS0 {H : Hp} {P : Addr} {q : Str} (h : H P = some (.tbl #[])) : LamX.TabS H P q := ⟨_, h, trivial, fun _ _ z => nomatch z⟩
end My
namespace My
open PySem PySem.Spec PyProof.Rows L2
/-- a tuple that the top has left -/
structure TupC (K : PySem.W.Frag) (x : Str) (a : Addr) (xs : List V) : Prop where
  at_ : PySem.W.nsIn K mainGlobals x = some (some (.ref a))
  ex : ∃ (o : Obj) (its : Array Value) (n : Nat), K.lookup a = some o ∧ o.cls = .type "tuple" ∧ o.data = .seq its n ∧ its.size ≤ sizeLine ∧ Vals xs its.toList
theorem tupC {K : PySem.W.Frag} {x : Str} {a : Addr} {xs : List V} {od : Option Addr} {its : Array Value} {n : Nat} {sl : Array (Option Value)} (e : PySem.W.nsIn K mainGlobals x = some (some (.ref a)))
    (l : K.lookup a = some ⟨.type "tuple", od, .seq its n, sl⟩) (z : its.size ≤ sizeLine) (v : Vals xs its.toList) : TupC K x a xs := ⟨e, _, _, _, l, rfl, rfl, z, v⟩
theorem TupC.con {K : PySem.W.Frag} {h : Heap} {mg : Str → Option Value} {x : Str} {a : Addr} {xs : List V} (T : TupC K x a xs) (X : K.In h) (G : h.Ns mainGlobals mg) : Con1 mg x (.ref a) := ⟨_, PySem.W.mg_of X G T.at_, rfl⟩
theorem TupC.sq {K : PySem.W.Frag} {x : Str} {a : Addr} {xs : List V} (T : TupC K x a xs) (H : Hp) : SqT K H a xs := Or.inr T.ex
end My

/-! xs[i] += e; sum of a tuple -/
namespace My
open PySem PySem.Spec PyProof.Rows L2
section
variable {X : Cx} {K : PySem.W.Frag}
theorem get_list : PGet X (rIxL X.K) := by
  intro pins s σ H x y v u Q I rx ry h
  obtain ⟨p, xs, i, z, rfl, rfl, hq, he, q⟩ := h
  cases rx
  obtain ⟨t, rfl⟩ := ry
  obtain ⟨its, r, pl, hz⟩ := I.list hq
  obtain ⟨j, h1, h2, h3, h4, h5⟩ := atI_get he
  obtain ⟨w, ew, rw'⟩ := r.get h2
  have hl := r.length
  have hn := line63
  have fin : EP X pins σ Q w s := ⟨z, H, I, rw', q⟩
  by_cases h0 : 0 ≤ i
  · have hj : i.toNat = j := by
      rw [seqIndex_of h0 h5] at h1
      exact Option.some.inj h1
    exact wpAny_getItem_list pl.isList h0 (by omega) (by rw [hj]; simpa using ew) fin
  · have hj : (i + (its.toArray.size : Int)).toNat = j := by
      rw [seqIndex_neg (by omega) h4] at h1
      rw [List.size_toArray, ← hl]
      exact Option.some.inj h1
    exact wpAny_getItem_list_neg pl.isList (by omega) (by rw [List.size_toArray] <;> omega) (by omega) (by rw [hj]; simpa using ew) fin
/-- xs[i] += e, whole numbers in a list -/
theorem ps_augL {o i e : Expr} {to ti te : TE} {pos tpos : Pos} (ho : PE X o to) (hi : PE X i ti) (he : PE X e te) (h : X.K = K := by rfl)
    (ha : ∀ ov iv new, augStore i ov iv new = (do holding [new, ov, iv] (setItem ov iv new); release [new, ov, iv] []; pure .next) := by intros; rfl) :
    PS X (.AugAssign (.Subscript o i tpos) .Add e pos) (tAugS to ti te (rIxL K) (ipI fun i j => i + j) rSetL) := by
  subst h
  exact ps_augS ho hi get_list he ip_add set_list ha
def rSumT (K : PySem.W.Frag) : List V → Hp → VK → Prop := fun vs H Q => ∃ (a : Addr) (ns : List Int), vs = [V.ref a] ∧ SqT K H a (ns.map V.int) ∧ Q (.int ns.sum) H
theorem cr_sumT (hc : X.calm = true) : CallR X (.builtin "sum") (rSumT X.K) := by
  intro pins s σ H vs us Q I r h
  obtain ⟨a, ns, rfl, hs, q⟩ := h
  obtain ⟨its, rv, hl, _⟩ := I.tuple hs
  rw [Vals.ref1 r]
  have hi := rv.ints
  obtain ⟨xs, e⟩ := hi.allInts.items
  have hn : numsOf (intItems xs).toList = ns := by rw [← e]; exact hi.numsOf
  rw [nums_intItems] at hn
  have hl' : s.heap.IsTuple a (intItems xs) := e ▸ (show s.heap.IsTuple a its.toArray from hl)
  refine PySem.W.ktm_sumG (I.ok.hd hc) hl' fun h' tk t' hk => ?_
  rw [preSum_eq, List.take_of_length_le (by simp), hn]
  exact ⟨.int _, H, I.kept hk, ⟨_, rfl⟩, q⟩
theorem call_sumTK (hc : X.calm = true) (h : X.K = K := by rfl) : CallR X (.builtin "sum") (rSumT K) := h ▸ cr_sumT hc
end
theorem starK {X : Cx} {K : PySem.W.Frag} {e : Expr} {es : List Expr} {te : TE} {t : TA} {p : Pos} (he : PE X e te) (hr : PA X es t) (h : X.K = K := by rfl) (hs : starEach (.Starred e p :: es) X.env = (true, eval e X.env) :: starEach es X.env := by rfl) :
    PA X (.Starred e p :: es) (StX.tStar K te t) := by
  subst h
  exact StX.pa_star he hr hs
end My

/-! runs through a net, of anything; counts -/
namespace My
open PySem PySem.Spec PyProof.Rows L2
section
variable {α β : Type}
def stepA (op : α → α → α) (d : α) (acc : List α) (b : Nat × Nat) : List α := acc ++ [op (acc.getD b.1 d) (acc.getD b.2 d)]
def runA (op : α → α → α) (d : α) (ws : List α) (bs : List (Nat × Nat)) : List α := bs.foldl (stepA op d) ws
theorem runA_len {op : α → α → α} {d : α} : ∀ (bs : List (Nat × Nat)) (ws : List α), (runA op d ws bs).length = ws.length + bs.length
  | [], ws => rfl
  | b :: r, ws => by
    show (runA op d (stepA op d ws b) r).length = _
    rw [runA_len r]
    simp [stepA]
    omega
theorem runA_snoc {op : α → α → α} {d : α} {ws : List α} {bs : List (Nat × Nat)} {b : Nat × Nat} : runA op d ws (bs ++ [b]) = stepA op d (runA op d ws bs) b := by
  unfold runA
  rw [List.foldl_append]
  rfl
theorem runA_take {op : α → α → α} {d : α} {ws : List α} {bs : List (Nat × Nat)} {i : Nat} {b : Nat × Nat} (h : bs[i]? = some b) : runA op d ws (bs.take (i + 1)) = stepA op d (runA op d ws (bs.take i)) b := by
  rw [List.take_add_one, h]
  exact runA_snoc
theorem runA_inv {op : α → α → α} {d : α} {P : α → Prop} (hP : ∀ a b, P a → P b → P (op a b)) (hd : P d) : ∀ (bs : List (Nat × Nat)) (ws : List α), (∀ w ∈ ws, P w) → ∀ w ∈ runA op d ws bs, P w
  | [], ws, h => h
  | b :: r, ws, h => by
    refine runA_inv hP hd r (stepA op d ws b) fun w hw => ?_
    have at' : ∀ i, P (ws.getD i d) := fun i => by
      rw [List.getD_eq_getElem?_getD]
      cases e : ws[i]? with
      | none => exact hd
      | some w => exact h w (List.mem_of_getElem? e)
    rcases List.mem_append.mp hw with z | z
    · exact h w z
    · rw [List.mem_singleton.mp z]
      exact hP _ _ (at' _) (at' _)
theorem runA_map {op : α → α → α} {d : α} {op' : β → β → β} {d' : β} {f : α → β} {P : α → Prop} {n : Nat} (hP : ∀ a b, P a → P b → P (op a b)) (hom : ∀ a b, P a → P b → op' (f a) (f b) = f (op a b)) :
    ∀ (bs : List (Nat × Nat)) (ws : List α), (∀ w ∈ ws, P w) → boxOk n (ws.length - n) bs → n ≤ ws.length → runA op' d' (ws.map f) bs = (runA op d ws bs).map f
  | [], ws, _, _, _ => rfl
  | b :: r, ws, h, hb, hn => by
    obtain ⟨h1, h2, h3⟩ := hb
    have i1 : b.1 < ws.length := by omega
    have i2 : b.2 < ws.length := by omega
    have g1 : ws[b.1]? = some ws[b.1] := List.getElem?_eq_getElem i1
    have g2 : ws[b.2]? = some ws[b.2] := List.getElem?_eq_getElem i2
    have e : stepA op' d' (ws.map f) b = (stepA op d ws b).map f := by
      unfold stepA
      rw [getD_of (l := ws.map f) (x := f ws[b.1]) (by rw [List.getElem?_map, g1]; rfl), getD_of (l := ws.map f) (x := f ws[b.2]) (by rw [List.getElem?_map, g2]; rfl), getD_of g1, getD_of g2, List.map_append,
        hom _ _ (h _ (List.getElem_mem i1)) (h _ (List.getElem_mem i2))]
      rfl
    show runA op' d' (stepA op' d' (ws.map f) b) r = (runA op d (stepA op d ws b) r).map f
    rw [e]
    have l : (stepA op d ws b).length = ws.length + 1 := by simp [stepA]
    refine runA_map (n := n) hP hom r (stepA op d ws b) (fun w hw => ?_) ?_ (by omega)
    · rcases List.mem_append.mp hw with z | z
      · exact h w z
      · rw [List.mem_singleton.mp z, getD_of g1, getD_of g2]
        exact hP _ _ (h _ (List.getElem_mem i1)) (h _ (List.getElem_mem i2))
    · rw [show (stepA op d ws b).length - n = ws.length - n + 1 by omega]
      exact h3
end
theorem runD_eq {jf : PyData → PyData → PyData} {ws : List PyData} {bs : List (Nat × Nat)} : runD jf ws bs = runA jf .none ws bs := rfl
/-- numbers -/
theorem runD_nI {jf : PyData → PyData → PyData} {op : Nat → Nat → Nat} {n : Nat} (hom : ∀ a b, jf (nI a) (nI b) = nI (op a b)) {bs : List (Nat × Nat)} {ws : List Nat} (hb : boxOk n 0 bs) (hw : ws.length = n) :
    runD jf (ws.map nI) bs = (runA op 0 ws bs).map nI := by
  rw [runD_eq]
  exact runA_map (P := fun _ => True) (n := n) (fun _ _ _ _ => trivial) (fun a b _ _ => hom a b) bs ws (fun _ _ => trivial) (by rw [hw, Nat.sub_self]; exact hb) (by omega)
/-! ### counts -/
def bumpN (u : List Nat) (k : Nat) : List Nat := u.set k (u.getD k 0 + 1)
theorem bumpN_len {u : List Nat} {k : Nat} : (bumpN u k).length = u.length := by simp [bumpN]
theorem bumps_len : ∀ (ks u : List Nat), (ks.foldl bumpN u).length = u.length
  | [], _ => rfl
  | k :: r, u => by
    show (r.foldl bumpN (bumpN u k)).length = _
    rw [bumps_len r, bumpN_len]
theorem bump_map {u : List Nat} {k : Nat} : (bumpN u k).map (fun x : Nat => V.int (x : Int)) = (u.map fun x : Nat => V.int (x : Int)).set k (.int ((u.getD k 0 : Nat) + 1 : Int)) := by
  unfold bumpN
  rw [List.map_set]
  rfl
theorem nats_get {u : List Nat} {k : Nat} (h : k < u.length) : (u.map fun x : Nat => V.int (x : Int))[k]? = some (.int (u.getD k 0 : Nat)) := by
  rw [List.getElem?_map, List.getElem?_eq_getElem h, List.getD_eq_getElem?_getD, List.getElem?_eq_getElem h]
  rfl
theorem nats_inv {M : List Addr} {H : Hp} : ∀ {vs : List V} {ks : List Nat}, Dqs M H vs (ks.map nI) → vs = ks.map fun x : Nat => V.int (x : Int)
  | _, [], .nil => rfl
  | _, k :: r, .cons a t => by rw [a.int_inv, nats_inv t]; rfl
theorem nats_ints {ks : List Nat} : (ks.map fun x : Nat => V.int (x : Int)) = (ks.map fun x : Nat => (x : Int)).map V.int := by
  rw [List.map_map]
  rfl
theorem nats_sum : ∀ ks : List Nat, (ks.map fun x : Nat => (x : Int)).sum = (ks.sum : Nat)
  | [] => rfl
  | k :: r => by
    rw [List.map_cons, List.sum_cons, nats_sum r, List.sum_cons]
    omega
/-- the greatest one -/
theorem max_unique {ks : List Int} {m m' : Int} (h1 : m ∈ ks) (h2 : ∀ y ∈ ks, y ≤ m) (h3 : m' ∈ ks) (h4 : ∀ y ∈ ks, y ≤ m') : m = m' := by
  have := h2 m' h3
  have := h4 m h1
  omega
def Small (ks : List Nat) : Prop := ∀ k ∈ ks, k < 2 ^ 64
theorem shows_nats {ks : List Nat} (hn : ks.length ≤ 10000) (h : Small ks) : Shows (.tuple (ks.map nI)) := shows_word hn h
theorem shows_natsL {ks : List Nat} (hn : ks.length ≤ 10000) (h : Small ks) : Shows (.list (ks.map nI)) := by
  refine ⟨?_, ?_, ?_, ?_⟩
  · simp only [PyData.showable]; exact show_ints ks h
  · simp only [PyData.hasDict]; exact dict_nI ks
  · simp only [PyData.depth]; rw [depth_nI]; decide
  · simp only [cost]
    have := cost_ints ks h
    have : 68 * ks.length ≤ 68 * 10000 := Nat.mul_le_mul_left _ hn
    exact Nat.le_trans (show costs (ks.map nI) + 2 ≤ 68 * 10000 + 2 by omega) (by decide)
/-- boxes and ends while they grow -/
structure TallSt (c : Ct) (M : List Addr) (sp lb le : Addr) (n : Nat) (H0 H : Hp) (bs : List (Nat × Nat)) (es : List Nat) : Prop where
  sm : Sm c [lb, le, sp] H0 H
  spr : Spr H sp
  b : ∃ bV, H lb = some (.lst bV) ∧ Dqs (lb :: le :: M) H bV (bs.map encB)
  e : ∃ eV, H le = some (.lst eV) ∧ Dqs (lb :: le :: M) H eV (es.map nI)
  bo : boxOk n 0 bs
section
variable {c : Ct} {M : List Addr} {sp lb le : Addr} {n : Nat} {H0 H H' : Hp} {bs : List (Nat × Nat)} {es : List Nat}
theorem TallSt.on (x : TallSt c M sp lb le n H0 H bs es) (s : Sm c [sp] H H') (h : Spr H' sp) (ms : sp ∈ M) (n1 : lb ≠ sp) (n3 : le ≠ sp) : TallSt c M sp lb le n H0 H' bs es := by
  have sub : ∀ z ∈ [sp], z ∈ lb :: le :: M := fun z hz => by
    rw [List.mem_singleton.mp hz]
    exact List.mem_cons_of_mem _ (List.mem_cons_of_mem _ ms)
  obtain ⟨bV, hb, db⟩ := x.b
  obtain ⟨eV, he, de⟩ := x.e
  refine ⟨x.sm.trans (s.sub fun z hz => ?_), h, ⟨bV, s.ex lb _ (fun z => n1 (List.mem_singleton.mp z)) hb nofun, db.sm (s.sub sub)⟩,
    ⟨eV, s.ex le _ (fun z => n3 (List.mem_singleton.mp z)) he nofun, de.sm (s.sub sub)⟩, x.bo⟩
  rw [List.mem_singleton.mp hz]
  simp
theorem TallSt.quiet (x : TallSt c M sp lb le n H0 H bs es) (s : Sm c [] H H') : TallSt c M sp lb le n H0 H' bs es := by
  obtain ⟨bV, hb, db⟩ := x.b
  obtain ⟨eV, he, de⟩ := x.e
  exact ⟨x.sm.trans s.any, x.spr.sm s (fun z => nomatch z), ⟨bV, s.ex lb _ (fun z => nomatch z) hb nofun, db.sm s.any⟩, ⟨eV, s.ex le _ (fun z => nomatch z) he nofun, de.sm s.any⟩, x.bo⟩
theorem TallSt.full (x : TallSt c M sp lb le n H0 H bs es) (hM : ∀ m ∈ M, H0 m ≠ none) : ∀ m ∈ lb :: le :: M, H m ≠ none := fun m hm => by
  obtain ⟨bV, hb, _⟩ := x.b
  obtain ⟨eV, he, _⟩ := x.e
  rcases List.mem_cons.mp hm with z | hm
  · rw [z, hb]; nofun
  rcases List.mem_cons.mp hm with z | hm
  · rw [z, he]; nofun
  exact x.sm.st m (hM m hm)
/-- one more box: p its pair -/
theorem TallSt.box {i j : Nat} {p : Addr} {bV : List V} (x : TallSt c M sp lb le n H0 H bs es) (hM : ∀ m ∈ M, H0 m ≠ none) (hp : H p = none) (n1 : lb ≠ sp) (n3 : le ≠ lb) (hb : H lb = some (.lst bV))
    (i1 : i < n + bs.length) (i2 : j < n + bs.length) : TallSt c M sp lb le n H0 (upd (upd H p (.tup [.int (i : Int), .int (j : Int)])) lb (.lst (bV ++ [.ref p]))) (bs ++ [(i, j)]) es := by
  have hF := x.full hM
  obtain ⟨bV', hb', db⟩ := x.b
  rw [hb] at hb'
  cases hb'
  obtain ⟨eV, he, de⟩ := x.e
  have s1 : ∀ {N}, Sm c N H (upd H p (.tup [.int (i : Int), .int (j : Int)])) := Sm.new hp
  have b1 : (upd H p (.tup [.int (i : Int), .int (j : Int)])) lb = some (.lst bV) := by rw [upd_ne (ne_of_none hb hp)]; exact hb
  have s2 : ∀ {N}, lb ∈ N → Sm c N (upd H p (.tup [.int (i : Int), .int (j : Int)])) (upd (upd H p (.tup [.int (i : Int), .int (j : Int)])) lb (.lst (bV ++ [.ref p]))) := fun h => Sm.put h b1
  have mA : lb ∈ lb :: le :: M := by simp
  refine ⟨x.sm.trans (s1.trans (s2 (by simp))), (x.spr.sm (c := c) (M := []) s1 (fun z => nomatch z)).sm (s2 (N := [lb]) (by simp)) (fun z => n1 (List.mem_singleton.mp z).symm), ⟨_, upd_same, ?_⟩, ⟨eV, ?_, (de.sm (s1)).sm (s2 mA)⟩, boxOk_snoc x.bo (by simpa using i1) (by simpa using i2)⟩
  · rw [List.map_append]
    exact ((db.sm (s1)).snoc (dq_new hF hp (.two (.int (i : Int)) (.int (j : Int))))).sm (s2 mA)
  · rw [upd_ne n3, upd_ne (ne_of_none he hp)]
    exact he
theorem TallSt.more {k : Nat} {eV : List V} (x : TallSt c M sp lb le n H0 H bs es) (n1 : lb ≠ le) (n3 : le ≠ sp) (he : H le = some (.lst eV)) (de : Dqs (lb :: le :: M) H eV (es.map nI)) :
    TallSt c M sp lb le n H0 (upd H le (.lst (eV ++ [.int (k : Int)]))) bs (es ++ [k]) := by
  obtain ⟨bV, hb, db⟩ := x.b
  have s : ∀ {N}, le ∈ N → Sm c N H (upd H le (.lst (eV ++ [.int (k : Int)]))) := fun h => Sm.put h he
  have mA : le ∈ lb :: le :: M := by simp
  refine ⟨x.sm.trans (s (by simp)), x.spr.sm (s (N := [le]) (by simp)) (fun z => n3 (List.mem_singleton.mp z).symm), ⟨bV, by rw [upd_ne n1]; exact hb, db.sm (s mA)⟩, ⟨_, upd_same, ?_⟩, x.bo⟩
  rw [List.map_append]
  exact (de.sm (s mA)).snoc (.int _)
end
def maxD (x y : PyData) : PyData := match x, y with
  | .int i, .int j => .int ((if j > i then j else i) + 1)
  | _, _ => .none
def depOf (n : Nat) (bs : List (Nat × Nat)) : List Nat := runA (fun a b => 1 + max a b) 0 (List.replicate n 0) bs
theorem depD {n : Nat} {bs : List (Nat × Nat)} (hb : boxOk n 0 bs) : runD maxD (List.replicate n (.int 0)) bs = (depOf n bs).map nI := by
  have e : (List.replicate n (PyData.int 0)) = (List.replicate n 0).map nI := by rw [List.map_replicate]; rfl
  rw [e]
  refine runD_nI (fun a b => ?_) hb (by simp)
  show PyData.int ((if (b : Int) > (a : Int) then (b : Int) else (a : Int)) + 1) = .int ((1 + max a b : Nat) : Int)
  congr 1
  split <;> omega
def lenOf (n : Nat) (bs : List (Nat × Nat)) : List Nat := runA (fun a b => a + b) 0 (List.replicate n 1) bs
theorem lenD {n : Nat} {bs : List (Nat × Nat)} (hb : boxOk n 0 bs) : lensD n bs = (lenOf n bs).map nI := by
  have e : (List.replicate n (PyData.int 1)) = (List.replicate n 1).map nI := by rw [List.map_replicate]; rfl
  unfold lensD
  rw [e]
  refine runD_nI (fun a b => ?_) hb (by simp)
  show PyData.int ((a : Int) + (b : Int)) = .int ((a + b : Nat) : Int)
  congr 1
def wiresOf (bs : List (Nat × Nat)) : List Nat := bs.flatMap fun b => [b.1, b.2]
def fansOf (n : Nat) (bs : List (Nat × Nat)) (es : List Nat) : List Nat := (wiresOf bs ++ es).foldl bumpN (List.replicate (n + bs.length) 0)
theorem ixN_of {n k : Nat} (h : k < n) : ixN n (k : Int) = some k := by
  unfold ixN
  rw [if_pos (by omega), if_pos (by omega)]
  simp
def rowsOf (bs : List (Nat × Nat)) (es : List Nat) : List (List Nat) := (bs.map fun b => [b.1, b.2]) ++ [es]
theorem rows_flat (bs : List (Nat × Nat)) (es : List Nat) : (rowsOf bs es).flatten = wiresOf bs ++ es := by
  unfold rowsOf wiresOf
  rw [List.flatten_append, List.flatMap_def]
  simp
theorem rows_enc (bs : List (Nat × Nat)) (es : List Nat) : bs.map encB ++ [encW es] = (rowsOf bs es).map encW := by
  unfold rowsOf
  rw [List.map_append, List.map_map]
  rfl
theorem rows_lt {n : Nat} {bs : List (Nat × Nat)} {es : List Nat} (hN : NetOk n bs es) : ∀ r ∈ rowsOf bs es, ∀ k ∈ r, k < n + bs.length := by
  intro r hr k hk
  unfold rowsOf at hr
  rcases List.mem_append.mp hr with z | z
  · obtain ⟨b, hb, rfl⟩ := List.mem_map.mp z
    obtain ⟨i, hi⟩ := List.getElem?_of_mem hb
    obtain ⟨g1, g2⟩ := boxOk_get hN.bx hi
    have := (List.getElem?_eq_some_iff.mp hi).1
    rcases List.mem_cons.mp hk with y | y
    · omega
    · have := List.mem_singleton.mp y
      omega
  · rw [List.mem_singleton.mp z] at hk
    exact hN.ew k hk
theorem take_flat {α : Type} {rows : List (List α)} {i : Nat} {r : List α} (h : rows[i]? = some r) : (rows.take (i + 1)).flatten = (rows.take i).flatten ++ r := by
  rw [List.take_add_one, h]
  simp
theorem foldl_take {α β : Type} (f : β → α → β) {r : List α} {k : Nat} {x : α} (h : r[k]? = some x) (u : β) : (r.take (k + 1)).foldl f u = f ((r.take k).foldl f u) x := by
  rw [List.take_add_one, h, List.foldl_append]
  rfl
/-! ### how often each place comes -/
def unitOf (n k : Nat) : List Nat := (List.range n).map fun p => if p = k then 1 else 0
def addV (a b : List Nat) : List Nat := List.zipWith (fun x y => x + y) a b
def grownOf (n : Nat) (bs : List (Nat × Nat)) : List (List Nat) := runA addV [] ((List.range n).map (unitOf n)) bs
theorem unit_len (n k : Nat) : (unitOf n k).length = n := by simp [unitOf]
theorem addV_len {n : Nat} {a b : List Nat} (ha : a.length = n) (hb : b.length = n) : (addV a b).length = n := by simp [addV, ha, hb]
theorem addV_sum : ∀ {a b : List Nat}, a.length = b.length → (addV a b).sum = a.sum + b.sum
  | [], [], _ => rfl
  | x :: a, y :: b, h => by
    have := addV_sum (a := a) (b := b) (by simpa using h)
    show (x + y + (addV a b).sum) = (x + a.sum) + (y + b.sum)
    omega
  | [], _ :: _, h => by simp at h
  | _ :: _, [], h => by simp at h
theorem unit_sum_aux (k : Nat) : ∀ n, ((List.range n).map fun p => if p = k then 1 else 0).sum = if k < n then 1 else 0
  | 0 => by simp
  | n + 1 => by
    rw [List.range_succ, List.map_append, List.sum_append, unit_sum_aux k n]
    simp only [List.map_cons, List.map_nil, List.sum_cons, List.sum_nil]
    by_cases h : k < n
    · rw [if_pos h, if_neg (by omega), if_pos (by omega)]
      rfl
    · rw [if_neg h]
      by_cases h2 : n = k
      · rw [if_pos h2, if_pos (by omega)]
        rfl
      · rw [if_neg h2, if_neg (by omega)]
        rfl
theorem unit_sum {n k : Nat} (h : k < n) : (unitOf n k).sum = 1 := by
  unfold unitOf
  rw [unit_sum_aux, if_pos h]
theorem grown_sum {n : Nat} {bs : List (Nat × Nat)} (hb : boxOk n 0 bs) : (grownOf n bs).map List.sum = lenOf n bs := by
  unfold grownOf lenOf
  have e : (List.replicate n 1) = ((List.range n).map (unitOf n)).map List.sum := by
    rw [List.map_map]
    refine (List.eq_replicate_iff.mpr ⟨by simp, fun x hx => ?_⟩).symm
    obtain ⟨k, hk, rfl⟩ := List.mem_map.mp hx
    exact unit_sum (List.mem_range.mp hk)
  rw [e]
  refine (runA_map (P := fun w : List Nat => w.length = n) (n := n) (fun a b ha hb => addV_len ha hb) (fun a b ha hb => (addV_sum (ha.trans hb.symm)).symm) bs _ (fun w hw => ?_) (by simpa using hb) (by simp)).symm
  obtain ⟨k, _, rfl⟩ := List.mem_map.mp hw
  exact unit_len n k
theorem runA_all {α : Type} {op : α → α → α} {d : α} {P : α → Prop} {n : Nat} (hP : ∀ a b, P a → P b → P (op a b)) : ∀ (bs : List (Nat × Nat)) (ws : List α), (∀ w ∈ ws, P w) → boxOk n (ws.length - n) bs → n ≤ ws.length → ∀ w ∈ runA op d ws bs, P w
  | [], ws, h, _, _ => h
  | b :: r, ws, h, hb, hn => by
    obtain ⟨h1, h2, h3⟩ := hb
    have i1 : b.1 < ws.length := by omega
    have i2 : b.2 < ws.length := by omega
    have l : (stepA op d ws b).length = ws.length + 1 := by simp [stepA]
    refine runA_all (n := n) hP r (stepA op d ws b) (fun w hw => ?_) ?_ (by omega)
    · rcases List.mem_append.mp hw with z | z
      · exact h w z
      · rw [List.mem_singleton.mp z, getD_of (List.getElem?_eq_getElem i1), getD_of (List.getElem?_eq_getElem i2)]
        exact hP _ _ (h _ (List.getElem_mem i1)) (h _ (List.getElem_mem i2))
    · rw [show (stepA op d ws b).length - n = ws.length - n + 1 by omega]
      exact h3
theorem boxOk_take {n : Nat} : ∀ {bs : List (Nat × Nat)} {t : Nat} (i : Nat), boxOk n t bs → boxOk n t (bs.take i)
  | _, _, 0, _ => trivial
  | [], _, _ + 1, _ => trivial
  | b :: r, t, i + 1, ⟨h1, h2, h3⟩ => ⟨h1, h2, boxOk_take i h3⟩
theorem grown_lens' {n : Nat} {bs : List (Nat × Nat)} (hb : boxOk n 0 bs) : ∀ w ∈ grownOf n bs, w.length = n :=
  runA_all (P := fun w : List Nat => w.length = n) (n := n) (fun a b ha hb => addV_len ha hb) bs _ (fun w hw => by obtain ⟨k, _, rfl⟩ := List.mem_map.mp hw; exact unit_len n k) (by simpa using hb) (by simp)
theorem grownOf_len (n : Nat) (bs : List (Nat × Nat)) : (grownOf n bs).length = n + bs.length := by
  unfold grownOf
  rw [runA_len]
  simp
theorem addV_range {n : Nat} {a b : List Nat} (ha : a.length = n) (hb : b.length = n) : addV a b = (List.range n).map fun k => a.getD k 0 + b.getD k 0 := by
  refine List.ext_getElem? fun i => ?_
  unfold addV
  rw [List.getElem?_zipWith, List.getElem?_map]
  by_cases h : i < n
  · rw [List.getElem?_range h, List.getElem?_eq_getElem (by omega), List.getElem?_eq_getElem (by omega)]
    simp [List.getD_eq_getElem?_getD, List.getElem?_eq_getElem (show i < a.length by omega), List.getElem?_eq_getElem (show i < b.length by omega)]
  · rw [List.getElem?_eq_none (show a.length ≤ i by omega), List.getElem?_eq_none (show (List.range n).length ≤ i by rw [List.length_range]; omega)]
    rfl
/-! ### bounds -/
def iterN (g : Nat → Nat) : Nat → Nat → Nat
  | 0, B => B
  | n + 1, B => iterN g n (g B)
theorem runA_bound {op : Nat → Nat → Nat} {g : Nat → Nat} (hg : ∀ x, x ≤ g x) (ho : ∀ a b B, a ≤ B → b ≤ B → op a b ≤ g B) : ∀ (bs : List (Nat × Nat)) (ws : List Nat) (B : Nat), (∀ w ∈ ws, w ≤ B) → ∀ w ∈ runA op 0 ws bs, w ≤ iterN g bs.length B
  | [], ws, B, h => h
  | b :: r, ws, B, h => by
    refine runA_bound hg ho r (stepA op 0 ws b) (g B) fun w hw => ?_
    have at' : ∀ i, ws.getD i 0 ≤ B := fun i => by
      rw [List.getD_eq_getElem?_getD]
      cases e : ws[i]? with
      | none => exact Nat.zero_le _
      | some w => exact h w (List.mem_of_getElem? e)
    rcases List.mem_append.mp hw with z | z
    · exact Nat.le_trans (h w z) (hg B)
    · rw [List.mem_singleton.mp z]
      exact ho _ _ B (at' _) (at' _)
theorem iter_succ : ∀ n B : Nat, iterN (fun x : Nat => x + 1) n B = B + n
  | 0, B => rfl
  | n + 1, B => by
    show iterN (fun x : Nat => x + 1) n (B + 1) = _
    rw [iter_succ n]
    omega
theorem iter_dbl : ∀ n B : Nat, iterN (fun x : Nat => 2 * x) n B = 2 ^ n * B
  | 0, B => by simp [iterN]
  | n + 1, B => by
    show iterN (fun x : Nat => 2 * x) n (2 * B) = _
    rw [iter_dbl n, Nat.pow_succ, Nat.mul_assoc]
theorem dep_small {n : Nat} {bs : List (Nat × Nat)} (h : bs.length ≤ 60) : Small (depOf n bs) := fun k hk => by
  have := runA_bound (op := fun a b => 1 + max a b) (g := fun x => x + 1) (fun x => by omega) (fun a b B ha hb => by omega) bs (List.replicate n 0) 0 (fun w hw => by rw [List.eq_of_mem_replicate hw]; exact Nat.le_refl _) k hk
  rw [iter_succ] at this
  exact Nat.lt_of_le_of_lt this (by omega)
theorem len_small {n : Nat} {bs : List (Nat × Nat)} (h : bs.length ≤ 60) : Small (lenOf n bs) := fun k hk => by
  have := runA_bound (op := fun a b => a + b) (g := fun x => 2 * x) (fun x => by omega) (fun a b B ha hb => by omega) bs (List.replicate n 1) 1 (fun w hw => by rw [List.eq_of_mem_replicate hw]; exact Nat.le_refl _) k hk
  rw [iter_dbl, Nat.mul_one] at this
  exact Nat.lt_of_le_of_lt this (Nat.lt_of_le_of_lt (Nat.pow_le_pow_right (by decide) h) (by decide))
theorem bumps_bound : ∀ (ks u : List Nat) (B : Nat), (∀ x ∈ u, x ≤ B) → ∀ x ∈ ks.foldl bumpN u, x ≤ B + ks.length
  | [], u, B, h => h
  | k :: r, u, B, h => by
    intro x hx
    have := bumps_bound r (bumpN u k) (B + 1) (fun y hy => by
      unfold bumpN at hy
      rcases List.mem_or_eq_of_mem_set hy with z | z
      · exact Nat.le_trans (h y z) (Nat.le_succ _)
      · rw [z]
        rw [List.getD_eq_getElem?_getD]
        cases e : u[k]? with
        | none => show 0 + 1 ≤ _; omega
        | some w =>
          have := h w (List.mem_of_getElem? e)
          show w + 1 ≤ _
          omega) x hx
    rw [List.length_cons]
    omega
theorem wiresOf_len : ∀ bs : List (Nat × Nat), (wiresOf bs).length = 2 * bs.length
  | [] => rfl
  | b :: r => by
    have := wiresOf_len r
    unfold wiresOf at this ⊢
    rw [List.flatMap_cons, List.length_append, this, List.length_cons]
    show 2 + 2 * r.length = 2 * (r.length + 1)
    omega
theorem fans_small {n : Nat} {bs : List (Nat × Nat)} {es : List Nat} (h : bs.length ≤ 60) (h2 : es.length ≤ 24) : Small (fansOf n bs es) := fun k hk => by
  have := bumps_bound (wiresOf bs ++ es) (List.replicate (n + bs.length) 0) 0 (fun w hw => by rw [List.eq_of_mem_replicate hw]; exact Nat.le_refl _) k hk
  rw [List.length_append, wiresOf_len] at this
  exact Nat.lt_of_le_of_lt this (by omega)
theorem ex_max : ∀ ks : List Nat, ks ≠ [] → ∃ m ∈ ks, ∀ y ∈ ks, y ≤ m
  | [], h => absurd rfl h
  | [k], _ => ⟨k, List.mem_cons_self, fun y hy => by rw [List.mem_singleton.mp hy]; exact Nat.le_refl _⟩
  | k :: k2 :: r, _ => by
    obtain ⟨m, hm, hl⟩ := ex_max (k2 :: r) nofun
    by_cases h : m ≤ k
    · exact ⟨k, List.mem_cons_self, fun y hy => by
        rcases List.mem_cons.mp hy with z | z
        · rw [z]; exact Nat.le_refl _
        · exact Nat.le_trans (hl y z) h⟩
    · exact ⟨m, List.mem_cons_of_mem _ hm, fun y hy => by
        rcases List.mem_cons.mp hy with z | z
        · rw [z]; omega
        · exact hl y z⟩
theorem wiresOf_take {bs : List (Nat × Nat)} {i : Nat} {b : Nat × Nat} (h : bs[i]? = some b) : wiresOf (bs.take (i + 1)) = wiresOf (bs.take i) ++ [b.1, b.2] := by
  rw [List.take_add_one, h]
  unfold wiresOf
  rw [List.flatMap_append]
  rfl
theorem depOf_take {n : Nat} {bs : List (Nat × Nat)} {i : Nat} {b : Nat × Nat} (h : bs[i]? = some b) : depOf n (bs.take (i + 1)) = depOf n (bs.take i) ++ [1 + max ((depOf n (bs.take i)).getD b.1 0) ((depOf n (bs.take i)).getD b.2 0)] := by
  unfold depOf
  rw [runA_take h]
  rfl
theorem depOf_len (n : Nat) (bs : List (Nat × Nat)) : (depOf n bs).length = n + bs.length := by
  unfold depOf
  rw [runA_len]
  simp
end My

/-! boxes and words while they grow, any joins -/
namespace My
open PySem PySem.Spec PyProof.Rows L2
theorem wordsOf_app (n : Nat) (bs more : List (Nat × Nat)) : ∃ r, wordsOf n (bs ++ more) = wordsOf n bs ++ r := by
  obtain ⟨r, e⟩ := wfold_pre more (wordsOf n bs)
  refine ⟨r, ?_⟩
  rw [← e]
  unfold wordsOf
  rw [List.foldl_append]
theorem wordsOf_more {n : Nat} {bs : List (Nat × Nat)} (more : List (Nat × Nat)) {i : Nat} {w : List Nat} (h : (wordsOf n bs)[i]? = some w) : (wordsOf n (bs ++ more))[i]? = some w := by
  obtain ⟨r, e⟩ := wordsOf_app n bs more
  rw [e, List.getElem?_append_left (List.getElem?_eq_some_iff.mp h).1]
  exact h
/-- a wire whose word has at most so many places -/
def Wr (n : Nat) (bs : List (Nat × Nat)) (i l : Nat) : Prop := ∃ w, (wordsOf n bs)[i]? = some w ∧ 1 ≤ w.length ∧ w.length ≤ l
theorem Wr.more {n : Nat} {bs : List (Nat × Nat)} (more : List (Nat × Nat)) {i l : Nat} (h : Wr n bs i l) : Wr n (bs ++ more) i l := by
  obtain ⟨w, e, a, b⟩ := h
  exact ⟨w, wordsOf_more more e, a, b⟩
theorem Wr.mono {n : Nat} {bs : List (Nat × Nat)} {i l l' : Nat} (h : Wr n bs i l) (hl : l ≤ l') : Wr n bs i l' := by
  obtain ⟨w, e, a, b⟩ := h
  exact ⟨w, e, a, Nat.le_trans b hl⟩
theorem Wr.lt {n : Nat} {bs : List (Nat × Nat)} {i l : Nat} (h : Wr n bs i l) : i < n + bs.length := by
  obtain ⟨w, e, _⟩ := h
  rw [← wordsOf_len]
  exact (List.getElem?_eq_some_iff.mp e).1
theorem Wr.low {n : Nat} {bs : List (Nat × Nat)} {i : Nat} (h : i < n) : Wr n bs i 1 := ⟨[i], wordsOf_low h, Nat.le_refl _, Nat.le_refl _⟩
/-- which lists are at hand -/
structure JC (M : List Addr) (sp lb lw : Addr) : Prop where
  ms : sp ∈ M
  mb : lb ∈ M
  mw : lw ∈ M
  bw : lb ≠ lw
  bs : lb ≠ sp
  ws : lw ≠ sp
/-- how often the box b is beneath a wire -/
def ostep (n b : Nat) (acc : List Nat) (x : Nat × Nat) : List Nat := acc ++ [acc.getD x.1 0 + acc.getD x.2 0 + (if acc.length = n + b then 1 else 0)]
def occs (n : Nat) (bs : List (Nat × Nat)) (b : Nat) : List Nat := bs.foldl (ostep n b) (List.replicate n 0)
def occ (n : Nat) (bs : List (Nat × Nat)) (b i : Nat) : Nat := (occs n bs b).getD i 0
theorem occs_fold_len (n b : Nat) : ∀ (bs : List (Nat × Nat)) (acc : List Nat), (bs.foldl (ostep n b) acc).length = acc.length + bs.length
  | [], _ => rfl
  | x :: r, acc => by
    show (r.foldl (ostep n b) (ostep n b acc x)).length = _
    rw [occs_fold_len n b r]
    simp [ostep]
    omega
theorem occs_len {n b : Nat} {bs : List (Nat × Nat)} : (occs n bs b).length = n + bs.length := by
  unfold occs
  rw [occs_fold_len, List.length_replicate]
theorem occs_snoc {n b : Nat} {bs : List (Nat × Nat)} {x : Nat × Nat} : occs n (bs ++ [x]) b = ostep n b (occs n bs b) x := by
  unfold occs
  rw [List.foldl_append]
  rfl
theorem occs_pre {n b : Nat} (bs : List (Nat × Nat)) : ∀ more : List (Nat × Nat), ∃ r, occs n (bs ++ more) b = occs n bs b ++ r := by
  have key : ∀ (more : List (Nat × Nat)) (acc : List Nat), ∃ r, more.foldl (ostep n b) acc = acc ++ r := by
    intro more
    induction more with
    | nil => exact fun acc => ⟨[], (List.append_nil _).symm⟩
    | cons x r ih =>
      intro acc
      obtain ⟨z, e⟩ := ih (ostep n b acc x)
      exact ⟨_, e.trans (List.append_assoc _ _ _)⟩
  intro more
  obtain ⟨r, e⟩ := key more (occs n bs b)
  refine ⟨r, ?_⟩
  rw [← e]
  unfold occs
  rw [List.foldl_append]
theorem occ_more {n b i : Nat} {bs : List (Nat × Nat)} (more : List (Nat × Nat)) (h : i < n + bs.length) : occ n (bs ++ more) b i = occ n bs b i := by
  obtain ⟨r, e⟩ := occs_pre (n := n) (b := b) bs more
  unfold occ
  rw [e, List.getD_eq_getElem?_getD, List.getD_eq_getElem?_getD, List.getElem?_append_left (by rw [occs_len]; exact h)]
theorem occ_new {n b : Nat} {bs : List (Nat × Nat)} {x y : Nat} : occ n (bs ++ [(x, y)]) b (n + bs.length) = occ n bs b x + occ n bs b y + (if bs.length = b then 1 else 0) := by
  unfold occ
  rw [occs_snoc]
  unfold ostep
  rw [List.getD_eq_getElem?_getD, List.getElem?_append_right (by rw [occs_len]; exact Nat.le_refl _), occs_len, Nat.sub_self]
  show _ + _ + _ = _
  congr 1
  by_cases h : bs.length = b
  · rw [if_pos h, if_pos (by omega)]
  · rw [if_neg h, if_neg (by omega)]
theorem occ_low {n b i : Nat} {bs : List (Nat × Nat)} (h : i < n) : occ n bs b i = 0 := by
  have e : occ n ([] ++ bs) b i = occ n [] b i := occ_more bs (by simpa using h)
  rw [List.nil_append] at e
  rw [e]
  show (List.replicate n 0).getD i 0 = 0
  rw [List.getD_eq_getElem?_getD, List.getElem?_replicate]
  split <;> rfl
theorem occ_out {n b i : Nat} {bs : List (Nat × Nat)} (h : n + bs.length ≤ i) : occ n bs b i = 0 := by
  unfold occ
  rw [List.getD_eq_getElem?_getD, List.getElem?_eq_none (by rw [occs_len]; exact h)]
  rfl
/-- each box at most once beneath each wire; and none that is not there -/
def Lin (n : Nat) (bs : List (Nat × Nat)) : Prop := ∀ b i, occ n bs b i ≤ (if b < bs.length then 1 else 0)
theorem lin_nil {n : Nat} : Lin n [] := fun b i => by
  by_cases h : i < n
  · rw [occ_low h]
    exact Nat.zero_le _
  · rw [occ_out (by simpa using h)]
    exact Nat.zero_le _
theorem Lin.snoc {n x y : Nat} {bs : List (Nat × Nat)} (h : Lin n bs) (d : ∀ b, occ n bs b x + occ n bs b y ≤ 1) : Lin n (bs ++ [(x, y)]) := fun b i => by
  have hl : (bs ++ [(x, y)]).length = bs.length + 1 := by simp
  rw [hl]
  by_cases h1 : i < n + bs.length
  · rw [occ_more _ h1]
    have h2 : (if b < bs.length then 1 else 0) ≤ (if b < bs.length + 1 then 1 else 0) := by
      split <;> split <;> omega
    exact Nat.le_trans (h b i) h2
  · by_cases h2 : i = n + bs.length
    · subst h2
      rw [occ_new]
      have := d b
      have a1 := h b x
      have a2 := h b y
      by_cases hb : b < bs.length
      · rw [if_neg (by omega), if_pos (by omega)]
        omega
      · rw [if_neg hb] at a1 a2
        by_cases hb2 : bs.length = b
        · rw [if_pos hb2, if_pos (by omega)]
          omega
        · rw [if_neg hb2, if_neg (by omega)]
          omega
    · rw [occ_out (by rw [hl]; omega)]
      exact Nat.zero_le _
structure JS (M : List Addr) (sp lb lw : Addr) (n : Nat) (H : Hp) (bs : List (Nat × Nat)) : Prop where
  spr : Spr H sp
  b : ∃ bV, H lb = some (.lst bV) ∧ Dqs M H bV (bs.map encB)
  w : ∃ wV, H lw = some (.lst wV) ∧ Dqs M H wV ((wordsOf n bs).map encW)
  bo : boxOk n 0 bs
  ln : Lens 200 (wordsOf n bs)
  li : Lin n bs
section
variable {c : Ct} {M N : List Addr} {sp lb lw : Addr} {n : Nat} {H H' : Hp} {bs : List (Nat × Nat)}
theorem JS.sm (x : JS M sp lb lw n H bs) (s : Sm c N H H') (hN : ∀ z ∈ N, z ∈ M) (n1 : lb ∉ N) (n2 : lw ∉ N) (h : Spr H' sp) : JS M sp lb lw n H' bs := by
  obtain ⟨bV, hb, db⟩ := x.b
  obtain ⟨wV, hw, dw⟩ := x.w
  exact ⟨h, ⟨bV, s.ex lb _ n1 hb nofun, db.sm (s.sub hN)⟩, ⟨wV, s.ex lw _ n2 hw nofun, dw.sm (s.sub hN)⟩, x.bo, x.ln, x.li⟩
theorem JS.on (k : JC M sp lb lw) (x : JS M sp lb lw n H bs) (s : Sm c [sp] H H') (h : Spr H' sp) : JS M sp lb lw n H' bs :=
  x.sm s (fun z hz => by rw [List.mem_singleton.mp hz]; exact k.ms) (fun z => k.bs (List.mem_singleton.mp z)) (fun z => k.ws (List.mem_singleton.mp z)) h
theorem JS.quiet (x : JS M sp lb lw n H bs) (s : Sm c [] H H') : JS M sp lb lw n H' bs :=
  x.sm s (fun z hz => nomatch hz) (fun z => nomatch z) (fun z => nomatch z) (x.spr.sm s fun z => nomatch z)
theorem JC.sub2 (k : JC M sp lb lw) : ∀ z ∈ [lb, lw], z ∈ M := fun z hz => by
  rcases List.mem_cons.mp hz with h | h
  · rw [h]; exact k.mb
  · rw [List.mem_singleton.mp h]; exact k.mw
theorem JC.sub3 (k : JC M sp lb lw) : ∀ z ∈ [lb, lw, sp], z ∈ M := fun z hz => by
  rcases List.mem_cons.mp hz with h | h
  · rw [h]; exact k.mb
  rcases List.mem_cons.mp h with h | h
  · rw [h]; exact k.mw
  · rw [List.mem_singleton.mp h]; exact k.ms
theorem sub_23 {z : Addr} (h : z ∈ [lb, lw]) : z ∈ [lb, lw, sp] := by
  rcases List.mem_cons.mp h with h | h
  · rw [h]; simp
  · rw [List.mem_singleton.mp h]; simp
theorem sub_s3 {z : Addr} (h : z ∈ [sp]) : z ∈ [lb, lw, sp] := by
  rw [List.mem_singleton.mp h]; simp
theorem JS.len (x : JS M sp lb lw n H bs) {wV : List V} (dw : Dqs M H wV ((wordsOf n bs).map encW)) : wV.length = n + bs.length := by
  have := dw.length
  rw [List.length_map, wordsOf_len] at this
  exact this
theorem JS.joined {i j : Nat} {w1 w2 : List Nat} {bV wV : List V} (k : JC M sp lb lw) (x : JS M sp lb lw n H bs) (s : Sm c [lb, lw] H H')
    (hb : H' lb = some (.lst bV)) (hw : H' lw = some (.lst wV)) (db : Dqs M H' bV (bs.map encB ++ [encB (i, j)])) (dw : Dqs M H' wV ((wordsOf n bs ++ [w1 ++ w2]).map encW))
    (e1 : (wordsOf n bs)[i]? = some w1) (e2 : (wordsOf n bs)[j]? = some w2) (l1 : 1 ≤ w1.length) (l3 : w1.length + w2.length ≤ 200) (dj : ∀ b, occ n bs b i + occ n bs b j ≤ 1) : JS M sp lb lw n H' (bs ++ [(i, j)]) ∧ (wordsOf n (bs ++ [(i, j)]))[n + bs.length]? = some (w1 ++ w2) := by
  have i1 : i < n + bs.length := by
    rw [← wordsOf_len]
    exact (List.getElem?_eq_some_iff.mp e1).1
  have i2 : j < n + bs.length := by
    rw [← wordsOf_len]
    exact (List.getElem?_eq_some_iff.mp e2).1
  have ew : wordsOf n (bs ++ [(i, j)]) = wordsOf n bs ++ [w1 ++ w2] := by
    rw [wordsOf_snoc]
    show wordsOf n bs ++ [(wordsOf n bs).getD i [] ++ (wordsOf n bs).getD j []] = _
    rw [getD_of e1, getD_of e2]
  refine ⟨⟨x.spr.sm s fun z => ?_, ⟨bV, hb, ?_⟩, ⟨wV, hw, ?_⟩, boxOk_snoc x.bo (by simpa using i1) (by simpa using i2), by rw [ew]; exact x.ln.snoc (by rw [List.length_append]; omega) (by rw [List.length_append]; exact l3), x.li.snoc dj⟩, ?_⟩
  · rcases List.mem_cons.mp z with h | h
    · exact k.bs h.symm
    · exact k.ws (List.mem_singleton.mp h).symm
  · rw [List.map_append]
    exact db
  · rw [ew]
    exact dw
  · rw [ew, ← wordsOf_len, List.getElem?_append_right (Nat.le_refl _), Nat.sub_self]
    rfl
end
/-- kinds -/
def ToneV (v : V) : Prop := (∃ m : Nat, v = .int (m : Int) ∧ 2 ≤ m ∧ m ≤ 8) ∨ v = .str "any" ∨ v = .str "even" ∨ v = .str "first" ∨ v = .str "last" ∨ v = .str "sets" ∨ v = .str "ends"
theorem ToneV.scal {v : V} (h : ToneV v) (x : Str) : scal v (.str x) = true := by
  rcases h with ⟨m, rfl, _⟩ | rfl | rfl | rfl | rfl | rfl | rfl <;> rfl
theorem ToneV.flat {v : V} (h : ToneV v) : flatV v = true := by
  rcases h with ⟨m, rfl, _⟩ | rfl | rfl | rfl | rfl | rfl | rfl <;> rfl
theorem ToneV.num {v : V} (h : ToneV v) (h1 : ¬ decide (v = .str "any") = true) (h2 : ¬ decide (v = .str "even") = true) (h3 : ¬ decide (v = .str "first") = true) (h4 : ¬ decide (v = .str "last") = true) (h5 : ¬ decide (v = .str "sets") = true)
    (h6 : ¬ decide (v = .str "ends") = true) : ∃ m : Nat, v = .int (m : Int) ∧ m ≤ 8 := by
  rcases h with ⟨m, e, _, hm⟩ | h | h | h | h | h | h
  · exact ⟨m, e, hm⟩
  · exact absurd (decide_eq_true h) h1
  · exact absurd (decide_eq_true h) h2
  · exact absurd (decide_eq_true h) h3
  · exact absurd (decide_eq_true h) h4
  · exact absurd (decide_eq_true h) h5
  · exact absurd (decide_eq_true h) h6
theorem cutV_take (xs : List V) (k : Nat) : cutV xs none (some (k : Int)) = xs.take k := by
  unfold cutV
  rw [HT.sIx_none, HT.sIx_nat, List.drop_zero, Nat.sub_zero]
  by_cases h : k ≤ xs.length
  · rw [Nat.min_eq_left h]
  · rw [Nat.min_eq_right (by omega), List.take_of_length_le (by omega), List.take_of_length_le (by omega)]
theorem cutV_drop (xs : List V) (k : Nat) : cutV xs (some (k : Int)) none = xs.drop k := by
  unfold cutV
  rw [HT.sIx_none, HT.sIx_nat]
  by_cases h : k ≤ xs.length
  · rw [Nat.min_eq_left h, List.take_of_length_le (by rw [List.length_drop]; omega)]
  · rw [Nat.min_eq_right (by omega), Nat.sub_self, List.take_zero, List.drop_eq_nil_of_le (by omega)]
/-! ### wishes -/
def runsOf (n : Nat) : List (Nat × Nat) := (List.range n).map fun k => (0, k)
structure PlanOk (n : Nat) (ws : List (Nat × Nat)) : Prop where
  n1 : 1 ≤ n
  n2 : n ≤ 12
  w : ∀ b ∈ ws, b.1 ≤ b.2 ∧ b.2 < n
  l1 : 1 ≤ ws.length
  l2 : ws.length ≤ 12
  sm : ws = runsOf n ∨ (n ≤ 6 ∧ ws.length ≤ 4)
theorem plan_runs {n : Nat} (h1 : 1 ≤ n) (h2 : n ≤ 12) : PlanOk n (runsOf n) :=
  ⟨h1, h2, fun b hb => by
    obtain ⟨k, hk, rfl⟩ := List.mem_map.mp hb
    exact ⟨Nat.zero_le _, List.mem_range.mp hk⟩, by simp [runsOf]; omega, by simp [runsOf]; omega, Or.inl rfl⟩
theorem canLay_encB : ∀ ws : List (Nat × Nat), PyData.canLayAll0 (ws.map encB) = true
  | [] => rfl
  | b :: r => by
    show (PyData.canLay0 (encB b) && PyData.canLayAll0 (r.map encB)) = true
    rw [canLay_encB r]
    rfl
theorem depth_encB : ∀ ws : List (Nat × Nat), PyData.depthAll (ws.map encB) ≤ 1
  | [] => Nat.zero_le _
  | b :: r => by
    show max (PyData.depth (encB b)) (PyData.depthAll (r.map encB)) ≤ 1
    have := depth_encB r
    have e : PyData.depth (encB b) = 1 := by
      simp only [encB, nI, PyData.depth, PyData.depthAll]
      rfl
    omega
theorem dict_encB : ∀ ws : List (Nat × Nat), PyData.hasDictAll (ws.map encB) = false
  | [] => rfl
  | b :: r => by
    show (PyData.hasDict (encB b) || PyData.hasDictAll (r.map encB)) = false
    rw [dict_encB r]
    rfl
theorem shaped_encB (ws : List (Nat × Nat)) : SeqAt.shaped (.list (ws.map encB)) = true := by
  have h1 : PyData.canLay0 (.list (ws.map encB)) = true := by
    simp only [PyData.canLay0]
    exact canLay_encB ws
  have h2 : PyData.depth (.list (ws.map encB)) ≤ 64 := by
    simp only [PyData.depth]
    have := depth_encB ws
    omega
  unfold SeqAt.shaped
  rw [h1, decide_eq_true h2]
  rfl
theorem nI_eqv (a b : Nat) : PyData.eqv (nI a) (nI b) = decide (a = b) := by
  show ((a : Int) == (b : Int)) = decide (a = b)
  by_cases h : a = b
  · subst h
    simp
  · rw [decide_eq_false h]
    exact beq_eq_false_iff_ne.mpr (fun z => h (by omega))
theorem encB_eqv (a b : Nat × Nat) : PyData.eqv (encB a) (encB b) = decide (a = b) := by
  show (PyData.eqv (nI a.1) (nI b.1) && (PyData.eqv (nI a.2) (nI b.2) && true)) = _
  rw [nI_eqv, nI_eqv, Bool.and_true]
  obtain ⟨a1, a2⟩ := a
  obtain ⟨b1, b2⟩ := b
  by_cases h : a1 = b1
  · by_cases h2 : a2 = b2
    · subst h; subst h2; simp
    · rw [decide_eq_false h2, Bool.and_false, decide_eq_false fun z => h2 (Prod.mk.inj z).2]
  · rw [decide_eq_false h, Bool.false_and, decide_eq_false fun z => h (Prod.mk.inj z).1]
theorem encBs_eqv : ∀ ws vs : List (Nat × Nat), PyData.eqvAll (ws.map encB) (vs.map encB) = decide (ws = vs)
  | [], [] => rfl
  | [], _ :: _ => rfl
  | _ :: _, [] => rfl
  | a :: r, b :: t => by
    show (PyData.eqv (encB a) (encB b) && PyData.eqvAll (r.map encB) (t.map encB)) = _
    rw [encB_eqv, encBs_eqv r t]
    by_cases h : a = b
    · by_cases h2 : r = t
      · subst h; subst h2; simp
      · rw [decide_eq_false h2, Bool.and_false, decide_eq_false fun z => h2 (List.cons.inj z).2]
    · rw [decide_eq_false h, Bool.false_and, decide_eq_false fun z => h (List.cons.inj z).1]
theorem listB_eqv (ws vs : List (Nat × Nat)) : PyData.eqv (.list (ws.map encB)) (.list (vs.map encB)) = decide (ws = vs) := encBs_eqv ws vs
theorem boxOk_set {n : Nat} {b : Nat × Nat} : ∀ {bs : List (Nat × Nat)} {t i : Nat}, boxOk n t bs → b.1 < n + t + i → b.2 < n + t + i → boxOk n t (bs.set i b)
  | [], _, _, h, _, _ => h
  | a :: r, t, 0, ⟨_, _, h3⟩, k1, k2 => ⟨by simpa using k1, by simpa using k2, h3⟩
  | a :: r, t, i + 1, ⟨h1, h2, h3⟩, k1, k2 => ⟨h1, h2, boxOk_set (i := i) h3 (by omega) (by omega)⟩
theorem Dqs.set {M : List Addr} {H : Hp} {v : V} {d : PyData} (x : Dq M H v d) : ∀ {vs : List V} {ds : List PyData} (i : Nat), Dqs M H vs ds → Dqs M H (vs.set i v) (ds.set i d)
  | _, _, _, .nil => .nil
  | _, _, 0, .cons _ r => .cons x r
  | _, _, i + 1, .cons a r => .cons a (Dqs.set x i r)
theorem encB_set {bs : List (Nat × Nat)} {i : Nat} {b : Nat × Nat} : (bs.set i b).map encB = (bs.map encB).set i (encB b) := List.map_set
end My
namespace My
open PySem PySem.Spec PyProof.Rows L2
/-- the boxes that came in between -/
def newI (a c b : Nat) : Nat := if a ≤ b ∧ b < c then 1 else 0
theorem app1_len {bs : List (Nat × Nat)} {x : Nat × Nat} : (bs ++ [x]).length = bs.length + 1 := by simp
theorem occ_stepL {n i j k : Nat} {bs : List (Nat × Nat)} (hk : k < n) (hj : j < n + bs.length) (b : Nat) :
    occ n (bs ++ [(i, k)]) b (n + bs.length) + occ n (bs ++ [(i, k)]) b j ≤ occ n bs b i + occ n bs b j + newI bs.length (bs ++ [(i, k)]).length b := by
  rw [occ_new, occ_low hk, occ_more _ hj, app1_len]
  unfold newI
  split <;> split <;> omega
theorem occ_stepR {n i j k : Nat} {bs : List (Nat × Nat)} (hk : k < n) (hi : i < n + bs.length) (b : Nat) :
    occ n (bs ++ [(k, j)]) b i + occ n (bs ++ [(k, j)]) b (n + bs.length) ≤ occ n bs b i + occ n bs b j + newI bs.length (bs ++ [(k, j)]).length b := by
  rw [occ_new, occ_low hk, occ_more _ hi, app1_len]
  unfold newI
  split <;> split <;> omega
theorem Lin.one {n b i : Nat} {bs : List (Nat × Nat)} (h : Lin n bs) : occ n bs b i ≤ 1 := by
  have := h b i
  split at this <;> omega
theorem Lin.zero {n b i : Nat} {bs : List (Nat × Nat)} (h : Lin n bs) (hb : bs.length ≤ b) : occ n bs b i = 0 := by
  have := h b i
  rw [if_neg (by omega)] at this
  omega
/-- two that were apart, some boxes later -/
theorem apart {n i j x : Nat} {bs : List (Nat × Nat)} {c : Nat} (h : Lin n bs) (d : ∀ b, occ n bs b i + occ n bs b j ≤ 1) {o : Nat → Nat} (ho : ∀ b, o b ≤ occ n bs b i + occ n bs b j + newI bs.length c b) (b : Nat) : o b ≤ 1 := by
  have h1 := ho b
  have h2 := d b
  unfold newI at h1
  split at h1
  · rename_i hb
    have a1 := h.zero (i := i) hb.1
    have a2 := h.zero (i := j) hb.1
    omega
  · omega
theorem newI_grow {a c b : Nat} (h : a ≤ c) : newI a c b + (if c = b then 1 else 0) ≤ newI a (c + 1) b := by
  unfold newI
  split <;> split <;> split <;> omega
theorem newI_mono {a c d b : Nat} (h : c ≤ d) : newI a c b ≤ newI a d b := by
  unfold newI
  split <;> split <;> omega
theorem newI_trans {a c d b : Nat} (h1 : a ≤ c) (h2 : c ≤ d) : newI a c b + newI c d b ≤ newI a d b := by
  unfold newI
  split <;> split <;> split <;> omega
end My

/-! stretches -/
namespace My
open PySem PySem.Spec PyProof.Rows L2
def upN (i l : Nat) : List Nat := (List.range l).map fun t => i + t
theorem upN_len (i l : Nat) : (upN i l).length = l := by simp [upN]
theorem upN_get {i l t : Nat} (h : t < l) : (upN i l)[t]? = some (i + t) := by simp [upN, h]
theorem upN_app (i l m : Nat) : upN i (l + m) = upN i l ++ upN (i + l) m := by
  refine List.ext_getElem? fun t => ?_
  by_cases h : t < l
  · rw [upN_get (by omega), List.getElem?_append_left (by rw [upN_len]; exact h), upN_get h]
  · rw [List.getElem?_append_right (by rw [upN_len]; omega), upN_len]
    by_cases h2 : t < l + m
    · rw [upN_get h2, upN_get (by omega)]
      congr 1
      omega
    · rw [List.getElem?_eq_none (by rw [upN_len]; omega), List.getElem?_eq_none (by rw [upN_len]; omega)]
def isStr (w : List Nat) : Prop := w = upN (w.headD 0) w.length
instance (w : List Nat) : Decidable (isStr w) := inferInstanceAs (Decidable (w = upN (w.headD 0) w.length))
def stOf (w : List Nat) : Option (Nat × Nat) := if isStr w then some (w.headD 0, w.headD 0 + w.length - 1) else none
def encS : Option (Nat × Nat) → PyData
  | none => .none
  | some p => encB p
def joinS : Option (Nat × Nat) → Option (Nat × Nat) → Option (Nat × Nat)
  | some p, some q => if p.2 + 1 = q.1 then some (p.1, q.2) else none
  | _, _ => none
theorem head_upN {i l : Nat} (h : 1 ≤ l) : (upN i l).headD 0 = i := by
  have := upN_get (i := i) (l := l) (t := 0) (by omega)
  rw [List.headD_eq_head?_getD, List.head?_eq_getElem?, this]
  simp
theorem isStr_of {w : List Nat} {i l : Nat} (hl : 1 ≤ l) (h : w = upN i l) : isStr w := by
  unfold isStr
  rw [h, head_upN hl, upN_len]
theorem str_join {a b : List Nat} (ha : a ≠ []) (hb : b ≠ []) : stOf (a ++ b) = joinS (stOf a) (stOf b) := by
  have la : 1 ≤ a.length := List.length_pos_iff.mpr ha
  have lb : 1 ≤ b.length := List.length_pos_iff.mpr hb
  have split : isStr (a ++ b) → a = upN ((a ++ b).headD 0) a.length ∧ b = upN ((a ++ b).headD 0 + a.length) b.length := fun h => by
    unfold isStr at h
    rw [List.length_append, upN_app] at h
    exact List.append_inj h (by rw [upN_len])
  by_cases hA : isStr a
  · by_cases hB : isStr b
    · have eA : stOf a = some (a.headD 0, a.headD 0 + a.length - 1) := if_pos hA
      have eB : stOf b = some (b.headD 0, b.headD 0 + b.length - 1) := if_pos hB
      rw [eA, eB]
      show _ = if a.headD 0 + a.length - 1 + 1 = b.headD 0 then some (a.headD 0, b.headD 0 + b.length - 1) else none
      by_cases h : a.headD 0 + a.length - 1 + 1 = b.headD 0
      · rw [if_pos h]
        have e : a ++ b = upN (a.headD 0) (a.length + b.length) := by
          rw [upN_app, ← hA, show a.headD 0 + a.length = b.headD 0 by omega, ← hB]
        have hs := isStr_of (by omega) e
        have hh : (a ++ b).headD 0 = a.headD 0 := by rw [e, head_upN (by omega)]
        unfold stOf
        rw [if_pos hs, hh, List.length_append]
        congr 2
        omega
      · rw [if_neg h]
        refine if_neg fun z => h ?_
        obtain ⟨z1, z2⟩ := split z
        have h1 : a.headD 0 = (a ++ b).headD 0 := (congrArg (fun l : List Nat => l.headD 0) z1).trans (head_upN la)
        have h2 : b.headD 0 = (a ++ b).headD 0 + a.length := (congrArg (fun l : List Nat => l.headD 0) z2).trans (head_upN lb)
        omega
    · have eB : stOf b = none := if_neg hB
      rw [eB]
      have : joinS (stOf a) none = none := by cases stOf a <;> rfl
      rw [this]
      exact if_neg fun z => hB (isStr_of lb (split z).2)
  · have eA : stOf a = none := if_neg hA
    rw [eA]
    have : joinS none (stOf b) = none := rfl
    rw [this]
    exact if_neg fun z => hA (isStr_of la (split z).1)
theorem str_place (k : Nat) : stOf [k] = some (k, k) := by
  have : isStr [k] := by
    show [k] = [k + 0]
    rfl
  unfold stOf
  rw [if_pos this]
  rfl
def strD (x y : PyData) : PyData := match x, y with
  | .tuple [.int a, .int b], .tuple [.int c, .int d] => if b + 1 = c then .tuple [.int a, .int d] else .none
  | _, _ => .none
theorem strD_enc (s t : Option (Nat × Nat)) : strD (encS s) (encS t) = encS (joinS s t) := by
  cases s with
  | none => rfl
  | some p => cases t with
    | none => rfl
    | some q =>
      show (if ((p.2 : Nat) : Int) + 1 = ((q.1 : Nat) : Int) then PyData.tuple [.int (p.1 : Int), .int (q.2 : Int)] else .none) = encS (if p.2 + 1 = q.1 then some (p.1, q.2) else none)
      by_cases h : p.2 + 1 = q.1
      · rw [if_pos h, if_pos (by omega)]
        rfl
      · rw [if_neg h, if_neg (by omega)]
        rfl
def strsD (n : Nat) (bs : List (Nat × Nat)) : List PyData := runD strD ((List.range n).map fun k => .tuple [nI k, nI k]) bs
theorem wordsOf_run (n : Nat) (bs : List (Nat × Nat)) : wordsOf n bs = runA (fun a b => a ++ b) [] ((List.range n).map fun k => [k]) bs := rfl
theorem strs_words {n : Nat} {bs : List (Nat × Nat)} (hb : boxOk n 0 bs) : strsD n bs = (wordsOf n bs).map fun w => encS (stOf w) := by
  have e : ((List.range n).map fun k => PyData.tuple [nI k, nI k]) = ((List.range n).map fun k => [k]).map fun w => encS (stOf w) := by
    rw [List.map_map]
    refine List.map_congr_left fun k _ => ?_
    show _ = encS (stOf [k])
    rw [str_place]
    rfl
  unfold strsD
  rw [e, runD_eq, wordsOf_run]
  refine runA_map (P := fun w : List Nat => w ≠ []) (n := n) (fun a b ha _ h => ha (List.append_eq_nil_iff.mp h).1) (fun a b ha hb => ?_) bs _ (fun w hw => ?_) (by simpa using hb) (by simp)
  · show strD (encS (stOf a)) (encS (stOf b)) = encS (stOf (a ++ b))
    rw [strD_enc, str_join ha hb]
  · obtain ⟨k, _, rfl⟩ := List.mem_map.mp hw
    nofun
theorem word_ne {n : Nat} {bs : List (Nat × Nat)} (hb : boxOk n 0 bs) : ∀ w ∈ wordsOf n bs, w ≠ [] := by
  rw [wordsOf_run]
  refine runA_all (P := fun w : List Nat => w ≠ []) (n := n) (fun a b ha _ h => ha (List.append_eq_nil_iff.mp h).1) bs _ (fun w hw => ?_) (by simpa using hb) (by simp)
  obtain ⟨k, _, rfl⟩ := List.mem_map.mp hw
  nofun
theorem str_short {n : Nat} {w : List Nat} (he : ∀ k ∈ w, k < n) (hw : w ≠ []) (hs : isStr w) : w.length ≤ n := by
  have l : 1 ≤ w.length := List.length_pos_iff.mpr hw
  have g : (upN (w.headD 0) w.length)[w.length - 1]? = some (w.headD 0 + (w.length - 1)) := upN_get (by omega)
  have hs' : w = upN (w.headD 0) w.length := hs
  rw [← hs'] at g
  have := he _ (List.mem_of_getElem? g)
  omega
theorem nIs_eqv : ∀ a b : List Nat, PyData.eqvAll (a.map nI) (b.map nI) = decide (a = b)
  | [], [] => rfl
  | [], _ :: _ => rfl
  | _ :: _, [] => rfl
  | x :: a, y :: b => by
    show (PyData.eqv (nI x) (nI y) && PyData.eqvAll (a.map nI) (b.map nI)) = _
    rw [nI_eqv, nIs_eqv a b]
    by_cases h : x = y
    · by_cases h2 : a = b
      · subst h; subst h2; simp
      · rw [decide_eq_false h2, Bool.and_false, decide_eq_false fun z => h2 (List.cons.inj z).2]
    · rw [decide_eq_false h, Bool.false_and, decide_eq_false fun z => h (List.cons.inj z).1]
theorem encW_eqv (a b : List Nat) : PyData.eqv (encW a) (encW b) = decide (a = b) := nIs_eqv a b
theorem shaped_encW (a : List Nat) : SeqAt.shaped (encW a) = true := by
  have h1 : PyData.canLay0 (encW a) = true := by
    simp only [encW, PyData.canLay0]
    exact canLay_nI a
  have h2 : PyData.depth (encW a) = 1 := by
    simp only [encW, PyData.depth]
    rw [depth_nI]
  unfold SeqAt.shaped
  rw [h1, h2]
  rfl
theorem dict_encW (a : List Nat) : PyData.hasDict (encW a) = false := by
  simp only [encW, PyData.hasDict]
  exact dict_nI a
/-- what a wire's word begins with -/
def encH (w : List Nat) : PyData := .tuple [nI w.length, encW (w.take 13)]
theorem take_app (a b : List Nat) (k : Nat) : (a.take k ++ b.take k).take k = (a ++ b).take k := by
  rw [List.take_append, List.take_append, List.take_take, Nat.min_self, List.length_take]
  by_cases h : k ≤ a.length
  · rw [Nat.min_eq_left h, Nat.sub_self, List.take_zero, show k - a.length = 0 by omega, List.take_zero]
  · rw [Nat.min_eq_right (by omega), List.take_take, Nat.min_eq_left (by omega)]
theorem encS_facts (s : Option (Nat × Nat)) (h : ∀ p, s = some p → p.1 < 2 ^ 64 ∧ p.2 < 2 ^ 64) : PyData.showable (encS s) = true ∧ PyData.hasDict (encS s) = false ∧ PyData.depth (encS s) ≤ 1 ∧ cost (encS s) ≤ 200 := by
  cases s with
  | none => exact ⟨rfl, rfl, Nat.zero_le _, by show cost PyData.none ≤ 200; simp only [cost]; decide⟩
  | some p =>
    obtain ⟨a, b, c, d⟩ := encW_facts (L := 2) (w := [p.1, p.2]) (Nat.le_refl _) (fun k hk => by
      rcases List.mem_cons.mp hk with z | z
      · rw [z]; exact (h p rfl).1
      · rw [List.mem_singleton.mp z]; exact (h p rfl).2)
    exact ⟨a, b, Nat.le_of_eq c, Nat.le_trans d (by decide)⟩
theorem encSs_facts : ∀ {ss : List (Option (Nat × Nat))}, (∀ s ∈ ss, ∀ p, s = some p → p.1 < 2 ^ 64 ∧ p.2 < 2 ^ 64) → PyData.showableAll (ss.map encS) = true ∧ PyData.hasDictAll (ss.map encS) = false ∧ PyData.depthAll (ss.map encS) ≤ 1 ∧ costs (ss.map encS) ≤ 202 * ss.length
  | [], _ => ⟨rfl, rfl, Nat.zero_le _, Nat.le_refl _⟩
  | w :: r, h1 => by
    obtain ⟨a, b, c, d⟩ := encSs_facts (ss := r) fun x hx => h1 x (List.mem_cons_of_mem _ hx)
    obtain ⟨a', b', c', d'⟩ := encS_facts w (h1 w List.mem_cons_self)
    refine ⟨?_, ?_, ?_, ?_⟩
    · show (PyData.showable (encS w) && PyData.showableAll (r.map encS)) = true
      rw [a, a']; rfl
    · show (PyData.hasDict (encS w) || PyData.hasDictAll (r.map encS)) = false
      rw [b, b']; rfl
    · show max (PyData.depth (encS w)) (PyData.depthAll (r.map encS)) ≤ 1
      omega
    · show cost (encS w) + 2 + costs (r.map encS) ≤ 202 * (r.length + 1)
      omega
theorem shows_encS (s : Option (Nat × Nat)) (h : ∀ p, s = some p → p.1 < 2 ^ 64 ∧ p.2 < 2 ^ 64) : Shows (encS s) := by
  obtain ⟨a, b, c, d⟩ := encS_facts s h
  exact ⟨a, b, by omega, Nat.le_trans d (by decide)⟩
theorem shows_encSs {ss : List (Option (Nat × Nat))} (hn : ss.length ≤ 1000) (h : ∀ s ∈ ss, ∀ p, s = some p → p.1 < 2 ^ 64 ∧ p.2 < 2 ^ 64) : Shows (.list (ss.map encS)) := by
  obtain ⟨a, b, c, d⟩ := encSs_facts h
  refine ⟨?_, ?_, ?_, ?_⟩
  · simp only [PyData.showable]; exact a
  · simp only [PyData.hasDict]; exact b
  · simp only [PyData.depth]; omega
  · simp only [cost]
    have : 202 * ss.length ≤ 202 * 1000 := Nat.mul_le_mul_left _ hn
    exact Nat.le_trans (show costs (ss.map encS) + 2 ≤ 202 * 1000 + 2 by omega) (by decide)
theorem str_small {n : Nat} {w : List Nat} (he : ∀ k ∈ w, k < n) (hn : n ≤ 12) (hw : w ≠ []) : ∀ p, stOf w = some p → p.1 < 2 ^ 64 ∧ p.2 < 2 ^ 64 := fun p hp => by
  unfold stOf at hp
  split at hp
  · rename_i hs
    cases hp
    have l := str_short he hw hs
    have l1 : 1 ≤ w.length := List.length_pos_iff.mpr hw
    have g : w[0]? = some (w.headD 0) := by
      rw [List.headD_eq_head?_getD, List.head?_eq_getElem?, List.getElem?_eq_getElem (show 0 < w.length by omega)]
      rfl
    have := he _ (List.mem_of_getElem? g)
    have e64 : (2 : Nat) ^ 64 = 18446744073709551616 := by decide
    constructor
    · show w.headD 0 < 2 ^ 64
      omega
    · show w.headD 0 + w.length - 1 < 2 ^ 64
      omega
  · cases hp
end My

/-! what an expression's data are; isinstance, str, ranges as values -/
namespace My
open PySem PySem.Spec PyProof.Rows L2
section
variable {X : Cx} {K : PySem.W.Frag} {k : Nat}
theorem call_isiK (h : X.K = K := by rfl) : CallR X (.builtin "isinstance") (rIsi K) := h ▸ call_isi
theorem op_notin_rng : OpR X (compareOp .NotIn) (fun x y H Q => ∃ i a lo hi, x = V.int i ∧ y = V.ref a ∧ H a = some (.rng lo hi) ∧ Q (.bl (!decide (lo ≤ i ∧ i < hi))) H) := by
  intro pins s σ H x y v u Q I rx ry h
  obtain ⟨i, a, lo, hi, rfl, rfl, ha, q⟩ := h
  obtain ⟨k, rfl⟩ := rx
  obtain rfl : u = Value.ref a := ry
  obtain ⟨t1, t2, t3, ho⟩ := I.hok a _ ha
  show wpAny _ _ (do return Value.bool (!(← contains (Value.ref a) (Value.int i k)))) _ _ s
  refine wpAny_bind (wpAny_contains_slot (T := "range") ⟨_, ho, rfl⟩ F.slot_range_contains (call_meets F.slot_range_contains ⟨_, ho, rfl⟩ F.entry_range_contains (F.args_range_contains_2 _ _) (q_contains a lo hi i t1 t2 t3 k)
    ⟨ho, wpAny_truthy_bool (wpAny_pure ⟨.bl _, H, I, rfl, ?_⟩)⟩))
  rw [place1]
  exact q
/-- str(x): of an int or of a list or tuple -/
def rStrD (K : PySem.W.Frag) : List V → Hp → VK → Prop := fun xs H Q =>
  (∃ i, xs = [.int i] ∧ i.natAbs.log2 < 1920 ∧ Q (.str (toString i)) H) ∨ ∃ a d, xs = [.ref a] ∧ Dp K H (.ref a) d ∧ Shows d ∧ Q (.str d.shown) H
theorem call_strD (hr : Rm k X.A) : CallR X (.type "str") (rStrD X.K) := by
  refine CallR.or call_str_int ?_
  intro pins s σ H xs us Q I r h
  obtain ⟨a, d, rfl, hd, S, q⟩ := h
  obtain ⟨u, rfl, ru⟩ := vals1 r
  have hz : d.shown.length ≤ sizeLine := Nat.le_trans (shown_le d S.n) S.z
  have hu := hr.r.units
  obtain ⟨as, rd⟩ := Dp.reads I d _ u hd ru
  obtain rfl : u = Value.ref a := ru
  have := S.dp
  refine str_of_reads rd S.s (PyData.noDict_hsm S.n) hr.g (by omega) (fun _ _ e => e) (fun h' t tk kp => ?_) hz
  exact ⟨.str d.shown, H, I.kept (h' := h') (t' := tk) kp, ⟨t, rfl⟩, q⟩
theorem call_strK (hr : Rm k X.A) (h : X.K = K := by rfl) : CallR X (.type "str") (rStrD K) := h ▸ call_strD hr
end
theorem Dq.tyx {M : List Addr} {H : Hp} {K : PySem.W.Frag} {v : V} {d : PyData} (x : Dq M H v d) : TyX K H v (.type (tyName d)) := by
  cases x with
  | non => exact .base .non
  | bl b => exact .base (.bl b)
  | int i => exact .base (.int i)
  | str z => exact .base (.str z)
  | lst _ e _ => exact .base (.lst e)
  | tup _ e _ => exact .base (.tup e)
  | dct _ e => exact .base (.dK e)
def isTupD : PyData → Bool | .tuple _ => true | _ => false
def isIntD : PyData → Bool | .int _ => true | .bool _ => true | _ => false
def isBoolD : PyData → Bool | .bool _ => true | _ => false
def isStrD : PyData → Bool | .str _ => true | _ => false
theorem kit_tup (d : PyData) : kitB (tyName d) "tuple" = some (isTupD d) := by
  cases d with
  | none => exact (by decide +kernel : kitB "NoneType" "tuple" = some false)
  | bool _ => exact (by decide +kernel : kitB "bool" "tuple" = some false)
  | int _ => exact (by decide +kernel : kitB "int" "tuple" = some false)
  | str _ => exact (by decide +kernel : kitB "str" "tuple" = some false)
  | list _ => exact (by decide +kernel : kitB "list" "tuple" = some false)
  | tuple _ => exact (by decide +kernel : kitB "tuple" "tuple" = some true)
  | dict _ => exact (by decide +kernel : kitB "dict" "tuple" = some false)
theorem kit_int (d : PyData) : kitB (tyName d) "int" = some (isIntD d) := by
  cases d with
  | none => exact (by decide +kernel : kitB "NoneType" "int" = some false)
  | bool _ => exact (by decide +kernel : kitB "bool" "int" = some true)
  | int _ => exact (by decide +kernel : kitB "int" "int" = some true)
  | str _ => exact (by decide +kernel : kitB "str" "int" = some false)
  | list _ => exact (by decide +kernel : kitB "list" "int" = some false)
  | tuple _ => exact (by decide +kernel : kitB "tuple" "int" = some false)
  | dict _ => exact (by decide +kernel : kitB "dict" "int" = some false)
theorem kit_bool (d : PyData) : kitB (tyName d) "bool" = some (isBoolD d) := by
  cases d with
  | none => exact (by decide +kernel : kitB "NoneType" "bool" = some false)
  | bool _ => exact (by decide +kernel : kitB "bool" "bool" = some true)
  | int _ => exact (by decide +kernel : kitB "int" "bool" = some false)
  | str _ => exact (by decide +kernel : kitB "str" "bool" = some false)
  | list _ => exact (by decide +kernel : kitB "list" "bool" = some false)
  | tuple _ => exact (by decide +kernel : kitB "tuple" "bool" = some false)
  | dict _ => exact (by decide +kernel : kitB "dict" "bool" = some false)
theorem kit_str (d : PyData) : kitB (tyName d) "str" = some (isStrD d) := by
  cases d with
  | none => exact (by decide +kernel : kitB "NoneType" "str" = some false)
  | bool _ => exact (by decide +kernel : kitB "bool" "str" = some false)
  | int _ => exact (by decide +kernel : kitB "int" "str" = some false)
  | str _ => exact (by decide +kernel : kitB "str" "str" = some true)
  | list _ => exact (by decide +kernel : kitB "list" "str" = some false)
  | tuple _ => exact (by decide +kernel : kitB "tuple" "str" = some false)
  | dict _ => exact (by decide +kernel : kitB "dict" "str" = some false)
theorem isiD {M : List Addr} {H : Hp} {K : PySem.W.Frag} {v : V} {d : PyData} {n : String} {b : Bool} {Q : VK} (x : Dq M H v d) (k : kitB (tyName d) n = some b) (q : Q (.bl b) H) : rIsi K [v, .ty n] H Q :=
  ⟨v, .ty n, _, _, b, rfl, .ty n, x.tyx, kit_ty k, q⟩
/-! ### an expression that comes to data -/
/-- data without dicts, not deep -/
def Sml (n : Nat) (d : PyData) : Prop := d.canLay0 = true ∧ d.depth ≤ n
theorem sml_all {n : Nat} : ∀ {ds : List PyData}, (∀ x ∈ ds, Sml n x) → PyData.canLayAll0 ds = true ∧ PyData.depthAll ds ≤ n
  | [], _ => ⟨rfl, Nat.zero_le _⟩
  | d :: r, h => by
    obtain ⟨a, b⟩ := h d List.mem_cons_self
    obtain ⟨a', b'⟩ := sml_all fun x hx => h x (List.mem_cons_of_mem _ hx)
    refine ⟨?_, ?_⟩
    · show (PyData.canLay0 d && PyData.canLayAll0 r) = true
      rw [a, a']
      rfl
    · show max (PyData.depth d) (PyData.depthAll r) ≤ n
      omega
theorem sml_items {n : Nat} : ∀ {ds : List PyData}, PyData.canLayAll0 ds = true → PyData.depthAll ds ≤ n → ∀ x ∈ ds, Sml n x
  | [], _, _, _, z => nomatch z
  | d :: r, a, b, x, hx => by
    have a' : (PyData.canLay0 d && PyData.canLayAll0 r) = true := a
    have b' : max (PyData.depth d) (PyData.depthAll r) ≤ n := b
    rw [Bool.and_eq_true] at a'
    rcases List.mem_cons.mp hx with rfl | hx
    · exact ⟨a'.1, by omega⟩
    · exact sml_items a'.2 (by omega) x hx
theorem sml_tup {n : Nat} {ds : List PyData} (h : ∀ x ∈ ds, Sml n x) : Sml (n + 1) (.tuple ds) := by
  obtain ⟨a, b⟩ := sml_all h
  exact ⟨by simp only [PyData.canLay0]; exact a, by simp only [PyData.depth]; omega⟩
theorem sml_lst {n : Nat} {ds : List PyData} (h : ∀ x ∈ ds, Sml n x) : Sml (n + 1) (.list ds) := by
  obtain ⟨a, b⟩ := sml_all h
  exact ⟨by simp only [PyData.canLay0]; exact a, by simp only [PyData.depth]; omega⟩
theorem sml_out {n : Nat} {ds : List PyData} (h : Sml (n + 1) (.tuple ds)) : ∀ x ∈ ds, Sml n x := by
  obtain ⟨a, b⟩ := h
  simp only [PyData.canLay0] at a
  simp only [PyData.depth] at b
  exact sml_items a (by omega)
theorem Sml.mono {m n : Nat} {d : PyData} (h : Sml m d) (e : m ≤ n) : Sml n d := ⟨h.1, Nat.le_trans h.2 e⟩
theorem sml_int {n : Nat} {i : Int} : Sml n (.int i) := ⟨rfl, Nat.zero_le _⟩
theorem sml_bl {n : Nat} {b : Bool} : Sml n (.bool b) := ⟨rfl, Nat.zero_le _⟩
theorem strOk_of (s : String) : PyData.strOk (Str.ofString s) = true := by
  rw [Str.ofString_eq_toList]
  unfold PyData.strOk
  simp only [List.all_toArray, List.all_map, List.all_eq_true]
  intro c _
  have h := c.valid
  simp only [UInt32.isValidChar, Nat.isValidChar] at h
  refine decide_eq_true ?_
  show c.val.toNat < 0x110000
  omega
theorem sml_str {n : Nat} {x : String} : Sml n (.str (Str.ofString x)) := ⟨strOk_of x, Nat.zero_le _⟩
theorem sml_non {n : Nat} : Sml n .none := ⟨rfl, Nat.zero_le _⟩
section
variable {c : Ct} {M : List Addr} {sp : Addr} {σ : L2.St} {H : Hp} {K : PySem.W.Frag}
def EvA (c : Ct) (M : List Addr) (sp : Addr) (te : TE) (σ : L2.St) (H : Hp) (P : PyData → Prop) : Prop :=
  ∀ H1, Sm c [sp] H H1 → Spr H1 sp → ∀ Q : VK, (∀ v H2 d, Sm c [sp] H1 H2 → Spr H2 sp → Dq M H2 v d → P d → Q v H2) → te σ H1 Q
def EvN (c : Ct) (M : List Addr) (sp : Addr) (k : Nat) (ta : TA) (σ : L2.St) (H : Hp) (Pe : PyData → Prop) : Prop :=
  ∀ H1, Sm c [sp] H H1 → Spr H1 sp → ∀ R : List V → Hp → Prop, (∀ vs H2 ds, Sm c [sp] H1 H2 → Spr H2 sp → Dqs M H2 vs ds → ds.length = k → (∀ d ∈ ds, Pe d) → R vs H2) → ta σ H1 R
def EvO (c : Ct) (sp : Addr) (to : TO) (σ : L2.St) (H : Hp) : Prop :=
  ∀ H1, Sm c [sp] H H1 → Spr H1 sp → ∀ R : Option Int → Hp → Prop, (∀ o H2, Sm c [sp] H1 H2 → Spr H2 sp → R o H2) → to σ H1 R
def PAny : PyData → Prop := fun _ => True
def PInt : PyData → Prop := fun d => ∃ i, d = .int i
def PTup (lo hi : Nat) (Pe : PyData → Prop) : PyData → Prop := fun d => ∃ ds, d = .tuple ds ∧ lo ≤ ds.length ∧ ds.length ≤ hi ∧ ∀ x ∈ ds, Pe x
def PLst (lo hi : Nat) (Pe : PyData → Prop) : PyData → Prop := fun d => ∃ ds, d = .list ds ∧ lo ≤ ds.length ∧ ds.length ≤ hi ∧ ∀ x ∈ ds, Pe x
theorem EvA.mono {te : TE} {P P' : PyData → Prop} (h : EvA c M sp te σ H P) (hP : ∀ d, P d → P' d) : EvA c M sp te σ H P' := fun H1 s1 r1 Q hq =>
  h H1 s1 r1 Q fun v H2 d s2 r2 dv pd => hq v H2 d s2 r2 dv (hP d pd)
theorem EvA.on {te : TE} {P : PyData → Prop} {H' : Hp} (s : Sm c [sp] H H') (h : EvA c M sp te σ H P) : EvA c M sp te σ H' P := fun H1 s1 => h H1 (s.trans s1)
theorem PTup.mono {lo hi : Nat} {Pe Pe2 : PyData → Prop} {d : PyData} (h : PTup lo hi Pe d) (f : ∀ x, Pe x → Pe2 x) : PTup lo hi Pe2 d := by
  obtain ⟨ds, e, a, b, h⟩ := h
  exact ⟨ds, e, a, b, fun x hx => f x (h x hx)⟩
theorem PTup.sml {lo hi n : Nat} {d : PyData} (h : PTup lo hi (Sml n) d) : Sml (n + 1) d := by
  obtain ⟨ds, rfl, _, _, h⟩ := h
  exact sml_tup h
theorem PLst.sml {lo hi n : Nat} {d : PyData} (h : PLst lo hi (Sml n) d) : Sml (n + 1) d := by
  obtain ⟨ds, rfl, _, _, h⟩ := h
  exact sml_lst h
theorem PInt.sml {n : Nat} {d : PyData} (h : PInt d) : Sml n d := by
  obtain ⟨i, rfl⟩ := h
  exact sml_int
theorem ev_var {i : Nat} {v : V} {d : PyData} {P : PyData → Prop} (ms : sp ∈ M) (h : σ[i]? = some (some v)) (dv : Dq M H v d) (p : P d) : EvA c M sp (tVar i) σ H P := fun H1 s1 r1 Q hq =>
  ⟨v, h, hq v H1 d Sm.refl r1 (dv.sm (s1.sub fun z hz => by rw [List.mem_singleton.mp hz]; exact ms)) p⟩
theorem ev_int {i : Int} {P : PyData → Prop} (p : P (.int i)) : EvA c M sp (tC (.int i)) σ H P := fun H1 _ r1 Q hq => hq _ H1 _ Sm.refl r1 (.int i) p
theorem ev_bl {b : Bool} {P : PyData → Prop} (p : P (.bool b)) : EvA c M sp (tC (.bl b)) σ H P := fun H1 _ r1 Q hq => hq _ H1 _ Sm.refl r1 (.bl b) p
theorem ev_str {x : Str} {P : PyData → Prop} (p : P (.str x)) : EvA c M sp (tC (.str x)) σ H P := fun H1 _ r1 Q hq => hq _ H1 _ Sm.refl r1 (.str x) p
theorem ev_non {P : PyData → Prop} (p : P .none) : EvA c M sp (tC .non) σ H P := fun H1 _ r1 Q hq => hq _ H1 _ Sm.refl r1 .non p
theorem evN_nil {Pe : PyData → Prop} : EvN c M sp 0 tNil σ H Pe := fun H1 _ r1 R hR => hR [] H1 [] Sm.refl r1 .nil rfl (fun _ z => nomatch z)
theorem evN_cons {te : TE} {ta : TA} {n : Nat} {Pe : PyData → Prop} (ms : sp ∈ M) (h : EvA c M sp te σ H Pe) (t : EvN c M sp n ta σ H Pe) : EvN c M sp (n + 1) (tCons te ta) σ H Pe := fun H1 s1 r1 R hR =>
  h H1 s1 r1 _ fun v H2 d s2 r2 dv pd => t H2 (s1.trans s2) r2 _ fun vs H3 ds s3 r3 dvs hl he => hR _ H3 (d :: ds) (s2.trans s3) r3 (.cons (dv.sm (s3.sub fun z hz => by rw [List.mem_singleton.mp hz]; exact ms)) dvs) (by rw [List.length_cons, hl]) (fun x hx => by
    rcases List.mem_cons.mp hx with z | z
    · rw [z]; exact pd
    · exact he x z)
theorem evO_none : EvO c sp tNoPart σ H := fun H1 _ r1 R hR => hR none H1 Sm.refl r1
theorem evO_some {te : TE} (h : EvA c M sp te σ H PInt) : EvO c sp (tPart te) σ H := fun H1 s1 r1 R hR =>
  h H1 s1 r1 _ fun v H2 d s2 r2 dv ⟨i, e⟩ => by
    subst e
    cases dv.int_inv
    exact ⟨i, rfl, hR _ H2 s2 r2⟩
theorem full1 {H1 : Hp} (hM : ∀ m ∈ M, H m ≠ none) (s : Sm c [sp] H H1) : ∀ m ∈ M, H1 m ≠ none := fun m hm => s.st m (hM m hm)
theorem ev_tup {ta : TA} {n : Nat} {Pe : PyData → Prop} (hM : ∀ m ∈ M, H m ≠ none) (hn : n ≤ 100000) (t : EvN c M sp n ta σ H Pe) : EvA c M sp (tTup ta) σ H (PTup n n Pe) := fun H1 s1 r1 Q hq =>
  t H1 s1 r1 _ fun vs H2 ds s2 r2 dvs hl he => ⟨sz_of (by have := dvs.length; omega), fun p hp => hq _ _ (.tuple ds) (s2.trans (Sm.new hp)) (r2.sm (c := c) (M := []) (Sm.new hp) fun z => nomatch z) (dq_new (full1 hM (s1.trans s2)) hp dvs) ⟨ds, rfl, by omega, by omega, he⟩⟩
theorem ev_lst {ta : TA} {n : Nat} {Pe : PyData → Prop} (hM : ∀ m ∈ M, H m ≠ none) (hn : n ≤ 100000) (t : EvN c M sp n ta σ H Pe) : EvA c M sp (tLst ta) σ H (PLst n n Pe) := fun H1 s1 r1 Q hq =>
  t H1 s1 r1 _ fun vs H2 ds s2 r2 dvs hl he => ⟨sz_of (by have := dvs.length; omega), fun p hp => hq _ _ (.list ds) (s2.trans (Sm.new hp)) (r2.sm (c := c) (M := []) (Sm.new hp) fun z => nomatch z) (dq_newL (full1 hM (s1.trans s2)) hp dvs) ⟨ds, rfl, by omega, by omega, he⟩⟩
theorem ev_dict {P : PyData → Prop} (hM : ∀ m ∈ M, H m ≠ none) (pd : P (.dict [])) : EvA c M sp tDNewK σ H P := fun H1 s1 r1 Q hq p hp =>
  hq _ _ (.dict []) (Sm.new hp) (r1.sm (c := c) (M := []) (Sm.new hp) fun z => nomatch z) (.dct (fun z => full1 hM s1 p z hp) upd_same) pd
/-- an operator -/
theorem ev_op {r : R2} {ta tb : TE} {Pa Pb P : PyData → Prop} (ms : sp ∈ M) (ha : EvA c M sp ta σ H Pa) (hb : EvA c M sp tb σ H Pb)
    (hr : ∀ H2 x y dx dy, Sm c [sp] H H2 → Spr H2 sp → Dq M H2 x dx → Dq M H2 y dy → Pa dx → Pb dy → ∀ Q : VK, (∀ v H3 d, Sm c [sp] H2 H3 → Spr H3 sp → Dq M H3 v d → P d → Q v H3) → r x y H2 Q) : EvA c M sp (tOp r ta tb) σ H P := fun H1 s1 r1 Q hq =>
  ha H1 s1 r1 _ fun x H2 dx s2 r2 hx px => hb H2 (s1.trans s2) r2 _ fun y H3 dy s3 r3 hy py =>
    hr H3 x y dx dy ((s1.trans s2).trans s3) r3 (hx.sm (s3.sub fun z hz => by rw [List.mem_singleton.mp hz]; exact ms)) hy px py Q fun v H4 d s4 r4 dv pd => hq v H4 d ((s2.trans s3).trans s4) r4 dv pd
theorem ev_add {ta tb : TE} (ms : sp ∈ M) (ha : EvA c M sp ta σ H PInt) (hb : EvA c M sp tb σ H PInt) : EvA c M sp (tOp (rAddG K) ta tb) σ H PInt :=
  ev_op ms ha hb fun H2 x y dx dy s2 r2 hx hy px py Q hq => by
    obtain ⟨i, rfl⟩ := px
    obtain ⟨j, rfl⟩ := py
    cases hx.int_inv
    cases hy.int_inv
    exact Or.inl ⟨_, _, rfl, rfl, hq _ H2 _ Sm.refl r2 (.int _) ⟨_, rfl⟩⟩
theorem ev_sub {ta tb : TE} (ms : sp ∈ M) (ha : EvA c M sp ta σ H PInt) (hb : EvA c M sp tb σ H PInt) : EvA c M sp (tOp (rI0 fun i j => .int (i - j)) ta tb) σ H PInt :=
  ev_op ms ha hb fun H2 x y dx dy s2 r2 hx hy px py Q hq => by
    obtain ⟨i, rfl⟩ := px
    obtain ⟨j, rfl⟩ := py
    cases hx.int_inv
    cases hy.int_inv
    exact ⟨_, _, rfl, rfl, hq _ H2 _ Sm.refl r2 (.int _) ⟨_, rfl⟩⟩
theorem ev_pow {i j : Int} (h : CPow i j) : EvA c M sp (tOp (rI CPow fun i j => .int (i ^ j.toNat)) (tC (.int i)) (tC (.int j))) σ H PInt := fun H1 _ r1 Q hq => ⟨i, j, rfl, rfl, h, hq _ H1 _ Sm.refl r1 (.int _) ⟨_, rfl⟩⟩
theorem ev_catL {ta tb : TE} {a1 a2 b1 b2 : Nat} {Pe : PyData → Prop} (hM : ∀ m ∈ M, H m ≠ none) (hz : a2 + b2 ≤ 100000) (ms : sp ∈ M) (ha : EvA c M sp ta σ H (PLst a1 a2 Pe)) (hb : EvA c M sp tb σ H (PLst b1 b2 Pe)) : EvA c M sp (tOp (rAddG K) ta tb) σ H (PLst (a1 + b1) (a2 + b2) Pe) :=
  ev_op ms ha hb fun H2 x y dx dy s2 r2 hx hy px py Q hq => by
    obtain ⟨ds, rfl, l1, l2, m1⟩ := px
    obtain ⟨es, rfl, k1, k2, m2⟩ := py
    obtain ⟨a, xs, rfl, na, ea, da⟩ := hx.lst_inv
    obtain ⟨b, ys, rfl, nb, eb, db⟩ := hy.lst_inv
    have h1 := da.length
    have h2 := db.length
    exact Or.inr (Or.inl ⟨a, b, xs, ys, rfl, rfl, ea, eb, sz_of (by omega), fun p hp => hq _ _ (.list (ds ++ es)) (Sm.new hp) (r2.sm (c := c) (M := []) (Sm.new hp) fun z => nomatch z) (dq_newL (full1 hM s2) hp (da.append db)) ⟨_, rfl, by rw [List.length_append]; omega, by rw [List.length_append]; omega, fun x hx => (List.mem_append.mp hx).elim (m1 x) (m2 x)⟩⟩)
theorem ev_catT {ta tb : TE} {a1 a2 b1 b2 : Nat} {Pe : PyData → Prop} (hM : ∀ m ∈ M, H m ≠ none) (hz : a2 + b2 ≤ 100000) (ms : sp ∈ M) (ha : EvA c M sp ta σ H (PTup a1 a2 Pe)) (hb : EvA c M sp tb σ H (PTup b1 b2 Pe)) : EvA c M sp (tOp (rAddG K) ta tb) σ H (PTup (a1 + b1) (a2 + b2) Pe) :=
  ev_op ms ha hb fun H2 x y dx dy s2 r2 hx hy px py Q hq => by
    obtain ⟨ds, rfl, l1, l2, m1⟩ := px
    obtain ⟨es, rfl, k1, k2, m2⟩ := py
    obtain ⟨a, xs, ex, na, ea, da⟩ := id hx.tup_inv
    obtain ⟨b, ys, ey, nb, eb, db⟩ := id hy.tup_inv
    subst ex
    subst ey
    have h1 := da.length
    have h2 := db.length
    have lo : a1 + b1 ≤ (ds ++ es).length ∧ (ds ++ es).length ≤ a2 + b2 ∧ ∀ x ∈ ds ++ es, Pe x := ⟨by rw [List.length_append]; omega, by rw [List.length_append]; omega, fun x hx => (List.mem_append.mp hx).elim (m1 x) (m2 x)⟩
    refine Or.inr (Or.inr (Or.inl ⟨a, b, xs, ys, rfl, rfl, SqT.of ea, SqT.of eb, sz_of (by omega), fun z => ?_, fun _ z => ?_, fun _ _ p hp => ?_⟩))
    · have e : ds = [] := List.length_eq_zero_iff.mp (by rw [← h1, z]; rfl)
      rw [e, List.nil_append] at lo
      exact hq _ H2 _ Sm.refl r2 hy ⟨es, rfl, lo⟩
    · have e : es = [] := List.length_eq_zero_iff.mp (by rw [← h2, z]; rfl)
      rw [e, List.append_nil] at lo
      exact hq _ H2 _ Sm.refl r2 hx ⟨ds, rfl, lo⟩
    · exact hq _ _ (.tuple (ds ++ es)) (Sm.new hp) (r2.sm (c := c) (M := []) (Sm.new hp) fun z => nomatch z) (dq_new (full1 hM s2) hp (da.append db)) ⟨_, rfl, lo⟩
theorem dqs_flat {H2 : Hp} {vs : List V} {ds : List PyData} (x : Dqs M H2 vs ds) : ∀ n : Nat, Dqs M H2 (List.replicate n vs).flatten (List.replicate n ds).flatten
  | 0 => .nil
  | n + 1 => by
    rw [List.replicate_succ, List.replicate_succ, List.flatten_cons, List.flatten_cons]
    exact x.append (dqs_flat x n)
theorem ev_rep {ta : TE} {n : Nat} {Pe : PyData → Prop} (hM : ∀ m ∈ M, H m ≠ none) (hn : 2 ≤ n ∧ n ≤ 1000) (ms : sp ∈ M) (ha : EvA c M sp ta σ H (PTup 1 1 Pe)) : EvA c M sp (tOp (rMulG K) ta (tC (.int (n : Int)))) σ H (PTup n n Pe) :=
  ev_op ms ha ((fun H1 _ r1 Q hq => hq _ H1 _ Sm.refl r1 (.int _) rfl : EvA c M sp (tC (.int (n : Int))) σ H fun d => d = .int (n : Int))) fun H2 x y dx dy s2 r2 hx hy px py Q hq => by
    obtain ⟨ds, rfl, l1, l2, m1⟩ := px
    subst py
    cases hy.int_inv
    obtain ⟨a, xs, rfl, na, ea, da⟩ := hx.tup_inv
    have h1 := da.length
    refine Or.inr (Or.inr ⟨a, _, xs, rfl, rfl, SqT.of ea, fun z => by rw [z] at h1; simp at h1; omega, by omega, by omega, by omega, fun p hp => ?_⟩)
    have dn := dqs_flat da n
    rw [Int.toNat_natCast]
    exact hq _ _ (.tuple (List.replicate n ds).flatten) (Sm.new hp) (r2.sm (c := c) (M := []) (Sm.new hp) fun z => nomatch z) (dq_new (full1 hM s2) hp dn) ⟨_, rfl, by simp [show ds.length = 1 by omega], by simp [show ds.length = 1 by omega], fun x hx => by
      obtain ⟨l, hl, hx⟩ := List.mem_flatten.mp hx
      rw [List.eq_of_mem_replicate hl] at hx
      exact m1 x hx⟩
theorem Dqs.take {M : List Addr} {H : Hp} : ∀ {vs : List V} {ds : List PyData} (k : Nat), Dqs M H vs ds → Dqs M H (vs.take k) (ds.take k)
  | _, _, 0, _ => .nil
  | _, _, _ + 1, .nil => .nil
  | _, _, k + 1, .cons a r => .cons a (Dqs.take k r)
theorem Dqs.drop {M : List Addr} {H : Hp} : ∀ {vs : List V} {ds : List PyData} (k : Nat), Dqs M H vs ds → Dqs M H (vs.drop k) (ds.drop k)
  | _, _, 0, r => r
  | _, _, _ + 1, .nil => .nil
  | _, _, k + 1, .cons _ r => Dqs.drop k r
/-- a part of a tuple -/
theorem ev_slT {te : TE} {tl th : TO} {lo hi : Nat} {Pe : PyData → Prop} (hM : ∀ m ∈ M, H m ≠ none) (ms : sp ∈ M) (h : EvA c M sp te σ H (PTup lo hi Pe)) (hl : EvO c sp tl σ H) (hh : EvO c sp th σ H) : EvA c M sp (tSl (rSlG K) te tl th) σ H (PTup 0 hi Pe) := fun H1 s1 r1 Q hq =>
  h H1 s1 r1 _ fun x H2 dx s2 r2 hx px => hl H2 (s1.trans s2) r2 _ fun l H3 s3 r3 => hh H3 ((s1.trans s2).trans s3) r3 _ fun u H4 s4 r4 => by
    obtain ⟨ds, rfl, l1, l2, m1⟩ := px
    have sub : ∀ z ∈ [sp], z ∈ M := fun z hz => by rw [List.mem_singleton.mp hz]; exact ms
    have hx4 := hx.sm ((s3.trans s4).sub sub)
    obtain ⟨a, xs, ex, na, ea, da⟩ := id hx4.tup_inv
    subst ex
    have s24 := s2.trans (s3.trans s4)
    refine Or.inr ⟨a, xs, rfl, SqT.of ea, fun _ => hq _ H4 _ s24 r4 hx4 ⟨ds, rfl, Nat.zero_le _, l2, m1⟩, fun _ p hp => ?_⟩
    refine hq _ _ (.tuple ((ds.drop (HT.sIx xs.length 0 l)).take (HT.sIx xs.length xs.length u - HT.sIx xs.length 0 l))) (s24.trans (Sm.new hp)) (r4.sm (c := c) (M := []) (Sm.new hp) fun z => nomatch z) (dq_new (full1 hM (s1.trans s24)) hp ((da.drop _).take _)) ⟨_, rfl, Nat.zero_le _, ?_, fun x hx => m1 x (List.mem_of_mem_drop (List.mem_of_mem_take hx))⟩
    rw [List.length_take, List.length_drop]
    omega
/-- str(x) of a number, or of data that can be shown -/
theorem ev_strI {te : TE} {P : PyData → Prop} (hp : ∀ x : String, P (.str (Str.ofString x))) (h : EvA c M sp te σ H fun d => ∃ i, d = .int i ∧ i.natAbs.log2 < 1920) : EvA c M sp (tCB (rStrD K) (tCons te tNil)) σ H P := fun H1 s1 r1 Q hq =>
  h H1 s1 r1 _ fun x H2 dx s2 r2 hx ⟨i, e, z⟩ => by
    subst e
    cases hx.int_inv
    exact Or.inl ⟨i, rfl, z, hq _ H2 _ s2 r2 (.str _) (hp _)⟩
theorem ev_strD {te : TE} {P : PyData → Prop} (hp : ∀ x : Str, P (.str x)) (h : EvA c M sp te σ H fun d => Shows d ∧ ∃ ds, d = .tuple ds) : EvA c M sp (tCB (rStrD K) (tCons te tNil)) σ H P := fun H1 s1 r1 Q hq =>
  h H1 s1 r1 _ fun x H2 dx s2 r2 hx ⟨S, ds, e⟩ => by
    subst e
    obtain ⟨a, xs, rfl, na, ea, da⟩ := id hx.tup_inv
    exact Or.inr ⟨a, _, rfl, hx.dp S.n, S, hq _ H2 _ s2 r2 (.str _) (hp _)⟩
/-- list(x) of a tuple -/
theorem ev_list {te : TE} {lo hi : Nat} {Pe : PyData → Prop} (hM : ∀ m ∈ M, H m ≠ none) (h : EvA c M sp te σ H (PTup lo hi Pe)) : EvA c M sp (tCB (rListK K) (tCons te tNil)) σ H (PLst lo hi Pe) := fun H1 s1 r1 Q hq =>
  h H1 s1 r1 _ fun x H2 dx s2 r2 hx px => by
    obtain ⟨ds, rfl, l1, l2, m1⟩ := px
    obtain ⟨a, xs, rfl, na, ea, da⟩ := id hx.tup_inv
    exact ⟨a, xs, rfl, Or.inr (SqT.of ea), fun p hp => hq _ _ (.list ds) (s2.trans (Sm.new hp)) (r2.sm (c := c) (M := []) (Sm.new hp) fun z => nomatch z) (dq_newL (full1 hM (s1.trans s2)) hp da) ⟨ds, rfl, l1, l2, m1⟩⟩
end
end My

/-! sets and dicts of numbers -/
namespace My
open PySem PySem.Spec PyProof.Rows L2
open RT (iRevA pi_revA)
section
variable {X : Cx} {K : PySem.W.Frag} {w : World} {k : Nat}
theorem un1 (hr : Rm k X.A) : X.A.units + 1 < cLine := by
  have := hr.r.units
  omega
/-- set(t), t a tuple of numbers -/
def rSetT (w : World) (K : PySem.W.Frag) : List V → Hp → VK → Prop := fun vs H Q => ∃ (p : Addr) (ns : List Int), vs = [.ref p] ∧ SqT K H p (ns.map V.int) ∧ ns.length ≤ 1000 ∧
  ∀ q n, H q = none → n ≤ ns.length → Q (.ref q) (upd H q (SetO w q (fun j => decide (j ∈ ns)) n))
theorem call_setT (hc : X.calm = true) : CallR X (.type "set") (rSetT X.w X.K) := by
  intro pins s σ H xs us Q I r h
  obtain ⟨p0, ns, rfl, hq, hl, q⟩ := h
  obtain ⟨u, rfl, ru⟩ := vals1 r
  cases ru
  obtain ⟨its, rv, pt, hz⟩ := I.tuple hq
  have hi : IntsAre its.toArray.toList ns := ints_of_vals rv
  refine call_set_tupI ns (I.ok.hd hc) (show s.heap.IsTuple p0 its.toArray from pt) hi (by unfold scanBound; omega) fun h' tk c R1 hcn kp => ?_
  exact ⟨.ref _, upd H s.heap.objs.size (SetO X.w s.heap.objs.size (fun j => decide (j ∈ ns)) c), I.laid (t' := tk) kp (Nat.le_refl _) (setO_new R1), rfl, q _ c (I.hok.fresh (Nat.le_refl _)) hcn⟩
theorem call_setK (hc : X.calm = true) (hw : X.w = w := by rfl) (h : X.K = K := by rfl) : CallR X (.type "set") (rSetT w K) := by
  subst hw
  subst h
  exact call_setT hc
theorem or_sinW (hw : X.w = w := by rfl) : OpR X (compareOp .In) (rSIn w) := by
  subst hw
  exact or_sin
theorem or_snotinW (hw : X.w = w := by rfl) : OpR X (compareOp .NotIn) (rSNotIn w) := by
  subst hw
  exact or_snotin
variable {o e : Expr} {es : List Expr} {to : TE} {t : TA} {apos cpos : Pos}
theorem pe_saddK (ho : PE X o to) (ha : PA X (e :: es) t) (hw : X.w = w := by rfl)
    (hbase : attributeBase o "add" X.env (eval o X.env) = eval o X.env := by rfl)
    (hfew : ((backTo cpos (starEach (e :: es) X.env)).all (fun x => !x.1) && (backToKw cpos (keywordEach [] X.env)).all (fun x => x.1.isSome)
      && decide ((e :: es).length + ([] : List Keyword).length + (if ([] : List Keyword).isEmpty then 0 else 1) < 30)) = true := by rfl)
    (hline : (apos.endLine == cpos.line) = true := by rfl) (hs : starEach (e :: es) X.env = (false, eval e X.env) :: starEach es X.env := by rfl) (hplain : (backTo cpos (starEach es X.env)).any (·.1) = false := by rfl) :
    PE X (.Call (.Attribute o "add" apos) (e :: es) [] cpos) (tSAdd w to t) := by
  subst hw
  exact pe_sadd ho ha hbase hfew hline hs hplain
theorem pi_revK {tg e : Expr} {te : TE} {p pos : Pos} (hg : Gl X "reversed") (hm : X.mg "reversed" = none) (he : PE X e te) (hs : starEach [e] X.env = (false, eval e X.env) :: starEach [] X.env := by rfl) (h : X.K = K := by rfl) :
    PI X tg (.Call (.Name "reversed" p) [e] [] pos) (iRevA K te) := by
  subst h
  exact pi_revA hg hm he hs
end
theorem pi_enumK {X : Cx} {K : PySem.W.Frag} {e : Expr} {ta : TA} {p pos tpos : Pos} {elts : List Expr} {kk : Nat} (hg : Gl X "enumerate") (hm : X.mg "enumerate" = none) (ha : PA X [e] ta) (hs : starEach [e] X.env = [(false, eval e X.env)] := by rfl) (h : X.K = K := by rfl) :
    PI X (.Tuple elts kk tpos) (.Call (.Name "enumerate" p) [e] [] pos) (iEnum K ta) := by
  subst h
  exact pi_enum hg hm ha hs
section
variable {c : Ct} {M N : List Addr} {H H' : Hp} {l : Addr} {o o' : HO}
/-- where the text makes no code objects: any object that may change is changed -/
theorem Sm.putX (hT : c.T = []) (hl : l ∈ M) (h : H l = some o) (ho : ∀ ps, o ≠ .tbl ps) : Sm c M H (upd H l o') := by
  refine ⟨fun b u n e _ => by rw [upd_ne (fun z => n (by rw [z]; exact hl))]; exact e, fun b e z => ?_, fun g => ⟨fun P hP => ?_, fun q hq => ?_⟩⟩
  · by_cases hb : b = l
    · rw [hb, upd_same] at z
      cases z
    · rw [upd_ne hb] at z
      exact e z
  · obtain ⟨ps, e, t⟩ := g.g P hP
    refine ⟨ps, ?_, t⟩
    rw [upd_ne (fun z => ho ps (by rw [z, h] at e; exact Option.some.inj e))]
    exact e
  · rw [hT] at hq
    exact nomatch hq
end
theorem setO_tbl {w : World} {a : Addr} {S : Int → Bool} {n : Nat} {ps : Array Value} : SetO w a S n ≠ .tbl ps := fun z => by
  have z' : HO.ext _ = HO.tbl ps := z
  cases z'
theorem dK_tbl {kvs : List (Key × V)} {ps : Array Value} : HO.dK kvs ≠ .tbl ps := nofun
section
variable {J : It} {n : Nat} {G : Hp → Prop} {Y : Nat → Hp → V → Hp → Prop}
/-- a dict comprehension over a walk -/
theorem dc_it (w : Walk J n G Y) {g : TG} {tt : TT} {tk tv : TE} {vs : List Nat} {σ : L2.St} {H1 : Hp} {D : Addr} {Qd : Hp → Prop} (Pv : Nat → Hp → Prop) (h0 : Pv 0 (upd H1 D (.dK []))) (hG : ∀ i H, i ≤ n → Pv i H → G H)
    (hs : ∀ i x H H', i < n → Pv i H → Y i H x H' → g x (wipe σ vs) H' fun σ2 H2 => wipe σ2 vs = wipe σ vs ∧ tt σ2 H2 fun b H3 =>
      if b = true then tk σ2 H3 fun y H4 => tv σ2 H4 fun z H5 => ∃ kvs k, y = kV k ∧ H5 D = some (.dK kvs) ∧ kvs.length < sizeLine ∧ Pv (i + 1) (upd H5 D (.dK (putK kvs k z))) else Pv (i + 1) H3) (hd : ∀ H, Pv n H → Qd H) :
    ∃ W : Nat → Nat → Hp → Prop, (∃ m, W 0 m (upd H1 D (.dK []))) ∧ ∀ i m H, W i m H →
      (J.stop i H ∧ Qd H) ∨ (J.go i H ∧ ∃ Nx : Hp → Prop, (∀ H', Nx H' → ∃ m', m' < m ∧ W (i + 1) m' H') ∧ ∀ x H', J.yld i H x H' → g x (wipe σ vs) H' fun σ2 H2 => wipe σ2 vs = wipe σ vs ∧ tt σ2 H2 fun b H3 =>
        if b = true then tk σ2 H3 fun y H4 => tv σ2 H4 fun z H5 => ∃ kvs k, y = kV k ∧ H5 D = some (.dK kvs) ∧ kvs.length < sizeLine ∧ Nx (upd H5 D (.dK (putK kvs k z))) else Nx H3) := by
  refine ⟨fun i m H => m = n - i ∧ i ≤ n ∧ Pv i H, ⟨n, by simp, Nat.zero_le _, h0⟩, ?_⟩
  rintro i m H ⟨rfl, hi, p⟩
  have q := hG i H hi p
  by_cases hlt : i < n
  · refine .inr ⟨w.goes i H hlt q, Pv (i + 1), fun H' p' => ⟨n - (i + 1), by omega, rfl, hlt, p'⟩, fun x H' y => hs i x H H' hlt p (w.yields i H x H' hlt q y)⟩
  · have e : i = n := by omega
    subst e
    exact .inl ⟨w.stops H q, hd H p⟩
end
end My

/-! what rests on what; nets without what no end needs -/
namespace My
open PySem PySem.Spec PyProof.Rows L2
def markB (n : Nat) (bs : List (Nat × Nat)) (t : Nat) (m : List Bool) : List Bool := if m.getD (n + t) false = true then (m.set (bs.getD t (0, 0)).1 true).set (bs.getD t (0, 0)).2 true else m
def downB (n : Nat) (bs : List (Nat × Nat)) : Nat → List Bool → List Bool
  | 0, m => m
  | t + 1, m => downB n bs t (markB n bs t m)
def startB (k : Nat) (ss : List Nat) : List Bool := ss.foldl (fun m s => m.set s true) (List.replicate k false)
def metOf (n : Nat) (bs : List (Nat × Nat)) (ss : List Nat) : List Bool := downB n bs bs.length (startB (n + bs.length) ss)
theorem getD_set {m : List Bool} {i k : Nat} : (m.set i true).getD k false = (m.getD k false || decide (k = i ∧ i < m.length)) := by
  rw [List.getD_eq_getElem?_getD, List.getD_eq_getElem?_getD, List.getElem?_set]
  by_cases h : i = k
  · subst h
    by_cases h2 : i < m.length
    · simp [h2]
    · simp [h2]
  · have : ¬ (k = i ∧ i < m.length) := fun z => h z.1.symm
    rw [if_neg h, decide_eq_false this, Bool.or_false]
theorem markB_len {n t : Nat} {bs : List (Nat × Nat)} {m : List Bool} : (markB n bs t m).length = m.length := by
  unfold markB
  split
  · rw [List.length_set, List.length_set]
  · rfl
theorem downB_len {n : Nat} {bs : List (Nat × Nat)} : ∀ (t : Nat) (m : List Bool), (downB n bs t m).length = m.length
  | 0, _ => rfl
  | t + 1, m => (downB_len t _).trans markB_len
theorem fold_start : ∀ (ss : List Nat) (m : List Bool), (∀ s ∈ ss, s < m.length) → (ss.foldl (fun m s => m.set s true) m).length = m.length ∧ ∀ i, (ss.foldl (fun m s => m.set s true) m).getD i false = (m.getD i false || decide (i ∈ ss))
  | [], m, _ => ⟨rfl, fun i => by simp⟩
  | s :: r, m, h => by
    obtain ⟨a, b⟩ := fold_start r (m.set s true) fun x hx => by
      rw [List.length_set]
      exact h x (List.mem_cons_of_mem _ hx)
    refine ⟨by show (r.foldl _ (m.set s true)).length = _; rw [a, List.length_set], fun i => ?_⟩
    show (r.foldl _ (m.set s true)).getD i false = _
    rw [b, getD_set, Bool.or_assoc]
    congr 1
    have hs := h s List.mem_cons_self
    by_cases e : i = s
    · simp [e, hs]
    · simp [e]
theorem startB_len {k : Nat} {ss : List Nat} (h : ∀ s ∈ ss, s < k) : (startB k ss).length = k := by
  unfold startB
  rw [(fold_start ss _ (by simpa using h)).1, List.length_replicate]
theorem startB_get {k i : Nat} {ss : List Nat} (h : ∀ s ∈ ss, s < k) : (startB k ss).getD i false = decide (i ∈ ss) := by
  unfold startB
  rw [(fold_start ss _ (by simpa using h)).2, List.getD_eq_getElem?_getD, List.getElem?_replicate]
  split <;> rfl
theorem metOf_len {n : Nat} {bs : List (Nat × Nat)} {ss : List Nat} (h : ∀ s ∈ ss, s < n + bs.length) : (metOf n bs ss).length = n + bs.length := (downB_len _ _).trans (startB_len h)
/-- what the wires of ss rest on -/
inductive Rch (n : Nat) (bs : List (Nat × Nat)) (ss : List Nat) : Nat → Prop
  | start {s : Nat} : s ∈ ss → Rch n bs ss s
  | left {t : Nat} {b : Nat × Nat} : bs[t]? = some b → Rch n bs ss (n + t) → Rch n bs ss b.1
  | right {t : Nat} {b : Nat × Nat} : bs[t]? = some b → Rch n bs ss (n + t) → Rch n bs ss b.2
section
variable {n : Nat} {bs : List (Nat × Nat)} {ss : List Nat}
theorem mark_mono {t i : Nat} {m : List Bool} (h : m.getD i false = true) : (markB n bs t m).getD i false = true := by
  unfold markB
  split
  · rw [getD_set, getD_set, h]
    rfl
  · exact h
theorem down_mono {i : Nat} : ∀ (t : Nat) {m : List Bool}, m.getD i false = true → (downB n bs t m).getD i false = true
  | 0, _, h => h
  | t + 1, _, h => down_mono t (mark_mono h)
theorem mark_high {t i : Nat} {m : List Bool} (hb : boxOk n 0 bs) (ht : t < bs.length) (hi : n + t ≤ i) : (markB n bs t m).getD i false = m.getD i false := by
  obtain ⟨g1, g2⟩ := boxOk_get hb (List.getElem?_eq_getElem ht)
  have e : bs.getD t (0, 0) = bs[t] := getD_of (List.getElem?_eq_getElem ht)
  unfold markB
  split
  · rw [e, getD_set, getD_set, decide_eq_false (show ¬ (i = bs[t].1 ∧ _) by omega), decide_eq_false (show ¬ (i = bs[t].2 ∧ _) by omega), Bool.or_false, Bool.or_false]
  · rfl
theorem down_high {i : Nat} (hb : boxOk n 0 bs) : ∀ (t : Nat) {m : List Bool}, t ≤ bs.length → n + t ≤ i → (downB n bs t m).getD i false = m.getD i false
  | 0, _, _, _ => rfl
  | t + 1, m, ht, hi => by
    show (downB n bs t (markB n bs t m)).getD i false = _
    rw [down_high hb t (by omega) (by omega), mark_high hb (by omega) (by omega)]
theorem down_sound : ∀ (t : Nat) {m : List Bool}, t ≤ bs.length → (∀ i, m.getD i false = true → Rch n bs ss i) → ∀ i, (downB n bs t m).getD i false = true → Rch n bs ss i
  | 0, _, _, h => h
  | t + 1, m, ht, h => by
    refine down_sound t (by omega) fun i hi => ?_
    unfold markB at hi
    split at hi
    · rename_i hm
      have r := h _ hm
      have gb : bs[t]? = some bs[t] := List.getElem?_eq_getElem (by omega)
      rw [getD_of gb, getD_set, getD_set] at hi
      simp only [Bool.or_eq_true, decide_eq_true_eq] at hi
      rcases hi with (hi | ⟨e, _⟩) | ⟨e, _⟩
      · exact h i hi
      · rw [e]
        exact .left gb r
      · rw [e]
        exact .right gb r
    · exact h i hi
theorem down_closed {k : Nat} (hb : boxOk n 0 bs) : ∀ (t : Nat) {m : List Bool}, t ≤ bs.length → m.length = n + bs.length → k < t → (downB n bs t m).getD (n + k) false = true →
    (downB n bs t m).getD (bs.getD k (0, 0)).1 false = true ∧ (downB n bs t m).getD (bs.getD k (0, 0)).2 false = true
  | 0, _, _, _, h, _ => nomatch h
  | t + 1, m, ht, hm, hk, h => by
    by_cases e : k = t
    · subst e
      have hk' : k < bs.length := by omega
      obtain ⟨g1, g2⟩ := boxOk_get hb (List.getElem?_eq_getElem hk')
      have eb : bs.getD k (0, 0) = bs[k] := getD_of (List.getElem?_eq_getElem hk')
      have h' : m.getD (n + k) false = true := by
        have h : (downB n bs k (markB n bs k m)).getD (n + k) false = true := h
        rwa [down_high hb k (by omega) (Nat.le_refl _), mark_high hb hk' (Nat.le_refl _)] at h
      refine ⟨down_mono k ?_, down_mono k ?_⟩
      · unfold markB
        rw [if_pos h', eb, getD_set, getD_set, decide_eq_true (show bs[k].1 = bs[k].1 ∧ bs[k].1 < m.length by omega), Bool.or_true, Bool.true_or]
      · unfold markB
        rw [if_pos h', eb, getD_set, decide_eq_true (show bs[k].2 = bs[k].2 ∧ bs[k].2 < (m.set bs[k].1 true).length by rw [List.length_set]; omega), Bool.or_true]
    · exact down_closed hb t (by omega) (markB_len.trans hm) (by omega) h
theorem met_rch (hs : ∀ s ∈ ss, s < n + bs.length) {i : Nat} (h : (metOf n bs ss).getD i false = true) : Rch n bs ss i :=
  down_sound _ (Nat.le_refl _) (fun i hi => by
    rw [startB_get hs] at hi
    exact .start (of_decide_eq_true hi)) i h
theorem rch_met (hb : boxOk n 0 bs) (hs : ∀ s ∈ ss, s < n + bs.length) {i : Nat} (h : Rch n bs ss i) : (metOf n bs ss).getD i false = true := by
  induction h with
  | start h => exact down_mono _ (by rw [startB_get hs]; exact decide_eq_true h)
  | left h _ ih =>
    have := (down_closed hb _ (Nat.le_refl _) (startB_len hs) (List.getElem?_eq_some_iff.mp h).1 ih).1
    rwa [getD_of h] at this
  | right h _ ih =>
    have := (down_closed hb _ (Nat.le_refl _) (startB_len hs) (List.getElem?_eq_some_iff.mp h).1 ih).2
    rwa [getD_of h] at this
end
/-! ### without what is not needed -/
def cntB (keep : Nat → Bool) (t : Nat) : Nat := ((List.range t).filter keep).length
def nmOf (n : Nat) (keep : Nat → Bool) (i : Nat) : Nat := if i < n then i else n + cntB keep (i - n)
def keptOf (keep : Nat → Bool) (k : Nat) : List Nat := (List.range k).filter keep
def newB (n : Nat) (bs : List (Nat × Nat)) (keep : Nat → Bool) (t : Nat) : Nat × Nat := (nmOf n keep (bs.getD t (0, 0)).1, nmOf n keep (bs.getD t (0, 0)).2)
def trimB (n : Nat) (bs : List (Nat × Nat)) (keep : Nat → Bool) : List (Nat × Nat) := (keptOf keep bs.length).map (newB n bs keep)
theorem kept_succ {keep : Nat → Bool} {k : Nat} : keptOf keep (k + 1) = keptOf keep k ++ (if keep k = true then [k] else []) := by
  unfold keptOf
  rw [List.range_succ, List.filter_append, List.filter_cons]
  rfl
theorem cnt_succ {keep : Nat → Bool} {k : Nat} : cntB keep (k + 1) = cntB keep k + (if keep k = true then 1 else 0) := by
  have h : cntB keep (k + 1) = (keptOf keep (k + 1)).length := rfl
  rw [h, kept_succ, List.length_append]
  show cntB keep k + _ = _
  split <;> rfl
theorem cnt_mono {keep : Nat → Bool} {a b : Nat} (h : a ≤ b) : cntB keep a ≤ cntB keep b := by
  induction b with
  | zero => rw [Nat.le_zero.mp h]; exact Nat.le_refl _
  | succ b ih =>
    by_cases e : a = b + 1
    · rw [e]; exact Nat.le_refl _
    · have := ih (by omega)
      rw [cnt_succ]
      omega
theorem cnt_lt {keep : Nat → Bool} {a b : Nat} (h : a < b) (k : keep a = true) : cntB keep a < cntB keep b := by
  have := cnt_mono (keep := keep) (show a + 1 ≤ b from h)
  rw [cnt_succ, if_pos k] at this
  omega
theorem kept_len {keep : Nat → Bool} {k : Nat} : (keptOf keep k).length = cntB keep k := rfl
theorem kept_get {keep : Nat → Bool} {t : Nat} (k : keep t = true) : ∀ len, t < len → (keptOf keep len)[cntB keep t]? = some t
  | 0, h => nomatch h
  | len + 1, h => by
    rw [kept_succ]
    by_cases e : t = len
    · subst e
      rw [if_pos k, List.getElem?_append_right (Nat.le_of_eq kept_len), kept_len, Nat.sub_self]
      rfl
    · have ih := kept_get k len (by omega)
      rw [List.getElem?_append_left (List.getElem?_eq_some_iff.mp ih).1]
      exact ih
theorem kept_idx {keep : Nat → Bool} {t j : Nat} : ∀ len, (keptOf keep len)[j]? = some t → keep t = true ∧ t < len ∧ cntB keep t = j
  | 0, h => by simp [keptOf] at h
  | len + 1, h => by
    rw [kept_succ] at h
    by_cases hj : j < (keptOf keep len).length
    · rw [List.getElem?_append_left hj] at h
      obtain ⟨a, b, c⟩ := kept_idx len h
      exact ⟨a, by omega, c⟩
    · rw [List.getElem?_append_right (by omega)] at h
      split at h
      · rename_i hk
        have e0 : j - (keptOf keep len).length = 0 := by
          have := (List.getElem?_eq_some_iff.mp h).1
          simp at this
          omega
        rw [e0] at h
        cases h
        exact ⟨hk, Nat.lt_succ_self _, by show (keptOf keep t).length = j; omega⟩
      · simp at h
section
variable {n : Nat} {bs : List (Nat × Nat)} {es : List Nat} {keep : Nat → Bool}
/-- the boxes of what is kept are kept -/
def Clo (n : Nat) (bs : List (Nat × Nat)) (keep : Nat → Bool) (i : Nat) : Prop := i < n ∨ ∃ t, i = n + t ∧ t < bs.length ∧ keep t = true
structure Kp (n : Nat) (bs : List (Nat × Nat)) (es : List Nat) (keep : Nat → Bool) : Prop where
  e : ∀ e ∈ es, Clo n bs keep e
  b : ∀ t b, bs[t]? = some b → keep t = true → Clo n bs keep b.1 ∧ Clo n bs keep b.2
theorem nm_low {i : Nat} (h : i < n) : nmOf n keep i = i := if_pos h
theorem nm_box {t : Nat} : nmOf n keep (n + t) = n + cntB keep t := by
  unfold nmOf
  rw [if_neg (by omega), Nat.add_sub_cancel_left]
theorem nm_lt {i t : Nat} (h : Clo n bs keep i) (hi : i < n + t) : nmOf n keep i < n + cntB keep t := by
  rcases h with h | ⟨s, rfl, _, ks⟩
  · rw [nm_low h]
    omega
  · rw [nm_box]
    have := cnt_lt (show s < t by omega) ks
    omega
theorem boxOk_of : ∀ {bs : List (Nat × Nat)} {t : Nat}, (∀ i b, bs[i]? = some b → b.1 < n + t + i ∧ b.2 < n + t + i) → boxOk n t bs
  | [], _, _ => trivial
  | b :: r, t, h => by
    have h0 := h 0 b rfl
    refine ⟨by omega, by omega, boxOk_of fun i x hx => ?_⟩
    have := h (i + 1) x hx
    omega
theorem trim_get {j : Nat} {b : Nat × Nat} (h : (trimB n bs keep)[j]? = some b) : ∃ t b0, t < bs.length ∧ keep t = true ∧ cntB keep t = j ∧ bs[t]? = some b0 ∧ b = (nmOf n keep b0.1, nmOf n keep b0.2) := by
  unfold trimB at h
  rw [List.getElem?_map] at h
  obtain ⟨t, ht, e⟩ := Option.map_eq_some_iff.mp h
  obtain ⟨k, l, c⟩ := kept_idx _ ht
  refine ⟨t, bs[t], l, k, c, List.getElem?_eq_getElem l, ?_⟩
  rw [← e]
  unfold newB
  rw [getD_of (List.getElem?_eq_getElem l)]
theorem trim_box {t : Nat} {b : Nat × Nat} (h : bs[t]? = some b) (k : keep t = true) : (trimB n bs keep)[cntB keep t]? = some (nmOf n keep b.1, nmOf n keep b.2) := by
  unfold trimB
  rw [List.getElem?_map, kept_get k _ (List.getElem?_eq_some_iff.mp h).1]
  show some (newB n bs keep t) = _
  unfold newB
  rw [getD_of h]
theorem trim_len : (trimB n bs keep).length = cntB keep bs.length := by
  unfold trimB
  rw [List.length_map]
  rfl
theorem cnt_le {k : Nat} : cntB keep k ≤ k := by
  have := List.length_filter_le keep (List.range k)
  rw [List.length_range] at this
  exact this
theorem trim_ok (hN : NetOk n bs es) (K : Kp n bs es keep) : NetOk n (trimB n bs keep) (es.map (nmOf n keep)) := by
  have b60 := hN.b
  have c := cnt_le (keep := keep) (k := bs.length)
  have h1 := hN.e1
  have h2 := hN.e2
  refine ⟨hN.n1, hN.n2, by rw [trim_len]; omega, by rw [List.length_map]; exact h1, by rw [List.length_map]; exact h2, boxOk_of fun j b hj => ?_, fun e he => ?_⟩
  · obtain ⟨t, b0, l, k, c, hb, rfl⟩ := trim_get hj
    obtain ⟨g1, g2⟩ := boxOk_get hN.bx hb
    obtain ⟨k1, k2⟩ := K.b t b0 hb k
    have a1 := nm_lt k1 (show b0.1 < n + t by omega)
    have a2 := nm_lt k2 (show b0.2 < n + t by omega)
    refine ⟨?_, ?_⟩
    · show nmOf n keep b0.1 < n + 0 + j
      omega
    · show nmOf n keep b0.2 < n + 0 + j
      omega
  · obtain ⟨e0, he0, rfl⟩ := List.mem_map.mp he
    rw [trim_len]
    exact nm_lt (K.e e0 he0) (hN.ew e0 he0)
theorem trim_word (hb : boxOk n 0 bs) (hb' : boxOk n 0 (trimB n bs keep)) (K : Kp n bs es keep) : ∀ (m i : Nat), i < m → Clo n bs keep i → (wordsOf n (trimB n bs keep))[nmOf n keep i]? = (wordsOf n bs)[i]?
  | 0, _, h, _ => nomatch h
  | m + 1, i, h, c => by
    rcases c with h | ⟨t, rfl, l, k⟩
    · rw [nm_low h, wordsOf_low h, wordsOf_low h]
    · have hbt : bs[t]? = some bs[t] := List.getElem?_eq_getElem l
      obtain ⟨g1, g2⟩ := boxOk_get hb hbt
      obtain ⟨k1, k2⟩ := K.b t _ hbt k
      obtain ⟨w1, w2, e1, e2, e3⟩ := word_box hb hbt
      obtain ⟨v1, v2, f1, f2, f3⟩ := word_box hb' (trim_box hbt k)
      have i1 := trim_word hb hb' K m bs[t].1 (by omega) k1
      have i2 := trim_word hb hb' K m bs[t].2 (by omega) k2
      rw [i1, e1] at f1
      rw [i2, e2] at f2
      cases f1
      cases f2
      rw [nm_box, f3, e3]
theorem trim_lens {L : Nat} (hb : boxOk n 0 bs) (hb' : boxOk n 0 (trimB n bs keep)) (K : Kp n bs es keep) (hL : Lens L (wordsOf n bs)) : Lens L (wordsOf n (trimB n bs keep)) := fun w hw => by
  obtain ⟨i, hi⟩ := List.getElem?_of_mem hw
  have li := (List.getElem?_eq_some_iff.mp hi).1
  rw [wordsOf_len, trim_len] at li
  by_cases h : i < n
  · rw [wordsOf_low h] at hi
    have := wordsOf_low (bs := bs) h
    cases hi
    exact hL _ (List.mem_of_getElem? this)
  · have hj : i - n < (keptOf keep bs.length).length := by rw [kept_len]; omega
    obtain ⟨k, l, c⟩ := kept_idx _ (List.getElem?_eq_getElem hj)
    have := trim_word hb hb' K (n + (keptOf keep bs.length)[i - n] + 1) (n + (keptOf keep bs.length)[i - n]) (Nat.lt_succ_self _) (Or.inr ⟨_, rfl, l, k⟩)
    rw [nm_box, c, show n + (i - n) = i by omega, hi] at this
    exact hL w (List.mem_of_getElem? this.symm)
/-- what is kept: what the ends rest on -/
def needB (n : Nat) (bs : List (Nat × Nat)) (es : List Nat) (t : Nat) : Bool := (metOf n bs es).getD (n + t) false
theorem clo_rch (hb : boxOk n 0 bs) (hs : ∀ s ∈ es, s < n + bs.length) {i : Nat} (hi : i < n + bs.length) (r : Rch n bs es i) : Clo n bs (needB n bs es) i := by
  by_cases h : i < n
  · exact .inl h
  · refine .inr ⟨i - n, by omega, by omega, ?_⟩
    unfold needB
    rw [show n + (i - n) = i by omega]
    exact rch_met hb hs r
theorem need_kp (hN : NetOk n bs es) : Kp n bs es (needB n bs es) := by
  refine ⟨fun e he => clo_rch hN.bx hN.ew (hN.ew e he) (.start he), fun t b hb k => ?_⟩
  have r := met_rch hN.ew k
  obtain ⟨g1, g2⟩ := boxOk_get hN.bx hb
  have l := (List.getElem?_eq_some_iff.mp hb).1
  exact ⟨clo_rch hN.bx hN.ew (by omega) (.left hb r), clo_rch hN.bx hN.ew (by omega) (.right hb r)⟩
theorem rch_trim (hN : NetOk n bs es) {i : Nat} (r : Rch n bs es i) : Rch n (trimB n bs (needB n bs es)) (es.map (nmOf n (needB n bs es))) (nmOf n (needB n bs es) i) := by
  induction r with
  | start h => exact .start (List.mem_map.mpr ⟨_, h, rfl⟩)
  | @left t b hb h ih =>
    have k : needB n bs es t = true := rch_met hN.bx hN.ew h
    rw [nm_box] at ih
    exact Rch.left (trim_box hb k) ih
  | @right t b hb h ih =>
    have k : needB n bs es t = true := rch_met hN.bx hN.ew h
    rw [nm_box] at ih
    exact Rch.right (trim_box hb k) ih
/-- of it all is needed -/
theorem trim_all (hN : NetOk n bs es) {j : Nat} (hj : j < (trimB n bs (needB n bs es)).length) : needB n (trimB n bs (needB n bs es)) (es.map (nmOf n (needB n bs es))) j = true := by
  have hN' := trim_ok hN (need_kp hN)
  obtain ⟨t, b0, l, k, c, hb, e⟩ := trim_get (List.getElem?_eq_getElem hj)
  have r := rch_trim hN (met_rch hN.ew k)
  rw [nm_box, c] at r
  exact rch_met hN'.bx hN'.ew r
theorem kept_all {k : Nat} : (∀ t, t < k → keep t = true) → keptOf keep k = List.range k ∧ cntB keep k = k := fun h => by
  have e : keptOf keep k = List.range k := List.filter_eq_self.mpr fun t ht => h t (List.mem_range.mp ht)
  exact ⟨e, by rw [← kept_len, e, List.length_range]⟩
theorem trim_same (hb : boxOk n 0 bs) (he : ∀ e ∈ es, e < n + bs.length) (h : ∀ t, t < bs.length → keep t = true) : trimB n bs keep = bs ∧ es.map (nmOf n keep) = es := by
  have nm : ∀ i, i < n + bs.length → nmOf n keep i = i := fun i hi => by
    by_cases hn : i < n
    · exact nm_low hn
    · obtain ⟨t, rfl⟩ := Nat.exists_eq_add_of_le (Nat.le_of_not_lt hn)
      rw [nm_box, (kept_all (k := t) fun s hs => h s (by omega)).2]
  refine ⟨List.ext_getElem? fun i => ?_, ?_⟩
  · unfold trimB
    rw [(kept_all h).1, List.getElem?_map]
    by_cases hi : i < bs.length
    · obtain ⟨g1, g2⟩ := boxOk_get hb (List.getElem?_eq_getElem hi)
      rw [List.getElem?_range hi]
      show some (newB n bs keep i) = _
      unfold newB
      rw [getD_of (List.getElem?_eq_getElem hi), nm _ (by omega), nm _ (by omega), List.getElem?_eq_getElem hi]
    · rw [List.getElem?_eq_none (by rw [List.length_range]; omega), List.getElem?_eq_none (by omega)]
      rfl
  · conv => rhs; rw [← List.map_id es]
    exact List.map_congr_left fun e h => nm e (he e h)
end
/-! ### how long words become when a box is turned -/
theorem lens_more {L n : Nat} {bs : List (Nat × Nat)} {b : Nat × Nat} (h : Lens L (wordsOf n bs)) (h1 : b.1 < n + bs.length) (h2 : b.2 < n + bs.length) : Lens (2 * L) (wordsOf n (bs ++ [b])) := fun w hw => by
  rw [wordsOf_snoc] at hw
  unfold wstep at hw
  rcases List.mem_append.mp hw with z | z
  · have := h w z
    omega
  · rw [List.mem_singleton.mp z]
    have e1 : (wordsOf n bs)[b.1]? = some ((wordsOf n bs)[b.1]'(by rw [wordsOf_len]; exact h1)) := List.getElem?_eq_getElem _
    have e2 : (wordsOf n bs)[b.2]? = some ((wordsOf n bs)[b.2]'(by rw [wordsOf_len]; exact h2)) := List.getElem?_eq_getElem _
    have a1 := h _ (List.mem_of_getElem? e1)
    have a2 := h _ (List.mem_of_getElem? e2)
    rw [getD_of e1, getD_of e2, List.length_append]
    omega
theorem turned_le {L n at_ : Nat} {bs : List (Nat × Nat)} {b : Nat × Nat} (hL : Lens L (wordsOf n bs)) (hb : boxOk n 0 bs) (hb' : boxOk n 0 (bs.set at_ b)) (h2 : 2 ≤ L) :
    ∀ (m i : Nat), i < m → ∀ w w', (wordsOf n bs)[i]? = some w → (wordsOf n (bs.set at_ b))[i]? = some w' → 1 ≤ w'.length ∧ w'.length ≤ L * w.length ∧ (i < n + at_ → w' = w)
  | 0, _, h, _, _, _, _ => nomatch h
  | m + 1, i, h, w, w', e, e' => by
    have lw := hL w (List.mem_of_getElem? e)
    by_cases hn : i < n
    · rw [wordsOf_low hn] at e e'
      cases e
      cases e'
      exact ⟨Nat.le_refl _, by show 1 ≤ L * 1; omega, fun _ => rfl⟩
    · obtain ⟨t, rfl⟩ := Nat.exists_eq_add_of_le (Nat.le_of_not_lt hn)
      have lt : t < bs.length := by
        have := (List.getElem?_eq_some_iff.mp e).1
        rw [wordsOf_len] at this
        omega
      have lt' : t < (bs.set at_ b).length := by rw [List.length_set]; exact lt
      obtain ⟨w1, w2, q1, q2, q3⟩ := word_box hb (List.getElem?_eq_getElem lt)
      obtain ⟨v1, v2, p1, p2, p3⟩ := word_box hb' (List.getElem?_eq_getElem lt')
      obtain ⟨g1, g2⟩ := boxOk_get hb (List.getElem?_eq_getElem lt)
      obtain ⟨k1, k2⟩ := boxOk_get hb' (List.getElem?_eq_getElem lt')
      rw [q3] at e
      cases e
      rw [p3] at e'
      cases e'
      have get : ∀ j, j < n + t → ∃ x y, (wordsOf n bs)[j]? = some x ∧ (wordsOf n (bs.set at_ b))[j]? = some y := fun j hj =>
        ⟨_, _, List.getElem?_eq_getElem (by rw [wordsOf_len]; omega), List.getElem?_eq_getElem (by rw [wordsOf_len, List.length_set]; omega)⟩
      obtain ⟨x1, y1, a1, c1⟩ := get (bs.set at_ b)[t].1 (by omega)
      obtain ⟨x2, y2, a2, c2⟩ := get (bs.set at_ b)[t].2 (by omega)
      obtain ⟨d1, f1, s1⟩ := turned_le hL hb hb' h2 m _ (by omega) x1 y1 a1 c1
      obtain ⟨d2, f2, s2⟩ := turned_le hL hb hb' h2 m _ (by omega) x2 y2 a2 c2
      rw [p1] at c1
      rw [p2] at c2
      cases c1
      cases c2
      rw [List.length_append, List.length_append]
      rw [List.length_append] at lw
      by_cases ht : t = at_
      · have r1 := s1 (by omega)
        have r2 := s2 (by omega)
        subst r1
        subst r2
        have b1 := hL _ (List.mem_of_getElem? a1)
        have b2 := hL _ (List.mem_of_getElem? a2)
        have z1 := hL _ (List.mem_of_getElem? q1)
        have z2 := hL _ (List.mem_of_getElem? q2)
        have : L * 2 ≤ L * (w1.length + w2.length) := Nat.mul_le_mul_left _ (by omega)
        exact ⟨by omega, by omega, fun z => absurd z (by omega)⟩
      · have eb : (bs.set at_ b)[t] = bs[t] := List.getElem_set_ne (fun z => ht z.symm) lt'
        rw [eb] at a1 a2
        rw [q1] at a1
        rw [q2] at a2
        cases a1
        cases a2
        refine ⟨by omega, by rw [Nat.mul_add]; omega, fun z => ?_⟩
        rw [s1 (by omega), s2 (by omega)]
theorem lens_turned {L n at_ : Nat} {bs : List (Nat × Nat)} {b : Nat × Nat} (hL : Lens L (wordsOf n bs)) (hb : boxOk n 0 bs) (hb' : boxOk n 0 (bs.set at_ b)) (h2 : 2 ≤ L) : Lens (L * L) (wordsOf n (bs.set at_ b)) := fun w' hw => by
  obtain ⟨i, hi⟩ := List.getElem?_of_mem hw
  have li := (List.getElem?_eq_some_iff.mp hi).1
  rw [wordsOf_len, List.length_set, ← wordsOf_len] at li
  obtain ⟨a, c, _⟩ := turned_le hL hb hb' h2 (i + 1) i (Nat.lt_succ_self _) _ w' (List.getElem?_eq_getElem li) hi
  have := hL _ (List.getElem_mem li)
  exact ⟨a, Nat.le_trans c (Nat.mul_le_mul_left _ this.2)⟩
theorem occ_box {n t : Nat} {bs : List (Nat × Nat)} {x : Nat × Nat} (b : Nat) (hb : boxOk n 0 bs) (h : bs[t]? = some x) : occ n bs b (n + t) = occ n bs b x.1 + occ n bs b x.2 + (if t = b then 1 else 0) := by
  have ht := (List.getElem?_eq_some_iff.mp h).1
  obtain ⟨g1, g2⟩ := boxOk_get hb h
  have lt : (bs.take t).length = t := by rw [List.length_take, Nat.min_eq_left (by omega)]
  have e : bs = (bs.take t ++ [x]) ++ bs.drop (t + 1) := by
    rw [List.append_assoc]
    have : [x] ++ bs.drop (t + 1) = bs.drop t := by
      rw [List.drop_eq_getElem_cons ht, (List.getElem?_eq_some_iff.mp h).2]
      rfl
    rw [this, List.take_append_drop]
  have l1 : (bs.take t ++ [x]).length = t + 1 := by rw [app1_len, lt]
  have k0 : occ n bs b (n + t) = occ n (bs.take t ++ [x]) b (n + t) := by
    conv => lhs; rw [e]
    exact occ_more _ (by omega)
  have k1 : occ n bs b x.1 = occ n (bs.take t) b x.1 := by
    conv => lhs; rw [e]
    rw [occ_more _ (by omega), occ_more _ (by omega)]
  have k2 : occ n bs b x.2 = occ n (bs.take t) b x.2 := by
    conv => lhs; rw [e]
    rw [occ_more _ (by omega), occ_more _ (by omega)]
  rw [k0, k1, k2]
  have := occ_new (n := n) (b := b) (bs := bs.take t) (x := x.1) (y := x.2)
  rw [lt] at this
  exact this
/-- a box turned: what is beneath a wire once is turned once -/
theorem turned2_le {L n at_ : Nat} {bs : List (Nat × Nat)} {b : Nat × Nat} (hL : Lens L (wordsOf n bs)) (hb : boxOk n 0 bs) (hb' : boxOk n 0 (bs.set at_ b)) (hp : at_ < bs.length → ∃ p, bs[at_]? = some p ∧ (b.1 = p.1 ∨ b.2 = p.2)) :
    ∀ (m i : Nat), i < m → ∀ w w', (wordsOf n bs)[i]? = some w → (wordsOf n (bs.set at_ b))[i]? = some w' → 1 ≤ w'.length ∧ w'.length ≤ w.length + occ n bs at_ i * L ∧ (i < n + at_ → w' = w)
  | 0, _, h, _, _, _, _ => nomatch h
  | m + 1, i, h, w, w', e, e' => by
    have lw := hL w (List.mem_of_getElem? e)
    by_cases hn : i < n
    · rw [wordsOf_low hn] at e e'
      cases e
      cases e'
      exact ⟨Nat.le_refl _, Nat.le_add_right _ _, fun _ => rfl⟩
    · obtain ⟨t, rfl⟩ := Nat.exists_eq_add_of_le (Nat.le_of_not_lt hn)
      have lt : t < bs.length := by
        have := (List.getElem?_eq_some_iff.mp e).1
        rw [wordsOf_len] at this
        omega
      have lt' : t < (bs.set at_ b).length := by rw [List.length_set]; exact lt
      obtain ⟨w1, w2, q1, q2, q3⟩ := word_box hb (List.getElem?_eq_getElem lt)
      obtain ⟨v1, v2, p1, p2, p3⟩ := word_box hb' (List.getElem?_eq_getElem lt')
      obtain ⟨g1, g2⟩ := boxOk_get hb (List.getElem?_eq_getElem lt)
      obtain ⟨k1, k2⟩ := boxOk_get hb' (List.getElem?_eq_getElem lt')
      rw [q3] at e
      cases e
      rw [p3] at e'
      cases e'
      have get : ∀ j, j < n + t → ∃ x y, (wordsOf n bs)[j]? = some x ∧ (wordsOf n (bs.set at_ b))[j]? = some y := fun j hj =>
        ⟨_, _, List.getElem?_eq_getElem (by rw [wordsOf_len]; omega), List.getElem?_eq_getElem (by rw [wordsOf_len, List.length_set]; omega)⟩
      obtain ⟨x1, y1, a1, c1⟩ := get (bs.set at_ b)[t].1 (by omega)
      obtain ⟨x2, y2, a2, c2⟩ := get (bs.set at_ b)[t].2 (by omega)
      obtain ⟨d1, f1, s1⟩ := turned2_le hL hb hb' hp m _ (by omega) x1 y1 a1 c1
      obtain ⟨d2, f2, s2⟩ := turned2_le hL hb hb' hp m _ (by omega) x2 y2 a2 c2
      rw [p1] at c1
      rw [p2] at c2
      cases c1
      cases c2
      have eo := occ_box (n := n) at_ hb (List.getElem?_eq_getElem lt)
      rw [List.length_append, List.length_append]
      rw [List.length_append] at lw
      by_cases ht : t = at_
      · have r1 := s1 (by omega)
        have r2 := s2 (by omega)
        subst r1
        subst r2
        have b1 := hL _ (List.mem_of_getElem? a1)
        have b2 := hL _ (List.mem_of_getElem? a2)
        rw [if_pos ht] at eo
        subst ht
        have eb : (bs.set t b)[t] = b := List.getElem_set_self lt'
        rw [eb] at a1 a2
        obtain ⟨p, hp1, hp2⟩ := hp lt
        rw [List.getElem?_eq_getElem lt] at hp1
        cases hp1
        have key : v1.length + v2.length ≤ w1.length + w2.length + L := by
          rcases hp2 with z | z
          · rw [z, q1] at a1
            cases a1
            omega
          · rw [z, q2] at a2
            cases a2
            omega
        have m1 : L ≤ (occ n bs t bs[t].1 + occ n bs t bs[t].2 + 1) * L := Nat.le_mul_of_pos_left _ (by omega)
        rw [eo]
        exact ⟨by omega, by omega, fun z => absurd z (by omega)⟩
      · have eb : (bs.set at_ b)[t] = bs[t] := List.getElem_set_ne (fun z => ht z.symm) lt'
        rw [if_neg ht, Nat.add_zero] at eo
        simp only [eb] at a1 a2 f1 f2 s1 s2
        rw [q1] at a1
        rw [q2] at a2
        cases a1
        cases a2
        rw [eo, Nat.add_mul]
        refine ⟨by omega, by omega, fun z => ?_⟩
        rw [s1 (by omega), s2 (by omega)]
theorem lens_turned2 {n at_ : Nat} {bs : List (Nat × Nat)} {b : Nat × Nat} (hL : Lens 200 (wordsOf n bs)) (li : Lin n bs) (hb : boxOk n 0 bs) (hb' : boxOk n 0 (bs.set at_ b)) (hp : at_ < bs.length → ∃ p, bs[at_]? = some p ∧ (b.1 = p.1 ∨ b.2 = p.2)) : Lens 400 (wordsOf n (bs.set at_ b)) := fun w' hw => by
  obtain ⟨i, hi⟩ := List.getElem?_of_mem hw
  have li' := (List.getElem?_eq_some_iff.mp hi).1
  rw [wordsOf_len, List.length_set, ← wordsOf_len (n := n) (bs := bs)] at li'
  obtain ⟨a, c, _⟩ := turned2_le hL hb hb' hp (i + 1) i (Nat.lt_succ_self _) _ w' (List.getElem?_eq_getElem li') hi
  have h2 := hL _ (List.getElem_mem li')
  have h3 := li.one (b := at_) (i := i)
  have h4 : occ n bs at_ i * 200 ≤ 1 * 200 := Nat.mul_le_mul_right _ h3
  exact ⟨a, by omega⟩
theorem Lens.mono {L L' : Nat} {ws : List (List Nat)} (h : Lens L ws) (e : L ≤ L') : Lens L' ws := fun w hw => ⟨(h w hw).1, Nat.le_trans (h w hw).2 e⟩
theorem szB {n : Nat} (h : n ≤ 16000000) : n ≤ sizeLine := Nat.le_trans h (by decide)
end My

/-! ranges that are walked later, t[::-1] and t.count(x) of a tuple -/
namespace My
open PySem PySem.Spec PyProof.Rows L2
/-- for x in v, v a range -/
def iRngV (te : TE) : TI := fun σ H R => te σ H fun v H1 => ∃ (a : Addr) (lo hi : Int), v = .ref a ∧ H1 a = some (.rng lo hi) ∧ (-(2 ^ 62) ≤ lo ∧ lo < 2 ^ 62 ∧ -(2 ^ 62) ≤ hi ∧ hi < 2 ^ 62) ∧ R (Itc lo 1 (hi - lo).toNat) H1
theorem pi_rngV {X : Cx} {tg l : Expr} {te : TE} (hl : PE X l te) : PI X tg l (iRngV te) := by
  refine PI.mk fun pins s σ H R I h => thn (hl.run pins s σ H _ I h) fun v s1 hz => ?_
  obtain ⟨x, H1, I1, r1, a, lo, hi, ex, ha, ⟨b1, b2, b3, b4⟩, q⟩ := hz
  subst ex
  cases r1
  obtain ⟨t1, t2, t3, ho⟩ := I1.hok a _ ha
  have ho : IsRange s1.heap a lo hi 1 t1 t2 t3 := ho
  refine wpAny_pyIter_range ho (small_one b1 b2 b3 b4) (pi_one (tk := s1.toks) I1 _ (turn_rangeC _ lo 1 (hi - lo).toNat) ?_ q)
  have e1 : lo + ((0 : Nat) : Int) * 1 = lo := by omega
  have e2 : (((hi - lo).toNat : Nat) : Int) - ((0 : Nat) : Int) = Builtin.Range.rangeSize lo hi 1 := by
    rw [rangeSize_one]
    split <;> omega
  show IsRangeIter _ _ (lo + ((0 : Nat) : Int) * 1) ((((hi - lo).toNat : Nat) : Int) - ((0 : Nat) : Int)) 1
  rw [e1, e2]
  exact Heap.get?_push_size _ rfl
/-- t.count(k), t a tuple of numbers -/
def rCntT (K : PySem.W.Frag) : V → List V → Hp → VK → Prop := fun x xs H Q => ∃ (p : Addr) (ns : List Int) (k : Int), x = .ref p ∧ xs = [.int k] ∧ SqT K H p (ns.map V.int) ∧ Q (.int (ns.count k : Nat)) H
theorem mt_tcount {X : Cx} : MtR X "tuple.count" (rCntT X.K) := by
  intro pins s σ H x xs v us Q I rx rxs h
  obtain ⟨p, ns, k, rfl, rfl, hs, q⟩ := h
  obtain rfl : v = Value.ref p := rx
  obtain ⟨u, rfl, t, rfl⟩ := vals1 rxs
  obtain ⟨its, rv, pt, hz⟩ := I.tuple hs
  obtain ⟨⟨cls, dd, data, sl⟩, ho, hc, n, hd⟩ := (show s.heap.IsTuple p its.toArray from pt)
  simp only at hc hd
  subst hc hd
  have hi := ints_of_vals rv
  refine call_meets PySem.F.slot_tuple_count ⟨_, ho, rfl⟩ PySem.F.entry_tuple_count (PySem.F.args_tuple_count_2 _ _) (SeqAt.tuple_countAt p its.toArray n dd sl (.int k t) (eqk k)) ⟨ho, fun y hy => (eqk_gives hi y (by simpa using hy)).at _ _, ?_⟩
  have ec : its.toArray.toList.countP (eqk k) = ns.count k := eqk_count hi
  rw [ec]
  exact ⟨.int (ns.count k : Nat), H, I.tok _, ⟨s.toks, rfl⟩, q⟩
end My
namespace My
open PySem PySem.Spec PyProof.Rows HT
section
variable {prog : Program} {w : World} {A : Around} {E : Value → Shared → Prop} {s : Shared}
theorem rev_places (n : Nat) : Builtin.Slice.sliceAdjust none none (-1) (n : Int) = ((n : Int) - 1, -1) ∧ Builtin.Slice.slicePlaces ((n : Int) - 1) (-1) (-1) = n := by
  refine ⟨rfl, ?_⟩
  unfold Builtin.Slice.slicePlaces
  rw [if_neg (by decide)]
  by_cases h : (n : Int) - 1 > -1
  · rw [if_pos h, show (- -1 : Int) = 1 by decide, Int.ediv_one]
    omega
  · rw [if_neg h]
    omega
theorem fm_congr {α β : Type} {f g : α → Option β} : ∀ {l : List α}, (∀ x ∈ l, f x = g x) → l.filterMap f = l.filterMap g
  | [], _ => rfl
  | x :: r, h => by rw [List.filterMap_cons, List.filterMap_cons, h x List.mem_cons_self, fm_congr fun y hy => h y (List.mem_cons_of_mem _ hy)]
theorem rev_items (xs : Array Value) : ((List.range xs.size).filterMap fun (k : Nat) => xs[(((xs.size : Int) - 1) + (k : Int) * (-1)).toNat]?).toArray = xs.toList.reverse.toArray := by
  have e : ((List.range xs.size).filterMap fun (k : Nat) => xs[(((xs.size : Int) - 1) + (k : Int) * (-1)).toNat]?) = ((List.range xs.size).map fun k => xs.size - 1 - k).filterMap (xs[·]?) := by
    rw [List.filterMap_map]
    refine fm_congr fun k hk => ?_
    have := List.mem_range.mp hk
    show xs[_]? = xs[xs.size - 1 - k]?
    rw [show (((xs.size : Int) - 1) + (k : Int) * (-1)).toNat = xs.size - 1 - k by omega]
  rw [e, PySem.W.krv_range, List.filterMap_reverse, PySem.W.krv_all]
theorem getItem_tuple_rev {t sl : Addr} {items : Array Value} {v1 v2 vk : Value} {Q : Value → Shared → Prop} (ht : IsTup s.heap t items) (hs : s.heap.IsSliceOf sl v1 v2 vk) (p1 : IsPart v1 none) (p2 : IsPart v2 none) (pk : IsPart vk (some (-1)))
    (h : Q (.ref s.heap.objs.size) { s with heap := s.heap.push { cls := .type "tuple", data := .seq items.toList.reverse.toArray } }) (hsz : items.size ≤ sizeLine) : wpAny (model prog w) A (getItem (.ref t) (.ref sl)) Q E s := by
  obtain ⟨os, hos, hcs, hds⟩ := id hs
  have hT : s.TypeIs (.ref sl) "slice" := ⟨os, hos, hcs⟩
  have hz : sizeOk (.seq items.toList.reverse.toArray) := by
    show items.toList.reverse.toArray.size ≤ sizeLine
    rw [List.size_toArray, List.length_reverse, Array.length_toList]
    exact hsz
  obtain ⟨a1, a2⟩ := rev_places items.size
  unfold getItem
  try with_reducible refine wpAny_holding ?_
  first | refine wpAny_bind (wpAny_pure ?_) | skip
  refine wpAny_bind (wpAny_sequenceKey ht.typeIs (by decide) (wpAny_bind (wpAny_callSpecial?_slot (name := Str.ofString "__getitem__") ht.typeIs PyProof.Rows.slot_tuple_getitem (wpAny_call_entry PyProof.Rows.slot_tuple_getitem ht.typeIs entry_tuple_getitem ?_ (args_tuple_getitem _ _)))))
  show wpAny _ _ (Builtin.Tuple.tupleItemsOf (.ref t) >>= fun z => _) _ _ s
  refine wpAny_bind (tupleItemsOf_ ht (wpAny_bind (wpAny_typeOf hT ?_)))
  rw [if_pos (show (Value.type "slice" == Value.type "slice") = true by decide)]
  refine wpAny_bind ?_
  unfold Builtin.Slice.sliceApplied Builtin.Slice.sliceFields
  refine wpAny_bind (wpAny_bind (wpAny_field hos hds (x := v1) rfl (wpAny_bind (wpAny_field hos hds (x := v2) rfl (wpAny_bind (wpAny_field hos hds (x := vk) rfl (wpAny_pure ?_)))))))
  refine wpAny_bind (slicePart_ pk ?_)
  show wpAny _ _ (if ((-1 : Int) == 0) = true then _ else _) _ _ s
  rw [if_neg (show ¬ ((-1 : Int) == 0) = true by decide)]
  refine wpAny_bind (slicePart_ p1 (wpAny_bind (slicePart_ p2 (wpAny_bind (wpAny_pure ?_)))))
  show wpAny _ _ (match Builtin.Slice.sliceAdjust none none (-1) (items.size : Int) with | (lo, hi) => pure (lo, (-1 : Int), Builtin.Slice.slicePlaces lo hi (-1))) _ _ s
  rw [a1]
  show wpAny _ _ (pure ((items.size : Int) - 1, (-1 : Int), Builtin.Slice.slicePlaces ((items.size : Int) - 1) (-1) (-1))) _ _ s
  rw [a2]
  refine wpAny_pure ?_
  have hno : ¬ ((((items.size : Int) - 1) == 0 && (-1 : Int) == 1 && items.size == items.size) = true) := by
    rw [show ((-1 : Int) == 1) = false by decide, Bool.and_false, Bool.false_and]
    decide
  show wpAny _ _ (if ((((items.size : Int) - 1) == 0 && (-1 : Int) == 1 && items.size == items.size)) = true then _ else _) _ _ s
  rw [if_neg hno, rev_items]
  first
    | exact wpAny_bind (m := Builtin.Tuple.tupleExact _) (wpAny_newObj_type (wpAny_pure ⟨_, rfl, wpAny_pure h⟩) hz)
    | exact wpAny_bind (m := Builtin.Tuple.tupleExact _) (wpAny_newObj_type (wpAny_bind (wpAny_pure (wpAny_pure ⟨_, rfl, wpAny_pure h⟩))) hz)
    | exact wpAny_bind (wpAny_bind (m := Builtin.Tuple.tupleExact _) (wpAny_newObj_type (wpAny_pure (wpAny_pure ⟨_, rfl, wpAny_pure h⟩)) hz))
    | exact wpAny_bind (wpAny_bind (m := Builtin.Tuple.tupleExact _) (wpAny_newObj_type (wpAny_pure ⟨_, rfl, wpAny_pure h⟩) hz))
end
end My
namespace My
open PySem PySem.Spec PyProof.Rows L2
/-- t[::-1], t a tuple -/
def tRevT (K : PySem.W.Frag) (te : TE) : TE := fun σ H Q => te σ H fun x H1 => ∃ a xs, x = .ref a ∧ SqT K H1 a xs ∧ ∀ p, H1 p = none → Q (.ref p) (upd H1 p (.tup xs.reverse))
theorem pe_revT {X : Cx} {e : Expr} {te : TE} {k : Nat} {p1 p2 p3 pos : Pos} (he : PE X e te) : PE X (.Subscript e (.Slice none none (some (.UnaryOp .USub (.Constant (.int 1) k p1) p2)) p3) pos) (tRevT X.K te) := by
  refine PE.mk fun pins s σ H Q I h => Subscript_ (thn (he.run pins s σ H _ I h) fun v s1 hz => ?_)
  obtain ⟨x, H1, I1, r1, a, xs, ex, hx, q⟩ := hz
  subst ex
  cases r1
  have hst : PO X (some (.UnaryOp .USub (.Constant (.int 1) k p1) p2)) (tPart (tUn (rU fun i => .int (-i)) (tC (.int 1)))) := po_some (pe_un un_neg pe_int)
  refine wpAny_Slice (thn (po_none.run pins s1 σ H1 (fun o H2 => o = none ∧ H2 = H1) I1 ⟨rfl, rfl⟩) fun vl s2 hl => ?_)
  obtain ⟨l, H2, I2, pl, el, e2⟩ := hl
  subst el e2
  refine thn (po_none.run pins s2 σ H2 (fun o H3 => o = none ∧ H3 = H2) I2 ⟨rfl, rfl⟩) fun vu s3 hu => ?_
  obtain ⟨u, H3, I3, pu, eu, e3⟩ := hu
  subst eu e3
  refine thn (hst.run pins s3 σ H3 (fun o H4 => o = some (-1) ∧ H4 = H3) I3 ⟨1, rfl, -1, rfl, rfl, rfl⟩) fun vs s4 hv => ?_
  obtain ⟨o, H4, I4, ps, eo, e4⟩ := hv
  subst eo e4
  have I5 : Inv X pins σ H4 { s4 with heap := s4.heap.push { cls := .type "slice", data := .fields #[vl, vu, vs] } } := I4.kept (t' := s4.toks) fun b ob q => Heap.get?_push_of_some _ q
  obtain ⟨its, r, ht, hz⟩ := I5.tuple hx
  have hlen := r.length
  have hT : IsTup (s4.heap.push { cls := .type "slice", data := .fields #[vl, vu, vs] }) a its.toArray := ht
  show wpAny _ X.A (subscriptTail e (.Slice none none (some (.UnaryOp .USub (.Constant (.int 1) k p1) p2)) p3) (.ref a) (.ref s4.heap.objs.size)) _ X.xe { s4 with heap := s4.heap.push { cls := .type "slice", data := .fields #[vl, vu, vs] } }
  refine tail_any (ops := [.ref a, .ref s4.heap.objs.size]) hT.typeIs (PyProof.Rows.slot_tuple_getitem.lookup) (getItem_tuple_rev hT (Heap.IsSliceOf.new _ vl vu vs) pl pu ps ?_ (by rw [List.size_toArray]; omega)) (by with_unfolding_all rfl)
  refine ⟨.ref _, _, I5.laid (t' := s4.toks) (o := .tup xs.reverse) (fun b ob q => Heap.get?_push_of_some _ q) (Nat.le_refl _) ?_, rfl, q _ (I5.hok.fresh (Nat.le_refl _))⟩
  exact ⟨by rw [List.length_reverse]; exact hlen.symm ▸ (by omega), its.reverse, r.reverse, ⟨_, Heap.get?_push_size _ rfl, rfl, 0, by simp⟩⟩
end My
namespace My
open PySem PySem.Spec PyProof.Rows
section
variable {prog : Program} {w : World} {A : Around} {E : Value → Shared → Prop} {s : Shared}
/-- what sorted gathers of a tuple -/
theorem gather_tup {t : Addr} {ys : List Value} {Q : List Value → Shared → Prop} (hy : s.heap.IsTuple t ys.toArray)
    (h : Q ys { s with heap := (s.heap.push (seqObj "list" #[] 0)).update s.heap.objs.size (Obj.mapSeq (· ++ ys.toArray)) }) (hz : ys.length ≤ sizeLine) : wpAny (model prog w) A (collect (.ref t)) Q E s := by
  obtain ⟨ob, g1, g2, m, g3⟩ := id hy
  have g4 : (s.heap.push (seqObj "list" #[] 0)).get? t = some ob := Heap.get?_push_of_some _ g1
  unfold collect
  refine wpAny_bind (wpAny_runValue (codeAny_builtin entry_proto_collect' ?_))
  show wpAny _ _ (do again (.builtin "list.__iadd__" ⟨[← newList [], .ref t], []⟩)) _ _ s
  refine wpAny_bind (wpAny_newList (wpAny_pure ⟨Code.quiet_builtin _ (by decide +kernel), codeAny_builtin entry_list_iadd' ?_⟩))
  show wpAny _ _ (Builtin.List.listExtendWith (.ref s.heap.objs.size) (.ref t) (.ref s.heap.objs.size)) _ _ { s with heap := s.heap.push (seqObj "list" #[] 0) }
  unfold Builtin.List.listExtendWith
  refine wpAny_bind (wpAny_typeOf (T := "tuple") ⟨ob, g4, g2⟩ ?_)
  have e1 : (Value.type "tuple" == Value.type "tuple") = true := by rfl
  rw [if_pos (by rw [e1]; simp)]
  refine wpAny_bind (listItems_at g4 g3 (wpAny_bind (listItems_at (xs := #[]) (n := 0) (Heap.get?_push_size _ rfl) rfl ?_)))
  rw [if_neg (by simp)]
  refine wpAny_bind (listUpdate_at (xs := #[]) (n := 0) (Heap.get?_push_size _ rfl) rfl (wpAny_pure ?_) (Nat.zero_le _) (by show (#[] ++ ys.toArray).size ≤ sizeLine + 1; simp only [Array.size_append, List.size_toArray, List.length_nil]; omega))
  show wpAny (model prog w) A (do
      let o ← load s.heap.objs.size
      match o.data with
      | .seq xs _ => pure xs.toList
      | _ => unsupported "internal:collect") Q E { s with heap := (s.heap.push (seqObj "list" #[] 0)).update s.heap.objs.size (Obj.mapSeq (· ++ ys.toArray)) }
  refine wpAny_bind (wpAny_load (get?_update_seq (Heap.get?_push_size _ rfl) _) ?_)
  show wpAny _ _ (pure ((#[] : Array Value) ++ ys.toArray).toList) Q E _
  have e2 : ((#[] : Array Value) ++ ys.toArray).toList = ys := by simp
  rw [e2]
  exact wpAny_pure h
end
end My
namespace SrtO
open PySem PySem.Spec PyProof.Rows
section
variable {prog : Program} {w : World} {A : Around} {E : Value → Shared → Prop} {s : Shared}
/-- sorted(t) of a tuple -/
theorem sortedT_ord {t : Addr} {ys : List Value} {ltv : Value → Value → Bool} {Q : Value → Shared → Prop} (O : Swo ltv) (hy : s.heap.IsTuple t ys.toArray) (hz : ys.length ≤ sizeLine)
    (hS : 2 ≤ ys.length → ∀ (h₁ : Heap) (a : Addr), h₁.get? a = some (seqObj "list" ys.toArray 0) → (∀ b o, s.heap.get? b = some o → b ≠ a ∧ h₁.get? b = some o) → SortableO prog w A.in1.in1 { s with heap := h₁ } a ys ltv)
    (h : ∀ out : List Value, Srtd ltv out → Stb ltv out ys → Q (.ref (s.heap.objs.size + 1)) { s with heap := sortedAll s.heap ys out.toArray }) : wpAny (model prog w) A (call (.builtin "sorted") [.ref t]) Q E s := by
  refine Calls.call_function_entry kind_sorted plain_sorted entry_sorted (args_sorted1 _) ?_
  unfold Builtin.«sorted»
  refine wpAny_bind (m := checkCount "sorted" 1 1 _) (wpAny_pure (wpAny_bind (My.gather_tup hy (wpAny_bind (wpAny_newList ?_ hz)) hz)))
  have z1 : ((s.heap.push (seqObj "list" #[] 0)).update s.heap.objs.size (Obj.mapSeq (· ++ ys.toArray))).objs.size = s.heap.objs.size + 1 := by rw [Heap.size_update, size_push']
  have z2 : (((s.heap.push (seqObj "list" #[] 0)).update s.heap.objs.size (Obj.mapSeq (· ++ ys.toArray))).push (seqObj "list" ys.toArray 0)).get? (s.heap.objs.size + 1) = some (seqObj "list" ys.toArray 0) := by
    rw [← z1]
    exact Heap.get?_push_size _ rfl
  have z3 : ∀ b o, s.heap.get? b = some o → b ≠ s.heap.objs.size + 1 ∧ (((s.heap.push (seqObj "list" #[] 0)).update s.heap.objs.size (Obj.mapSeq (· ++ ys.toArray))).push (seqObj "list" ys.toArray 0)).get? b = some o := fun b o q => by
    have z4 : b < s.heap.objs.size := Heap.lt_size q
    refine ⟨Nat.ne_of_lt (Nat.lt_succ_of_lt z4), Heap.get?_push_of_some _ ?_⟩
    rw [Heap.get?_update_ne _ _ _ _ (Nat.ne_of_lt z4)]
    exact Heap.get?_push_of_some _ q
  show wpAny _ _ _ _ _ { s with heap := ((s.heap.push (seqObj "list" #[] 0)).update s.heap.objs.size (Obj.mapSeq (· ++ ys.toArray))).push (seqObj "list" ys.toArray 0) }
  rw [z1]
  exact wpAny_bind (wpAny_holding (wpAny_call_entry slot_list_sort ⟨_, z2, rfl⟩ entry_list_sort (list_sort_ord O z2 hz (fun h2 => hS h2 _ _ z2 z3) fun out hs hb => ⟨_, rfl, wpAny_pure ⟨_, rfl, h out hs hb⟩⟩) (args_list_sort _)))
end
end SrtO
namespace My
open PySem PySem.Spec PyProof.Rows L2
open RZ (iZipA pi_zipA ItzT)
def rSrtT (K : PySem.W.Frag) : List V → Hp → VK → Prop := fun vs H Q => ∃ (a : Addr) (ns : List Int), vs = [V.ref a] ∧ SqT K H a (ns.map V.int) ∧
  ∀ (ns' : List Int) (p : Addr), ns'.Perm ns → ns'.Pairwise (· ≤ ·) → H p = none → Q (.ref p) (upd H p (.lst (ns'.map V.int)))
theorem call_srtT {X : Cx} {K : PySem.W.Frag} (hK : X.K = K := by rfl) : CallR X (.builtin "sorted") (rSrtT K) := by
  subst hK
  intro pins s σ H vs us Q I r h
  obtain ⟨a, ns, rfl, hs, q⟩ := h
  obtain ⟨its, rv, pt, hz⟩ := I.tuple hs
  rw [Vals.ref1 r]
  have hi := rv.ints
  refine SrtO.sortedT_ord SrtO.swo_int (show s.heap.IsTuple a its.toArray from pt) (by rw [← rv.length]; exact hz) (fun h2 _ _ _ _ => SrtO.ints_sortable hi h2) fun out h1 h2 => ?_
  obtain ⟨k1, k2, k3⟩ := SrtO.ints_out hi h1 h2
  obtain ⟨ep, he⟩ := PyProof.Rows.sortedAll_at s.heap its out.toArray
  have hl : ((out.map SrtO.iv).map V.int).length ≤ sizeLine := by
    rw [List.length_map, k2.length_eq, ← List.length_map (f := V.int)]
    exact hz
  exact ⟨.ref (s.heap.objs.size + 1), upd H (s.heap.objs.size + 1) (.lst ((out.map SrtO.iv).map V.int)), I.laid (t' := s.toks) (fun _ _ z => PyProof.Rows.sortedAll_old z) (Nat.le_succ _) ⟨hl, out, ep, vals_of_ints k1, he⟩, rfl, q _ _ k2 k3 (I.hok.fresh (Nat.le_succ _))⟩
section
variable {X : Cx} {K : PySem.W.Frag} {k : Nat}
theorem mt_tcountK (h : X.K = K := by rfl) : MtR X "tuple.count" (rCntT K) := h ▸ mt_tcount
theorem pe_revTK {e : Expr} {te : TE} {k : Nat} {p1 p2 p3 pos : Pos} (he : PE X e te) (h : X.K = K := by rfl) : PE X (.Subscript e (.Slice none none (some (.UnaryOp .USub (.Constant (.int 1) k p1) p2)) p3) pos) (tRevT K te) := h ▸ pe_revT he
theorem pe_revLK {e : Expr} {te : TE} {k : Nat} {p1 p2 p3 pos : Pos} (he : PE X e te) (h : X.K = K := by rfl) : PE X (.Subscript e (.Slice none none (some (.UnaryOp .USub (.Constant (.int 1) k p1) p2)) p3) pos) (tRevL K te) := h ▸ pe_revL he
theorem pi_zipAK {e e2 : Expr} {ta : TA} {p pos tpos : Pos} {elts : List Expr} {kk : Nat} (hg : Gl X "zip") (hm : X.mg "zip" = none) (ha : PA X [e, e2] ta)
    (hs : starEach [e, e2] X.env = (false, eval e X.env) :: starEach [e2] X.env := by rfl) (hpl : (backTo pos (starEach [e2] X.env)).any (·.1) = false := by rfl) (h : X.K = K := by rfl) :
    PI X (.Tuple elts kk tpos) (.Call (.Name "zip" p) [e, e2] [] pos) (iZipA K ta) := by
  subst h
  exact pi_zipA hg hm ha hs hpl
/-- range(n) as a value -/
theorem cr_range1 : CallR X (.type "range") (fun vs H Q => ∃ j, vs = [V.int j] ∧ ∀ p, H p = none → Q (.ref p) (upd H p (.rng 0 j))) := by
  intro pins s σ H vs us Q I r h
  obtain ⟨j, rfl, q⟩ := h
  obtain ⟨u, rfl, t, rfl⟩ := vals1 r
  refine call_range_1 ⟨.ref s.heap.objs.size, upd H s.heap.objs.size (.rng 0 j), I.laid (t' := s.toks + 2) (fun b o e => Heap.get?_push_of_some _ e) (Nat.le_refl _) ⟨_, _, _, Heap.get?_push_size _ rfl⟩, rfl, q _ (I.hok.fresh (Nat.le_refl _))⟩
variable {CX : CXT} {j : Nat} {f : Addr} {sp : Sp} {E : XK} {x : Str} {p pos : Pos}
/-- f() -/
theorem pe_df0 (D : Df X.prog X.w X.K X.mg X.base CX j x f [] sp) (hr : Rm k X.A) (hj : j ≤ k) (hg : Gl X x) (hx : Passes CX X E) (hdb : (x == ("__debug__" : Str)) = false := by decide) : PE X (.Call (.Name x p) [] [] pos) (tCall sp [] E tNil) := by
  obtain ⟨fd, F, b, _⟩ := D.ex
  refine PE.mk fun pins s σ H Q I h => wpAny_Call_Name_kw (ld_glob I hg D.gl ?_ hdb)
  exact PySem.W.callWith_K0 I.kIn D.kp (run_fnG F (hr.mono hj) b .nil hx I .nil h)
end
end My

/-! forms of words -/
namespace My
open PySem PySem.Spec PyProof.Rows L2
theorem runD_words2 {jf : PyData → PyData → PyData} {f : List Nat → PyData} {L n : Nat} (hf : ∀ a b : List Nat, 1 ≤ a.length → 1 ≤ b.length → a.length + b.length ≤ L → jf (f a) (f b) = f (a ++ b)) :
    ∀ (bs : List (Nat × Nat)) (ws : List (List Nat)), boxOk n (ws.length - n) bs → n ≤ ws.length → Lens L (bs.foldl wstep ws) → runD jf (ws.map f) bs = (bs.foldl wstep ws).map f
  | [], ws, _, _, _ => rfl
  | b :: r, ws, hb, hn, hL => by
    obtain ⟨h1, h2, h3⟩ := hb
    have i1 : b.1 < ws.length := by omega
    have i2 : b.2 < ws.length := by omega
    obtain ⟨z, ez⟩ := wfold_pre r (wstep ws b)
    have ez' : (b :: r).foldl wstep ws = wstep ws b ++ z := ez
    have up : ∀ w ∈ ws, w ∈ (b :: r).foldl wstep ws := fun w hw => by
      rw [ez']
      exact List.mem_append_left _ (List.mem_append_left _ hw)
    have e : stepD jf (ws.map f) b = (wstep ws b).map f := by
      unfold stepD wstep
      rw [getD_map f (List.getElem?_eq_getElem i1), getD_map f (List.getElem?_eq_getElem i2), getD_of (List.getElem?_eq_getElem i1), getD_of (List.getElem?_eq_getElem i2), List.map_append]
      have m : ws[b.1] ++ ws[b.2] ∈ (b :: r).foldl wstep ws := by
        rw [ez']
        refine List.mem_append_left _ ?_
        unfold wstep
        rw [getD_of (List.getElem?_eq_getElem i1), getD_of (List.getElem?_eq_getElem i2)]
        exact List.mem_append_right _ (List.mem_singleton.mpr rfl)
      have k := (hL _ m).2
      rw [List.length_append] at k
      rw [hf _ _ (hL _ (up _ (List.getElem_mem i1))).1 (hL _ (up _ (List.getElem_mem i2))).1 k]
      rfl
    show runD jf (stepD jf (ws.map f) b) r = (r.foldl wstep (wstep ws b)).map f
    rw [e]
    have l : (wstep ws b).length = ws.length + 1 := by simp [wstep]
    refine runD_words2 (n := n) hf r (wstep ws b) ?_ (by omega) hL
    rw [show (wstep ws b).length - n = ws.length - n + 1 by omega]
    exact h3
/-- what the wires' forms come to -/
theorem forms_run {jf : PyData → PyData → PyData} {f : List Nat → PyData} {L n : Nat} {bs : List (Nat × Nat)} (hf : ∀ a b : List Nat, 1 ≤ a.length → 1 ≤ b.length → a.length + b.length ≤ L → jf (f a) (f b) = f (a ++ b)) (hb : boxOk n 0 bs) (hL : Lens L (wordsOf n bs)) :
    runD jf ((List.range n).map fun k => f [k]) bs = (wordsOf n bs).map f := by
  have e : ((List.range n).map fun k => f [k]) = ((List.range n).map fun k => [k]).map f := by
    rw [List.map_map]
    rfl
  rw [e]
  exact runD_words2 (n := n) hf bs _ (by simpa using hb) (by simp) hL
/-- the numbers of a tuple -/
def natD : PyData → Nat
  | .int i => i.toNat
  | _ => 0
def decW : PyData → List Nat
  | .tuple xs => xs.map natD
  | _ => []
theorem dec_enc (w : List Nat) : decW (encW w) = w := by
  show (w.map nI).map natD = w
  rw [List.map_map]
  conv => rhs; rw [← List.map_id w]
  exact List.map_congr_left fun k _ => by
    show ((k : Int)).toNat = k
    omega
def jOf (J : List Nat → List Nat → List Nat) (x y : PyData) : PyData := encW (J (decW x) (decW y))
theorem jOf_enc {J : List Nat → List Nat → List Nat} (a b : List Nat) : jOf J (encW a) (encW b) = encW (J a b) := by
  unfold jOf
  rw [dec_enc, dec_enc]
def PrN (x : PyData) : Prop := ∃ w : List Nat, x = encW w ∧ w.Nodup ∧ ∀ k ∈ w, k < 12
theorem nodup_len : ∀ (n : Nat) (w : List Nat), w.Nodup → (∀ k ∈ w, k < n) → w.length ≤ n
  | 0, w, _, h => by
    cases w with
    | nil => exact Nat.le_refl _
    | cons k r => exact absurd (h k List.mem_cons_self) (by omega)
  | n + 1, w, hn, h => by
    by_cases hm : n ∈ w
    · have e := List.length_erase_of_mem hm
      have := nodup_len n (w.erase n) (hn.erase n) fun k hk => by
        have h1 := (List.Nodup.mem_erase_iff hn).mp hk
        have h2 := h k h1.2
        omega
      omega
    · have := nodup_len n w hn fun k hk => by
        have h2 := h k hk
        have : k ≠ n := fun z => hm (by rw [← z]; exact hk)
        omega
      omega
/-! ### first comings, last comings -/
def addF (a b : List Nat) : List Nat := a ++ b.filter fun x => !decide (x ∈ a)
def addL (a b : List Nat) : List Nat := a.filter (fun x => !decide (x ∈ b)) ++ b
def fstep (acc : List Nat) (x : Nat) : List Nat := if x ∈ acc then acc else acc ++ [x]
def firstsOf (w : List Nat) : List Nat := w.foldl fstep []
def lastsOf (w : List Nat) : List Nat := (firstsOf w.reverse).reverse
theorem fold_firsts : ∀ (m : Nat) (b acc : List Nat), b.length = m → b.foldl fstep acc = acc ++ (firstsOf b).filter fun x => !decide (x ∈ acc)
  | 0, b, acc, h => by
    rw [List.length_eq_zero_iff.mp h]
    exact (List.append_nil _).symm
  | m + 1, b, acc, h => by
    obtain ⟨c, x, rfl⟩ : ∃ c x, b = c ++ [x] := by
      rcases List.eq_nil_or_concat b with z | ⟨c, x, z⟩
      · rw [z] at h
        cases h
      · exact ⟨c, x, z.trans List.concat_eq_append⟩
    have ih := fold_firsts m c acc (by simpa using h)
    have e1 : firstsOf (c ++ [x]) = fstep (firstsOf c) x := by
      unfold firstsOf
      rw [List.foldl_append]
      rfl
    rw [List.foldl_append, ih, e1]
    show fstep (acc ++ _) x = _
    unfold fstep
    by_cases h1 : x ∈ firstsOf c
    · rw [if_pos h1, if_pos]
      by_cases h2 : x ∈ acc
      · exact List.mem_append_left _ h2
      · exact List.mem_append_right _ (List.mem_filter.mpr ⟨h1, by simp [h2]⟩)
    · rw [if_neg h1, List.filter_append]
      by_cases h2 : x ∈ acc
      · rw [if_pos (List.mem_append_left _ h2)]
        simp [h2]
      · rw [if_neg]
        · simp [h2]
        · intro z
          rcases List.mem_append.mp z with z | z
          · exact h2 z
          · exact h1 (List.mem_filter.mp z).1
theorem firsts_app (a b : List Nat) : firstsOf (a ++ b) = addF (firstsOf a) (firstsOf b) := by
  unfold addF
  rw [← fold_firsts _ b _ rfl]
  unfold firstsOf
  rw [List.foldl_append]
theorem lasts_app (a b : List Nat) : lastsOf (a ++ b) = addL (lastsOf a) (lastsOf b) := by
  unfold lastsOf addL
  rw [List.reverse_append, firsts_app]
  unfold addF
  rw [List.reverse_append, ← List.filter_reverse]
  congr 1
  refine List.filter_congr fun x _ => ?_
  simp
theorem firsts_one (k : Nat) : firstsOf [k] = [k] := rfl
theorem lasts_one (k : Nat) : lastsOf [k] = [k] := rfl
theorem mem_addF {a b : List Nat} {x : Nat} : x ∈ addF a b ↔ x ∈ a ∨ x ∈ b := by
  unfold addF
  rw [List.mem_append, List.mem_filter]
  by_cases h : x ∈ a <;> simp [h]
theorem mem_addL {a b : List Nat} {x : Nat} : x ∈ addL a b ↔ x ∈ a ∨ x ∈ b := by
  unfold addL
  rw [List.mem_append, List.mem_filter]
  by_cases h : x ∈ b <;> simp [h]
theorem nodup_addF {a b : List Nat} (ha : a.Nodup) (hb : b.Nodup) : (addF a b).Nodup := by
  unfold addF
  refine List.nodup_append.mpr ⟨ha, hb.sublist List.filter_sublist, fun x hx y hy z => ?_⟩
  have := (List.mem_filter.mp hy).2
  rw [← z] at this
  simp [hx] at this
theorem nodup_addL {a b : List Nat} (ha : a.Nodup) (hb : b.Nodup) : (addL a b).Nodup := by
  unfold addL
  refine List.nodup_append.mpr ⟨ha.sublist List.filter_sublist, hb, fun x hx y hy z => ?_⟩
  have := (List.mem_filter.mp hx).2
  rw [z] at this
  simp [hy] at this
theorem prN_F {x y : PyData} (hx : PrN x) (hy : PrN y) : PrN (jOf addF x y) := by
  obtain ⟨a, rfl, a1, a2⟩ := hx
  obtain ⟨b, rfl, b1, b2⟩ := hy
  rw [jOf_enc]
  exact ⟨_, rfl, nodup_addF a1 b1, fun k hk => (mem_addF.mp hk).elim (a2 k) (b2 k)⟩
theorem prN_L {x y : PyData} (hx : PrN x) (hy : PrN y) : PrN (jOf addL x y) := by
  obtain ⟨a, rfl, a1, a2⟩ := hx
  obtain ⟨b, rfl, b1, b2⟩ := hy
  rw [jOf_enc]
  exact ⟨_, rfl, nodup_addL a1 b1, fun k hk => (mem_addL.mp hk).elim (a2 k) (b2 k)⟩
/-! ### the places -/
def setOf (n : Nat) (w : List Nat) : List Nat := (List.range n).filter fun k => decide (k ∈ w)
def addS (a b : List Nat) : List Nat := setOf 12 (a ++ b)
theorem nodup_setOf {n : Nat} {w : List Nat} : (setOf n w).Nodup := List.nodup_range.sublist List.filter_sublist
theorem mem_setOf {n k : Nat} {w : List Nat} : k ∈ setOf n w ↔ k < n ∧ k ∈ w := by
  unfold setOf
  rw [List.mem_filter, List.mem_range, decide_eq_true_eq]
theorem prN_S {x y : PyData} (hx : PrN x) (hy : PrN y) : PrN (jOf addS x y) := by
  obtain ⟨a, rfl, a1, a2⟩ := hx
  obtain ⟨b, rfl, b1, b2⟩ := hy
  rw [jOf_enc]
  exact ⟨_, rfl, nodup_setOf, fun k hk => (mem_setOf.mp hk).1⟩
theorem setOf_app (a b : List Nat) : addS (setOf 12 a) (setOf 12 b) = setOf 12 (a ++ b) := by
  unfold addS
  refine List.filter_congr fun k hk => ?_
  have := List.mem_range.mp hk
  refine decide_eq_decide.mpr ?_
  rw [List.mem_append, List.mem_append, mem_setOf, mem_setOf]
  exact ⟨fun z => z.imp (·.2) (·.2), fun z => z.imp (fun y => ⟨this, y⟩) fun y => ⟨this, y⟩⟩
theorem setOf_le {n : Nat} {w : List Nat} (hn : n ≤ 12) (h : ∀ k ∈ w, k < n) : setOf 12 w = setOf n w := by
  have key : ∀ m, n ≤ m → setOf m w = setOf n w := by
    intro m
    induction m with
    | zero =>
      intro hm
      rw [Nat.le_zero.mp hm]
    | succ m ih =>
      intro hm
      by_cases e : n = m + 1
      · rw [e]
      · rw [← ih (by omega)]
        unfold setOf
        rw [List.range_succ, List.filter_append]
        have : ¬ m ∈ w := fun z => by
          have := h m z
          omega
        simp [this]
  exact key 12 hn
theorem setOf_one {k : Nat} (h : k < 12) : setOf 12 [k] = [k] := by
  match k, h with
  | 0, _ => decide
  | 1, _ => decide
  | 2, _ => decide
  | 3, _ => decide
  | 4, _ => decide
  | 5, _ => decide
  | 6, _ => decide
  | 7, _ => decide
  | 8, _ => decide
  | 9, _ => decide
  | 10, _ => decide
  | 11, _ => decide
  | k + 12, h => omega
/-- two in order, the one the other's turn -/
theorem sorted_eq : ∀ {a b : List Int}, a.Perm b → a.Pairwise (· ≤ ·) → b.Pairwise (· ≤ ·) → a = b
  | [], b, p, _, _ => (List.nil_perm.mp p).symm
  | x :: a, [], p, _, _ => absurd p.length_eq (by simp)
  | x :: a, y :: b, p, h1, h2 => by
    have hx : x ∈ y :: b := p.mem_iff.mp List.mem_cons_self
    have hy : y ∈ x :: a := p.mem_iff.mpr List.mem_cons_self
    have e : x = y := by
      rcases List.mem_cons.mp hx with z | z
      · exact z
      · rcases List.mem_cons.mp hy with z' | z'
        · exact z'.symm
        · have k1 := (List.pairwise_cons.mp h1).1 y z'
          have k2 := (List.pairwise_cons.mp h2).1 x z
          omega
    subst e
    rw [sorted_eq ((List.perm_cons x).mp p) (List.pairwise_cons.mp h1).2 (List.pairwise_cons.mp h2).2]
theorem sorted_setOf {n : Nat} {w : List Nat} : ((setOf n w).map fun k : Nat => (k : Int)).Pairwise (· ≤ ·) := by
  refine List.pairwise_map.mpr ?_
  have : (List.range n).Pairwise (· < ·) := List.pairwise_lt_range
  exact (this.sublist List.filter_sublist).imp fun h => by omega
theorem sorted_addS {a b : List Nat} (ha : a.Nodup) (hb : b.Nodup) (h1 : ∀ k ∈ a, k < 12) (h2 : ∀ k ∈ b, k < 12) {ns : List Int} (p : ns.Perm ((addF a b).map fun k : Nat => (k : Int))) (hs : ns.Pairwise (· ≤ ·)) : ns = (addS a b).map fun k : Nat => (k : Int) := by
  refine sorted_eq (p.trans (List.Perm.map _ ?_)) hs sorted_setOf
  refine (List.perm_ext_iff_of_nodup (nodup_addF ha hb) nodup_setOf).mpr fun k => ?_
  rw [mem_addF, mem_setOf, List.mem_append]
  exact ⟨fun z => ⟨z.elim (h1 k) (h2 k), z⟩, fun z => z.2⟩
theorem walk_zipT {K : PySem.W.Frag} {a b : Addr} {xs ys : List V} {n : Nat} (hx : xs.length = n) (hy : ys.length = n) : L2.Walk (RZ.ItzT K a b) n (fun H => SqT K H a xs ∧ SqT K H b ys) (L2.YPair (fun i => xs[i]?) fun i => ys[i]?) := by
  refine ⟨fun i _ hi q => ?_, fun _ q => ⟨xs, ys, q.1, q.2, Or.inl (by omega)⟩, fun i H v H' _ q y => ?_⟩
  · have h1 : i < xs.length := by omega
    have h2 : i < ys.length := by omega
    exact ⟨xs, ys, xs[i], ys[i], q.1, q.2, List.getElem?_eq_getElem h1, List.getElem?_eq_getElem h2⟩
  · obtain ⟨T, x, z, k1, k2, k3, k4, k5⟩ := y
    exact ⟨T, x, z, k1, k2, k3, k4 xs q.1, k5 ys q.2⟩
/-! ### how often -/
def countsOf (n : Nat) (w : List Nat) : List Nat := (List.range n).map fun k => w.count k
def addC (a b : List Nat) : List Nat := List.zipWith (· + ·) a b
theorem counts_app (n : Nat) (a b : List Nat) : addC (countsOf n a) (countsOf n b) = countsOf n (a ++ b) := by
  unfold addC countsOf
  rw [List.zipWith_map, List.zipWith_self]
  exact List.map_congr_left fun k _ => (List.count_append).symm
/-! ### the ends -/
def endsOf (w : List Nat) : List Nat := [w.headD 0, w.getLastD 0]
def addE (a b : List Nat) : List Nat := [a.headD 0, b.getD 1 0]
theorem ends_app {a b : List Nat} (ha : 1 ≤ a.length) (hb : 1 ≤ b.length) : addE (endsOf a) (endsOf b) = endsOf (a ++ b) := by
  match a, b, ha, hb with
  | x :: a, y :: b, _, _ =>
    show [x, (y :: b).getLastD 0] = [x, (x :: a ++ y :: b).getLastD 0]
    rw [List.getLastD_eq_getLast?, List.getLastD_eq_getLast?, List.getLast?_append]
    have e : (y :: b).getLast? = some ((y :: b).getLast (by simp)) := List.getLast?_eq_some_getLast _
    rw [e]
    rfl
/-! ### tuples that are known to be bare -/
def FrzT (H : Hp) (a : Addr) (xs : List V) : Prop := ∃ o : Obj, H a = some (.frz o (.tup xs)) ∧ o.cls = .type "tuple" ∧ o.dict = none
theorem FrzT.sq {K : PySem.W.Frag} {H : Hp} {a : Addr} {xs : List V} (h : FrzT H a xs) : SqT K H a xs := by
  obtain ⟨o, e, _⟩ := h
  exact Or.inl (Or.inr ⟨o, e⟩)
theorem FrzT.sm {c : Ct} {M : List Addr} {H H' : Hp} {a : Addr} {xs : List V} (h : FrzT H a xs) (s : Sm c M H H') (n : a ∉ M) : FrzT H' a xs := by
  obtain ⟨o, e, r⟩ := h
  exact ⟨o, s.ex a _ n e nofun, r⟩
def tTupF (t : TA) : TE := fun σ H Q => t σ H fun xs H1 => xs.length ≤ sizeLine ∧ ∀ (p : Addr) (o : Obj), H1 p = none → o.cls = .type "tuple" → o.dict = none → Q (.ref p) (upd H1 p (.frz o (.tup xs)))
theorem pe_tupF {X : Cx} {es : List Expr} {t : TA} {pos : Pos} {x1 : Nat} (h : PA X es t) : PE X (.Tuple es x1 pos) (tTupF t) := by
  refine ⟨fun pins s σ H Q I hq => ?_⟩
  refine wpAny_Tuple_spliced (thn (h.run pos pins s σ H _ I hq) fun us s1 hz => ?_)
  obtain ⟨xs, H1, I1, r, z, q⟩ := hz
  refine ⟨by rw [← r.length]; exact z, ?_⟩
  have hf : H1 s1.heap.objs.size = none := I1.hok.fresh (Nat.le_refl _)
  refine ⟨.ref s1.heap.objs.size, upd H1 s1.heap.objs.size (.frz _ (.tup xs)), I1.laid (t' := s1.toks) (fun b u e => Heap.get?_push_of_some _ e) (Nat.le_refl _) ⟨Heap.get?_push_size _ rfl, z, us, r, ⟨_, Heap.get?_push_size _ rfl, rfl, _, rfl⟩⟩, rfl, q _ _ hf rfl rfl⟩
def rCatF (K : PySem.W.Frag) : R2 := fun x y H Q => ∃ a b xs ys, x = .ref a ∧ y = .ref b ∧ SqT K H a xs ∧ SqT K H b ys ∧ xs ≠ [] ∧ ys ≠ [] ∧ xs.length + ys.length ≤ sizeLine ∧
  ∀ (p : Addr) (o : Obj), H p = none → o.cls = .type "tuple" → o.dict = none → Q (.ref p) (upd H p (.frz o (.tup (xs ++ ys))))
theorem op_catF {X : Cx} : OpR X (binaryOp .Add) (rCatF X.K) := by
  intro pins s σ H x y v u Q I rx ry h
  obtain ⟨a, b, xs, ys, rfl, rfl, ha, hb, hx, hy, hz, q2⟩ := h
  cases rx
  cases ry
  obtain ⟨its, r1, p1, _⟩ := I.tuple ha
  obtain ⟨its2, r2, p2, _⟩ := I.tuple hb
  refine HT.cat_tup p1 p2 (fun z => hx (r1.nil_iff.mp z)) (fun z => absurd (r2.nil_iff.mp z) hy) (fun z => ?_) (by rw [← r1.length, ← r2.length]; exact hz)
  refine ⟨.ref s.heap.objs.size, _, I.laid (t' := s.toks) (o := .frz _ (.tup (xs ++ ys))) (fun b ob q => Heap.get?_push_of_some _ q) (Nat.le_refl _) ⟨Heap.get?_push_size _ rfl, by rw [List.length_append]; exact hz, _, r1.append r2, IsTup.new _ _⟩, rfl, q2 _ _ (I.hok.fresh (Nat.le_refl _)) rfl rfl⟩
/-- numbers are added, tuples are joined to a bare one -/
def rAddF (K : PySem.W.Frag) : R2 := fun x y H Q => rAddG K x y H Q ∨ rCatF K x y H Q
theorem op_addF {X : Cx} {K : PySem.W.Frag} (h : X.K = K := by rfl) : OpR X (binaryOp .Add) (rAddF K) := by
  subst h
  exact OpR.either op_addG op_catF
/-- t.count(x), t a tuple of numbers -/
def tCnt (K : PySem.W.Frag) (to : TE) (t : TA) : TE := fun σ H Q => to σ H fun x H1 => (∃ p ys, x = .ref p ∧ FrzT H1 p ys) ∧ t σ H1 fun xs H2 => rCntT K x xs H2 Q
section
variable {X : Cx} {K : PySem.W.Frag}
theorem pe_cntK {o e : Expr} {to : TE} {t : TA} {apos cpos : Pos} (ho : PE X o to) (ha : PA X [e] t)
    (hbase : attributeBase o "count" X.env (eval o X.env) = eval o X.env := by rfl)
    (hfew : ((backTo cpos (starEach [e] X.env)).all (fun x => !x.1) && (backToKw cpos (keywordEach [] X.env)).all (fun x => x.1.isSome)
      && decide ([e].length + ([] : List Keyword).length + (if ([] : List Keyword).isEmpty then 0 else 1) < 30)) = true := by rfl)
    (hline : (apos.endLine == cpos.line) = true := by rfl) (hs : starEach [e] X.env = (false, eval e X.env) :: starEach [] X.env := by rfl) (hplain : (backTo cpos (starEach [] X.env)).any (·.1) = false := by rfl) (h : X.K = K := by rfl) :
    PE X (.Call (.Attribute o "count" apos) [e] [] cpos) (tCnt K to t) := by
  subst h
  refine ⟨fun pins s σ H Q I h => ?_⟩
  refine wpAny_Call_method_late hbase hfew hline rfl (thn (ho.run pins s σ H _ I h) fun v s1 hz => ?_)
  obtain ⟨x, H1, I1, r1, ⟨p, ys, rfl, hsq⟩, q1⟩ := hz
  cases r1
  obtain ⟨ob, ho, hcl, hdn⟩ := hsq
  obtain ⟨hob, _⟩ := I1.hok p _ ho
  refine ⟨"tuple", "tuple.count", PySem.F.plainAttrs_tuple, PySem.F.slot_tuple_count, PySem.F.type_tuple_count, ⟨ob, hob, hcl⟩, fun a e => ?_, ?_⟩
  · cases e
    exact ⟨ob, hob, hdn⟩
  · have hA := ha.run cpos pins s1 σ H1 _ I1 q1
    rw [hs] at hA ⊢
    refine Calls.callWith_builtin (by show (false || (backTo cpos (starEach [] X.env)).any (·.1)) = false; rw [hplain]; rfl) (Calls.evalArgs_plain ?_)
    exact thn hA fun us s2 ⟨vs, H2, I2, r2, q2⟩ => mt_tcount pins s2 σ H2 (.ref p) vs (.ref p) us Q I2 rfl r2 q2
end
end My

namespace Kx
open PySem PySem.Spec PyProof.Rows L2 My
open LamX (CodeO TabS ExtN)
open GxR (TabG Tabbed)
def topS (i : Nat) : Stmt := PySem.Challenge.pw_runnets_k09_whole_forms_by_own_words.main.body.getD i (.Pass ⟨0, 0, 0, 0⟩)
abbrev s_run_through : Stmt := topS 8
theorem sc_run_through : FnScope ["net", "worths", "joined", "found", "ahead", "behind"] ["net", "worths", "joined"] (defScope s_run_through) :=
  ⟨rfl, rfl, rfl, by decide +kernel, rfl, by decide +kernel, by decide +kernel⟩
abbrev s_wire_lengths : Stmt := topS 9
theorem sc_wire_lengths : FnScope ["net"] ["net"] (defScope s_wire_lengths) :=
  ⟨rfl, rfl, rfl, by decide +kernel, rfl, by decide +kernel, by decide +kernel⟩
abbrev s_join_words : Stmt := topS 10
theorem sc_join_words : FnScope ["ahead", "behind"] ["ahead", "behind"] (defScope s_join_words) :=
  ⟨rfl, rfl, rfl, by decide +kernel, rfl, by decide +kernel, by decide +kernel⟩
abbrev s_short_words : Stmt := topS 11
theorem sc_short_words : FnScope ["net", "place"] ["net"] (defScope s_short_words) :=
  ⟨rfl, rfl, rfl, by decide +kernel, rfl, by decide +kernel, by decide +kernel⟩
abbrev s_join_firsts : Stmt := topS 13
theorem sc_join_firsts : FnScope ["ahead", "behind", "place"] ["ahead", "behind"] (defScope s_join_firsts) :=
  ⟨rfl, rfl, rfl, by decide +kernel, rfl, by decide +kernel, by decide +kernel⟩
abbrev s_join_lasts : Stmt := topS 14
theorem sc_join_lasts : FnScope ["ahead", "behind", "place"] ["ahead", "behind"] (defScope s_join_lasts) :=
  ⟨rfl, rfl, rfl, by decide +kernel, rfl, by decide +kernel, by decide +kernel⟩
abbrev s_join_sets : Stmt := topS 15
theorem sc_join_sets : FnScope ["ahead", "behind"] ["ahead", "behind"] (defScope s_join_sets) :=
  ⟨rfl, rfl, rfl, by decide +kernel, rfl, by decide +kernel, by decide +kernel⟩
abbrev s_join_ends : Stmt := topS 16
theorem sc_join_ends : FnScope ["ahead", "behind"] ["ahead", "behind"] (defScope s_join_ends) :=
  ⟨rfl, rfl, rfl, by decide +kernel, rfl, by decide +kernel, by decide +kernel⟩
abbrev s_join_counts : Stmt := topS 17
theorem sc_join_counts : FnScope ["ahead", "behind", "one", "two"] ["ahead", "behind"] (defScope s_join_counts) :=
  ⟨rfl, rfl, rfl, by decide +kernel, rfl, by decide +kernel, by decide +kernel⟩
abbrev s_place_counts : Stmt := topS 18
theorem sc_place_counts : FnScope ["net", "places", "single", "place", "other"] ["net"] (defScope s_place_counts) :=
  ⟨rfl, rfl, rfl, by decide +kernel, rfl, by decide +kernel, by decide +kernel⟩
abbrev s_wire_forms : Stmt := topS 19
theorem sc_wire_forms : FnScope ["net", "kind", "alone", "place", "counts", "row", "many"] ["net", "kind"] (defScope s_wire_forms) :=
  ⟨rfl, rfl, rfl, by decide +kernel, rfl, by decide +kernel, by decide +kernel⟩
abbrev s_is_whole : Stmt := topS 21
theorem sc_is_whole : FnScope ["value", "least", "most"] ["value", "least", "most"] (defScope s_is_whole) :=
  ⟨rfl, rfl, rfl, by decide +kernel, rfl, by decide +kernel, by decide +kernel⟩
abbrev s_is_row : Stmt := topS 22
theorem sc_is_row : FnScope ["value", "least", "most"] ["value", "least", "most"] (defScope s_is_row) :=
  ⟨rfl, rfl, rfl, by decide +kernel, rfl, by decide +kernel, by decide +kernel⟩
abbrev s_are_wires : Stmt := topS 27
theorem sc_are_wires : FnScope ["values", "many"] ["values", "many"] (defScope s_are_wires) :=
  ⟨rfl, rfl, rfl, by decide +kernel, rfl, by decide +kernel, by decide +kernel⟩
abbrev s_is_net : Stmt := topS 28
theorem sc_is_net : FnScope ["value", "places", "boxes", "ends", "index", "box"] ["value"] (defScope s_is_net) :=
  ⟨rfl, rfl, rfl, by decide +kernel, rfl, by decide +kernel, by decide +kernel⟩
abbrev s_check_net : Stmt := topS 29
theorem sc_check_net : FnScope ["net"] ["net"] (defScope s_check_net) :=
  ⟨rfl, rfl, rfl, by decide +kernel, rfl, by decide +kernel, by decide +kernel⟩
abbrev s_check_wire : Stmt := topS 30
theorem sc_check_wire : FnScope ["net", "wire"] ["net", "wire"] (defScope s_check_wire) :=
  ⟨rfl, rfl, rfl, by decide +kernel, rfl, by decide +kernel, by decide +kernel⟩
abbrev s_is_kind : Stmt := topS 33
theorem sc_is_kind : FnScope ["value"] ["value"] (defScope s_is_kind) :=
  ⟨rfl, rfl, rfl, by decide +kernel, rfl, by decide +kernel, by decide +kernel⟩
abbrev s_check_kind : Stmt := topS 34
theorem sc_check_kind : FnScope ["kind"] ["kind"] (defScope s_check_kind) :=
  ⟨rfl, rfl, rfl, by decide +kernel, rfl, by decide +kernel, by decide +kernel⟩
abbrev s_check_short : Stmt := topS 35
theorem sc_check_short : FnScope ["long", "kind"] ["long", "kind"] (defScope s_check_short) :=
  ⟨rfl, rfl, rfl, by decide +kernel, rfl, by decide +kernel, by decide +kernel⟩
abbrev s_form_of : Stmt := topS 36
theorem sc_form_of : FnScope ["net", "wire", "kind"] ["net", "wire", "kind"] (defScope s_form_of) :=
  ⟨rfl, rfl, rfl, by decide +kernel, rfl, by decide +kernel, by decide +kernel⟩
abbrev s_spring : Stmt := topS 38
theorem sc_spring : FnScope ["script", "turn", "cell", "mixed", "each"] ["script", "turn"] (defScope s_spring) :=
  ⟨rfl, rfl, rfl, by decide +kernel, rfl, by decide +kernel, by decide +kernel⟩
abbrev s_draw : Stmt := topS 39
theorem sc_draw : FnScope ["spring", "size", "digit"] ["spring", "size"] (defScope s_draw) :=
  ⟨rfl, rfl, rfl, by decide +kernel, rfl, by decide +kernel, by decide +kernel⟩
abbrev s_pick : Stmt := topS 40
theorem sc_pick : FnScope ["spring", "some"] ["spring", "some"] (defScope s_pick) :=
  ⟨rfl, rfl, rfl, by decide +kernel, rfl, by decide +kernel, by decide +kernel⟩
abbrev s_tone : Stmt := topS 41
theorem sc_tone : FnScope ["spring"] ["spring"] (defScope s_tone) :=
  ⟨rfl, rfl, rfl, by decide +kernel, rfl, by decide +kernel, by decide +kernel⟩
abbrev s_tones : Stmt := topS 42
theorem sc_tones : FnScope [] [] (defScope s_tones) :=
  ⟨rfl, rfl, rfl, by decide +kernel, rfl, by decide +kernel, by decide +kernel⟩
abbrev s_joint : Stmt := topS 43
theorem sc_joint : FnScope ["boxes", "words", "first", "second"] ["boxes", "words", "first", "second"] (defScope s_joint) :=
  ⟨rfl, rfl, rfl, by decide +kernel, rfl, by decide +kernel, by decide +kernel⟩
abbrev s_web : Stmt := topS 44
theorem sc_web : FnScope ["spring", "most", "length", "size", "boxes", "words", "ends", "k", "turn", "top", "way", "first", "second", "lot"] ["spring", "most", "length"] (defScope s_web) :=
  ⟨rfl, rfl, rfl, by decide +kernel, rfl, by decide +kernel, by decide +kernel⟩
abbrev s_padded : Stmt := topS 45
theorem sc_padded : FnScope ["spring", "boxes", "words", "size", "first", "second", "tone", "place", "turn"] ["spring", "boxes", "words", "size", "first", "second", "tone"] (defScope s_padded) :=
  ⟨rfl, rfl, rfl, by decide +kernel, rfl, by decide +kernel, by decide +kernel⟩
abbrev s_led : Stmt := topS 46
theorem sc_led : FnScope ["spring", "boxes", "words", "size", "first", "second", "tone"] ["spring", "boxes", "words", "size", "first", "second", "tone"] (defScope s_led) :=
  ⟨rfl, rfl, rfl, by decide +kernel, rfl, by decide +kernel, by decide +kernel⟩
abbrev s_parts : Stmt := topS 47
theorem sc_parts : FnScope ["spring", "boxes", "words", "size", "parts", "tone", "turn", "at", "both"] ["spring", "boxes", "words", "size", "parts", "tone"] (defScope s_parts) :=
  ⟨rfl, rfl, rfl, by decide +kernel, rfl, by decide +kernel, by decide +kernel⟩
abbrev s_stretch : Stmt := topS 48
theorem sc_stretch : FnScope ["spring", "boxes", "words", "size", "low", "high", "tone", "parts"] ["spring", "boxes", "words", "size", "low", "high", "tone"] (defScope s_stretch) :=
  ⟨rfl, rfl, rfl, by decide +kernel, rfl, by decide +kernel, by decide +kernel⟩
abbrev s_plan : Stmt := topS 49
theorem sc_plan : FnScope ["spring", "size", "k", "asked", "turn", "low"] ["spring"] (defScope s_plan) :=
  ⟨rfl, rfl, rfl, by decide +kernel, rfl, by decide +kernel, by decide +kernel⟩
abbrev s_built : Stmt := topS 50
theorem sc_built : FnScope ["spring", "size", "asked", "tone", "boxes", "words", "ends", "k", "wish", "place", "ahead", "part"] ["spring", "size", "asked", "tone"] (defScope s_built) :=
  ⟨rfl, rfl, rfl, by decide +kernel, rfl, by decide +kernel, by decide +kernel⟩
abbrev s_swerve : Stmt := topS 51
theorem sc_swerve : FnScope ["spring", "size", "boxes", "ends", "asked", "way", "at", "other_way", "low"] ["spring", "size", "boxes", "ends", "asked"] (defScope s_swerve) :=
  ⟨rfl, rfl, rfl, by decide +kernel, rfl, by decide +kernel, by decide +kernel⟩
abbrev s_wished : Stmt := topS 52
theorem sc_wished : FnScope ["spring", "tone", "size", "asked", "boxes", "ends"] ["spring", "tone"] (defScope s_wished) :=
  ⟨rfl, rfl, rfl, by decide +kernel, rfl, by decide +kernel, by decide +kernel⟩
abbrev s_words : Stmt := topS 53
theorem sc_words : FnScope ["web", "words", "k", "box"] ["web"] (defScope s_words) :=
  ⟨rfl, rfl, rfl, by decide +kernel, rfl, by decide +kernel, by decide +kernel⟩
abbrev s_form : Stmt := topS 54
theorem sc_form : FnScope ["word", "size", "tone", "k", "found", "place", "counts", "many"] ["word", "size", "tone"] (defScope s_form) :=
  ⟨rfl, rfl, rfl, by decide +kernel, rfl, by decide +kernel, by decide +kernel⟩
abbrev s_right : Stmt := topS 55
theorem sc_right : FnScope ["spring", "tone", "web", "size", "words", "late", "some", "told", "k", "last"] ["spring"] (defScope s_right) :=
  ⟨rfl, rfl, rfl, by decide +kernel, rfl, by decide +kernel, by decide +kernel⟩
abbrev s_law : Stmt := topS 56
theorem sc_law : FnScope ["script", "turn"] ["script"] (defScope s_law) :=
  ⟨rfl, rfl, rfl, by decide +kernel, rfl, by decide +kernel, by decide +kernel⟩
structure Ads where
  a_run_through : Addr
  a_wire_lengths : Addr
  a_join_words : Addr
  a_short_words : Addr
  a_join_firsts : Addr
  a_join_lasts : Addr
  a_join_sets : Addr
  a_join_ends : Addr
  a_join_counts : Addr
  a_place_counts : Addr
  a_wire_forms : Addr
  a_is_whole : Addr
  a_is_row : Addr
  a_are_wires : Addr
  a_is_net : Addr
  a_check_net : Addr
  a_check_wire : Addr
  a_is_kind : Addr
  a_check_kind : Addr
  a_check_short : Addr
  a_form_of : Addr
  a_spring : Addr
  a_draw : Addr
  a_pick : Addr
  a_tone : Addr
  a_tones : Addr
  a_joint : Addr
  a_web : Addr
  a_padded : Addr
  a_led : Addr
  a_parts : Addr
  a_stretch : Addr
  a_plan : Addr
  a_built : Addr
  a_swerve : Addr
  a_wished : Addr
  a_words : Addr
  a_form : Addr
  a_right : Addr
  a_law : Addr
  c_wire_lengths : Addr
  p_wire_lengths : Addr
  c_are_wires : Addr
  p_are_wires : Addr
  n_NAMED_KINDS : Addr
structure Txt (K : PySem.W.Frag) (mg : Str → Option Value) (A : Ads) : Prop where
  f_run_through : ∃ fd, Fun K "run_through" "run_through" s_run_through A.a_run_through fd ∧ Binds K fd ["net", "worths", "joined"] []
  g_run_through : mg "run_through" = some (.ref A.a_run_through)
  f_wire_lengths : ∃ fd, Fun K "wire_lengths" "wire_lengths" s_wire_lengths A.a_wire_lengths fd ∧ Binds K fd ["net"] []
  g_wire_lengths : mg "wire_lengths" = some (.ref A.a_wire_lengths)
  f_join_words : ∃ fd, Fun K "join_words" "join_words" s_join_words A.a_join_words fd ∧ Binds K fd ["ahead", "behind"] []
  g_join_words : mg "join_words" = some (.ref A.a_join_words)
  f_short_words : ∃ fd, Fun K "short_words" "short_words" s_short_words A.a_short_words fd ∧ Binds K fd ["net"] []
  g_short_words : mg "short_words" = some (.ref A.a_short_words)
  f_join_firsts : ∃ fd, Fun K "join_firsts" "join_firsts" s_join_firsts A.a_join_firsts fd ∧ Binds K fd ["ahead", "behind"] []
  g_join_firsts : mg "join_firsts" = some (.ref A.a_join_firsts)
  f_join_lasts : ∃ fd, Fun K "join_lasts" "join_lasts" s_join_lasts A.a_join_lasts fd ∧ Binds K fd ["ahead", "behind"] []
  g_join_lasts : mg "join_lasts" = some (.ref A.a_join_lasts)
  f_join_sets : ∃ fd, Fun K "join_sets" "join_sets" s_join_sets A.a_join_sets fd ∧ Binds K fd ["ahead", "behind"] []
  g_join_sets : mg "join_sets" = some (.ref A.a_join_sets)
  f_join_ends : ∃ fd, Fun K "join_ends" "join_ends" s_join_ends A.a_join_ends fd ∧ Binds K fd ["ahead", "behind"] []
  g_join_ends : mg "join_ends" = some (.ref A.a_join_ends)
  f_join_counts : ∃ fd, Fun K "join_counts" "join_counts" s_join_counts A.a_join_counts fd ∧ Binds K fd ["ahead", "behind"] []
  g_join_counts : mg "join_counts" = some (.ref A.a_join_counts)
  f_place_counts : ∃ fd, Fun K "place_counts" "place_counts" s_place_counts A.a_place_counts fd ∧ Binds K fd ["net"] []
  g_place_counts : mg "place_counts" = some (.ref A.a_place_counts)
  f_wire_forms : ∃ fd, Fun K "wire_forms" "wire_forms" s_wire_forms A.a_wire_forms fd ∧ Binds K fd ["net", "kind"] []
  g_wire_forms : mg "wire_forms" = some (.ref A.a_wire_forms)
  f_is_whole : ∃ fd, Fun K "is_whole" "is_whole" s_is_whole A.a_is_whole fd ∧ Binds K fd ["value", "least", "most"] []
  g_is_whole : mg "is_whole" = some (.ref A.a_is_whole)
  f_is_row : ∃ fd, Fun K "is_row" "is_row" s_is_row A.a_is_row fd ∧ Binds K fd ["value", "least", "most"] []
  g_is_row : mg "is_row" = some (.ref A.a_is_row)
  f_are_wires : ∃ fd, Fun K "are_wires" "are_wires" s_are_wires A.a_are_wires fd ∧ Binds K fd ["values", "many"] []
  g_are_wires : mg "are_wires" = some (.ref A.a_are_wires)
  f_is_net : ∃ fd, Fun K "is_net" "is_net" s_is_net A.a_is_net fd ∧ Binds K fd ["value"] []
  g_is_net : mg "is_net" = some (.ref A.a_is_net)
  f_check_net : ∃ fd, Fun K "check_net" "check_net" s_check_net A.a_check_net fd ∧ Binds K fd ["net"] []
  g_check_net : mg "check_net" = some (.ref A.a_check_net)
  f_check_wire : ∃ fd, Fun K "check_wire" "check_wire" s_check_wire A.a_check_wire fd ∧ Binds K fd ["net", "wire"] []
  g_check_wire : mg "check_wire" = some (.ref A.a_check_wire)
  f_is_kind : ∃ fd, Fun K "is_kind" "is_kind" s_is_kind A.a_is_kind fd ∧ Binds K fd ["value"] []
  g_is_kind : mg "is_kind" = some (.ref A.a_is_kind)
  f_check_kind : ∃ fd, Fun K "check_kind" "check_kind" s_check_kind A.a_check_kind fd ∧ Binds K fd ["kind"] []
  g_check_kind : mg "check_kind" = some (.ref A.a_check_kind)
  f_check_short : ∃ fd, Fun K "check_short" "check_short" s_check_short A.a_check_short fd ∧ Binds K fd ["long", "kind"] []
  g_check_short : mg "check_short" = some (.ref A.a_check_short)
  f_form_of : ∃ fd, Fun K "form_of" "form_of" s_form_of A.a_form_of fd ∧ Binds K fd ["net", "wire", "kind"] []
  g_form_of : mg "form_of" = some (.ref A.a_form_of)
  f_spring : ∃ fd, Fun K "_law_spring" "_law_spring" s_spring A.a_spring fd ∧ Binds K fd ["script", "turn"] []
  g_spring : mg "_law_spring" = some (.ref A.a_spring)
  f_draw : ∃ fd, Fun K "_law_draw" "_law_draw" s_draw A.a_draw fd ∧ Binds K fd ["spring", "size"] []
  g_draw : mg "_law_draw" = some (.ref A.a_draw)
  f_pick : ∃ fd, Fun K "_law_pick" "_law_pick" s_pick A.a_pick fd ∧ Binds K fd ["spring", "some"] []
  g_pick : mg "_law_pick" = some (.ref A.a_pick)
  f_tone : ∃ fd, Fun K "_law_tone" "_law_tone" s_tone A.a_tone fd ∧ Binds K fd ["spring"] []
  g_tone : mg "_law_tone" = some (.ref A.a_tone)
  f_tones : ∃ fd, Fun K "_law_tones" "_law_tones" s_tones A.a_tones fd ∧ Binds K fd [] []
  g_tones : mg "_law_tones" = some (.ref A.a_tones)
  f_joint : ∃ fd, Fun K "_law_joint" "_law_joint" s_joint A.a_joint fd ∧ Binds K fd ["boxes", "words", "first", "second"] []
  g_joint : mg "_law_joint" = some (.ref A.a_joint)
  f_web : ∃ fd, Fun K "_law_web" "_law_web" s_web A.a_web fd ∧ Binds K fd ["spring", "most", "length"] []
  g_web : mg "_law_web" = some (.ref A.a_web)
  f_padded : ∃ fd, Fun K "_law_padded" "_law_padded" s_padded A.a_padded fd ∧ Binds K fd ["spring", "boxes", "words", "size", "first", "second", "tone"] []
  g_padded : mg "_law_padded" = some (.ref A.a_padded)
  f_led : ∃ fd, Fun K "_law_led" "_law_led" s_led A.a_led fd ∧ Binds K fd ["spring", "boxes", "words", "size", "first", "second", "tone"] []
  g_led : mg "_law_led" = some (.ref A.a_led)
  f_parts : ∃ fd, Fun K "_law_parts" "_law_parts" s_parts A.a_parts fd ∧ Binds K fd ["spring", "boxes", "words", "size", "parts", "tone"] []
  g_parts : mg "_law_parts" = some (.ref A.a_parts)
  f_stretch : ∃ fd, Fun K "_law_stretch" "_law_stretch" s_stretch A.a_stretch fd ∧ Binds K fd ["spring", "boxes", "words", "size", "low", "high", "tone"] []
  g_stretch : mg "_law_stretch" = some (.ref A.a_stretch)
  f_plan : ∃ fd, Fun K "_law_plan" "_law_plan" s_plan A.a_plan fd ∧ Binds K fd ["spring"] []
  g_plan : mg "_law_plan" = some (.ref A.a_plan)
  f_built : ∃ fd, Fun K "_law_built" "_law_built" s_built A.a_built fd ∧ Binds K fd ["spring", "size", "asked", "tone"] []
  g_built : mg "_law_built" = some (.ref A.a_built)
  f_swerve : ∃ fd, Fun K "_law_swerve" "_law_swerve" s_swerve A.a_swerve fd ∧ Binds K fd ["spring", "size", "boxes", "ends", "asked"] []
  g_swerve : mg "_law_swerve" = some (.ref A.a_swerve)
  f_wished : ∃ fd, Fun K "_law_wished" "_law_wished" s_wished A.a_wished fd ∧ Binds K fd ["spring", "tone"] []
  g_wished : mg "_law_wished" = some (.ref A.a_wished)
  f_words : ∃ fd, Fun K "_law_words" "_law_words" s_words A.a_words fd ∧ Binds K fd ["web"] []
  g_words : mg "_law_words" = some (.ref A.a_words)
  f_form : ∃ fd, Fun K "_law_form" "_law_form" s_form A.a_form fd ∧ Binds K fd ["word", "size", "tone"] []
  g_form : mg "_law_form" = some (.ref A.a_form)
  f_right : ∃ fd, Fun K "_law_right" "_law_right" s_right A.a_right fd ∧ Binds K fd ["spring"] []
  g_right : mg "_law_right" = some (.ref A.a_right)
  f_law : ∃ fd, Fun K "law" "law" s_law A.a_law fd ∧ Binds K fd ["script"] []
  g_law : mg "law" = some (.ref A.a_law)
  c_LONGEST_WORD : Con1 mg "LONGEST_WORD" (.int 400)
  c_MOST_PLACES : Con1 mg "MOST_PLACES" (.int 12)
  c_MOST_BOXES : Con1 mg "MOST_BOXES" (.int 60)
  c_MOST_ENDS : Con1 mg "MOST_ENDS" (.int 24)
  c_NAMED_KINDS : Con1 mg "NAMED_KINDS" (.ref A.n_NAMED_KINDS)
  q_NAMED_KINDS : ∀ H : Hp, SqT K H A.n_NAMED_KINDS [.str "any", .str "even", .str "first", .str "last", .str "sets", .str "ends"]
  t_wire_lengths : ∃ fd, At K A.a_wire_lengths fd ∧ fd.code = .ref A.c_wire_lengths
  t_are_wires : ∃ fd, At K A.a_are_wires fd ∧ fd.code = .ref A.c_are_wires
  k_form_of_kind_wire_net : Kwb K A.a_form_of ["net", "wire", "kind"] ["kind", "wire", "net"] (fun ws : List Value => [ws.getD 2 .none, ws.getD 1 .none, ws.getD 0 .none]) (fun ws : List V => [ws.getD 2 .non, ws.getD 1 .non, ws.getD 0 .non])
  z_len : mg "len" = none
  z_abs : mg "abs" = none
  z_repr : mg "repr" = none
  z_int : mg "int" = none
  z_tuple : mg "tuple" = none
  z_list : mg "list" = none
  z_type : mg "type" = none
  z_max : mg "max" = none
  z_all : mg "all" = none
  z_range : mg "range" = none
  z_enumerate : mg "enumerate" = none
  z_zip : mg "zip" = none
  z_str : mg "str" = none
  z_sorted : mg "sorted" = none
def ct (A : Ads) : Ct := ⟨[A.p_are_wires], [(A.p_wire_lengths, "wire_lengths" ++ ".<locals>." ++ "<lambda>")]⟩
structure TabsB (base : Heap) (mg : Str → Option Value) (A : Ads) : Prop where
  b_wire_lengths : LamX.TabB base mg A.c_wire_lengths A.p_wire_lengths
  b_are_wires : LamX.TabB base mg A.c_are_wires A.p_are_wires
  ne : ∀ q ∈ (ct A).T, ∀ P ∈ (ct A).G, q.1 ≠ P
  nt : ∀ p ∈ (ct A).T, ∀ q ∈ (ct A).T, p.1 = q.1 → p = q
section
variable {P : Program} {w : World} {K : PySem.W.Frag} {mg : Str → Option Value} {base : Heap} {A : Ads}
def sp_is_whole (A : Ads) : Sp := spD (ct A) fun ds d => ∃ x l m, ds = [x, .int l, .int m] ∧ d = .bool (wholeD x l m)
theorem ok_is_whole (T : Txt K mg A) : Df P w K mg base CX0 1 "is_whole" A.a_is_whole ["value", "least", "most"] (sp_is_whole A) := by
  obtain ⟨fd, F, b⟩ := T.f_is_whole
  refine ⟨⟨fd, fnG_of F sc_is_whole (spD_len fun ds d h => ?_) fun cdv A0 outer s H vs Q E hcd hr h => ?_, b, At.of F⟩, F.kp, T.g_is_whole⟩
  · obtain ⟨x, l, m, rfl, _⟩ := h
    rfl
  · obtain ⟨M, ds, d, gd, hM, hq, ⟨x, l, m, rfl, rfl⟩, q⟩ := h
    obtain ⟨v0, v1, v2, rfl, h0, h1, h2⟩ := hq.inv3
    cases h1.int_inv
    cases h2.int_inv
    refine ⟨_, PSs.nox (pss_one (ps_ret (pe_and (pe_cmpR op_isG (pe_callTy (call_typeK (K := K)) (by rfl) T.z_type (by decide +kernel) (pa_cons (pv 0) pa_nil)) (pe_bltn (v := .ty "int") (u := .type "int") rfl T.z_int (by decide +kernel) rfl) (nomark _)) (pe_one (pe_chain op_le op_le (pv 1) (pv 0) (pv 2)))))), ?_⟩
    refine ⟨v0, rfl, _, _, rfl, h0.ty, Or.inr (Or.inl ⟨_, _, rfl, rfl, _, rfl, ite2 (fun e => ?_) fun e => ?_⟩)⟩
    · have e' : tyName x = "int" := of_decide_eq_true e
      cases h0 with
      | int i =>
        refine ⟨_, rfl, _, rfl, _, _, rfl, rfl, _, rfl, ite2 (fun e1 => ?_) fun e1 => ?_⟩
        · refine ⟨_, rfl, _, _, rfl, rfl, q _ _ Sm.refl ?_⟩
          have e2 : wholeD (.int i) l m = decide (i ≤ m) := by
            show (decide (l ≤ i) && decide (i ≤ m)) = _
            rw [e1, Bool.true_and]
          rw [e2]
          exact .bl _
        · refine q _ _ Sm.refl ?_
          have e2 : wholeD (.int i) l m = false := by
            show (decide (l ≤ i) && decide (i ≤ m)) = _
            rw [Bool.eq_false_iff.mpr e1, Bool.false_and]
          rw [e2]
          exact .bl _
      | _ => exact absurd e' (by simp [tyName])
    · refine q _ _ Sm.refl ?_
      have e2 : wholeD x l m = false := by
        cases x with
        | int i => exact absurd rfl fun z => e (decide_eq_true z)
        | _ => rfl
      rw [e2]
      exact .bl _

def sp_is_row (A : Ads) : Sp := spD (ct A) fun ds d => ∃ x l m, ds = [x, .int l, .int m] ∧ d = .bool (rowD x l m)
theorem ok_is_row (T : Txt K mg A) : Df P w K mg base CX0 1 "is_row" A.a_is_row ["value", "least", "most"] (sp_is_row A) := by
  obtain ⟨fd, F, b⟩ := T.f_is_row
  refine ⟨⟨fd, fnG_of F sc_is_row (spD_len fun ds d h => ?_) fun cdv A0 outer s H vs Q E hcd hr h => ?_, b, At.of F⟩, F.kp, T.g_is_row⟩
  · obtain ⟨x, l, m, rfl, _⟩ := h
    rfl
  · obtain ⟨M, ds, d, gd, hM, hq, ⟨x, l, m, rfl, rfl⟩, q⟩ := h
    obtain ⟨v0, v1, v2, rfl, h0, h1, h2⟩ := hq.inv3
    cases h1.int_inv
    cases h2.int_inv
    refine ⟨_, PSs.nox (pss_one (ps_ret (pe_and (pe_cmpR op_isG (pe_callTy (call_typeK (K := K)) (by rfl) T.z_type (by decide +kernel) (pa_cons (pv 0) pa_nil)) (pe_bltn (v := .ty "tuple") (u := .type "tuple") rfl T.z_tuple (by decide +kernel) rfl) (nomark _)) (pe_one (pe_chain op_le op_le (pv 1) (pe_callB (call_lenK (K := K)) (by rfl) T.z_len PySem.boot_len (pa_cons (pv 0) pa_nil)) (pv 2)))))), ?_⟩
    refine ⟨v0, rfl, _, _, rfl, h0.ty, Or.inr (Or.inl ⟨_, _, rfl, rfl, _, rfl, ite2 (fun e => ?_) fun e => ?_⟩)⟩
    · have e' : tyName x = "tuple" := of_decide_eq_true e
      cases h0 with
      | tup n1 n2 n3 =>
        rename_i a xs ds
        have el : (xs.length : Int) = (ds.length : Int) := by rw [n3.length]
        refine ⟨_, rfl, _, rfl, _, _, rfl, Or.inr (SqT.of n2), _, _, rfl, rfl, _, rfl, ite2 (fun e1 => ?_) fun e1 => ?_⟩
        · refine ⟨_, rfl, _, _, rfl, rfl, q _ _ Sm.refl ?_⟩
          have e2 : rowD (.tuple ds) l m = decide ((xs.length : Int) ≤ m) := by
            show (decide (l ≤ (ds.length : Int)) && decide ((ds.length : Int) ≤ m)) = _
            rw [← el, e1, Bool.true_and]
          rw [e2]
          exact .bl _
        · refine q _ _ Sm.refl ?_
          have e2 : rowD (.tuple ds) l m = false := by
            show (decide (l ≤ (ds.length : Int)) && decide ((ds.length : Int) ≤ m)) = _
            rw [← el, Bool.eq_false_iff.mpr e1, Bool.false_and]
          rw [e2]
          exact .bl _
      | _ => exact absurd e' (by simp [tyName])
    · refine q _ _ Sm.refl ?_
      have e2 : rowD x l m = false := by
        cases x with
        | tuple i => exact absurd rfl fun z => e (decide_eq_true z)
        | _ => rfl
      rw [e2]
      exact .bl _

theorem w_is_whole (T : Txt K mg A) : ∃ fd, WholeD K mg A.a_is_whole fd s_is_whole := by
  obtain ⟨fd, F, b⟩ := T.f_is_whole
  exact ⟨fd, F, sc_is_whole, b, T.z_type, T.z_int, rfl, rfl, rfl, rfl, rfl, ⟨_, _, _, _, _, _, _, _, _, _, _, rfl⟩⟩
def sp_are_wires (A : Ads) : Sp := spD (ct A) fun ds d => ∃ xs m, ds = [.tuple xs, .int m] ∧ d = .bool (wiresD xs m)
theorem ok_are_wires (T : Txt K mg A) (B : TabsB base mg A) : Df P w K mg base CX0 2 "are_wires" A.a_are_wires ["values", "many"] (sp_are_wires A) := by
  obtain ⟨fd, F, b⟩ := T.f_are_wires
  refine ⟨⟨fd, fnG_of F sc_are_wires (spD_len fun ds d h => ?_) fun cdv A0 outer s H vs Q E hcd hr h => ?_, b, At.of F⟩, F.kp, T.g_are_wires⟩
  · obtain ⟨x, m, rfl, _⟩ := h
    rfl
  · obtain ⟨M, ds, d, gd, hM, hq, ⟨xs, m, rfl, rfl⟩, q⟩ := h
    obtain ⟨v0, v1, rfl, h0, h1⟩ := hq.inv2
    cases h1.int_inv
    obtain ⟨a, us, rfl, na, ha, hxs⟩ := h0.tup_inv
    obtain ⟨fdt, at1, ec⟩ := T.t_are_wires
    have hcode : cdv = .ref A.c_are_wires := by rw [← hcd fdt at1]; exact ec
    subst hcode
    have TBG : GxR.TabB base mg A.c_are_wires A.p_are_wires := ⟨B.b_are_wires.code, B.b_are_wires.bm, B.b_are_wires.gP⟩
    obtain ⟨fdw, WD⟩ := w_is_whole T
    refine ⟨_, PSs.nox (pss_one (ps_ret (pe_allT (W := wholeW K A.p_are_wires 1) hr.r (by rfl) T.z_all TBG rfl (genS_by (by decide +kernel)) (pv 0)
      (fun pins σ s1 H1 xs its q I rv h => elt_whole hr.r ⟨rfl, rfl, rfl, rfl, rfl, rfl, by decide, by decide, by decide, by decide⟩ WD T.g_is_whole pins σ s1 H1 xs its q I rv h)
      (fun _ => rfl)))), ?_⟩
    have tg := gd.g A.p_are_wires (List.mem_cons_self)
    obtain ⟨ps, e0, t0⟩ := id tg
    refine ⟨_, rfl, a, us, rfl, SqT.of ha, tg, m, rfl, ⟨ps, e0⟩, fun x hx => ?_, fun H2 hT => q _ _ ?_ ?_⟩
    · obtain ⟨i, hi⟩ := List.getElem?_of_mem hx
      obtain ⟨d, _, hd⟩ := hxs.getV hi
      exact ⟨_, hd.ty⟩
    · exact Sm.tabbed hT (by rw [e0]; nofun) (fun q hq => B.ne q hq _ List.mem_cons_self) (fun _ _ => trivial) ⟨ps, e0⟩
    · rw [wiresV_D hxs]
      exact .bl _

def sp_is_net (A : Ads) : Sp := spD (ct A) fun ds d => ∃ x, ds = [x] ∧ d = .bool (isNetD x)
theorem ok_is_net (T : Txt K mg A) (B : TabsB base mg A) : Df P w K mg base CX0 3 "is_net" A.a_is_net ["value"] (sp_is_net A) := by
  obtain ⟨fd, F, b⟩ := T.f_is_net
  refine ⟨⟨fd, fnG_of F sc_is_net (spD_len fun ds d h => ?_) fun cdv A0 outer s H vs Q E hcd hr h => ?_, b, At.of F⟩, F.kp, T.g_is_net⟩
  · obtain ⟨x, rfl, _⟩ := h
    rfl
  · obtain ⟨M, ds, d, gd, hM, hq, ⟨x, rfl, rfl⟩, q⟩ := h
    obtain ⟨v0, rfl, h0⟩ := hq.inv1
    have d_is_whole := ok_is_whole (P := P) (w := w) (base := base) T
    have d_is_row := ok_is_row (P := P) (w := w) (base := base) T
    have d_are_wires := ok_are_wires (P := P) (w := w) (base := base) T B
    have out : ∀ {H' : Hp} {c : Bool}, Sm (ct A) [] H H' → isNetD x = c → Q (.bl c) H' := fun s e => q _ _ s (by rw [e]; exact .bl _)
    refine ⟨_, PSs.nox (pss_cons (ps_if (pt_not (pt_val (pe_df d_is_row hr (by decide) rfl pass0 (pa_cons (pv 0) (pa_cons pe_int (pa_cons pe_int pa_nil))))))
        (pss_one (ps_ret pe_bl))
        pss_nil)
        (pss_cons (ps_asg (pv 0) (pg_tup rfl (pgs_cons (pg_name (i := 1) sc_is_net.nd rfl (Or.inl rfl)) (pgs_cons (pg_name (i := 2) sc_is_net.nd rfl (Or.inl rfl)) (pgs_cons (pg_name (i := 3) sc_is_net.nd rfl (Or.inl rfl)) pgs_nil)))))
        (pss_cons (ps_if (pt_not (pt_val (pe_df d_is_whole hr (by decide) rfl pass0 (pa_cons (pv 1) (pa_cons pe_int (pa_cons (pe_gcon T.c_MOST_PLACES (by rfl)) pa_nil))))))
        (pss_one (ps_ret pe_bl))
        pss_nil)
        (pss_cons (ps_if (PW.pt (pw_or (pt_not (pt_val (pe_df d_is_row hr (by decide) rfl pass0 (pa_cons (pv 2) (pa_cons pe_int (pa_cons (pe_gcon T.c_MOST_BOXES (by rfl)) pa_nil)))))) (pw_or1 (pt_not (pt_val (pe_df d_is_row hr (by decide) rfl pass0 (pa_cons (pv 3) (pa_cons pe_int (pa_cons (pe_gcon T.c_MOST_ENDS (by rfl)) pa_nil)))))))))
        (pss_one (ps_ret pe_bl))
        pss_nil)
        (pss_cons (ps_for PassesOwn.never rfl (pi_enK (K := K) (by rfl) T.z_enumerate (pv 2)) (pg_tup rfl (pgs_cons (pg_name (i := 4) sc_is_net.nd rfl (Or.inl rfl)) (pgs_cons (pg_name (i := 5) sc_is_net.nd rfl (Or.inl rfl)) pgs_nil)))
        (pss_one (ps_if (PW.pt (pw_or (pt_not (pt_val (pe_df d_is_row hr (by decide) rfl pass0 (pa_cons (pv 5) (pa_cons pe_int (pa_cons pe_int pa_nil)))))) (pw_or1 (pt_not (pt_val (pe_df d_are_wires hr (by decide) rfl pass0 (pa_cons (pv 5) (pa_cons (pe_op (op_addK (K := K)) (pv 1) (pv 4)) pa_nil))))))))
          (pss_one (ps_ret pe_bl))
          pss_nil)))
        (pss_one (ps_ret (pe_df d_are_wires hr (by decide) rfl pass0 (pa_cons (pv 3) (pa_cons (pe_op (op_addK (K := K)) (pv 1) (pe_callB (call_lenK (K := K)) (by rfl) T.z_len PySem.boot_len (pa_cons (pv 2) pa_nil))) pa_nil)))))))))), ?_⟩
    refine ⟨v0, rfl, M, _, _, gd, hM, .three h0 (.int 3) (.int 3), ⟨_, _, _, rfl, rfl⟩, fun v H1 s1 hv => ?_⟩
    cases hv.bool_inv
    refine ⟨_, rfl, ite2 (fun e => ?_) fun e => ?_⟩
    · exact out s1 (isNet_row (by simpa using e))
    have e3 : rowD x 3 3 = true := by simpa using e
    obtain ⟨x1, x2, x3, rfl⟩ := rowD3 e3
    have h0 := h0.sm s1.any
    have gd := s1.gd gd
    have hM : ∀ m ∈ M, H1 m ≠ none := fun m hm => s1.st m (hM m hm)
    obtain ⟨a, us, rfl, na, ha, hus⟩ := h0.tup_inv
    obtain ⟨v1, v2, v3, rfl, h1, h2, h3⟩ := hus.inv3
    refine ⟨.ref a, rfl, a, _, rfl, SqT.of ha, rfl, _, _, rfl, _, _, rfl, _, _, rfl, rfl, ?_⟩
    refine ⟨v1, rfl, M, _, _, gd, hM, .three h1 (.int 1) (.int 12), ⟨_, _, _, rfl, rfl⟩, fun v H2 s2 hv => ?_⟩
    cases hv.bool_inv
    refine ⟨_, rfl, ite2 (fun e => ?_) fun e => ?_⟩
    · exact out (s1.trans s2) (isNet_places (by simpa using e))
    have e4 : wholeD x1 1 12 = true := by simpa using e
    obtain ⟨n, rfl, _, _⟩ := wholeD_int e4
    cases h1.int_inv
    have h2 := h2.sm s2.any
    have h3 := h3.sm s2.any
    have gd := s2.gd gd
    have hM : ∀ m ∈ M, H2 m ≠ none := fun m hm => s2.st m (hM m hm)
    refine ⟨v2, rfl, M, _, _, gd, hM, .three h2 (.int 0) (.int 60), ⟨_, _, _, rfl, rfl⟩, fun v H3 s3 hv => ?_⟩
    cases hv.bool_inv
    refine ⟨_, rfl, ite2 (fun e => ?_) fun e => ?_⟩
    · refine ite2 (fun _ => ?_) fun z => absurd rfl z
      exact out ((s1.trans s2).trans s3) (isNet_rows (by rw [show rowD x2 0 60 = false by simpa using e]; rfl))
    have e5 : rowD x2 0 60 = true := by simpa using e
    have h2 := h2.sm s3.any
    have h3 := h3.sm s3.any
    have gd := s3.gd gd
    have hM : ∀ m ∈ M, H3 m ≠ none := fun m hm => s3.st m (hM m hm)
    refine ⟨v3, rfl, M, _, _, gd, hM, .three h3 (.int 1) (.int 24), ⟨_, _, _, rfl, rfl⟩, fun v H4 s4 hv => ?_⟩
    cases hv.bool_inv
    refine ⟨_, rfl, ite2 (fun e => ?_) fun e => ?_⟩
    · exact out (((s1.trans s2).trans s3).trans s4) (isNet_rows (by rw [e5, show rowD x3 1 24 = false by simpa using e]; rfl))
    have e6 : rowD x3 1 24 = true := by simpa using e
    obtain ⟨bs, rfl, _, hb60⟩ := rowD_tup e5
    obtain ⟨es, rfl, _, _⟩ := rowD_tup e6
    have h2 := h2.sm s4.any
    have h3 := h3.sm s4.any
    have gd := s4.gd gd
    have hM : ∀ m ∈ M, H4 m ≠ none := fun m hm => s4.st m (hM m hm)
    have s14 := ((s1.trans s2).trans s3).trans s4
    have net := isNet_wires e4 e5 e6
    obtain ⟨ab, ub, rfl, nab, hab, hub⟩ := h2.tup_inv
    have lb := hub.length
    refine ⟨.ref ab, rfl, ab, ub, rfl, SqT.of hab, L2.for_it (walk_enT (K := K) (a := ab) (xs := ub))
      (fun i σ' H' => ∃ z4 z5, σ' = [some (.ref a), some (.int n), some (.ref ab), some v3, z4, z5] ∧ Sm (ct A) [] H4 H' ∧ boxesD n 0 bs = boxesD n i (bs.drop i))
      ⟨_, _, rfl, Sm.refl, rfl⟩ (fun i σ' H' _ hW => ?_) (fun i it σ' H' H'' hi hW hY => ?_) (fun σ' H' hW => ?_)⟩
    · obtain ⟨_, _, _, sW, _⟩ := hW
      exact SqT.of (sW.ex _ _ (fun z => nomatch z) hab nofun)
    · obtain ⟨z4, z5, rfl, sW, eW⟩ := hW
      obtain ⟨T1, x, rfl, nT, rfl, hx⟩ := hY
      have sT : Sm (ct A) [] H' (upd H' T1 (.tup [.int (i : Nat), x])) := Sm.new nT
      have sA := sW.trans sT
      obtain ⟨y, hy, hxy⟩ := hub.getV hx
      have ed : bs.drop i = y :: bs.drop (i + 1) := (List.drop_eq_getElem_cons (by omega)).trans (by rw [(List.getElem?_eq_some_iff.mp hy).2])
      have hxy := hxy.sm sA.any
      have gd := sA.gd gd
      have hM : ∀ m ∈ M, upd H' T1 (.tup [.int (i : Nat), x]) m ≠ none := fun m hm => sA.st m (hM m hm)
      refine ⟨T1, _, rfl, SqT.of upd_same, rfl, _, _, rfl, _, _, rfl, rfl, ?_⟩
      refine ⟨x, rfl, M, _, _, gd, hM, .three hxy (.int 2) (.int 2), ⟨_, _, _, rfl, rfl⟩, fun v H5 s5 hv => ?_⟩
      cases hv.bool_inv
      refine ⟨_, rfl, ite2 (fun e => ?_) fun e => ?_⟩
      · refine ite2 (fun _ => ?_) fun z => absurd rfl z
        exact out ((s14.trans sA).trans s5) (by rw [net, eW, ed, boxesD_step (.inl (by simpa using e))]; rfl)
      have e7 : rowD y 2 2 = true := by simpa using e
      obtain ⟨y1, y2, rfl⟩ := rowD2 e7
      have hxy := hxy.sm s5.any
      have gd := s5.gd gd
      have hM : ∀ m ∈ M, H5 m ≠ none := fun m hm => s5.st m (hM m hm)
      refine ⟨x, rfl, _, rfl, _, rfl, Or.inl ⟨_, _, rfl, rfl, M, _, _, gd, hM, .two hxy (.int _), ⟨_, _, rfl, rfl⟩, fun v H6 s6 hv => ?_⟩⟩
      cases hv.bool_inv
      refine ⟨_, rfl, ite2 (fun e => ?_) fun e => ?_⟩
      · exact out (((s14.trans sA).trans s5).trans s6) (by rw [net, eW, ed, boxesD_step (.inr ⟨_, rfl, rfl, by simpa using e⟩)]; rfl)
      have e8 : wiresD [y1, y2] (n + (i : Int)) = true := by simpa using e
      exact ⟨_, _, rfl, (sA.trans s5).trans s6, by rw [eW, ed, boxesD_ok e8]⟩
    · obtain ⟨z4, z5, rfl, sW, eW⟩ := hW
      have eb : boxesD n 0 bs = true := by
        rw [eW, List.drop_of_length_le (by omega)]
        rfl
      have hM : ∀ m ∈ M, H' m ≠ none := fun m hm => sW.st m (hM m hm)
      refine ⟨v3, rfl, _, rfl, .ref ab, rfl, ab, ub, rfl, Or.inr (SqT.of (sW.ex _ _ (fun z => nomatch z) hab nofun)), Or.inl ⟨_, _, rfl, rfl, M, _, _, sW.gd gd, hM, .two (h3.sm sW.any) (.int _), ⟨_, _, rfl, rfl⟩, fun v H5 s5 hv => ?_⟩⟩
      cases hv.bool_inv
      exact out ((s14.trans sW).trans s5) (by rw [net, eb, Bool.true_and, lb])

def sp_check_net (A : Ads) : Sp := spD (ct A) fun ds d => ∃ x, ds = [x] ∧ isNetD x = true ∧ d = .none
theorem ok_check_net (T : Txt K mg A) (B : TabsB base mg A) : Df P w K mg base CX0 4 "check_net" A.a_check_net ["net"] (sp_check_net A) := by
  obtain ⟨fd, F, b⟩ := T.f_check_net
  refine ⟨⟨fd, fnG_of F sc_check_net (spD_len fun ds d h => ?_) fun cdv A0 outer s H vs Q E hcd hr h => ?_, b, At.of F⟩, F.kp, T.g_check_net⟩
  · obtain ⟨x, rfl, _⟩ := h
    rfl
  · obtain ⟨M, ds, d, gd, hM, hq, ⟨x, rfl, hx, rfl⟩, q⟩ := h
    obtain ⟨v0, rfl, h0⟩ := hq.inv1
    have d_is_net := ok_is_net (P := P) (w := w) (base := base) T B
    refine ⟨_, PSs.nox (pss_one (ps_if (pt_not (pt_val (pe_df d_is_net hr (by decide) rfl pass0 (pa_cons (pv 0) pa_nil))))
        (pss_one ps_never)
        pss_nil)), ?_⟩
    refine ⟨v0, rfl, M, _, _, gd, hM, .one h0, ⟨_, rfl, rfl⟩, fun v H1 s1 hv => ?_⟩
    cases hv.bool_inv
    rw [hx]
    exact ⟨_, rfl, ite2 (fun e => absurd e (by decide)) fun _ => q _ _ s1 .non⟩

def sp_check_wire (A : Ads) : Sp := spD (ct A) fun ds d => ∃ n bs es k, ds = [encNet n bs es, nI k] ∧ k < n + bs.length ∧ d = .none
theorem ok_check_wire (T : Txt K mg A) (B : TabsB base mg A) : Df P w K mg base CX0 3 "check_wire" A.a_check_wire ["net", "wire"] (sp_check_wire A) := by
  obtain ⟨fd, F, b⟩ := T.f_check_wire
  refine ⟨⟨fd, fnG_of F sc_check_wire (spD_len fun ds d h => ?_) fun cdv A0 outer s H vs Q E hcd hr h => ?_, b, At.of F⟩, F.kp, T.g_check_wire⟩
  · obtain ⟨n, bs, es, k, rfl, _⟩ := h
    rfl
  · obtain ⟨M, ds, d, gd, hM, hq, ⟨n, bs, es, k, rfl, hk, rfl⟩, q⟩ := h
    obtain ⟨v0, v1, rfl, h0, h1⟩ := hq.inv2
    cases h1.int_inv
    have d_are_wires := ok_are_wires (P := P) (w := w) (base := base) T B
    obtain ⟨a, us, rfl, na, ha, hus⟩ := h0.tup_inv
    obtain ⟨u0, u1, u2, rfl, hu0, hu1, hu2⟩ := hus.inv3
    cases hu0.int_inv
    obtain ⟨ab, ub, rfl, nab, hab, hub⟩ := hu1.tup_inv
    refine ⟨_, PSs.nox (pss_one (ps_if (pt_not (pt_val (pe_df d_are_wires hr (by decide) rfl pass0 (pa_cons (pe_tup (pa_cons (pv 1) pa_nil)) (pa_cons (pe_op (op_addK (K := K)) (pe_ix (ix_K (K := K)) (pv 0) pe_int (fun _ _ => rfl)) (pe_callB (call_lenK (K := K)) (by rfl) T.z_len PySem.boot_len (pa_cons (pe_ix (ix_K (K := K)) (pv 0) pe_int (fun _ _ => rfl)) pa_nil))) pa_nil)))))
        (pss_one ps_never)
        pss_nil)), ?_⟩
    refine ⟨.int (k : Int), rfl, sz_of (by show 1 ≤ 100000; decide), fun p hp => ?_⟩
    have sp1 : Sm (ct A) [] H (upd H p (.tup [.int (k : Int)])) := Sm.new hp
    have st : ∀ {b xs}, H b = some (.tup xs) → SqT K (upd H p (.tup [.int (k : Int)])) b xs := fun e => SqT.of (sp1.ex _ _ (fun z => nomatch z) e nofun)
    refine ⟨.ref a, rfl, Or.inr (Or.inl ⟨a, _, 0, _, rfl, rfl, st ha, atI_of (j := 0) rfl, ?_⟩)⟩
    refine ⟨.ref a, rfl, Or.inr (Or.inl ⟨a, _, 1, _, rfl, rfl, st ha, atI_of (j := 1) rfl, ?_⟩)⟩
    refine ⟨ab, ub, rfl, Or.inr (st hab), Or.inl ⟨_, _, rfl, rfl, ?_⟩⟩
    refine ⟨M, [.tuple [nI k], .int _], _, sp1.gd gd, fun m hm => sp1.st m (hM m hm), .two (dq_new hM hp (.one (.int _))) (.int _), ⟨_, _, rfl, rfl⟩, fun v H1 s1 hv => ?_⟩
    cases hv.bool_inv
    have e : wiresD [nI k] ((n : Int) + (ub.length : Int)) = true := by
      have := hub.length
      rw [List.length_map] at this
      unfold wiresD
      rw [List.all_cons, List.all_nil, Bool.and_true, wholeD_nI]
      exact decide_eq_true (by omega)
    exact ⟨_, rfl, ite2 (fun z => by rw [e] at z; exact absurd z (by decide)) fun _ => q _ _ (sp1.trans s1) .non⟩

/-- what is asked of the joining -/
def spJ (c : Ct) (Pr : PyData → Prop) (jf : PyData → PyData → PyData) : Sp := spD c fun ds d => ∃ x y, ds = [x, y] ∧ Pr x ∧ Pr y ∧ d = jf x y
def sp_run_through (P : Program) (w : World) (K : PySem.W.Frag) (mg : Str → Option Value) (base : Heap) (A : Ads) : Sp := fun vs H Q _ =>
  ∃ (M : List Addr) (n : Nat) (bs : List (Nat × Nat)) (es : List Nat) (ws : List PyData) (jf : PyData → PyData → PyData) (Pr : PyData → Prop) (v0 v1 : V) (f : Addr),
    vs = [v0, v1, .ref f] ∧ Gd (ct A) H ∧ (∀ m ∈ M, H m ≠ none) ∧ Dq M H v0 (encNet n bs es) ∧ Dq M H v1 (.list ws) ∧ ws.length = n ∧ n ≤ 12 ∧ bs.length ≤ 60 ∧ boxOk n 0 bs ∧
    (∀ x ∈ ws, Pr x) ∧ (∀ x y, Pr x → Pr y → Pr (jf x y)) ∧ Cal P w K mg base 2 f H 2 (spJ (ct A) Pr jf) ∧
    ∀ v H', Sm (ct A) [] H H' → Dq M H' v (.list (runD jf ws bs)) → Q v H'
theorem ok_run_through (T : Txt K mg A) : Df P w K mg base CX0 3 "run_through" A.a_run_through ["net", "worths", "joined"] (sp_run_through P w K mg base A) := by
  obtain ⟨fd, F, b⟩ := T.f_run_through
  refine ⟨⟨fd, fnG_of F sc_run_through (fun vs H Q E h => ?_) fun cdv A0 outer s H vs Q E hcd hr h => ?_, b, At.of F⟩, F.kp, T.g_run_through⟩
  · obtain ⟨_, _, _, _, _, _, _, _, _, _, rfl, _⟩ := h
    rfl
  · obtain ⟨M, n, bs, es, ws, jf, Pr, v0, v1, f, rfl, gd, hM, h0, h1, hw, hn, hb, hbo, hP, hPj, hc, q⟩ := h
    obtain ⟨a, us, rfl, na, ha, hus⟩ := h0.tup_inv
    obtain ⟨u0, u1, u2, rfl, hu0, hu1, hu2⟩ := hus.inv3
    obtain ⟨ab, ub, rfl, nab, hab, hub⟩ := hu1.tup_inv
    obtain ⟨aw, uw, rfl, naw, haw, huw⟩ := h1.lst_inv
    refine ⟨_, PSs.nox (pss_cons (ps_set (i := 3) sc_run_through.nd rfl (Or.inl rfl) (pe_callTy (call_listK (K := K)) (by rfl) T.z_list (by decide +kernel) (pa_cons (pv 1) pa_nil)))
        (pss_cons (ps_for PassesOwn.never rfl (pi_K (K := K) (pe_ix (ix_K (K := K)) (pv 0) pe_int (fun _ _ => rfl))) (pg_tup rfl (pgs_cons (pg_name (i := 4) sc_run_through.nd rfl (Or.inl rfl)) (pgs_cons (pg_name (i := 5) sc_run_through.nd rfl (Or.inl rfl)) pgs_nil)))
        (pss_one (ps_expr (pe_bm PySem.F.plainAttrs_list PySem.F.slot_list_append PySem.F.type_list_append mt_append (pv 3) (pa_cons (pe_cal (j := 2) (ar := 2) (i := 2) hr (by decide) rfl (Or.inl rfl) (pa_cons (pe_ix (ix_K (K := K)) (pv 3) (pv 4) (fun _ _ => rfl)) (pa_cons (pe_ix (ix_K (K := K)) (pv 3) (pv 5) (fun _ _ => rfl)) pa_nil))) pa_nil)))))
        (pss_one (ps_ret (pv 3))))), ?_⟩
    refine ⟨.ref aw, rfl, aw, uw, rfl, Or.inl (SqL.of haw), fun l hl => ?_⟩
    have sl : ∀ {N}, Sm (ct A) N H (upd H l (.lst uw)) := Sm.new hl
    have al : a ≠ l := ne_of_none ha hl
    refine ⟨.ref a, rfl, Or.inr (Or.inl ⟨a, _, 1, _, rfl, rfl, SqT.of (by rw [upd_ne al]; exact ha), atI_of (j := 1) rfl, ?_⟩)⟩
    have lub := hub.length
    rw [List.length_map] at lub
    refine ⟨ab, rfl, Or.inr ⟨⟨ub, SqT.of (sl (N := []) |>.ex _ _ (fun z => nomatch z) hab nofun)⟩, L2.for_it (L2.walk_tup (K := K) (a := ab) (xs := ub))
      (fun i σ' H' => ∃ z4 z5 xs, σ' = [some (.ref a), some (.ref aw), some (.ref f), some (.ref l), z4, z5] ∧ Sm (ct A) [l] (upd H l (.lst uw)) H' ∧ H' l = some (.lst xs) ∧
        Dqs (l :: M) H' xs (runD jf ws (bs.take i)) ∧ ∀ x ∈ runD jf ws (bs.take i), Pr x)
      ⟨_, _, uw, rfl, Sm.refl, upd_same, (huw.wk hl).sm (c := ct A) sl, hP⟩ (fun i σ' H' _ hW => ?_) (fun i it σ' H' H'' hi hW hY => ?_) (fun σ' H' hW => ?_)⟩⟩
    · obtain ⟨_, _, _, _, sW, _⟩ := hW
      exact SqT.of ((sl.trans sW).ex ab _ (fun z => by rw [List.mem_singleton.mp z, hl] at hab; cases hab) hab nofun)
    · obtain ⟨z4, z5, xs, rfl, sW, eW, dW, pW⟩ := hW
      obtain ⟨rfl, hx⟩ := hY
      have hib : i < bs.length := by omega
      obtain ⟨y, hy, hxy⟩ := hub.getV hx
      have hbi : bs[i]? = some bs[i] := List.getElem?_eq_getElem hib
      have ey : y = encB bs[i] := by
        rw [List.getElem?_map, hbi] at hy
        exact (Option.some.inj hy).symm
      subst ey
      have s0 : Sm (ct A) [l] H H'' := sl.trans sW
      have s0' : Sm (ct A) [] H H'' := s0.out hl
      have hxy2 : Dq M H'' it (encB bs[i]) := hxy.sm s0'.any
      obtain ⟨ax, ux, rfl, nax, hax, hux⟩ := hxy2.tup_inv
      obtain ⟨p1, p2, rfl, hp1, hp2⟩ := hux.inv2
      cases hp1.int_inv
      cases hp2.int_inv
      have lb := boxOk_get hbo hbi
      have lr : (runD jf ws (bs.take i)).length = n + i := by
        rw [runD_len, hw, List.length_take]
        omega
      have lx : xs.length = n + i := dW.length.trans lr
      have i1 : (bs[i]).1 < xs.length := by omega
      have i2 : (bs[i]).2 < xs.length := by omega
      obtain ⟨x1, hx1⟩ : ∃ x, xs[(bs[i]).1]? = some x := ⟨_, List.getElem?_eq_getElem i1⟩
      obtain ⟨x2, hx2⟩ : ∃ x, xs[(bs[i]).2]? = some x := ⟨_, List.getElem?_eq_getElem i2⟩
      obtain ⟨d1, hd1, q1⟩ := dW.getV hx1
      obtain ⟨d2, hd2, q2⟩ := dW.getV hx2
      have g1 : (runD jf ws (bs.take i)).getD (bs[i]).1 .none = d1 := by rw [List.getD_eq_getElem?_getD, hd1]; rfl
      have g2 : (runD jf ws (bs.take i)).getD (bs[i]).2 .none = d2 := by rw [List.getD_eq_getElem?_getD, hd2]; rfl
      have hM2 : ∀ m ∈ l :: M, H'' m ≠ none := fun m hm => by
        rcases List.mem_cons.mp hm with z | z
        · rw [z, eW]
          nofun
        · exact s0.st m (hM m z)
      refine ⟨ax, _, rfl, SqT.of hax, rfl, _, _, rfl, _, _, rfl, rfl, ?_⟩
      refine ⟨.ref l, rfl, Or.inl ⟨rfl, _, SqL.of eW⟩, ?_⟩
      refine ⟨f, spJ (ct A) Pr jf, rfl, hc.ext s0'.ext, ?_⟩
      refine ⟨.ref l, rfl, _, rfl, Or.inl ⟨l, xs, _, x1, rfl, rfl, SqL.of eW, atI_of hx1, ?_⟩⟩
      refine ⟨.ref l, rfl, _, rfl, Or.inl ⟨l, xs, _, x2, rfl, rfl, SqL.of eW, atI_of hx2, ?_⟩⟩
      refine ⟨rfl, ExtN.refl _, l :: M, _, _, s0'.gd gd, hM2, .two q1 q2, ⟨_, _, rfl, pW _ (List.mem_of_getElem? hd1), pW _ (List.mem_of_getElem? hd2), rfl⟩, fun v H3 s3 hv => ?_⟩
      have e3 : H3 l = some (.lst xs) := s3.ex l _ (fun z => nomatch z) eW nofun
      have st : runD jf ws (bs.take (i + 1)) = runD jf ws (bs.take i) ++ [jf d1 d2] := by
        rw [List.take_add_one, hbi]
        show runD jf ws (bs.take i ++ [bs[i]]) = _
        rw [runD_snoc]
        unfold stepD
        rw [g1, g2]
      refine ⟨l, xs, v, rfl, rfl, e3, sz_lt (by omega), ?_⟩
      have sp : Sm (ct A) [l] H3 (upd H3 l (.lst (xs ++ [v]))) := Sm.put List.mem_cons_self e3
      refine ⟨_, _, xs ++ [v], rfl, (sW.trans s3.any).trans sp, upd_same, ?_, ?_⟩
      · rw [st]
        exact ((dW.sm s3.any).snoc hv).sm (sp.sub fun z hz => by rw [List.mem_singleton.mp hz]; exact List.mem_cons_self)
      · rw [st]
        intro x hx
        rcases List.mem_append.mp hx with z | z
        · exact pW x z
        · rw [List.mem_singleton.mp z]
          exact hPj _ _ (pW _ (List.mem_of_getElem? hd1)) (pW _ (List.mem_of_getElem? hd2))
    · obtain ⟨z4, z5, xs, rfl, sW, eW, dW, pW⟩ := hW
      have s0' : Sm (ct A) [] H H' := (sl.trans sW).out hl
      refine ⟨.ref l, rfl, q _ _ s0' (.lst (fun z => hM l z hl) eW ?_)⟩
      have et : bs.take ub.length = bs := List.take_of_length_le (by omega)
      rw [et] at dW
      exact dW.sub fun z hz => List.mem_cons_of_mem _ hz

def sp_wire_lengths (A : Ads) : Sp := spD (ct A) fun ds d => ∃ n bs es, ds = [encNet n bs es] ∧ NetOk n bs es ∧ d = .list (lensD n bs)
theorem ok_wire_lengths (T : Txt K mg A) (B : TabsB base mg A) : Df P w K mg base CX0 4 "wire_lengths" A.a_wire_lengths ["net"] (sp_wire_lengths A) := by
  obtain ⟨fd, F, b⟩ := T.f_wire_lengths
  refine ⟨⟨fd, fnG_of F sc_wire_lengths (spD_len fun ds d h => ?_) fun cdv A0 outer s H vs Q E hcd hr h => ?_, b, At.of F⟩, F.kp, T.g_wire_lengths⟩
  · obtain ⟨n, bs, es, rfl, _⟩ := h
    rfl
  · obtain ⟨M, ds, d, gd, hM, hq, ⟨n, bs, es, rfl, hN, rfl⟩, q⟩ := h
    obtain ⟨v0, rfl, h0⟩ := hq.inv1
    obtain ⟨a, us, rfl, na, ha, hus⟩ := h0.tup_inv
    obtain ⟨u0, u1, u2, rfl, hu0, hu1, hu2⟩ := hus.inv3
    cases hu0.int_inv
    have d_run_through := ok_run_through (P := P) (w := w) (base := base) T
    obtain ⟨fdt, at1, ec⟩ := T.t_wire_lengths
    have hcode : cdv = .ref A.c_wire_lengths := by rw [← hcd fdt at1]; exact ec
    subst hcode
    have TBL := B.b_wire_lengths
    have n2 := hN.n2
    refine ⟨_, PSs.nox (pss_one (ps_ret (pe_df d_run_through hr (by decide) rfl pass0 (pa_cons (pv 0) (pa_cons (pe_op (op_mulK (K := K)) (pe_lst (pa_cons pe_int pa_nil)) (pe_ix (ix_K (K := K)) (pv 0) pe_int (fun _ _ => rfl))) (pa_cons (pe_lam TBL rfl rfl (by decide +kernel)) pa_nil)))))), ?_⟩
    refine ⟨.ref a, rfl, sz_of (by show 1 ≤ 100000; decide), fun p hp => ?_⟩
    have s1 : Sm (ct A) [] H (upd H p (.lst [.int 1])) := Sm.new hp
    have ap : a ≠ p := ne_of_none ha hp
    refine ⟨.ref a, rfl, Or.inr (Or.inl ⟨a, _, 0, _, rfl, rfl, SqT.of (by rw [upd_ne ap]; exact ha), atI_of (j := 0) rfl, ?_⟩)⟩
    refine Or.inr (Or.inl ⟨p, _, _, rfl, rfl, upd_same, by omega, by omega, sz_of (by simp; omega), fun l hl => ?_⟩)
    have el : (List.replicate ((n : Int).toNat) [V.int 1]).flatten = List.replicate n (V.int 1) := by rw [Int.toNat_natCast, flat_rep]
    rw [el]
    have s2 : Sm (ct A) [] (upd H p (.lst [.int 1])) (upd (upd H p (.lst [.int 1])) l (.lst (List.replicate n (.int 1)))) := Sm.new hl
    have s12 := s1.trans s2
    have mT : (A.p_wire_lengths, ("wire_lengths" ++ ".<locals>." ++ "<lambda>" : Str)) ∈ (ct A).T := by simp [ct]
    have tb := (s12.gd gd).t _ mT
    refine ⟨tb, fun f c' pm ctv H1 ext tab old nf a1 a2 => ?_⟩
    have s3 : Sm (ct A) [] _ H1 := Sm.lam ext tab tb old (fun x hx e => by rw [B.nt x hx _ mT e]; rfl) (fun R hR z => B.ne _ mT R hR z.symm)
    have s13 := s12.trans s3
    refine ⟨M, n, bs, es, List.replicate n (.int 1), addD, (fun d => ∃ i, d = .int i), .ref a, .ref l, f, rfl, s13.gd gd, fun m hm => s13.st m (hM m hm), h0.sm s13.any, ?_, by simp, n2, hN.b, hN.bx, ?_, ?_, ?_, fun v H4 s4 hv => q _ _ (s13.trans s4) hv⟩
    · exact ((dq_newL (fun m hm => s1.st m (hM m hm)) hl (Dqs.rep (.int 1) n)).sm s3.any)
    · intro x hx
      exact ⟨1, List.eq_of_mem_replicate hx⟩
    · rintro x y ⟨i, rfl⟩ ⟨j, rfl⟩
      exact ⟨i + j, rfl⟩
    · refine Cal.mono (j := 1) (lam_cal (N := ["ahead", "behind"]) (ps := ["ahead", "behind"]) a1 a2 ⟨rfl, rfl, rfl, by decide +kernel, rfl, by decide +kernel, by decide +kernel⟩ (fun us hl => match us, hl with | [_, _], _ => rfl) ?_) (by decide)
      intro A1 outer1 s1' H' vs Q' E' hr' h'
      obtain ⟨M', ds, d, gd', hM', hq', ⟨x, y, rfl, ⟨i, rfl⟩, ⟨j, rfl⟩, rfl⟩, q'⟩ := h'
      obtain ⟨w0, w1, rfl, e0, e1⟩ := hq'.inv2
      cases e0.int_inv
      cases e1.int_inv
      exact ⟨_, pe_op (op_addK (K := K)) (pv 0) (pv 1), _, rfl, _, rfl, Or.inl ⟨_, _, rfl, rfl, q' _ _ Sm.refl (.int _)⟩⟩

theorem ok_join_words (T : Txt K mg A) : Df P w K mg base CX0 1 "join_words" A.a_join_words ["ahead", "behind"] (spJ (ct A) PrW joinD) := by
  obtain ⟨fd, F, b⟩ := T.f_join_words
  refine ⟨⟨fd, fnG_of F sc_join_words (spD_len fun ds d h => ?_) fun cdv A0 outer s H vs Q E hcd hr h => ?_, b, At.of F⟩, F.kp, T.g_join_words⟩
  · obtain ⟨x, y, rfl, _⟩ := h
    rfl
  · obtain ⟨M, ds, d, gd, hM, hq, ⟨x, y, rfl, hx, hy, rfl⟩, q⟩ := h
    obtain ⟨v0, v1, rfl, h0, h1⟩ := hq.inv2
    refine ⟨_, PSs.nox (pss_cons (ps_if (PW.pt (pw_or (pt_cmpR op_isG (pv 0) pe_non (nomark _)) (pw_or (pt_cmpR op_isG (pv 1) pe_non (nomark _)) (pw_or1 (pt_cmpR op_gt (pe_op (op_addK (K := K)) (pe_callB (call_lenK (K := K)) (by rfl) T.z_len PySem.boot_len (pa_cons (pv 0) pa_nil)) (pe_callB (call_lenK (K := K)) (by rfl) T.z_len PySem.boot_len (pa_cons (pv 1) pa_nil))) (pe_gcon T.c_LONGEST_WORD (by rfl)) (nomark _))))))
        (pss_one (ps_ret pe_non))
        pss_nil)
        (pss_one (ps_ret (pe_op (op_addK (K := K)) (pv 0) (pv 1))))), ?_⟩
    rcases hx with rfl | ⟨xs, rfl, x1, x2⟩
    · cases h0.none_inv
      exact ⟨.non, rfl, Or.inl ⟨rfl, _, rfl, iteT (iteT (q _ _ Sm.refl .non))⟩⟩
    obtain ⟨a, us, rfl, na, ha, hus⟩ := h0.tup_inv
    refine ⟨.ref a, rfl, Or.inl ⟨rfl, _, rfl, iteF ?_⟩⟩
    rcases hy with rfl | ⟨ys, rfl, y1, y2⟩
    · cases h1.none_inv
      exact ⟨.non, rfl, Or.inl ⟨rfl, _, rfl, iteT (iteT (q _ _ Sm.refl .non))⟩⟩
    obtain ⟨b, ub, rfl, nb, hb, hub⟩ := h1.tup_inv
    refine ⟨.ref b, rfl, Or.inl ⟨rfl, _, rfl, iteF ?_⟩⟩
    have l1 := hus.length
    have l2 := hub.length
    refine ⟨.ref a, rfl, a, us, rfl, Or.inr (SqT.of ha), .ref b, rfl, b, ub, rfl, Or.inr (SqT.of hb), Or.inl ⟨_, _, rfl, rfl, _, _, rfl, rfl, _, rfl, ite2 (fun e => ?_) fun e => ?_⟩⟩
    · refine q _ _ Sm.refl ?_
      have e' := of_decide_eq_true e
      have ej : joinD (.tuple xs) (.tuple ys) = .none := if_pos (by omega)
      rw [ej]
      exact .non
    · have e' : ¬ (400 : Int) < (us.length : Int) + (ub.length : Int) := fun z => e (decide_eq_true z)
      refine ⟨.ref a, rfl, .ref b, rfl, Or.inr (Or.inr (Or.inl ⟨a, b, us, ub, rfl, rfl, SqT.of ha, SqT.of hb, sz_of (by omega), fun z => ?_, fun _ z => ?_, fun _ _ p hp => ?_⟩))⟩
      · rw [z] at l1
        simp at l1
        omega
      · rw [z] at l2
        simp at l2
        omega
      · have ej : joinD (.tuple xs) (.tuple ys) = .tuple (xs ++ ys) := if_neg (by omega)
        rw [ej] at q
        exact q _ _ (Sm.new hp) (dq_new hM hp (hus.append hub))
def sp_short_words (A : Ads) : Sp := spD (ct A) fun ds d => ∃ n bs es, ds = [encNet n bs es] ∧ NetOk n bs es ∧ d = .list (wordsD n bs)
theorem ok_short_words (T : Txt K mg A) : Df P w K mg base CX0 4 "short_words" A.a_short_words ["net"] (sp_short_words A) := by
  obtain ⟨fd, F, b⟩ := T.f_short_words
  refine ⟨⟨fd, fnG_of F sc_short_words (spD_len fun ds d h => ?_) fun cdv A0 outer s H vs Q E hcd hr h => ?_, b, At.of F⟩, F.kp, T.g_short_words⟩
  · obtain ⟨n, bs, es, rfl, _⟩ := h
    rfl
  · obtain ⟨M, ds, d, gd, hM, hq, ⟨n, bs, es, rfl, hN, rfl⟩, q⟩ := h
    obtain ⟨v0, rfl, h0⟩ := hq.inv1
    obtain ⟨a, us, rfl, na, ha, hus⟩ := h0.tup_inv
    obtain ⟨u0, u1, u2, rfl, hu0, hu1, hu2⟩ := hus.inv3
    cases hu0.int_inv
    have d_run_through := ok_run_through (P := P) (w := w) (base := base) T
    have n2 := hN.n2
    refine ⟨_, PSs.nox (pss_one (ps_ret (pe_df d_run_through hr (by decide) rfl pass0 (pa_cons (pv 0) (pa_cons (pe_lc (own := [("place", 1)]) (g := gName 1) (tt := tYes) rfl sc_short_words.nd (pi_range1 (by rfl) T.z_range (pa_cons (pe_ix (ix_K (K := K)) (pv 0) pe_int (fun _ _ => rfl)) pa_nil)) (blkOk_by (own := [("place", 1)]) (N := ["net", "place"]) (sc := defScope s_short_words) (by decide +kernel)) (fun _ _ _ _ _ => pg_name (i := 1) sc_short_words.nd rfl (Or.inl rfl)) (fun _ _ _ _ _ => pts_nil) (fun _ _ _ _ _ => (pe_tup (pa_cons (pv 1) pa_nil)))) (pa_cons (pe_glob (v := .ref A.a_join_words) rfl T.g_join_words rfl) pa_nil)))))), ?_⟩
    refine ⟨.ref a, rfl, .ref a, rfl, Or.inr (Or.inl ⟨a, _, 0, _, rfl, rfl, SqT.of ha, atI_of (j := 0) rfl, ?_⟩)⟩
    refine ⟨_, rfl, by omega, by omega, fun D hD => L2.lc_it (L2.walk_range (lo := 0) (n := ((n : Int)).toNat))
      (fun i H' => Sm (ct A) [D] (upd H D (.lst [])) H' ∧ ∃ xs, H' D = some (.lst xs) ∧ Dqs (D :: M) H' xs ((List.range i).map fun k => .tuple [nI k])) ?_ (fun _ _ _ _ => trivial) (fun i x H' H'' hi hW hY => ?_) (fun H' hW => ?_)⟩
    · exact ⟨Sm.refl, [], upd_same, .nil⟩
    · obtain ⟨sW, xs, eW, dW⟩ := hW
      obtain ⟨rfl, rfl⟩ := hY
      have hi' : i < n := by omega
      refine ⟨rfl, .int (0 + (i : Nat)), rfl, sz_of (by show 1 ≤ 100000; decide), fun p hp => ?_⟩
      have nDp : D ≠ p := ne_of_none eW hp
      have s2 : Sm (ct A) [D] H'' (upd H'' p (.tup [.int (0 + (i : Nat))])) := Sm.new hp
      have lx : xs.length = i := dW.length.trans (by simp)
      have hM2 : ∀ m ∈ D :: M, H'' m ≠ none := fun m hm => by
        rcases List.mem_cons.mp hm with z | z
        · rw [z, eW]
          nofun
        · exact ((Sm.new hD).trans sW).st m (hM m z)
      have e2 : (upd H'' p (.tup [.int (0 + (i : Nat))])) D = some (.lst xs) := by rw [upd_ne nDp]; exact eW
      refine ⟨xs, e2, sz_lt (by omega), ?_, _, upd_same, ?_⟩
      · exact (sW.trans s2).trans (Sm.put List.mem_cons_self e2)
      · have sp : Sm (ct A) (D :: M) _ (upd (upd H'' p (.tup [.int (0 + (i : Nat))])) D (.lst (xs ++ [.ref p]))) := Sm.put List.mem_cons_self e2
        rw [List.range_succ, List.map_append]
        refine ((dW.sm (s2.sub fun z hz => by rw [List.mem_singleton.mp hz]; exact List.mem_cons_self)).snoc ?_).sm sp
        have := dq_new hM2 hp (.one (.int (0 + (i : Nat))))
        rw [Int.zero_add] at this ⊢
        exact this
    · obtain ⟨sW, xs, eW, dW⟩ := hW
      have s0 : Sm (ct A) [] H H' := ((Sm.new hD).trans sW).out hD
      rw [Int.toNat_natCast] at dW
      refine ⟨M, n, bs, es, (List.range n).map fun k => .tuple [nI k], joinD, PrW, .ref a, .ref D, A.a_join_words, rfl, s0.gd gd, fun m hm => s0.st m (hM m hm), h0.sm s0.any, ?_, by simp, n2, hN.b, hN.bx, ?_, fun x y hx hy => prW_join hx hy, ?_, fun v H4 s4 hv => q _ _ (s0.trans s4) hv⟩
      · exact .lst (fun z => hM D z hD) eW (dW.sub fun z hz => List.mem_cons_of_mem _ hz)
      · intro x hx
        obtain ⟨k, _, rfl⟩ := List.mem_map.mp hx
        exact Or.inr ⟨_, rfl, by simp, by simp⟩
      · exact (Cal.of (ok_join_words (P := P) (w := w) (base := base) T) rfl).mono (by decide)

theorem inV_nat (t : Nat) : ∀ ks : List Nat, inV (.int (t : Int)) (ks.map fun x : Nat => V.int (x : Int)) = decide (t ∈ ks)
  | [] => rfl
  | k :: r => by
    have ih := inV_nat t r
    unfold inV at ih ⊢
    rw [List.map_cons, List.any_cons, ih]
    show (((k : Int) == (t : Int)) || _) = _
    by_cases h : t = k
    · subst h
      simp
    · have : ((k : Int) == (t : Int)) = false := beq_eq_false_iff_ne.mpr fun z => h (by omega)
      rw [this, Bool.false_or]
      exact decide_eq_decide.mpr ⟨fun z => List.mem_cons_of_mem _ z, fun z => by
        rcases List.mem_cons.mp z with y | y
        · exact absurd y h
        · exact y⟩
/-- [place for place in xs if place not in ys] -/
theorem lc_notin {te : TE} {a b : Addr} {xs ys : List Nat} {H : Hp} {s0 s1 s2 : Option V} {j : Nat} {Q : VK} (ha : H a = some (.tup (xs.map fun x : Nat => V.int (x : Int)))) (hb : H b = some (.tup (ys.map fun x : Nat => V.int (x : Int)))) (hl : xs.length ≤ 1000)
    (hte : ∀ Q' : VK, Q' (.ref a) H → te [s0, s1, s2] H Q') (hj : ∀ y : Option V, ([s0, s1, y] : L2.St)[j]? = some (some (.ref b)))
    (hQ : ∀ D H', Sm (ct A) [] H H' → H' D = some (.lst ((xs.filter fun x => !decide (x ∈ ys)).map fun x : Nat => V.int (x : Int))) → Q (.ref D) H') :
    tLc (iSeq K te) (gName 2) (tTest (tOp (rIn K true) (tVar 2) (tVar j))) (tVar 2) [2] [s0, s1, s2] H Q := by
  refine hte _ ⟨a, rfl, Or.inr ⟨⟨_, SqT.of ha⟩, fun D hD => L2.lc_it (L2.walk_tup (K := K) (a := a) (xs := xs.map fun x : Nat => V.int (x : Int)))
    (fun i H' => Sm (ct A) [D] (upd H D (.lst [])) H' ∧ H' D = some (.lst (((xs.take i).filter fun x => !decide (x ∈ ys)).map fun x : Nat => V.int (x : Int)))) ⟨Sm.refl, upd_same⟩ (fun i H' _ hW => ?_) (fun t x H' H'' ht hW hY => ?_) (fun H3 hW => ?_)⟩⟩
  · exact SqT.of ((((Sm.new hD).trans hW.1).out hD).ex (c := ct A) a _ (fun z => nomatch z) ha nofun)
  · obtain ⟨sW, eD⟩ := hW
    obtain ⟨rfl, hx⟩ := hY
    have sQ : Sm (ct A) [] H H'' := ((Sm.new hD).trans sW).out hD
    rw [List.getElem?_map] at hx
    obtain ⟨y, hy, ey⟩ := Option.map_eq_some_iff.mp hx
    subst ey
    rw [List.length_map] at ht
    have ef : (xs.take (t + 1)).filter (fun x => !decide (x ∈ ys)) = (xs.take t).filter (fun x => !decide (x ∈ ys)) ++ (if (!decide (y ∈ ys)) = true then [y] else []) := by
      rw [List.take_add_one, hy, List.filter_append]
      congr 1
      show [y].filter _ = _
      rw [List.filter_cons]
      rfl
    have lz := List.length_filter_le (fun x => !decide (x ∈ ys)) (xs.take t)
    have := List.length_take_le t xs
    refine ⟨rfl, _, rfl, _, hj _, b, _, rfl, Or.inr (SqT.of (sQ.ex b _ (fun z => nomatch z) hb nofun)), rfl, ?_, _, rfl, ?_⟩
    · rw [List.all_map, List.all_eq_true]
      intro x _
      rfl
    have ei : inV (.int (y : Int)) (ys.map fun x : Nat => V.int (x : Int)) = decide (y ∈ ys) := inV_nat y ys
    rw [ei, if_pos (rfl : true = true)]
    refine ite2 (fun e => ?_) fun e => ?_
    · refine ⟨_, rfl, _, eD, sz_lt (by rw [List.length_map]; omega), sW.trans (Sm.put List.mem_cons_self eD), ?_⟩
      rw [upd_same, ef, if_pos e, List.map_append]
      rfl
    · exact ⟨sW, by rw [ef, if_neg e, List.append_nil]; exact eD⟩
  · obtain ⟨sW, eD⟩ := hW
    rw [List.length_map, List.take_length] at eD
    exact hQ D H3 (((Sm.new hD).trans sW).out hD) eD
theorem enc_app (a b : List Nat) : ((a ++ b).map fun x : Nat => V.int (x : Int)) = (a.map fun x : Nat => V.int (x : Int)) ++ b.map fun x : Nat => V.int (x : Int) := List.map_append
/-- a tuple of numbers behind another one -/
theorem cat_nats {M : List Addr} {H : Hp} {a b : Addr} {xs ys : List Nat} {Q : VK} (hM : ∀ m ∈ M, H m ≠ none) (na : a ∉ M) (nb : b ∉ M) (ha : H a = some (.tup (xs.map fun x : Nat => V.int (x : Int)))) (hb : H b = some (.tup (ys.map fun x : Nat => V.int (x : Int)))) (hl : xs.length + ys.length ≤ 10000)
    (hQ : ∀ v H', Sm (ct A) [] H H' → Dq M H' v (encW (xs ++ ys)) → Q v H') : rAddG K (.ref a) (.ref b) H Q := by
  refine Or.inr (Or.inr (Or.inl ⟨a, b, _, _, rfl, rfl, SqT.of ha, SqT.of hb, sz_of (by rw [List.length_map, List.length_map]; omega), fun z => ?_, fun _ z => ?_, fun _ _ p hp => ?_⟩))
  · have e : xs = [] := List.map_eq_nil_iff.mp z
    rw [e, List.nil_append] at hQ
    exact hQ _ _ Sm.refl (.tup nb hb (Dqs.nats ys))
  · have e : ys = [] := List.map_eq_nil_iff.mp z
    rw [e, List.append_nil] at hQ
    exact hQ _ _ Sm.refl (.tup na ha (Dqs.nats xs))
  · rw [← enc_app]
    exact hQ _ _ (Sm.new hp) (dq_new hM hp (Dqs.nats _))
theorem ok_join_firsts (T : Txt K mg A) : Df P w K mg base CX0 1 "join_firsts" A.a_join_firsts ["ahead", "behind"] (spJ (ct A) PrN (jOf addF)) := by
  obtain ⟨fd, F, b⟩ := T.f_join_firsts
  refine ⟨⟨fd, fnG_of F sc_join_firsts (spD_len fun ds d h => ?_) fun cdv A0 outer s H vs Q E hcd hr h => ?_, b, At.of F⟩, F.kp, T.g_join_firsts⟩
  · obtain ⟨x, y, rfl, _⟩ := h
    rfl
  · obtain ⟨M, ds, d, gd, hM, hq, ⟨x, y, rfl, ⟨xs, rfl, x1, x2⟩, ⟨ys, rfl, y1, y2⟩, rfl⟩, q⟩ := h
    obtain ⟨v0, v1, rfl, h0, h1⟩ := hq.inv2
    obtain ⟨a, u, rfl, na, ha, hu⟩ := h0.tup_inv
    obtain ⟨c, u', rfl, nc, hc, hu'⟩ := h1.tup_inv
    rw [nats_inv hu] at ha
    rw [nats_inv hu'] at hc
    rw [jOf_enc] at q
    have l1 := nodup_len 12 xs x1 x2
    have l2 := nodup_len 12 ys y1 y2
    have l3 := List.length_filter_le (fun x => !decide (x ∈ xs)) ys
    refine ⟨_, PSs.nox (pss_one (ps_ret (pe_op (op_addK (K := K)) (pv 0) (pe_callTy (call_tupleK (K := K)) (by rfl) T.z_tuple (by decide +kernel) (pa_cons (pe_lc (own := [("place", 2)]) (g := gName 2) (tt := _) rfl sc_join_firsts.nd (pi_K (K := K) (pv 1)) (blkOk_by (own := [("place", 2)]) (N := ["ahead", "behind", "place"]) (sc := defScope s_join_firsts) (by decide +kernel)) (fun _ _ _ _ _ => pg_name (i := 2) sc_join_firsts.nd rfl (Or.inl rfl)) (fun _ _ _ _ _ => pts_one (pt_cmpR (op_notInK (K := K)) (pv 2) (pv 0) (by rfl))) (fun _ _ _ _ _ => (pv 2))) pa_nil))))), ?_⟩
    refine ⟨.ref a, rfl, ?_⟩
    dsimp only [tCB, tCons]
    refine lc_notin (A := A) (j := 0) hc ha (by omega) (fun Q' h => ⟨.ref c, rfl, h⟩) (fun y => rfl) fun D H3 s3 eD => ⟨D, _, rfl, Or.inl ⟨SqL.of eD, fun p hp => ?_⟩⟩
    have sp1 : ∀ {N}, Sm (ct A) N H3 (upd H3 p (.tup ((ys.filter fun x => !decide (x ∈ xs)).map fun x : Nat => V.int (x : Int)))) := Sm.new hp
    have hM3 : ∀ m ∈ M, H3 m ≠ none := fun m hm => s3.st m (hM m hm)
    have s4 := s3.trans (sp1 (N := []))
    exact cat_nats (A := A) (fun m hm => s4.st m (hM m hm)) na (fun z => hM3 p z hp) (s4.ex a _ (fun z => nomatch z) ha nofun) upd_same (by omega) fun v H' s d => q v H' (s4.trans s) d
theorem ok_join_lasts (T : Txt K mg A) : Df P w K mg base CX0 1 "join_lasts" A.a_join_lasts ["ahead", "behind"] (spJ (ct A) PrN (jOf addL)) := by
  obtain ⟨fd, F, b⟩ := T.f_join_lasts
  refine ⟨⟨fd, fnG_of F sc_join_lasts (spD_len fun ds d h => ?_) fun cdv A0 outer s H vs Q E hcd hr h => ?_, b, At.of F⟩, F.kp, T.g_join_lasts⟩
  · obtain ⟨x, y, rfl, _⟩ := h
    rfl
  · obtain ⟨M, ds, d, gd, hM, hq, ⟨x, y, rfl, ⟨xs, rfl, x1, x2⟩, ⟨ys, rfl, y1, y2⟩, rfl⟩, q⟩ := h
    obtain ⟨v0, v1, rfl, h0, h1⟩ := hq.inv2
    obtain ⟨a, u, rfl, na, ha, hu⟩ := h0.tup_inv
    obtain ⟨c, u', rfl, nc, hc, hu'⟩ := h1.tup_inv
    rw [nats_inv hu] at ha
    rw [nats_inv hu'] at hc
    rw [jOf_enc] at q
    have l1 := nodup_len 12 xs x1 x2
    have l2 := nodup_len 12 ys y1 y2
    have l3 := List.length_filter_le (fun x => !decide (x ∈ ys)) xs
    refine ⟨_, PSs.nox (pss_one (ps_ret (pe_op (op_addK (K := K)) (pe_callTy (call_tupleK (K := K)) (by rfl) T.z_tuple (by decide +kernel) (pa_cons (pe_lc (own := [("place", 2)]) (g := gName 2) (tt := _) rfl sc_join_lasts.nd (pi_K (K := K) (pv 0)) (blkOk_by (own := [("place", 2)]) (N := ["ahead", "behind", "place"]) (sc := defScope s_join_lasts) (by decide +kernel)) (fun _ _ _ _ _ => pg_name (i := 2) sc_join_lasts.nd rfl (Or.inl rfl)) (fun _ _ _ _ _ => pts_one (pt_cmpR (op_notInK (K := K)) (pv 2) (pv 1) (by rfl))) (fun _ _ _ _ _ => (pv 2))) pa_nil)) (pv 1)))), ?_⟩
    dsimp only [tRet, tOp, tCB, tCons]
    refine lc_notin (A := A) (j := 1) ha hc (by omega) (fun Q' h => ⟨.ref a, rfl, h⟩) (fun y => rfl) fun D H3 s3 eD => ⟨D, _, rfl, Or.inl ⟨SqL.of eD, fun p hp => ⟨.ref c, rfl, ?_⟩⟩⟩
    have sp1 : ∀ {N}, Sm (ct A) N H3 (upd H3 p (.tup ((xs.filter fun x => !decide (x ∈ ys)).map fun x : Nat => V.int (x : Int)))) := Sm.new hp
    have hM3 : ∀ m ∈ M, H3 m ≠ none := fun m hm => s3.st m (hM m hm)
    have s4 := s3.trans (sp1 (N := []))
    exact cat_nats (A := A) (fun m hm => s4.st m (hM m hm)) (fun z => hM3 p z hp) nc upd_same (s4.ex c _ (fun z => nomatch z) hc nofun) (by omega) fun v H' s d => q v H' (s4.trans s) d
theorem ok_join_sets (T : Txt K mg A) : Df P w K mg base CX0 2 "join_sets" A.a_join_sets ["ahead", "behind"] (spJ (ct A) PrN (jOf addS)) := by
  obtain ⟨fd, F, b⟩ := T.f_join_sets
  refine ⟨⟨fd, fnG_of F sc_join_sets (spD_len fun ds d h => ?_) fun cdv A0 outer s H vs Q E hcd hr h => ?_, b, At.of F⟩, F.kp, T.g_join_sets⟩
  · obtain ⟨x, y, rfl, _⟩ := h
    rfl
  · obtain ⟨M, ds, d, gd, hM, hq, ⟨x, y, rfl, hx, hy, rfl⟩, q⟩ := h
    obtain ⟨v0, v1, rfl, h0, h1⟩ := hq.inv2
    have d_join_firsts := ok_join_firsts (P := P) (w := w) (base := base) T
    refine ⟨_, PSs.nox (pss_one (ps_ret (pe_callTy (call_tupleK (K := K)) (by rfl) T.z_tuple (by decide +kernel) (pa_cons (pe_callB (call_srtT (K := K)) (by rfl) T.z_sorted (by decide +kernel) (pa_cons (pe_df d_join_firsts hr (by decide) rfl pass0 (pa_cons (pv 0) (pa_cons (pv 1) pa_nil))) pa_nil)) pa_nil)))), ?_⟩
    refine ⟨v0, rfl, v1, rfl, M, _, _, gd, hM, .two h0 h1, ⟨_, _, rfl, hx, hy, rfl⟩, fun v H1 s1 dv => ?_⟩
    obtain ⟨xs, rfl, x1, x2⟩ := hx
    obtain ⟨ys, rfl, y1, y2⟩ := hy
    rw [jOf_enc] at dv q
    obtain ⟨c, u, rfl, nc, hc, hu⟩ := dv.tup_inv
    rw [nats_inv hu] at hc
    have hM1 : ∀ m ∈ M, H1 m ≠ none := fun m hm => s1.st m (hM m hm)
    refine ⟨c, (addF xs ys).map fun k : Nat => (k : Int), rfl, SqT.of (by rw [← nats_ints]; exact hc), fun ns p pm so hp => ?_⟩
    have en := sorted_addS x1 y1 x2 y2 pm so
    subst en
    have sp1 : ∀ {N}, Sm (ct A) N H1 (upd H1 p (.lst (((addS xs ys).map fun k : Nat => (k : Int)).map V.int))) := Sm.new hp
    have hM2 : ∀ m ∈ M, (upd H1 p (.lst (((addS xs ys).map fun k : Nat => (k : Int)).map V.int))) m ≠ none := fun m hm => (sp1 (N := [])).st m (hM1 m hm)
    refine ⟨p, _, rfl, Or.inl ⟨SqL.of upd_same, fun p2 hp2 => ?_⟩⟩
    have e : (((addS xs ys).map fun k : Nat => (k : Int)).map V.int) = (addS xs ys).map fun x : Nat => V.int (x : Int) := (nats_ints).symm
    rw [e] at hp2 hM2 sp1 ⊢
    exact q _ _ ((s1.trans sp1).trans (Sm.new hp2)) (dq_new hM2 hp2 (Dqs.nats _))
def PrE (x : PyData) : Prop := ∃ i j : Nat, x = encW [i, j]
theorem prE_E {x y : PyData} (hx : PrE x) (hy : PrE y) : PrE (jOf addE x y) := by
  obtain ⟨a, b, rfl⟩ := hx
  obtain ⟨c, d, rfl⟩ := hy
  rw [jOf_enc]
  exact ⟨a, d, rfl⟩
theorem ok_join_ends (T : Txt K mg A) : Df P w K mg base CX0 1 "join_ends" A.a_join_ends ["ahead", "behind"] (spJ (ct A) PrE (jOf addE)) := by
  obtain ⟨fd, F, b⟩ := T.f_join_ends
  refine ⟨⟨fd, fnG_of F sc_join_ends (spD_len fun ds d h => ?_) fun cdv A0 outer s H vs Q E hcd hr h => ?_, b, At.of F⟩, F.kp, T.g_join_ends⟩
  · obtain ⟨x, y, rfl, _⟩ := h
    rfl
  · obtain ⟨M, ds, d, gd, hM, hq, ⟨x, y, rfl, ⟨i, j, rfl⟩, ⟨k, l, rfl⟩, rfl⟩, q⟩ := h
    obtain ⟨v0, v1, rfl, h0, h1⟩ := hq.inv2
    obtain ⟨a, u, rfl, na, ha, hu⟩ := h0.tup_inv
    obtain ⟨c, u', rfl, nc, hc, hu'⟩ := h1.tup_inv
    rw [nats_inv hu] at ha
    rw [nats_inv hu'] at hc
    rw [jOf_enc] at q
    refine ⟨_, PSs.nox (pss_one (ps_ret (pe_tup (pa_cons (pe_ix (ix_K (K := K)) (pv 0) pe_int (fun _ _ => rfl)) (pa_cons (pe_ix (ix_K (K := K)) (pv 1) pe_int (fun _ _ => rfl)) pa_nil))))), ?_⟩
    refine ⟨.ref a, rfl, Or.inr (Or.inl ⟨a, _, 0, _, rfl, rfl, SqT.of ha, atI_of (j := 0) rfl, ?_⟩)⟩
    refine ⟨.ref c, rfl, Or.inr (Or.inl ⟨c, _, 1, _, rfl, rfl, SqT.of hc, atI_of (j := 1) rfl, ?_⟩)⟩
    exact ⟨sz_of (by show 2 ≤ 100000; decide), fun p hp => q _ _ (Sm.new hp) (dq_new hM hp (.two (.int _) (.int _)))⟩

def PrC (n : Nat) (x : PyData) : Prop := ∃ w : List Nat, x = encW w ∧ w.length = n
theorem prC_C {n : Nat} {x y : PyData} (hx : PrC n x) (hy : PrC n y) : PrC n (jOf addC x y) := by
  obtain ⟨a, rfl, ea⟩ := hx
  obtain ⟨b, rfl, eb⟩ := hy
  rw [jOf_enc]
  exact ⟨_, rfl, by unfold addC; rw [List.length_zipWith, ea, eb, Nat.min_self]⟩
/-- [one + two for one, two in zip(xs, ys)] -/
theorem lc_addC {a b : Addr} {xs ys : List Nat} {H : Hp} {s2 s3 : Option V} {Q : VK} (ha : H a = some (.tup (xs.map fun x : Nat => V.int (x : Int)))) (hb : H b = some (.tup (ys.map fun x : Nat => V.int (x : Int)))) (hl : xs.length = ys.length) (hn : xs.length ≤ 1000)
    (hQ : ∀ D H', Sm (ct A) [] H H' → H' D = some (.lst ((addC xs ys).map fun x : Nat => V.int (x : Int))) → Q (.ref D) H') :
    tLc (RZ.iZipA K (tCons (tVar 0) (tCons (tVar 1) tNil))) (gTup K 2 (gCons (gName 2) (gCons (gName 3) gNil))) tYes (tOp (rAddG K) (tVar 2) (tVar 3)) [2, 3] [some (.ref a), some (.ref b), s2, s3] H Q := by
  refine ⟨_, rfl, _, rfl, a, b, xs.map fun x : Nat => V.int (x : Int), ys.map fun x : Nat => V.int (x : Int), rfl, Or.inr ⟨SqT.of ha, SqT.of hb, fun D hD => L2.lc_it (walk_zipT (K := K) (a := a) (b := b) (n := xs.length) (xs := xs.map fun x : Nat => V.int (x : Int)) (ys := ys.map fun x : Nat => V.int (x : Int)) (by simp) (by simp [hl]))
    (fun i H' => Sm (ct A) [D] (upd H D (.lst [])) H' ∧ H' D = some (.lst (((addC xs ys).take i).map fun x : Nat => V.int (x : Int)))) ⟨Sm.refl, upd_same⟩ (fun i H' _ hW => ?_) (fun t x H' H'' ht hW hY => ?_) (fun H3 hW => ?_)⟩⟩
  · have s : Sm (ct A) [] H H' := ((Sm.new hD).trans hW.1).out hD
    exact ⟨SqT.of (s.ex a _ (fun z => nomatch z) ha nofun), SqT.of (s.ex b _ (fun z => nomatch z) hb nofun)⟩
  · obtain ⟨sW, eD⟩ := hW
    obtain ⟨T0, x1, x2, rfl, hT, rfl, h1, h2⟩ := hY
    have sT : Sm (ct A) [D] H' (upd H' T0 (.tup [x1, x2])) := Sm.new hT
    have nD : D ≠ T0 := ne_of_none eD hT
    have h1 : (xs.map fun x : Nat => V.int (x : Int))[t]? = some x1 := h1
    have h2 : (ys.map fun x : Nat => V.int (x : Int))[t]? = some x2 := h2
    rw [List.getElem?_map] at h1 h2
    obtain ⟨y1, g1, e1⟩ := Option.map_eq_some_iff.mp h1
    obtain ⟨y2, g2, e2⟩ := Option.map_eq_some_iff.mp h2
    subst e1 e2
    have eD2 : (upd H' T0 (.tup [V.int (y1 : Int), V.int (y2 : Int)])) D = some (.lst (((addC xs ys).take t).map fun x : Nat => V.int (x : Int))) := by
      rw [upd_ne nD]
      exact eD
    have eg : (addC xs ys)[t]? = some (y1 + y2) := by
      unfold addC
      rw [List.getElem?_zipWith, g1, g2]
    have ef : ((addC xs ys).take (t + 1)).map (fun x : Nat => V.int (x : Int)) = ((addC xs ys).take t).map (fun x : Nat => V.int (x : Int)) ++ [.int ((y1 : Int) + (y2 : Int))] := by
      rw [List.take_add_one, eg, List.map_append]
      rfl
    refine ⟨T0, _, rfl, SqT.of upd_same, rfl, _, _, rfl, _, _, rfl, rfl, rfl, ?_⟩
    refine ⟨_, rfl, _, rfl, Or.inl ⟨_, _, rfl, rfl, _, eD2, sz_lt (by rw [List.length_map]; have := List.length_take_le t (addC xs ys); omega), ?_, ?_⟩⟩
    · exact (sW.trans sT).trans (Sm.put List.mem_cons_self eD2)
    · rw [upd_same, ef]
  · obtain ⟨sW, eD⟩ := hW
    rw [List.take_of_length_le (by unfold addC; rw [List.length_zipWith]; omega)] at eD
    exact hQ D H3 (((Sm.new hD).trans sW).out hD) eD
theorem ok_join_counts (T : Txt K mg A) (n : Nat) (hn : n ≤ 12) : Df P w K mg base CX0 1 "join_counts" A.a_join_counts ["ahead", "behind"] (spJ (ct A) (PrC n) (jOf addC)) := by
  obtain ⟨fd, F, b⟩ := T.f_join_counts
  refine ⟨⟨fd, fnG_of F sc_join_counts (spD_len fun ds d h => ?_) fun cdv A0 outer s H vs Q E hcd hr h => ?_, b, At.of F⟩, F.kp, T.g_join_counts⟩
  · obtain ⟨x, y, rfl, _⟩ := h
    rfl
  · obtain ⟨M, ds, d, gd, hM, hq, ⟨x, y, rfl, ⟨xs, rfl, e1⟩, ⟨ys, rfl, e2⟩, rfl⟩, q⟩ := h
    obtain ⟨v0, v1, rfl, h0, h1⟩ := hq.inv2
    obtain ⟨a, u, rfl, na, ha, hu⟩ := h0.tup_inv
    obtain ⟨c, u', rfl, nc, hc, hu'⟩ := h1.tup_inv
    rw [nats_inv hu] at ha
    rw [nats_inv hu'] at hc
    rw [jOf_enc] at q
    refine ⟨_, PSs.nox (pss_one (ps_ret (pe_callTy (call_tupleK (K := K)) (by rfl) T.z_tuple (by decide +kernel) (pa_cons (pe_lc (own := [("one", 2), ("two", 3)]) (g := gTup K 2 (gCons (gName 2) (gCons (gName 3) gNil))) (tt := tYes) rfl sc_join_counts.nd (pi_zipAK (K := K) (by rfl) T.z_zip (pa_cons (pv 0) (pa_cons (pv 1) pa_nil))) (blkOk_by (own := [("one", 2), ("two", 3)]) (N := ["ahead", "behind", "one", "two"]) (sc := defScope s_join_counts) (by decide +kernel)) (fun _ _ _ _ _ => pg_tup rfl (pgs_cons (pg_name (i := 2) sc_join_counts.nd rfl (Or.inl rfl)) (pgs_cons (pg_name (i := 3) sc_join_counts.nd rfl (Or.inl rfl)) pgs_nil))) (fun _ _ _ _ _ => pts_nil) (fun _ _ _ _ _ => (pe_op (op_addK (K := K)) (pv 2) (pv 3)))) pa_nil)))), ?_⟩
    dsimp only [tRet, tOp, tCB, tCons]
    refine lc_addC (A := A) ha hc (by omega) (by omega) fun D H3 s3 eD => ⟨D, _, rfl, Or.inl ⟨SqL.of eD, fun p hp => ?_⟩⟩
    exact q _ _ (s3.trans (Sm.new hp)) (dq_new (fun m hm => s3.st m (hM m hm)) hp (Dqs.nats _))
/-- [int(place == other) for other in places] -/
theorem lc_eq {r : Addr} {n k : Nat} {j0 : Int} (ej : j0 = (k : Int)) {H : Hp} {v0 v2 s4 : Option V} {Q : VK} (hr : H r = some (.rng 0 (n : Int))) (hn : n ≤ 1000)
    (hQ : ∀ D H', Sm (ct A) [] H H' → H' D = some (.lst ((countsOf n [k]).map fun x : Nat => V.int (x : Int))) → Q (.ref D) H') :
    tLc (iRngV (tVar 1)) (gName 4) tYes (tCB (fun xs H Q => (∃ i, xs = [V.int i] ∧ Q (V.int i) H) ∨ ∃ k, xs = [V.bl k] ∧ Q (V.int (if k = true then 1 else 0)) H) (tCons (tOp (rEqG K) (tVar 3) (tVar 4)) tNil)) [4]
      [v0, some (.ref r), v2, some (.int j0), s4] H Q := by
  refine ⟨.ref r, rfl, r, 0, (n : Int), rfl, hr, ⟨by decide, by decide, by omega, by omega⟩, fun D hD => L2.lc_it (L2.walk_rangeC (lo := 0) (c := 1) (n := ((n : Int) - 0).toNat))
    (fun i H' => Sm (ct A) [D] (upd H D (.lst [])) H' ∧ H' D = some (.lst ((countsOf i [k]).map fun x : Nat => V.int (x : Int)))) ⟨Sm.refl, upd_same⟩ (fun _ _ _ _ => trivial) (fun i x H' H'' hi hW hY => ?_) (fun H3 hW => ?_)⟩
  · obtain ⟨sW, eD⟩ := hW
    obtain ⟨rfl, rfl⟩ := hY
    have hi' : i < n := by omega
    refine ⟨rfl, .int j0, rfl, .int (0 + ((i : Nat) : Int) * 1), rfl, Or.inl ⟨rfl, Or.inr ⟨_, rfl, _, eD, sz_lt (by unfold countsOf; simp; omega), sW.trans (Sm.put List.mem_cons_self eD), ?_⟩⟩⟩
    have ed : (V.int (if decide (V.int j0 = V.int (0 + ((i : Nat) : Int) * 1)) = true then 1 else 0)) = V.int (([k].count i : Nat) : Int) := by
      congr 1
      rw [L2.dec_int, ej]
      by_cases e : k = i
      · subst e
        simp
      · have e2 : ((k : Int) == 0 + (i : Int) * 1) = false := beq_eq_false_iff_ne.mpr (by omega)
        rw [e2, List.count_eq_zero.mpr (by simp; omega)]
        rfl
    rw [upd_same, ed]
    unfold countsOf
    rw [List.range_succ, List.map_append, List.map_append]
    rfl
  · obtain ⟨sW, eD⟩ := hW
    rw [show ((n : Int) - 0).toNat = n by omega] at eD
    exact hQ D H3 (((Sm.new hD).trans sW).out hD) eD
theorem ok_place_counts (T : Txt K mg A) : Df P w K mg base CX0 4 "place_counts" A.a_place_counts ["net"] (spD (ct A) fun ds d => ∃ n bs es L, ds = [encNet n bs es] ∧ NetOk n bs es ∧ Lens L (wordsOf n bs) ∧ d = .list ((wordsOf n bs).map fun w => encW (countsOf n w))) := by
  obtain ⟨fd, F, b⟩ := T.f_place_counts
  refine ⟨⟨fd, fnG_of F sc_place_counts (spD_len fun ds d h => ?_) fun cdv A0 outer s H vs Q E hcd hr h => ?_, b, At.of F⟩, F.kp, T.g_place_counts⟩
  · obtain ⟨n, bs, es, L, rfl, _⟩ := h
    rfl
  · obtain ⟨M, ds, d, gd, hM, hq, ⟨n, bs, es, L, rfl, hN, hL, rfl⟩, q⟩ := h
    obtain ⟨v0, rfl, h0⟩ := hq.inv1
    obtain ⟨a, us, rfl, na, ha, hus⟩ := h0.tup_inv
    obtain ⟨u0, u1, u2, rfl, hu0, hu1, hu2⟩ := hus.inv3
    cases hu0.int_inv
    have d_run_through := ok_run_through (P := P) (w := w) (base := base) T
    have n2 := hN.n2
    refine ⟨_, PSs.nox (pss_cons (ps_set (i := 1) sc_place_counts.nd rfl (Or.inr rfl) (pe_callTy cr_range1 (by rfl) T.z_range (by decide +kernel) (pa_cons (pe_ix (ix_K (K := K)) (pv 0) pe_int (fun _ _ => rfl)) pa_nil)))
        (pss_cons (ps_setLc (i := 2) (own := [("place", 3)]) (g := gName 3) (tt := tYes) rfl sc_place_counts.nd rfl rfl (sw_true rfl rfl rfl (by decide +kernel)) (pi_rngV (pv 1)) (blkOk_by (own := [("place", 3)]) (N := ["net", "places", "single", "place", "other"]) (sc := defScope s_place_counts) (by decide +kernel)) (fun _ _ _ _ _ => pg_name (i := 3) sc_place_counts.nd rfl (Or.inr rfl)) (fun _ _ _ _ _ => pts_nil) (fun _ _ _ _ _ => (pe_callTy (call_tupleK (K := K)) (by rfl) T.z_tuple (by decide +kernel) (pa_cons (pe_lc (own := [("other", 4)]) (g := gName 4) (tt := tYes) rfl sc_place_counts.nd (pi_rngV (pv 1)) (blkOk_by (own := [("other", 4)]) (N := ["net", "places", "single", "place", "other"]) (sc := ({ kind := .function, names := [(".0", .local), ("place", .cell), ("tuple", .globalImplicit), ("places", .cell)], isGenerator := false, isCoroutine := false } : Scope)) (by decide +kernel)) (fun _ _ _ _ _ => pg_name (i := 4) sc_place_counts.nd rfl (Or.inl rfl)) (fun _ _ _ _ _ => pts_nil) (fun _ _ _ _ _ => (pe_callTy call_int1 (by rfl) T.z_int (by decide +kernel) (pa_cons (pe_cmpR (op_eqK (K := K) hr) (pv 3) (pv 4) (nomark _)) pa_nil)))) pa_nil))))
        (pss_one (ps_ret (pe_df d_run_through hr (by decide) rfl pass0 (pa_cons (pv 0) (pa_cons (pv 2) (pa_cons (pe_glob (v := .ref A.a_join_counts) rfl T.g_join_counts rfl) pa_nil)))))))), ?_⟩
    refine ⟨.ref a, rfl, Or.inr (Or.inl ⟨a, _, 0, _, rfl, rfl, SqT.of ha, atI_of (j := 0) rfl, ?_⟩)⟩
    refine ⟨_, rfl, fun r hr => ?_⟩
    have sr : ∀ {N}, Sm (ct A) N H (upd H r (.rng 0 (n : Int))) := Sm.new hr
    refine ⟨.ref r, rfl, r, 0, (n : Int), rfl, upd_same, ⟨by decide, by decide, by omega, by omega⟩, fun D hD => L2.lc_it (L2.walk_rangeC (lo := 0) (c := 1) (n := ((n : Int) - 0).toNat))
      (fun i H' => Sm (ct A) [D] (upd (upd H r (.rng 0 (n : Int))) D (.lst [])) H' ∧ ∃ xs, H' D = some (.lst xs) ∧ Dqs (D :: M) H' xs ((List.range i).map fun k => encW (countsOf n [k]))) ⟨Sm.refl, [], upd_same, .nil⟩ (fun _ _ _ _ => trivial) (fun i x H' H'' hi hW hY => ?_) (fun H3 hW => ?_)⟩
    · obtain ⟨sW, xs, eD, dW⟩ := hW
      obtain ⟨rfl, rfl⟩ := hY
      have hi' : i < n := by omega
      have lx : xs.length = i := dW.length.trans (by simp)
      have s0 : Sm (ct A) [] (upd H r (.rng 0 (n : Int))) H'' := ((Sm.new hD).trans sW).out hD
      have er : H'' r = some (.rng 0 (n : Int)) := s0.ex r _ (fun z => nomatch z) upd_same nofun
      have ei : (0 + ((i : Nat) : Int) * 1 : Int) = (i : Int) := by omega
      refine ⟨rfl, ?_⟩
      dsimp only [tYes]
      rw [if_pos (rfl : true = true)]
      dsimp only [tCB, tCons]
      refine lc_eq (A := A) (k := i) ei er (by omega) fun D2 H4 s4 eD2 => ⟨D2, _, rfl, Or.inl ⟨SqL.of eD2, fun p hp => ?_⟩⟩
      have eD4 : H4 D = some (.lst xs) := s4.ex D _ (fun z => nomatch z) eD nofun
      have nDp : D ≠ p := ne_of_none eD4 hp
      have hM4 : ∀ m ∈ D :: M, H4 m ≠ none := fun m hm => by
        rcases List.mem_cons.mp hm with z | z
        · rw [z, eD4]
          nofun
        · exact (((sr (N := [])).trans s0).trans s4).st m (hM m z)
      have sp : ∀ {N}, Sm (ct A) N H4 (upd H4 p (.tup ((countsOf n [i]).map fun x : Nat => V.int (x : Int)))) := Sm.new hp
      have eD5 : (upd H4 p (.tup ((countsOf n [i]).map fun x : Nat => V.int (x : Int)))) D = some (.lst xs) := by
        rw [upd_ne nDp]
        exact eD4
      refine ⟨xs, eD5, sz_lt (by omega), ((sW.trans s4.any).trans sp).trans (Sm.put List.mem_cons_self eD5), _, upd_same, ?_⟩
      rw [List.range_succ, List.map_append]
      have sput : Sm (ct A) (D :: M) _ (upd (upd H4 p (.tup ((countsOf n [i]).map fun x : Nat => V.int (x : Int)))) D (.lst (xs ++ [.ref p]))) := Sm.put List.mem_cons_self eD5
      exact (((dW.sm s4.any).sm sp).snoc (dq_new hM4 hp (Dqs.nats _))).sm sput
    · obtain ⟨sW, xs, eD, dW⟩ := hW
      rw [show ((n : Int) - 0).toNat = n by omega] at dW
      have s0 : Sm (ct A) [] H H3 := (sr (N := [])).trans (((Sm.new hD).trans sW).out hD)
      have hM1 : ∀ m ∈ M, (upd H r (.rng 0 (n : Int))) m ≠ none := fun m hm => (sr (N := [])).st m (hM m hm)
      refine ⟨.ref a, rfl, .ref D, rfl, M, n, bs, es, (List.range n).map fun k => encW (countsOf n [k]), jOf addC, PrC n, .ref a, .ref D, A.a_join_counts, rfl, s0.gd gd, fun m hm => s0.st m (hM m hm), h0.sm s0.any, ?_, by simp, n2, hN.b, hN.bx, ?_, fun x y hx hy => prC_C hx hy, ?_, fun v H4 s4 hv => q _ _ (s0.trans s4) ?_⟩
      · exact .lst (fun z => hM1 D z hD) eD (dW.sub fun z hz => List.mem_cons_of_mem _ hz)
      · intro x hx
        obtain ⟨k, _, rfl⟩ := List.mem_map.mp hx
        exact ⟨_, rfl, by unfold countsOf; simp⟩
      · exact (Cal.of (ok_join_counts (P := P) (w := w) (base := base) T n n2) rfl).mono (by decide)
      · rw [forms_run (f := fun w => encW (countsOf n w)) (L := L) (fun a b _ _ _ => by rw [jOf_enc, counts_app]) hN.bx hL] at hv
        exact hv

/-- whether it is a kind -/
def kindD (d : PyData) : Bool := match d with
  | .int i => decide (2 ≤ i) && decide (i ≤ 8)
  | .str x => inV (.str x) [.str "any", .str "even", .str "first", .str "last", .str "sets", .str "ends"]
  | _ => false
def sp_is_kind (A : Ads) : Sp := spD (ct A) fun ds d => ∃ x, ds = [x] ∧ d = .bool (kindD x)
theorem ok_is_kind (T : Txt K mg A) : Df P w K mg base CX0 2 "is_kind" A.a_is_kind ["value"] (sp_is_kind A) := by
  obtain ⟨fd, F, b⟩ := T.f_is_kind
  refine ⟨⟨fd, fnG_of F sc_is_kind (spD_len fun ds d h => ?_) fun cdv A0 outer s H vs Q E hcd hr h => ?_, b, At.of F⟩, F.kp, T.g_is_kind⟩
  · obtain ⟨x, rfl, _⟩ := h
    rfl
  · obtain ⟨M, ds, d, gd, hM, hq, ⟨x, rfl, rfl⟩, q⟩ := h
    obtain ⟨v0, rfl, h0⟩ := hq.inv1
    have d_is_whole := ok_is_whole (P := P) (w := w) (base := base) T
    have out : ∀ {H' : Hp} {c : Bool}, Sm (ct A) [] H H' → kindD x = c → Q (.bl c) H' := fun s e => q _ _ s (by rw [e]; exact .bl _)
    refine ⟨_, PSs.nox (pss_one (ps_ret (pe_or (pe_df d_is_whole hr (by decide) rfl pass0 (pa_cons (pv 0) (pa_cons pe_int (pa_cons pe_int pa_nil)))) (pe_one (pe_and (pe_cmpR op_isG (pe_callTy (call_typeK (K := K)) (by rfl) T.z_type (by decide +kernel) (pa_cons (pv 0) pa_nil)) (pe_bltn (v := .ty "str") (u := .type "str") rfl T.z_str (by decide +kernel) rfl) (nomark _)) (pe_one (pe_cmpR (op_inK (K := K)) (pv 0) (pe_gcon T.c_NAMED_KINDS (by rfl)) (by rfl)))))))), ?_⟩
    refine ⟨v0, rfl, M, _, _, gd, hM, .three h0 (.int 2) (.int 8), ⟨_, _, _, rfl, rfl⟩, fun v H1 s1 hv => ?_⟩
    cases hv.bool_inv
    refine ⟨_, rfl, ite2 (fun e => ?_) fun e => ?_⟩
    · obtain ⟨i, rfl, i1, i2⟩ := wholeD_int e
      refine out s1 ?_
      show (decide ((2 : Int) ≤ i) && decide (i ≤ 8)) = true
      rw [decide_eq_true i1, decide_eq_true i2]
      rfl
    · have h1 := h0.sm s1.any
      refine ⟨v0, rfl, _, _, rfl, h1.ty, Or.inr (Or.inl ⟨_, _, rfl, rfl, _, rfl, ite2 (fun e1 => ?_) fun e1 => ?_⟩)⟩
      · have e1' : tyName x = "str" := of_decide_eq_true e1
        cases h1 with
        | str z => exact ⟨_, rfl, A.n_NAMED_KINDS, _, rfl, Or.inr (T.q_NAMED_KINDS _), rfl, rfl, out s1 rfl⟩
        | _ => exact absurd e1' (by simp [tyName])
      · refine out s1 ?_
        cases x with
        | int i =>
          have : wholeD (.int i) 2 8 = false := Bool.eq_false_iff.mpr e
          exact this
        | str _ => exact absurd (decide_eq_true (rfl : tyName (.str _) = "str")) e1
        | _ => rfl

theorem ok_check_kind (T : Txt K mg A) : Df P w K mg base CX0 3 "check_kind" A.a_check_kind ["kind"] (spD (ct A) fun ds d => ∃ x, ds = [x] ∧ kindD x = true ∧ d = .none) := by
  obtain ⟨fd, F, b⟩ := T.f_check_kind
  refine ⟨⟨fd, fnG_of F sc_check_kind (spD_len fun ds d h => ?_) fun cdv A0 outer s H vs Q E hcd hr h => ?_, b, At.of F⟩, F.kp, T.g_check_kind⟩
  · obtain ⟨x, rfl, _⟩ := h
    rfl
  · obtain ⟨M, ds, d, gd, hM, hq, ⟨x, rfl, hx, rfl⟩, q⟩ := h
    obtain ⟨v0, rfl, h0⟩ := hq.inv1
    have d_is_kind := ok_is_kind (P := P) (w := w) (base := base) T
    refine ⟨_, PSs.nox (pss_one (ps_if (pt_not (pt_val (pe_df d_is_kind hr (by decide) rfl pass0 (pa_cons (pv 0) pa_nil))))
        (pss_one ps_never)
        pss_nil)), ?_⟩
    refine ⟨v0, rfl, M, _, _, gd, hM, .one h0, ⟨_, rfl, rfl⟩, fun v H1 s1 hv => ?_⟩
    cases hv.bool_inv
    exact ⟨_, rfl, ite2 (fun z => by rw [hx] at z; exact absurd z (by decide)) fun _ => q _ _ s1 .non⟩
/-- the kinds by what they are -/
theorem kind_cases {x : PyData} (h : kindD x = true) : x = .str "any" ∨ x = .str "even" ∨ x = .str "first" ∨ x = .str "last" ∨ x = .str "sets" ∨ x = .str "ends" ∨ ∃ m : Nat, x = .int (m : Int) ∧ 2 ≤ m ∧ m ≤ 8 := by
  cases x with
  | int i =>
    have h : (decide (2 ≤ i) && decide (i ≤ 8)) = true := h
    rw [Bool.and_eq_true] at h
    have h1 := of_decide_eq_true h.1
    have h2 := of_decide_eq_true h.2
    exact Or.inr (Or.inr (Or.inr (Or.inr (Or.inr (Or.inr ⟨i.toNat, by rw [Int.toNat_of_nonneg (by omega)], by omega, by omega⟩)))))
  | str s =>
    have h : inV (.str s) [.str "any", .str "even", .str "first", .str "last", .str "sets", .str "ends"] = true := h
    unfold inV at h
    obtain ⟨y, hy, e⟩ := List.any_eq_true.mp h
    have ge : ∀ {z : Str}, y = .str z → s = z := fun {z} ez => by
      rw [ez] at e
      exact (beq_iff_eq.mp e).symm
    rcases List.mem_cons.mp hy with z | hy
    · exact Or.inl (by rw [ge z])
    rcases List.mem_cons.mp hy with z | hy
    · exact Or.inr (Or.inl (by rw [ge z]))
    rcases List.mem_cons.mp hy with z | hy
    · exact Or.inr (Or.inr (Or.inl (by rw [ge z])))
    rcases List.mem_cons.mp hy with z | hy
    · exact Or.inr (Or.inr (Or.inr (Or.inl (by rw [ge z]))))
    rcases List.mem_cons.mp hy with z | hy
    · exact Or.inr (Or.inr (Or.inr (Or.inr (Or.inl (by rw [ge z])))))
    rcases List.mem_cons.mp hy with z | hy
    · exact Or.inr (Or.inr (Or.inr (Or.inr (Or.inr (Or.inl (by rw [ge z]))))))
    · nomatch hy
  | _ => exact absurd h Bool.false_ne_true
theorem ok_check_short (T : Txt K mg A) : Df P w K mg base CX0 1 "check_short" A.a_check_short ["long", "kind"] (spD (ct A) fun ds d => ∃ l x, ds = [.int l, x] ∧ kindD x = true ∧ l ≤ 400 ∧ d = .none) := by
  obtain ⟨fd, F, b⟩ := T.f_check_short
  refine ⟨⟨fd, fnG_of F sc_check_short (spD_len fun ds d h => ?_) fun cdv A0 outer s H vs Q E hcd hr h => ?_, b, At.of F⟩, F.kp, T.g_check_short⟩
  · obtain ⟨l, x, rfl, _⟩ := h
    rfl
  · obtain ⟨M, ds, d, gd, hM, hq, ⟨l, x, rfl, hx, hl, rfl⟩, q⟩ := h
    obtain ⟨v0, v1, rfl, h0, h1⟩ := hq.inv2
    cases h0.int_inv
    refine ⟨_, PSs.nox (pss_one (ps_if (PW.pt (pw_and (pt_cmpR (op_eqK (K := K) hr) (pv 1) pe_str (nomark _)) (pw_and1 (pt_cmpR op_gt (pv 0) (pe_gcon T.c_LONGEST_WORD (by rfl)) (nomark _)))))
        (pss_one ps_never)
        pss_nil)), ?_⟩
    have nl : ¬ decide ((400 : Int) < l) = true := fun z => by
      have := of_decide_eq_true z
      omega
    have go : ∀ c : Bool, (if c = true then (tTest (tOp (rI0 fun i j => V.bl (decide (j < i))) (tVar 0) (tC (V.int 400)))) [some (.int l), some v1] H (fun b H' => if b = true then False else Q .non H') else Q .non H) := fun c => by
      cases c
      · rw [if_neg (by decide)]
        exact q _ _ Sm.refl .non
      · rw [if_pos rfl]
        exact ⟨_, rfl, _, _, rfl, rfl, _, rfl, by show (if decide ((400 : Int) < l) = true then False else Q .non H); rw [if_neg nl]; exact q _ _ Sm.refl .non⟩
    have hs : ∀ s : Str, v1 = .str s ∨ (∃ i, v1 = .int i) → scal v1 (.str "any") = true := fun s h => by
      rcases h with rfl | ⟨i, rfl⟩ <;> rfl
    have hv : scal v1 (.str "any") = true := by
      rcases kind_cases hx with rfl | rfl | rfl | rfl | rfl | rfl | ⟨m, rfl, _, _⟩ <;> cases h1 <;> rfl
    exact ⟨v1, rfl, Or.inl ⟨hv, _, rfl, go _⟩⟩
/-- what the form of a word is -/
def formD (n : Nat) (x : PyData) (w : List Nat) : PyData := match x with
  | .str s => if s = "any" then encW w else if s = "first" then encW (firstsOf w) else if s = "last" then encW (lastsOf w) else if s = "sets" then encW (setOf 12 w) else if s = "ends" then encW (endsOf w) else encW (countsOf n w)
  | .int m => encW ((countsOf n w).map fun c => c % m.toNat)
  | _ => .none
/-- [(place, ..) for place in range(net[0])] -/
theorem lc_alone {te : TE} {f : Nat → List Nat} {M : List Addr} {a : Addr} {n : Nat} {H : Hp} {s1 s2 s3 s4 s5 s6 : Option V} {u1 u2 : V} {Q : VK} (ha : H a = some (.tup [.int (n : Int), u1, u2])) (hn : n ≤ 1000) (hM : ∀ m ∈ M, H m ≠ none)
    (hte : ∀ (i : Nat) (j0 : Int) (H' : Hp) (Q' : VK), j0 = i → (∀ p, H' p = none → Q' (.ref p) (upd H' p (.tup ((f i).map fun x : Nat => V.int (x : Int))))) → te [some (.ref a), s1, s2, some (.int j0), s4, s5, s6] H' Q')
    (hQ : ∀ D H', Sm (ct A) [] H H' → Dq M H' (.ref D) (.list ((List.range n).map fun k => encW (f k))) → Q (.ref D) H') :
    tLc (iRng1 (tCons (tOp (rIx K) (tVar 0) (tC (V.int 0))) tNil)) (gName 3) tYes te [3] [some (.ref a), s1, s2, s3, s4, s5, s6] H Q := by
  refine ⟨.ref a, rfl, Or.inr (Or.inl ⟨a, _, 0, _, rfl, rfl, SqT.of ha, atI_of (j := 0) rfl, ?_⟩)⟩
  refine ⟨_, rfl, by omega, by omega, fun D hD => L2.lc_it (L2.walk_range (lo := 0) (n := ((n : Int)).toNat))
    (fun i H' => Sm (ct A) [D] (upd H D (.lst [])) H' ∧ ∃ xs, H' D = some (.lst xs) ∧ Dqs (D :: M) H' xs ((List.range i).map fun k => encW (f k))) ⟨Sm.refl, [], upd_same, .nil⟩ (fun _ _ _ _ => trivial) (fun i x H' H'' hi hW hY => ?_) (fun H3 hW => ?_)⟩
  · obtain ⟨sW, xs, eD, dW⟩ := hW
    obtain ⟨rfl, rfl⟩ := hY
    have lx : xs.length = i := dW.length.trans (by simp)
    have s0 : Sm (ct A) [] H H'' := ((Sm.new hD).trans sW).out hD
    refine ⟨rfl, ?_⟩
    dsimp only [tYes]
    rw [if_pos (rfl : true = true)]
    refine hte i _ H'' _ (by omega) fun p hp => ?_
    have nDp : D ≠ p := ne_of_none eD hp
    have hM4 : ∀ m ∈ D :: M, H'' m ≠ none := fun m hm => by
      rcases List.mem_cons.mp hm with z | z
      · rw [z, eD]
        nofun
      · exact s0.st m (hM m z)
    have sp : ∀ {N}, Sm (ct A) N H'' (upd H'' p (.tup ((f i).map fun x : Nat => V.int (x : Int)))) := Sm.new hp
    have eD5 : (upd H'' p (.tup ((f i).map fun x : Nat => V.int (x : Int)))) D = some (.lst xs) := by
      rw [upd_ne nDp]
      exact eD
    refine ⟨xs, eD5, sz_lt (by omega), (sW.trans sp).trans (Sm.put List.mem_cons_self eD5), _, upd_same, ?_⟩
    rw [List.range_succ, List.map_append]
    have sput : Sm (ct A) (D :: M) _ (upd (upd H'' p (.tup ((f i).map fun x : Nat => V.int (x : Int)))) D (.lst (xs ++ [.ref p]))) := Sm.put List.mem_cons_self eD5
    exact ((dW.sm sp).snoc (dq_new hM4 hp (Dqs.nats _))).sm sput
  · obtain ⟨sW, xs, eD, dW⟩ := hW
    rw [Int.toNat_natCast] at dW
    exact hQ D H3 (((Sm.new hD).trans sW).out hD) (.lst (fun z => hM D z hD) eD (dW.sub fun z hz => List.mem_cons_of_mem _ hz))
/-- [many % kind for many in row] -/
theorem lc_mod {b : Addr} {xs : List Nat} {m : Nat} {H : Hp} {s0 s2 s3 s4 s6 : Option V} {Q : VK} (hb : H b = some (.tup (xs.map fun x : Nat => V.int (x : Int)))) (hl : xs.length ≤ 1000) (hm : 0 < m)
    (hQ : ∀ D H', Sm (ct A) [] H H' → H' D = some (.lst ((xs.map fun c => c % m).map fun x : Nat => V.int (x : Int))) → Q (.ref D) H') :
    tLc (iSeq K (tVar 5)) (gName 6) tYes (tOp (rI (fun x j => 0 < j) fun i j => V.int (i % j)) (tVar 6) (tVar 1)) [6] [s0, some (.int (m : Int)), s2, s3, s4, some (.ref b), s6] H Q := by
  refine ⟨_, rfl, b, rfl, Or.inr ⟨⟨_, SqT.of hb⟩, fun D hD => L2.lc_it (L2.walk_tup (K := K) (a := b) (xs := xs.map fun x : Nat => V.int (x : Int)))
    (fun i H' => Sm (ct A) [D] (upd H D (.lst [])) H' ∧ H' D = some (.lst (((xs.take i).map fun c => c % m).map fun x : Nat => V.int (x : Int)))) ⟨Sm.refl, upd_same⟩ (fun i H' _ hW => ?_) (fun t x H' H'' ht hW hY => ?_) (fun H3 hW => ?_)⟩⟩
  · exact SqT.of ((((Sm.new hD).trans hW.1).out hD).ex (c := ct A) b _ (fun z => nomatch z) hb nofun)
  · obtain ⟨sW, eD⟩ := hW
    obtain ⟨rfl, hx⟩ := hY
    rw [List.getElem?_map] at hx
    obtain ⟨y, hy, ey⟩ := Option.map_eq_some_iff.mp hx
    subst ey
    rw [List.length_map] at ht
    have ef : ((xs.take (t + 1)).map fun c => c % m).map (fun x : Nat => V.int (x : Int)) = ((xs.take t).map fun c => c % m).map (fun x : Nat => V.int (x : Int)) ++ [.int ((y : Int) % (m : Int))] := by
      rw [List.take_add_one, hy, List.map_append, List.map_append]
      rfl
    refine ⟨rfl, _, rfl, _, rfl, _, _, rfl, rfl, by omega, _, eD, sz_lt (by rw [List.length_map, List.length_map]; have := List.length_take_le t xs; omega), sW.trans (Sm.put List.mem_cons_self eD), ?_⟩
    rw [upd_same, ef]
  · obtain ⟨sW, eD⟩ := hW
    rw [List.length_map, List.take_length] at eD
    exact hQ D H3 (((Sm.new hD).trans sW).out hD) eD
theorem iteN {c A B : Prop} [Decidable c] (h : ¬ c) (x : B) : if c then A else B := by
  rw [if_neg h]
  exact x
theorem str_ne {s t : Str} (h : s ≠ t) : ¬ (decide (V.str s = V.str t) = true) := fun z => h (V.str.inj (of_decide_eq_true z))
theorem int_ne {i : Int} {t : Str} : ¬ (decide (V.int i = V.str t) = true) := fun z => by cases of_decide_eq_true z
theorem ok_wire_forms (T : Txt K mg A) : Df P w K mg base CX0 5 "wire_forms" A.a_wire_forms ["net", "kind"] (spD (ct A) fun ds d => ∃ n bs es x, ds = [encNet n bs es, x] ∧ NetOk n bs es ∧ Lens 400 (wordsOf n bs) ∧ kindD x = true ∧ d = .list ((wordsOf n bs).map (formD n x))) := by
  obtain ⟨fd, F, b⟩ := T.f_wire_forms
  refine ⟨⟨fd, fnG_of F sc_wire_forms (spD_len fun ds d h => ?_) fun cdv A0 outer s H vs Q E hcd hr h => ?_, b, At.of F⟩, F.kp, T.g_wire_forms⟩
  · obtain ⟨n, bs, es, x, rfl, _⟩ := h
    rfl
  · obtain ⟨M, ds, d, gd, hM, hq, ⟨n, bs, es, x, rfl, hN, hL, hx, rfl⟩, q⟩ := h
    obtain ⟨v0, v1, rfl, h0, h1⟩ := hq.inv2
    have d_run_through := ok_run_through (P := P) (w := w) (base := base) T
    have d_short_words := ok_short_words (P := P) (w := w) (base := base) T
    have d_place_counts := ok_place_counts (P := P) (w := w) (base := base) T
    have n2 := hN.n2
    refine ⟨_, PSs.nox (pss_cons (ps_setLc (i := 2) (own := [("place", 3)]) (g := gName 3) (tt := tYes) rfl sc_wire_forms.nd rfl rfl (sw_true rfl rfl rfl (by decide +kernel)) (pi_range1 (by rfl) T.z_range (pa_cons (pe_ix (ix_K (K := K)) (pv 0) pe_int (fun _ _ => rfl)) pa_nil)) (blkOk_by (own := [("place", 3)]) (N := ["net", "kind", "alone", "place", "counts", "row", "many"]) (sc := defScope s_wire_forms) (by decide +kernel)) (fun _ _ _ _ _ => pg_name (i := 3) sc_wire_forms.nd rfl (Or.inl rfl)) (fun _ _ _ _ _ => pts_nil) (fun _ _ _ _ _ => (pe_tup (pa_cons (pv 3) pa_nil))))
        (pss_cons (ps_if (pt_cmpR (op_eqK (K := K) hr) (pv 1) pe_str (nomark _))
        (pss_one (ps_ret (pe_df d_short_words hr (by decide) rfl pass0 (pa_cons (pv 0) pa_nil))))
        pss_nil)
        (pss_cons (ps_if (pt_cmpR (op_eqK (K := K) hr) (pv 1) pe_str (nomark _))
        (pss_one (ps_ret (pe_df d_run_through hr (by decide) rfl pass0 (pa_cons (pv 0) (pa_cons (pv 2) (pa_cons (pe_glob (v := .ref A.a_join_firsts) rfl T.g_join_firsts rfl) pa_nil))))))
        pss_nil)
        (pss_cons (ps_if (pt_cmpR (op_eqK (K := K) hr) (pv 1) pe_str (nomark _))
        (pss_one (ps_ret (pe_df d_run_through hr (by decide) rfl pass0 (pa_cons (pv 0) (pa_cons (pv 2) (pa_cons (pe_glob (v := .ref A.a_join_lasts) rfl T.g_join_lasts rfl) pa_nil))))))
        pss_nil)
        (pss_cons (ps_if (pt_cmpR (op_eqK (K := K) hr) (pv 1) pe_str (nomark _))
        (pss_one (ps_ret (pe_df d_run_through hr (by decide) rfl pass0 (pa_cons (pv 0) (pa_cons (pv 2) (pa_cons (pe_glob (v := .ref A.a_join_sets) rfl T.g_join_sets rfl) pa_nil))))))
        pss_nil)
        (pss_cons (ps_if (pt_cmpR (op_eqK (K := K) hr) (pv 1) pe_str (nomark _))
        (pss_one (ps_ret (pe_df d_run_through hr (by decide) rfl pass0 (pa_cons (pv 0) (pa_cons (pe_lc (own := [("place", 3)]) (g := gName 3) (tt := tYes) rfl sc_wire_forms.nd (pi_range1 (by rfl) T.z_range (pa_cons (pe_ix (ix_K (K := K)) (pv 0) pe_int (fun _ _ => rfl)) pa_nil)) (blkOk_by (own := [("place", 3)]) (N := ["net", "kind", "alone", "place", "counts", "row", "many"]) (sc := defScope s_wire_forms) (by decide +kernel)) (fun _ _ _ _ _ => pg_name (i := 3) sc_wire_forms.nd rfl (Or.inl rfl)) (fun _ _ _ _ _ => pts_nil) (fun _ _ _ _ _ => (pe_tup (pa_cons (pv 3) (pa_cons (pv 3) pa_nil))))) (pa_cons (pe_glob (v := .ref A.a_join_ends) rfl T.g_join_ends rfl) pa_nil))))))
        pss_nil)
        (pss_cons (ps_set (i := 4) sc_wire_forms.nd rfl (Or.inl rfl) (pe_df d_place_counts hr (by decide) rfl pass0 (pa_cons (pv 0) pa_nil)))
        (pss_cons (ps_if (pt_cmpR (op_eqK (K := K) hr) (pv 1) pe_str (nomark _))
        (pss_one (ps_ret (pv 4)))
        pss_nil)
        (pss_one (ps_ret (pe_lc (own := [("row", 5)]) (g := gName 5) (tt := tYes) rfl sc_wire_forms.nd (pi_K (K := K) (pv 4)) (blkOk_by (own := [("row", 5)]) (N := ["net", "kind", "alone", "place", "counts", "row", "many"]) (sc := defScope s_wire_forms) (by decide +kernel)) (fun _ _ _ _ _ => pg_name (i := 5) sc_wire_forms.nd rfl (Or.inl rfl)) (fun _ _ _ _ _ => pts_nil) (fun _ _ _ _ _ => (pe_callTy (call_tupleK (K := K)) (by rfl) T.z_tuple (by decide +kernel) (pa_cons (pe_lc (own := [("many", 6)]) (g := gName 6) (tt := tYes) rfl sc_wire_forms.nd (pi_K (K := K) (pv 5)) (blkOk_by (own := [("many", 6)]) (N := ["net", "kind", "alone", "place", "counts", "row", "many"]) (sc := ({ kind := .function, names := [(".0", .local), ("row", .local), ("tuple", .globalImplicit), ("kind", .cell)], isGenerator := false, isCoroutine := false } : Scope)) (by decide +kernel)) (fun _ _ _ _ _ => pg_name (i := 6) sc_wire_forms.nd rfl (Or.inl rfl)) (fun _ _ _ _ _ => pts_nil) (fun _ _ _ _ _ => (pe_op op_mod (pv 6) (pv 1)))) pa_nil)))))))))))))), ?_⟩
    obtain ⟨a, us, rfl, na, ha, hus⟩ := h0.tup_inv
    obtain ⟨u0, u1, u2, rfl, hu0, hu1, hu2⟩ := hus.inv3
    cases hu0.int_inv
    dsimp only [tSeq, tAsg]
    refine lc_alone (A := A) (f := fun k => [k]) (M := M) ha (by omega) hM (fun i j0 H' Q' ej hq => ?_) fun D H1 s1 hD => ?_
    · subst ej
      exact ⟨_, rfl, sz_of (by show 1 ≤ 100000; decide), hq⟩
    have rt : ∀ (f : Addr) (J : List Nat → List Nat → List Nat) (g : List Nat → List Nat) (Pr : PyData → Prop) (H' : Hp) (D : Addr) (E : XK), Sm (ct A) [] H H' → Dq M H' (.ref D) (.list ((List.range n).map fun k => encW (g [k]))) → (∀ k, k < n → Pr (encW (g [k]))) → (∀ x y, Pr x → Pr y → Pr (jOf J x y)) →
        (∀ a b : List Nat, 1 ≤ a.length → 1 ≤ b.length → J (g a) (g b) = g (a ++ b)) → Cal P w K mg base 2 f H' 2 (spJ (ct A) Pr (jOf J)) → (∀ w, formD n x w = encW (g w)) → sp_run_through P w K mg base A [.ref a, .ref D, .ref f] H' Q E := fun f J g Pr H' D E s' hd hP hc hJ cal hf => by
      refine ⟨M, n, bs, es, _, jOf J, Pr, .ref a, .ref D, f, rfl, s'.gd gd, fun m hm => s'.st m (hM m hm), h0.sm s'.any, hd, by simp, n2, hN.b, hN.bx, ?_, hc, cal, fun v H4 s4 hv => q _ _ (s'.trans s4) ?_⟩
      · intro y hy
        obtain ⟨k, hk, rfl⟩ := List.mem_map.mp hy
        exact hP k (List.mem_range.mp hk)
      · rw [forms_run (f := fun w => encW (g w)) (L := 400) (fun a b h1 h2 _ => by rw [jOf_enc, hJ a b h1 h2]) hN.bx hL] at hv
        rw [show formD n x = fun w => encW (g w) from funext hf]
        exact hv
    have one : ∀ k, k < n → PrN (encW [k]) := fun k hk => ⟨_, rfl, by simp, by simp; omega⟩
    rcases kind_cases hx with rfl | rfl | rfl | rfl | rfl | rfl | ⟨m, rfl, m1, m2⟩
    · cases h1
      refine ⟨_, rfl, Or.inl ⟨rfl, _, rfl, iteT ?_⟩⟩
      exact ⟨.ref a, rfl, M, _, _, s1.gd gd, fun m hm => s1.st m (hM m hm), .one (h0.sm s1.any), ⟨n, bs, es, rfl, hN, rfl⟩, fun v H4 s4 hv => q _ _ (s1.trans s4) (by rw [wordsD_words hN.bx hL (Nat.le_refl _)] at hv; exact hv)⟩
    · cases h1
      refine ⟨_, rfl, Or.inl ⟨rfl, _, rfl, iteF ?_⟩⟩
      refine ⟨_, rfl, Or.inl ⟨rfl, _, rfl, iteF ?_⟩⟩
      refine ⟨_, rfl, Or.inl ⟨rfl, _, rfl, iteF ?_⟩⟩
      refine ⟨_, rfl, Or.inl ⟨rfl, _, rfl, iteF ?_⟩⟩
      refine ⟨_, rfl, Or.inl ⟨rfl, _, rfl, iteF ?_⟩⟩
      refine ⟨.ref a, rfl, M, _, _, s1.gd gd, fun m hm => s1.st m (hM m hm), .one (h0.sm s1.any), ⟨n, bs, es, 400, rfl, hN, hL, rfl⟩, fun v H2 s2 hv => ?_⟩
      refine ⟨_, rfl, Or.inl ⟨rfl, _, rfl, iteT ?_⟩⟩
      exact ⟨_, rfl, q _ _ (s1.trans s2) hv⟩
    · cases h1
      refine ⟨_, rfl, Or.inl ⟨rfl, _, rfl, iteF ?_⟩⟩
      refine ⟨_, rfl, Or.inl ⟨rfl, _, rfl, iteT ?_⟩⟩
      exact ⟨.ref a, rfl, .ref D, rfl, rt A.a_join_firsts addF firstsOf PrN H1 D E0 s1 hD one (fun x y => prN_F) (fun a b _ _ => (firsts_app a b).symm) ((Cal.of (ok_join_firsts (P := P) (w := w) (base := base) T) rfl).mono (by decide)) fun w => rfl⟩
    · cases h1
      refine ⟨_, rfl, Or.inl ⟨rfl, _, rfl, iteF ?_⟩⟩
      refine ⟨_, rfl, Or.inl ⟨rfl, _, rfl, iteF ?_⟩⟩
      refine ⟨_, rfl, Or.inl ⟨rfl, _, rfl, iteT ?_⟩⟩
      exact ⟨.ref a, rfl, .ref D, rfl, rt A.a_join_lasts addL lastsOf PrN H1 D E0 s1 hD one (fun x y => prN_L) (fun a b _ _ => (lasts_app a b).symm) ((Cal.of (ok_join_lasts (P := P) (w := w) (base := base) T) rfl).mono (by decide)) fun w => rfl⟩
    · cases h1
      refine ⟨_, rfl, Or.inl ⟨rfl, _, rfl, iteF ?_⟩⟩
      refine ⟨_, rfl, Or.inl ⟨rfl, _, rfl, iteF ?_⟩⟩
      refine ⟨_, rfl, Or.inl ⟨rfl, _, rfl, iteF ?_⟩⟩
      refine ⟨_, rfl, Or.inl ⟨rfl, _, rfl, iteT ?_⟩⟩
      have eS : ((List.range n).map fun k => encW (setOf 12 [k])) = (List.range n).map fun k => encW [k] := List.map_congr_left fun k hk => by rw [setOf_one (by have := List.mem_range.mp hk; omega)]
      exact ⟨.ref a, rfl, .ref D, rfl, rt A.a_join_sets addS (setOf 12) PrN H1 D E0 s1 (by rw [eS]; exact hD) (fun k hk => by rw [setOf_one (by omega)]; exact one k hk) (fun x y => prN_S) (fun a b _ _ => setOf_app a b) ((Cal.of (ok_join_sets (P := P) (w := w) (base := base) T) rfl).mono (by decide)) fun w => rfl⟩
    · cases h1
      refine ⟨_, rfl, Or.inl ⟨rfl, _, rfl, iteF ?_⟩⟩
      refine ⟨_, rfl, Or.inl ⟨rfl, _, rfl, iteF ?_⟩⟩
      refine ⟨_, rfl, Or.inl ⟨rfl, _, rfl, iteF ?_⟩⟩
      refine ⟨_, rfl, Or.inl ⟨rfl, _, rfl, iteF ?_⟩⟩
      refine ⟨_, rfl, Or.inl ⟨rfl, _, rfl, iteT ?_⟩⟩
      have hM1 : ∀ m ∈ M, H1 m ≠ none := fun m hm => s1.st m (hM m hm)
      refine ⟨.ref a, rfl, ?_⟩
      dsimp only [tCons]
      refine lc_alone (A := A) (f := fun k => [k, k]) (M := M) (s1.ex a _ (fun z => nomatch z) ha nofun) (by omega) hM1 (fun i j0 H' Q' ej hq => ?_) fun D2 H2 s2 hD2 => ?_
      · subst ej
        exact ⟨_, rfl, _, rfl, sz_of (by show 2 ≤ 100000; decide), hq⟩
      exact rt A.a_join_ends addE endsOf PrE H2 D2 E0 (s1.trans s2) hD2 (fun k hk => ⟨k, k, rfl⟩) (fun x y => prE_E) (fun a b h1 h2 => ends_app h1 h2) ((Cal.of (ok_join_ends (P := P) (w := w) (base := base) T) rfl).mono (by decide)) fun w => rfl
    · cases h1.int_inv
      refine ⟨_, rfl, Or.inl ⟨rfl, _, rfl, iteN int_ne ?_⟩⟩
      refine ⟨_, rfl, Or.inl ⟨rfl, _, rfl, iteN int_ne ?_⟩⟩
      refine ⟨_, rfl, Or.inl ⟨rfl, _, rfl, iteN int_ne ?_⟩⟩
      refine ⟨_, rfl, Or.inl ⟨rfl, _, rfl, iteN int_ne ?_⟩⟩
      refine ⟨_, rfl, Or.inl ⟨rfl, _, rfl, iteN int_ne ?_⟩⟩
      refine ⟨.ref a, rfl, M, _, _, s1.gd gd, fun m hm => s1.st m (hM m hm), .one (h0.sm s1.any), ⟨n, bs, es, 400, rfl, hN, hL, rfl⟩, fun v H2 s2 hv => ?_⟩
      refine ⟨_, rfl, Or.inl ⟨rfl, _, rfl, iteN int_ne ?_⟩⟩
      obtain ⟨al, ul, rfl, nal, hal, hul⟩ := hv.lst_inv
      have s12 := s1.trans s2
      have hM2 : ∀ m ∈ M, H2 m ≠ none := fun m hm => s12.st m (hM m hm)
      have lul : ul.length = (wordsOf n bs).length := by
        have := hul.length
        rw [List.length_map] at this
        exact this
      have lw : (wordsOf n bs).length = n + bs.length := wordsOf_len n bs
      have hb := hN.b
      refine ⟨_, rfl, al, rfl, Or.inl ⟨⟨_, SqL.of hal⟩, fun D3 hD3 => L2.lc_it (L2.walk_list (K := K) (a := al) (xs := ul))
        (fun i H' => Sm (ct A) [D3] (upd H2 D3 (.lst [])) H' ∧ ∃ xs, H' D3 = some (.lst xs) ∧ Dqs (D3 :: M) H' xs (((wordsOf n bs).take i).map (formD n (.int (m : Int))))) ⟨Sm.refl, [], upd_same, .nil⟩ (fun i H' _ hW => ?_) (fun i x H' H'' hi hW hY => ?_) (fun H3 hW => ?_)⟩⟩
      · exact SqL.of ((((Sm.new hD3).trans hW.1).out hD3).ex (c := ct A) al _ (fun z => nomatch z) hal nofun)
      · obtain ⟨sW, xs, eD, dW⟩ := hW
        obtain ⟨rfl, hx⟩ := hY
        have s0 : Sm (ct A) [] H2 H'' := ((Sm.new hD3).trans sW).out hD3
        obtain ⟨y, hy, dy⟩ := hul.getV hx
        rw [List.getElem?_map] at hy
        obtain ⟨wd, hwd, ey⟩ := Option.map_eq_some_iff.mp hy
        subst ey
        obtain ⟨b2, u2', rfl, nb2, hb2, hu2'⟩ := dy.tup_inv
        rw [nats_inv hu2'] at hb2
        have lx : xs.length = i := dW.length.trans (by rw [List.length_map, List.length_take]; omega)
        refine ⟨rfl, ?_⟩
        dsimp only [tYes]
        rw [if_pos (rfl : true = true)]
        dsimp only [tCB, tCons]
        refine lc_mod (A := A) (s0.ex b2 _ (fun z => nomatch z) hb2 nofun) (by unfold countsOf; rw [List.length_map, List.length_range]; omega) (by omega) fun D4 H4 s4 eD4 => ⟨D4, _, rfl, Or.inl ⟨SqL.of eD4, fun p hp => ?_⟩⟩
        have eD5 : H4 D3 = some (.lst xs) := s4.ex D3 _ (fun z => nomatch z) eD nofun
        have nDp : D3 ≠ p := ne_of_none eD5 hp
        have hM4 : ∀ m ∈ D3 :: M, H4 m ≠ none := fun m hm => by
          rcases List.mem_cons.mp hm with z | z
          · rw [z, eD5]
            nofun
          · exact (s0.trans s4).st m (hM2 m z)
        have sp : ∀ {N}, Sm (ct A) N H4 (upd H4 p (.tup (((countsOf n wd).map fun c => c % m).map fun x : Nat => V.int (x : Int)))) := Sm.new hp
        have eD6 : (upd H4 p (.tup (((countsOf n wd).map fun c => c % m).map fun x : Nat => V.int (x : Int)))) D3 = some (.lst xs) := by
          rw [upd_ne nDp]
          exact eD5
        refine ⟨xs, eD6, sz_lt (by omega), ((sW.trans s4.any).trans sp).trans (Sm.put List.mem_cons_self eD6), _, upd_same, ?_⟩
        rw [List.take_add_one, hwd, List.map_append]
        have sput : Sm (ct A) (D3 :: M) _ (upd (upd H4 p (.tup (((countsOf n wd).map fun c => c % m).map fun x : Nat => V.int (x : Int)))) D3 (.lst (xs ++ [.ref p]))) := Sm.put List.mem_cons_self eD6
        exact (((dW.sm s4.any).sm sp).snoc (dq_new hM4 hp (Dqs.nats _))).sm sput
      · obtain ⟨sW, xs, eD, dW⟩ := hW
        rw [List.take_of_length_le (by omega)] at dW
        exact q _ _ (s12.trans (((Sm.new hD3).trans sW).out hD3)) (.lst (fun z => hM2 D3 z hD3) eD (dW.sub fun z hz => List.mem_cons_of_mem _ hz))
def sp_form_of (A : Ads) : Sp := spD (ct A) fun ds d => ∃ n bs es k x wd, ds = [encNet n bs es, nI k, x] ∧ NetOk n bs es ∧ Lens 400 (wordsOf n bs) ∧ kindD x = true ∧ (wordsOf n bs)[k]? = some wd ∧ d = formD n x wd
theorem ok_form_of (T : Txt K mg A) (B : TabsB base mg A) : Df P w K mg base CX0 6 "form_of" A.a_form_of ["net", "wire", "kind"] (sp_form_of A) := by
  obtain ⟨fd, F, b⟩ := T.f_form_of
  refine ⟨⟨fd, fnG_of F sc_form_of (spD_len fun ds d h => ?_) fun cdv A0 outer s H vs Q E hcd hr h => ?_, b, At.of F⟩, F.kp, T.g_form_of⟩
  · obtain ⟨n, bs, es, k, x, wd, rfl, _⟩ := h
    rfl
  · obtain ⟨M, ds, d, gd, hM, hq, ⟨n, bs, es, k, x, wd, rfl, hN, hL, hx, hw, rfl⟩, q⟩ := h
    obtain ⟨v0, v1, v2, rfl, h0, h1, h2⟩ := hq.inv3
    cases h1.int_inv
    have hk : k < n + bs.length := by
      have := (List.getElem?_eq_some_iff.mp hw).1
      rw [wordsOf_len] at this
      exact this
    have d_check_net := ok_check_net (P := P) (w := w) (base := base) T B
    have d_check_wire := ok_check_wire (P := P) (w := w) (base := base) T B
    have d_check_kind := ok_check_kind (P := P) (w := w) (base := base) T
    have d_check_short := ok_check_short (P := P) (w := w) (base := base) T
    have d_wire_lengths := ok_wire_lengths (P := P) (w := w) (base := base) T B
    have d_wire_forms := ok_wire_forms (P := P) (w := w) (base := base) T
    refine ⟨_, PSs.nox (pss_cons (ps_expr (pe_df d_check_net hr (by decide) rfl pass0 (pa_cons (pv 0) pa_nil)))
        (pss_cons (ps_expr (pe_df d_check_wire hr (by decide) rfl pass0 (pa_cons (pv 0) (pa_cons (pv 1) pa_nil))))
        (pss_cons (ps_expr (pe_df d_check_kind hr (by decide) rfl pass0 (pa_cons (pv 2) pa_nil)))
        (pss_cons (ps_expr (pe_df d_check_short hr (by decide) rfl pass0 (pa_cons (pe_ix (ix_K (K := K)) (pe_df d_wire_lengths hr (by decide) rfl pass0 (pa_cons (pv 0) pa_nil)) (pv 1) (fun _ _ => rfl)) (pa_cons (pv 2) pa_nil))))
        (pss_one (ps_ret (pe_ix (ix_K (K := K)) (pe_df d_wire_forms hr (by decide) rfl pass0 (pa_cons (pv 0) (pa_cons (pv 2) pa_nil))) (pv 1) (fun _ _ => rfl)))))))), ?_⟩
    refine ⟨v0, rfl, M, _, _, gd, hM, .one h0, ⟨_, rfl, isNetD_of hN, rfl⟩, fun v H1 s1 hv => ?_⟩
    refine ⟨v0, rfl, _, rfl, M, _, _, s1.gd gd, fun m hm => s1.st m (hM m hm), .two (h0.sm s1.any) (.int _), ⟨n, bs, es, k, rfl, hk, rfl⟩, fun v H2 s2 hv => ?_⟩
    have s12 := s1.trans s2
    refine ⟨v2, rfl, M, _, _, s12.gd gd, fun m hm => s12.st m (hM m hm), .one (h2.sm s12.any), ⟨x, rfl, hx, rfl⟩, fun v H3 s3 hv => ?_⟩
    have s13 := s12.trans s3
    refine ⟨v0, rfl, M, _, _, s13.gd gd, fun m hm => s13.st m (hM m hm), .one (h0.sm s13.any), ⟨n, bs, es, rfl, hN, rfl⟩, fun v H4 s4 hv => ?_⟩
    have s14 := s13.trans s4
    obtain ⟨al, ul, rfl, nal, hal, hul⟩ := hv.lst_inv
    have hg : (lensD n bs)[k]? = some (nI wd.length) := by
      rw [lensD_words hN.bx hL, List.getElem?_map, hw]
      rfl
    obtain ⟨y, hy, hyL⟩ := hul.get hg
    cases hyL.int_inv
    have l4 := (hL wd (List.mem_of_getElem? hw)).2
    refine ⟨_, rfl, Or.inl ⟨al, ul, _, _, rfl, rfl, SqL.of hal, atI_of hy, ?_⟩⟩
    refine ⟨v2, rfl, M, _, _, s14.gd gd, fun m hm => s14.st m (hM m hm), .two (.int _) (h2.sm s14.any), ⟨_, x, rfl, hx, by omega, rfl⟩, fun v H5 s5 hv => ?_⟩
    have s15 := s14.trans s5
    refine ⟨v0, rfl, v2, rfl, M, _, _, s15.gd gd, fun m hm => s15.st m (hM m hm), .two (h0.sm s15.any) (h2.sm s15.any), ⟨n, bs, es, x, rfl, hN, hL, hx, rfl⟩, fun v H6 s6 hv => ?_⟩
    obtain ⟨aw, uw, rfl, naw, haw, huw⟩ := hv.lst_inv
    have hf : ((wordsOf n bs).map (formD n x))[k]? = some (formD n x wd) := by
      rw [List.getElem?_map, hw]
      rfl
    obtain ⟨z, hz, hzd⟩ := huw.get hf
    exact ⟨_, rfl, Or.inl ⟨aw, uw, _, _, rfl, rfl, SqL.of haw, atI_of hz, q _ _ (s15.trans s6) hzd⟩⟩

def sp_spring (K : PySem.W.Frag) (A : Ads) : Sp := fun vs H Q _ => ∃ (a : Addr) (ns : List Int) (t : Nat), vs = [.ref a, .int (t : Int)] ∧ Gd (ct A) H ∧ SqL K H a (ns.map V.int) ∧ t ≤ 100 ∧
  ∀ p H', Sm (ct A) [] H H' → H p = none → Spr H' p → Q (.ref p) H'
theorem ok_spring (T : Txt K mg A) : Df P w K mg base CX0 1 "_law_spring" A.a_spring ["script", "turn"] (sp_spring K A) := by
  obtain ⟨fd, F, b⟩ := T.f_spring
  refine ⟨⟨fd, fnG_of F sc_spring (fun vs H Q E h => ?_) fun cdv A0 outer s H vs Q E hcd hr h => ?_, b, At.of F⟩, F.kp, T.g_spring⟩
  · obtain ⟨_, _, _, rfl, _⟩ := h
    rfl
  · obtain ⟨a, ns, t, rfl, gd, hS, ht, q⟩ := h
    refine ⟨_, PSs.nox (pss_cons (ps_set (i := 2) sc_spring.nd rfl (Or.inl rfl) (pe_ifExp (pt_cmpR op_lt (pv 1) (pe_callB (call_lenK (K := K)) (by rfl) T.z_len PySem.boot_len (pa_cons (pv 0) pa_nil)) (nomark _)) (pe_callTy call_int1 (by rfl) T.z_int (by decide +kernel) (pa_cons (pe_ix (ix_K (K := K)) (pv 0) (pv 1) (fun _ _ => rfl)) pa_nil)) pe_int))
        (pss_cons (ps_set (i := 3) sc_spring.nd rfl (Or.inl rfl) (pe_op (op_addK (K := K)) pe_int (pe_op (op_mulK (K := K)) pe_int (pv 1))))
        (pss_cons (ps_for PassesOwn.never rfl (pi_K (K := K) (pe_slice (sl_K (K := K)) (pv 0) po_none (po_some pe_int))) (pg_name (i := 4) sc_spring.nd rfl (Or.inl rfl))
        (pss_one (ps_set (i := 3) sc_spring.nd rfl (Or.inl rfl) (pe_op op_mod (pe_callTy call_int1 (by rfl) T.z_int (by decide +kernel) (pa_cons (pe_op (op_addK (K := K)) (pe_op (op_addK (K := K)) (pe_op (op_mulK (K := K)) (pv 3) pe_int) (pe_op op_mod (pe_callTy call_int1 (by rfl) T.z_int (by decide +kernel) (pa_cons (pv 4) pa_nil)) pe_int)) pe_int) pa_nil)) pe_int))))
        (pss_cons (ps_set (i := 3) sc_spring.nd rfl (Or.inl rfl) (pe_op op_mod (pe_callTy call_int1 (by rfl) T.z_int (by decide +kernel) (pa_cons (pe_op (op_addK (K := K)) (pe_op (op_addK (K := K)) (pe_op (op_mulK (K := K)) (pv 3) pe_int) (pe_op (op_mulK (K := K)) (pe_op op_mod (pe_callTy call_int1 (by rfl) T.z_int (by decide +kernel) (pa_cons (pv 2) pa_nil)) pe_int) pe_int)) pe_int) pa_nil)) pe_int))
        (pss_one (ps_ret (pe_lst (pa_cons (pe_ifExp (pt_cmpR op_ge (pe_callB call_abs (by rfl) T.z_abs (by decide +kernel) (pa_cons (pv 2) pa_nil)) (pe_op op_pow pe_int pe_int) (nomark _)) (pe_callB call_abs (by rfl) T.z_abs (by decide +kernel) (pa_cons (pv 2) pa_nil)) pe_int) (pa_cons (pv 3) (pa_cons pe_int pa_nil)))))))))), ?_⟩
    refine ⟨.int t, rfl, .ref a, rfl, a, _, rfl, Or.inl hS, _, _, rfl, rfl, _, rfl, ite2 (fun e => ?_) fun e => ?_⟩
    · have e' := of_decide_eq_true e
      have ht' : t < ns.length := by
        rw [List.length_map] at e'
        omega
      refine ⟨.ref a, rfl, .int t, rfl, Or.inl ⟨a, _, _, .int ns[t], rfl, rfl, hS, atI_of (by rw [List.getElem?_map, List.getElem?_eq_getElem ht']; rfl), Or.inl ⟨_, rfl, ?_⟩⟩⟩
      generalize ns[t] = cell
      revert cell
      refine fun cell => ?_
      -- mixed
      refine ⟨_, rfl, Or.inl ⟨_, _, rfl, rfl, Or.inl (by decide), Or.inl ⟨_, _, rfl, rfl, ?_⟩⟩⟩
      refine ⟨.ref a, rfl, _, rfl, Or.inl ⟨a, _, rfl, hS, fun p hp => ?_⟩⟩
      have s1 : Sm (ct A) [] H (upd H p (.lst (cutV (ns.map V.int) none (some 10)))) := Sm.new hp
      refine ⟨p, rfl, Or.inl ⟨⟨_, SqL.of upd_same⟩, L2.for_it (L2.walk_list (K := K) (a := p) (xs := cutV (ns.map V.int) none (some 10)))
        (fun i σ' H' => H' = upd H p (.lst (cutV (ns.map V.int) none (some 10))) ∧ ∃ m z, σ' = [some (.ref a), some (.int (t : Int)), some (.int cell), some (.int m), z])
        ⟨rfl, _, _, rfl⟩ (fun i σ' H' _ hW => by rw [hW.1]; exact SqL.of upd_same) (fun i it σ' H' H'' hi hW hY => ?_) (fun σ' H' hW => ?_)⟩⟩
      · obtain ⟨rfl, m, z, rfl⟩ := hW
        obtain ⟨rfl, hx⟩ := hY
        obtain ⟨j, _, rfl⟩ := List.mem_map.mp (cut_mem (List.mem_of_getElem? hx))
        refine ⟨_, rfl, Or.inl ⟨_, _, rfl, rfl, Or.inr (by decide), _, rfl, Or.inl ⟨_, rfl, _, _, rfl, rfl, (by show (0 : Int) < _; decide), Or.inl ⟨_, _, rfl, rfl, Or.inl ⟨_, _, rfl, rfl, Or.inl ⟨_, rfl, _, _, rfl, rfl, (by show (0 : Int) < _; decide), ?_⟩⟩⟩⟩⟩⟩
        exact ⟨rfl, _, _, rfl⟩
      · obtain ⟨rfl, m, z, rfl⟩ := hW
        refine ⟨_, rfl, Or.inl ⟨_, _, rfl, rfl, Or.inr (by decide), _, rfl, Or.inl ⟨_, rfl, _, _, rfl, rfl, (by show (0 : Int) < _; decide), Or.inl ⟨_, _, rfl, rfl, Or.inr (by decide), Or.inl ⟨_, _, rfl, rfl, Or.inl ⟨_, _, rfl, rfl, Or.inl ⟨_, rfl, _, _, rfl, rfl, (by show (0 : Int) < _; decide), ?_⟩⟩⟩⟩⟩⟩⟩
        refine ⟨_, rfl, _, rfl, _, _, rfl, rfl, ⟨by decide, by decide, by decide⟩, _, _, rfl, rfl, _, rfl, ite2 (fun _ => ?_) fun _ => ?_⟩
        · refine ⟨_, rfl, _, rfl, _, rfl, sz_of (by show 3 ≤ 100000; decide), fun l hl => ?_⟩
          exact q l _ (s1.trans (Sm.new hl)) (s1.fresh hl) ⟨_, _, _, upd_same, Int.emod_nonneg _ (by decide), Int.emod_lt_of_pos _ (by decide)⟩
        · refine ⟨_, rfl, sz_of (by show 3 ≤ 100000; decide), fun l hl => ?_⟩
          exact q l _ (s1.trans (Sm.new hl)) (s1.fresh hl) ⟨_, _, _, upd_same, Int.emod_nonneg _ (by decide), Int.emod_lt_of_pos _ (by decide)⟩
    · -- mixed
      refine ⟨_, rfl, Or.inl ⟨_, _, rfl, rfl, Or.inl (by decide), Or.inl ⟨_, _, rfl, rfl, ?_⟩⟩⟩
      refine ⟨.ref a, rfl, _, rfl, Or.inl ⟨a, _, rfl, hS, fun p hp => ?_⟩⟩
      have s1 : Sm (ct A) [] H (upd H p (.lst (cutV (ns.map V.int) none (some 10)))) := Sm.new hp
      refine ⟨p, rfl, Or.inl ⟨⟨_, SqL.of upd_same⟩, L2.for_it (L2.walk_list (K := K) (a := p) (xs := cutV (ns.map V.int) none (some 10)))
        (fun i σ' H' => H' = upd H p (.lst (cutV (ns.map V.int) none (some 10))) ∧ ∃ m z, σ' = [some (.ref a), some (.int (t : Int)), some (.int 0), some (.int m), z])
        ⟨rfl, _, _, rfl⟩ (fun i σ' H' _ hW => by rw [hW.1]; exact SqL.of upd_same) (fun i it σ' H' H'' hi hW hY => ?_) (fun σ' H' hW => ?_)⟩⟩
      · obtain ⟨rfl, m, z, rfl⟩ := hW
        obtain ⟨rfl, hx⟩ := hY
        obtain ⟨j, _, rfl⟩ := List.mem_map.mp (cut_mem (List.mem_of_getElem? hx))
        refine ⟨_, rfl, Or.inl ⟨_, _, rfl, rfl, Or.inr (by decide), _, rfl, Or.inl ⟨_, rfl, _, _, rfl, rfl, (by show (0 : Int) < _; decide), Or.inl ⟨_, _, rfl, rfl, Or.inl ⟨_, _, rfl, rfl, Or.inl ⟨_, rfl, _, _, rfl, rfl, (by show (0 : Int) < _; decide), ?_⟩⟩⟩⟩⟩⟩
        exact ⟨rfl, _, _, rfl⟩
      · obtain ⟨rfl, m, z, rfl⟩ := hW
        refine ⟨_, rfl, Or.inl ⟨_, _, rfl, rfl, Or.inr (by decide), _, rfl, Or.inl ⟨_, rfl, _, _, rfl, rfl, (by show (0 : Int) < _; decide), Or.inl ⟨_, _, rfl, rfl, Or.inr (by decide), Or.inl ⟨_, _, rfl, rfl, Or.inl ⟨_, _, rfl, rfl, Or.inl ⟨_, rfl, _, _, rfl, rfl, (by show (0 : Int) < _; decide), ?_⟩⟩⟩⟩⟩⟩⟩
        refine ⟨_, rfl, _, rfl, _, _, rfl, rfl, ⟨by decide, by decide, by decide⟩, _, _, rfl, rfl, _, rfl, ite2 (fun _ => ?_) fun _ => ?_⟩
        · refine ⟨_, rfl, _, rfl, _, rfl, sz_of (by show 3 ≤ 100000; decide), fun l hl => ?_⟩
          exact q l _ (s1.trans (Sm.new hl)) (s1.fresh hl) ⟨_, _, _, upd_same, Int.emod_nonneg _ (by decide), Int.emod_lt_of_pos _ (by decide)⟩
        · refine ⟨_, rfl, sz_of (by show 3 ≤ 100000; decide), fun l hl => ?_⟩
          exact q l _ (s1.trans (Sm.new hl)) (s1.fresh hl) ⟨_, _, _, upd_same, Int.emod_nonneg _ (by decide), Int.emod_lt_of_pos _ (by decide)⟩

def sp_draw (A : Ads) : Sp := fun vs H Q _ => ∃ (sp : Addr) (n : Int), vs = [.ref sp, .int n] ∧ Gd (ct A) H ∧ Spr H sp ∧ 0 < n ∧ n ≤ 1000000 ∧
  ∀ d H', Sm (ct A) [sp] H H' → Spr H' sp → 0 ≤ d → d < n → Q (.int d) H'
theorem ok_draw (T : Txt K mg A) : Df P w K mg base CX0 1 "_law_draw" A.a_draw ["spring", "size"] (sp_draw A) := by
  obtain ⟨fd, F, b⟩ := T.f_draw
  refine ⟨⟨fd, fnG_of F sc_draw (fun vs H Q E h => ?_) fun cdv A0 outer s H vs Q E hcd hr h => ?_, b, At.of F⟩, F.kp, T.g_draw⟩
  · obtain ⟨_, _, rfl, _⟩ := h
    rfl
  · obtain ⟨sp, n, rfl, gd, ⟨x, m, c, hsp, m0, m1⟩, n0, n1, q⟩ := h
    refine ⟨_, PSs.nox (pss_cons (ps_if (pt_cmpR op_gt (pe_ix (ix_K (K := K)) (pv 0) pe_int (fun _ _ => rfl)) pe_int (nomark _))
        (pss_cons (ps_set (i := 2) sc_draw.nd rfl (Or.inl rfl) (pe_op op_mod (pe_callTy call_int1 (by rfl) T.z_int (by decide +kernel) (pa_cons (pe_ix (ix_K (K := K)) (pv 0) pe_int (fun _ _ => rfl)) pa_nil)) (pv 1)))
          (pss_cons (ps_asg (pe_op op_fdiv (pe_ix (ix_K (K := K)) (pv 0) pe_int (fun _ _ => rfl)) (pv 1)) (pg_sub (pv 0) pe_int set_list))
          (pss_one (ps_ret (pv 2)))))
        pss_nil)
        (pss_cons (ps_asg (pe_op (op_addK (K := K)) (pe_ix (ix_K (K := K)) (pv 0) pe_int (fun _ _ => rfl)) pe_int) (pg_sub (pv 0) pe_int set_list))
        (pss_cons (ps_asg (pe_op op_mod (pe_callTy call_int1 (by rfl) T.z_int (by decide +kernel) (pa_cons (pe_op (op_addK (K := K)) (pe_op (op_addK (K := K)) (pe_op (op_mulK (K := K)) (pe_ix (ix_K (K := K)) (pv 0) pe_int (fun _ _ => rfl)) pe_int) (pe_op (op_mulK (K := K)) pe_int (pe_ix (ix_K (K := K)) (pv 0) pe_int (fun _ _ => rfl)))) pe_int) pa_nil)) pe_int) (pg_sub (pv 0) pe_int set_list))
        (pss_one (ps_ret (pe_op op_mod (pe_callTy call_int1 (by rfl) T.z_int (by decide +kernel) (pa_cons (pe_op op_fdiv (pe_op (op_mulK (K := K)) (pe_op op_fdiv (pe_ix (ix_K (K := K)) (pv 0) pe_int (fun _ _ => rfl)) pe_int) (pe_op (op_addK (K := K)) (pe_op op_fdiv (pe_ix (ix_K (K := K)) (pv 0) pe_int (fun _ _ => rfl)) pe_int) pe_int)) pe_int) pa_nil)) (pv 1))))))), ?_⟩
    have at0 : ∀ {x m c : Int}, atI [V.int x, V.int m, V.int c] 0 = some (.int x) := fun {x m c} => atI_of (j := 0) rfl
    have at1 : ∀ {x m c : Int}, atI [V.int x, V.int m, V.int c] 1 = some (.int m) := fun {x m c} => atI_of (j := 1) rfl
    have at2 : ∀ {x m c : Int}, atI [V.int x, V.int m, V.int c] 2 = some (.int c) := fun {x m c} => atI_of (j := 2) rfl
    refine ⟨.ref sp, rfl, Or.inl ⟨sp, _, _, _, rfl, rfl, SqL.of hsp, at0, _, _, rfl, rfl, _, rfl, ite2 (fun _ => ?_) fun _ => ?_⟩⟩
    · refine ⟨.ref sp, rfl, Or.inl ⟨sp, _, _, _, rfl, rfl, SqL.of hsp, at0, Or.inl ⟨_, rfl, _, rfl, _, _, rfl, rfl, n0, ?_⟩⟩⟩
      refine ⟨.ref sp, rfl, Or.inl ⟨sp, _, _, _, rfl, rfl, SqL.of hsp, at0, _, rfl, _, _, rfl, rfl, ⟨n0, by omega⟩, ?_⟩⟩
      refine ⟨_, rfl, sp, _, _, 0, rfl, rfl, hsp, rfl, ?_⟩
      exact ⟨_, rfl, q _ _ (Sm.put List.mem_cons_self hsp) ⟨_, _, _, upd_same, m0, m1⟩ (Int.emod_nonneg _ (by omega)) (Int.emod_lt_of_pos _ n0)⟩
    · refine ⟨.ref sp, rfl, Or.inl ⟨sp, _, _, _, rfl, rfl, SqL.of hsp, at2, Or.inl ⟨_, _, rfl, rfl, ?_⟩⟩⟩
      refine ⟨_, rfl, sp, _, _, 2, rfl, rfl, hsp, rfl, ?_⟩
      have s1 : Sm (ct A) [sp] H (upd H sp (.lst ([V.int x, V.int m, V.int c].set 2 (.int (c + 1))))) := Sm.put List.mem_cons_self hsp
      have h1 : (upd H sp (.lst ([V.int x, V.int m, V.int c].set 2 (.int (c + 1))))) sp = some (.lst [.int x, .int m, .int (c + 1)]) := upd_same
      refine ⟨.ref sp, rfl, Or.inl ⟨sp, _, _, _, rfl, rfl, SqL.of h1, at1, Or.inl ⟨_, _, rfl, rfl, Or.inr (by decide), ?_⟩⟩⟩
      refine ⟨.ref sp, rfl, Or.inl ⟨sp, _, _, _, rfl, rfl, SqL.of h1, at2, Or.inl ⟨_, _, rfl, rfl, Or.inl (by decide), Or.inl ⟨_, _, rfl, rfl, Or.inl ⟨_, _, rfl, rfl, Or.inl ⟨_, rfl, _, _, rfl, rfl, (by show (0 : Int) < _; decide), ?_⟩⟩⟩⟩⟩⟩
      refine ⟨_, rfl, sp, _, _, 1, rfl, rfl, h1, rfl, ?_⟩
      have a0 : 0 ≤ (m * 40692 + 7919 * (c + 1) + 1) % 2147483647 := Int.emod_nonneg _ (by decide)
      have a1 : (m * 40692 + 7919 * (c + 1) + 1) % 2147483647 < 2147483647 := Int.emod_lt_of_pos _ (by decide)
      have s2 := s1.trans (Sm.put (c := ct A) (M := [sp]) (ys := [V.int x, V.int m, V.int (c + 1)].set 1 (.int ((m * 40692 + 7919 * (c + 1) + 1) % 2147483647))) List.mem_cons_self h1)
      have h2 : (upd (upd H sp (.lst ([V.int x, V.int m, V.int c].set 2 (.int (c + 1))))) sp (.lst ([V.int x, V.int m, V.int (c + 1)].set 1 (.int ((m * 40692 + 7919 * (c + 1) + 1) % 2147483647))))) sp = some (.lst [.int x, .int ((m * 40692 + 7919 * (c + 1) + 1) % 2147483647), .int (c + 1)]) := upd_same
      have b7 : ((m * 40692 + 7919 * (c + 1) + 1) % 2147483647) / 7 ≤ ((m * 40692 + 7919 * (c + 1) + 1) % 2147483647) := by omega
      refine ⟨.ref sp, rfl, Or.inl ⟨sp, _, _, _, rfl, rfl, SqL.of h2, at1, _, _, rfl, rfl, ⟨by decide, by decide⟩, ?_⟩⟩
      refine ⟨.ref sp, rfl, Or.inl ⟨sp, _, _, _, rfl, rfl, SqL.of h2, at1, _, _, rfl, rfl, ⟨by decide, by decide⟩, Or.inl ⟨_, _, rfl, rfl, Or.inl ⟨_, _, rfl, rfl, Or.inl ⟨by omega, by omega⟩, ?_⟩⟩⟩⟩
      refine ⟨_, _, rfl, rfl, ⟨by decide, by decide⟩, Or.inl ⟨_, rfl, _, rfl, _, _, rfl, rfl, n0, ?_⟩⟩
      exact q _ _ s2 ⟨_, _, _, h2, a0, a1⟩ (Int.emod_nonneg _ (by omega)) (Int.emod_lt_of_pos _ n0)
def sp_pick (K : PySem.W.Frag) (A : Ads) : Sp := fun vs H Q _ => ∃ (sp l : Addr) (xs : List V), vs = [.ref sp, .ref l] ∧ Gd (ct A) H ∧ Spr H sp ∧ l ≠ sp ∧ H l = some (.lst xs) ∧ 0 < xs.length ∧ xs.length ≤ 1000000 ∧
  ∀ v H', Sm (ct A) [sp] H H' → Spr H' sp → v ∈ xs → Q v H'
theorem ok_pick (T : Txt K mg A) : Df P w K mg base CX0 2 "_law_pick" A.a_pick ["spring", "some"] (sp_pick K A) := by
  obtain ⟨fd, F, b⟩ := T.f_pick
  refine ⟨⟨fd, fnG_of F sc_pick (fun vs H Q E h => ?_) fun cdv A0 outer s H vs Q E hcd hr h => ?_, b, At.of F⟩, F.kp, T.g_pick⟩
  · obtain ⟨_, _, _, rfl, _⟩ := h
    rfl
  · obtain ⟨sp, l, xs, rfl, gd, hsp, nl, hl, l0, l1, q⟩ := h
    have d_draw := ok_draw (P := P) (w := w) (base := base) T
    refine ⟨_, PSs.nox (pss_one (ps_ret (pe_ix (ix_K (K := K)) (pv 1) (pe_df d_draw hr (by decide) rfl pass0 (pa_cons (pv 0) (pa_cons (pe_callB (call_lenK (K := K)) (by rfl) T.z_len PySem.boot_len (pa_cons (pv 1) pa_nil)) pa_nil))) (fun _ _ => rfl)))), ?_⟩
    refine ⟨.ref l, rfl, .ref sp, rfl, .ref l, rfl, l, xs, rfl, Or.inl (SqL.of hl), sp, _, rfl, gd, hsp, by omega, by omega, fun d H1 s1 h1 d0 d1 => ?_⟩
    have e1 : H1 l = some (.lst xs) := s1.ex l _ (fun z => nl (List.mem_singleton.mp z)) hl nofun
    obtain ⟨j, rfl⟩ := Int.eq_ofNat_of_zero_le d0
    have hj : j < xs.length := by omega
    exact Or.inl ⟨l, xs, _, _, rfl, rfl, SqL.of e1, atI_of (List.getElem?_eq_getElem hj), q _ _ s1 h1 (List.getElem_mem hj)⟩

def sp_joint (A : Ads) : Sp := fun vs H Q _ => ∃ (M : List Addr) (lb lw : Addr) (i j : Nat) (bV wV : List V) (bD : List PyData) (ws : List (List Nat)) (w1 w2 : List Nat),
  vs = [.ref lb, .ref lw, .int (i : Int), .int (j : Int)] ∧ Gd (ct A) H ∧ (∀ m ∈ M, H m ≠ none) ∧ lb ∈ M ∧ lw ∈ M ∧ lb ≠ lw ∧ H lb = some (.lst bV) ∧ H lw = some (.lst wV) ∧
  Dqs M H bV bD ∧ Dqs M H wV (ws.map encW) ∧ ws[i]? = some w1 ∧ ws[j]? = some w2 ∧ 1 ≤ w1.length ∧ 1 ≤ w2.length ∧ w1.length + w2.length ≤ 1000 ∧ bV.length ≤ 1000 ∧ wV.length ≤ 1000 ∧
  ∀ v H' bV' wV', Sm (ct A) [lb, lw] H H' → H' lb = some (.lst bV') → H' lw = some (.lst wV') → Dqs M H' bV' (bD ++ [encB (i, j)]) → Dqs M H' wV' ((ws ++ [w1 ++ w2]).map encW) → v = .int (wV.length : Int) → Q v H'
theorem ok_joint (T : Txt K mg A) : Df P w K mg base CX0 1 "_law_joint" A.a_joint ["boxes", "words", "first", "second"] (sp_joint A) := by
  obtain ⟨fd, F, b⟩ := T.f_joint
  refine ⟨⟨fd, fnG_of F sc_joint (fun vs H Q E h => ?_) fun cdv A0 outer s H vs Q E hcd hr h => ?_, b, At.of F⟩, F.kp, T.g_joint⟩
  · obtain ⟨_, _, _, _, _, _, _, _, _, _, _, rfl, _⟩ := h
    rfl
  · obtain ⟨M, lb, lw, i, j, bV, wV, bD, ws, w1, w2, rfl, gd, hM, mb, mw, nbw, hlb, hlw, db, dw, e1, e2, l1, l2, l12, zb, zw, q⟩ := h
    refine ⟨_, PSs.nox (pss_cons (ps_expr (pe_bm PySem.F.plainAttrs_list PySem.F.slot_list_append PySem.F.type_list_append mt_append (pv 0) (pa_cons (pe_tup (pa_cons (pv 2) (pa_cons (pv 3) pa_nil))) pa_nil)))
        (pss_cons (ps_expr (pe_bm PySem.F.plainAttrs_list PySem.F.slot_list_append PySem.F.type_list_append mt_append (pv 1) (pa_cons (pe_op (op_addK (K := K)) (pe_ix (ix_K (K := K)) (pv 1) (pv 2) (fun _ _ => rfl)) (pe_ix (ix_K (K := K)) (pv 1) (pv 3) (fun _ _ => rfl))) pa_nil)))
        (pss_one (ps_ret (pe_op op_sub (pe_callB (call_lenK (K := K)) (by rfl) T.z_len PySem.boot_len (pa_cons (pv 1) pa_nil)) pe_int))))), ?_⟩
    refine ⟨.ref lb, rfl, Or.inl ⟨rfl, _, SqL.of hlb⟩, _, rfl, _, rfl, sz_of (by show 2 ≤ 100000; decide), fun p hp => ?_⟩
    have s1 : Sm (ct A) [lb, lw] H (upd H p (.tup [.int (i : Int), .int (j : Int)])) := Sm.new hp
    have b1 : (upd H p (.tup [.int (i : Int), .int (j : Int)])) lb = some (.lst bV) := by rw [upd_ne (ne_of_none hlb hp)]; exact hlb
    refine ⟨lb, bV, _, rfl, rfl, b1, sz_lt (by omega), ?_⟩
    have s2 := s1.trans (Sm.put (ys := bV ++ [.ref p]) List.mem_cons_self b1)
    have sub2 : ∀ z ∈ [lb, lw], z ∈ M := fun z hz => by
      rcases List.mem_cons.mp hz with y | y
      · rw [y]; exact mb
      · rw [List.mem_singleton.mp y]; exact mw
    have sB : Sm (ct A) M (upd H p (.tup [.int (i : Int), .int (j : Int)])) (upd (upd H p (.tup [.int (i : Int), .int (j : Int)])) lb (.lst (bV ++ [.ref p]))) := Sm.put mb b1
    have db2 := ((db.sm (s1.sub sub2)).snoc (dq_new hM hp (.two (.int (i : Int)) (.int (j : Int))))).sm sB
    have dw2 := dw.sm (s2.sub sub2)
    have w2' : (upd (upd H p (.tup [.int (i : Int), .int (j : Int)])) lb (.lst (bV ++ [.ref p]))) lw = some (.lst wV) := by
      rw [upd_ne nbw.symm, upd_ne (ne_of_none hlw hp)]
      exact hlw
    have b2' : (upd (upd H p (.tup [.int (i : Int), .int (j : Int)])) lb (.lst (bV ++ [.ref p]))) lb = some (.lst (bV ++ [.ref p])) := upd_same
    obtain ⟨x1, hx1, dx1⟩ := dw2.get (encW_get e1)
    obtain ⟨x2, hx2, dx2⟩ := dw2.get (encW_get e2)
    obtain ⟨a1, u1, rfl, n1, ha1, hu1⟩ := dx1.tup_inv
    obtain ⟨a2, u2, rfl, n2, ha2, hu2⟩ := dx2.tup_inv
    have z1 : u1.length = w1.length := by have := hu1.length; simpa using this
    have z2 : u2.length = w2.length := by have := hu2.length; simpa using this
    refine ⟨.ref lw, rfl, Or.inl ⟨rfl, _, SqL.of w2'⟩, .ref lw, rfl, _, rfl, Or.inl ⟨lw, wV, _, _, rfl, rfl, SqL.of w2', atI_of hx1, ?_⟩⟩
    refine ⟨.ref lw, rfl, _, rfl, Or.inl ⟨lw, wV, _, _, rfl, rfl, SqL.of w2', atI_of hx2, ?_⟩⟩
    refine Or.inr (Or.inr (Or.inl ⟨a1, a2, u1, u2, rfl, rfl, SqT.of ha1, SqT.of ha2, sz_of (by omega), fun z => ?_, fun _ z => ?_, fun _ _ p2 hp2 => ?_⟩))
    · rw [z] at z1
      simp at z1
      omega
    · rw [z] at z2
      simp at z2
      omega
    have hM2 : ∀ m ∈ M, (upd (upd H p (.tup [.int (i : Int), .int (j : Int)])) lb (.lst (bV ++ [.ref p]))) m ≠ none := fun m hm => s2.st m (hM m hm)
    generalize (upd (upd H p (.tup [.int (i : Int), .int (j : Int)])) lb (.lst (bV ++ [.ref p]))) = H2 at *
    have s3 : Sm (ct A) [lb, lw] H2 (upd H2 p2 (.tup (u1 ++ u2))) := Sm.new hp2
    have w3 : (upd H2 p2 (.tup (u1 ++ u2))) lw = some (.lst wV) := by rw [upd_ne (ne_of_none w2' hp2)]; exact w2'
    have b3 : (upd H2 p2 (.tup (u1 ++ u2))) lb = some (.lst (bV ++ [.ref p])) := by rw [upd_ne (ne_of_none b2' hp2)]; exact b2'
    refine ⟨lw, wV, _, rfl, rfl, w3, sz_lt (by omega), ?_⟩
    have s4 : Sm (ct A) [lb, lw] (upd H2 p2 (.tup (u1 ++ u2))) (upd (upd H2 p2 (.tup (u1 ++ u2))) lw (.lst (wV ++ [.ref p2]))) := Sm.put (List.mem_cons_of_mem _ List.mem_cons_self) w3
    have s4M : Sm (ct A) M (upd H2 p2 (.tup (u1 ++ u2))) (upd (upd H2 p2 (.tup (u1 ++ u2))) lw (.lst (wV ++ [.ref p2]))) := Sm.put mw w3
    refine ⟨.ref lw, rfl, lw, _, rfl, Or.inl (SqL.of upd_same), _, _, rfl, rfl, ?_⟩
    have ev : V.int (((wV ++ [V.ref p2]).length : Int) - 1) = .int (wV.length : Int) := by
      rw [List.length_append]
      show V.int (((wV.length + 1 : Nat) : Int) - 1) = _
      rw [show ((wV.length + 1 : Nat) : Int) - 1 = (wV.length : Int) by omega]
    refine q _ _ (bV ++ [.ref p]) (wV ++ [.ref p2]) ((s2.trans s3).trans s4) (by rw [upd_ne nbw]; exact b3) upd_same ((db2.sm (s3.sub sub2)).sm s4M) ?_ ev
    rw [List.map_append]
    have dn := dq_new hM2 hp2 (hu1.append hu2)
    rw [← enc_append] at dn
    exact ((dw2.sm (s3.sub sub2)).snoc dn).sm s4M

def sp_web (A : Ads) : Sp := fun vs H Q _ => ∃ (M : List Addr) (sp : Addr) (most L : Nat), vs = [.ref sp, .int (most : Int), .int (L : Int)] ∧ Gd (ct A) H ∧ (∀ m ∈ M, H m ≠ none) ∧ sp ∈ M ∧ Spr H sp ∧ most ≤ 60 ∧ 2 ≤ L ∧ L ≤ 400 ∧
  ∀ v H' n bs es, Sm (ct A) [sp] H H' → Spr H' sp → NetOk n bs es → Lens L (wordsOf n bs) → Dq M H' v (encNet n bs es) → Q v H'
theorem ok_web (T : Txt K mg A) : Df P w K mg base CX0 3 "_law_web" A.a_web ["spring", "most", "length"] (sp_web A) := by
  obtain ⟨fd, F, b⟩ := T.f_web
  refine ⟨⟨fd, fnG_of F sc_web (fun vs H Q E h => ?_) fun cdv A0 outer s H vs Q E hcd hr h => ?_, b, At.of F⟩, F.kp, T.g_web⟩
  · obtain ⟨_, _, _, _, rfl, _⟩ := h
    rfl
  · obtain ⟨M, sp, most, L, rfl, gd, hM, ms, spr, hm60, hL2, hL4, q⟩ := h
    have d_draw := ok_draw (P := P) (w := w) (base := base) T
    have d_pick := ok_pick (P := P) (w := w) (base := base) T
    have d_joint := ok_joint (P := P) (w := w) (base := base) T
    obtain ⟨sx, hsx⟩ := spr.some
    refine ⟨_, PSs.nox (pss_cons (ps_set (i := 3) sc_web.nd rfl (Or.inl rfl) (pe_op (op_addK (K := K)) pe_int (pe_df d_draw hr (by decide) rfl pass0 (pa_cons (pv 0) (pa_cons (pe_df d_pick hr (by decide) rfl pass0 (pa_cons (pv 0) (pa_cons (pe_lst (pa_cons pe_int (pa_cons pe_int (pa_cons pe_int (pa_cons pe_int pa_nil))))) pa_nil))) pa_nil)))))
        (pss_cons (ps_asg (pe_tup (pa_cons (pe_lst pa_nil) (pa_cons (pe_lc (own := [("k", 7)]) (g := gName 7) (tt := tYes) rfl sc_web.nd (pi_range1 (by rfl) T.z_range (pa_cons (pv 3) pa_nil)) (blkOk_by (own := [("k", 7)]) (N := ["spring", "most", "length", "size", "boxes", "words", "ends", "k", "turn", "top", "way", "first", "second", "lot"]) (sc := defScope s_web) (by decide +kernel)) (fun _ _ _ _ _ => pg_name (i := 7) sc_web.nd rfl (Or.inl rfl)) (fun _ _ _ _ _ => pts_nil) (fun _ _ _ _ _ => (pe_tup (pa_cons (pv 7) pa_nil)))) (pa_cons (pe_lst pa_nil) pa_nil)))) (pg_tup rfl (pgs_cons (pg_name (i := 4) sc_web.nd rfl (Or.inl rfl)) (pgs_cons (pg_name (i := 5) sc_web.nd rfl (Or.inr rfl)) (pgs_cons (pg_name (i := 6) sc_web.nd rfl (Or.inl rfl)) pgs_nil)))))
        (pss_cons (ps_for PassesOwn.never rfl (pi_range1 (by rfl) T.z_range (pa_cons (pe_df d_draw hr (by decide) rfl pass0 (pa_cons (pv 0) (pa_cons (pe_op (op_addK (K := K)) (pv 1) pe_int) pa_nil))) pa_nil)) (pg_name (i := 8) sc_web.nd rfl (Or.inl rfl))
        (pss_cons (ps_par (i := 9) (j := 10) rfl sc_web.nd rfl rfl (by decide) rfl rfl (pa_cons (pe_callB (call_lenK (K := K)) (by rfl) T.z_len PySem.boot_len (pa_cons (pv 5) pa_nil)) (pa_cons (pe_df d_draw hr (by decide) rfl pass0 (pa_cons (pv 0) (pa_cons pe_int pa_nil))) pa_nil)) (by rfl))
          (pss_cons (ps_asg (pe_tup (pa_cons (pe_df d_draw hr (by decide) rfl pass0 (pa_cons (pv 0) (pa_cons (pv 9) pa_nil))) (pa_cons (pe_df d_draw hr (by decide) rfl pass0 (pa_cons (pv 0) (pa_cons (pv 9) pa_nil))) pa_nil))) (pg_tup rfl (pgs_cons (pg_name (i := 11) sc_web.nd rfl (Or.inr rfl)) (pgs_cons (pg_name (i := 12) sc_web.nd rfl (Or.inl rfl)) pgs_nil))))
          (C8.pss_cut (ps_if (pt_cmpR (op_eqK (K := K) hr) (pv 10) pe_int (nomark _))
          (pss_one (ps_set (i := 11) sc_web.nd rfl (Or.inr rfl) (pe_op op_sub (pv 9) pe_int)))
          pss_nil)
          (pss_cons (ps_setLc (i := 13) (own := [("k", 7)]) (g := gName 7) (tt := _) rfl sc_web.nd rfl rfl (sw_true rfl rfl rfl (by decide +kernel)) (pi_range1 (by rfl) T.z_range (pa_cons (pv 9) pa_nil)) (blkOk_by (own := [("k", 7)]) (N := ["spring", "most", "length", "size", "boxes", "words", "ends", "k", "turn", "top", "way", "first", "second", "lot"]) (sc := defScope s_web) (by decide +kernel)) (fun _ _ _ _ _ => pg_name (i := 7) sc_web.nd rfl (Or.inl rfl)) (fun _ _ _ _ _ => pts_one (pt_cmpR (op_eqK (K := K) hr) (pe_ix (ix_K (K := K)) (pe_ix (ix_K (K := K)) (pv 5) (pv 7) (fun _ _ => rfl)) pe_int (fun _ _ => rfl)) (pe_op (op_addK (K := K)) (pe_ix (ix_K (K := K)) (pe_ix (ix_K (K := K)) (pv 5) (pv 11) (fun _ _ => rfl)) (pe_op op_sub (pe_callB (call_lenK (K := K)) (by rfl) T.z_len PySem.boot_len (pa_cons (pe_ix (ix_K (K := K)) (pv 5) (pv 11) (fun _ _ => rfl)) pa_nil)) pe_int) (fun _ _ => rfl)) pe_int) (nomark _))) (fun _ _ _ _ _ => (pv 7)))
          (C8.pss_cut (ps_if (PW.pt (pw_and (pt_cmpR op_lt (pv 10) pe_int (nomark _)) (pw_and1 (pt_cmpR (op_neK (K := K) hr) (pv 13) (pe_lst pa_nil) (nomark _)))))
          (pss_one (ps_set (i := 12) sc_web.nd rfl (Or.inl rfl) (pe_df d_pick hr (by decide) rfl pass0 (pa_cons (pv 0) (pa_cons (pv 13) pa_nil)))))
          pss_nil)
          (C8.pss_cut (ps_if (pt_cmpR op_gt (pe_op (op_addK (K := K)) (pe_callB (call_lenK (K := K)) (by rfl) T.z_len PySem.boot_len (pa_cons (pe_ix (ix_K (K := K)) (pv 5) (pv 11) (fun _ _ => rfl)) pa_nil)) (pe_callB (call_lenK (K := K)) (by rfl) T.z_len PySem.boot_len (pa_cons (pe_ix (ix_K (K := K)) (pv 5) (pv 12) (fun _ _ => rfl)) pa_nil))) (pv 2) (nomark _))
          (pss_one (ps_asg (pe_tup (pa_cons (pe_df d_draw hr (by decide) rfl pass0 (pa_cons (pv 0) (pa_cons (pv 3) pa_nil))) (pa_cons (pe_df d_draw hr (by decide) rfl pass0 (pa_cons (pv 0) (pa_cons (pv 3) pa_nil))) pa_nil))) (pg_tup rfl (pgs_cons (pg_name (i := 11) sc_web.nd rfl (Or.inr rfl)) (pgs_cons (pg_name (i := 12) sc_web.nd rfl (Or.inl rfl)) pgs_nil)))))
          pss_nil)
          (pss_one (ps_expr (pe_df d_joint hr (by decide) rfl pass0 (pa_cons (pv 4) (pa_cons (pv 5) (pa_cons (pv 11) (pa_cons (pv 12) pa_nil))))))))))))))
        (pss_cons (ps_for PassesOwn.never rfl (pi_range1 (by rfl) T.z_range (pa_cons (pe_ifExp (pt_cmpR (op_eqK (K := K) hr) (pe_df d_draw hr (by decide) rfl pass0 (pa_cons (pv 0) (pa_cons pe_int pa_nil))) pe_int (nomark _)) (pv 3) (pe_op (op_addK (K := K)) pe_int (pe_df d_draw hr (by decide) rfl pass0 (pa_cons (pv 0) (pa_cons pe_int pa_nil))))) pa_nil)) (pg_name (i := 8) sc_web.nd rfl (Or.inl rfl))
        (pss_one (ps_expr (pe_bm PySem.F.plainAttrs_list PySem.F.slot_list_append PySem.F.type_list_append mt_append (pv 6) (pa_cons (pe_df d_draw hr (by decide) rfl pass0 (pa_cons (pv 0) (pa_cons (pe_callB (call_lenK (K := K)) (by rfl) T.z_len PySem.boot_len (pa_cons (pv 5) pa_nil)) pa_nil))) pa_nil)))))
        (pss_one (ps_ret (pe_tup (pa_cons (pv 3) (pa_cons (pe_callTy (call_tupleK (K := K)) (by rfl) T.z_tuple (by decide +kernel) (pa_cons (pv 4) pa_nil)) (pa_cons (pe_callTy (call_tupleK (K := K)) (by rfl) T.z_tuple (by decide +kernel) (pa_cons (pv 6) pa_nil)) pa_nil)))))))))), ?_⟩
    -- size
    refine ⟨.ref sp, rfl, .ref sp, rfl, sz_of (by show 4 ≤ 100000; decide), fun l hl => ?_⟩
    have s0 : Sm (ct A) [sp] H (upd H l (.lst [.int 2, .int 4, .int 6, .int 12])) := Sm.new hl
    have nls : l ≠ sp := (ne_of_none hsx hl).symm
    refine ⟨sp, l, _, rfl, s0.gd gd, spr.sm (c := ct A) (M := []) (Sm.new hl) (fun z => nomatch z), nls, upd_same, by decide, by decide, fun v H1 s1 spr1 hv => ?_⟩
    obtain ⟨k, rfl, k0, k12⟩ : ∃ k : Int, v = .int k ∧ 0 < k ∧ k ≤ 12 := by
      simp only [List.mem_cons, List.not_mem_nil, or_false] at hv
      rcases hv with rfl | rfl | rfl | rfl <;> exact ⟨_, rfl, by decide, by decide⟩
    have s01 := s0.trans s1
    refine ⟨sp, k, rfl, s01.gd gd, spr1, k0, by omega, fun d H2 s2 spr2 d0 d1 => ?_⟩
    obtain ⟨j, rfl⟩ := Int.eq_ofNat_of_zero_le d0
    have s02 := s01.trans s2
    refine Or.inl ⟨_, _, rfl, rfl, ?_⟩
    -- the three lists
    refine ⟨Nat.zero_le _, fun lb hlb => ?_⟩
    obtain ⟨sx2, hsx2⟩ := spr2.some
    have nbs : lb ≠ sp := (ne_of_none hsx2 hlb).symm
    have sb : ∀ {N}, Sm (ct A) N H2 (upd H2 lb (.lst [])) := Sm.new hlb
    refine ⟨_, rfl, _, rfl, by omega, by omega, fun lw hlw => L2.lc_it (L2.walk_range (lo := 0) (n := (1 + (j : Int)).toNat))
      (fun i H' => Sm (ct A) [lw] (upd (upd H2 lb (.lst [])) lw (.lst [])) H' ∧ ∃ xs, H' lw = some (.lst xs) ∧ Dqs (lb :: lw :: M) H' xs (((List.range i).map fun k => [k]).map encW)) ?_ (fun _ _ _ _ => trivial) (fun i x H' H'' hi hW hY => ?_) (fun H3 hW => ?_)⟩
    · exact ⟨Sm.refl, [], upd_same, .nil⟩
    · obtain ⟨sW, xs, eW, dW⟩ := hW
      obtain ⟨rfl, rfl⟩ := hY
      refine ⟨rfl, .int (0 + (i : Nat)), rfl, sz_of (by show 1 ≤ 100000; decide), fun p hp => ?_⟩
      have nDp : lw ≠ p := ne_of_none eW hp
      have s2' : Sm (ct A) [lw] H'' (upd H'' p (.tup [.int (0 + (i : Nat))])) := Sm.new hp
      have lx : xs.length = i := dW.length.trans (by simp)
      have sAll : Sm (ct A) [lw] (upd H2 lb (.lst [])) H'' := (Sm.new hlw).trans sW
      have hM2 : ∀ m ∈ lb :: lw :: M, H'' m ≠ none := fun m hm => by
        rcases List.mem_cons.mp hm with z | hm
        · exact sAll.st m (by rw [z, upd_same]; nofun)
        rcases List.mem_cons.mp hm with z | z
        · rw [z, eW]
          nofun
        · exact sAll.st m ((sb (N := [])).st m (s02.st m (hM m z)))
      have e2 : (upd H'' p (.tup [.int (0 + (i : Nat))])) lw = some (.lst xs) := by rw [upd_ne nDp]; exact eW
      refine ⟨xs, e2, sz_lt (by omega), ?_, _, upd_same, ?_⟩
      · exact (sW.trans s2').trans (Sm.put List.mem_cons_self e2)
      · have sp' : Sm (ct A) (lb :: lw :: M) _ (upd (upd H'' p (.tup [.int (0 + (i : Nat))])) lw (.lst (xs ++ [.ref p]))) := Sm.put (List.mem_cons_of_mem _ List.mem_cons_self) e2
        rw [List.range_succ, List.map_append, List.map_append]
        refine ((dW.sm (s2'.sub fun z hz => by rw [List.mem_singleton.mp hz]; exact List.mem_cons_of_mem _ List.mem_cons_self)).snoc ?_).sm sp'
        have := dq_new hM2 hp (.one (.int (0 + (i : Nat))))
        rw [Int.zero_add] at this ⊢
        exact this
    obtain ⟨s3, xs, e3, dW⟩ := hW
    have b2 : (upd H2 lb (.lst [])) lb = some (.lst []) := upd_same
    have s23 : Sm (ct A) [lw] (upd H2 lb (.lst [])) H3 := (Sm.new hlw).trans s3
    have nbw : lb ≠ lw := ne_of_none b2 hlw
    have b3 : H3 lb = some (.lst []) := s23.ex lb _ (fun z => nbw (List.mem_singleton.mp z)) b2 nofun
    have nws : lw ≠ sp := fun z => by
      have := (sb (N := [])).ex sp _ (fun z => nomatch z) hsx2 nofun
      rw [← z, hlw] at this
      cases this
    have sp3 : Spr H3 sp := ((spr2.sm (c := ct A) (M := []) (Sm.new hlb) (fun z => nomatch z)).sm (c := ct A) (M := [lw]) s23 (fun z => nws (List.mem_singleton.mp z).symm))
    refine ⟨Nat.zero_le _, fun le hle => ?_⟩
    obtain ⟨sx3, hsx3⟩ := sp3.some
    have nes : le ≠ sp := (ne_of_none hsx3 hle).symm
    have nbe : lb ≠ le := ne_of_none b3 hle
    have nwe : lw ≠ le := ne_of_none e3 hle
    have se : ∀ {N}, Sm (ct A) N H3 (upd H3 le (.lst [])) := Sm.new hle
    refine ⟨sz_of (by show 3 ≤ 100000; decide), fun p hp => ?_⟩
    have sp4 : ∀ {N}, Sm (ct A) N (upd H3 le (.lst [])) (upd (upd H3 le (.lst [])) p (.tup [.ref lb, .ref lw, .ref le])) := Sm.new hp
    have s34 : Sm (ct A) [] H3 (upd (upd H3 le (.lst [])) p (.tup [.ref lb, .ref lw, .ref le])) := se.trans sp4
    have i4 : ∀ z, z ∈ [lw] → z ∈ [lb, lw, le, sp] := fun z hz => by rw [List.mem_singleton.mp hz]; simp
    have i5 : ∀ z, z ∈ [sp] → z ∈ [lb, lw, le, sp] := fun z hz => by rw [List.mem_singleton.mp hz]; simp
    have smA : Sm (ct A) [lb, lw, le, sp] H (upd (upd H3 le (.lst [])) p (.tup [.ref lb, .ref lw, .ref le])) := ((s02.sub i5).trans sb).trans ((s23.sub i4).trans s34.any)
    have en : ((1 + j : Nat) : Int) = 1 + (j : Int) := by omega
    have hj : 1 + j ≤ 12 := by omega
    have W0 : WebSt (ct A) M sp lb lw le (1 + j) L H (upd (upd H3 le (.lst [])) p (.tup [.ref lb, .ref lw, .ref le])) [] [] := by
      have et : (1 + (j : Int)).toNat = 1 + j := by omega
      rw [et] at dW
      refine ⟨smA, sp3.sm s34 (fun z => nomatch z), ⟨[], s34.ex lb _ (fun z => nomatch z) b3 nofun, .nil⟩, ⟨xs, s34.ex lw _ (fun z => nomatch z) e3 nofun, ?_⟩, ⟨[], (sp4 (N := [])).ex le _ (fun z => nomatch z) upd_same nofun, .nil⟩, trivial, ?_⟩
      · refine (((dW.map fun a o na ea _ => ⟨fun z => ?_, ea⟩).sm (M := lb :: lw :: le :: M) s34.any))
        rcases List.mem_cons.mp z with z | z
        · exact na (by rw [z]; exact List.mem_cons_self)
        rcases List.mem_cons.mp z with z | z
        · exact na (by rw [z]; exact List.mem_cons_of_mem _ List.mem_cons_self)
        rcases List.mem_cons.mp z with z | z
        · rw [z, hle] at ea
          cases ea
        · exact na (List.mem_cons_of_mem _ (List.mem_cons_of_mem _ z))
      · intro x hx
        obtain ⟨k, _, rfl⟩ := List.mem_map.mp hx
        exact ⟨Nat.le_refl _, by show 1 ≤ L; omega⟩
    refine ⟨p, _, rfl, SqT.of upd_same, rfl, _, _, rfl, _, _, rfl, _, _, rfl, rfl, ?_⟩
    generalize (upd (upd H3 le (.lst [])) p (.tup [.ref lb, .ref lw, .ref le])) = H4 at *
    have hsm : ∀ {bs es H'}, WebSt (ct A) M sp lb lw le (1 + j) L H H' bs es → Gd (ct A) H' := fun x => x.sm.gd gd
    have on : ∀ {bs es H' H''}, WebSt (ct A) M sp lb lw le (1 + j) L H H' bs es → Sm (ct A) [sp] H' H'' → Spr H'' sp → WebSt (ct A) M sp lb lw le (1 + j) L H H'' bs es := fun x s y => x.on s y ms nbs nws nes
    have hM5 : ∀ {bs es H'}, WebSt (ct A) M sp lb lw le (1 + j) L H H' bs es → ∀ m ∈ lb :: lw :: le :: M, H' m ≠ none := fun x m hm => by
      obtain ⟨bV, hb, _⟩ := x.b
      obtain ⟨wV, hw, _⟩ := x.w
      obtain ⟨eV, he, _⟩ := x.e
      rcases List.mem_cons.mp hm with z | hm
      · rw [z, hb]; nofun
      rcases List.mem_cons.mp hm with z | hm
      · rw [z, hw]; nofun
      rcases List.mem_cons.mp hm with z | hm
      · rw [z, he]; nofun
      exact x.sm.st m (hM m hm)
    -- loop 1
    refine ⟨.ref sp, rfl, _, rfl, Or.inl ⟨_, _, rfl, rfl, sp, _, rfl, hsm W0, W0.spr, by omega, by omega, fun d H5 s5 spr5 e0 e1 => ?_⟩⟩
    obtain ⟨many, rfl⟩ := Int.eq_ofNat_of_zero_le e0
    have W1 := on W0 s5 spr5
    refine ⟨_, rfl, by omega, by omega, L2.for_it (L2.walk_range (lo := 0) (n := (many : Int).toNat)) (fun i σ' H' => ∃ bs z7 z8 z9 z10 z11 z12 z13, bs.length = i ∧ WebSt (ct A) M sp lb lw le (1 + j) L H H' bs [] ∧
      σ' = [some (.ref sp), some (.int (most : Int)), some (.int (L : Int)), some (.int (1 + (j : Int))), some (.ref lb), some (.ref lw), some (.ref le), z7, z8, z9, z10, z11, z12, z13])
      ⟨[], _, _, _, _, _, _, _, rfl, W1, rfl⟩ (fun _ _ _ _ _ => trivial) (fun i x σ' H' H'' hi hW hY => ?_) (fun σ' H6 hW => ?_)⟩
    · obtain ⟨bs, z7, z8, z9, z10, z11, z12, z13, hb, Wi, rfl⟩ := hW
      obtain ⟨rfl, rfl⟩ := hY
      have hi60 : i < 60 := by omega
      obtain ⟨wV, hwV, dwV⟩ := Wi.w
      have lw' := Wi.len dwV
      refine ⟨.ref lw, rfl, lw, wV, rfl, Or.inl (SqL.of hwV), .ref sp, rfl, sp, _, rfl, hsm Wi, Wi.spr, by decide, by decide, fun way H7 s7 spr7 w0 w1 => ⟨_, _, rfl, ?_⟩⟩
      have Wa := on Wi s7 spr7
      -- first, second
      refine ⟨.ref sp, rfl, _, rfl, sp, _, rfl, hsm Wa, Wa.spr, by omega, by omega, fun fi H8 s8 spr8 f0 f1 => ?_⟩
      obtain ⟨fi, rfl⟩ := Int.eq_ofNat_of_zero_le f0
      have Wb := on Wa s8 spr8
      refine ⟨.ref sp, rfl, _, rfl, sp, _, rfl, hsm Wb, Wb.spr, by omega, by omega, fun se H9 s9 spr9 g0 g1 => ?_⟩
      obtain ⟨se, rfl⟩ := Int.eq_ofNat_of_zero_le g0
      have Wc := on Wb s9 spr9
      refine ⟨sz_of (by show 2 ≤ 100000; decide), fun p2 hp2 => ?_⟩
      have Wd := Wc.quiet (Sm.new (c := ct A) (M := []) (o := .tup [.int (fi : Int), .int (se : Int)]) hp2)
      refine ⟨p2, _, rfl, SqT.of upd_same, rfl, _, _, rfl, _, _, rfl, rfl, ?_⟩
      -- way == 0
      refine ⟨fun σ' H' => ∃ fi se : Nat, fi < wV.length ∧ se < wV.length ∧ WebSt (ct A) M sp lb lw le (1 + j) L H H' bs [] ∧
        σ' = [some (.ref sp), some (.int (most : Int)), some (.int (L : Int)), some (.int (1 + (j : Int))), some (.ref lb), some (.ref lw), some (.ref le), z7, some (.int (0 + (i : Nat))), some (.int (wV.length : Int)), some (.int way), some (.int (fi : Int)), some (.int (se : Int)), z13], ?_, ?_⟩
      · refine ⟨_, rfl, Or.inl ⟨rfl, _, rfl, ite2 (fun _ => ?_) fun _ => ?_⟩⟩
        · refine ⟨_, rfl, _, _, rfl, rfl, wV.length - 1, se, by omega, by omega, Wd, ?_⟩
          rw [show ((wV.length - 1 : Nat) : Int) = (wV.length : Int) - 1 by omega]
          rfl
        · exact ⟨fi, se, by omega, by omega, Wd, rfl⟩
      rintro σ' Hm ⟨fi, se, hf, hs, Wm, rfl⟩
      -- lot
      obtain ⟨wV2, hwV2, dwV2⟩ := Wm.w
      have lw2 := Wm.len dwV2
      have lwo := wordsOf_len (1 + j) bs
      refine ⟨_, rfl, _, rfl, by omega, by omega, fun D hD => L2.lc_it (L2.walk_range (lo := 0) (n := (wV.length : Int).toNat))
        (fun i H' => Sm (ct A) [D] (upd Hm D (.lst [])) H' ∧ ∃ ks : List Nat, H' D = some (.lst (ks.map fun k : Nat => V.int (k : Int))) ∧ ks.length ≤ i ∧ ∀ k ∈ ks, k < wV.length) ⟨Sm.refl, [], upd_same, Nat.le_refl _, nofun⟩ (fun _ _ _ _ => trivial) (fun t x H' H'' ht hW hY => ?_) (fun H3 hW => ?_)⟩
      · obtain ⟨sW, ks, eD, l1, l2⟩ := hW
        obtain ⟨rfl, hx⟩ := hY
        have et : (0 : Int) + (t : Nat) = (t : Int) := by omega
        have hx' : x = .int (t : Int) := hx.trans (by show V.int (0 + (t : Nat)) = _; rw [et])
        subst hx'
        refine ⟨rfl, ?_⟩
        have sQ : Sm (ct A) [] Hm H'' := ((Sm.new hD).trans sW).out hD
        have Wq := Wm.quiet sQ
        obtain ⟨wV3, hwV3, dwV3⟩ := Wq.w
        have lw3 := Wq.len dwV3
        obtain ⟨a1, u1, w1, x1, y1, -, z1, d1, m1⟩ := word_get (i := t) dwV3 (by omega)
        obtain ⟨a2, u2, w2, x2, y2, -, z2, d2, m2⟩ := word_get (i := fi) dwV3 (by omega)
        have p1 := lens_get Wq.ln y1
        have p2 := lens_get Wq.ln y2
        obtain ⟨i1, q1, r1⟩ : ∃ i1 : Int, u1[0]? = some (.int i1) ∧ True := by
          obtain ⟨v, hv, dv⟩ := d1.get (i := 0) (by rw [List.getElem?_map, List.getElem?_eq_getElem (show 0 < w1.length by omega)]; rfl)
          exact ⟨_, by rw [hv, dv.int_inv], trivial⟩
        obtain ⟨i2, q2, r2⟩ : ∃ i2 : Int, u2[w2.length - 1]? = some (.int i2) ∧ True := by
          obtain ⟨v, hv, dv⟩ := d2.get (i := w2.length - 1) (by rw [List.getElem?_map, List.getElem?_eq_getElem (show w2.length - 1 < w2.length by omega)]; rfl)
          exact ⟨_, by rw [hv, dv.int_inv], trivial⟩
        have q2' : atI u2 ((u2.length : Int) - 1) = some (.int i2) := by
          rw [show (u2.length : Int) - 1 = ((w2.length - 1 : Nat) : Int) by omega]
          exact atI_of q2
        refine ⟨.ref lw, rfl, _, rfl, Or.inl ⟨lw, wV3, _, _, rfl, rfl, SqL.of hwV3, atI_of x1, Or.inr (Or.inl ⟨a1, u1, 0, _, rfl, rfl, SqT.of z1, atI_of (j := 0) q1, ?_⟩)⟩⟩
        refine ⟨.ref lw, rfl, _, rfl, Or.inl ⟨lw, wV3, _, _, rfl, rfl, SqL.of hwV3, atI_of x2, .ref lw, rfl, _, rfl, Or.inl ⟨lw, wV3, _, _, rfl, rfl, SqL.of hwV3, atI_of x2, a2, u2, rfl, Or.inr (SqT.of z2), _, _, rfl, rfl,
          Or.inr (Or.inl ⟨a2, u2, _, _, rfl, rfl, SqT.of z2, q2', Or.inl ⟨_, _, rfl, rfl, Or.inl ⟨rfl, _, rfl, ite2 (fun _ => ?_) fun _ => ?_⟩⟩⟩)⟩⟩⟩
        · refine ⟨_, rfl, _, eD, sz_lt (by rw [List.length_map]; omega), sW.trans (Sm.put List.mem_cons_self eD), ks ++ [t], by rw [upd_same, List.map_append]; rfl, by rw [List.length_append]; simp; omega, fun k hk => ?_⟩
          rcases List.mem_append.mp hk with z | z
          · exact l2 k z
          · rw [List.mem_singleton.mp z]
            omega
        · exact ⟨sW, ks, eD, by omega, l2⟩
      obtain ⟨sW, ks, eD, l1, l2⟩ := hW
      have sQ : Sm (ct A) [] Hm H3 := ((Sm.new hD).trans sW).out hD
      have nDs : D ≠ sp := fun z => by
        obtain ⟨xs, e⟩ := Wm.spr.some
        rw [← z, hD] at e
        cases e
      have Wn := Wm.quiet sQ
      -- way < 2 and lot != []
      refine ⟨fun σ' H' => ∃ fi se : Nat, fi < wV.length ∧ se < wV.length ∧ WebSt (ct A) M sp lb lw le (1 + j) L H H' bs [] ∧
        σ' = [some (.ref sp), some (.int (most : Int)), some (.int (L : Int)), some (.int (1 + (j : Int))), some (.ref lb), some (.ref lw), some (.ref le), z7, some (.int (0 + (i : Nat))), some (.int (wV.length : Int)), some (.int way), some (.int (fi : Int)), some (.int (se : Int)), some (.ref D)], ?_, ?_⟩
      · refine ⟨_, rfl, _, _, rfl, rfl, _, rfl, ite2 (fun _ => ?_) fun _ => ?_⟩
        · refine ⟨.ref D, rfl, sz_of (by show 0 ≤ 100000; decide), fun p3 hp3 => Or.inr ⟨.list (ks.map nI), .list [], ?_, .lst (SqL.of upd_same) .nil, shaped_nI ks, shaped_nI [], _, rfl, ite2 (fun e => ?_) fun _ => ?_⟩⟩
          · have eD' : (upd H3 p3 (.lst [])) D = some (.lst (ks.map fun k : Nat => V.int (k : Int))) := by rw [upd_ne (ne_of_none eD hp3)]; exact eD
            exact .lst (SqL.of eD') (Dqs.dp (dict_nI ks) (Dqs.nats (M := []) ks))
          · have ke : ks ≠ [] := fun z => by
              rw [z] at e
              exact absurd e (by decide)
            have eD' : (upd H3 p3 (.lst [])) D = some (.lst (ks.map fun k : Nat => V.int (k : Int))) := by rw [upd_ne (ne_of_none eD hp3)]; exact eD
            have Wo := Wn.quiet (Sm.new (c := ct A) (M := []) (o := .lst []) hp3)
            refine ⟨.ref sp, rfl, .ref D, rfl, sp, D, _, rfl, hsm Wo, Wo.spr, nDs, eD', by rw [List.length_map]; exact List.length_pos_iff.mpr ke, by rw [List.length_map]; omega, fun v H4' s4' spr4 hv => ?_⟩
            obtain ⟨k, hk, rfl⟩ := List.mem_map.mp hv
            exact ⟨fi, k, hf, l2 k hk, on Wo s4' spr4, rfl⟩
          · exact ⟨fi, se, hf, hs, Wn.quiet (Sm.new (c := ct A) (M := []) (o := .lst []) hp3), rfl⟩
        · exact ⟨fi, se, hf, hs, Wn, rfl⟩
      rintro σ' Hn ⟨fi, se, hf, hs, Wn, rfl⟩
      clear Wb Wc Wd
      -- too long
      obtain ⟨wV4, hwV4, dwV4⟩ := Wn.w
      have lw4 := Wn.len dwV4
      obtain ⟨a1, u1, w1, x1, y1, -, z1, d1, m1⟩ := word_get (i := fi) dwV4 (by omega)
      obtain ⟨a2, u2, w2, x2, y2, -, z2, d2, m2⟩ := word_get (i := se) dwV4 (by omega)
      refine ⟨fun σ' H' => ∃ (fi se : Nat) (w1 w2 : List Nat), (wordsOf (1 + j) bs)[fi]? = some w1 ∧ (wordsOf (1 + j) bs)[se]? = some w2 ∧ w1.length + w2.length ≤ L ∧ WebSt (ct A) M sp lb lw le (1 + j) L H H' bs [] ∧
        σ' = [some (.ref sp), some (.int (most : Int)), some (.int (L : Int)), some (.int (1 + (j : Int))), some (.ref lb), some (.ref lw), some (.ref le), z7, some (.int (0 + (i : Nat))), some (.int (wV.length : Int)), some (.int way), some (.int (fi : Int)), some (.int (se : Int)), some (.ref D)], ?_, ?_⟩
      · refine ⟨.ref lw, rfl, _, rfl, Or.inl ⟨lw, wV4, _, _, rfl, rfl, SqL.of hwV4, atI_of x1, a1, u1, rfl, Or.inr (SqT.of z1), .ref lw, rfl, _, rfl, Or.inl ⟨lw, wV4, _, _, rfl, rfl, SqL.of hwV4, atI_of x2, a2, u2, rfl, Or.inr (SqT.of z2),
          Or.inl ⟨_, _, rfl, rfl, _, rfl, _, _, rfl, rfl, _, rfl, ite2 (fun _ => ?_) fun e => ?_⟩⟩⟩⟩
        · refine ⟨.ref sp, rfl, _, rfl, sp, _, rfl, hsm Wn, Wn.spr, by omega, by omega, fun fi Ha sa spra f0 f1 => ?_⟩
          obtain ⟨fi, rfl⟩ := Int.eq_ofNat_of_zero_le f0
          have We := on Wn sa spra
          refine ⟨.ref sp, rfl, _, rfl, sp, _, rfl, hsm We, We.spr, by omega, by omega, fun se Hb sb' sprb g0 g1 => ?_⟩
          obtain ⟨se, rfl⟩ := Int.eq_ofNat_of_zero_le g0
          have Wf := on We sb' sprb
          refine ⟨sz_of (by show 2 ≤ 100000; decide), fun p4 hp4 => ?_⟩
          refine ⟨p4, _, rfl, SqT.of upd_same, rfl, _, _, rfl, _, _, rfl, rfl, ?_⟩
          exact ⟨fi, se, [fi], [se], wordsOf_low (by omega), wordsOf_low (by omega), by show 1 + 1 ≤ L; omega, Wf.quiet (Sm.new (c := ct A) (M := []) (o := .tup [.int (fi : Int), .int (se : Int)]) hp4), rfl⟩
        · have e' : (u1.length : Int) + (u2.length : Int) ≤ (L : Int) := by simpa using e
          exact ⟨fi, se, w1, w2, y1, y2, by omega, Wn, rfl⟩
      clear x1 y1 z1 d1 m1 x2 y2 z2 d2 m2 hf hs
      rintro σ' Ho ⟨fi, se, w1, w2, y1, y2, hL, Wo, rfl⟩
      obtain ⟨bV5, hb5, db5⟩ := Wo.b
      obtain ⟨wV5, hw5, dw5⟩ := Wo.w
      have lw5 := Wo.len dw5
      have lb5 := db5.length
      rw [List.length_map] at lb5
      have p1 := lens_get Wo.ln y1
      have p2 := lens_get Wo.ln y2
      refine ⟨.ref lb, rfl, .ref lw, rfl, _, rfl, _, rfl, lb :: lw :: le :: M, lb, lw, fi, se, bV5, wV5, bs.map encB, wordsOf (1 + j) bs, w1, w2, rfl, hsm Wo, hM5 Wo, by simp, by simp, nbw, hb5, hw5, db5, dw5, y1, y2, p1.1, p2.1, by omega, by omega, by omega, fun v Hz bV' wV' sz hb' hw' db' dw' _ => ?_⟩
      exact ⟨bs ++ [(fi, se)], _, _, _, _, _, _, _, by rw [List.length_append, hb]; rfl, Wo.joined sz nbs nws nbe nwe hb' hw' db' dw' y1 y2 hL, rfl⟩
    -- the ends
    obtain ⟨bs, z7, z8, z9, z10, z11, z12, z13, hb, W6, rfl⟩ := hW
    have hX : ∀ Q' : VK, (∀ (cn : Int) (H7 : Hp), 1 ≤ cn → cn ≤ 12 → WebSt (ct A) M sp lb lw le (1 + j) L H H7 bs [] → Q' (.int cn) H7) →
        tIf (tTest (tOp (rEqG K) (tCall (sp_draw A) [] E0 (tCons (tVar 0) (tCons (tC (V.int 3)) tNil))) (tC (V.int 0)))) (tVar 3) (tOp (rAddG K) (tC (V.int 1)) (tCall (sp_draw A) [] E0 (tCons (tVar 0) (tCons (tC (V.int 5)) tNil))))
          [some (.ref sp), some (.int (most : Int)), some (.int (L : Int)), some (.int (1 + (j : Int))), some (.ref lb), some (.ref lw), some (.ref le), z7, z8, z9, z10, z11, z12, z13] H6 Q' := by
      intro Q' hq
      refine ⟨.ref sp, rfl, sp, _, rfl, hsm W6, W6.spr, by decide, by decide, fun v H7 s7 spr7 v0 v1 => ?_⟩
      have W7 := on W6 s7 spr7
      refine Or.inl ⟨rfl, _, rfl, ite2 (fun _ => ?_) fun _ => ?_⟩
      · exact ⟨_, rfl, hq _ _ (by omega) (by omega) W7⟩
      · exact ⟨.ref sp, rfl, sp, _, rfl, hsm W7, W7.spr, by decide, by decide, fun u H8 s8 spr8 u0 u1 => Or.inl ⟨_, _, rfl, rfl, hq _ _ (by omega) (by omega) (on W7 s8 spr8)⟩⟩
    refine hX _ fun cn H7 c1 c12 W7 => ?_
    clear hX W6
    refine ⟨_, rfl, by omega, by omega, L2.for_it (L2.walk_range (lo := 0) (n := cn.toNat)) (fun i σ' H' => ∃ es z8, es.length = i ∧ (∀ e ∈ es, e < 1 + j + bs.length) ∧ WebSt (ct A) M sp lb lw le (1 + j) L H H' bs es ∧
      σ' = [some (.ref sp), some (.int (most : Int)), some (.int (L : Int)), some (.int (1 + (j : Int))), some (.ref lb), some (.ref lw), some (.ref le), z7, z8, z9, z10, z11, z12, z13])
      ⟨[], _, rfl, nofun, W7, rfl⟩ (fun _ _ _ _ _ => trivial) (fun i x σ' H' H'' hi hW hY => ?_) (fun σ' H8 hW => ?_)⟩
    · obtain ⟨es, z8, he, hes, Wi, rfl⟩ := hW
      obtain ⟨rfl, rfl⟩ := hY
      obtain ⟨wV, hwV, dwV⟩ := Wi.w
      have lw' := Wi.len dwV
      obtain ⟨eV, heV, deV⟩ := Wi.e
      have le' := deV.length
      rw [List.length_map] at le'
      refine ⟨.ref le, rfl, Or.inl ⟨rfl, _, SqL.of heV⟩, .ref sp, rfl, .ref lw, rfl, lw, wV, rfl, Or.inl (SqL.of hwV), sp, _, rfl, hsm Wi, Wi.spr, by omega, by omega, fun d Ha sa spra f0 f1 => ?_⟩
      obtain ⟨d, rfl⟩ := Int.eq_ofNat_of_zero_le f0
      have Wa := on Wi sa spra
      obtain ⟨eV, heV, deV⟩ := Wa.e
      have le' := deV.length
      rw [List.length_map] at le'
      refine ⟨le, eV, _, rfl, rfl, heV, sz_lt (by omega), ?_⟩
      refine ⟨es ++ [d], _, by rw [List.length_append, he]; rfl, fun e h => ?_, Wa.more nbe nwe nes heV deV, rfl⟩
      rcases List.mem_append.mp h with z | z
      · exact hes e z
      · rw [List.mem_singleton.mp z]
        omega
    -- the net
    obtain ⟨es, z8, he, hes, W8, rfl⟩ := hW
    obtain ⟨bV, hb8, db8⟩ := W8.b
    obtain ⟨eV, he8, de8⟩ := W8.e
    refine ⟨_, rfl, .ref lb, rfl, lb, bV, rfl, Or.inl ⟨SqL.of hb8, fun pb hpb => ?_⟩⟩
    have sb8 : ∀ {N}, Sm (ct A) N H8 (upd H8 pb (.tup bV)) := Sm.new hpb
    have he9 : (upd H8 pb (.tup bV)) le = some (.lst eV) := by rw [upd_ne (ne_of_none he8 hpb)]; exact he8
    refine ⟨.ref le, rfl, le, eV, rfl, Or.inl ⟨SqL.of he9, fun pe hpe => ⟨sz_of (by show 3 ≤ 100000; decide), fun pn hpn => ?_⟩⟩⟩
    have se8 : ∀ {N}, Sm (ct A) N (upd H8 pb (.tup bV)) (upd (upd H8 pb (.tup bV)) pe (.tup eV)) := Sm.new hpe
    have sn8 : ∀ {N}, Sm (ct A) N (upd (upd H8 pb (.tup bV)) pe (.tup eV)) (upd (upd (upd H8 pb (.tup bV)) pe (.tup eV)) pn (.tup [.int (1 + (j : Int)), .ref pb, .ref pe])) := Sm.new hpn
    have hall : ∀ {N}, Sm (ct A) N H8 (upd (upd (upd H8 pb (.tup bV)) pe (.tup eV)) pn (.tup [.int (1 + (j : Int)), .ref pb, .ref pe])) := sb8.trans (se8.trans sn8)
    have hM8 : ∀ m ∈ M, H8 m ≠ none := fun m hm => W8.sm.st m (hM m hm)
    have sub8 : ∀ z ∈ M, z ∈ lb :: lw :: le :: M := fun z hz => List.mem_cons_of_mem _ (List.mem_cons_of_mem _ (List.mem_cons_of_mem _ hz))
    have d1 := dq_new hM8 hpb (db8.sub sub8)
    have d2 := dq_new (fun m hm => (sb8 (N := [])).st m (hM8 m hm)) hpe ((de8.sub sub8).sm sb8)
    have d3 := dq_new (fun m hm => (sb8.trans (se8 (N := []))).st m (hM8 m hm)) hpn (.three (.int (1 + (j : Int))) (d1.sm se8) d2)
    have flb : H lb = none := s02.fresh hlb
    have flw : H lw = none := s02.fresh ((sb (N := [])).fresh hlw)
    have fle : H le = none := s02.fresh ((sb (N := [])).fresh (s23.fresh hle))
    rw [← en] at d3
    exact q _ _ (1 + j) bs es ((((W8.sm.out flb).out flw).out fle).trans hall) (W8.spr.sm (c := ct A) (M := []) hall (fun z => nomatch z)) ⟨by omega, hj, by omega, by omega, by omega, W8.bo, hes⟩ W8.ln d3

/-- a further box of two wires -/
theorem jt_call {M : List Addr} {sp lb lw : Addr} {n i j : Nat} {bs : List (Nat × Nat)} {w1 w2 : List Nat} {H : Hp} {Q : VK} {E : XK} (gd : Gd (ct A) H) (hM : ∀ m ∈ M, H m ≠ none) (k : JC M sp lb lw) (x : JS M sp lb lw n H bs)
    (e1 : (wordsOf n bs)[i]? = some w1) (e2 : (wordsOf n bs)[j]? = some w2) (l1 : 1 ≤ w1.length) (l2 : 1 ≤ w2.length) (l3 : w1.length + w2.length ≤ 200) (l4 : n + bs.length ≤ 900) (dj : ∀ b, occ n bs b i + occ n bs b j ≤ 1)
    (q : ∀ H', Sm (ct A) [lb, lw] H H' → JS M sp lb lw n H' (bs ++ [(i, j)]) → (wordsOf n (bs ++ [(i, j)]))[n + bs.length]? = some (w1 ++ w2) → Q (.int ((n + bs.length : Nat) : Int)) H') :
    sp_joint A [.ref lb, .ref lw, .int (i : Int), .int (j : Int)] H Q E := by
  obtain ⟨bV, hb, db⟩ := x.b
  obtain ⟨wV, hw, dw⟩ := x.w
  have lw' := x.len dw
  have lb' := db.length
  rw [List.length_map] at lb'
  refine ⟨M, lb, lw, i, j, bV, wV, bs.map encB, wordsOf n bs, w1, w2, rfl, gd, hM, k.mb, k.mw, k.bw, hb, hw, db, dw, e1, e2, l1, l2, by omega, by omega, by omega, fun v H' bV' wV' s hb' hw' db' dw' ev => ?_⟩
  obtain ⟨y, z⟩ := x.joined k s hb' hw' db' dw' e1 e2 l1 l3 dj
  rw [ev, lw']
  exact q H' s y z
/-- one of the items of a tuple -/
def sp_pickT (K : PySem.W.Frag) (A : Ads) : Sp := fun vs H Q _ => ∃ (sp l : Addr) (xs : List V), vs = [.ref sp, .ref l] ∧ Gd (ct A) H ∧ Spr H sp ∧ H l = some (.tup xs) ∧ 0 < xs.length ∧ xs.length ≤ 1000000 ∧
  ∀ v H', Sm (ct A) [sp] H H' → Spr H' sp → v ∈ xs → Q v H'
theorem ok_pickT (T : Txt K mg A) : Df P w K mg base CX0 2 "_law_pick" A.a_pick ["spring", "some"] (sp_pickT K A) := by
  obtain ⟨fd, F, b⟩ := T.f_pick
  refine ⟨⟨fd, fnG_of F sc_pick (fun vs H Q E h => ?_) fun cdv A0 outer s H vs Q E hcd hr h => ?_, b, At.of F⟩, F.kp, T.g_pick⟩
  · obtain ⟨_, _, _, rfl, _⟩ := h
    rfl
  · obtain ⟨sp, l, xs, rfl, gd, hsp, hl, l0, l1, q⟩ := h
    have d_draw := ok_draw (P := P) (w := w) (base := base) T
    refine ⟨_, PSs.nox (pss_one (ps_ret (pe_ix (ix_K (K := K)) (pv 1) (pe_df d_draw hr (by decide) rfl pass0 (pa_cons (pv 0) (pa_cons (pe_callB (call_lenK (K := K)) (by rfl) T.z_len PySem.boot_len (pa_cons (pv 1) pa_nil)) pa_nil))) (fun _ _ => rfl)))), ?_⟩
    refine ⟨.ref l, rfl, .ref sp, rfl, .ref l, rfl, l, xs, rfl, Or.inr (SqT.of hl), sp, _, rfl, gd, hsp, by omega, by omega, fun d H1 s1 h1 d0 d1 => ?_⟩
    have nl : l ≠ sp := fun z => by
      obtain ⟨ys, e⟩ := hsp.some
      rw [z, e] at hl
      cases hl
    have e1 : H1 l = some (.tup xs) := s1.ex l _ (fun z => nl (List.mem_singleton.mp z)) hl nofun
    obtain ⟨j, rfl⟩ := Int.eq_ofNat_of_zero_le d0
    have hj : j < xs.length := by omega
    exact Or.inr (Or.inl ⟨l, xs, _, _, rfl, rfl, SqT.of e1, atI_of (List.getElem?_eq_getElem hj), q _ _ s1 h1 (List.getElem_mem hj)⟩)

def sp_padded (A : Ads) : Sp := fun vs H Q _ => ∃ (M : List Addr) (sp lb lw : Addr) (n i j l1 l2 : Nat) (bs : List (Nat × Nat)) (tone : V),
  vs = [.ref sp, .ref lb, .ref lw, .int (n : Int), .int (i : Int), .int (j : Int), tone] ∧ Gd (ct A) H ∧ (∀ m ∈ M, H m ≠ none) ∧ JC M sp lb lw ∧ JS M sp lb lw n H bs ∧ 1 ≤ n ∧ n ≤ 12 ∧ bs.length ≤ 60 ∧ ToneV tone ∧
  Wr n bs i l1 ∧ Wr n bs j l2 ∧ l1 + l2 ≤ 192 ∧ (∀ b, occ n bs b i + occ n bs b j ≤ 1) ∧
  ∀ p H' more i' j' l1' l2', Sm (ct A) [lb, lw, sp] H H' → JS M sp lb lw n H' (bs ++ more) → (more.length = 0 ∨ (bs.length < 16 ∧ more.length ≤ 8)) → H' p = some (.tup [.int ((i' : Nat) : Int), .int ((j' : Nat) : Int)]) →
    Wr n (bs ++ more) i' l1' → Wr n (bs ++ more) j' l2' → l1' + l2' ≤ l1 + l2 + 8 → l1' + l2' ≤ 200 → (∀ b, occ n (bs ++ more) b i' + occ n (bs ++ more) b j' ≤ occ n bs b i + occ n bs b j + newI bs.length (bs ++ more).length b) → Q (.ref p) H'
theorem ok_padded (T : Txt K mg A) : Df P w K mg base CX0 3 "_law_padded" A.a_padded ["spring", "boxes", "words", "size", "first", "second", "tone"] (sp_padded A) := by
  obtain ⟨fd, F, b⟩ := T.f_padded
  refine ⟨⟨fd, fnG_of F sc_padded (fun vs H Q E h => ?_) fun cdv A0 outer s H vs Q E hcd hr h => ?_, b, At.of F⟩, F.kp, T.g_padded⟩
  · obtain ⟨_, _, _, _, _, _, _, _, _, _, _, rfl, _⟩ := h
    rfl
  · obtain ⟨M, sp, lb, lw, n, i, j, l1, l2, bs, tone, rfl, gd, hM, jc, js, n1, n12, b60, tv, w1, w2, l12, dj, q⟩ := h
    have d_draw := ok_draw (P := P) (w := w) (base := base) T
    have d_pick := ok_pickT (P := P) (w := w) (base := base) T
    have d_joint := ok_joint (P := P) (w := w) (base := base) T
    refine ⟨_, PSs.nox (pss_cons (ps_if (PW.pt (pw_or (pt_cmpR op_ge (pe_callB (call_lenK (K := K)) (by rfl) T.z_len PySem.boot_len (pa_cons (pv 1) pa_nil)) pe_int (nomark _)) (pw_or (pt_cmpR (op_eqK (K := K) hr) (pv 6) pe_str (nomark _)) (pw_or (pt_cmpR (op_eqK (K := K) hr) (pv 6) pe_str (nomark _)) (pw_or1 (pt_cmpR op_gt (pe_df d_draw hr (by decide) rfl pass0 (pa_cons (pv 0) (pa_cons pe_int pa_nil))) pe_int (nomark _)))))))
        (pss_one (ps_ret (pe_tup (pa_cons (pv 4) (pa_cons (pv 5) pa_nil)))))
        pss_nil)
        (pss_cons (ps_if (pt_cmpR (op_eqK (K := K) hr) (pv 6) pe_str (nomark _))
        (pss_one (ps_ret (pe_tup (pa_cons (pe_df d_joint hr (by decide) rfl pass0 (pa_cons (pv 1) (pa_cons (pv 2) (pa_cons (pv 4) (pa_cons (pe_df d_pick hr (by decide) rfl pass0 (pa_cons (pv 0) (pa_cons (pe_ix (ix_K (K := K)) (pv 2) (pv 4) (fun _ _ => rfl)) pa_nil))) pa_nil))))) (pa_cons (pv 5) pa_nil)))))
        pss_nil)
        (pss_cons (ps_if (pt_cmpR (op_eqK (K := K) hr) (pv 6) pe_str (nomark _))
        (pss_one (ps_ret (pe_tup (pa_cons (pv 4) (pa_cons (pe_df d_joint hr (by decide) rfl pass0 (pa_cons (pv 1) (pa_cons (pv 2) (pa_cons (pe_df d_pick hr (by decide) rfl pass0 (pa_cons (pv 0) (pa_cons (pe_ix (ix_K (K := K)) (pv 2) (pv 5) (fun _ _ => rfl)) pa_nil))) (pa_cons (pv 5) pa_nil))))) pa_nil)))))
        pss_nil)
        (pss_cons (ps_if (pt_cmpR (op_eqK (K := K) hr) (pv 6) pe_str (nomark _))
        (pss_one (ps_ret (pe_tup (pa_cons (pe_df d_joint hr (by decide) rfl pass0 (pa_cons (pv 1) (pa_cons (pv 2) (pa_cons (pv 4) (pa_cons (pe_df d_pick hr (by decide) rfl pass0 (pa_cons (pv 0) (pa_cons (pe_op (op_addK (K := K)) (pe_ix (ix_K (K := K)) (pv 2) (pv 4) (fun _ _ => rfl)) (pe_ix (ix_K (K := K)) (pv 2) (pv 5) (fun _ _ => rfl))) pa_nil))) pa_nil))))) (pa_cons (pv 5) pa_nil)))))
        pss_nil)
        (pss_cons (ps_set (i := 7) sc_padded.nd rfl (Or.inl rfl) (pe_df d_draw hr (by decide) rfl pass0 (pa_cons (pv 0) (pa_cons (pv 3) pa_nil))))
        (pss_cons (ps_for PassesOwn.never rfl (pi_range1 (by rfl) T.z_range (pa_cons (pe_ifExp (pt_cmpR (op_eqK (K := K) hr) (pv 6) pe_str (nomark _)) pe_int (pv 6)) pa_nil)) (pg_name (i := 8) sc_padded.nd rfl (Or.inl rfl))
        (pss_one (ps_set (i := 4) sc_padded.nd rfl (Or.inl rfl) (pe_df d_joint hr (by decide) rfl pass0 (pa_cons (pv 1) (pa_cons (pv 2) (pa_cons (pv 4) (pa_cons (pv 7) pa_nil))))))))
        (pss_one (ps_ret (pe_tup (pa_cons (pv 4) (pa_cons (pv 5) pa_nil))))))))))), ?_⟩
    obtain ⟨bV, hbV, dbV⟩ := js.b
    have lbV := dbV.length
    rw [List.length_map] at lbV
    -- as they are
    have plain : ∀ {H1 : Hp}, Sm (ct A) [sp] H H1 → Spr H1 sp → ∀ p, H1 p = none → Q (.ref p) (upd H1 p (.tup [.int (i : Int), .int (j : Int)])) := fun {H1} s1 spr1 p hp => by
      have s1' : Sm (ct A) [lb, lw, sp] H H1 := s1.sub fun z hz => sub_s3 hz
      have js1 := js.on jc s1 spr1
      have e : bs ++ [] = bs := List.append_nil _
      refine q p _ [] i j l1 l2 (s1'.trans (Sm.new hp)) ?_ (Or.inl rfl) upd_same ?_ ?_ (by omega) (by omega) (fun b => by rw [e]; exact Nat.le_add_right _ _)
      · rw [e]
        exact js1.quiet (Sm.new (c := ct A) hp)
      · rw [e]; exact w1
      · rw [e]; exact w2
    refine ⟨.ref lb, rfl, lb, bV, rfl, Or.inl (SqL.of hbV), _, _, rfl, rfl, _, rfl, ite2 (fun _ => ?_) fun e16 => ?_⟩
    · exact ite2 (fun _ => ⟨_, rfl, _, rfl, sz_of (by show 2 ≤ 100000; decide), fun p hp => plain Sm.refl js.spr p hp⟩) fun e => absurd rfl e
    have b16 : bs.length < 16 := by
      have := Int.not_le.mp fun z => e16 (decide_eq_true z)
      omega
    refine ⟨tone, rfl, Or.inl ⟨tv.scal _, _, rfl, ite2 (fun _ => ?_) fun e1 => ?_⟩⟩
    · exact ite2 (fun _ => ⟨_, rfl, _, rfl, sz_of (by show 2 ≤ 100000; decide), fun p hp => plain Sm.refl js.spr p hp⟩) fun e => absurd rfl e
    refine ⟨tone, rfl, Or.inl ⟨tv.scal _, _, rfl, ite2 (fun _ => ?_) fun e2 => ?_⟩⟩
    · exact ite2 (fun _ => ⟨_, rfl, _, rfl, sz_of (by show 2 ≤ 100000; decide), fun p hp => plain Sm.refl js.spr p hp⟩) fun e => absurd rfl e
    refine ⟨.ref sp, rfl, sp, _, rfl, gd, js.spr, by decide, by decide, fun d H1 s1 spr1 d0 d1 => ⟨_, _, rfl, rfl, _, rfl, ite2 (fun _ => ?_) fun _ => ?_⟩⟩
    · exact ⟨_, rfl, _, rfl, sz_of (by show 2 ≤ 100000; decide), fun p hp => plain s1 spr1 p hp⟩
    have js1 := js.on jc s1 spr1
    have s1' : Sm (ct A) [lb, lw, sp] H H1 := s1.sub fun z hz => sub_s3 hz
    have gd1 := s1.gd gd
    have hM1 : ∀ m ∈ M, H1 m ≠ none := fun m hm => s1.st m (hM m hm)
    obtain ⟨u1, g1, p1, q1⟩ := id w1
    obtain ⟨u2, g2, p2, q2⟩ := id w2
    have lwo := wordsOf_len n bs
    have hent := wordsOf_ent n bs
    -- one more box on either side
    have oneL : ∀ {H2 : Hp} {k : Nat}, Sm (ct A) [lb, lw, sp] H H2 → JS M sp lb lw n H2 bs → k < n → ∀ (E' : XK) (QQ : VK), (∀ (y : Nat) H3, (∀ p, H3 p = none → Q (.ref p) (upd H3 p (.tup [.int (y : Int), .int (j : Int)]))) → QQ (.int (y : Int)) H3) →
        sp_joint A [.ref lb, .ref lw, .int (i : Int), .int (k : Int)] H2 QQ E' := fun {H2 k} s2 js2 hk E' QQ hQ => by
      refine jt_call (s2.gd gd) (fun m hm => s2.st m (hM m hm)) jc js2 g1 (wordsOf_low hk) p1 (Nat.le_refl _) (by show u1.length + 1 ≤ 200; omega) (by omega) (fun b => by rw [occ_low hk]; have := dj b; omega) fun H3 s3 js3 g3 => hQ _ _ fun p hp => ?_
      refine q p _ [(i, k)] (n + bs.length) j (l1 + 1) l2 ((s2.trans (s3.sub fun z hz => sub_23 hz)).trans (Sm.new hp)) (js3.quiet (Sm.new (c := ct A) hp)) (Or.inr ⟨b16, by show 1 ≤ 8; decide⟩) upd_same ⟨_, g3, by rw [List.length_append]; omega, by rw [List.length_append]; show u1.length + 1 ≤ l1 + 1; omega⟩ (w2.more _) (by omega) (by omega) (occ_stepL hk w2.lt)
    have oneR : ∀ {H2 : Hp} {k : Nat}, Sm (ct A) [lb, lw, sp] H H2 → JS M sp lb lw n H2 bs → k < n → ∀ (E' : XK) (QQ : VK), (∀ (y : Nat) H3, (∀ p, H3 p = none → Q (.ref p) (upd H3 p (.tup [.int (i : Int), .int (y : Int)]))) → QQ (.int (y : Int)) H3) →
        sp_joint A [.ref lb, .ref lw, .int (k : Int), .int (j : Int)] H2 QQ E' := fun {H2 k} s2 js2 hk E' QQ hQ => by
      refine jt_call (s2.gd gd) (fun m hm => s2.st m (hM m hm)) jc js2 (wordsOf_low hk) g2 (Nat.le_refl _) p2 (by show 1 + u2.length ≤ 200; omega) (by omega) (fun b => by rw [occ_low hk]; have := dj b; omega) fun H3 s3 js3 g3 => hQ _ _ fun p hp => ?_
      refine q p _ [(k, j)] i (n + bs.length) l1 (l2 + 1) ((s2.trans (s3.sub fun z hz => sub_23 hz)).trans (Sm.new hp)) (js3.quiet (Sm.new (c := ct A) hp)) (Or.inr ⟨b16, by show 1 ≤ 8; decide⟩) upd_same (w1.more _) ⟨_, g3, by rw [List.length_append]; omega, by rw [List.length_append]; show 1 + u2.length ≤ l2 + 1; omega⟩ (by omega) (by omega) (occ_stepR hk w1.lt)
    -- the words of both
    obtain ⟨wV, hwV, dwV⟩ := js1.w
    obtain ⟨a1, t1, x1, k1, y1, -, z1, d1, m1⟩ := word_get (i := i) dwV (by rw [lwo]; exact w1.lt)
    obtain ⟨a2, t2, x2, k2, y2, -, z2, d2, m2⟩ := word_get (i := j) dwV (by rw [lwo]; exact w2.lt)
    cases g1.symm.trans y1
    cases g2.symm.trans y2
    have v1 := nats_inv d1
    have v2 := nats_inv d2
    subst v1
    subst v2
    have place : ∀ {v : V} {w : List Nat}, w ∈ wordsOf n bs → v ∈ w.map (fun x : Nat => V.int (x : Int)) → ∃ k : Nat, v = .int (k : Int) ∧ k < n := fun hw hv => by
      obtain ⟨k, hk, rfl⟩ := List.mem_map.mp hv
      exact ⟨k, rfl, hent _ hw k hk⟩
    -- first
    refine ⟨tone, rfl, Or.inl ⟨tv.scal _, _, rfl, ite2 (fun _ => ?_) fun e3 => ?_⟩⟩
    · refine ⟨.ref lb, rfl, .ref lw, rfl, _, rfl, .ref sp, rfl, .ref lw, rfl, _, rfl, Or.inl ⟨lw, wV, _, _, rfl, rfl, SqL.of hwV, atI_of k1, sp, a1, _, rfl, gd1, spr1, z1, by omega, by omega, fun v H2 s2 spr2 hv => ?_⟩⟩
      obtain ⟨k, rfl, hk⟩ := place (List.mem_of_getElem? y1) hv
      exact oneL (s1'.trans (s2.sub fun z hz => sub_s3 hz)) (js1.on jc s2 spr2) hk E0 _ fun y H3 h => ⟨_, rfl, sz_of (by show 2 ≤ 100000; decide), h⟩
    -- last
    refine ⟨tone, rfl, Or.inl ⟨tv.scal _, _, rfl, ite2 (fun _ => ?_) fun e4 => ?_⟩⟩
    · refine ⟨_, rfl, .ref lb, rfl, .ref lw, rfl, .ref sp, rfl, .ref lw, rfl, _, rfl, Or.inl ⟨lw, wV, _, _, rfl, rfl, SqL.of hwV, atI_of k2, sp, a2, _, rfl, gd1, spr1, z2, by omega, by omega, fun v H2 s2 spr2 hv => ⟨_, rfl, ?_⟩⟩⟩
      obtain ⟨k, rfl, hk⟩ := place (List.mem_of_getElem? y2) hv
      exact oneR (s1'.trans (s2.sub fun z hz => sub_s3 hz)) (js1.on jc s2 spr2) hk E0 _ fun y H3 h => ⟨sz_of (by show 2 ≤ 100000; decide), h⟩
    -- sets
    refine ⟨tone, rfl, Or.inl ⟨tv.scal _, _, rfl, ite2 (fun _ => ?_) fun e5 => ?_⟩⟩
    · refine ⟨.ref lb, rfl, .ref lw, rfl, _, rfl, .ref sp, rfl, .ref lw, rfl, _, rfl, Or.inl ⟨lw, wV, _, _, rfl, rfl, SqL.of hwV, atI_of k1, .ref lw, rfl, _, rfl, Or.inl ⟨lw, wV, _, _, rfl, rfl, SqL.of hwV, atI_of k2, ?_⟩⟩⟩
      refine Or.inr (Or.inr (Or.inl ⟨a1, a2, _, _, rfl, rfl, SqT.of z1, SqT.of z2, sz_of (by omega), fun z => ?_, fun _ z => ?_, fun _ _ p hp => ?_⟩))
      · rw [z] at m1
        simp at m1
        omega
      · rw [z] at m2
        simp at m2
        omega
      have sp0 : ∀ {N}, Sm (ct A) N H1 (upd H1 p (.tup (u1.map (fun x : Nat => V.int (x : Int)) ++ u2.map (fun x : Nat => V.int (x : Int))))) := Sm.new hp
      refine ⟨sp, p, _, rfl, (sp0 (N := [])).gd gd1, spr1.sm (c := ct A) (M := []) sp0 (fun z => nomatch z), upd_same, by rw [List.length_append]; omega, by rw [List.length_append]; omega, fun v H2 s2 spr2 hv => ?_⟩
      obtain ⟨k, rfl, hk⟩ : ∃ k : Nat, v = .int (k : Int) ∧ k < n := by
        rcases List.mem_append.mp hv with z | z
        · exact place (List.mem_of_getElem? y1) z
        · exact place (List.mem_of_getElem? y2) z
      exact oneL (s1'.trans (sp0.trans (s2.sub fun z hz => sub_s3 hz))) ((js1.quiet (sp0 (N := []))).on jc s2 spr2) hk E0 _ fun y H3 h => ⟨_, rfl, sz_of (by show 2 ≤ 100000; decide), h⟩
    -- a place, over and over
    refine ⟨.ref sp, rfl, _, rfl, sp, _, rfl, gd1, spr1, by omega, by omega, fun pl H2 s2 spr2 pl0 pl1 => ?_⟩
    obtain ⟨pl, rfl⟩ := Int.eq_ofNat_of_zero_le pl0
    have js2 := js1.on jc s2 spr2
    have s2' : Sm (ct A) [lb, lw, sp] H H2 := s1'.trans (s2.sub fun z hz => sub_s3 hz)
    have hX : ∀ Q' : VK, (∀ m : Nat, m ≤ 8 → Q' (.int (m : Int)) H2) → tIf (tTest (tOp (rEqG K) (tVar 6) (tC (V.str "ends")))) (tC (V.int 1)) (tVar 6)
        [some (.ref sp), some (.ref lb), some (.ref lw), some (.int (n : Int)), some (.int (i : Int)), some (.int (j : Int)), some tone, some (.int (pl : Int)), none] H2 Q' := by
      intro Q' hq
      refine ⟨tone, rfl, Or.inl ⟨tv.scal _, _, rfl, ite2 (fun _ => hq 1 (by decide)) fun e6 => ?_⟩⟩
      obtain ⟨m, em, hm⟩ := tv.num e1 e2 e3 e4 e5 e6
      exact ⟨tone, rfl, by rw [em]; exact hq m hm⟩
    refine hX _ fun m hm => ?_
    clear hX
    refine ⟨_, rfl, by omega, by omega, L2.for_it (L2.walk_range (lo := 0) (n := (m : Int).toNat)) (fun t σ' H' => ∃ z8 more i', (∀ b, occ n (bs ++ more) b i' ≤ occ n bs b i + newI bs.length (bs ++ more).length b) ∧ more.length = t ∧ σ' = [some (.ref sp), some (.ref lb), some (.ref lw), some (.int (n : Int)), some (.int ((i' : Nat) : Int)), some (.int (j : Int)), some tone, some (.int (pl : Int)), z8] ∧
      Sm (ct A) [lb, lw, sp] H H' ∧ JS M sp lb lw n H' (bs ++ more) ∧ Wr n (bs ++ more) i' (l1 + t)) ⟨_, [], i, fun b => by rw [List.append_nil]; exact Nat.le_add_right _ _, rfl, rfl, s2', by rw [List.append_nil]; exact js2, by rw [List.append_nil]; exact w1⟩ (fun _ _ _ _ _ => trivial) (fun t x σ' H' H'' ht hW hY => ?_) (fun σ' H3 hW => ?_)⟩
    · obtain ⟨z8, more, i', hO, hmo, rfl, sW, jsW, wW⟩ := hW
      obtain ⟨rfl, rfl⟩ := hY
      obtain ⟨w, gw, pw, qw⟩ := id wW
      refine ⟨.ref lb, rfl, .ref lw, rfl, _, rfl, _, rfl, jt_call (E := E0) (sW.gd gd) (fun m hm => sW.st m (hM m hm)) jc jsW gw (wordsOf_low (by omega)) pw (Nat.le_refl _) (by show w.length + 1 ≤ 200; omega) (by rw [List.length_append]; omega) (fun b => by rw [occ_low (show pl < n by omega)]; have := jsW.li.one (b := b) (i := i'); omega) fun H3 s3 js3 g3 => ?_⟩
      rw [List.append_assoc] at js3 g3
      refine ⟨_, more ++ [(i', pl)], n + (bs ++ more).length, fun b => ?_, by rw [List.length_append, hmo]; rfl, rfl, sW.trans (s3.sub fun z hz => sub_23 hz), js3, ⟨_, g3, by rw [List.length_append]; omega, by rw [List.length_append]; show w.length + 1 ≤ l1 + (t + 1); omega⟩⟩
      rw [← List.append_assoc, occ_new, occ_low (show pl < n by omega), app1_len]
      have h1 := hO b
      have h2 := newI_grow (a := bs.length) (c := (bs ++ more).length) (b := b) (by rw [List.length_append]; omega)
      omega
    · obtain ⟨z8, more, i', hO, hmo, rfl, sW, jsW, wW⟩ := hW
      refine ⟨_, rfl, _, rfl, sz_of (by show 2 ≤ 100000; decide), fun p hp => ?_⟩
      exact q p _ more i' j (l1 + (m : Int).toNat) l2 (sW.trans (Sm.new hp)) (jsW.quiet (Sm.new (c := ct A) hp)) (Or.inr ⟨b16, by omega⟩) upd_same wW (w2.more _) (by omega) (by omega) (fun b => by have := hO b; rw [occ_more more w2.lt]; omega)

def sp_led (A : Ads) : Sp := fun vs H Q _ => ∃ (M : List Addr) (sp lb lw : Addr) (n i j l1 l2 : Nat) (bs : List (Nat × Nat)) (tone : V),
  vs = [.ref sp, .ref lb, .ref lw, .int (n : Int), .int (i : Int), .int (j : Int), tone] ∧ Gd (ct A) H ∧ (∀ m ∈ M, H m ≠ none) ∧ JC M sp lb lw ∧ JS M sp lb lw n H bs ∧ 1 ≤ n ∧ n ≤ 12 ∧ bs.length ≤ 60 ∧ ToneV tone ∧
  Wr n bs i l1 ∧ Wr n bs j l2 ∧ l1 + l2 ≤ 192 ∧ (∀ b, occ n bs b i + occ n bs b j ≤ 1) ∧
  ∀ (r : Nat) H' more, Sm (ct A) [lb, lw, sp] H H' → JS M sp lb lw n H' (bs ++ more) → (bs ++ more).length ≤ max bs.length 24 + 1 → Wr n (bs ++ more) r (l1 + l2 + 8) → (∀ b, occ n (bs ++ more) b r ≤ occ n bs b i + occ n bs b j + newI bs.length (bs ++ more).length b) → Q (.int (r : Int)) H'
theorem ok_led (T : Txt K mg A) : Df P w K mg base CX0 4 "_law_led" A.a_led ["spring", "boxes", "words", "size", "first", "second", "tone"] (sp_led A) := by
  obtain ⟨fd, F, b⟩ := T.f_led
  refine ⟨⟨fd, fnG_of F sc_led (fun vs H Q E h => ?_) fun cdv A0 outer s H vs Q E hcd hr h => ?_, b, At.of F⟩, F.kp, T.g_led⟩
  · obtain ⟨_, _, _, _, _, _, _, _, _, _, _, rfl, _⟩ := h
    rfl
  · obtain ⟨M, sp, lb, lw, n, i, j, l1, l2, bs, tone, rfl, gd, hM, jc, js, n1, n12, b60, tv, w1, w2, l12, dj, q⟩ := h
    have d_draw := ok_draw (P := P) (w := w) (base := base) T
    have d_padded := ok_padded (P := P) (w := w) (base := base) T
    have d_joint := ok_joint (P := P) (w := w) (base := base) T
    refine ⟨_, PSs.nox (pss_cons (ps_asg (pe_df d_padded hr (by decide) rfl pass0 (pa_cons (pv 0) (pa_cons (pv 1) (pa_cons (pv 2) (pa_cons (pv 3) (pa_cons (pv 4) (pa_cons (pv 5) (pa_cons (pv 6) pa_nil)))))))) (pg_tup rfl (pgs_cons (pg_name (i := 4) sc_led.nd rfl (Or.inl rfl)) (pgs_cons (pg_name (i := 5) sc_led.nd rfl (Or.inl rfl)) pgs_nil))))
        (C8.pss_cut (ps_if (PW.pt (pw_and (pt_cmpR (op_notInK (K := K)) (pv 6) (pe_lst (pa_cons pe_str (pa_cons pe_str (pa_cons pe_str (pa_cons pe_str pa_nil))))) (by rfl)) (pw_and1 (pt_cmpR (op_eqK (K := K) hr) (pe_df d_draw hr (by decide) rfl pass0 (pa_cons (pv 0) (pa_cons pe_int pa_nil))) pe_int (nomark _)))))
        (pss_one (ps_par (i := 4) (j := 5) rfl sc_led.nd rfl rfl (by decide) rfl rfl (pa_cons (pv 5) (pa_cons (pv 4) pa_nil)) (by rfl)))
        pss_nil)
        (pss_one (ps_ret (pe_df d_joint hr (by decide) rfl pass0 (pa_cons (pv 1) (pa_cons (pv 2) (pa_cons (pv 4) (pa_cons (pv 5) pa_nil))))))))), ?_⟩
    refine ⟨.ref sp, rfl, .ref lb, rfl, .ref lw, rfl, _, rfl, _, rfl, _, rfl, tone, rfl, M, sp, lb, lw, n, i, j, l1, l2, bs, tone, rfl, gd, hM, jc, js, n1, n12, b60, tv, w1, w2, l12, dj, fun p H1 more i' j' l1' l2' s1 js1 hmo hp w1' w2' l12' l900 hO => ?_⟩
    refine ⟨p, _, rfl, SqT.of hp, rfl, _, _, rfl, _, _, rfl, rfl, ?_⟩
    have hM1 : ∀ m ∈ M, H1 m ≠ none := fun m hm => s1.st m (hM m hm)
    refine ⟨fun σ' H' => ∃ i' j' l1' l2' : Nat, σ' = [some (.ref sp), some (.ref lb), some (.ref lw), some (.int (n : Int)), some (.int (i' : Int)), some (.int (j' : Int)), some tone] ∧ Sm (ct A) [lb, lw, sp] H H' ∧ JS M sp lb lw n H' (bs ++ more) ∧
      Wr n (bs ++ more) i' l1' ∧ Wr n (bs ++ more) j' l2' ∧ l1' + l2' ≤ l1 + l2 + 8 ∧ l1' + l2' ≤ 200 ∧ ∀ b, occ n (bs ++ more) b i' + occ n (bs ++ more) b j' ≤ occ n bs b i + occ n bs b j + newI bs.length (bs ++ more).length b, ?_, ?_⟩
    · refine ⟨tone, rfl, sz_of (by show 4 ≤ 100000; decide), fun p2 hp2 => ⟨p2, _, rfl, Or.inl (SqL.of upd_same), tv.flat, rfl, _, rfl, ite2 (fun _ => ?_) fun _ => ?_⟩⟩
      · have s2 : ∀ {N}, Sm (ct A) N H1 (upd H1 p2 (.lst [.str "any", .str "first", .str "last", .str "ends"])) := Sm.new hp2
        have js2 := js1.quiet (s2 (N := []))
        refine ⟨.ref sp, rfl, sp, _, rfl, (s1.trans s2).gd gd, js2.spr, by decide, by decide, fun d H3 s3 spr3 d0 d1 => Or.inl ⟨rfl, _, rfl, ite2 (fun _ => ?_) fun _ => ?_⟩⟩
        · exact ⟨_, rfl, _, rfl, _, _, rfl, j', i', l2', l1', rfl, (s1.trans s2).trans (s3.sub fun z hz => sub_s3 hz), js2.on jc s3 spr3, w2', w1', by omega, by omega, fun b => by have := hO b; omega⟩
        · exact ⟨i', j', l1', l2', rfl, (s1.trans s2).trans (s3.sub fun z hz => sub_s3 hz), js2.on jc s3 spr3, w1', w2', l12', l900, hO⟩
      · exact ⟨i', j', l1', l2', rfl, s1.trans (Sm.new hp2), js1.quiet (Sm.new (c := ct A) hp2), w1', w2', l12', l900, hO⟩
    clear hp w1' w2' l12' l900 js1 s1 hM1 hO
    rintro σ' H2 ⟨i', j', l1', l2', rfl, s2, js2, ⟨u1, g1, p1, q1⟩, ⟨u2, g2, p2, q2⟩, l12', l900, hO⟩
    refine ⟨.ref lb, rfl, .ref lw, rfl, _, rfl, _, rfl, jt_call (E := E0) (s2.gd gd) (fun m hm => s2.st m (hM m hm)) jc js2 g1 g2 p1 p2 (by omega) (by rw [List.length_append]; omega) (apart (x := 0) js.li dj hO) fun H3 s3 js3 g3 => ?_⟩
    rw [List.append_assoc] at js3 g3
    refine q _ H3 (more ++ [(i', j')]) (s2.trans (s3.sub fun z hz => sub_23 hz)) js3 ?_ ⟨_, g3, by rw [List.length_append]; omega, by rw [List.length_append]; omega⟩ fun b => ?_
    · rw [List.length_append, List.length_append]
      show bs.length + (more.length + 1) ≤ _
      omega
    · rw [← List.append_assoc, occ_new, app1_len]
      have h1 := hO b
      have h2 := newI_grow (a := bs.length) (c := (bs ++ more).length) (b := b) (by rw [List.length_append]; omega)
      omega
/-- wires to be joined behind one another, and how long their words are at most -/
def PartsOk (n : Nat) (bs : List (Nat × Nat)) (ps : List (Nat × Nat)) : Prop := ∀ p ∈ ps, Wr n bs p.1 p.2
def sumL (ps : List (Nat × Nat)) : Nat := (ps.map Prod.snd).sum
theorem sumL_join {ps : List (Nat × Nat)} {k : Nat} {a b : Nat × Nat} {r l : Nat} (h1 : ps[k]? = some a) (h2 : ps[k + 1]? = some b) : sumL (ps.take k ++ [(r, l)] ++ ps.drop (k + 2)) + a.2 + b.2 = sumL ps + l := by
  have e : ps = ps.take k ++ (a :: b :: ps.drop (k + 2)) := by
    have i2 := (List.getElem?_eq_some_iff.mp h2).1
    have e1 : ps.drop k = a :: ps.drop (k + 1) := by
      rw [List.drop_eq_getElem_cons (by omega)]
      rw [(List.getElem?_eq_some_iff.mp h1).2]
    have e2 : ps.drop (k + 1) = b :: ps.drop (k + 2) := by
      rw [List.drop_eq_getElem_cons i2]
      rw [(List.getElem?_eq_some_iff.mp h2).2]
    rw [← e2, ← e1, List.take_append_drop]
  have key : ∀ (x y : List (Nat × Nat)), sumL (x ++ y) = sumL x + sumL y := fun x y => by
    unfold sumL
    rw [List.map_append, List.sum_append]
  rw [key, key]
  conv => rhs; rw [e, key]
  unfold sumL
  simp only [List.map_cons, List.map_nil, List.sum_cons, List.sum_nil]
  omega
def sumO (n : Nat) (bs : List (Nat × Nat)) (b : Nat) (ps : List (Nat × Nat)) : Nat := (ps.map fun p => occ n bs b p.1).sum
theorem sumF_join (f : Nat × Nat → Nat) {ps : List (Nat × Nat)} {k : Nat} {a b x : Nat × Nat} (h1 : ps[k]? = some a) (h2 : ps[k + 1]? = some b) : ((ps.take k ++ [x] ++ ps.drop (k + 2)).map f).sum + f a + f b = (ps.map f).sum + f x := by
  have e : ps = ps.take k ++ (a :: b :: ps.drop (k + 2)) := by
    have i2 := (List.getElem?_eq_some_iff.mp h2).1
    have e1 : ps.drop k = a :: ps.drop (k + 1) := by
      rw [List.drop_eq_getElem_cons (by omega)]
      rw [(List.getElem?_eq_some_iff.mp h1).2]
    have e2 : ps.drop (k + 1) = b :: ps.drop (k + 2) := by
      rw [List.drop_eq_getElem_cons i2]
      rw [(List.getElem?_eq_some_iff.mp h2).2]
    rw [← e2, ← e1, List.take_append_drop]
  conv => rhs; rw [e]
  simp only [List.map_append, List.sum_append, List.map_cons, List.map_nil, List.sum_cons, List.sum_nil]
  omega
theorem sumO_more {n b : Nat} {bs more : List (Nat × Nat)} : ∀ {ps : List (Nat × Nat)}, PartsOk n bs ps → sumO n (bs ++ more) b ps = sumO n bs b ps
  | [], _ => rfl
  | p :: r, h => by
    have ih := sumO_more (more := more) (b := b) (ps := r) fun x hx => h x (List.mem_cons_of_mem _ hx)
    unfold sumO at ih ⊢
    rw [List.map_cons, List.map_cons, List.sum_cons, List.sum_cons, ih, occ_more more (h p List.mem_cons_self).lt]
theorem sumO_zero {n b : Nat} {bs : List (Nat × Nat)} (l : Lin n bs) (hb : bs.length ≤ b) : ∀ ps : List (Nat × Nat), sumO n bs b ps = 0
  | [] => rfl
  | p :: r => by
    have ih := sumO_zero l hb r
    unfold sumO at ih ⊢
    rw [List.map_cons, List.sum_cons, ih, l.zero hb]
theorem sumO_two {n b k : Nat} {bs ps : List (Nat × Nat)} {x y : Nat × Nat} (h1 : ps[k]? = some x) (h2 : ps[k + 1]? = some y) : occ n bs b x.1 + occ n bs b y.1 ≤ sumO n bs b ps := by
  have := sumF_join (fun p => occ n bs b p.1) (x := (0, 0)) h1 h2
  have e : ((ps.take k ++ [((0 : Nat), (0 : Nat))] ++ ps.drop (k + 2)).map fun p => occ n bs b p.1).sum = ((ps.take k).map fun p => occ n bs b p.1).sum + (occ n bs b 0 + ((ps.drop (k + 2)).map fun p => occ n bs b p.1).sum) := by
    simp only [List.map_append, List.sum_append, List.map_cons, List.map_nil, List.sum_cons, List.sum_nil]
    omega
  unfold sumO
  dsimp only at this
  omega
def sp_parts (A : Ads) : Sp := fun vs H Q _ => ∃ (M : List Addr) (sp lb lw lp : Addr) (n : Nat) (bs ps : List (Nat × Nat)) (tone : V),
  vs = [.ref sp, .ref lb, .ref lw, .int (n : Int), .ref lp, tone] ∧ Gd (ct A) H ∧ (∀ m ∈ M, H m ≠ none) ∧ JC M sp lb lw ∧ JS M sp lb lw n H bs ∧ 1 ≤ n ∧ n ≤ 12 ∧ bs.length ≤ 46 ∧ ToneV tone ∧
  H lp = some (.lst (ps.map fun p => V.int ((p.1 : Nat) : Int))) ∧ lp ∉ M ∧ 1 ≤ ps.length ∧ ps.length ≤ 12 ∧ PartsOk n bs ps ∧ sumL ps + 8 * ps.length ≤ 190 ∧ (∀ b, sumO n bs b ps ≤ 1) ∧
  ∀ (r : Nat) H' more, Sm (ct A) [lb, lw, sp] H H' → JS M sp lb lw n H' (bs ++ more) → (bs ++ more).length ≤ max bs.length 24 + (ps.length - 1) → Wr n (bs ++ more) r (sumL ps + 8 * (ps.length - 1)) → (∀ b, occ n (bs ++ more) b r ≤ sumO n bs b ps + newI bs.length (bs ++ more).length b) → Q (.int (r : Int)) H'
theorem ok_parts (T : Txt K mg A) : Df P w K mg base CX0 5 "_law_parts" A.a_parts ["spring", "boxes", "words", "size", "parts", "tone"] (sp_parts A) := by
  obtain ⟨fd, F, b⟩ := T.f_parts
  refine ⟨⟨fd, fnG_of F sc_parts (fun vs H Q E h => ?_) fun cdv A0 outer s H vs Q E hcd hr h => ?_, b, At.of F⟩, F.kp, T.g_parts⟩
  · obtain ⟨_, _, _, _, _, _, _, _, _, rfl, _⟩ := h
    rfl
  · obtain ⟨M, sp, lb, lw, lp, n, bs, ps, tone, rfl, gd, hM, jc, js, n1, n12, b46, tv, hlp, nlp, p1, p12, hps, hsum, hone, q⟩ := h
    have d_draw := ok_draw (P := P) (w := w) (base := base) T
    have d_led := ok_led (P := P) (w := w) (base := base) T
    refine ⟨_, PSs.nox (pss_cons (ps_for PassesOwn.never rfl (pi_range1 (by rfl) T.z_range (pa_cons (pe_op op_sub (pe_callB (call_lenK (K := K)) (by rfl) T.z_len PySem.boot_len (pa_cons (pv 4) pa_nil)) pe_int) pa_nil)) (pg_name (i := 6) sc_parts.nd rfl (Or.inl rfl))
        (pss_cons (ps_set (i := 7) sc_parts.nd rfl (Or.inl rfl) (pe_df d_draw hr (by decide) rfl pass0 (pa_cons (pv 0) (pa_cons (pe_op op_sub (pe_callB (call_lenK (K := K)) (by rfl) T.z_len PySem.boot_len (pa_cons (pv 4) pa_nil)) pe_int) pa_nil))))
          (pss_cons (ps_set (i := 8) sc_parts.nd rfl (Or.inl rfl) (pe_df d_led hr (by decide) rfl pass0 (pa_cons (pv 0) (pa_cons (pv 1) (pa_cons (pv 2) (pa_cons (pv 3) (pa_cons (pe_ix (ix_K (K := K)) (pv 4) (pv 7) (fun _ _ => rfl)) (pa_cons (pe_ix (ix_K (K := K)) (pv 4) (pe_op (op_addK (K := K)) (pv 7) pe_int) (fun _ _ => rfl)) (pa_cons (pv 5) pa_nil)))))))))
          (pss_one (ps_set (i := 4) sc_parts.nd rfl (Or.inl rfl) (pe_op (op_addK (K := K)) (pe_op (op_addK (K := K)) (pe_slice (sl_K (K := K)) (pv 4) po_none (po_some (pv 7))) (pe_lst (pa_cons (pv 8) pa_nil))) (pe_slice (sl_K (K := K)) (pv 4) (po_some (pe_op (op_addK (K := K)) (pv 7) pe_int)) po_none)))))))
        (pss_one (ps_ret (pe_ix (ix_K (K := K)) (pv 4) pe_int (fun _ _ => rfl))))), ?_⟩
    refine ⟨.ref lp, rfl, lp, _, rfl, Or.inl (SqL.of hlp), _, _, rfl, rfl, _, rfl, by omega, by rw [List.length_map]; omega, L2.for_it (L2.walk_range (lo := 0) (n := (((ps.map fun p => V.int ((p.1 : Nat) : Int)).length : Int) - 1).toNat))
      (fun t σ' H' => ∃ z6 z7 z8 lq more qs, σ' = [some (.ref sp), some (.ref lb), some (.ref lw), some (.int (n : Int)), some (.ref lq), some tone, z6, z7, z8] ∧ Sm (ct A) [lb, lw, sp] H H' ∧ JS M sp lb lw n H' (bs ++ more) ∧
        H' lq = some (.lst (qs.map fun p : Nat × Nat => V.int ((p.1 : Nat) : Int))) ∧ lq ∉ M ∧ qs.length + t = ps.length ∧ PartsOk n (bs ++ more) qs ∧ sumL qs ≤ sumL ps + 8 * t ∧ (bs ++ more).length ≤ max bs.length 24 + t ∧ ∀ b, sumO n (bs ++ more) b qs ≤ sumO n bs b ps + newI bs.length (bs ++ more).length b)
      ⟨_, _, _, lp, [], ps, rfl, Sm.refl, by rw [List.append_nil]; exact js, hlp, nlp, rfl, by rw [List.append_nil]; exact hps, by omega, by rw [List.append_nil]; omega, fun b => by rw [List.append_nil]; exact Nat.le_add_right _ _⟩ (fun _ _ _ _ _ => trivial) (fun t x σ' H' H'' ht hW hY => ?_) (fun σ' H3 hW => ?_)⟩
    · obtain ⟨z6, z7, z8, lq, more, qs, rfl, sW, jsW, hlq, nlq, lqs, hqs, hsq, hbm, hO⟩ := hW
      obtain ⟨rfl, rfl⟩ := hY
      rw [List.length_map] at ht
      have nsl : lq ≠ sp := fun z => nlq (by rw [z]; exact jc.ms)
      refine ⟨.ref sp, rfl, .ref lq, rfl, lq, _, rfl, Or.inl (SqL.of hlq), _, _, rfl, rfl, sp, _, rfl, sW.gd gd, jsW.spr, by rw [List.length_map]; omega, by rw [List.length_map]; omega, fun k H1 s1 spr1 k0 k1 => ?_⟩
      obtain ⟨k, rfl⟩ := Int.eq_ofNat_of_zero_le k0
      rw [List.length_map] at k1
      have js1 := jsW.on jc s1 spr1
      have hlq1 : H1 lq = some (.lst (qs.map fun p : Nat × Nat => V.int ((p.1 : Nat) : Int))) := s1.ex lq _ (fun z => nsl (List.mem_singleton.mp z)) hlq nofun
      have i1 : k < qs.length := by omega
      have i2 : k + 1 < qs.length := by omega
      have ga : qs[k]? = some qs[k] := List.getElem?_eq_getElem i1
      have gb : qs[k + 1]? = some qs[k + 1] := List.getElem?_eq_getElem i2
      have wa := hqs _ (List.getElem_mem i1)
      have wb := hqs _ (List.getElem_mem i2)
      have hab := sumL_join (r := 0) (l := 0) ga gb
      have sW1 := sW.trans (s1.sub fun z hz => sub_s3 hz)
      have xa : (qs.map fun p : Nat × Nat => V.int ((p.1 : Nat) : Int))[k]? = some (.int ((qs[k].1 : Nat) : Int)) := by rw [List.getElem?_map, ga]; rfl
      have xb : (qs.map fun p : Nat × Nat => V.int ((p.1 : Nat) : Int))[k + 1]? = some (.int ((qs[k + 1].1 : Nat) : Int)) := by rw [List.getElem?_map, gb]; rfl
      have xb' : atI (qs.map fun p : Nat × Nat => V.int ((p.1 : Nat) : Int)) ((k : Int) + 1) = some (.int ((qs[k + 1].1 : Nat) : Int)) := by
        rw [show (k : Int) + 1 = ((k + 1 : Nat) : Int) by omega]
        exact atI_of xb
      refine ⟨.ref sp, rfl, .ref lb, rfl, .ref lw, rfl, _, rfl, .ref lq, rfl, _, rfl, Or.inl ⟨lq, _, _, _, rfl, rfl, SqL.of hlq1, atI_of xa, .ref lq, rfl, _, rfl, Or.inl ⟨_, _, rfl, rfl, Or.inl ⟨lq, _, _, _, rfl, rfl, SqL.of hlq1, xb', tone, rfl,
        M, sp, lb, lw, n, qs[k].1, qs[k + 1].1, qs[k].2, qs[k + 1].2, bs ++ more, tone, rfl, sW1.gd gd, fun m hm => sW1.st m (hM m hm), jc, js1, n1, n12, by omega, tv, wa, wb, by omega, fun b => ?_, fun r H2 more2 s2 js2 hb2 w2 hO2 => ?_⟩⟩⟩⟩
      · have h1 := sumO_two (n := n) (bs := bs ++ more) (b := b) ga gb
        have h2 := hO b
        have h3 := hone b
        unfold newI at h2
        split at h2
        · rename_i hb
          have := sumO_zero js.li hb.1 ps
          omega
        · omega
      have nl3 : lq ∉ [lb, lw, sp] := fun z => nlq (jc.sub3 lq z)
      have hlq2 : H2 lq = some (.lst (qs.map fun p : Nat × Nat => V.int ((p.1 : Nat) : Int))) := s2.ex lq _ nl3 hlq1 nofun
      have sW2 := sW1.trans s2
      have hM2 : ∀ m ∈ M, H2 m ≠ none := fun m hm => sW2.st m (hM m hm)
      have nf : ∀ {H' : Hp} {p : Addr}, Sm (ct A) [] H2 H' → H' p = none → p ∉ M := fun {H' p} s e z => s.st p (hM2 p z) e
      -- parts[:at]
      refine ⟨.ref lq, rfl, _, rfl, _, rfl, Or.inl ⟨lq, _, rfl, SqL.of hlq2, fun pa hpa => ?_⟩⟩
      rw [cutV_take]
      have sa : ∀ {N}, Sm (ct A) N H2 (upd H2 pa (.lst ((qs.map fun p : Nat × Nat => V.int ((p.1 : Nat) : Int)).take k))) := Sm.new hpa
      have ha3 : (upd H2 pa (.lst ((qs.map fun p : Nat × Nat => V.int ((p.1 : Nat) : Int)).take k))) pa = some (.lst ((qs.map fun p : Nat × Nat => V.int ((p.1 : Nat) : Int)).take k)) := upd_same
      have hq3 := (sa (N := [])).ex lq _ (fun z => nomatch z) hlq2 nofun
      generalize (upd H2 pa (.lst ((qs.map fun p : Nat × Nat => V.int ((p.1 : Nat) : Int)).take k))) = H3 at *
      -- [both]
      refine ⟨_, rfl, sz_of (by show 1 ≤ 100000; decide), fun pb hpb => ?_⟩
      have sb : ∀ {N}, Sm (ct A) N H3 (upd H3 pb (.lst [.int (r : Int)])) := Sm.new hpb
      have hb4 : (upd H3 pb (.lst [.int (r : Int)])) pb = some (.lst [.int (r : Int)]) := upd_same
      have ha4 := (sb (N := [])).ex pa _ (fun z => nomatch z) ha3 nofun
      have hq4 := (sb (N := [])).ex lq _ (fun z => nomatch z) hq3 nofun
      generalize (upd H3 pb (.lst [.int (r : Int)])) = H4 at *
      refine Or.inr (Or.inl ⟨pa, pb, _, _, rfl, rfl, ha4, hb4, sz_of (by rw [List.length_take, List.length_map]; show min k qs.length + 1 ≤ 100000; omega), fun pc hpc => ?_⟩)
      have sc : ∀ {N}, Sm (ct A) N H4 (upd H4 pc (.lst ((qs.map fun p : Nat × Nat => V.int ((p.1 : Nat) : Int)).take k ++ [.int (r : Int)]))) := Sm.new hpc
      have hc5 : (upd H4 pc (.lst ((qs.map fun p : Nat × Nat => V.int ((p.1 : Nat) : Int)).take k ++ [.int (r : Int)]))) pc = some (.lst ((qs.map fun p : Nat × Nat => V.int ((p.1 : Nat) : Int)).take k ++ [.int (r : Int)])) := upd_same
      have hq5 := (sc (N := [])).ex lq _ (fun z => nomatch z) hq4 nofun
      generalize (upd H4 pc (.lst ((qs.map fun p : Nat × Nat => V.int ((p.1 : Nat) : Int)).take k ++ [.int (r : Int)]))) = H5 at *
      -- parts[at + 2:]
      refine ⟨.ref lq, rfl, _, rfl, Or.inl ⟨_, _, rfl, rfl, _, rfl, Or.inl ⟨lq, _, rfl, SqL.of hq5, fun pd hpd => ?_⟩⟩⟩
      rw [show (k : Int) + 2 = ((k + 2 : Nat) : Int) by omega, cutV_drop]
      have sd : ∀ {N}, Sm (ct A) N H5 (upd H5 pd (.lst ((qs.map fun p : Nat × Nat => V.int ((p.1 : Nat) : Int)).drop (k + 2)))) := Sm.new hpd
      have hd6 : (upd H5 pd (.lst ((qs.map fun p : Nat × Nat => V.int ((p.1 : Nat) : Int)).drop (k + 2)))) pd = some (.lst ((qs.map fun p : Nat × Nat => V.int ((p.1 : Nat) : Int)).drop (k + 2))) := upd_same
      have hc6 := (sd (N := [])).ex pc _ (fun z => nomatch z) hc5 nofun
      generalize (upd H5 pd (.lst ((qs.map fun p : Nat × Nat => V.int ((p.1 : Nat) : Int)).drop (k + 2)))) = H6 at *
      refine Or.inr (Or.inl ⟨pc, pd, _, _, rfl, rfl, hc6, hd6, sz_of (by rw [List.length_append, List.length_take, List.length_drop, List.length_map]; show min k qs.length + 1 + _ ≤ 100000; omega), fun pe hpe => ?_⟩)
      have s26 : ∀ {N}, Sm (ct A) N H2 H6 := sa.trans (sb.trans (sc.trans sd))
      have se : ∀ {N}, Sm (ct A) N H6 (upd H6 pe (.lst ((qs.map fun p : Nat × Nat => V.int ((p.1 : Nat) : Int)).take k ++ [.int (r : Int)] ++ (qs.map fun p : Nat × Nat => V.int ((p.1 : Nat) : Int)).drop (k + 2)))) := Sm.new hpe
      have s27 : ∀ {N}, Sm (ct A) N H2 (upd H6 pe (.lst ((qs.map fun p : Nat × Nat => V.int ((p.1 : Nat) : Int)).take k ++ [.int (r : Int)] ++ (qs.map fun p : Nat × Nat => V.int ((p.1 : Nat) : Int)).drop (k + 2)))) := s26.trans se
      have hl' := sumL_join (r := r) (l := qs[k].2 + qs[k + 1].2 + 8) ga gb
      refine ⟨_, _, _, pe, more ++ more2, qs.take k ++ [(r, qs[k].2 + qs[k + 1].2 + 8)] ++ qs.drop (k + 2), rfl, sW2.trans s27, ?_, ?_, nf (s26 (N := [])) hpe, ?_, ?_, by omega, ?_, fun b => ?_⟩
      · rw [← List.append_assoc]
        exact js2.quiet (s27 (N := []))
      · rw [upd_same, List.map_append, List.map_append, List.map_take, List.map_drop]
        rfl
      · rw [List.length_append, List.length_append, List.length_take, List.length_drop]
        show min k qs.length + 1 + (qs.length - (k + 2)) + (t + 1) = _
        omega
      · rw [← List.append_assoc]
        intro p hp
        rcases List.mem_append.mp hp with hp | hp
        · rcases List.mem_append.mp hp with hp | hp
          · exact (hqs p (List.mem_of_mem_take hp)).more _
          · rw [List.mem_singleton.mp hp]
            exact w2
        · exact (hqs p (List.mem_of_mem_drop hp)).more _
      · rw [← List.append_assoc]
        omega
      · rw [← List.append_assoc]
        have j1 := sumF_join (fun p => occ n ((bs ++ more) ++ more2) b p.1) (x := (r, qs[k].2 + qs[k + 1].2 + 8)) ga gb
        have j2 := hO2 b
        have j3 := hO b
        have j4 := sumO_more (more := more2) (b := b) hqs
        have j5 := newI_trans (a := bs.length) (c := (bs ++ more).length) (d := ((bs ++ more) ++ more2).length) (b := b) (by rw [List.length_append]; omega) (by rw [List.length_append (bs := more2)]; omega)
        have j6 := occ_more (n := n) (b := b) more2 wa.lt
        have j7 := occ_more (n := n) (b := b) more2 wb.lt
        unfold sumO at j4 j3 ⊢
        dsimp only at j1
        omega
    · obtain ⟨z6, z7, z8, lq, more, qs, rfl, sW, jsW, hlq, nlq, lqs, hqs, hsq, hbm, hO⟩ := hW
      rw [List.length_map] at lqs hsq hbm
      obtain ⟨p, rfl⟩ : ∃ p, qs = [p] := List.length_eq_one_iff.mp (by omega)
      refine ⟨.ref lq, rfl, Or.inl ⟨lq, _, 0, _, rfl, rfl, SqL.of hlq, atI_of (j := 0) rfl, ?_⟩⟩
      refine q _ _ more sW jsW (by omega) ((hqs p List.mem_cons_self).mono ?_) fun b => ?_
      · have : sumL [p] = p.2 := by simp [sumL]
        omega
      · have := hO b
        unfold sumO at this ⊢
        simpa using this

def sp_stretch (A : Ads) : Sp := fun vs H Q _ => ∃ (M : List Addr) (sp lb lw : Addr) (n lo hi : Nat) (bs : List (Nat × Nat)) (tone : V),
  vs = [.ref sp, .ref lb, .ref lw, .int (n : Int), .int (lo : Int), .int (hi : Int), tone] ∧ Gd (ct A) H ∧ (∀ m ∈ M, H m ≠ none) ∧ JC M sp lb lw ∧ JS M sp lb lw n H bs ∧ 1 ≤ n ∧ n ≤ 12 ∧ bs.length ≤ 46 ∧ ToneV tone ∧ lo ≤ hi ∧ hi < n ∧
  ∀ (r : Nat) H' more, Sm (ct A) [lb, lw, sp] H H' → JS M sp lb lw n H' (bs ++ more) → (bs ++ more).length ≤ max bs.length 24 + (hi - lo) → Wr n (bs ++ more) r (9 * (hi - lo + 1)) → (∀ b, occ n (bs ++ more) b r ≤ newI bs.length (bs ++ more).length b) → Q (.int (r : Int)) H'
theorem low_parts {n : Nat} {bs : List (Nat × Nat)} {ks : List Nat} (h : ∀ k ∈ ks, k < n) : PartsOk n bs (ks.map fun k => (k, 1)) := fun p hp => by
  obtain ⟨k, hk, rfl⟩ := List.mem_map.mp hp
  exact Wr.low (h k hk)
theorem low_sum : ∀ ks : List Nat, sumL (ks.map fun k => (k, 1)) = ks.length
  | [] => rfl
  | k :: r => by
    have := low_sum r
    unfold sumL at this ⊢
    simp only [List.map_cons, List.sum_cons, List.length_cons]
    omega
theorem low_occ {n : Nat} {bs : List (Nat × Nat)} (b : Nat) : ∀ ks : List Nat, (∀ k ∈ ks, k < n) → sumO n bs b (ks.map fun k => (k, 1)) = 0
  | [], _ => rfl
  | k :: r, h => by
    have ih := low_occ (bs := bs) b r fun x hx => h x (List.mem_cons_of_mem _ hx)
    unfold sumO at ih ⊢
    rw [List.map_cons, List.map_cons, List.sum_cons, ih, occ_low (h k List.mem_cons_self)]
theorem low_vals (ks : List Nat) : ((ks.map fun k => (k, 1)).map fun p : Nat × Nat => V.int ((p.1 : Nat) : Int)) = ks.map fun x : Nat => V.int (x : Int) := by
  rw [List.map_map]
  rfl
theorem rgV_nat {lo hi : Nat} (h : lo ≤ hi) : rgV (lo : Int) ((hi : Int) + 1) = ((List.range (hi - lo + 1)).map fun t => lo + t).map fun x : Nat => V.int (x : Int) := by
  unfold rgV
  rw [List.map_map, show ((hi : Int) + 1 - (lo : Int)).toNat = hi - lo + 1 by omega]
  refine List.map_congr_left fun t _ => ?_
  show V.int ((lo : Int) + (t : Int)) = V.int (((lo + t : Nat)) : Int)
  congr 1
theorem ok_stretch (T : Txt K mg A) : Df P w K mg base CX0 6 "_law_stretch" A.a_stretch ["spring", "boxes", "words", "size", "low", "high", "tone"] (sp_stretch A) := by
  obtain ⟨fd, F, b⟩ := T.f_stretch
  refine ⟨⟨fd, fnG_of F sc_stretch (fun vs H Q E h => ?_) fun cdv A0 outer s H vs Q E hcd hr h => ?_, b, At.of F⟩, F.kp, T.g_stretch⟩
  · obtain ⟨_, _, _, _, _, _, _, _, _, rfl, _⟩ := h
    rfl
  · obtain ⟨M, sp, lb, lw, n, lo, hi, bs, tone, rfl, gd, hM, jc, js, n1, n12, b46, tv, hlh, hhn, q⟩ := h
    have d_draw := ok_draw (P := P) (w := w) (base := base) T
    have d_parts := ok_parts (P := P) (w := w) (base := base) T
    refine ⟨_, PSs.nox (pss_cons (ps_set (i := 7) sc_stretch.nd rfl (Or.inl rfl) (pe_listRg rfl (by rfl) T.z_list (prg_2 (by rfl) T.z_range (pv 4) (pe_op (op_addK (K := K)) (pv 5) pe_int))))
        (C8.pss_cut (ps_if (PW.pt (pw_and (pt_cmpR (op_eqK (K := K) hr) (pv 6) pe_str (nomark _)) (pw_and1 (pt_cmpR op_gt (pv 5) (pv 4) (nomark _)))))
        (pss_one (ps_set (i := 7) sc_stretch.nd rfl (Or.inl rfl) (pe_op (op_addK (K := K)) (pe_lst (pa_cons (pv 4) pa_nil)) (pe_slice (sl_K (K := K)) (pv 7) (po_some (pe_op (op_addK (K := K)) pe_int (pe_df d_draw hr (by decide) rfl pass0 (pa_cons (pv 0) (pa_cons (pe_op op_sub (pv 5) (pv 4)) pa_nil))))) po_none))))
        pss_nil)
        (pss_one (ps_ret (pe_df d_parts hr (by decide) rfl pass0 (pa_cons (pv 0) (pa_cons (pv 1) (pa_cons (pv 2) (pa_cons (pv 3) (pa_cons (pv 7) (pa_cons (pv 6) pa_nil))))))))))), ?_⟩
    refine ⟨_, rfl, _, rfl, Or.inl ⟨_, _, rfl, rfl, _, _, rfl, rfl, RgOk.of_le (by omega) (by omega) (by omega) (by omega), fun l hl => ?_⟩⟩
    rw [rgV_nat hlh]
    have nf : ∀ {H' : Hp} {p : Addr}, Sm (ct A) [lb, lw, sp] H H' → H' p = none → p ∉ M := fun {H' p} s e z => s.st p (hM p z) e
    have nlM : l ∉ M := nf Sm.refl hl
    have s1 : ∀ {N}, Sm (ct A) N H (upd H l (.lst (((List.range (hi - lo + 1)).map fun t => lo + t).map fun x : Nat => V.int (x : Int)))) := Sm.new hl
    have e1 : (upd H l (.lst (((List.range (hi - lo + 1)).map fun t => lo + t).map fun x : Nat => V.int (x : Int)))) l = some (.lst (((List.range (hi - lo + 1)).map fun t => lo + t).map fun x : Nat => V.int (x : Int))) := upd_same
    have js1 := js.quiet (s1 (N := []))
    generalize (upd H l (.lst (((List.range (hi - lo + 1)).map fun t => lo + t).map fun x : Nat => V.int (x : Int)))) = H1 at *
    refine ⟨fun σ' H' => ∃ (lq : Addr) (ks : List Nat), σ' = [some (.ref sp), some (.ref lb), some (.ref lw), some (.int (n : Int)), some (.int (lo : Int)), some (.int (hi : Int)), some tone, some (.ref lq)] ∧ Sm (ct A) [lb, lw, sp] H H' ∧ JS M sp lb lw n H' bs ∧
      H' lq = some (.lst (ks.map fun x : Nat => V.int (x : Int))) ∧ lq ∉ M ∧ (∀ k ∈ ks, k < n) ∧ 1 ≤ ks.length ∧ ks.length ≤ hi - lo + 1, ?_, ?_⟩
    · have same : ∀ {H' : Hp}, Sm (ct A) [sp] H1 H' → JS M sp lb lw n H' bs → ∃ (lq : Addr) (ks : List Nat), [some (.ref sp), some (.ref lb), some (.ref lw), some (.int (n : Int)), some (.int (lo : Int)), some (.int (hi : Int)), some tone, some (V.ref l)] = [some (.ref sp), some (.ref lb), some (.ref lw), some (.int (n : Int)), some (.int (lo : Int)), some (.int (hi : Int)), some tone, some (V.ref lq)] ∧ Sm (ct A) [lb, lw, sp] H H' ∧ JS M sp lb lw n H' bs ∧
          H' lq = some (.lst (ks.map fun x : Nat => V.int (x : Int))) ∧ lq ∉ M ∧ (∀ k ∈ ks, k < n) ∧ 1 ≤ ks.length ∧ ks.length ≤ hi - lo + 1 := fun s' j' =>
        ⟨l, _, rfl, s1.trans (s'.sub fun z hz => sub_s3 hz), j', s'.ex l _ (fun z => nlM (by rw [List.mem_singleton.mp z]; exact jc.ms)) e1 nofun, nlM, fun k hk => by
          obtain ⟨t, ht, rfl⟩ := List.mem_map.mp hk
          have := List.mem_range.mp ht
          omega, by rw [List.length_map, List.length_range]; omega, by rw [List.length_map, List.length_range]; omega⟩
      refine ⟨tone, rfl, Or.inl ⟨tv.scal _, _, rfl, ite2 (fun _ => ?_) fun _ => same Sm.refl js1⟩⟩
      refine ⟨_, rfl, _, rfl, _, _, rfl, rfl, _, rfl, ite2 (fun e => ?_) fun _ => same Sm.refl js1⟩
      have hlt : lo < hi := by
        have := of_decide_eq_true e
        omega
      -- ends: the first one, then some of the last ones
      refine ⟨_, rfl, sz_of (by show 1 ≤ 100000; decide), fun pa hpa => ?_⟩
      have sa : ∀ {N}, Sm (ct A) N H1 (upd H1 pa (.lst [.int (lo : Int)])) := Sm.new hpa
      have ea : (upd H1 pa (.lst [.int (lo : Int)])) pa = some (.lst [.int (lo : Int)]) := upd_same
      have e2 := (sa (N := [])).ex l _ (fun z => nomatch z) e1 nofun
      have js2 := js1.quiet (sa (N := []))
      have npa : pa ∉ M := nf s1 hpa
      generalize (upd H1 pa (.lst [.int (lo : Int)])) = H2 at *
      refine ⟨.ref l, rfl, .ref sp, rfl, _, rfl, _, rfl, _, _, rfl, rfl, sp, _, rfl, (s1.trans (sa (N := []))).gd gd, js2.spr, by omega, by omega, fun d H3 s3 spr3 d0 d1 => Or.inl ⟨_, _, rfl, rfl, _, rfl, ?_⟩⟩
      obtain ⟨d, rfl⟩ := Int.eq_ofNat_of_zero_le d0
      have nsp : ∀ {a : Addr}, a ∉ M → a ∉ [sp] := fun h z => h (by rw [List.mem_singleton.mp z]; exact jc.ms)
      have e3 := s3.ex l _ (nsp nlM) e2 nofun
      have ea3 := s3.ex pa _ (nsp npa) ea nofun
      have js3 := js2.on jc s3 spr3
      refine Or.inl ⟨l, _, rfl, SqL.of e3, fun pd hpd => ?_⟩
      rw [show (1 : Int) + ((d : Nat) : Int) = ((1 + d : Nat) : Int) by omega, cutV_drop]
      have sd : ∀ {N}, Sm (ct A) N H3 (upd H3 pd (.lst ((((List.range (hi - lo + 1)).map fun t => lo + t).map fun x : Nat => V.int (x : Int)).drop (1 + d)))) := Sm.new hpd
      have ed : (upd H3 pd (.lst ((((List.range (hi - lo + 1)).map fun t => lo + t).map fun x : Nat => V.int (x : Int)).drop (1 + d)))) pd = some (.lst ((((List.range (hi - lo + 1)).map fun t => lo + t).map fun x : Nat => V.int (x : Int)).drop (1 + d))) := upd_same
      have ea4 := (sd (N := [])).ex pa _ (fun z => nomatch z) ea3 nofun
      have js4 := js3.quiet (sd (N := []))
      generalize (upd H3 pd (.lst ((((List.range (hi - lo + 1)).map fun t => lo + t).map fun x : Nat => V.int (x : Int)).drop (1 + d)))) = H4 at *
      have s14 : Sm (ct A) [lb, lw, sp] H H4 := s1.trans (sa.trans ((s3.sub fun z hz => sub_s3 hz).trans sd))
      refine Or.inr (Or.inl ⟨pa, pd, _, _, rfl, rfl, ea4, ed, sz_of (by simp; omega), fun pe hpe => ?_⟩)
      refine ⟨pe, [lo] ++ (((List.range (hi - lo + 1)).map fun t => lo + t).drop (1 + d)), rfl, s14.trans (Sm.new hpe), js4.quiet (Sm.new (c := ct A) hpe), ?_, nf s14 hpe, fun k hk => ?_, by rw [List.length_append]; show 1 ≤ 1 + _; omega, by rw [List.length_append, List.length_drop, List.length_map, List.length_range]; show 1 + _ ≤ _; omega⟩
      · rw [upd_same, List.map_append, List.map_drop]
        rfl
      · rcases List.mem_append.mp hk with z | z
        · rw [List.mem_singleton.mp z]
          omega
        · obtain ⟨t, ht, rfl⟩ := List.mem_map.mp (List.mem_of_mem_drop z)
          have := List.mem_range.mp ht
          omega
    · rintro σ' H2 ⟨lq, ks, rfl, s2, js2, e2, nlq, hks, k1, k2⟩
      have hM2 : ∀ m ∈ M, H2 m ≠ none := fun m hm => s2.st m (hM m hm)
      refine ⟨.ref sp, rfl, .ref lb, rfl, .ref lw, rfl, _, rfl, .ref lq, rfl, tone, rfl, M, sp, lb, lw, lq, n, bs, ks.map fun k => (k, 1), tone, rfl, s2.gd gd, hM2, jc, js2, n1, n12, b46, tv, by rw [low_vals]; exact e2, nlq, by rw [List.length_map]; exact k1, by rw [List.length_map]; omega, low_parts hks,
        by rw [low_sum, List.length_map]; omega, fun b => by rw [low_occ b ks hks]; exact Nat.zero_le _, fun r H3 more s3 js3 hb3 w3 hO => ?_⟩
      rw [List.length_map] at hb3 w3
      rw [low_sum] at w3
      exact q r H3 more (s2.trans s3) js3 (by omega) (w3.mono (by omega)) fun b => by have := hO b; rw [low_occ b ks hks, Nat.zero_add] at this; exact this

def sp_plan (A : Ads) : Sp := fun vs H Q _ => ∃ (M : List Addr) (sp : Addr), vs = [.ref sp] ∧ Gd (ct A) H ∧ (∀ m ∈ M, H m ≠ none) ∧ sp ∈ M ∧ Spr H sp ∧
  ∀ p H' (n : Nat) la aV ws, Sm (ct A) [sp] H H' → Spr H' sp → H' p = some (.tup [.int (n : Int), .ref la]) → H la = none → H' la = some (.lst aV) → Dqs (la :: M) H' aV (ws.map encB) → PlanOk n ws → Q (.ref p) H'
theorem ok_plan (T : Txt K mg A) : Df P w K mg base CX0 3 "_law_plan" A.a_plan ["spring"] (sp_plan A) := by
  obtain ⟨fd, F, b⟩ := T.f_plan
  refine ⟨⟨fd, fnG_of F sc_plan (fun vs H Q E h => ?_) fun cdv A0 outer s H vs Q E hcd hr h => ?_, b, At.of F⟩, F.kp, T.g_plan⟩
  · obtain ⟨_, _, rfl, _⟩ := h
    rfl
  · obtain ⟨M, sp, rfl, gd, hM, ms, spr, q⟩ := h
    have d_draw := ok_draw (P := P) (w := w) (base := base) T
    have d_pick := ok_pick (P := P) (w := w) (base := base) T
    have pick : ∀ {H1 : Hp}, Spr H1 sp → ∀ l, H1 l = none → l ≠ sp := fun h l hl z => by
      obtain ⟨ys, e⟩ := h.some
      rw [z, e] at hl
      cases hl
    refine ⟨_, PSs.nox (pss_cons (ps_if (pt_cmpR (op_eqK (K := K) hr) (pe_df d_draw hr (by decide) rfl pass0 (pa_cons (pv 0) (pa_cons pe_int pa_nil))) pe_int (nomark _))
        (pss_cons (ps_set (i := 1) sc_plan.nd rfl (Or.inl rfl) (pe_op (op_addK (K := K)) pe_int (pe_df d_draw hr (by decide) rfl pass0 (pa_cons (pv 0) (pa_cons (pe_df d_pick hr (by decide) rfl pass0 (pa_cons (pv 0) (pa_cons (pe_lst (pa_cons pe_int (pa_cons pe_int (pa_cons pe_int (pa_cons pe_int pa_nil))))) pa_nil))) pa_nil)))))
          (pss_one (ps_ret (pe_tup (pa_cons (pv 1) (pa_cons (pe_lc (own := [("k", 2)]) (g := gName 2) (tt := tYes) rfl sc_plan.nd (pi_range1 (by rfl) T.z_range (pa_cons (pv 1) pa_nil)) (blkOk_by (own := [("k", 2)]) (N := ["spring", "size", "k", "asked", "turn", "low"]) (sc := defScope s_plan) (by decide +kernel)) (fun _ _ _ _ _ => pg_name (i := 2) sc_plan.nd rfl (Or.inl rfl)) (fun _ _ _ _ _ => pts_nil) (fun _ _ _ _ _ => (pe_tup (pa_cons pe_int (pa_cons (pv 2) pa_nil))))) pa_nil))))))
        pss_nil)
        (pss_cons (ps_par (i := 1) (j := 3) rfl sc_plan.nd rfl rfl (by decide) rfl rfl (pa_cons (pe_op (op_addK (K := K)) pe_int (pe_df d_draw hr (by decide) rfl pass0 (pa_cons (pv 0) (pa_cons (pe_df d_pick hr (by decide) rfl pass0 (pa_cons (pv 0) (pa_cons (pe_lst (pa_cons pe_int (pa_cons pe_int (pa_cons pe_int pa_nil)))) pa_nil))) pa_nil)))) (pa_cons (pe_lst pa_nil) pa_nil)) (by rfl))
        (pss_cons (ps_for PassesOwn.never rfl (pi_range1 (by rfl) T.z_range (pa_cons (pe_op (op_addK (K := K)) pe_int (pe_df d_draw hr (by decide) rfl pass0 (pa_cons (pv 0) (pa_cons pe_int pa_nil)))) pa_nil)) (pg_name (i := 4) sc_plan.nd rfl (Or.inl rfl))
        (pss_cons (ps_set (i := 5) sc_plan.nd rfl (Or.inl rfl) (pe_df d_draw hr (by decide) rfl pass0 (pa_cons (pv 0) (pa_cons (pv 1) pa_nil))))
          (pss_one (ps_expr (pe_bm PySem.F.plainAttrs_list PySem.F.slot_list_append PySem.F.type_list_append mt_append (pv 3) (pa_cons (pe_tup (pa_cons (pv 5) (pa_cons (pe_op (op_addK (K := K)) (pv 5) (pe_df d_draw hr (by decide) rfl pass0 (pa_cons (pv 0) (pa_cons (pe_op op_sub (pv 1) (pv 5)) pa_nil)))) pa_nil))) pa_nil))))))
        (pss_one (ps_ret (pe_tup (pa_cons (pv 1) (pa_cons (pv 3) pa_nil)))))))), ?_⟩
    refine ⟨.ref sp, rfl, sp, _, rfl, gd, spr, by decide, by decide, fun d H1 s1 spr1 d0 d1 => Or.inl ⟨rfl, _, rfl, ite2 (fun _ => ?_) fun _ => ?_⟩⟩
    · -- the running ones
      refine ⟨.ref sp, rfl, .ref sp, rfl, sz_of (by show 4 ≤ 100000; decide), fun l hl => ?_⟩
      have s2 : Sm (ct A) [sp] H1 (upd H1 l (.lst [.int 2, .int 4, .int 6, .int 12])) := Sm.new hl
      have s02 := s1.trans s2
      refine ⟨sp, l, _, rfl, s02.gd gd, spr1.sm (c := ct A) (M := []) (Sm.new hl) (fun z => nomatch z), pick spr1 l hl, upd_same, by decide, by decide, fun v H3 s3 spr3 hv => ?_⟩
      obtain ⟨k, rfl, k0, k12⟩ : ∃ k : Int, v = .int k ∧ 0 < k ∧ k ≤ 12 := by
        simp only [List.mem_cons, List.not_mem_nil, or_false] at hv
        rcases hv with rfl | rfl | rfl | rfl <;> exact ⟨_, rfl, by decide, by decide⟩
      have s03 := s02.trans s3
      refine ⟨sp, k, rfl, s03.gd gd, spr3, k0, by omega, fun d H4 s4 spr4 d0 d1 => Or.inl ⟨_, _, rfl, rfl, ?_⟩⟩
      obtain ⟨j, rfl⟩ := Int.eq_ofNat_of_zero_le d0
      have s04 := s03.trans s4
      have en : ((1 + j : Nat) : Int) = 1 + (j : Int) := by omega
      have hM4 : ∀ m ∈ M, H4 m ≠ none := fun m hm => s04.st m (hM m hm)
      refine ⟨_, rfl, _, rfl, _, rfl, by omega, by omega, fun D hD => L2.lc_it (L2.walk_range (lo := 0) (n := (1 + (j : Int)).toNat))
        (fun i H' => Sm (ct A) [D] (upd H4 D (.lst [])) H' ∧ ∃ xs, H' D = some (.lst xs) ∧ Dqs (D :: M) H' xs (((List.range i).map fun k => (0, k)).map encB)) ⟨Sm.refl, [], upd_same, .nil⟩ (fun _ _ _ _ => trivial) (fun t x H' H'' ht hW hY => ?_) (fun H5 hW => ?_)⟩
      · obtain ⟨sW, xs, eD, dW⟩ := hW
        obtain ⟨rfl, hx⟩ := hY
        have hx' : x = .int (t : Int) := hx.trans (by show V.int (0 + (t : Nat)) = _; rw [show (0 : Int) + (t : Nat) = (t : Int) by omega])
        subst hx'
        have sD : Sm (ct A) [D] H4 H'' := (Sm.new hD).trans sW
        have hMD : ∀ x ∈ D :: M, H'' x ≠ none := fun x hx => by
          rcases List.mem_cons.mp hx with z | z
          · rw [z, eD]; nofun
          · exact sD.st x (hM4 x z)
        have lxs := dW.length
        rw [List.length_map, List.length_map, List.length_range] at lxs
        refine ⟨rfl, _, rfl, sz_of (by show 2 ≤ 100000; decide), fun p hp => ⟨xs, by rw [upd_ne (ne_of_none eD hp)]; exact eD, sz_lt (by omega), (sW.trans (Sm.new hp)).trans (Sm.put List.mem_cons_self (by rw [upd_ne (ne_of_none eD hp)]; exact eD)), _, upd_same, ?_⟩⟩
        rw [List.range_succ, List.map_append, List.map_append]
        exact ((dW.sm (Sm.new (c := ct A) hp)).snoc (dq_new hMD hp (.two (.int 0) (.int (t : Int))))).sm (Sm.put (c := ct A) List.mem_cons_self (by rw [upd_ne (ne_of_none eD hp)]; exact eD))
      obtain ⟨sW, xs, eD, dW⟩ := hW
      rw [show (1 + (j : Int)).toNat = 1 + j by omega] at dW
      have s45 : Sm (ct A) [] H4 H5 := ((Sm.new hD).trans sW).out hD
      refine ⟨sz_of (by show 2 ≤ 100000; decide), fun p hp => ?_⟩
      have s56 : ∀ {N}, Sm (ct A) N H5 (upd H5 p (.tup [.int (1 + (j : Int)), .ref D])) := Sm.new hp
      exact q p _ (1 + j) D xs (runsOf (1 + j)) (s04.trans (s45.any.trans s56)) (spr4.sm (c := ct A) (M := []) (s45.trans s56) (fun z => nomatch z)) (by rw [upd_same, en]) (s04.fresh hD) ((s56 (N := [])).ex D _ (fun z => nomatch z) eD nofun) (dW.sm s56) (plan_runs (by omega) (by omega))
    · -- some wishes
      refine ⟨.ref sp, rfl, .ref sp, rfl, sz_of (by show 3 ≤ 100000; decide), fun l hl => ?_⟩
      have s2 : Sm (ct A) [sp] H1 (upd H1 l (.lst [.int 2, .int 4, .int 6])) := Sm.new hl
      have s02 := s1.trans s2
      refine ⟨sp, l, _, rfl, s02.gd gd, spr1.sm (c := ct A) (M := []) (Sm.new hl) (fun z => nomatch z), pick spr1 l hl, upd_same, by decide, by decide, fun v H3 s3 spr3 hv => ?_⟩
      obtain ⟨k, rfl, k0, k6⟩ : ∃ k : Int, v = .int k ∧ 0 < k ∧ k ≤ 6 := by
        simp only [List.mem_cons, List.not_mem_nil, or_false] at hv
        rcases hv with rfl | rfl | rfl <;> exact ⟨_, rfl, by decide, by decide⟩
      have s03 := s02.trans s3
      refine ⟨sp, k, rfl, s03.gd gd, spr3, k0, by omega, fun d H4 s4 spr4 d0 d1 => Or.inl ⟨_, _, rfl, rfl, Nat.zero_le _, fun la hla => ⟨_, _, rfl, ?_⟩⟩⟩
      obtain ⟨j, rfl⟩ := Int.eq_ofNat_of_zero_le d0
      have s04 := s03.trans s4
      have en : ((1 + j : Nat) : Int) = 1 + (j : Int) := by omega
      have nla := pick spr4 la hla
      have fla : H la = none := s04.fresh hla
      have sl : ∀ {N}, Sm (ct A) N H4 (upd H4 la (.lst [])) := Sm.new hla
      have el : (upd H4 la (.lst [])) la = some (.lst []) := upd_same
      have spr5 := spr4.sm (c := ct A) (M := []) sl (fun z => nomatch z)
      have s05 : Sm (ct A) [la, sp] H (upd H4 la (.lst [])) := (s04.sub fun z hz => by rw [List.mem_singleton.mp hz]; simp).trans sl
      generalize (upd H4 la (.lst [])) = H5 at *
      refine ⟨.ref sp, rfl, sp, _, rfl, s05.gd gd, spr5, by decide, by decide, fun c H6 s6 spr6 c0 c1 => Or.inl ⟨_, _, rfl, rfl, ?_⟩⟩
      have el6 := s6.ex la _ (fun z => nla (List.mem_singleton.mp z)) el nofun
      have s06 : Sm (ct A) [la, sp] H H6 := s05.trans (s6.sub fun z hz => by rw [List.mem_singleton.mp hz]; simp)
      refine ⟨_, rfl, by omega, by omega, L2.for_it (L2.walk_range (lo := 0) (n := (1 + c).toNat)) (fun i σ' H' => ∃ z2 z4 z5 aV ws, σ' = [some (.ref sp), some (.int (1 + (j : Int))), z2, some (.ref la), z4, z5] ∧ Sm (ct A) [la, sp] H H' ∧ Spr H' sp ∧ H' la = some (.lst aV) ∧ Dqs (la :: M) H' aV (ws.map encB) ∧
        ws.length = i ∧ ∀ b ∈ ws, b.1 ≤ b.2 ∧ b.2 < 1 + j) ⟨_, _, _, [], [], rfl, s06, spr6, el6, .nil, rfl, nofun⟩ (fun _ _ _ _ _ => trivial) (fun i x σ' H' H'' hi hW hY => ?_) (fun σ' H7 hW => ?_)⟩
      · obtain ⟨z2, z4, z5, aV, ws, rfl, sW, sprW, eW, dW, lws, hws⟩ := hW
        obtain ⟨rfl, rfl⟩ := hY
        have laV := dW.length
        rw [List.length_map] at laV
        have sub : ∀ z ∈ [sp], z ∈ la :: M := fun z hz => by rw [List.mem_singleton.mp hz]; exact List.mem_cons_of_mem _ ms
        refine ⟨.ref sp, rfl, _, rfl, sp, _, rfl, sW.gd gd, sprW, by omega, by omega, fun lo Ha sa spra a0 a1 => ?_⟩
        obtain ⟨lo, rfl⟩ := Int.eq_ofNat_of_zero_le a0
        have sWa := sW.trans (sa.sub fun z hz => by rw [List.mem_singleton.mp hz]; simp)
        have eWa := sa.ex la _ (fun z => nla (List.mem_singleton.mp z)) eW nofun
        refine ⟨.ref la, rfl, Or.inl ⟨rfl, _, SqL.of eWa⟩, _, rfl, _, rfl, .ref sp, rfl, _, rfl, _, rfl, _, _, rfl, rfl, sp, _, rfl, sWa.gd gd, spra, by omega, by omega, fun up Hb sb2 sprb b0 b1 => Or.inl ⟨_, _, rfl, rfl, sz_of (by show 2 ≤ 100000; decide), fun p hp => ?_⟩⟩
        obtain ⟨up, rfl⟩ := Int.eq_ofNat_of_zero_le b0
        have sWb := sWa.trans (sb2.sub fun z hz => by rw [List.mem_singleton.mp hz]; simp)
        have eWb := sb2.ex la _ (fun z => nla (List.mem_singleton.mp z)) eWa nofun
        have hMb : ∀ x ∈ la :: M, Hb x ≠ none := fun x hx => by
          rcases List.mem_cons.mp hx with z | z
          · rw [z, eWb]; nofun
          · exact sWb.st x (hM x z)
        have dn := dq_new hMb hp (.two (.int (lo : Int)) (.int ((lo + up : Nat) : Int)))
        have e1 : (upd Hb p (.tup [.int (lo : Int), .int ((lo : Int) + (up : Int))])) la = some (.lst aV) := by rw [upd_ne (ne_of_none eWb hp)]; exact eWb
        refine ⟨la, aV, _, rfl, rfl, e1, sz_lt (by omega), ?_⟩
        refine ⟨_, _, _, _, ws ++ [(lo, lo + up)], rfl, (sWb.trans (Sm.new hp)).trans (Sm.put List.mem_cons_self e1), ((sprb.sm (c := ct A) (M := []) (Sm.new hp) (fun z => nomatch z)).sm (c := ct A) (M := [la]) (Sm.put List.mem_cons_self e1) (fun z => nla (List.mem_singleton.mp z).symm)), upd_same, ?_, by rw [List.length_append, lws]; rfl, fun b hb => ?_⟩
        · rw [List.map_append]
          exact ((((dW.sm (sa.sub sub)).sm (sb2.sub sub)).sm (Sm.new (c := ct A) hp)).snoc dn).sm (Sm.put (c := ct A) List.mem_cons_self e1)
        · rcases List.mem_append.mp hb with z | z
          · exact hws b z
          · rw [List.mem_singleton.mp z]
            exact ⟨by show lo ≤ lo + up; omega, by show lo + up < 1 + j; omega⟩
      · obtain ⟨z2, z4, z5, aV, ws, rfl, sW, sprW, eW, dW, lws, hws⟩ := hW
        refine ⟨_, rfl, .ref la, rfl, sz_of (by show 2 ≤ 100000; decide), fun p hp => ?_⟩
        have s56 : ∀ {N}, Sm (ct A) N H7 (upd H7 p (.tup [.int (1 + (j : Int)), .ref la])) := Sm.new hp
        exact q p _ (1 + j) la aV ws ((sW.out fla).trans s56) (sprW.sm (c := ct A) (M := []) s56 (fun z => nomatch z)) (by rw [upd_same, en]) fla ((s56 (N := [])).ex la _ (fun z => nomatch z) eW nofun) (dW.sm s56) ⟨by omega, by omega, hws, by omega, by omega, Or.inr ⟨by omega, by omega⟩⟩

def sp_built (A : Ads) : Sp := fun vs H Q _ => ∃ (M : List Addr) (sp la : Addr) (n : Nat) (aV : List V) (ws : List (Nat × Nat)) (tone : V),
  vs = [.ref sp, .int (n : Int), .ref la, tone] ∧ Gd (ct A) H ∧ (∀ m ∈ M, H m ≠ none) ∧ sp ∈ M ∧ Spr H sp ∧ la ∈ M ∧ la ≠ sp ∧ H la = some (.lst aV) ∧ Dqs M H aV (ws.map encB) ∧ PlanOk n ws ∧ ToneV tone ∧
  ∀ p H' lb le bV eV (bs : List (Nat × Nat)) (es : List Nat), Sm (ct A) [sp] H H' → Spr H' sp → H' p = some (.tup [.ref lb, .ref le]) → H lb = none → H le = none → lb ≠ le → H' lb = some (.lst bV) → H' le = some (.lst eV) →
    Dqs (lb :: le :: M) H' bV (bs.map encB) → Dqs (lb :: le :: M) H' eV (es.map nI) → boxOk n 0 bs → bs.length ≤ 46 → (∀ e ∈ es, e < n + bs.length) → es.length = ws.length → Lens 200 (wordsOf n bs) → Lin n bs → Q (.ref p) H'
theorem ok_built (T : Txt K mg A) : Df P w K mg base CX0 7 "_law_built" A.a_built ["spring", "size", "asked", "tone"] (sp_built A) := by
  obtain ⟨fd, F, b⟩ := T.f_built
  refine ⟨⟨fd, fnG_of F sc_built (fun vs H Q E h => ?_) fun cdv A0 outer s H vs Q E hcd hr h => ?_, b, At.of F⟩, F.kp, T.g_built⟩
  · obtain ⟨_, _, _, _, _, _, _, rfl, _⟩ := h
    rfl
  · obtain ⟨M, sp, la, n, aV, ws, tone, rfl, gd, hM, ms, spr, ma, nas, hla, da, pl, tv, q⟩ := h
    have d_draw := ok_draw (P := P) (w := w) (base := base) T
    have d_stretch := ok_stretch (P := P) (w := w) (base := base) T
    have d_led := ok_led (P := P) (w := w) (base := base) T
    have n1 := pl.n1
    have n12 := pl.n2
    obtain ⟨sx, hsx⟩ := spr.some
    have laV := da.length
    rw [List.length_map] at laV
    refine ⟨_, PSs.nox (pss_cons (ps_par3 (i := 4) (j := 5) (l := 6) rfl sc_built.nd rfl rfl rfl (by decide) (by decide) (by decide) rfl rfl rfl (pa_cons (pe_lst pa_nil) (pa_cons (pe_lc (own := [("k", 7)]) (g := gName 7) (tt := tYes) rfl sc_built.nd (pi_range1 (by rfl) T.z_range (pa_cons (pv 1) pa_nil)) (blkOk_by (own := [("k", 7)]) (N := ["spring", "size", "asked", "tone", "boxes", "words", "ends", "k", "wish", "place", "ahead", "part"]) (sc := defScope s_built) (by decide +kernel)) (fun _ _ _ _ _ => pg_name (i := 7) sc_built.nd rfl (Or.inl rfl)) (fun _ _ _ _ _ => pts_nil) (fun _ _ _ _ _ => (pe_tup (pa_cons (pv 7) pa_nil)))) (pa_cons (pe_lst pa_nil) pa_nil))) (by rfl))
        (pss_cons (ps_if (pt_cmpR (op_neK (K := K) hr) (pv 2) (pe_lc (own := [("k", 7)]) (g := gName 7) (tt := tYes) rfl sc_built.nd (pi_range1 (by rfl) T.z_range (pa_cons (pv 1) pa_nil)) (blkOk_by (own := [("k", 7)]) (N := ["spring", "size", "asked", "tone", "boxes", "words", "ends", "k", "wish", "place", "ahead", "part"]) (sc := defScope s_built) (by decide +kernel)) (fun _ _ _ _ _ => pg_name (i := 7) sc_built.nd rfl (Or.inl rfl)) (fun _ _ _ _ _ => pts_nil) (fun _ _ _ _ _ => (pe_tup (pa_cons pe_int (pa_cons (pv 7) pa_nil))))) (nomark _))
        (pss_cons (ps_for PassesOwn.never rfl (pi_K (K := K) (pv 2)) (pg_name (i := 8) sc_built.nd rfl (Or.inl rfl))
          (pss_one (ps_expr (pe_bm PySem.F.plainAttrs_list PySem.F.slot_list_append PySem.F.type_list_append mt_append (pv 6) (pa_cons (pe_df d_stretch hr (by decide) rfl pass0 (pa_cons (pv 0) (pa_cons (pv 4) (pa_cons (pv 5) (pa_cons (pv 1) (pa_cons (pe_ix (ix_K (K := K)) (pv 8) pe_int (fun _ _ => rfl)) (pa_cons (pe_ix (ix_K (K := K)) (pv 8) pe_int (fun _ _ => rfl)) (pa_cons (pv 3) pa_nil)))))))) pa_nil)))))
          (pss_one (ps_ret (pe_tup (pa_cons (pv 4) (pa_cons (pv 6) pa_nil))))))
        pss_nil)
        (pss_cons (ps_expr (pe_bm PySem.F.plainAttrs_list PySem.F.slot_list_append PySem.F.type_list_append mt_append (pv 6) (pa_cons pe_int pa_nil)))
        (pss_cons (ps_for PassesOwn.never rfl (pi_range2 (by rfl) T.z_range (pa_cons pe_int (pa_cons (pv 1) pa_nil))) (pg_name (i := 9) sc_built.nd rfl (Or.inl rfl))
        (pss_cons (ps_set (i := 10) sc_built.nd rfl (Or.inl rfl) (pe_ifExp (PW.pt (pw_or (pt_cmpR op_gt (pe_callB (call_lenK (K := K)) (by rfl) T.z_len PySem.boot_len (pa_cons (pv 4) pa_nil)) pe_int (nomark _)) (pw_or1 (pt_cmpR op_gt (pe_df d_draw hr (by decide) rfl pass0 (pa_cons (pv 0) (pa_cons pe_int pa_nil))) pe_int (nomark _))))) (pe_op op_sub (pv 9) pe_int) (pe_df d_draw hr (by decide) rfl pass0 (pa_cons (pv 0) (pa_cons (pv 9) pa_nil)))))
          (pss_cons (ps_set (i := 11) sc_built.nd rfl (Or.inl rfl) (pe_df d_stretch hr (by decide) rfl pass0 (pa_cons (pv 0) (pa_cons (pv 4) (pa_cons (pv 5) (pa_cons (pv 1) (pa_cons (pe_op (op_addK (K := K)) (pv 10) pe_int) (pa_cons (pv 9) (pa_cons (pv 3) pa_nil)))))))))
          (pss_one (ps_expr (pe_bm PySem.F.plainAttrs_list PySem.F.slot_list_append PySem.F.type_list_append mt_append (pv 6) (pa_cons (pe_df d_led hr (by decide) rfl pass0 (pa_cons (pv 0) (pa_cons (pv 4) (pa_cons (pv 5) (pa_cons (pv 1) (pa_cons (pe_ix (ix_K (K := K)) (pv 6) (pv 10) (fun _ _ => rfl)) (pa_cons (pv 11) (pa_cons (pv 3) pa_nil)))))))) pa_nil)))))))
        (pss_one (ps_ret (pe_tup (pa_cons (pv 4) (pa_cons (pv 6) pa_nil))))))))), ?_⟩
    -- the three lists
    refine ⟨Nat.zero_le _, fun lb hlb => ?_⟩
    have nbs : lb ≠ sp := (ne_of_none hsx hlb).symm
    have sb : ∀ {N}, Sm (ct A) N H (upd H lb (.lst [])) := Sm.new hlb
    refine ⟨_, rfl, _, rfl, by omega, by omega, fun lw hlw => L2.lc_it (L2.walk_range (lo := 0) (n := (n : Int).toNat))
      (fun i H' => Sm (ct A) [lw] (upd (upd H lb (.lst [])) lw (.lst [])) H' ∧ ∃ xs, H' lw = some (.lst xs) ∧ Dqs (lb :: lw :: M) H' xs (((List.range i).map fun k => [k]).map encW)) ?_ (fun _ _ _ _ => trivial) (fun i x H' H'' hi hW hY => ?_) (fun H3 hW => ?_)⟩
    · exact ⟨Sm.refl, [], upd_same, .nil⟩
    · obtain ⟨sW, xs, eW, dW⟩ := hW
      obtain ⟨rfl, rfl⟩ := hY
      refine ⟨rfl, .int (0 + (i : Nat)), rfl, sz_of (by show 1 ≤ 100000; decide), fun p hp => ?_⟩
      have nDp : lw ≠ p := ne_of_none eW hp
      have s2' : Sm (ct A) [lw] H'' (upd H'' p (.tup [.int (0 + (i : Nat))])) := Sm.new hp
      have lx : xs.length = i := dW.length.trans (by simp)
      have sAll : Sm (ct A) [lw] (upd H lb (.lst [])) H'' := (Sm.new hlw).trans sW
      have hM2 : ∀ m ∈ lb :: lw :: M, H'' m ≠ none := fun m hm => by
        rcases List.mem_cons.mp hm with z | hm
        · exact sAll.st m (by rw [z, upd_same]; nofun)
        rcases List.mem_cons.mp hm with z | z
        · rw [z, eW]
          nofun
        · exact sAll.st m ((sb (N := [])).st m (hM m z))
      have e2 : (upd H'' p (.tup [.int (0 + (i : Nat))])) lw = some (.lst xs) := by rw [upd_ne nDp]; exact eW
      refine ⟨xs, e2, sz_lt (by omega), ?_, _, upd_same, ?_⟩
      · exact (sW.trans s2').trans (Sm.put List.mem_cons_self e2)
      · have sp' : Sm (ct A) (lb :: lw :: M) _ (upd (upd H'' p (.tup [.int (0 + (i : Nat))])) lw (.lst (xs ++ [.ref p]))) := Sm.put (List.mem_cons_of_mem _ List.mem_cons_self) e2
        rw [List.range_succ, List.map_append, List.map_append]
        refine ((dW.sm (s2'.sub fun z hz => by rw [List.mem_singleton.mp hz]; exact List.mem_cons_of_mem _ List.mem_cons_self)).snoc ?_).sm sp'
        have := dq_new hM2 hp (.one (.int (0 + (i : Nat))))
        rw [Int.zero_add] at this ⊢
        exact this
    obtain ⟨s3, xs, e3, dW⟩ := hW
    rw [show (n : Int).toNat = n by omega] at dW
    have b2 : (upd H lb (.lst [])) lb = some (.lst []) := upd_same
    have s23 : Sm (ct A) [lw] (upd H lb (.lst [])) H3 := (Sm.new hlw).trans s3
    have nbw : lb ≠ lw := ne_of_none b2 hlw
    have b3 : H3 lb = some (.lst []) := s23.ex lb _ (fun z => nbw (List.mem_singleton.mp z)) b2 nofun
    have nws : lw ≠ sp := fun z => by
      have := (sb (N := [])).ex sp _ (fun z => nomatch z) hsx nofun
      rw [← z, hlw] at this
      cases this
    have sp3 : Spr H3 sp := ((spr.sm (c := ct A) (M := []) (Sm.new hlb) (fun z => nomatch z)).sm (c := ct A) (M := [lw]) s23 (fun z => nws (List.mem_singleton.mp z).symm))
    refine ⟨Nat.zero_le _, fun le hle => ⟨_, _, _, rfl, ?_⟩⟩
    obtain ⟨sx3, hsx3⟩ := sp3.some
    have nes : le ≠ sp := (ne_of_none hsx3 hle).symm
    have nbe : lb ≠ le := ne_of_none b3 hle
    have nwe : lw ≠ le := ne_of_none e3 hle
    have se : ∀ {N}, Sm (ct A) N H3 (upd H3 le (.lst [])) := Sm.new hle
    have flw : H lw = none := (sb (N := [])).fresh hlw
    have fle : H le = none := (sb (N := [])).fresh (s23.fresh hle)
    have s03 : Sm (ct A) [lb, lw, le, sp] H H3 := sb.trans (s23.sub fun z hz => by rw [List.mem_singleton.mp hz]; simp)
    have s04 : Sm (ct A) [lb, lw, le, sp] H (upd H3 le (.lst [])) := s03.trans se
    have dW4 : Dqs (lb :: lw :: le :: M) (upd H3 le (.lst [])) xs ((wordsOf n []).map encW) :=
      (dW.map fun a o na ea _ => ⟨fun z => by
        rcases List.mem_cons.mp z with z | z
        · exact na (by rw [z]; exact List.mem_cons_self)
        rcases List.mem_cons.mp z with z | z
        · exact na (by rw [z]; exact List.mem_cons_of_mem _ List.mem_cons_self)
        rcases List.mem_cons.mp z with z | z
        · rw [z, hle] at ea
          cases ea
        · exact na (List.mem_cons_of_mem _ (List.mem_cons_of_mem _ z)), ea⟩).sm (M := lb :: lw :: le :: M) (se)
    have da4 : Dqs (lb :: lw :: le :: M) (upd H3 le (.lst [])) aV (ws.map encB) := by
      have d1 : Dqs (lw :: lb :: M) (upd H lb (.lst [])) aV (ws.map encB) := ((da.wk hlb).sm (sb)).wk hlw
      have d2 : Dqs (le :: lw :: lb :: M) H3 aV (ws.map encB) := (d1.sm (s23.sub fun z hz => by rw [List.mem_singleton.mp hz]; exact List.mem_cons_self)).wk hle
      refine (d2.sm (se)).sub fun z hz => ?_
      rcases List.mem_cons.mp hz with y | hz
      · rw [y]; simp
      rcases List.mem_cons.mp hz with y | hz
      · rw [y]; simp
      rcases List.mem_cons.mp hz with y | hz
      · rw [y]; simp
      · exact List.mem_cons_of_mem _ (List.mem_cons_of_mem _ (List.mem_cons_of_mem _ hz))
    have jc : JC (lb :: lw :: le :: M) sp lb lw := ⟨List.mem_cons_of_mem _ (List.mem_cons_of_mem _ (List.mem_cons_of_mem _ ms)), by simp, by simp, nbw, nbs, nws⟩
    have e4 : (upd H3 le (.lst [])) le = some (.lst []) := upd_same
    have js4 : JS (lb :: lw :: le :: M) sp lb lw n (upd H3 le (.lst [])) [] :=
      ⟨sp3.sm (c := ct A) (M := []) se (fun z => nomatch z), ⟨[], (se (N := [])).ex lb _ (fun z => nomatch z) b3 nofun, .nil⟩, ⟨xs, (se (N := [])).ex lw _ (fun z => nomatch z) e3 nofun, dW4⟩, trivial, fun w hw => by
        obtain ⟨k, _, rfl⟩ := List.mem_map.mp hw
        exact ⟨Nat.le_refl _, by show 1 ≤ 200; decide⟩, lin_nil⟩
    have outL : ∀ {b o}, b ≠ sp → H b = some o → b ∉ [lb, lw, le, sp] := fun h e z => by
      rcases List.mem_cons.mp z with y | z
      · rw [y, hlb] at e; cases e
      rcases List.mem_cons.mp z with y | z
      · rw [y, flw] at e; cases e
      rcases List.mem_cons.mp z with y | z
      · rw [y, fle] at e; cases e
      · exact h (List.mem_singleton.mp z)
    generalize (upd H3 le (.lst [])) = H4 at *
    have full : ∀ {H' : Hp} {bs : List (Nat × Nat)} {eV : List V}, Sm (ct A) [lb, lw, le, sp] H H' → JS (lb :: lw :: le :: M) sp lb lw n H' bs → H' le = some (.lst eV) → ∀ m ∈ lb :: lw :: le :: M, H' m ≠ none := fun s j e m hm => by
      obtain ⟨_, hb, _⟩ := j.b
      obtain ⟨_, hw, _⟩ := j.w
      rcases List.mem_cons.mp hm with z | hm
      · rw [z, hb]; nofun
      rcases List.mem_cons.mp hm with z | hm
      · rw [z, hw]; nofun
      rcases List.mem_cons.mp hm with z | hm
      · rw [z, e]; nofun
      · exact s.st m (hM m hm)
    have hMf := full s04 js4 e4
    have hla4 := s04.ex la _ (outL nas hla) hla nofun
    -- is it the running ones
    refine ⟨.ref la, rfl, _, rfl, _, rfl, by omega, by omega, fun D hD => L2.lc_it (L2.walk_range (lo := 0) (n := (n : Int).toNat))
      (fun i H' => Sm (ct A) [D] (upd H4 D (.lst [])) H' ∧ ∃ xs, H' D = some (.lst xs) ∧ Dqs (D :: lb :: lw :: le :: M) H' xs (((List.range i).map fun k => (0, k)).map encB)) ⟨Sm.refl, [], upd_same, .nil⟩ (fun _ _ _ _ => trivial) (fun t x H' H'' ht hW hY => ?_) (fun H5 hW => ?_)⟩
    · obtain ⟨sW, xs, eD, dW⟩ := hW
      obtain ⟨rfl, hx⟩ := hY
      have hx' : x = .int (t : Int) := hx.trans (by show V.int (0 + (t : Nat)) = _; rw [show (0 : Int) + (t : Nat) = (t : Int) by omega])
      subst hx'
      have sD : Sm (ct A) [D] H4 H'' := (Sm.new hD).trans sW
      have hMD : ∀ x ∈ D :: lb :: lw :: le :: M, H'' x ≠ none := fun x hx => by
        rcases List.mem_cons.mp hx with z | z
        · rw [z, eD]; nofun
        · exact sD.st x (hMf x z)
      have lxs := dW.length
      rw [List.length_map, List.length_map, List.length_range] at lxs
      refine ⟨rfl, _, rfl, sz_of (by show 2 ≤ 100000; decide), fun p hp => ⟨xs, by rw [upd_ne (ne_of_none eD hp)]; exact eD, sz_lt (by omega), (sW.trans (Sm.new hp)).trans (Sm.put List.mem_cons_self (by rw [upd_ne (ne_of_none eD hp)]; exact eD)), _, upd_same, ?_⟩⟩
      rw [List.range_succ, List.map_append, List.map_append]
      exact ((dW.sm (Sm.new (c := ct A) hp)).snoc (dq_new hMD hp (.two (.int 0) (.int (t : Int))))).sm (Sm.put (c := ct A) List.mem_cons_self (by rw [upd_ne (ne_of_none eD hp)]; exact eD))
    obtain ⟨sW, xsD, eD, dWD⟩ := hW
    rw [show (n : Int).toNat = n by omega] at dWD
    have s45 : Sm (ct A) [] H4 H5 := ((Sm.new hD).trans sW).out hD
    have js5 := js4.quiet s45
    have s05 := s04.trans (s45.any (M := [lb, lw, le, sp]))
    have e5 := s45.ex le _ (fun z => nomatch z) e4 nofun
    have hla5 := s45.ex la _ (fun z => nomatch z) hla4 nofun
    have da5 := da4.sm (s45.any (M := lb :: lw :: le :: M))
    refine Or.inr ⟨.list (ws.map encB), .list ((runsOf n).map encB), .lst (SqL.of hla5) (da5.dp (dict_encB ws)), .lst (SqL.of eD) (dWD.dp (dict_encB (runsOf n))), shaped_encB ws, shaped_encB _, _, rfl, ?_⟩
    rw [listB_eqv]
    -- how it ends
    have fin : ∀ {H' : Hp} {bs : List (Nat × Nat)} {es : List Nat}, Sm (ct A) [lb, lw, le, sp] H H' → JS (lb :: lw :: le :: M) sp lb lw n H' bs → H' le = some (.lst (es.map fun x : Nat => V.int (x : Int))) → bs.length ≤ 46 → (∀ e ∈ es, e < n + bs.length) → es.length = ws.length →
        ∀ p, H' p = none → Q (.ref p) (upd H' p (.tup [.ref lb, .ref le])) := fun {H' bs es} s j e b60 he hl p hp => by
      obtain ⟨bV, hb, db⟩ := j.b
      have sn : ∀ {N}, Sm (ct A) N H' (upd H' p (.tup [.ref lb, .ref le])) := Sm.new hp
      have sub : ∀ z ∈ lb :: le :: M, z ∈ lb :: lw :: le :: M := fun z hz => by
        rcases List.mem_cons.mp hz with y | hz
        · rw [y]; simp
        rcases List.mem_cons.mp hz with y | hz
        · rw [y]; simp
        · exact List.mem_cons_of_mem _ (List.mem_cons_of_mem _ (List.mem_cons_of_mem _ hz))
      exact q p _ lb le bV _ bs es ((((s.out hlb).out flw).out fle).trans sn) (j.spr.sm (c := ct A) (M := []) sn (fun z => nomatch z)) upd_same hlb fle nbe ((sn (N := [])).ex lb _ (fun z => nomatch z) hb nofun) ((sn (N := [])).ex le _ (fun z => nomatch z) e nofun)
        ((db.sub sub).sm sn) ((Dqs.nats es).sm (c := ct A) sn) j.bo b60 he hl j.ln j.li
    have up3 : ∀ {z : Addr}, z ∈ [lb, lw, sp] → z ∈ [lb, lw, le, sp] := fun {z} h => by
      rcases List.mem_cons.mp h with y | h
      · rw [y]; simp
      rcases List.mem_cons.mp h with y | h
      · rw [y]; simp
      · rw [List.mem_singleton.mp h]; simp
    have nl3 : le ∉ [lb, lw, sp] := fun z => by
      rcases List.mem_cons.mp z with y | z
      · exact nbe y.symm
      rcases List.mem_cons.mp z with y | z
      · exact nwe y.symm
      · exact nes (List.mem_singleton.mp z)
    -- one more end
    have more : ∀ {H' : Hp} {bs : List (Nat × Nat)} {es : List Nat} {r : Nat}, Sm (ct A) [lb, lw, le, sp] H H' → JS (lb :: lw :: le :: M) sp lb lw n H' bs → H' le = some (.lst (es.map fun x : Nat => V.int (x : Int))) →
        Sm (ct A) [lb, lw, le, sp] H (upd H' le (.lst ((es.map fun x : Nat => V.int (x : Int)) ++ [.int (r : Int)]))) ∧ JS (lb :: lw :: le :: M) sp lb lw n (upd H' le (.lst ((es.map fun x : Nat => V.int (x : Int)) ++ [.int (r : Int)]))) bs ∧
        (upd H' le (.lst ((es.map fun x : Nat => V.int (x : Int)) ++ [.int (r : Int)]))) le = some (.lst ((es ++ [r]).map fun x : Nat => V.int (x : Int))) := fun {H' bs es r} s j e => by
      have sp' : ∀ {N}, le ∈ N → Sm (ct A) N H' (upd H' le (.lst ((es.map fun x : Nat => V.int (x : Int)) ++ [.int (r : Int)]))) := fun h => Sm.put h e
      refine ⟨s.trans (sp' (by simp)), j.sm (sp' (N := [le]) (by simp)) (fun z hz => by rw [List.mem_singleton.mp hz]; simp) (fun z => nbe (List.mem_singleton.mp z)) (fun z => nwe (List.mem_singleton.mp z)) (j.spr.sm (sp' (N := [le]) (by simp)) fun z => nes (List.mem_singleton.mp z).symm), ?_⟩
      rw [upd_same, List.map_append]
      rfl
    refine ite2 (fun ne => ?_) fun eq => ?_
    · -- any wishes
      have hne : ws ≠ runsOf n := fun z => by
        rw [decide_eq_true z] at ne
        cases ne
      obtain ⟨n6, l4⟩ : n ≤ 6 ∧ ws.length ≤ 4 := pl.sm.resolve_left hne
      refine ⟨.ref la, rfl, la, rfl, Or.inl ⟨⟨_, SqL.of hla5⟩, L2.for_it (L2.walk_list (K := K) (a := la) (xs := aV))
        (fun i σ' H' => ∃ z7 z8 z9 z10 z11 bs es, σ' = [some (.ref sp), some (.int (n : Int)), some (.ref la), some tone, some (.ref lb), some (.ref lw), some (.ref le), z7, z8, z9, z10, z11] ∧ Sm (ct A) [lb, lw, le, sp] H H' ∧ JS (lb :: lw :: le :: M) sp lb lw n H' bs ∧
          H' le = some (.lst ((es : List Nat).map fun x : Nat => V.int (x : Int))) ∧ (∀ e ∈ es, e < n + bs.length) ∧ es.length = i ∧ bs.length ≤ 24 + 5 * i)
        ⟨_, _, _, _, _, [], [], rfl, s05, js5, e5, nofun, rfl, Nat.zero_le _⟩ (fun i σ' H' _ hW => ?_) (fun i x σ' H' H'' hi hW hY => ?_) (fun σ' H6 hW => ?_)⟩⟩
      · obtain ⟨_, _, _, _, _, _, _, _, sW, _⟩ := hW
        exact SqL.of (sW.ex la _ (outL nas hla) hla nofun)
      · obtain ⟨z7, z8, z9, z10, z11, bs, es, rfl, sW, jsW, eW, hes, les, hbs⟩ := hW
        obtain ⟨rfl, hx⟩ := hY
        obtain ⟨d, hd, hxd⟩ := da.getV hx
        have hi' : i < ws.length := by omega
        rw [List.getElem?_map, List.getElem?_eq_getElem hi'] at hd
        cases hd
        have hwi := pl.w _ (List.getElem_mem hi')
        obtain ⟨ax, ux, rfl, nax, hax, hux⟩ := hxd.tup_inv
        obtain ⟨y1, y2, rfl, k1, k2⟩ := hux.inv2
        cases k1.int_inv
        cases k2.int_inv
        have hax' := sW.ex ax _ (outL (fun z => nax (by rw [z]; exact ms)) hax) hax nofun
        refine ⟨.ref le, rfl, Or.inl ⟨rfl, _, SqL.of eW⟩, .ref sp, rfl, .ref lb, rfl, .ref lw, rfl, _, rfl, .ref ax, rfl, Or.inr (Or.inl ⟨ax, _, 0, _, rfl, rfl, SqT.of hax', atI_of (j := 0) rfl, .ref ax, rfl, Or.inr (Or.inl ⟨ax, _, 1, _, rfl, rfl, SqT.of hax', atI_of (j := 1) rfl, tone, rfl,
          lb :: lw :: le :: M, sp, lb, lw, n, ws[i].1, ws[i].2, bs, tone, rfl, sW.gd gd, full sW jsW eW, jc, jsW, n1, n12, by omega, tv, hwi.1, hwi.2, fun r H6 mo s6 js6 hb6 w6 _ => ?_⟩)⟩)⟩
        have sW6 := sW.trans (s6.sub fun z hz => up3 hz)
        have eW6 := s6.ex le _ nl3 eW nofun
        obtain ⟨m1, m2, m3⟩ := more (r := r) sW6 js6 eW6
        refine ⟨le, _, _, rfl, rfl, eW6, sz_lt (by rw [List.length_map]; omega), _, _, _, _, _, bs ++ mo, es ++ [r], rfl, m1, m2, m3, fun e he => ?_, by rw [List.length_append, les]; rfl, by omega⟩
        rcases List.mem_append.mp he with z | z
        · have := hes e z
          rw [List.length_append]
          omega
        · rw [List.mem_singleton.mp z]
          exact w6.lt
      · obtain ⟨z7, z8, z9, z10, z11, bs, es, rfl, sW, jsW, eW, hes, les, hbs⟩ := hW
        exact ⟨.ref lb, rfl, .ref le, rfl, sz_of (by show 2 ≤ 100000; decide), fin sW jsW eW (by omega) hes (by omega)⟩
    · -- the running ones
      have hrun : ws = runsOf n := Classical.byContradiction fun z => eq (by rw [decide_eq_false z]; rfl)
      have lws : ws.length = n := by rw [hrun]; simp [runsOf]
      obtain ⟨m1, m2, m3⟩ := more (es := []) (r := 0) s05 js5 e5
      refine ⟨.ref le, rfl, Or.inl ⟨rfl, _, SqL.of e5⟩, le, _, _, rfl, rfl, e5, sz_lt (by decide), ?_⟩
      refine ⟨_, rfl, _, _, rfl, ⟨by decide, by decide, by omega, by omega⟩, L2.for_it (L2.walk_range (lo := 1) (n := ((n : Int) - 1).toNat))
        (fun i σ' H' => ∃ z7 z8 z9 z10 z11 bs es, σ' = [some (.ref sp), some (.int (n : Int)), some (.ref la), some tone, some (.ref lb), some (.ref lw), some (.ref le), z7, z8, z9, z10, z11] ∧ Sm (ct A) [lb, lw, le, sp] H H' ∧ JS (lb :: lw :: le :: M) sp lb lw n H' bs ∧
          H' le = some (.lst ((es : List Nat).map fun x : Nat => V.int (x : Int))) ∧ es.length = 1 + i ∧ (∀ (k : Nat) (e : Nat), es[k]? = some e → Wr n bs e (1 + 17 * k)) ∧ bs.length ≤ 35 + i)
        ⟨_, _, _, _, _, [], [0], rfl, m1, m2, m3, rfl, fun k e h => ?_, Nat.zero_le _⟩ (fun _ _ _ _ _ => trivial) (fun i x σ' H' H'' hi hW hY => ?_) (fun σ' H6 hW => ?_)⟩
      · match k, h with
        | 0, h => cases h; exact (Wr.low (by omega)).mono (by omega)
        | k + 1, h => simp at h
      · obtain ⟨z7, z8, z9, z10, z11, bs, es, rfl, sW, jsW, eW, les, hes, hbs⟩ := hW
        obtain ⟨rfl, hx⟩ := hY
        have hx' : x = .int ((1 + i : Nat) : Int) := hx.trans (by show V.int (1 + (i : Nat)) = _; rw [show (1 : Int) + (i : Nat) = ((1 + i : Nat) : Int) by omega])
        subst hx'
        obtain ⟨bV, hbV, dbV⟩ := jsW.b
        have lbV := dbV.length
        rw [List.length_map] at lbV
        have hX : ∀ Q' : VK, (∀ (ah : Nat) (H7 : Hp), Sm (ct A) [sp] H'' H7 → Spr H7 sp → ah ≤ i → (bs.length ≤ 24 ∨ ah = i) → Q' (.int (ah : Int)) H7) →
            tIf (tOr (tTest (tOp (rI0 fun i j => V.bl (decide (j < i))) (tCB (rLenK K) (tCons (tVar 4) tNil)) (tC (V.int 24)))) (tTest (tOp (rI0 fun i j => V.bl (decide (j < i))) (tCall (sp_draw A) [] E0 (tCons (tVar 0) (tCons (tC (V.int 3)) tNil))) (tC (V.int 0)))))
              (tOp (rI0 fun i j => V.int (i - j)) (tVar 9) (tC (V.int 1))) (tCall (sp_draw A) [] E0 (tCons (tVar 0) (tCons (tVar 9) tNil)))
              [some (.ref sp), some (.int (n : Int)), some (.ref la), some tone, some (.ref lb), some (.ref lw), some (.ref le), z7, z8, some (.int ((1 + i : Nat) : Int)), z10, z11] H'' Q' := by
          intro Q' hq
          have last : V.int (((1 + i : Nat) : Int) - 1) = .int (i : Int) := by rw [show ((1 + i : Nat) : Int) - 1 = (i : Int) by omega]
          refine ⟨.ref lb, rfl, lb, bV, rfl, Or.inl (SqL.of hbV), _, _, rfl, rfl, _, rfl, ite2 (fun _ => ?_) fun e24 => ?_⟩
          · refine ite2 (fun _ => ⟨_, rfl, _, _, rfl, rfl, ?_⟩) fun e => absurd rfl e
            show Q' (V.int (((1 + i : Nat) : Int) - 1)) H''
            rw [last]
            exact hq i _ Sm.refl jsW.spr (Nat.le_refl _) (Or.inr rfl)
          · have b24 : bs.length ≤ 24 := by
              have := Int.not_lt.mp fun z => e24 (decide_eq_true z)
              omega
            refine ⟨.ref sp, rfl, sp, _, rfl, sW.gd gd, jsW.spr, by decide, by decide, fun d H7 s7 spr7 d0 d1 => ⟨_, _, rfl, rfl, _, rfl, ite2 (fun _ => ⟨_, rfl, _, _, rfl, rfl, ?_⟩) fun _ => ?_⟩⟩
            · show Q' (V.int (((1 + i : Nat) : Int) - 1)) H7
              rw [last]
              exact hq i _ s7 spr7 (Nat.le_refl _) (Or.inr rfl)
            · refine ⟨.ref sp, rfl, _, rfl, sp, _, rfl, s7.gd (sW.gd gd), spr7, by omega, by omega, fun a H8 s8 spr8 a0 a1 => ?_⟩
              obtain ⟨a, rfl⟩ := Int.eq_ofNat_of_zero_le a0
              exact hq a _ (s7.trans s8) spr8 (by omega) (Or.inl b24)
        refine hX _ fun ah H7 s7 spr7 ha1 ha2 => ?_
        clear hX
        have js7 := jsW.on jc s7 spr7
        have s07 : Sm (ct A) [lb, lw, le, sp] H H7 := sW.trans (s7.sub fun z hz => by rw [List.mem_singleton.mp hz]; simp)
        have e7 := s7.ex le _ (fun z => nes (List.mem_singleton.mp z)) eW nofun
        refine ⟨.ref sp, rfl, .ref lb, rfl, .ref lw, rfl, _, rfl, _, rfl, Or.inl ⟨_, _, rfl, rfl, _, rfl, tone, rfl, lb :: lw :: le :: M, sp, lb, lw, n, ah + 1, 1 + i, bs, tone, rfl, s07.gd gd, full s07 js7 e7, jc, js7, n1, n12, by omega, tv, by omega, by omega, fun part H8 mo s8 js8 hb8 w8 hOp => ?_⟩⟩
        have s08 := s07.trans (s8.sub fun z hz => up3 hz)
        have e8 := s8.ex le _ nl3 e7 nofun
        have gah : es[ah]? = some es[ah] := List.getElem?_eq_getElem (by omega)
        have wah := (hes ah _ gah).more mo
        refine ⟨.ref le, rfl, Or.inl ⟨rfl, _, SqL.of e8⟩, .ref sp, rfl, .ref lb, rfl, .ref lw, rfl, _, rfl, .ref le, rfl, _, rfl, Or.inl ⟨le, _, _, _, rfl, rfl, SqL.of e8, atI_of (show (es.map fun x : Nat => V.int (x : Int))[ah]? = some (.int (es[ah] : Int)) by rw [List.getElem?_map, gah]; rfl), _, rfl, tone, rfl,
          lb :: lw :: le :: M, sp, lb, lw, n, es[ah], part, 1 + 17 * ah, 9 * (1 + i - (ah + 1) + 1), bs ++ mo, tone, rfl, s08.gd gd, full s08 js8 e8, jc, js8, n1, n12, by omega, tv, wah, w8, by omega, fun b => ?_, fun r H9 mo2 s9 js9 hb9 w9 _ => ?_⟩⟩
        · have h1 := hOp b
          rw [occ_more mo (hes ah _ gah).lt]
          have h2 := js7.li b es[ah]
          unfold newI at h1
          split at h1
          · rename_i hb
            rw [js7.li.zero hb.1]
            omega
          · have := js7.li.one (b := b) (i := es[ah])
            omega
        have s09 := s08.trans (s9.sub fun z hz => up3 hz)
        have e9 := s9.ex le _ nl3 e8 nofun
        obtain ⟨m1, m2, m3⟩ := more (r := r) s09 js9 e9
        rw [List.append_assoc] at m2
        have hbb : (bs ++ (mo ++ mo2)).length ≤ 35 + (i + 1) := by
          rw [← List.append_assoc]
          omega
        refine ⟨le, _, _, rfl, rfl, e9, sz_lt (by rw [List.length_map]; omega), _, _, _, _, _, bs ++ (mo ++ mo2), es ++ [r], rfl, m1, m2, m3, by rw [List.length_append, les]; rfl, fun k e hk => ?_, hbb⟩
        by_cases hki : k < es.length
        · rw [List.getElem?_append_left hki] at hk
          exact (hes k e hk).more _
        · rw [List.getElem?_append_right (by omega)] at hk
          have hk0 : k - es.length = 0 := by
            have := (List.getElem?_eq_some_iff.mp hk).1
            simp at this
            omega
          rw [hk0] at hk
          cases hk
          rw [← List.append_assoc]
          exact w9.mono (by omega)
      · obtain ⟨z7, z8, z9, z10, z11, bs, es, rfl, sW, jsW, eW, les, hes, hbs⟩ := hW
        refine ⟨.ref lb, rfl, .ref le, rfl, sz_of (by show 2 ≤ 100000; decide), fin sW jsW eW (by omega) (fun e he => ?_) (by omega)⟩
        obtain ⟨k, hk⟩ := List.getElem?_of_mem he
        exact (hes k e hk).lt

def sp_swerve (A : Ads) : Sp := fun vs H Q _ => ∃ (M : List Addr) (sp lb le la : Addr) (n : Nat) (bV eV aV : List V) (bs : List (Nat × Nat)) (es : List Nat) (ws : List (Nat × Nat)),
  vs = [.ref sp, .int (n : Int), .ref lb, .ref le, .ref la] ∧ Gd (ct A) H ∧ (∀ m ∈ M, H m ≠ none) ∧ (sp ∈ M ∧ lb ∈ M ∧ le ∈ M ∧ la ∈ M) ∧ (lb ≠ sp ∧ le ≠ sp ∧ la ≠ sp ∧ lb ≠ le ∧ lb ≠ la ∧ le ≠ la) ∧ Spr H sp ∧
  H lb = some (.lst bV) ∧ H le = some (.lst eV) ∧ H la = some (.lst aV) ∧ Dqs M H bV (bs.map encB) ∧ Dqs M H eV (es.map nI) ∧ Dqs M H aV (ws.map encB) ∧
  boxOk n 0 bs ∧ (∀ e ∈ es, e < n + bs.length) ∧ (∀ b ∈ ws, b.1 ≤ b.2 ∧ b.2 < n) ∧ 1 ≤ n ∧ n ≤ 12 ∧ bs.length ≤ 60 ∧ 1 ≤ es.length ∧ es.length ≤ 12 ∧ 1 ≤ ws.length ∧ ws.length ≤ 12 ∧
  ∀ H' bV' eV' aV' (bs' : List (Nat × Nat)) (es' : List Nat) (ws' : List (Nat × Nat)), Sm (ct A) [lb, le, la, sp] H H' → Spr H' sp → H' lb = some (.lst bV') → H' le = some (.lst eV') → H' la = some (.lst aV') →
    Dqs M H' bV' (bs'.map encB) → Dqs M H' eV' (es'.map nI) → Dqs M H' aV' (ws'.map encB) → boxOk n 0 bs' → bs'.length = bs.length → (∀ e ∈ es', e < n + bs.length) → es'.length = es.length → (∀ b ∈ ws', b.1 ≤ b.2 ∧ b.2 < n) → ws'.length = ws.length → (bs' = bs ∨ ∃ (at_ : Nat) (b : Nat × Nat), bs' = bs.set at_ b ∧ (at_ < bs.length → ∃ p, bs[at_]? = some p ∧ (b.1 = p.1 ∨ b.2 = p.2))) → Q .non H'
theorem ok_swerve (T : Txt K mg A) : Df P w K mg base CX0 2 "_law_swerve" A.a_swerve ["spring", "size", "boxes", "ends", "asked"] (sp_swerve A) := by
  obtain ⟨fd, F, b⟩ := T.f_swerve
  refine ⟨⟨fd, fnG_of F sc_swerve (fun vs H Q E h => ?_) fun cdv A0 outer s H vs Q E hcd hr h => ?_, b, At.of F⟩, F.kp, T.g_swerve⟩
  · obtain ⟨_, _, _, _, _, _, _, _, _, _, _, _, rfl, _⟩ := h
    rfl
  · obtain ⟨M, sp, lb, le, la, n, bV, eV, aV, bs, es, ws, rfl, gd, hM, ⟨ms, mb, me, ma⟩, ⟨nbs, nes, nas, nbe, nba, nea⟩, spr, hb, he, ha, db, de, da, hbo, hes, hws, n1, n12, b60, e1, e12, w1, w12, q⟩ := h
    have d_draw := ok_draw (P := P) (w := w) (base := base) T
    have lbV := db.length
    have leV := de.length
    have laV := da.length
    rw [List.length_map] at lbV leV laV
    have sub1 : ∀ z ∈ [sp], z ∈ M := fun z hz => by rw [List.mem_singleton.mp hz]; exact ms
    have up1 : ∀ z ∈ [sp], z ∈ [lb, le, la, sp] := fun z hz => by rw [List.mem_singleton.mp hz]; simp
    have nsp : ∀ {a : Addr}, a ≠ sp → a ∉ [sp] := fun h z => h (List.mem_singleton.mp z)
    refine ⟨_, PSs.nox (pss_cons (ps_set (i := 5) sc_swerve.nd rfl (Or.inl rfl) (pe_df d_draw hr (by decide) rfl pass0 (pa_cons (pv 0) (pa_cons pe_int pa_nil))))
        (pss_one (ps_if (PW.pt (pw_and (pt_cmpR op_lt (pv 5) pe_int (nomark _)) (pw_and1 (pt_cmpR (op_neK (K := K) hr) (pv 2) (pe_lst pa_nil) (nomark _)))))
        (pss_cons (ps_set (i := 6) sc_swerve.nd rfl (Or.inl rfl) (pe_df d_draw hr (by decide) rfl pass0 (pa_cons (pv 0) (pa_cons (pe_callB (call_lenK (K := K)) (by rfl) T.z_len PySem.boot_len (pa_cons (pv 2) pa_nil)) pa_nil))))
          (pss_cons (ps_set (i := 7) sc_swerve.nd rfl (Or.inl rfl) (pe_df d_draw hr (by decide) rfl pass0 (pa_cons (pv 0) (pa_cons (pe_op (op_addK (K := K)) (pv 1) (pv 6)) pa_nil))))
          (pss_one (ps_asg (pe_ifExp (pt_cmpR (op_eqK (K := K) hr) (pv 5) pe_int (nomark _)) (pe_tup (pa_cons (pv 7) (pa_cons (pe_ix (ix_K (K := K)) (pe_ix (ix_K (K := K)) (pv 2) (pv 6) (fun _ _ => rfl)) pe_int (fun _ _ => rfl)) pa_nil))) (pe_tup (pa_cons (pe_ix (ix_K (K := K)) (pe_ix (ix_K (K := K)) (pv 2) (pv 6) (fun _ _ => rfl)) pe_int (fun _ _ => rfl)) (pa_cons (pv 7) pa_nil)))) (pg_sub (pv 2) (pv 6) set_list)))))
        (pss_one (ps_if (pt_cmpR (op_eqK (K := K) hr) (pv 5) pe_int (nomark _))
          (pss_cons (ps_set (i := 6) sc_swerve.nd rfl (Or.inl rfl) (pe_df d_draw hr (by decide) rfl pass0 (pa_cons (pv 0) (pa_cons (pe_callB (call_lenK (K := K)) (by rfl) T.z_len PySem.boot_len (pa_cons (pv 3) pa_nil)) pa_nil))))
            (pss_one (ps_asg (pe_df d_draw hr (by decide) rfl pass0 (pa_cons (pv 0) (pa_cons (pe_op (op_addK (K := K)) (pv 1) (pe_callB (call_lenK (K := K)) (by rfl) T.z_len PySem.boot_len (pa_cons (pv 2) pa_nil))) pa_nil))) (pg_sub (pv 3) (pv 6) set_list))))
          (pss_cons (ps_par (i := 6) (j := 8) rfl sc_swerve.nd rfl rfl (by decide) rfl rfl (pa_cons (pe_df d_draw hr (by decide) rfl pass0 (pa_cons (pv 0) (pa_cons (pe_callB (call_lenK (K := K)) (by rfl) T.z_len PySem.boot_len (pa_cons (pv 4) pa_nil)) pa_nil))) (pa_cons (pe_df d_draw hr (by decide) rfl pass0 (pa_cons (pv 0) (pa_cons (pv 1) pa_nil))) pa_nil)) (by rfl))
            (pss_one (ps_asg (pe_tup (pa_cons (pv 8) (pa_cons (pe_op (op_addK (K := K)) (pv 8) (pe_df d_draw hr (by decide) rfl pass0 (pa_cons (pv 0) (pa_cons (pe_op op_sub (pv 1) (pv 8)) pa_nil)))) pa_nil))) (pg_sub (pv 4) (pv 6) set_list))))))))), ?_⟩
    refine ⟨.ref sp, rfl, sp, _, rfl, gd, spr, by decide, by decide, fun way H1 s1 spr1 d0 d1 => ?_⟩
    have hb1 := s1.ex lb _ (nsp nbs) hb nofun
    have he1 := s1.ex le _ (nsp nes) he nofun
    have ha1 := s1.ex la _ (nsp nas) ha nofun
    have db1 := db.sm (s1.sub sub1)
    have de1 := de.sm (s1.sub sub1)
    have da1 := da.sm (s1.sub sub1)
    -- what is left when no box is turned
    have other : ∀ {H2 : Hp} {D : Ends} {z6 z7 z8 : Option V}, D.nx = (fun _ H' => Q .non H') → Sm (ct A) [sp] H H2 → Spr H2 sp →
        tIfS (tTest (tOp (rEqG K) (tVar 5) (tC (V.int 2))))
          (tSeq (tAsg (tCall (sp_draw A) [] E0 (tCons (tVar 0) (tCons (tCB (rLenK K) (tCons (tVar 3) tNil)) tNil))) (gName 6))
            (tAsg (tCall (sp_draw A) [] E0 (tCons (tVar 0) (tCons (tOp (rAddG K) (tVar 1) (tCB (rLenK K) (tCons (tVar 2) tNil))) tNil))) (gSub (tVar 3) (tVar 6) rSetL)))
          (tSeq (tPar 6 8 (tCons (tCall (sp_draw A) [] E0 (tCons (tVar 0) (tCons (tCB (rLenK K) (tCons (tVar 4) tNil)) tNil))) (tCons (tCall (sp_draw A) [] E0 (tCons (tVar 0) (tCons (tVar 1) tNil))) tNil)))
            (tAsg (tTup (tCons (tVar 8) (tCons (tOp (rAddG K) (tVar 8) (tCall (sp_draw A) [] E0 (tCons (tVar 0) (tCons (tOp (rI0 fun i j => V.int (i - j)) (tVar 1) (tVar 8)) tNil)))) tNil))) (gSub (tVar 4) (tVar 6) rSetL)))
          D [some (.ref sp), some (.int (n : Int)), some (.ref lb), some (.ref le), some (.ref la), some (.int way), z6, z7, z8] H2 := fun {H2 D z6 z7 z8} hD s2 spr2 => by
      have hb2 := s2.ex lb _ (nsp nbs) hb nofun
      have he2 := s2.ex le _ (nsp nes) he nofun
      have ha2 := s2.ex la _ (nsp nas) ha nofun
      have gd2 := s2.gd gd
      refine ⟨_, rfl, Or.inl ⟨rfl, _, rfl, ite2 (fun _ => ?_) fun _ => ?_⟩⟩
      · refine ⟨.ref sp, rfl, .ref le, rfl, le, eV, rfl, Or.inl (SqL.of he2), sp, _, rfl, gd2, spr2, by omega, by omega, fun at_ H3 s3 spr3 a0 a1 => ?_⟩
        obtain ⟨at_, rfl⟩ := Int.eq_ofNat_of_zero_le a0
        have s03 := s2.trans s3
        refine ⟨.ref sp, rfl, _, rfl, .ref lb, rfl, lb, bV, rfl, Or.inl (SqL.of (s3.ex lb _ (nsp nbs) hb2 nofun)), Or.inl ⟨_, _, rfl, rfl, sp, _, rfl, s03.gd gd, spr3, by omega, by omega, fun d H4 s4 spr4 c0 c1 => ?_⟩⟩
        obtain ⟨d, rfl⟩ := Int.eq_ofNat_of_zero_le c0
        have s04 := s03.trans s4
        have hb4 := s04.ex lb _ (nsp nbs) hb nofun
        have he4 := s04.ex le _ (nsp nes) he nofun
        have ha4 := s04.ex la _ (nsp nas) ha nofun
        refine ⟨.ref le, rfl, _, rfl, le, eV, _, at_, rfl, rfl, he4, ixN_of (by omega), ?_⟩
        show D.nx _ _
        rw [hD]
        have sp' : ∀ {N}, le ∈ N → Sm (ct A) N H4 (upd H4 le (.lst (eV.set at_ (.int (d : Int))))) := fun h => Sm.put h he4
        refine q _ bV (eV.set at_ (.int (d : Int))) aV bs (es.set at_ d) ws ((s04.sub up1).trans (sp' (by simp))) (spr4.sm (sp' (N := [le]) (by simp)) (fun z => nes (List.mem_singleton.mp z).symm)) (by rw [upd_ne nbe]; exact hb4) upd_same (by rw [upd_ne nea.symm]; exact ha4)
          ((db.sm (s04.sub sub1)).sm (sp' me)) ?_ ((da.sm (s04.sub sub1)).sm (sp' me)) hbo rfl (fun e h => ?_) (by rw [List.length_set]) hws rfl (.inl rfl)
        · rw [List.map_set]
          exact (Dqs.set (.int (d : Int)) at_ (de.sm (s04.sub sub1))).sm (sp' me)
        · rcases List.mem_or_eq_of_mem_set h with z | z
          · exact hes e z
          · rw [z]; omega
      · refine ⟨.ref sp, rfl, .ref la, rfl, la, aV, rfl, Or.inl (SqL.of ha2), sp, _, rfl, gd2, spr2, by omega, by omega, fun at_ H3 s3 spr3 a0 a1 => ?_⟩
        obtain ⟨at_, rfl⟩ := Int.eq_ofNat_of_zero_le a0
        have s03 := s2.trans s3
        refine ⟨.ref sp, rfl, _, rfl, sp, _, rfl, s03.gd gd, spr3, by omega, by omega, fun lo H4 s4 spr4 c0 c1 => ⟨_, _, rfl, ?_⟩⟩
        obtain ⟨lo, rfl⟩ := Int.eq_ofNat_of_zero_le c0
        have s04 := s03.trans s4
        refine ⟨_, rfl, _, rfl, .ref sp, rfl, _, rfl, _, rfl, _, _, rfl, rfl, sp, _, rfl, s04.gd gd, spr4, by omega, by omega, fun u H5 s5 spr5 u0 u1 => Or.inl ⟨_, _, rfl, rfl, sz_of (by show 2 ≤ 100000; decide), fun p hp => ?_⟩⟩
        obtain ⟨u, rfl⟩ := Int.eq_ofNat_of_zero_le u0
        have s05 := s04.trans s5
        have hb5 := s05.ex lb _ (nsp nbs) hb nofun
        have he5 := s05.ex le _ (nsp nes) he nofun
        have ha5 := s05.ex la _ (nsp nas) ha nofun
        have sn : ∀ {N}, Sm (ct A) N H5 (upd H5 p (.tup [.int (lo : Int), .int ((lo : Int) + (u : Int))])) := Sm.new hp
        have hb6 := (sn (N := [])).ex lb _ (fun z => nomatch z) hb5 nofun
        have he6 := (sn (N := [])).ex le _ (fun z => nomatch z) he5 nofun
        have ha6 := (sn (N := [])).ex la _ (fun z => nomatch z) ha5 nofun
        have hM5 : ∀ m ∈ M, H5 m ≠ none := fun m hm => s05.st m (hM m hm)
        have dn := dq_new hM5 hp (.two (.int (lo : Int)) (.int ((lo + u : Nat) : Int)))
        refine ⟨.ref la, rfl, _, rfl, la, aV, _, at_, rfl, rfl, ha6, ixN_of (by omega), ?_⟩
        show D.nx _ _
        rw [hD]
        have sp' : ∀ {N}, la ∈ N → Sm (ct A) N (upd H5 p (.tup [.int (lo : Int), .int ((lo : Int) + (u : Int))])) (upd (upd H5 p (.tup [.int (lo : Int), .int ((lo : Int) + (u : Int))])) la (.lst (aV.set at_ (.ref p)))) := fun h => Sm.put h ha6
        refine q _ bV eV (aV.set at_ (.ref p)) bs es (ws.set at_ (lo, lo + u)) ((s05.sub up1).trans (sn.trans (sp' (by simp)))) ((spr5.sm (c := ct A) (M := []) sn (fun z => nomatch z)).sm (sp' (N := [la]) (by simp)) (fun z => nas (List.mem_singleton.mp z).symm)) (by rw [upd_ne nba]; exact hb6) (by rw [upd_ne nea]; exact he6) upd_same
          (((db.sm (s05.sub sub1)).sm sn).sm (sp' ma)) (((de.sm (s05.sub sub1)).sm sn).sm (sp' ma)) ?_ hbo rfl hes rfl (fun b hb => ?_) (by rw [List.length_set]) (.inl rfl)
        · rw [List.map_set]
          exact (Dqs.set dn at_ ((da.sm (s05.sub sub1)).sm sn)).sm (sp' ma)
        · rcases List.mem_or_eq_of_mem_set hb with z | z
          · exact hws b z
          · rw [z]
            exact ⟨by show lo ≤ lo + u; omega, by show lo + u < n; omega⟩
    refine ⟨_, rfl, _, _, rfl, rfl, _, rfl, ite2 (fun _ => ?_) fun _ => ?_⟩
    · refine ⟨.ref lb, rfl, Nat.zero_le _, fun p0 hp0 => Or.inr ⟨.list (bs.map encB), .list (([] : List (Nat × Nat)).map encB), ?_, .lst (SqL.of upd_same) .nil, shaped_encB bs, shaped_encB _, _, rfl, ?_⟩⟩
      · exact .lst (SqL.of (by rw [upd_ne (ne_of_none hb1 hp0)]; exact hb1)) ((db1.sm (Sm.new (c := ct A) hp0)).dp (dict_encB bs))
      rw [listB_eqv]
      have s12 : ∀ {N}, Sm (ct A) N H1 (upd H1 p0 (.lst [])) := Sm.new hp0
      have spr2 := spr1.sm (c := ct A) (M := []) s12 (fun z => nomatch z)
      have s02 : Sm (ct A) [sp] H (upd H1 p0 (.lst [])) := s1.trans s12
      refine ite2 (fun ne => ?_) fun _ => other rfl s02 spr2
      have b1 : 1 ≤ bs.length := by
        match bs, ne with
        | [], ne => exact absurd ne (by decide)
        | _ :: _, _ => simp
      generalize (upd H1 p0 (.lst [])) = H2 at *
      have hb2 := s02.ex lb _ (nsp nbs) hb nofun
      refine ⟨.ref sp, rfl, .ref lb, rfl, lb, bV, rfl, Or.inl (SqL.of hb2), sp, _, rfl, s02.gd gd, spr2, by omega, by omega, fun at_ H3 s3 spr3 a0 a1 => ?_⟩
      obtain ⟨at_, rfl⟩ := Int.eq_ofNat_of_zero_le a0
      have s03 := s02.trans s3
      refine ⟨.ref sp, rfl, _, rfl, _, rfl, Or.inl ⟨_, _, rfl, rfl, sp, _, rfl, s03.gd gd, spr3, by omega, by omega, fun ow H4 s4 spr4 c0 c1 => ?_⟩⟩
      obtain ⟨ow, rfl⟩ := Int.eq_ofNat_of_zero_le c0
      have s04 := s03.trans s4
      have hb4 := s04.ex lb _ (nsp nbs) hb nofun
      have he4 := s04.ex le _ (nsp nes) he nofun
      have ha4 := s04.ex la _ (nsp nas) ha nofun
      have db4 := db.sm (s04.sub sub1)
      have ia : at_ < bs.length := by omega
      obtain ⟨xb, hxb, dxb⟩ := db4.get (i := at_) (d := encB bs[at_]) (by rw [List.getElem?_map, List.getElem?_eq_getElem ia]; rfl)
      obtain ⟨ax, ux, rfl, nax, hax, hux⟩ := dxb.tup_inv
      obtain ⟨y1, y2, rfl, k1, k2⟩ := hux.inv2
      cases k1.int_inv
      cases k2.int_inv
      obtain ⟨g1, g2⟩ := boxOk_get hbo (List.getElem?_eq_getElem ia)
      have hM4 : ∀ m ∈ M, H4 m ≠ none := fun m hm => s04.st m (hM m hm)
      -- the new box is put there
      have put : ∀ (i j : Nat) (p : Addr), H4 p = none → i < n + 0 + at_ → j < n + 0 + at_ → (i = bs[at_].1 ∨ j = bs[at_].2) → Q .non (upd (upd H4 p (.tup [.int (i : Int), .int (j : Int)])) lb (.lst (bV.set at_ (.ref p)))) := fun i j p hp hi hj hij => by
        have sn : ∀ {N}, Sm (ct A) N H4 (upd H4 p (.tup [.int (i : Int), .int (j : Int)])) := Sm.new hp
        have hb5 := (sn (N := [])).ex lb _ (fun z => nomatch z) hb4 nofun
        have he5 := (sn (N := [])).ex le _ (fun z => nomatch z) he4 nofun
        have ha5 := (sn (N := [])).ex la _ (fun z => nomatch z) ha4 nofun
        have sp' : ∀ {N}, lb ∈ N → Sm (ct A) N (upd H4 p (.tup [.int (i : Int), .int (j : Int)])) (upd (upd H4 p (.tup [.int (i : Int), .int (j : Int)])) lb (.lst (bV.set at_ (.ref p)))) := fun h => Sm.put h hb5
        have dn := dq_new hM4 hp (.two (.int (i : Int)) (.int (j : Int)))
        refine q _ (bV.set at_ (.ref p)) eV aV (bs.set at_ (i, j)) es ws ((s04.sub up1).trans (sn.trans (sp' (by simp)))) ((spr4.sm (c := ct A) (M := []) sn (fun z => nomatch z)).sm (sp' (N := [lb]) (by simp)) (fun z => nbs (List.mem_singleton.mp z).symm)) upd_same (by rw [upd_ne nbe.symm]; exact he5) (by rw [upd_ne nba.symm]; exact ha5)
          ?_ (((de.sm (s04.sub sub1)).sm sn).sm (sp' mb)) (((da.sm (s04.sub sub1)).sm sn).sm (sp' mb)) (boxOk_set hbo hi hj) (by rw [List.length_set]) hes rfl hws rfl (.inr ⟨at_, (i, j), rfl, fun z => ⟨_, List.getElem?_eq_getElem z, hij⟩⟩)
        rw [encB_set]
        exact (Dqs.set dn at_ (db4.sm sn)).sm (sp' mb)
      refine ⟨_, rfl, Or.inl ⟨rfl, _, rfl, ite2 (fun _ => ?_) fun _ => ?_⟩⟩
      · refine ⟨_, rfl, .ref lb, rfl, _, rfl, Or.inl ⟨lb, bV, _, _, rfl, rfl, SqL.of hb4, atI_of hxb, Or.inr (Or.inl ⟨ax, _, 1, _, rfl, rfl, SqT.of hax, atI_of (j := 1) rfl, sz_of (by show 2 ≤ 100000; decide), fun p hp => ?_⟩)⟩⟩
        exact ⟨.ref lb, rfl, _, rfl, lb, bV, _, at_, rfl, rfl, by rw [upd_ne (ne_of_none hb4 hp)]; exact hb4, ixN_of (by omega), put ow bs[at_].2 p hp (by omega) (by omega) (.inr rfl)⟩
      · refine ⟨.ref lb, rfl, _, rfl, Or.inl ⟨lb, bV, _, _, rfl, rfl, SqL.of hb4, atI_of hxb, Or.inr (Or.inl ⟨ax, _, 0, _, rfl, rfl, SqT.of hax, atI_of (j := 0) rfl, _, rfl, sz_of (by show 2 ≤ 100000; decide), fun p hp => ?_⟩)⟩⟩
        exact ⟨.ref lb, rfl, _, rfl, lb, bV, _, at_, rfl, rfl, by rw [upd_ne (ne_of_none hb4 hp)]; exact hb4, ixN_of (by omega), put bs[at_].1 ow p hp (by omega) (by omega) (.inl rfl)⟩
    · exact other rfl s1 spr1

def sp_wished (A : Ads) : Sp := fun vs H Q _ => ∃ (M : List Addr) (sp : Addr) (tone : V), vs = [.ref sp, tone] ∧ Gd (ct A) H ∧ (∀ m ∈ M, H m ≠ none) ∧ sp ∈ M ∧ Spr H sp ∧ ToneV tone ∧
  ∀ p H' n bs es (ws : List (Nat × Nat)), Sm (ct A) [sp] H H' → Spr H' sp → NetOk n bs es → (∀ b ∈ ws, b.1 ≤ b.2 ∧ b.2 < n) → ws.length = es.length → Lens 400 (wordsOf n bs) → bs.length ≤ 46 → Dq M H' (.ref p) (.tuple [encNet n bs es, .tuple (ws.map encB)]) → Q (.ref p) H'
theorem ok_wished (T : Txt K mg A) : Df P w K mg base CX0 8 "_law_wished" A.a_wished ["spring", "tone"] (sp_wished A) := by
  obtain ⟨fd, F, b⟩ := T.f_wished
  refine ⟨⟨fd, fnG_of F sc_wished (fun vs H Q E h => ?_) fun cdv A0 outer s H vs Q E hcd hr h => ?_, b, At.of F⟩, F.kp, T.g_wished⟩
  · obtain ⟨_, _, _, rfl, _⟩ := h
    rfl
  · obtain ⟨M, sp, tone, rfl, gd, hM, ms, spr, tv, q⟩ := h
    have d_draw := ok_draw (P := P) (w := w) (base := base) T
    have d_plan := ok_plan (P := P) (w := w) (base := base) T
    have d_built := ok_built (P := P) (w := w) (base := base) T
    have d_swerve := ok_swerve (P := P) (w := w) (base := base) T
    refine ⟨_, PSs.nox (pss_cons (ps_asg (pe_df d_plan hr (by decide) rfl pass0 (pa_cons (pv 0) pa_nil)) (pg_tup rfl (pgs_cons (pg_name (i := 2) sc_wished.nd rfl (Or.inl rfl)) (pgs_cons (pg_name (i := 3) sc_wished.nd rfl (Or.inl rfl)) pgs_nil))))
        (pss_cons (ps_asg (pe_df d_built hr (by decide) rfl pass0 (pa_cons (pv 0) (pa_cons (pv 2) (pa_cons (pv 3) (pa_cons (pv 1) pa_nil))))) (pg_tup rfl (pgs_cons (pg_name (i := 4) sc_wished.nd rfl (Or.inl rfl)) (pgs_cons (pg_name (i := 5) sc_wished.nd rfl (Or.inl rfl)) pgs_nil))))
        (C8.pss_cut (ps_if (pt_cmpR (op_eqK (K := K) hr) (pe_df d_draw hr (by decide) rfl pass0 (pa_cons (pv 0) (pa_cons pe_int pa_nil))) pe_int (nomark _))
        (pss_one (ps_expr (pe_df d_swerve hr (by decide) rfl pass0 (pa_cons (pv 0) (pa_cons (pv 2) (pa_cons (pv 4) (pa_cons (pv 5) (pa_cons (pv 3) pa_nil))))))))
        pss_nil)
        (pss_one (ps_ret (pe_tup (pa_cons (pe_tup (pa_cons (pv 2) (pa_cons (pe_callTy (call_tupleK (K := K)) (by rfl) T.z_tuple (by decide +kernel) (pa_cons (pv 4) pa_nil)) (pa_cons (pe_callTy (call_tupleK (K := K)) (by rfl) T.z_tuple (by decide +kernel) (pa_cons (pv 5) pa_nil)) pa_nil)))) (pa_cons (pe_callTy (call_tupleK (K := K)) (by rfl) T.z_tuple (by decide +kernel) (pa_cons (pv 3) pa_nil)) pa_nil)))))))), ?_⟩
    refine ⟨.ref sp, rfl, M, sp, rfl, gd, hM, ms, spr, fun p1 H1 n la aV ws s1 spr1 hp1 fla hla da pl => ⟨p1, _, rfl, SqT.of hp1, rfl, _, _, rfl, _, _, rfl, rfl, ?_⟩⟩
    have nas : la ≠ sp := fun z => by
      obtain ⟨xs, e⟩ := spr.some
      rw [← z, fla] at e
      cases e
    have hM1 : ∀ m ∈ la :: M, H1 m ≠ none := fun m hm => by
      rcases List.mem_cons.mp hm with z | z
      · rw [z, hla]; nofun
      · exact s1.st m (hM m z)
    refine ⟨.ref sp, rfl, _, rfl, .ref la, rfl, tone, rfl, la :: M, sp, la, n, aV, ws, tone, rfl, s1.gd gd, hM1, List.mem_cons_of_mem _ ms, spr1, List.mem_cons_self, nas, hla, da, pl, tv, fun p2 H2 lb le bV eV bs es s2 spr2 hp2 flb fle nbe hb he db de bo b60 hes les ln li => ⟨p2, _, rfl, SqT.of hp2, rfl, _, _, rfl, _, _, rfl, rfl, ?_⟩⟩
    have nsp : ∀ {a : Addr}, a ≠ sp → a ∉ [sp] := fun h z => h (List.mem_singleton.mp z)
    have hla2 := s2.ex la _ (nsp nas) hla nofun
    have nba : lb ≠ la := fun z => by
      rw [z, hla] at flb
      cases flb
    have nea : le ≠ la := fun z => by
      rw [z, hla] at fle
      cases fle
    obtain ⟨sx, hsx⟩ := spr1.some
    have nbs : lb ≠ sp := fun z => by
      rw [z, hsx] at flb
      cases flb
    have nes : le ≠ sp := fun z => by
      rw [z, hsx] at fle
      cases fle
    have da2 : Dqs (lb :: le :: la :: M) H2 aV (ws.map encB) := (((da.wk fle).wk flb).sm (s2.sub fun z hz => by
      rw [List.mem_singleton.mp hz]
      exact List.mem_cons_of_mem _ (List.mem_cons_of_mem _ (List.mem_cons_of_mem _ ms))))
    have hM2 : ∀ m ∈ lb :: le :: la :: M, H2 m ≠ none := fun m hm => by
      rcases List.mem_cons.mp hm with z | hm
      · rw [z, hb]; nofun
      rcases List.mem_cons.mp hm with z | hm
      · rw [z, he]; nofun
      · exact s2.st m (hM1 m hm)
    have s02 : Sm (ct A) [sp] H H2 := s1.trans s2
    have flb0 : H lb = none := s1.fresh flb
    have fle0 : H le = none := s1.fresh fle
    have w1 := pl.l1
    have w12 := pl.l2
    have sub4 : ∀ z ∈ [lb, le, la, sp], z ∈ lb :: le :: la :: M := fun z hz => by
      rcases List.mem_cons.mp hz with y | hz
      · rw [y]; simp
      rcases List.mem_cons.mp hz with y | hz
      · rw [y]; simp
      rcases List.mem_cons.mp hz with y | hz
      · rw [y]; simp
      · rw [List.mem_singleton.mp hz]
        exact List.mem_cons_of_mem _ (List.mem_cons_of_mem _ (List.mem_cons_of_mem _ ms))
    have up1 : ∀ z ∈ [sp], z ∈ [lb, le, la, sp] := fun z hz => by rw [List.mem_singleton.mp hz]; simp
    refine ⟨fun σ' H' => ∃ bV eV aV bs es ws, σ' = [some (.ref sp), some tone, some (.int (n : Int)), some (.ref la), some (.ref lb), some (.ref le)] ∧ Sm (ct A) [lb, le, la, sp] H H' ∧ Spr H' sp ∧ H' lb = some (.lst bV) ∧ H' le = some (.lst eV) ∧ H' la = some (.lst aV) ∧
      Dqs (lb :: le :: la :: M) H' bV ((bs : List (Nat × Nat)).map encB) ∧ Dqs (lb :: le :: la :: M) H' eV ((es : List Nat).map nI) ∧ Dqs (lb :: le :: la :: M) H' aV ((ws : List (Nat × Nat)).map encB) ∧ boxOk n 0 bs ∧ bs.length ≤ 46 ∧ (∀ e ∈ es, e < n + bs.length) ∧ 1 ≤ es.length ∧ es.length ≤ 12 ∧ (∀ b ∈ ws, b.1 ≤ b.2 ∧ b.2 < n) ∧ ws.length = es.length ∧ Lens 400 (wordsOf n bs), ?_, ?_⟩
    · refine ⟨.ref sp, rfl, sp, _, rfl, s02.gd gd, spr2, by decide, by decide, fun d H3 s3 spr3 d0 d1 => Or.inl ⟨rfl, _, rfl, ite2 (fun _ => ?_) fun _ => ?_⟩⟩
      · have sub1 : ∀ z ∈ [sp], z ∈ lb :: le :: la :: M := fun z hz => sub4 z (up1 z hz)
        refine ⟨.ref sp, rfl, _, rfl, .ref lb, rfl, .ref le, rfl, .ref la, rfl, lb :: le :: la :: M, sp, lb, le, la, n, bV, eV, aV, bs, es, ws, rfl, (s02.trans s3).gd gd, fun m hm => s3.st m (hM2 m hm), ⟨List.mem_cons_of_mem _ (List.mem_cons_of_mem _ (List.mem_cons_of_mem _ ms)), by simp, by simp, by simp⟩, ⟨nbs, nes, nas, nbe, nba, nea⟩, spr3,
          s3.ex lb _ (nsp nbs) hb nofun, s3.ex le _ (nsp nes) he nofun, s3.ex la _ (nsp nas) hla2 nofun, db.sm (s3.sub sub1), de.sm (s3.sub sub1), da2.sm (s3.sub sub1), bo, hes, pl.w, pl.n1, pl.n2, by omega, by omega, by omega, w1, w12, fun H4 bV' eV' aV' bs' es' ws' s4 spr4 hb' he' ha' db' de' da' bo' lb' hes' le' hws' lw' tn => ?_⟩
        have ln' : Lens 400 (wordsOf n bs') := by
          rcases tn with z | ⟨at_, b, z, hp⟩
          · rw [z]
            exact ln.mono (by decide)
          · rw [z] at bo' ⊢
            exact lens_turned2 ln li bo bo' hp
        exact ⟨bV', eV', aV', bs', es', ws', rfl, ((s02.trans s3).sub up1).trans s4, spr4, hb', he', ha', db', de', da', bo', by omega, by rw [lb']; exact hes', by omega, by omega, hws', by omega, ln'⟩
      · have sub1 : ∀ z ∈ [sp], z ∈ lb :: le :: la :: M := fun z hz => sub4 z (up1 z hz)
        exact ⟨bV, eV, aV, bs, es, ws, rfl, (s02.trans s3).sub up1, spr3, s3.ex lb _ (nsp nbs) hb nofun, s3.ex le _ (nsp nes) he nofun, s3.ex la _ (nsp nas) hla2 nofun, db.sm (s3.sub sub1), de.sm (s3.sub sub1), da2.sm (s3.sub sub1), bo, b60, hes, by omega, by omega, pl.w, by omega, ln.mono (by decide)⟩
    · clear hb he db de bo b60 hes les ln li da2 hla2 spr2 hM2 da hla hM1
      rintro σ' H3 ⟨bV, eV, aV, bs, es, ws, rfl, s3, spr3, hb, he, ha, db, de, da, bo, b60, hes, e1, e12, hws, les, ln⟩
      have n1 := pl.n1
      have n12 := pl.n2
      have sub : ∀ z ∈ M, z ∈ lb :: le :: la :: M := fun z hz => List.mem_cons_of_mem _ (List.mem_cons_of_mem _ (List.mem_cons_of_mem _ hz))
      have hM3 : ∀ m ∈ M, H3 m ≠ none := fun m hm => s3.st m (hM m hm)
      refine ⟨_, rfl, .ref lb, rfl, lb, bV, rfl, Or.inl ⟨SqL.of hb, fun pb hpb => ?_⟩⟩
      have sb : ∀ {N}, Sm (ct A) N H3 (upd H3 pb (.tup bV)) := Sm.new hpb
      have d1 := dq_new hM3 hpb (db.sub sub)
      have he4 := (sb (N := [])).ex le _ (fun z => nomatch z) he nofun
      have ha4 := (sb (N := [])).ex la _ (fun z => nomatch z) ha nofun
      have de4 := (de.sub sub).sm (sb (N := M))
      have da4 := (da.sub sub).sm (sb (N := M))
      have hM4 : ∀ m ∈ M, (upd H3 pb (.tup bV)) m ≠ none := fun m hm => (sb (N := [])).st m (hM3 m hm)
      generalize (upd H3 pb (.tup bV)) = H4 at *
      refine ⟨.ref le, rfl, le, eV, rfl, Or.inl ⟨SqL.of he4, fun pe hpe => ⟨sz_of (by show 3 ≤ 100000; decide), fun pn hpn => ?_⟩⟩⟩
      have se : ∀ {N}, Sm (ct A) N H4 (upd H4 pe (.tup eV)) := Sm.new hpe
      have d2 := dq_new hM4 hpe de4
      have hM5 : ∀ m ∈ M, (upd H4 pe (.tup eV)) m ≠ none := fun m hm => (se (N := [])).st m (hM4 m hm)
      have sn : ∀ {N}, Sm (ct A) N (upd H4 pe (.tup eV)) (upd (upd H4 pe (.tup eV)) pn (.tup [.int (n : Int), .ref pb, .ref pe])) := Sm.new hpn
      have d3 := dq_new hM5 hpn (.three (.int (n : Int)) (d1.sm se) d2)
      have ha6 := ((se (N := [])).trans sn).ex la _ (fun z => nomatch z) ha4 nofun
      have da6 := (da4.sm (se (N := M))).sm (sn (N := M))
      have hM6 : ∀ m ∈ M, (upd (upd H4 pe (.tup eV)) pn (.tup [.int (n : Int), .ref pb, .ref pe])) m ≠ none := fun m hm => (sn (N := [])).st m (hM5 m hm)
      have s46 : ∀ {N}, Sm (ct A) N H4 (upd (upd H4 pe (.tup eV)) pn (.tup [.int (n : Int), .ref pb, .ref pe])) := se.trans sn
      generalize (upd (upd H4 pe (.tup eV)) pn (.tup [.int (n : Int), .ref pb, .ref pe])) = H6 at *
      refine ⟨.ref la, rfl, la, aV, rfl, Or.inl ⟨SqL.of ha6, fun pa hpa => ⟨sz_of (by show 2 ≤ 100000; decide), fun pp hpp => ?_⟩⟩⟩
      have sa : ∀ {N}, Sm (ct A) N H6 (upd H6 pa (.tup aV)) := Sm.new hpa
      have d4 := dq_new hM6 hpa da6
      have hM7 : ∀ m ∈ M, (upd H6 pa (.tup aV)) m ≠ none := fun m hm => (sa (N := [])).st m (hM6 m hm)
      have spp : ∀ {N}, Sm (ct A) N (upd H6 pa (.tup aV)) (upd (upd H6 pa (.tup aV)) pp (.tup [.ref pn, .ref pa])) := Sm.new hpp
      have d5 := dq_new hM7 hpp (.two (d3.sm sa) d4)
      have sall : ∀ {N}, Sm (ct A) N H3 (upd (upd H6 pa (.tup aV)) pp (.tup [.ref pn, .ref pa])) := sb.trans (s46.trans (sa.trans spp))
      exact q pp _ n bs es ws ((((s3.out flb0).out fle0).out fla).trans sall) (spr3.sm (c := ct A) (M := []) sall (fun z => nomatch z)) ⟨n1, n12, by omega, e1, by omega, bo, hes⟩ hws les ln b60 d5

/-- bare tuples of numbers -/
inductive Fws (M : List Addr) (H : Hp) : List V → List (List Nat) → Prop
  | nil : Fws M H [] []
  | cons {p : Addr} {wd : List Nat} {vs : List V} {ws : List (List Nat)} : p ∉ M → FrzT H p (wd.map fun x : Nat => V.int (x : Int)) → Fws M H vs ws → Fws M H (.ref p :: vs) (wd :: ws)
section
variable {c : Ct} {M M' : List Addr} {H H' : Hp}
theorem Fws.length : ∀ {vs : List V} {ws : List (List Nat)}, Fws M H vs ws → vs.length = ws.length
  | _, _, .nil => rfl
  | _, _, .cons _ _ r => by rw [List.length_cons, List.length_cons, r.length]
theorem Fws.sm (s : Sm c M H H') : ∀ {vs : List V} {ws : List (List Nat)}, Fws M H vs ws → Fws M H' vs ws
  | _, _, .nil => .nil
  | _, _, .cons n h r => .cons n (h.sm s n) (r.sm s)
theorem Fws.sub (h : ∀ z ∈ M', z ∈ M) : ∀ {vs : List V} {ws : List (List Nat)}, Fws M H vs ws → Fws M' H vs ws
  | _, _, .nil => .nil
  | _, _, .cons n f r => .cons (fun z => n (h _ z)) f (r.sub h)
theorem Fws.snoc {p : Addr} {wd : List Nat} (n : p ∉ M) (f : FrzT H p (wd.map fun x : Nat => V.int (x : Int))) : ∀ {vs : List V} {ws : List (List Nat)}, Fws M H vs ws → Fws M H (vs ++ [.ref p]) (ws ++ [wd])
  | _, _, .nil => .cons n f .nil
  | _, _, .cons n' f' r => .cons n' f' (r.snoc n f)
theorem Fws.get : ∀ {vs : List V} {ws : List (List Nat)} {i : Nat} {wd : List Nat}, Fws M H vs ws → ws[i]? = some wd → ∃ p, vs[i]? = some (.ref p) ∧ p ∉ M ∧ FrzT H p (wd.map fun x : Nat => V.int (x : Int))
  | _, _, _, _, .nil, e => by cases e
  | _, _, 0, _, .cons n f r, e => by
    cases e
    exact ⟨_, rfl, n, f⟩
  | _, _, i + 1, _, .cons n f r, e => r.get (i := i) e
end
theorem frz_new {H : Hp} {p : Addr} {o : Obj} {xs : List V} (h1 : o.cls = .type "tuple") (h2 : o.dict = none) : FrzT (upd H p (.frz o (.tup xs))) p xs := ⟨o, upd_same, h1, h2⟩
def sp_words (A : Ads) : Sp := fun vs H Q _ => ∃ (M : List Addr) (v0 : V) (n : Nat) (bs : List (Nat × Nat)) (es : List Nat) (L : Nat), vs = [v0] ∧ (∀ m ∈ M, H m ≠ none) ∧ Dq M H v0 (encNet n bs es) ∧ NetOk n bs es ∧ L ≤ 400 ∧ Lens L (wordsOf n bs) ∧
  ∀ lw vs H', Sm (ct A) [] H H' → lw ∉ M → H' lw = some (.lst vs) → Fws M H' vs (wordsOf n bs) → Q (.ref lw) H'
theorem ok_words (T : Txt K mg A) : Df P w K mg base CX0 1 "_law_words" A.a_words ["web"] (sp_words A) := by
  obtain ⟨fd, F, b⟩ := T.f_words
  refine ⟨⟨fd, fnG_of F sc_words (fun vs H Q E h => ?_) fun cdv A0 outer s H vs Q E hcd hr h => ?_, b, At.of F⟩, F.kp, T.g_words⟩
  · obtain ⟨_, _, _, _, _, _, rfl, _⟩ := h
    rfl
  · obtain ⟨M, v0, n, bs, es, L, rfl, hM, h0, hN, hL4, hLn, q⟩ := h
    obtain ⟨a, us, rfl, na, ha, hu⟩ := h0.tup_inv
    obtain ⟨x1, x2, x3, rfl, h1, h2, h3⟩ := hu.inv3
    cases h1.int_inv
    obtain ⟨ab, ub, rfl, nab, hab, hub⟩ := h2.tup_inv
    have lub : ub.length = bs.length := by
      have := hub.length
      rw [List.length_map] at this
      exact this
    refine ⟨_, PSs.nox (pss_cons (ps_setLc (i := 1) (own := [("k", 2)]) (g := gName 2) (tt := tYes) rfl sc_words.nd rfl rfl (sw_true rfl rfl rfl (by decide +kernel)) (pi_range1 (by rfl) T.z_range (pa_cons (pe_ix (ix_K (K := K)) (pv 0) pe_int (fun _ _ => rfl)) pa_nil)) (blkOk_by (own := [("k", 2)]) (N := ["web", "words", "k", "box"]) (sc := defScope s_words) (by decide +kernel)) (fun _ _ _ _ _ => pg_name (i := 2) sc_words.nd rfl (Or.inl rfl)) (fun _ _ _ _ _ => pts_nil) (fun _ _ _ _ _ => (pe_tupF (pa_cons (pv 2) pa_nil))))
        (pss_cons (ps_for PassesOwn.never rfl (pi_K (K := K) (pe_ix (ix_K (K := K)) (pv 0) pe_int (fun _ _ => rfl))) (pg_name (i := 3) sc_words.nd rfl (Or.inl rfl))
        (pss_one (ps_expr (pe_bm PySem.F.plainAttrs_list PySem.F.slot_list_append PySem.F.type_list_append mt_append (pv 1) (pa_cons (pe_op (op_addF (K := K)) (pe_ix (ix_K (K := K)) (pv 1) (pe_ix (ix_K (K := K)) (pv 3) pe_int (fun _ _ => rfl)) (fun _ _ => rfl)) (pe_ix (ix_K (K := K)) (pv 1) (pe_ix (ix_K (K := K)) (pv 3) pe_int (fun _ _ => rfl)) (fun _ _ => rfl))) pa_nil)))))
        (pss_one (ps_ret (pv 1))))), ?_⟩
    have n12 := hN.n2
    have b60 := hN.b
    refine ⟨.ref a, rfl, Or.inr (Or.inl ⟨a, _, 0, _, rfl, rfl, SqT.of ha, atI_of (j := 0) rfl, _, rfl, by omega, by omega, fun lw hlw => L2.lc_it (L2.walk_range (lo := 0) (n := (n : Int).toNat))
      (fun i H' => Sm (ct A) [lw] (upd H lw (.lst [])) H' ∧ ∃ xs, H' lw = some (.lst xs) ∧ Fws (lw :: M) H' xs ((List.range i).map fun k => [k])) ?_ (fun _ _ _ _ => trivial) (fun i x H' H'' hi hW hY => ?_) (fun H3 hW => ?_)⟩)⟩
    · exact ⟨Sm.refl, [], upd_same, .nil⟩
    · obtain ⟨sW, xs, eW, dW⟩ := hW
      obtain ⟨rfl, rfl⟩ := hY
      refine ⟨rfl, .int (0 + (i : Nat)), rfl, sz_of (by show 1 ≤ 100000; decide), fun p o hp o1 o2 => ?_⟩
      have nDp : lw ≠ p := ne_of_none eW hp
      have s2' : ∀ {N}, Sm (ct A) N H'' (upd H'' p (.frz o (.tup [.int (0 + (i : Nat))]))) := Sm.new hp
      have lx : xs.length = i := dW.length.trans (by simp)
      have sAll : Sm (ct A) [lw] H H'' := (Sm.new hlw).trans sW
      have e2 : (upd H'' p (.frz o (.tup [.int (0 + (i : Nat))]))) lw = some (.lst xs) := by rw [upd_ne nDp]; exact eW
      refine ⟨xs, e2, sz_lt (by omega), ?_, _, upd_same, ?_⟩
      · exact (sW.trans s2').trans (Sm.put List.mem_cons_self e2)
      · have sp' : Sm (ct A) (lw :: M) _ (upd (upd H'' p (.frz o (.tup [.int (0 + (i : Nat))]))) lw (.lst (xs ++ [.ref p]))) := Sm.put List.mem_cons_self e2
        rw [List.range_succ, List.map_append]
        have np : p ∉ lw :: M := fun z => by
          rcases List.mem_cons.mp z with z | z
          · exact nDp z.symm
          · exact sAll.st p (hM p z) hp
        have fz : FrzT (upd H'' p (.frz o (.tup [.int (0 + (i : Nat))]))) p ([i].map fun x : Nat => V.int (x : Int)) := by
          have := frz_new (H := H'') (p := p) (xs := [.int (0 + (i : Nat))]) o1 o2
          rw [Int.zero_add] at this ⊢
          exact this
        exact ((dW.sm s2').snoc np fz).sm sp'
    obtain ⟨s3, xs, e3, dW⟩ := hW
    rw [show (n : Int).toNat = n by omega] at dW
    have s03 : Sm (ct A) [lw] H H3 := (Sm.new hlw).trans s3
    have outL : ∀ {b o}, H b = some o → b ∉ [lw] := fun e z => by
      rw [List.mem_singleton.mp z, hlw] at e
      cases e
    have ha3 : H3 a = some (.tup [.int (n : Int), .ref ab, x3]) := s03.ex a _ (outL ha) ha nofun
    have hab3 : H3 ab = some (.tup ub) := s03.ex ab _ (outL hab) hab nofun
    refine ⟨.ref a, rfl, Or.inr (Or.inl ⟨a, _, 1, _, rfl, rfl, SqT.of ha3, atI_of (j := 1) rfl, ab, rfl, Or.inr ⟨⟨ub, SqT.of hab3⟩, L2.for_it (L2.walk_tup (K := K) (a := ab) (xs := ub))
      (fun i σ' H' => ∃ z2 z3 wV, σ' = [some (.ref a), some (.ref lw), z2, z3] ∧ Sm (ct A) [lw] H H' ∧ H' lw = some (.lst wV) ∧ Fws (lw :: M) H' wV (wordsOf n (bs.take i)))
      ⟨_, _, xs, rfl, s03, e3, dW⟩ (fun i σ' H' _ hW => ?_) (fun i x σ' H' H'' hi hW hY => ?_) (fun σ' H4 hW => ?_)⟩⟩)⟩
    · obtain ⟨_, _, _, _, sW, _⟩ := hW
      exact SqT.of (sW.ex ab _ (outL hab) hab nofun)
    · obtain ⟨z2, z3, wV, rfl, sW, eW, dW⟩ := hW
      obtain ⟨rfl, hx⟩ := hY
      have hi' : i < bs.length := by omega
      obtain ⟨d, hd, hxd⟩ := hub.getV hx
      rw [List.getElem?_map, List.getElem?_eq_getElem hi'] at hd
      cases hd
      obtain ⟨ax, ux, rfl, nax, hax, hux⟩ := hxd.tup_inv
      obtain ⟨y1, y2, rfl, k1, k2⟩ := hux.inv2
      cases k1.int_inv
      cases k2.int_inv
      have hax' : H'' ax = some (.tup [.int (bs[i].1 : Int), .int (bs[i].2 : Int)]) := sW.ex ax _ (outL hax) hax nofun
      obtain ⟨g1, g2⟩ := boxOk_get (i := i) hN.bx (List.getElem?_eq_getElem hi')
      have lwo := wordsOf_len n (bs.take i)
      rw [List.length_take, Nat.min_eq_left (by omega)] at lwo
      have lwV := dW.length
      rw [lwo] at lwV
      have Li := hLn.take i
      have r1 : (wordsOf n (bs.take i))[(bs[i]).1]? = some ((wordsOf n (bs.take i))[(bs[i]).1]'(by omega)) := List.getElem?_eq_getElem _
      have r2 : (wordsOf n (bs.take i))[(bs[i]).2]? = some ((wordsOf n (bs.take i))[(bs[i]).2]'(by omega)) := List.getElem?_eq_getElem _
      generalize (wordsOf n (bs.take i))[(bs[i]).1]'(by omega) = w1 at r1
      generalize (wordsOf n (bs.take i))[(bs[i]).2]'(by omega) = w2 at r2
      obtain ⟨a1, q1, n1, f1⟩ := dW.get r1
      obtain ⟨a2, q2, n2', f2⟩ := dW.get r2
      have p1 := lens_get Li r1
      have p2 := lens_get Li r2
      refine ⟨.ref lw, rfl, Or.inl ⟨rfl, _, SqL.of eW⟩, .ref lw, rfl, .ref ax, rfl, Or.inr (Or.inl ⟨ax, _, 0, _, rfl, rfl, SqT.of hax', atI_of (j := 0) rfl, Or.inl ⟨lw, wV, _, _, rfl, rfl, SqL.of eW, atI_of q1,
        .ref lw, rfl, .ref ax, rfl, Or.inr (Or.inl ⟨ax, _, 1, _, rfl, rfl, SqT.of hax', atI_of (j := 1) rfl, Or.inl ⟨lw, wV, _, _, rfl, rfl, SqL.of eW, atI_of q2, ?_⟩⟩)⟩⟩)⟩
      refine Or.inr ⟨a1, a2, _, _, rfl, rfl, f1.sq, f2.sq, fun z => ?_, fun z => ?_, sz_of (by rw [List.length_map, List.length_map]; omega), fun p o hp o1 o2 => ?_⟩
      · have := List.map_eq_nil_iff.mp z
        rw [this] at p1
        exact absurd p1.1 (by decide)
      · have := List.map_eq_nil_iff.mp z
        rw [this] at p2
        exact absurd p2.1 (by decide)
      rw [← List.map_append] at *
      have nDp : lw ≠ p := ne_of_none eW hp
      have e2 : (upd H'' p (.frz o (.tup ((w1 ++ w2).map fun x : Nat => V.int (x : Int))))) lw = some (.lst wV) := by rw [upd_ne nDp]; exact eW
      have np : p ∉ lw :: M := fun z => by
        rcases List.mem_cons.mp z with z | z
        · exact nDp z.symm
        · exact sW.st p (hM p z) hp
      refine ⟨lw, wV, _, rfl, rfl, e2, sz_lt (by omega), _, _, _, rfl, (sW.trans (Sm.new hp)).trans (Sm.put List.mem_cons_self e2), upd_same, ?_⟩
      rw [wordsOf_take (List.getElem?_eq_getElem hi')]
      unfold wstep
      rw [getD_of r1, getD_of r2]
      exact ((dW.sm (Sm.new (c := ct A) hp)).snoc np (frz_new o1 o2)).sm (Sm.put (c := ct A) List.mem_cons_self e2)
    · obtain ⟨z2, z3, wV, rfl, sW, eW, dW⟩ := hW
      rw [lub, List.take_length] at dW
      refine ⟨.ref lw, rfl, q _ _ _ (sW.out hlw) (fun z => ?_) eW (dW.sub fun z hz => List.mem_cons_of_mem _ hz)⟩
      exact hM lw z hlw

def sp_tone (A : Ads) : Sp := fun vs H Q _ => ∃ (M : List Addr) (sp : Addr), vs = [.ref sp] ∧ Gd (ct A) H ∧ (∀ m ∈ M, H m ≠ none) ∧ sp ∈ M ∧ Spr H sp ∧
  ∀ v H', Sm (ct A) [sp] H H' → Spr H' sp → ToneV v → Q v H'
theorem ok_tone (T : Txt K mg A) : Df P w K mg base CX0 3 "_law_tone" A.a_tone ["spring"] (sp_tone A) := by
  obtain ⟨fd, F, b⟩ := T.f_tone
  refine ⟨⟨fd, fnG_of F sc_tone (fun vs H Q E h => ?_) fun cdv A0 outer s H vs Q E hcd hr h => ?_, b, At.of F⟩, F.kp, T.g_tone⟩
  · obtain ⟨_, _, rfl, _⟩ := h
    rfl
  · obtain ⟨M, sp, rfl, gd, hM, ms, hs, q⟩ := h
    have d_draw := ok_draw (P := P) (w := w) (base := base) T
    have d_pick := ok_pick (P := P) (w := w) (base := base) T
    refine ⟨_, PSs.nox (pss_one (ps_ret (pe_df d_pick hr (by decide) rfl pass0 (pa_cons (pv 0) (pa_cons (pe_lst (pa_cons pe_str (pa_cons pe_str (pa_cons pe_str (pa_cons pe_str (pa_cons pe_str (pa_cons pe_str (pa_cons pe_int (pa_cons pe_int (pa_cons (pe_op (op_addK (K := K)) pe_int (pe_df d_draw hr (by decide) rfl pass0 (pa_cons (pv 0) (pa_cons pe_int pa_nil)))) pa_nil)))))))))) pa_nil))))), ?_⟩
    obtain ⟨sx, hsx⟩ := hs.some
    refine ⟨.ref sp, rfl, ?_⟩
    dsimp only [tCons, tLst, tOp, tC]
    refine ⟨.ref sp, rfl, sp, 7, rfl, gd, hs, by decide, by decide, fun d H1 s1 hs1 d0 d1 => Or.inl ⟨_, _, rfl, rfl, sz_of (by show 9 ≤ 100000; decide), fun l hl => ?_⟩⟩
    obtain ⟨sx2, hsx2⟩ := hs1.some
    have nls : l ≠ sp := (ne_of_none hsx2 hl).symm
    have sl : Sm (ct A) [sp] H1 (upd H1 l (.lst [.str "any", .str "even", .str "first", .str "last", .str "sets", .str "ends", .int 2, .int 3, .int (2 + d)])) := Sm.new hl
    refine ⟨sp, l, _, rfl, sl.gd (s1.gd gd), hs1.sm (c := ct A) (M := []) (Sm.new hl) (fun z => nomatch z), nls, upd_same, Nat.succ_pos _, (by show 9 ≤ 1000000; decide), fun v H2 s2 hs2 hv => q _ _ ((s1.trans sl).trans s2) hs2 ?_⟩
    simp only [List.mem_cons, List.not_mem_nil, or_false] at hv
    rcases hv with rfl | rfl | rfl | rfl | rfl | rfl | rfl | rfl | rfl
    · exact Or.inr (Or.inl rfl)
    · exact Or.inr (Or.inr (Or.inl rfl))
    · exact Or.inr (Or.inr (Or.inr (Or.inl rfl)))
    · exact Or.inr (Or.inr (Or.inr (Or.inr (Or.inl rfl))))
    · exact Or.inr (Or.inr (Or.inr (Or.inr (Or.inr (Or.inl rfl)))))
    · exact Or.inr (Or.inr (Or.inr (Or.inr (Or.inr (Or.inr rfl)))))
    · exact Or.inl ⟨2, rfl, by decide, by decide⟩
    · exact Or.inl ⟨3, rfl, by decide, by decide⟩
    · exact Or.inl ⟨(2 + d).toNat, by rw [Int.toNat_of_nonneg (by omega)], by omega, by omega⟩
theorem tone_data {v : V} (h : ToneV v) : ∃ x, kindD x = true ∧ ∀ M H, Dq M H v x := by
  rcases h with ⟨m, rfl, m1, m2⟩ | rfl | rfl | rfl | rfl | rfl | rfl
  · exact ⟨.int (m : Int), by show (decide (2 ≤ (m : Int)) && decide ((m : Int) ≤ 8)) = true; rw [decide_eq_true (by omega), decide_eq_true (by omega)]; rfl, fun _ _ => .int _⟩
  all_goals exact ⟨.str _, rfl, fun _ _ => .str _⟩
def tonesD : List PyData := [.str "any", .str "even", .int 2, .int 3, .int 4, .int 5, .int 6, .int 7, .int 8, .str "first", .str "last", .str "sets", .str "ends"]
theorem ok_tones (T : Txt K mg A) : Df P w K mg base CX0 1 "_law_tones" A.a_tones [] (spD (ct A) fun ds d => ds = [] ∧ d = .list tonesD) := by
  obtain ⟨fd, F, b⟩ := T.f_tones
  refine ⟨⟨fd, fnG_of F sc_tones (spD_len fun ds d h => ?_) fun cdv A0 outer s H vs Q E hcd hr h => ?_, b, At.of F⟩, F.kp, T.g_tones⟩
  · obtain ⟨rfl, _⟩ := h
    rfl
  · obtain ⟨M, ds, d, gd, hM, hq, ⟨rfl, rfl⟩, q⟩ := h
    cases hq
    refine ⟨_, PSs.nox (pss_one (ps_ret (pe_op (op_addK (K := K)) (pe_op (op_addK (K := K)) (pe_lst (pa_cons pe_str (pa_cons pe_str pa_nil))) (pe_listRg rfl (by rfl) T.z_list (prg_2 (by rfl) T.z_range pe_int pe_int))) (pe_lst (pa_cons pe_str (pa_cons pe_str (pa_cons pe_str (pa_cons pe_str pa_nil)))))))), ?_⟩
    dsimp only [tRet, tOp, tLst, tCons, tNil, tC, tLstRg, tRg2]
    refine ⟨sz_of (by show 2 ≤ 100000; decide), fun p hp => ⟨2, 9, rfl, rfl, ⟨by decide, by decide, by decide, by decide, by decide⟩, fun p2 hp2 => ?_⟩⟩
    have er : rgV 2 9 = [.int 2, .int 3, .int 4, .int 5, .int 6, .int 7, .int 8] := rfl
    rw [er] at *
    have s1 : Sm (ct A) [] H (upd H p (.lst [.str "any", .str "even"])) := Sm.new hp
    have s2 : Sm (ct A) [] _ (upd (upd H p (.lst [.str "any", .str "even"])) p2 (.lst [.int 2, .int 3, .int 4, .int 5, .int 6, .int 7, .int 8])) := Sm.new hp2
    have n12 : p ≠ p2 := ne_of_none upd_same hp2
    refine Or.inr (Or.inl ⟨p, p2, _, _, rfl, rfl, (by rw [upd_ne n12]; exact upd_same), upd_same, sz_of (by show 9 ≤ 100000; decide), fun p3 hp3 => ?_⟩)
    refine ⟨sz_of (by show 4 ≤ 100000; decide), fun p4 hp4 => ?_⟩
    have n34 : p3 ≠ p4 := ne_of_none upd_same hp4
    refine Or.inr (Or.inl ⟨p3, p4, _, _, rfl, rfl, (by rw [upd_ne n34]; exact upd_same), upd_same, sz_of (by show 13 ≤ 100000; decide), fun p5 hp5 => ?_⟩)
    refine q _ _ (Sm.trans ?s (Sm.new hp5)) (dq_newL ?m hp5 ?d)
    case s => exact ((s1.trans s2).trans (Sm.new hp3)).trans (Sm.new hp4)
    case m => exact fun m hm => Sm.st (c := ct A) (M := []) (H := H) (((s1.trans s2).trans (Sm.new hp3)).trans (Sm.new hp4)) m (hM m hm)
    exact .cons (.str _) (.cons (.str _) (.cons (.int _) (.cons (.int _) (.cons (.int _) (.cons (.int _) (.cons (.int _) (.cons (.int _) (.cons (.int _) (.cons (.str _) (.cons (.str _) (.cons (.str _) (.cons (.str _) .nil))))))))))))

theorem count_cast (i : Nat) : ∀ wd : List Nat, (wd.map fun x : Nat => (x : Int)).count (i : Int) = wd.count i
  | [] => rfl
  | k :: r => by
    rw [List.map_cons, List.count_cons, List.count_cons, count_cast i r]
    by_cases h : k = i
    · subst h
      simp
    · have : ((k : Int) == (i : Int)) = false := beq_eq_false_iff_ne.mpr (by omega)
      have h' : (k == i) = false := beq_eq_false_iff_ne.mpr h
      rw [this, h']
theorem inV_natI {i : Int} {k : Nat} (e : i = (k : Int)) (ks : List Nat) : inV (.int i) (ks.map fun x : Nat => V.int (x : Int)) = decide (k ∈ ks) := by
  subst e
  exact inV_nat k ks
theorem flat_natsV (ks : List Nat) : (ks.map fun x : Nat => V.int (x : Int)).all flatV = true := by
  rw [List.all_map, List.all_eq_true]
  intro x _
  rfl
/-- [k for k in range(size) if k in word] -/
theorem lc_set {a : Addr} {n : Nat} {wd : List Nat} {H : Hp} {s2 s3 s4 s5 s6 s7 : Option V} {Q : VK} (ha : FrzT H a (wd.map fun x : Nat => V.int (x : Int))) (hn : n ≤ 1000)
    (hQ : ∀ D H', Sm (ct A) [] H H' → H' D = some (.lst ((setOf n wd).map fun x : Nat => V.int (x : Int))) → Q (.ref D) H') :
    tLc (iRng1 (tCons (tVar 1) tNil)) (gName 3) (tTest (tOp (rIn K false) (tVar 3) (tVar 0))) (tVar 3) [3] [some (.ref a), some (.int (n : Int)), s2, s3, s4, s5, s6, s7] H Q := by
  refine ⟨_, rfl, _, rfl, by omega, by omega, fun D hD => L2.lc_it (L2.walk_range (lo := 0) (n := ((n : Int)).toNat))
    (fun i H' => Sm (ct A) [D] (upd H D (.lst [])) H' ∧ H' D = some (.lst ((setOf i wd).map fun x : Nat => V.int (x : Int)))) ⟨Sm.refl, upd_same⟩ (fun _ _ _ _ => trivial) (fun i x H' H'' hi hW hY => ?_) (fun H3 hW => ?_)⟩
  · obtain ⟨sW, eD⟩ := hW
    obtain ⟨rfl, rfl⟩ := hY
    have s0 : Sm (ct A) [] H H'' := ((Sm.new hD).trans sW).out hD
    have ej : (0 + (i : Nat) : Int) = (i : Int) := by omega
    have lz : (setOf i wd).length ≤ i := by
      have := List.length_filter_le (fun k => decide (k ∈ wd)) (List.range i)
      rw [List.length_range] at this
      exact this
    have ef : setOf (i + 1) wd = setOf i wd ++ (if i ∈ wd then [i] else []) := by
      unfold setOf
      rw [List.range_succ, List.filter_append]
      congr 1
      rw [List.filter_cons]
      by_cases z : i ∈ wd
      · rw [if_pos (decide_eq_true z), if_pos z]
        rfl
      · rw [if_neg (by simp [z]), if_neg z]
        rfl
    refine ⟨rfl, _, rfl, _, rfl, a, _, rfl, Or.inr (ha.sm s0 fun z => nomatch z).sq, rfl, flat_natsV wd, _, rfl, ?_⟩
    rw [inV_natI ej, if_neg (by decide : ¬ false = true)]
    refine ite2 (fun e => ?_) fun e => ?_
    · refine ⟨_, rfl, _, eD, sz_lt (by rw [List.length_map]; omega), sW.trans (Sm.put List.mem_cons_self eD), ?_⟩
      rw [upd_same, ef, if_pos (of_decide_eq_true e), List.map_append]
      show some (HO.lst (_ ++ [V.int (0 + (i : Nat))])) = _
      rw [ej]
      rfl
    · exact ⟨sW, by rw [ef, if_neg (fun z => e (decide_eq_true z)), List.append_nil]; exact eD⟩
  · obtain ⟨sW, eD⟩ := hW
    rw [Int.toNat_natCast] at eD
    exact hQ D H3 (((Sm.new hD).trans sW).out hD) eD
/-- [word.count(k) for k in range(size)] -/
theorem lc_count {a : Addr} {n : Nat} {wd : List Nat} {H : Hp} {s2 s3 s4 s5 s6 s7 : Option V} {Q : VK} (ha : FrzT H a (wd.map fun x : Nat => V.int (x : Int))) (hn : n ≤ 1000)
    (hQ : ∀ D H', Sm (ct A) [] H H' → H' D = some (.lst ((countsOf n wd).map fun x : Nat => V.int (x : Int))) → Q (.ref D) H') :
    tLc (iRng1 (tCons (tVar 1) tNil)) (gName 3) tYes (tCnt K (tVar 0) (tCons (tVar 3) tNil)) [3] [some (.ref a), some (.int (n : Int)), s2, s3, s4, s5, s6, s7] H Q := by
  refine ⟨_, rfl, _, rfl, by omega, by omega, fun D hD => L2.lc_it (L2.walk_range (lo := 0) (n := ((n : Int)).toNat))
    (fun i H' => Sm (ct A) [D] (upd H D (.lst [])) H' ∧ H' D = some (.lst ((countsOf i wd).map fun x : Nat => V.int (x : Int)))) ⟨Sm.refl, upd_same⟩ (fun _ _ _ _ => trivial) (fun i x H' H'' hi hW hY => ?_) (fun H3 hW => ?_)⟩
  · obtain ⟨sW, eD⟩ := hW
    obtain ⟨rfl, rfl⟩ := hY
    have s0 : Sm (ct A) [] H H'' := ((Sm.new hD).trans sW).out hD
    have ej : (0 + (i : Nat) : Int) = (i : Int) := by omega
    have ha2 : SqT K H'' a ((wd.map fun x : Nat => (x : Int)).map V.int) := by
      rw [← nats_ints]
      exact (ha.sm s0 fun z => nomatch z).sq
    refine ⟨rfl, .ref a, rfl, ⟨a, _, rfl, ha.sm s0 fun z => nomatch z⟩, _, rfl, a, wd.map fun x : Nat => (x : Int), _, rfl, rfl, ha2, _, eD, sz_lt (by unfold countsOf; simp; omega), sW.trans (Sm.put List.mem_cons_self eD), ?_⟩
    have ec : (wd.map fun x : Nat => (x : Int)).count (0 + (i : Nat) : Int) = wd.count i := by
      rw [ej]
      exact count_cast i wd
    rw [upd_same, ec]
    unfold countsOf
    rw [List.range_succ, List.map_append, List.map_append]
    rfl
  · obtain ⟨sW, eD⟩ := hW
    rw [Int.toNat_natCast] at eD
    exact hQ D H3 (((Sm.new hD).trans sW).out hD) eD
/-- [int(many) % tone for many in counts] -/
theorem lc_rest {b : Addr} {xs : List Nat} {m : Nat} {H : Hp} {s0 s1 s3 s4 s5 s7 : Option V} {Q : VK} (hb : H b = some (.lst (xs.map fun x : Nat => V.int (x : Int)))) (hl : xs.length ≤ 1000) (hm : 0 < m)
    (hQ : ∀ D H', Sm (ct A) [] H H' → H' D = some (.lst ((xs.map fun c => c % m).map fun x : Nat => V.int (x : Int))) → Q (.ref D) H') :
    tLc (iSeq K (tVar 6)) (gName 7) tYes (tOp (rI (fun x j => 0 < j) fun i j => V.int (i % j)) (tCB (fun xs H Q => (∃ i, xs = [V.int i] ∧ Q (V.int i) H) ∨ ∃ k, xs = [V.bl k] ∧ Q (V.int (if k = true then 1 else 0)) H) (tCons (tVar 7) tNil)) (tVar 2)) [7]
      [s0, s1, some (.int (m : Int)), s3, s4, s5, some (.ref b), s7] H Q := by
  refine ⟨_, rfl, b, rfl, Or.inl ⟨⟨_, SqL.of hb⟩, fun D hD => L2.lc_it (L2.walk_list (K := K) (a := b) (xs := xs.map fun x : Nat => V.int (x : Int)))
    (fun i H' => Sm (ct A) [D] (upd H D (.lst [])) H' ∧ H' D = some (.lst (((xs.take i).map fun c => c % m).map fun x : Nat => V.int (x : Int)))) ⟨Sm.refl, upd_same⟩ (fun i H' _ hW => ?_) (fun t x H' H'' ht hW hY => ?_) (fun H3 hW => ?_)⟩⟩
  · exact SqL.of ((((Sm.new hD).trans hW.1).out hD).ex (c := ct A) b _ (fun z => nomatch z) hb nofun)
  · obtain ⟨sW, eD⟩ := hW
    obtain ⟨rfl, hx⟩ := hY
    rw [List.getElem?_map] at hx
    obtain ⟨y, hy, ey⟩ := Option.map_eq_some_iff.mp hx
    subst ey
    rw [List.length_map] at ht
    have ef : ((xs.take (t + 1)).map fun c => c % m).map (fun x : Nat => V.int (x : Int)) = ((xs.take t).map fun c => c % m).map (fun x : Nat => V.int (x : Int)) ++ [.int ((y : Int) % (m : Int))] := by
      rw [List.take_add_one, hy, List.map_append, List.map_append]
      rfl
    refine ⟨rfl, _, rfl, Or.inl ⟨_, rfl, _, rfl, _, _, rfl, rfl, by omega, _, eD, sz_lt (by rw [List.length_map, List.length_map]; have := List.length_take_le t xs; omega), sW.trans (Sm.put List.mem_cons_self eD), ?_⟩⟩
    rw [upd_same, ef]
  · obtain ⟨sW, eD⟩ := hW
    rw [List.length_map, List.take_length] at eD
    exact hQ D H3 (((Sm.new hD).trans sW).out hD) eD
/-- for place in ..: if place not in found: found.append(place) -/
theorem form_for {te : TE} {ys : List Nat} {lf : Addr} {H : Hp} {s0 s1 s2 s3 s5 s6 s7 : Option V} {D : Ends} (h4 : H lf = some (.lst [])) (hl : ys.length ≤ 1000)
    (hte : ∀ Q' : VK, (∀ b H1, Sm (ct A) [] H H1 → (∀ H2, Sm (ct A) [lf] H1 H2 → SqT K H2 b (ys.map fun x : Nat => V.int (x : Int))) → Q' (.ref b) H1) → te [s0, s1, s2, s3, some (.ref lf), s5, s6, s7] H Q')
    (hD : ∀ z5 H', Sm (ct A) [lf] H H' → H' lf = some (.lst ((firstsOf ys).map fun x : Nat => V.int (x : Int))) → D.nx [s0, s1, s2, s3, some (.ref lf), z5, s6, s7] H') :
    tFor (iSeq K te) (gName 5) (tIfS (tTest (tOp (rIn K true) (tVar 5) (tVar 4))) (tDrop (tBM K "list" rAppend (tVar 4) (tCons (tVar 5) tNil))) tNext) D [s0, s1, s2, s3, some (.ref lf), s5, s6, s7] H := by
  refine hte _ fun b H1 s1' hb => ⟨b, rfl, Or.inr ⟨⟨_, hb H1 Sm.refl⟩, L2.for_it (L2.walk_tup (K := K) (a := b) (xs := ys.map fun x : Nat => V.int (x : Int)))
    (fun i σ' H' => ∃ z5, σ' = [s0, s1, s2, s3, some (.ref lf), z5, s6, s7] ∧ Sm (ct A) [lf] H1 H' ∧ H' lf = some (.lst ((firstsOf (ys.take i)).map fun x : Nat => V.int (x : Int))))
    ⟨_, rfl, Sm.refl, s1'.ex lf _ (fun z => nomatch z) h4 nofun⟩ (fun i σ' H' _ hW => ?_) (fun t x σ' H' H'' ht hW hY => ?_) (fun σ' H' hW => ?_)⟩⟩
  · obtain ⟨_, _, sW, _⟩ := hW
    exact hb _ sW
  · obtain ⟨z5, rfl, sW, eL⟩ := hW
    obtain ⟨rfl, hx⟩ := hY
    rw [List.getElem?_map] at hx
    obtain ⟨y, hy, ey⟩ := Option.map_eq_some_iff.mp hx
    subst ey
    rw [List.length_map] at ht
    have ef : firstsOf (ys.take (t + 1)) = if y ∈ firstsOf (ys.take t) then firstsOf (ys.take t) else firstsOf (ys.take t) ++ [y] := by
      rw [List.take_add_one, hy]
      unfold firstsOf
      rw [List.foldl_append]
      rfl
    have lf1 : ∀ zs : List Nat, (firstsOf zs).length ≤ zs.length := fun zs => by
      have key : ∀ (zs acc : List Nat), (zs.foldl fstep acc).length ≤ acc.length + zs.length := fun zs => by
        induction zs with
        | nil => intro acc; exact Nat.le_refl _
        | cons z r ih =>
          intro acc
          have h1 := ih (fstep acc z)
          have h2 : (fstep acc z).length ≤ acc.length + 1 := by
            unfold fstep
            split
            · omega
            · simp
          show (r.foldl fstep (fstep acc z)).length ≤ acc.length + (r.length + 1)
          omega
      have := key zs []
      rw [List.length_nil, Nat.zero_add] at this
      exact this
    have lz := lf1 (ys.take t)
    have lt := List.length_take_le t ys
    refine ⟨_, rfl, _, rfl, lf, _, rfl, Or.inl (SqL.of eL), rfl, flat_natsV _, _, rfl, ?_⟩
    rw [inV_nat, if_pos (rfl : true = true)]
    refine ite2 (fun e => ?_) fun e => ?_
    · have e' : ¬ y ∈ firstsOf (ys.take t) := fun z => by rw [decide_eq_true z] at e; exact absurd e (by decide)
      rw [if_neg e'] at ef
      refine ⟨_, rfl, Or.inl ⟨rfl, _, SqL.of eL⟩, _, rfl, lf, _, _, rfl, rfl, eL, sz_lt (by rw [List.length_map]; omega), ?_⟩
      refine ⟨_, rfl, sW.trans (Sm.put List.mem_cons_self eL), ?_⟩
      rw [upd_same, ef, List.map_append]
      rfl
    · have e' : y ∈ firstsOf (ys.take t) := Decidable.byContradiction fun z => e (by rw [decide_eq_false z]; rfl)
      rw [if_pos e'] at ef
      exact ⟨_, rfl, sW, by rw [ef]; exact eL⟩
  · obtain ⟨z5, rfl, sW, eL⟩ := hW
    rw [List.length_map, List.take_length] at eL
    exact hD z5 H' (s1'.any.trans sW) eL

/-- data, or a bare tuple of numbers -/
def Fq (M : List Addr) (H : Hp) (v : V) (d : PyData) : Prop := Dq M H v d ∨ ∃ a wd, v = .ref a ∧ a ∉ M ∧ FrzT H a (wd.map fun x : Nat => V.int (x : Int)) ∧ d = encW wd
def sp_l_form (A : Ads) : Sp := fun vs H Q _ => ∃ (M : List Addr) (a : Addr) (n : Nat) (wd : List Nat) (x : PyData) (v2 : V), vs = [.ref a, .int (n : Int), v2] ∧ Gd (ct A) H ∧ (∀ m ∈ M, H m ≠ none) ∧ a ∉ M ∧ FrzT H a (wd.map fun x : Nat => V.int (x : Int)) ∧ Dq M H v2 x ∧
  1 ≤ wd.length ∧ wd.length ≤ 400 ∧ n ≤ 12 ∧ (∀ k ∈ wd, k < n) ∧ kindD x = true ∧ ∀ v H', Sm (ct A) [] H H' → Fq M H' v (formD n x wd) → Q v H'
theorem ok_l_form (T : Txt K mg A) : Df P w K mg base CX0 1 "_law_form" A.a_form ["word", "size", "tone"] (sp_l_form A) := by
  obtain ⟨fd, F, b⟩ := T.f_form
  refine ⟨⟨fd, fnG_of F sc_form (fun vs H Q E h => ?_) fun cdv A0 outer s H vs Q E hcd hr h => ?_, b, At.of F⟩, F.kp, T.g_form⟩
  · obtain ⟨_, _, _, _, _, _, rfl, _⟩ := h
    rfl
  · obtain ⟨M, a, n, wd, x, v2, rfl, gd, hM, na, ha, h2, w1, w4, n2, hwn, hx, q⟩ := h
    have qd : ∀ {H' : Hp} {p : Addr} {ks : List Nat}, Sm (ct A) [] H H' → H' p = none → formD n x wd = encW ks → Q (.ref p) (upd H' p (.tup (ks.map fun x : Nat => V.int (x : Int)))) := fun {H' p ks} s' hp e => by
      refine q _ _ (s'.trans (Sm.new hp)) (Or.inl ?_)
      rw [e]
      exact dq_new (fun m hm => s'.st m (hM m hm)) hp (Dqs.nats _)
    refine ⟨_, PSs.nox (pss_cons (ps_if (pt_cmpR (op_eqK (K := K) hr) (pv 2) pe_str (nomark _))
        (pss_one (ps_ret (pv 0)))
        pss_nil)
        (pss_cons (ps_if (pt_cmpR (op_eqK (K := K) hr) (pv 2) pe_str (nomark _))
        (pss_one (ps_ret (pe_tup (pa_cons (pe_ix (ix_K (K := K)) (pv 0) pe_int (fun _ _ => rfl)) (pa_cons (pe_ix (ix_K (K := K)) (pv 0) (pe_op op_sub (pe_callB (call_lenK (K := K)) (by rfl) T.z_len PySem.boot_len (pa_cons (pv 0) pa_nil)) pe_int) (fun _ _ => rfl)) pa_nil)))))
        pss_nil)
        (pss_cons (ps_if (pt_cmpR (op_eqK (K := K) hr) (pv 2) pe_str (nomark _))
        (pss_one (ps_ret (pe_callTy (call_tupleK (K := K)) (by rfl) T.z_tuple (by decide +kernel) (pa_cons (pe_lc (own := [("k", 3)]) (g := gName 3) (tt := _) rfl sc_form.nd (pi_range1 (by rfl) T.z_range (pa_cons (pv 1) pa_nil)) (blkOk_by (own := [("k", 3)]) (N := ["word", "size", "tone", "k", "found", "place", "counts", "many"]) (sc := defScope s_form) (by decide +kernel)) (fun _ _ _ _ _ => pg_name (i := 3) sc_form.nd rfl (Or.inl rfl)) (fun _ _ _ _ _ => pts_one (pt_cmpR (op_inK (K := K)) (pv 3) (pv 0) (by rfl))) (fun _ _ _ _ _ => (pv 3))) pa_nil))))
        pss_nil)
        (pss_cons (ps_if (PW.pt (pw_or (pt_cmpR (op_eqK (K := K) hr) (pv 2) pe_str (nomark _)) (pw_or1 (pt_cmpR (op_eqK (K := K) hr) (pv 2) pe_str (nomark _)))))
        (pss_cons (ps_set (i := 4) sc_form.nd rfl (Or.inl rfl) (pe_lst pa_nil))
          (pss_cons (ps_for PassesOwn.never rfl (pi_K (K := K) (pe_ifExp (pt_cmpR (op_eqK (K := K) hr) (pv 2) pe_str (nomark _)) (pv 0) (pe_revTK (K := K) (pv 0)))) (pg_name (i := 5) sc_form.nd rfl (Or.inl rfl))
          (pss_one (ps_if (pt_cmpR (op_notInK (K := K)) (pv 5) (pv 4) (by rfl))
            (pss_one (ps_expr (pe_bm PySem.F.plainAttrs_list PySem.F.slot_list_append PySem.F.type_list_append mt_append (pv 4) (pa_cons (pv 5) pa_nil))))
            pss_nil)))
          (pss_one (ps_ret (pe_callTy (call_tupleK (K := K)) (by rfl) T.z_tuple (by decide +kernel) (pa_cons (pe_ifExp (pt_cmpR (op_eqK (K := K) hr) (pv 2) pe_str (nomark _)) (pv 4) (pe_revLK (K := K) (pv 4))) pa_nil))))))
        pss_nil)
        (pss_cons (ps_setLc (i := 6) (own := [("k", 3)]) (g := gName 3) (tt := tYes) rfl sc_form.nd rfl rfl (sw_true rfl rfl rfl (by decide +kernel)) (pi_range1 (by rfl) T.z_range (pa_cons (pv 1) pa_nil)) (blkOk_by (own := [("k", 3)]) (N := ["word", "size", "tone", "k", "found", "place", "counts", "many"]) (sc := defScope s_form) (by decide +kernel)) (fun _ _ _ _ _ => pg_name (i := 3) sc_form.nd rfl (Or.inl rfl)) (fun _ _ _ _ _ => pts_nil) (fun _ _ _ _ _ => (pe_cntK (K := K) (pv 0) (pa_cons (pv 3) pa_nil))))
        (pss_one (ps_ret (pe_callTy (call_tupleK (K := K)) (by rfl) T.z_tuple (by decide +kernel) (pa_cons (pe_ifExp (pt_cmpR (op_eqK (K := K) hr) (pv 2) pe_str (nomark _)) (pv 6) (pe_lc (own := [("many", 7)]) (g := gName 7) (tt := tYes) rfl sc_form.nd (pi_K (K := K) (pv 6)) (blkOk_by (own := [("many", 7)]) (N := ["word", "size", "tone", "k", "found", "place", "counts", "many"]) (sc := defScope s_form) (by decide +kernel)) (fun _ _ _ _ _ => pg_name (i := 7) sc_form.nd rfl (Or.inl rfl)) (fun _ _ _ _ _ => pts_nil) (fun _ _ _ _ _ => (pe_op op_mod (pe_callTy call_int1 (by rfl) T.z_int (by decide +kernel) (pa_cons (pv 7) pa_nil)) (pv 2))))) pa_nil))))))))), ?_⟩
    have tup : ∀ {H' : Hp} {D : Addr} {ks : List Nat}, Sm (ct A) [] H H' → H' D = some (.lst (ks.map fun x : Nat => V.int (x : Int))) → formD n x wd = encW ks → rTupleK K [.ref D] H' Q := fun {H' D ks} s' eD e => ⟨D, _, rfl, Or.inl ⟨SqL.of eD, fun p hp => qd s' hp e⟩⟩
    rcases kind_cases hx with rfl | rfl | rfl | rfl | rfl | rfl | ⟨m, rfl, m1, m2⟩
    · cases h2
      refine ⟨_, rfl, Or.inl ⟨rfl, _, rfl, iteT ?_⟩⟩
      exact ⟨_, rfl, q _ _ Sm.refl (Or.inr ⟨a, wd, rfl, na, ha, rfl⟩)⟩
    · cases h2
      refine ⟨_, rfl, Or.inl ⟨rfl, _, rfl, iteF ?_⟩⟩
      refine ⟨_, rfl, Or.inl ⟨rfl, _, rfl, iteF ?_⟩⟩
      refine ⟨_, rfl, Or.inl ⟨rfl, _, rfl, iteF ?_⟩⟩
      refine ⟨_, rfl, Or.inl ⟨rfl, _, rfl, iteF ?_⟩⟩
      refine ⟨_, rfl, Or.inl ⟨rfl, _, rfl, iteF ?_⟩⟩
      dsimp only [tNext, tSeq, tAsg]
      refine lc_count (A := A) ha (by omega) fun D H1 s1 eD => ?_
      refine ⟨_, rfl, Or.inl ⟨rfl, _, rfl, iteT ⟨_, rfl, ?_⟩⟩⟩
      exact tup s1 eD rfl
    · cases h2
      refine ⟨_, rfl, Or.inl ⟨rfl, _, rfl, iteF ?_⟩⟩
      refine ⟨_, rfl, Or.inl ⟨rfl, _, rfl, iteF ?_⟩⟩
      refine ⟨_, rfl, Or.inl ⟨rfl, _, rfl, iteF ?_⟩⟩
      refine ⟨_, rfl, Or.inl ⟨rfl, _, rfl, iteT (iteT ?_)⟩⟩
      dsimp only [tNext, tSeq, tAsg, tLst, tNil]
      refine ⟨Nat.zero_le _, fun lf hlf => ?_⟩
      refine form_for (A := A) (ys := wd) (lf := lf) upd_same (by omega) (fun Q' h => ?_) fun z5 H2 s2 eL => ?_
      · have sl : Sm (ct A) [] H (upd H lf (.lst [])) := Sm.new hlf
        have nal : a ∉ [lf] := fun z => by
          obtain ⟨o, e, _⟩ := ha
          rw [List.mem_singleton.mp z, hlf] at e
          cases e
        exact ⟨_, rfl, Or.inl ⟨rfl, _, rfl, iteT ⟨_, rfl, h a _ Sm.refl fun H2 s2 => ((ha.sm sl fun z => nomatch z).sm s2 nal).sq⟩⟩⟩
      refine ⟨_, rfl, Or.inl ⟨rfl, _, rfl, iteT ⟨_, rfl, ?_⟩⟩⟩
      exact tup (((Sm.new hlf).trans s2).out hlf) eL rfl
    · cases h2
      refine ⟨_, rfl, Or.inl ⟨rfl, _, rfl, iteF ?_⟩⟩
      refine ⟨_, rfl, Or.inl ⟨rfl, _, rfl, iteF ?_⟩⟩
      refine ⟨_, rfl, Or.inl ⟨rfl, _, rfl, iteF ?_⟩⟩
      refine ⟨_, rfl, Or.inl ⟨rfl, _, rfl, iteF ?_⟩⟩
      refine ⟨_, rfl, Or.inl ⟨rfl, _, rfl, iteT ?_⟩⟩
      dsimp only [tNext, tSeq, tAsg, tLst, tNil]
      refine ⟨Nat.zero_le _, fun lf hlf => ?_⟩
      have sl : Sm (ct A) [] H (upd H lf (.lst [])) := Sm.new hlf
      refine form_for (A := A) (ys := wd.reverse) (lf := lf) upd_same (by rw [List.length_reverse]; omega) (fun Q' h => ?_) fun z5 H2 s2 eL => ?_
      · refine ⟨_, rfl, Or.inl ⟨rfl, _, rfl, iteF ⟨_, rfl, a, _, rfl, (ha.sm sl fun z => nomatch z).sq, fun p hp => ?_⟩⟩⟩
        rw [← List.map_reverse]
        have npl : p ∉ [lf] := fun z => by
          rw [List.mem_singleton.mp z, upd_same] at hp
          cases hp
        exact h p _ (Sm.new hp) fun H2 s2 => SqT.of (s2.ex p _ npl upd_same nofun)
      refine ⟨_, rfl, Or.inl ⟨rfl, _, rfl, iteF ⟨_, rfl, lf, _, rfl, SqL.of eL, fun p hp => ?_⟩⟩⟩
      rw [← List.map_reverse] at *
      exact tup ((((Sm.new hlf).trans s2).out hlf).trans (Sm.new hp)) upd_same rfl
    · cases h2
      refine ⟨_, rfl, Or.inl ⟨rfl, _, rfl, iteF ?_⟩⟩
      refine ⟨_, rfl, Or.inl ⟨rfl, _, rfl, iteF ?_⟩⟩
      refine ⟨_, rfl, Or.inl ⟨rfl, _, rfl, iteT ?_⟩⟩
      dsimp only [tRet, tCB, tCons]
      refine lc_set (A := A) (n := n) ha (by omega) fun D H1 s1 eD => ?_
      exact tup s1 eD (by show encW (setOf 12 wd) = _; rw [setOf_le n2 hwn])
    · cases h2
      refine ⟨_, rfl, Or.inl ⟨rfl, _, rfl, iteF ?_⟩⟩
      refine ⟨_, rfl, Or.inl ⟨rfl, _, rfl, iteT ?_⟩⟩
      have g0 : (wd.map fun x : Nat => V.int (x : Int))[0]? = some (V.int (wd.headD 0 : Nat)) := by
        match wd, w1 with
        | k :: r, _ => rfl
      have g1 : (wd.map fun x : Nat => V.int (x : Int))[wd.length - 1]? = some (V.int (wd.getLastD 0 : Nat)) := by
        rw [List.getElem?_map, ← List.getLast?_eq_getElem?]
        match wd, w1 with
        | k :: r, _ => rfl
      have ei : (((wd.map fun x : Nat => V.int (x : Int)).length : Int) - 1) = ((wd.length - 1 : Nat) : Int) := by
        rw [List.length_map]
        omega
      refine ⟨_, rfl, Or.inr (Or.inl ⟨a, _, 0, _, rfl, rfl, ha.sq, atI_of (j := 0) g0, ?_⟩)⟩
      refine ⟨_, rfl, _, rfl, a, _, rfl, Or.inr ha.sq, _, _, rfl, rfl, ?_⟩
      refine Or.inr (Or.inl ⟨a, _, _, _, rfl, rfl, ha.sq, (by rw [ei]; exact atI_of g1), ?_⟩)
      exact ⟨sz_of (by show 2 ≤ 100000; decide), fun p hp => qd Sm.refl hp rfl⟩
    · cases h2.int_inv
      refine ⟨_, rfl, Or.inl ⟨rfl, _, rfl, iteN int_ne ?_⟩⟩
      refine ⟨_, rfl, Or.inl ⟨rfl, _, rfl, iteN int_ne ?_⟩⟩
      refine ⟨_, rfl, Or.inl ⟨rfl, _, rfl, iteN int_ne ?_⟩⟩
      refine ⟨_, rfl, Or.inl ⟨rfl, _, rfl, iteN int_ne ?_⟩⟩
      refine ⟨_, rfl, Or.inl ⟨rfl, _, rfl, iteN int_ne ?_⟩⟩
      dsimp only [tNext, tSeq, tAsg]
      refine lc_count (A := A) ha (by omega) fun D H1 s1 eD => ?_
      refine ⟨_, rfl, Or.inl ⟨rfl, _, rfl, iteN int_ne ?_⟩⟩
      refine lc_rest (A := A) eD (by unfold countsOf; rw [List.length_map, List.length_range]; omega) (by omega) fun D2 H2 s2 eD2 => ?_
      exact tup (s1.trans s2) eD2 rfl

end
end Kx

namespace Kx
open PySem PySem.Spec PyProof.Rows L2 My
open LamX (CodeO TabS ExtN)
open GxR (TabG Tabbed)
section
variable {P : Program} {w : World} {K : PySem.W.Frag} {mg : Str → Option Value} {base : Heap} {A : Ads}
/-- the numbers of a word's form -/
def formN (n : Nat) (x : PyData) (w : List Nat) : List Nat := decW (formD n x w)
theorem firsts_mem : ∀ (w acc : List Nat) (k : Nat), k ∈ w.foldl fstep acc → k ∈ acc ∨ k ∈ w
  | [], _, _, h => Or.inl h
  | y :: r, acc, k, h => by
    rcases firsts_mem r (fstep acc y) k h with z | z
    · unfold fstep at z
      split at z
      · exact Or.inl z
      · rcases List.mem_append.mp z with z | z
        · exact Or.inl z
        · exact Or.inr (by rw [List.mem_singleton.mp z]; exact List.mem_cons_self)
    · exact Or.inr (List.mem_cons_of_mem _ z)
theorem firsts_len : ∀ (w acc : List Nat), (w.foldl fstep acc).length ≤ acc.length + w.length
  | [], acc => Nat.le_refl _
  | y :: r, acc => by
    have h1 := firsts_len r (fstep acc y)
    have h2 : (fstep acc y).length ≤ acc.length + 1 := by
      unfold fstep
      split
      · omega
      · simp
    show (r.foldl fstep (fstep acc y)).length ≤ acc.length + (r.length + 1)
    omega
theorem formN_ok {n : Nat} {x : PyData} {w : List Nat} (hx : kindD x = true) (w1 : 1 ≤ w.length) (w4 : w.length ≤ 400) (n2 : n ≤ 12) (h : ∀ k ∈ w, k < n) :
    formD n x w = encW (formN n x w) ∧ (formN n x w).length ≤ 1000 ∧ ∀ k ∈ formN n x w, k < 2 ^ 64 := by
  have big : ∀ {k : Nat}, k ≤ 1000 → k < 2 ^ 64 := fun h => Nat.lt_of_le_of_lt h (by decide)
  have key : ∀ ks : List Nat, formD n x w = encW ks → ks.length ≤ 1000 → (∀ k ∈ ks, k ≤ 1000) → formD n x w = encW (formN n x w) ∧ (formN n x w).length ≤ 1000 ∧ ∀ k ∈ formN n x w, k < 2 ^ 64 := fun ks e hl hk => by
    have e2 : formN n x w = ks := by
      unfold formN
      rw [e, dec_enc]
    rw [e2]
    exact ⟨e, hl, fun k hk' => big (hk k hk')⟩
  have cn : ∀ k ∈ countsOf n w, k ≤ 400 := fun k hk => by
    obtain ⟨j, _, rfl⟩ := List.mem_map.mp hk
    exact Nat.le_trans List.count_le_length w4
  have cl : (countsOf n w).length = n := by unfold countsOf; simp
  rcases kind_cases hx with rfl | rfl | rfl | rfl | rfl | rfl | ⟨m, rfl, m1, m2⟩
  · exact key w rfl (by omega) fun k hk => by have := h k hk; omega
  · exact key (countsOf n w) rfl (by omega) fun k hk => by have := cn k hk; omega
  · refine key (firstsOf w) rfl ?_ fun k hk => ?_
    · have := firsts_len w []
      rw [List.length_nil, Nat.zero_add] at this
      exact Nat.le_trans this (by omega)
    · rcases firsts_mem w [] k hk with z | z
      · nomatch z
      · have := h k z; omega
  · refine key (lastsOf w) rfl ?_ fun k hk => ?_
    · have := firsts_len w.reverse []
      rw [List.length_nil, Nat.zero_add, List.length_reverse] at this
      unfold lastsOf
      rw [List.length_reverse]
      exact Nat.le_trans this (by omega)
    · rcases firsts_mem w.reverse [] k (List.mem_reverse.mp hk) with z | z
      · nomatch z
      · have := h k (List.mem_reverse.mp z); omega
  · refine key (setOf 12 w) rfl ?_ fun k hk => ?_
    · have := List.length_filter_le (fun k => decide (k ∈ w)) (List.range 12)
      rw [List.length_range] at this
      exact Nat.le_trans this (by decide)
    · have := (mem_setOf.mp hk).1; omega
  · refine key (endsOf w) rfl (by show 2 ≤ 1000; decide) fun k hk => ?_
    have g0 : w.headD 0 ∈ w := by
      match w, w1 with
      | k :: r, _ => exact List.mem_cons_self
    have g1 : w.getLastD 0 ∈ w := by
      match w, w1 with
      | k :: r, _ =>
        rw [List.getLastD_eq_getLast?, List.getLast?_eq_some_getLast (by simp)]
        exact List.getLast_mem _
    have hk : k ∈ [w.headD 0, w.getLastD 0] := hk
    simp only [List.mem_cons, List.not_mem_nil, or_false] at hk
    rcases hk with z | z
    · rw [z]; have := h _ g0; omega
    · rw [z]; have := h _ g1; omega
  · refine key ((countsOf n w).map fun c => c % m) (by show encW ((countsOf n w).map fun c => c % (m : Int).toNat) = _; rw [Int.toNat_natCast]) (by rw [List.length_map]; omega) fun k hk => ?_
    obtain ⟨c, _, rfl⟩ := List.mem_map.mp hk
    have := Nat.mod_lt c (show 0 < m by omega)
    omega
/-- a row of forms -/
inductive Fqs (M : List Addr) (H : Hp) : List V → List PyData → Prop
  | nil : Fqs M H [] []
  | cons {v : V} {d : PyData} {vs : List V} {ds : List PyData} : Fq M H v d → Fqs M H vs ds → Fqs M H (v :: vs) (d :: ds)
section
variable {c : Ct} {M M' : List Addr} {H H' : Hp}
theorem Fq.sm {v : V} {d : PyData} (s : Sm c M H H') (h : Fq M H v d) : Fq M H' v d := by
  rcases h with h | ⟨a, wd, rfl, n, f, rfl⟩
  · exact Or.inl (h.sm s)
  · exact Or.inr ⟨a, wd, rfl, n, f.sm s n, rfl⟩
theorem Fq.dp {v : V} {d : PyData} (h : Fq M H v d) (hd : d.hasDict = false) : Dp K H v d := by
  rcases h with h | ⟨a, wd, rfl, n, f, rfl⟩
  · exact h.dp hd
  · exact .tup f.sq ((Dqs.nats (M := []) wd).dp (dict_nI wd))
theorem Fqs.sm (s : Sm c M H H') : ∀ {vs : List V} {ds : List PyData}, Fqs M H vs ds → Fqs M H' vs ds
  | _, _, .nil => .nil
  | _, _, .cons h r => .cons (h.sm s) (r.sm s)
theorem Fqs.snoc {v : V} {d : PyData} (h : Fq M H v d) : ∀ {vs : List V} {ds : List PyData}, Fqs M H vs ds → Fqs M H (vs ++ [v]) (ds ++ [d])
  | _, _, .nil => .cons h .nil
  | _, _, .cons h' r => .cons h' (r.snoc h)
theorem Fqs.length : ∀ {vs : List V} {ds : List PyData}, Fqs M H vs ds → vs.length = ds.length
  | _, _, .nil => rfl
  | _, _, .cons _ r => by rw [List.length_cons, List.length_cons, r.length]
theorem Fqs.dps : ∀ {vs : List V} {ds : List PyData}, PyData.hasDictAll ds = false → Fqs M H vs ds → DpAll K H vs ds
  | _, _, _, .nil => .nil
  | _, _, h, .cons x r => by
    simp only [PyData.hasDictAll, Bool.or_eq_false_iff] at h
    exact .cons (x.dp h.1) (r.dps h.2)
end
theorem tones_kind {d : PyData} (h : d ∈ tonesD) : kindD d = true := by
  have : tonesD.all kindD = true := by decide +kernel
  exact List.all_eq_true.mp this d h
theorem late_eq {N : Nat} : rgV (if (N : Int) - 16 > 0 then (N : Int) - 16 else 0) (N : Int) = (List.range (N - (N - 16))).map fun i : Nat => V.int (((N - 16) + i : Nat) : Int) := by
  have e : (if (N : Int) - 16 > 0 then (N : Int) - 16 else 0) = ((N - 16 : Nat) : Int) := by
    split <;> omega
  rw [e]
  unfold rgV
  rw [show (((N : Int) - ((N - 16 : Nat) : Int)).toNat) = N - (N - 16) by omega]
  exact List.map_congr_left fun i _ => by
    congr 1
def sp_right (A : Ads) : Sp := fun vs H Q _ => ∃ sp : Addr, vs = [.ref sp] ∧ Gd (ct A) H ∧ Spr H sp ∧ ∀ H', Sm (ct A) [sp] H H' → Q (.bl true) H'
theorem ok_right (T : Txt K mg A) (B : TabsB base mg A) : Df P w K mg base CX0 9 "_law_right" A.a_right ["spring"] (sp_right A) := by
  obtain ⟨fd, F, b⟩ := T.f_right
  refine ⟨⟨fd, fnG_of F sc_right (fun vs H Q E h => ?_) fun cdv A0 outer s H vs Q E hcd hr h => ?_, b, At.of F⟩, F.kp, T.g_right⟩
  · obtain ⟨_, rfl, _⟩ := h
    rfl
  · obtain ⟨sp, rfl, gd, spr, q⟩ := h
    have d_draw := ok_draw (P := P) (w := w) (base := base) T
    have d_tone := ok_tone (P := P) (w := w) (base := base) T
    have d_tones := ok_tones (P := P) (w := w) (base := base) T
    have d_web := ok_web (P := P) (w := w) (base := base) T
    have d_wished := ok_wished (P := P) (w := w) (base := base) T
    have d_words := ok_words (P := P) (w := w) (base := base) T
    have d_form := ok_l_form (P := P) (w := w) (base := base) T
    have d_form_of := ok_form_of (P := P) (w := w) T B
    refine ⟨_, PSs.nox (pss_cons (ps_set (i := 1) sc_right.nd rfl (Or.inl rfl) (pe_df d_tone hr (by decide) rfl pass0 (pa_cons (pv 0) pa_nil)))
        (pss_cons (ps_set (i := 2) sc_right.nd rfl (Or.inr rfl) (pe_ifExp (pt_cmpR (op_eqK (K := K) hr) (pe_df d_draw hr (by decide) rfl pass0 (pa_cons (pv 0) (pa_cons pe_int pa_nil))) pe_int (nomark _)) (pe_df d_web hr (by decide) rfl pass0 (pa_cons (pv 0) (pa_cons pe_int (pa_cons pe_int pa_nil)))) (pe_ix (ix_K (K := K)) (pe_df d_wished hr (by decide) rfl pass0 (pa_cons (pv 0) (pa_cons (pv 1) pa_nil))) pe_int (fun _ _ => rfl))))
        (pss_cons (ps_asg (pe_tup (pa_cons (pe_ix (ix_K (K := K)) (pv 2) pe_int (fun _ _ => rfl)) (pa_cons (pe_df d_words hr (by decide) rfl pass0 (pa_cons (pv 2) pa_nil)) pa_nil))) (pg_tup rfl (pgs_cons (pg_name (i := 3) sc_right.nd rfl (Or.inr rfl)) (pgs_cons (pg_name (i := 4) sc_right.nd rfl (Or.inr rfl)) pgs_nil))))
        (pss_cons (ps_set (i := 5) sc_right.nd rfl (Or.inl rfl) (pe_listRg rfl (by rfl) T.z_list (prg_2 (by rfl) T.z_range (pe_callB (call_max2 rfl) (by rfl) T.z_max (by decide +kernel) (pa_cons pe_int (pa_cons (pe_op op_sub (pe_callB (call_lenK (K := K)) (by rfl) T.z_len PySem.boot_len (pa_cons (pv 4) pa_nil)) pe_int) pa_nil))) (pe_callB (call_lenK (K := K)) (by rfl) T.z_len PySem.boot_len (pa_cons (pv 4) pa_nil)))))
        (pss_cons (ps_for PassesOwn.never rfl (pi_K (K := K) (pe_df0 d_tones hr (by decide) rfl pass0)) (pg_name (i := 6) sc_right.nd rfl (Or.inr rfl))
        (pss_cons (ps_setLc (i := 7) (own := [("k", 8)]) (g := gName 8) (tt := tYes) rfl sc_right.nd rfl rfl (sw_true rfl rfl rfl (by decide +kernel)) (pi_K (K := K) (pv 5)) (blkOk_by (own := [("k", 8)]) (N := ["spring", "tone", "web", "size", "words", "late", "some", "told", "k", "last"]) (sc := defScope s_right) (by decide +kernel)) (fun _ _ _ _ _ => pg_name (i := 8) sc_right.nd rfl (Or.inl rfl)) (fun _ _ _ _ _ => pts_nil) (fun _ _ _ _ _ => (pe_df d_form_of hr (by decide) rfl pass0 (pa_cons (pv 2) (pa_cons (pv 8) (pa_cons (pv 6) pa_nil))))))
          (pss_one (ps_if (pt_cmpR (op_neK (K := K) hr) (pe_callB (call_reprK (K := K) hr) (by rfl) T.z_repr (by decide +kernel) (pa_cons (pv 7) pa_nil)) (pe_callB (call_reprK (K := K) hr) (by rfl) T.z_repr (by decide +kernel) (pa_cons (pe_lc (own := [("k", 8)]) (g := gName 8) (tt := tYes) rfl sc_right.nd (pi_K (K := K) (pv 5)) (blkOk_by (own := [("k", 8)]) (N := ["spring", "tone", "web", "size", "words", "late", "some", "told", "k", "last"]) (sc := defScope s_right) (by decide +kernel)) (fun _ _ _ _ _ => pg_name (i := 8) sc_right.nd rfl (Or.inl rfl)) (fun _ _ _ _ _ => pts_nil) (fun _ _ _ _ _ => (pe_df d_form hr (by decide) rfl pass0 (pa_cons (pe_ix (ix_K (K := K)) (pv 4) (pv 8) (fun _ _ => rfl)) (pa_cons (pv 3) (pa_cons (pv 6) pa_nil)))))) pa_nil)) (nomark _))
          (pss_one (ps_ret pe_bl))
          pss_nil))))
        (pss_cons (ps_set (i := 9) sc_right.nd rfl (Or.inl rfl) (pe_op op_sub (pe_callB (call_lenK (K := K)) (by rfl) T.z_len PySem.boot_len (pa_cons (pv 4) pa_nil)) pe_int))
        (pss_one (ps_ret (pe_cmpR (op_eqK (K := K) hr) (pe_callB (call_reprK (K := K) hr) (by rfl) T.z_repr (by decide +kernel) (pa_cons (pe_dfk d_form_of T.k_form_of_kind_wire_net hr (by decide) rfl pass0 (pk_cons (pv 1) (pk_cons (pv 9) (pk_cons (pv 2) pk_nil)))) pa_nil)) (pe_callB (call_reprK (K := K) hr) (by rfl) T.z_repr (by decide +kernel) (pa_cons (pe_df d_form hr (by decide) rfl pass0 (pa_cons (pe_ix (ix_K (K := K)) (pv 4) (pv 9) (fun _ _ => rfl)) (pa_cons (pv 3) (pa_cons (pv 1) pa_nil)))) pa_nil)) (nomark _)))))))))), ?_⟩
    have hM0 : ∀ x ∈ [sp], H x ≠ none := fun x hx => by
      obtain ⟨ys, e⟩ := spr.some
      rw [List.mem_singleton.mp hx, e]
      nofun
    have mp : sp ∈ [sp] := List.mem_singleton.mpr rfl
    refine ⟨.ref sp, rfl, [sp], sp, rfl, gd, hM0, mp, spr, fun v1 H1 s1 spr1 hv => ?_⟩
    obtain ⟨x1, hx1, dx1⟩ := tone_data hv
    have hM1 : ∀ x ∈ [sp], H1 x ≠ none := fun x hx => s1.st x (hM0 x hx)
    have hX : ∀ Q' : VK, (∀ v H2 n bs es, Sm (ct A) [sp] H1 H2 → NetOk n bs es → Lens 400 (wordsOf n bs) → Dq [sp] H2 v (encNet n bs es) → Q' v H2) →
        tIf (tTest (tOp (rEqG K) (tCall (sp_draw A) [] E0 (tCons (tVar 0) (tCons (tC (V.int 2)) tNil))) (tC (V.int 0)))) (tCall (sp_web A) [] E0 (tCons (tVar 0) (tCons (tC (V.int 12)) (tCons (tC (V.int 30)) tNil))))
          (tOp (rIx K) (tCall (sp_wished A) [] E0 (tCons (tVar 0) (tCons (tVar 1) tNil))) (tC (V.int 0)))
          [some (.ref sp), some v1, none, none, none, none, none, none, none, none] H1 Q' := by
      intro Q' hq
      refine ⟨.ref sp, rfl, sp, 2, rfl, s1.gd gd, spr1, by decide, by decide, fun d H2 s2 spr2 d0 d1 => Or.inl ⟨rfl, _, rfl, ite2 (fun _ => ?_) fun _ => ?_⟩⟩
      · have hM2 : ∀ x ∈ [sp], H2 x ≠ none := fun x hx => s2.st x (hM1 x hx)
        exact ⟨.ref sp, rfl, [sp], sp, 12, 30, rfl, s2.gd (s1.gd gd), hM2, mp, spr2, by decide, by decide, by decide, fun v H3 n bs es s3 spr3 hN hL hd => hq v H3 n bs es (s2.trans s3) hN (hL.mono (by decide)) hd⟩
      · have hM2 : ∀ x ∈ [sp], H2 x ≠ none := fun x hx => s2.st x (hM1 x hx)
        refine ⟨.ref sp, rfl, v1, rfl, [sp], sp, v1, rfl, s2.gd (s1.gd gd), hM2, mp, spr2, hv, fun p H3 n bs es ws s3 spr3 hN hws hlen hL hb hd => ?_⟩
        obtain ⟨ap, up, eap, nap, hap, hup⟩ := hd.tup_inv
        cases eap
        obtain ⟨y1, y2, rfl, g1, g2⟩ := hup.inv2
        exact Or.inr (Or.inl ⟨_, _, 0, _, rfl, rfl, SqT.of hap, atI_of (j := 0) rfl, hq _ _ n bs es (s2.trans s3) hN hL g1⟩)
    refine hX _ fun v2 H2 n bs es s2 hN hL hd2 => ?_
    clear hX
    obtain ⟨a, us, rfl, na, ha, hus⟩ := id hd2.tup_inv
    obtain ⟨u0, u1, u2, rfl, hu0, hu1, hu2⟩ := hus.inv3
    cases hu0.int_inv
    have s12 := s1.trans s2
    have hM2 : ∀ x ∈ [sp], H2 x ≠ none := fun x hx => s2.st x (hM1 x hx)
    dsimp only [tSeq, tAsg]
    refine ⟨.ref a, rfl, Or.inr (Or.inl ⟨a, _, 0, _, rfl, rfl, SqT.of ha, atI_of (j := 0) rfl, .ref a, rfl, [sp], .ref a, n, bs, es, 400, rfl, hM2, hd2, hN, Nat.le_refl _, hL, fun lw vs H3 s3 nlw elw fw => ⟨sz_of (by show 2 ≤ 100000; decide), fun p hp => ⟨p, _, rfl, SqT.of upd_same, rfl, _, _, rfl, _, _, rfl, rfl, ?_⟩⟩⟩)⟩
    have s13 : Sm (ct A) [sp] H H3 := s12.trans s3.any
    have s4 : ∀ {N}, Sm (ct A) N H3 (upd H3 p (.tup [.int (n : Int), .ref lw])) := Sm.new hp
    have hM3 : ∀ x ∈ [sp], H3 x ≠ none := fun x hx => s3.st x (hM2 x hx)
    have lwo := wordsOf_len n bs
    have lvs : vs.length = (wordsOf n bs).length := fw.length
    have b60 := hN.b
    have n12 := hN.n2
    have hent := wordsOf_ent n bs
    generalize hN0 : (wordsOf n bs).length = N at *
    have hN72 : N ≤ 72 := by omega
    have elw4 : (upd H3 p (.tup [.int (n : Int), .ref lw])) lw = some (.lst vs) := (s4 (N := [])).ex lw _ (fun z => nomatch z) elw nofun
    refine ⟨.ref lw, rfl, lw, vs, rfl, Or.inl (SqL.of elw4), _, _, rfl, rfl, _, _, rfl, .ref lw, rfl, lw, vs, rfl, Or.inl (SqL.of elw4), _, _, rfl, rfl, ?_, fun pl hpl => ?_⟩
    · rw [lvs]
      refine RgOk.of_le ?_ ?_ ?_ ?_ <;> first | (split <;> omega) | omega
    rw [lvs, late_eq] at *
    have s5 : ∀ {Nn}, Sm (ct A) Nn (upd H3 p (.tup [.int (n : Int), .ref lw])) (upd (upd H3 p (.tup [.int (n : Int), .ref lw])) pl (.lst ((List.range (N - (N - 16))).map fun i : Nat => V.int (((N - 16) + i : Nat) : Int)))) := Sm.new hpl
    have s35 := (s4 (N := [])).trans (s5 (Nn := []))
    have hM5 := fun (x : Addr) (hx : x ∈ [sp]) => s35.st x (hM3 x hx)
    dsimp only [gName, tSeq]
    refine ⟨[sp], [], _, (s13.trans s35.any).gd gd, hM5, .nil, ⟨rfl, rfl⟩, fun v7 H7 s7 hv7 => ?_⟩
    have s37 := s35.trans s7
    have f7 := fw.sm (s37.any (M := [sp]))
    have net7 := hd2.sm ((s3.trans s37).any (M := [sp]))
    have elw7 := s37.ex lw _ (fun z => nomatch z) elw nofun
    have epl7 := s7.ex pl _ (fun z => nomatch z) upd_same nofun
    have hM7 : ∀ x ∈ [sp], H7 x ≠ none := fun x hx => s37.st x (hM3 x hx)
    have s17 : Sm (ct A) [sp] H H7 := s13.trans s37.any
    obtain ⟨lt, ut, elt, nlt, hlt, hut⟩ := id hv7.lst_inv
    cases elt
    have small : ∀ {k : Nat} {wd : List Nat}, (wordsOf n bs)[k]? = some wd → 1 ≤ wd.length ∧ wd.length ≤ 400 ∧ ∀ y ∈ wd, y < n := fun h => ⟨(hL _ (List.mem_of_getElem? h)).1, (hL _ (List.mem_of_getElem? h)).2, hent _ (List.mem_of_getElem? h)⟩
    have tell : ∀ {M' : List Addr} {Hx : Hp} {k : Nat} {j0 : Int} {Q' : VK} {E' : XK} {wd : List Nat} {v6 : V} {d : PyData}, Sm (ct A) [] H7 Hx → (∀ x ∈ M', Hx x ≠ none) → Dq M' Hx (.ref a) (encNet n bs es) → Dq M' Hx v6 d → kindD d = true → j0 = (k : Int) → (wordsOf n bs)[k]? = some wd →
        (∀ v Hy, Sm (ct A) [] Hx Hy → Dq M' Hy v (formD n d wd) → Q' v Hy) → sp_form_of A [.ref a, .int j0, v6] Hx Q' E' := fun {M' Hx k j0 Q' E' wd v6 d} sx hm hd h6 hk ej hw hq => by
      subst ej
      exact ⟨M', _, _, sx.gd (s17.gd gd), hm, .three hd (.int _) h6, ⟨n, bs, es, k, d, wd, rfl, hN, hL, hk, hw, rfl⟩, hq⟩
    have tellL : ∀ {M' : List Addr} {Hx : Hp} {k : Nat} {pw : Addr} {Q' : VK} {E' : XK} {wd : List Nat} {v6 : V} {d : PyData}, Sm (ct A) [] H7 Hx → (∀ x ∈ M', Hx x ≠ none) → pw ∉ M' → FrzT Hx pw (wd.map fun x : Nat => V.int (x : Int)) → Dq M' Hx v6 d → kindD d = true → (wordsOf n bs)[k]? = some wd →
        (∀ v Hy, Sm (ct A) [] Hx Hy → Fq M' Hy v (formD n d wd) → Q' v Hy) → sp_l_form A [.ref pw, .int (n : Int), v6] Hx Q' E' := fun {M' Hx k pw Q' E' wd v6 d} sx hm np hf h6 hk hw hq => by
      obtain ⟨w1, w4, wn⟩ := small hw
      exact ⟨M', pw, n, wd, d, v6, rfl, sx.gd (s17.gd gd), hm, np, hf, h6, w1, w4, n12, wn, hk, hq⟩
    have gw : ∀ t, t < N - (N - 16) → (wordsOf n bs)[N - 16 + t]? = some ((wordsOf n bs).getD (N - 16 + t) []) := fun t ht => by
      have : N - 16 + t < (wordsOf n bs).length := by omega
      rw [List.getD_eq_getElem?_getD, List.getElem?_eq_getElem this]
      rfl
    refine ⟨lt, rfl, Or.inl ⟨⟨_, SqL.of hlt⟩, L2.for_it (L2.walk_list (K := K) (a := lt) (xs := ut))
      (fun i σ' H' => ∃ z6 z7 z8 z9, σ' = [some (.ref sp), some v1, some (.ref a), some (.int (n : Int)), some (.ref lw), some (.ref pl), z6, z7, z8, z9] ∧ Sm (ct A) [] H7 H')
      ⟨_, _, _, _, rfl, Sm.refl⟩ (fun i σ' H' _ hW => ?_) (fun t x σ' H' H'' ht hW hY => ?_) (fun σ' H8 hW => ?_)⟩⟩
    · obtain ⟨_, _, _, _, _, sW⟩ := hW
      exact SqL.of (sW.ex lt _ (fun z => nomatch z) hlt nofun)
    · obtain ⟨z6, z7, z8, z9, rfl, sW⟩ := hW
      obtain ⟨rfl, hx⟩ := hY
      obtain ⟨d, hd, dx⟩ := hut.getV hx
      have kd := tones_kind (List.mem_of_getElem? hd)
      have dx2 := dx.sm (sW.any (M := [sp]))
      have epl2 := sW.ex pl _ (fun z => nomatch z) epl7 nofun
      have hMx : ∀ x ∈ [sp], H'' x ≠ none := fun x hx => sW.st x (hM7 x hx)
      dsimp only [gName, tSeq, tAsg]
      refine ⟨.ref pl, rfl, pl, rfl, Or.inl ⟨⟨_, SqL.of epl2⟩, fun D hD => L2.lc_it (L2.walk_list (K := K) (a := pl) (xs := (List.range (N - (N - 16))).map fun i : Nat => V.int (((N - 16) + i : Nat) : Int)))
        (fun i H' => Sm (ct A) [D] (upd H'' D (.lst [])) H' ∧ ∃ xs, H' D = some (.lst xs) ∧ Dqs (D :: [sp]) H' xs ((List.range i).map fun t => formD n d ((wordsOf n bs).getD (N - 16 + t) []))) ⟨Sm.refl, [], upd_same, .nil⟩ (fun i H' _ hW => ?_) (fun i y H3' H4' hi hW hY => ?_) (fun H9 hW => ?_)⟩⟩
      · exact SqL.of ((((Sm.new hD).trans hW.1).out hD).ex (c := ct A) pl _ (fun z => nomatch z) epl2 nofun)
      · obtain ⟨sY, xs, eD, dW⟩ := hW
        obtain ⟨rfl, hy⟩ := hY
        rw [List.length_map, List.length_range] at hi
        rw [List.getElem?_map, List.getElem?_range hi] at hy
        obtain rfl : V.int (((N - 16) + i : Nat) : Int) = y := Option.some.inj hy
        have sD : Sm (ct A) [D] H'' H4' := (Sm.new hD).trans sY
        have sD0 : Sm (ct A) [] H'' H4' := sD.out hD
        have hMD : ∀ x ∈ D :: [sp], H4' x ≠ none := fun x hx => by
          rcases List.mem_cons.mp hx with z | z
          · rw [z, eD]; nofun
          · exact sD.st x (hMx x z)
        have iD : ∀ z, z ∈ [D] → z ∈ D :: [sp] := fun z hz => by rw [List.mem_singleton.mp hz]; exact List.mem_cons_self
        have lxs := dW.length
        rw [List.length_map, List.length_range] at lxs
        refine ⟨rfl, .ref a, rfl, _, rfl, _, rfl, tell (M' := D :: [sp]) (sW.trans sD0) hMD (((net7.sm (sW.any (M := [sp]))).wk hD).sm (sD.sub iD)) ((dx2.wk hD).sm (sD.sub iD)) kd rfl (gw i hi) fun v Hy sy dv => ?_⟩
        have eD' : Hy D = some (.lst xs) := sy.ex D _ (fun z => nomatch z) eD nofun
        refine ⟨xs, eD', sz_lt (by omega), (sY.trans sy.any).trans (Sm.put List.mem_cons_self eD'), _, upd_same, ?_⟩
        rw [List.range_succ, List.map_append]
        exact ((dW.sm sy.any).snoc dv).sm (Sm.put (c := ct A) List.mem_cons_self eD')
      obtain ⟨sY, xs, eD, dW⟩ := hW
      rw [List.length_map, List.length_range] at dW
      have s9 : Sm (ct A) [] H'' H9 := ((Sm.new hD).trans sY).out hD
      have hM9 : ∀ x ∈ [sp], H9 x ≠ none := fun x hx => s9.st x (hMx x hx)
      have told9 : Dq [sp] H9 (.ref D) (.list ((List.range (N - (N - 16))).map fun t => formD n d ((wordsOf n bs).getD (N - 16 + t) []))) := .lst (fun z => hMx D z hD) eD (dW.sub fun z hz => List.mem_cons_of_mem _ hz)
      have eds : ((List.range (N - (N - 16))).map fun t => formD n d ((wordsOf n bs).getD (N - 16 + t) [])) = ((List.range (N - (N - 16))).map fun t => formN n d ((wordsOf n bs).getD (N - 16 + t) [])).map encW := by
        rw [List.map_map]
        refine List.map_congr_left fun i hi => ?_
        obtain ⟨w1, w4, wn⟩ := small (gw i (List.mem_range.mp hi))
        exact (formN_ok kd w1 w4 n12 wn).1
      have hsh : Shows (.list ((List.range (N - (N - 16))).map fun t => formD n d ((wordsOf n bs).getD (N - 16 + t) []))) := by
        rw [eds]
        refine shows_words (by rw [List.length_map, List.length_range]; omega) (fun w hw => ?_) fun w hw => ?_
        · obtain ⟨i, hi, rfl⟩ := List.mem_map.mp hw
          obtain ⟨w1, w4, wn⟩ := small (gw i (List.mem_range.mp hi))
          exact (formN_ok kd w1 w4 n12 wn).2.1
        · obtain ⟨i, hi, rfl⟩ := List.mem_map.mp hw
          obtain ⟨w1, w4, wn⟩ := small (gw i (List.mem_range.mp hi))
          exact (formN_ok kd w1 w4 n12 wn).2.2
      refine ⟨.ref D, rfl, _, _, rfl, told9.dp hsh.n, hsh, ?_⟩
      have f9 := (f7.sm (sW.any (M := [sp]))).sm (s9.any (M := [sp]))
      have epl9 := s9.ex pl _ (fun z => nomatch z) epl2 nofun
      have elw9 := (sW.trans s9).ex lw _ (fun z => nomatch z) elw7 nofun
      have dx9 := dx2.sm (s9.any (M := [sp]))
      refine ⟨.ref pl, rfl, pl, rfl, Or.inl ⟨⟨_, SqL.of epl9⟩, fun D2 hD2 => L2.lc_it (L2.walk_list (K := K) (a := pl) (xs := (List.range (N - (N - 16))).map fun i : Nat => V.int (((N - 16) + i : Nat) : Int)))
        (fun i H' => Sm (ct A) [D2] (upd H9 D2 (.lst [])) H' ∧ ∃ xs, H' D2 = some (.lst xs) ∧ Fqs (D2 :: [sp]) H' xs ((List.range i).map fun t => formD n d ((wordsOf n bs).getD (N - 16 + t) []))) ⟨Sm.refl, [], upd_same, .nil⟩ (fun i H' _ hW => ?_) (fun i y H3' H4' hi hW hY => ?_) (fun Ha hW => ?_)⟩⟩
      · exact SqL.of ((((Sm.new hD2).trans hW.1).out hD2).ex (c := ct A) pl _ (fun z => nomatch z) epl9 nofun)
      · obtain ⟨sY2, xs2, eD2, dW2⟩ := hW
        obtain ⟨rfl, hy⟩ := hY
        rw [List.length_map, List.length_range] at hi
        rw [List.getElem?_map, List.getElem?_range hi] at hy
        obtain rfl : V.int (((N - 16) + i : Nat) : Int) = y := Option.some.inj hy
        have sD : Sm (ct A) [D2] H9 H4' := (Sm.new hD2).trans sY2
        have sD0 : Sm (ct A) [] H9 H4' := sD.out hD2
        have hMD : ∀ x ∈ D2 :: [sp], H4' x ≠ none := fun x hx => by
          rcases List.mem_cons.mp hx with z | z
          · rw [z, eD2]; nofun
          · exact sD.st x (hM9 x z)
        have iD : ∀ z, z ∈ [D2] → z ∈ D2 :: [sp] := fun z hz => by rw [List.mem_singleton.mp hz]; exact List.mem_cons_self
        have lxs := dW2.length
        rw [List.length_map, List.length_range] at lxs
        obtain ⟨pw, gpw, npw, fpw⟩ := f9.get (gw i hi)
        have npD : pw ∉ D2 :: [sp] := fun z => by
          rcases List.mem_cons.mp z with z | z
          · obtain ⟨o, e, _⟩ := fpw
            rw [z, hD2] at e
            cases e
          · exact npw z
        have elwx := sD0.ex lw _ (fun z => nomatch z) elw9 nofun
        refine ⟨rfl, .ref lw, rfl, _, rfl, Or.inl ⟨lw, vs, _, _, rfl, rfl, SqL.of elwx, atI_of gpw, _, rfl, _, rfl, tellL (M' := D2 :: [sp]) (E' := E0) ((sW.trans s9).trans sD0) hMD npD (fpw.sm sD0 fun z => nomatch z) ((dx9.wk hD2).sm (sD.sub iD)) kd (gw i hi) fun v Hy sy dv => ?_⟩⟩
        have eD' : Hy D2 = some (.lst xs2) := sy.ex D2 _ (fun z => nomatch z) eD2 nofun
        refine ⟨xs2, eD', sz_lt (by omega), (sY2.trans sy.any).trans (Sm.put List.mem_cons_self eD'), _, upd_same, ?_⟩
        rw [List.range_succ, List.map_append]
        exact ((dW2.sm sy.any).snoc dv).sm (Sm.put (c := ct A) List.mem_cons_self eD')
      obtain ⟨sY2, xs2, eD2, dW2⟩ := hW
      rw [List.length_map, List.length_range] at dW2
      have sa : Sm (ct A) [] H9 Ha := ((Sm.new hD2).trans sY2).out hD2
      have hda := hsh.n
      simp only [PyData.hasDict] at hda
      exact ⟨_, _, rfl, .lst (SqL.of eD2) (dW2.dps hda), hsh, Or.inl ⟨rfl, _, rfl, ite2 (fun e => by simp at e) fun _ => ⟨_, _, _, _, rfl, sW.trans (s9.trans sa)⟩⟩⟩
    · obtain ⟨z6, z7, z8, z9, rfl, sW⟩ := hW
      have N1 : 1 ≤ N := by
        have := hN.n1
        omega
      have elw8 := sW.ex lw _ (fun z => nomatch z) elw7 nofun
      have f8 := f7.sm (sW.any (M := [sp]))
      have net8 := net7.sm (sW.any (M := [sp]))
      have hM8 : ∀ x ∈ [sp], H8 x ≠ none := fun x hx => sW.st x (hM7 x hx)
      have lv8 : vs.length = N := by
        rw [← hN0]
        exact f8.length
      have ej : ((vs.length : Int) - 1) = ((N - 1 : Nat) : Int) := by omega
      have gN : (wordsOf n bs)[N - 1]? = some ((wordsOf n bs).getD (N - 1) []) := by
        have : N - 1 < (wordsOf n bs).length := by omega
        rw [List.getD_eq_getElem?_getD, List.getElem?_eq_getElem this]
        rfl
      obtain ⟨w1, w4, wn⟩ := small gN
      obtain ⟨pw, gpw, npw, fpw⟩ := f8.get gN
      obtain ⟨q1, q2, q3⟩ := formN_ok hx1 w1 w4 n12 wn
      have hsh : Shows (formD n x1 ((wordsOf n bs).getD (N - 1) [])) := by
        rw [q1]
        exact shows_word (by omega) q3
      refine ⟨.ref lw, rfl, lw, vs, rfl, Or.inl (SqL.of elw8), _, _, rfl, rfl, ?_⟩
      refine ⟨v1, rfl, _, rfl, .ref a, rfl, rfl, tell (M' := [sp]) sW hM8 net8 (dx1 _ _) hx1 ej gN fun v Hy sy dv => ?_⟩
      refine ⟨_, _, rfl, dv.dp hsh.n, hsh, ?_⟩
      have elwy := sy.ex lw _ (fun z => nomatch z) elw8 nofun
      refine ⟨.ref lw, rfl, _, rfl, Or.inl ⟨lw, vs, _, _, rfl, rfl, SqL.of elwy, (by rw [ej]; exact atI_of gpw), _, rfl, _, rfl, tellL (M' := [sp]) (E' := E0) (sW.trans sy) (fun x hx => sy.st x (hM8 x hx)) npw (fpw.sm sy fun z => nomatch z) (dx1 _ _) hx1 gN fun v' Hz sz dz => ?_⟩⟩
      refine ⟨_, _, rfl, dz.dp hsh.n, hsh, Or.inl ⟨rfl, ?_⟩⟩
      rw [decide_eq_true (rfl : (V.str _) = V.str _)]
      exact q _ (s17.trans ((sW.trans (sy.trans sz)).any))

def sp_law (K : PySem.W.Frag) (A : Ads) : Sp := fun vs H Q _ => ∃ (a : Addr) (ns : List Int), vs = [.ref a] ∧ Gd (ct A) H ∧ SqL K H a (ns.map V.int) ∧ ∀ H', Q (.bl true) H'
theorem ok_law (T : Txt K mg A) (B : TabsB base mg A) : FnG P w K mg base CX0 10 A.a_law (Classical.choose T.f_law) ["script"] (sp_law K A) := by
  have F := (Classical.choose_spec T.f_law).1
  refine fnG_of F sc_law (fun vs H Q E h => ?_) fun cdv A0 outer s H vs Q E hcd hr h => ?_
  · obtain ⟨_, _, rfl, _⟩ := h
    rfl
  · obtain ⟨a, ns, rfl, gd, hS, q⟩ := h
    have d_spring := ok_spring (P := P) (w := w) (base := base) T
    have d_right := ok_right (P := P) (w := w) T B
    refine ⟨_, PSs.nox (pss_one (ps_ret (pe_callB (call_allK (K := K) rfl) (by rfl) T.z_all (by decide +kernel) (pa_cons (pe_lc (own := [("turn", 1)]) (g := gName 1) (tt := tYes) rfl sc_law.nd (pi_range1 (by rfl) T.z_range (pa_cons pe_int pa_nil)) (blkOk_by (own := [("turn", 1)]) (N := ["script", "turn"]) (sc := defScope s_law) (by decide +kernel)) (fun _ _ _ _ _ => pg_name (i := 1) sc_law.nd rfl (Or.inl rfl)) (fun _ _ _ _ _ => pts_nil) (fun _ _ _ _ _ => (pe_df d_right hr (by decide) rfl pass0 (pa_cons (pe_df d_spring hr (by decide) rfl pass0 (pa_cons (pv 0) (pa_cons (pv 1) pa_nil))) pa_nil)))) pa_nil)))), ?_⟩
    refine ⟨_, rfl, by decide, by decide, fun D hD => L2.lc_it (L2.walk_range (lo := 0) (n := (2 : Int).toNat))
      (fun i H' => Sm (ct A) [D] (upd H D (.lst [])) H' ∧ H' D = some (.lst ((List.replicate i true).map V.bl))) ⟨Sm.refl, upd_same⟩ (fun _ _ _ _ => trivial) (fun t x H' H'' ht hW hY => ?_) (fun H7 hW => ?_)⟩
    · obtain ⟨sW, eD⟩ := hW
      obtain ⟨rfl, hx⟩ := hY
      have et : (0 : Int) + (t : Nat) = (t : Int) := by omega
      have hx' : x = .int (t : Int) := hx.trans (by show V.int (0 + (t : Nat)) = _; rw [et])
      subst hx'
      have ht' : t < 2 := ht
      have sD : Sm (ct A) [] H H'' := ((Sm.new hD).trans sW).out hD
      refine ⟨rfl, .ref a, rfl, _, rfl, a, ns, t, rfl, sD.gd gd, sq_ext sD.ext hS, by omega, fun p Hp sp hp spr => ?_⟩
      have nDp : D ≠ p := ne_of_none eD hp
      refine ⟨p, rfl, sp.gd (sD.gd gd), spr, fun Hq sq => ?_⟩
      have eD' : Hq D = some (.lst ((List.replicate t true).map V.bl)) := sq.ex D _ (fun z => nDp (List.mem_singleton.mp z)) (sp.ex D _ (fun z => nomatch z) eD nofun) nofun
      have s' : Sm (ct A) [D] (upd H D (.lst [])) Hq := sW.trans (((sp.any.trans sq).out hp).any)
      refine ⟨_, eD', sz_lt (by rw [List.length_map, List.length_replicate]; omega), s'.trans (Sm.put List.mem_cons_self eD'), ?_⟩
      rw [upd_same, List.replicate_succ', List.map_append]
      rfl
    · obtain ⟨sW, eD⟩ := hW
      exact ⟨D, List.replicate 2 true, rfl, SqL.of eD, q _⟩

end
theorem txt_of {K : PySem.W.Frag} {h : Heap} {mg : Str → Option Value} (X : K.In h) (G : h.Ns mainGlobals mg) {f_run_through f_wire_lengths f_join_words f_short_words f_join_firsts f_join_lasts f_join_sets f_join_ends f_join_counts f_place_counts f_wire_forms f_is_whole f_is_row f_are_wires f_is_net f_check_net f_check_wire f_is_kind f_check_kind f_check_short f_form_of f_spring f_draw f_pick f_tone f_tones f_joint f_web f_padded f_led f_parts f_stretch f_plan f_built f_swerve f_wished f_words f_form f_right f_law c_wire_lengths p_wire_lengths c_are_wires p_are_wires n_NAMED_KINDS : Addr}
    (h_run_through : HasFn K "run_through" "run_through" s_run_through f_run_through)
    (h_wire_lengths : HasFn K "wire_lengths" "wire_lengths" s_wire_lengths f_wire_lengths)
    (h_join_words : HasFn K "join_words" "join_words" s_join_words f_join_words)
    (h_short_words : HasFn K "short_words" "short_words" s_short_words f_short_words)
    (h_join_firsts : HasFn K "join_firsts" "join_firsts" s_join_firsts f_join_firsts)
    (h_join_lasts : HasFn K "join_lasts" "join_lasts" s_join_lasts f_join_lasts)
    (h_join_sets : HasFn K "join_sets" "join_sets" s_join_sets f_join_sets)
    (h_join_ends : HasFn K "join_ends" "join_ends" s_join_ends f_join_ends)
    (h_join_counts : HasFn K "join_counts" "join_counts" s_join_counts f_join_counts)
    (h_place_counts : HasFn K "place_counts" "place_counts" s_place_counts f_place_counts)
    (h_wire_forms : HasFn K "wire_forms" "wire_forms" s_wire_forms f_wire_forms)
    (h_is_whole : HasFn K "is_whole" "is_whole" s_is_whole f_is_whole)
    (h_is_row : HasFn K "is_row" "is_row" s_is_row f_is_row)
    (h_are_wires : HasFn K "are_wires" "are_wires" s_are_wires f_are_wires)
    (h_is_net : HasFn K "is_net" "is_net" s_is_net f_is_net)
    (h_check_net : HasFn K "check_net" "check_net" s_check_net f_check_net)
    (h_check_wire : HasFn K "check_wire" "check_wire" s_check_wire f_check_wire)
    (h_is_kind : HasFn K "is_kind" "is_kind" s_is_kind f_is_kind)
    (h_check_kind : HasFn K "check_kind" "check_kind" s_check_kind f_check_kind)
    (h_check_short : HasFn K "check_short" "check_short" s_check_short f_check_short)
    (h_form_of : HasFn K "form_of" "form_of" s_form_of f_form_of)
    (h_spring : HasFn K "_law_spring" "_law_spring" s_spring f_spring)
    (h_draw : HasFn K "_law_draw" "_law_draw" s_draw f_draw)
    (h_pick : HasFn K "_law_pick" "_law_pick" s_pick f_pick)
    (h_tone : HasFn K "_law_tone" "_law_tone" s_tone f_tone)
    (h_tones : HasFn K "_law_tones" "_law_tones" s_tones f_tones)
    (h_joint : HasFn K "_law_joint" "_law_joint" s_joint f_joint)
    (h_web : HasFn K "_law_web" "_law_web" s_web f_web)
    (h_padded : HasFn K "_law_padded" "_law_padded" s_padded f_padded)
    (h_led : HasFn K "_law_led" "_law_led" s_led f_led)
    (h_parts : HasFn K "_law_parts" "_law_parts" s_parts f_parts)
    (h_stretch : HasFn K "_law_stretch" "_law_stretch" s_stretch f_stretch)
    (h_plan : HasFn K "_law_plan" "_law_plan" s_plan f_plan)
    (h_built : HasFn K "_law_built" "_law_built" s_built f_built)
    (h_swerve : HasFn K "_law_swerve" "_law_swerve" s_swerve f_swerve)
    (h_wished : HasFn K "_law_wished" "_law_wished" s_wished f_wished)
    (h_words : HasFn K "_law_words" "_law_words" s_words f_words)
    (h_form : HasFn K "_law_form" "_law_form" s_form f_form)
    (h_right : HasFn K "_law_right" "_law_right" s_right f_right)
    (h_law : HasFn K "law" "law" s_law f_law)
    (t_wire_lengths : PySem.W.tabIn K "wire_lengths" = some (c_wire_lengths, p_wire_lengths))
    (t_are_wires : PySem.W.tabIn K "are_wires" = some (c_are_wires, p_are_wires))
    (k_LONGEST_WORD : ∃ t, PySem.W.nsIn K mainGlobals "LONGEST_WORD" = some (some (.int 400 t)))
    (k_MOST_PLACES : ∃ t, PySem.W.nsIn K mainGlobals "MOST_PLACES" = some (some (.int 12 t)))
    (k_MOST_BOXES : ∃ t, PySem.W.nsIn K mainGlobals "MOST_BOXES" = some (some (.int 60 t)))
    (k_MOST_ENDS : ∃ t, PySem.W.nsIn K mainGlobals "MOST_ENDS" = some (some (.int 24 t)))
    (k_NAMED_KINDS : My.TupC K "NAMED_KINDS" n_NAMED_KINDS [.str "any", .str "even", .str "first", .str "last", .str "sets", .str "ends"])
    (z_len : PySem.W.nsIn K mainGlobals "len" = some none)
    (z_abs : PySem.W.nsIn K mainGlobals "abs" = some none)
    (z_repr : PySem.W.nsIn K mainGlobals "repr" = some none)
    (z_int : PySem.W.nsIn K mainGlobals "int" = some none)
    (z_tuple : PySem.W.nsIn K mainGlobals "tuple" = some none)
    (z_list : PySem.W.nsIn K mainGlobals "list" = some none)
    (z_type : PySem.W.nsIn K mainGlobals "type" = some none)
    (z_max : PySem.W.nsIn K mainGlobals "max" = some none)
    (z_all : PySem.W.nsIn K mainGlobals "all" = some none)
    (z_range : PySem.W.nsIn K mainGlobals "range" = some none)
    (z_enumerate : PySem.W.nsIn K mainGlobals "enumerate" = some none)
    (z_zip : PySem.W.nsIn K mainGlobals "zip" = some none)
    (z_str : PySem.W.nsIn K mainGlobals "str" = some none)
    (z_sorted : PySem.W.nsIn K mainGlobals "sorted" = some none) : Txt K mg ⟨f_run_through, f_wire_lengths, f_join_words, f_short_words, f_join_firsts, f_join_lasts, f_join_sets, f_join_ends, f_join_counts, f_place_counts, f_wire_forms, f_is_whole, f_is_row, f_are_wires, f_is_net, f_check_net, f_check_wire, f_is_kind, f_check_kind, f_check_short, f_form_of, f_spring, f_draw, f_pick, f_tone, f_tones, f_joint, f_web, f_padded, f_led, f_parts, f_stretch, f_plan, f_built, f_swerve, f_wished, f_words, f_form, f_right, f_law, c_wire_lengths, p_wire_lengths, c_are_wires, p_are_wires, n_NAMED_KINDS⟩ where
  f_run_through := h_run_through.fn fun _ _ _ _ _ _ us hl => match us, hl with | [_, _, _], _ => rfl
  g_run_through := h_run_through.gl X G
  f_wire_lengths := h_wire_lengths.fn fun _ _ _ _ _ _ us hl => match us, hl with | [_], _ => rfl
  g_wire_lengths := h_wire_lengths.gl X G
  f_join_words := h_join_words.fn fun _ _ _ _ _ _ us hl => match us, hl with | [_, _], _ => rfl
  g_join_words := h_join_words.gl X G
  f_short_words := h_short_words.fn fun _ _ _ _ _ _ us hl => match us, hl with | [_], _ => rfl
  g_short_words := h_short_words.gl X G
  f_join_firsts := h_join_firsts.fn fun _ _ _ _ _ _ us hl => match us, hl with | [_, _], _ => rfl
  g_join_firsts := h_join_firsts.gl X G
  f_join_lasts := h_join_lasts.fn fun _ _ _ _ _ _ us hl => match us, hl with | [_, _], _ => rfl
  g_join_lasts := h_join_lasts.gl X G
  f_join_sets := h_join_sets.fn fun _ _ _ _ _ _ us hl => match us, hl with | [_, _], _ => rfl
  g_join_sets := h_join_sets.gl X G
  f_join_ends := h_join_ends.fn fun _ _ _ _ _ _ us hl => match us, hl with | [_, _], _ => rfl
  g_join_ends := h_join_ends.gl X G
  f_join_counts := h_join_counts.fn fun _ _ _ _ _ _ us hl => match us, hl with | [_, _], _ => rfl
  g_join_counts := h_join_counts.gl X G
  f_place_counts := h_place_counts.fn fun _ _ _ _ _ _ us hl => match us, hl with | [_], _ => rfl
  g_place_counts := h_place_counts.gl X G
  f_wire_forms := h_wire_forms.fn fun _ _ _ _ _ _ us hl => match us, hl with | [_, _], _ => rfl
  g_wire_forms := h_wire_forms.gl X G
  f_is_whole := h_is_whole.fn fun _ _ _ _ _ _ us hl => match us, hl with | [_, _, _], _ => rfl
  g_is_whole := h_is_whole.gl X G
  f_is_row := h_is_row.fn fun _ _ _ _ _ _ us hl => match us, hl with | [_, _, _], _ => rfl
  g_is_row := h_is_row.gl X G
  f_are_wires := h_are_wires.fn fun _ _ _ _ _ _ us hl => match us, hl with | [_, _], _ => rfl
  g_are_wires := h_are_wires.gl X G
  f_is_net := h_is_net.fn fun _ _ _ _ _ _ us hl => match us, hl with | [_], _ => rfl
  g_is_net := h_is_net.gl X G
  f_check_net := h_check_net.fn fun _ _ _ _ _ _ us hl => match us, hl with | [_], _ => rfl
  g_check_net := h_check_net.gl X G
  f_check_wire := h_check_wire.fn fun _ _ _ _ _ _ us hl => match us, hl with | [_, _], _ => rfl
  g_check_wire := h_check_wire.gl X G
  f_is_kind := h_is_kind.fn fun _ _ _ _ _ _ us hl => match us, hl with | [_], _ => rfl
  g_is_kind := h_is_kind.gl X G
  f_check_kind := h_check_kind.fn fun _ _ _ _ _ _ us hl => match us, hl with | [_], _ => rfl
  g_check_kind := h_check_kind.gl X G
  f_check_short := h_check_short.fn fun _ _ _ _ _ _ us hl => match us, hl with | [_, _], _ => rfl
  g_check_short := h_check_short.gl X G
  f_form_of := h_form_of.fn fun _ _ _ _ _ _ us hl => match us, hl with | [_, _, _], _ => rfl
  g_form_of := h_form_of.gl X G
  f_spring := h_spring.fn fun _ _ _ _ _ _ us hl => match us, hl with | [_, _], _ => rfl
  g_spring := h_spring.gl X G
  f_draw := h_draw.fn fun _ _ _ _ _ _ us hl => match us, hl with | [_, _], _ => rfl
  g_draw := h_draw.gl X G
  f_pick := h_pick.fn fun _ _ _ _ _ _ us hl => match us, hl with | [_, _], _ => rfl
  g_pick := h_pick.gl X G
  f_tone := h_tone.fn fun _ _ _ _ _ _ us hl => match us, hl with | [_], _ => rfl
  g_tone := h_tone.gl X G
  f_tones := h_tones.fn fun _ _ _ _ _ _ us hl => match us, hl with | [], _ => rfl
  g_tones := h_tones.gl X G
  f_joint := h_joint.fn fun _ _ _ _ _ _ us hl => match us, hl with | [_, _, _, _], _ => rfl
  g_joint := h_joint.gl X G
  f_web := h_web.fn fun _ _ _ _ _ _ us hl => match us, hl with | [_, _, _], _ => rfl
  g_web := h_web.gl X G
  f_padded := h_padded.fn fun _ _ _ _ _ _ us hl => match us, hl with | [_, _, _, _, _, _, _], _ => rfl
  g_padded := h_padded.gl X G
  f_led := h_led.fn fun _ _ _ _ _ _ us hl => match us, hl with | [_, _, _, _, _, _, _], _ => rfl
  g_led := h_led.gl X G
  f_parts := h_parts.fn fun _ _ _ _ _ _ us hl => match us, hl with | [_, _, _, _, _, _], _ => rfl
  g_parts := h_parts.gl X G
  f_stretch := h_stretch.fn fun _ _ _ _ _ _ us hl => match us, hl with | [_, _, _, _, _, _, _], _ => rfl
  g_stretch := h_stretch.gl X G
  f_plan := h_plan.fn fun _ _ _ _ _ _ us hl => match us, hl with | [_], _ => rfl
  g_plan := h_plan.gl X G
  f_built := h_built.fn fun _ _ _ _ _ _ us hl => match us, hl with | [_, _, _, _], _ => rfl
  g_built := h_built.gl X G
  f_swerve := h_swerve.fn fun _ _ _ _ _ _ us hl => match us, hl with | [_, _, _, _, _], _ => rfl
  g_swerve := h_swerve.gl X G
  f_wished := h_wished.fn fun _ _ _ _ _ _ us hl => match us, hl with | [_, _], _ => rfl
  g_wished := h_wished.gl X G
  f_words := h_words.fn fun _ _ _ _ _ _ us hl => match us, hl with | [_], _ => rfl
  g_words := h_words.gl X G
  f_form := h_form.fn fun _ _ _ _ _ _ us hl => match us, hl with | [_, _, _], _ => rfl
  g_form := h_form.gl X G
  f_right := h_right.fn fun _ _ _ _ _ _ us hl => match us, hl with | [_], _ => rfl
  g_right := h_right.gl X G
  f_law := h_law.fn fun _ _ _ _ _ _ us hl => match us, hl with | [_], _ => rfl
  g_law := h_law.gl X G
  c_LONGEST_WORD := con1_int X G k_LONGEST_WORD
  c_MOST_PLACES := con1_int X G k_MOST_PLACES
  c_MOST_BOXES := con1_int X G k_MOST_BOXES
  c_MOST_ENDS := con1_int X G k_MOST_ENDS
  c_NAMED_KINDS := k_NAMED_KINDS.con X G
  q_NAMED_KINDS := k_NAMED_KINDS.sq
  t_wire_lengths := h_wire_lengths.tab X G t_wire_lengths
  t_are_wires := h_are_wires.tab X G t_are_wires
  k_form_of_kind_wire_net := h_form_of.kw (fun s _ _ _ _ _ _ ws hl => match ws, hl with | [_, _, _], _ => .of_eq rfl) fun r => (.cons (vals_getD r 2) (.cons (vals_getD r 1) (.cons (vals_getD r 0) .nil)))
  z_len := PySem.W.mg_none_of X G z_len
  z_abs := PySem.W.mg_none_of X G z_abs
  z_repr := PySem.W.mg_none_of X G z_repr
  z_int := PySem.W.mg_none_of X G z_int
  z_tuple := PySem.W.mg_none_of X G z_tuple
  z_list := PySem.W.mg_none_of X G z_list
  z_type := PySem.W.mg_none_of X G z_type
  z_max := PySem.W.mg_none_of X G z_max
  z_all := PySem.W.mg_none_of X G z_all
  z_range := PySem.W.mg_none_of X G z_range
  z_enumerate := PySem.W.mg_none_of X G z_enumerate
  z_zip := PySem.W.mg_none_of X G z_zip
  z_str := PySem.W.mg_none_of X G z_str
  z_sorted := PySem.W.mg_none_of X G z_sorted
theorem all_mk {l : PySem.W.OpenLaw} {w : World} {K : PySem.W.Frag} {h : Heap} {mg : Str → Option Value} {fa : Addr} (X : K.In h) (G : h.Ns mainGlobals mg) (hfa : mg "law" = some (.ref fa)) {f_run_through f_wire_lengths f_join_words f_short_words f_join_firsts f_join_lasts f_join_sets f_join_ends f_join_counts f_place_counts f_wire_forms f_is_whole f_is_row f_are_wires f_is_net f_check_net f_check_wire f_is_kind f_check_kind f_check_short f_form_of f_spring f_draw f_pick f_tone f_tones f_joint f_web f_padded f_led f_parts f_stretch f_plan f_built f_swerve f_wished f_words f_form f_right f_law c_wire_lengths p_wire_lengths c_are_wires p_are_wires n_NAMED_KINDS : Addr} (T : Txt K mg ⟨f_run_through, f_wire_lengths, f_join_words, f_short_words, f_join_firsts, f_join_lasts, f_join_sets, f_join_ends, f_join_counts, f_place_counts, f_wire_forms, f_is_whole, f_is_row, f_are_wires, f_is_net, f_check_net, f_check_wire, f_is_kind, f_check_kind, f_check_short, f_form_of, f_spring, f_draw, f_pick, f_tone, f_tones, f_joint, f_web, f_padded, f_led, f_parts, f_stretch, f_plan, f_built, f_swerve, f_wished, f_words, f_form, f_right, f_law, c_wire_lengths, p_wire_lengths, c_are_wires, p_are_wires, n_NAMED_KINDS⟩) (hlaw : HasFn K "law" "law" s_law f_law)
    (hT : PySem.W.TabsAt [(c_wire_lengths, p_wire_lengths), (c_are_wires, p_are_wires)] h) (nT : ∀ p ∈ [(c_wire_lengths, p_wire_lengths), (c_are_wires, p_are_wires)], K.lookup p.2 = none) (ne : ∀ q ∈ (ct ⟨f_run_through, f_wire_lengths, f_join_words, f_short_words, f_join_firsts, f_join_lasts, f_join_sets, f_join_ends, f_join_counts, f_place_counts, f_wire_forms, f_is_whole, f_is_row, f_are_wires, f_is_net, f_check_net, f_check_wire, f_is_kind, f_check_kind, f_check_short, f_form_of, f_spring, f_draw, f_pick, f_tone, f_tones, f_joint, f_web, f_padded, f_led, f_parts, f_stretch, f_plan, f_built, f_swerve, f_wished, f_words, f_form, f_right, f_law, c_wire_lengths, p_wire_lengths, c_are_wires, p_are_wires, n_NAMED_KINDS⟩).T, ∀ P ∈ (ct ⟨f_run_through, f_wire_lengths, f_join_words, f_short_words, f_join_firsts, f_join_lasts, f_join_sets, f_join_ends, f_join_counts, f_place_counts, f_wire_forms, f_is_whole, f_is_row, f_are_wires, f_is_net, f_check_net, f_check_wire, f_is_kind, f_check_kind, f_check_short, f_form_of, f_spring, f_draw, f_pick, f_tone, f_tones, f_joint, f_web, f_padded, f_led, f_parts, f_stretch, f_plan, f_built, f_swerve, f_wished, f_words, f_form, f_right, f_law, c_wire_lengths, p_wire_lengths, c_are_wires, p_are_wires, n_NAMED_KINDS⟩).G, q.1 ≠ P) (nt : ∀ p ∈ (ct ⟨f_run_through, f_wire_lengths, f_join_words, f_short_words, f_join_firsts, f_join_lasts, f_join_sets, f_join_ends, f_join_counts, f_place_counts, f_wire_forms, f_is_whole, f_is_row, f_are_wires, f_is_net, f_check_net, f_check_wire, f_is_kind, f_check_kind, f_check_short, f_form_of, f_spring, f_draw, f_pick, f_tone, f_tones, f_joint, f_web, f_padded, f_led, f_parts, f_stretch, f_plan, f_built, f_swerve, f_wished, f_words, f_form, f_right, f_law, c_wire_lengths, p_wire_lengths, c_are_wires, p_are_wires, n_NAMED_KINDS⟩).T, ∀ q ∈ (ct ⟨f_run_through, f_wire_lengths, f_join_words, f_short_words, f_join_firsts, f_join_lasts, f_join_sets, f_join_ends, f_join_counts, f_place_counts, f_wire_forms, f_is_whole, f_is_row, f_are_wires, f_is_net, f_check_net, f_check_wire, f_is_kind, f_check_kind, f_check_short, f_form_of, f_spring, f_draw, f_pick, f_tone, f_tones, f_joint, f_web, f_padded, f_led, f_parts, f_stretch, f_plan, f_built, f_swerve, f_wished, f_words, f_form, f_right, f_law, c_wire_lengths, p_wire_lengths, c_are_wires, p_are_wires, n_NAMED_KINDS⟩).T, p.1 = q.1 → p = q) :
    ∃ (fd : FuncData) (ts : List (Addr × Addr)) (sp : Sp), PySem.W.TabsAt ts h ∧ (∀ p ∈ ts, K.lookup p.2 = none) ∧ (∀ (s : Shared) (u : Value), BindsTo s fd ⟨[u], []⟩ [("script", u)]) ∧
      (∀ (H : Hp) (a : Addr) (ns : List Int), ns.length ≤ 63 → (∀ p ∈ ts, H p.2 = some (.tbl #[])) → SqL K H a (ns.map V.int) → sp [.ref a] H (fun v _ => v = .bl true) fun _ _ _ => False) ∧
      ∀ base : Heap, K.In base → base.Ns mainGlobals mg → (∀ p ∈ ts, LamX.TabB base mg p.1 p.2) → FnG l.prog w K mg base CX0 10 fa fd ["script"] sp := by
  have e := hfa.symm.trans T.g_law
  cases e
  obtain ⟨F, b⟩ := Classical.choose_spec T.f_law
  refine ⟨Classical.choose T.f_law, [(c_wire_lengths, p_wire_lengths), (c_are_wires, p_are_wires)], sp_law K ⟨f_run_through, f_wire_lengths, f_join_words, f_short_words, f_join_firsts, f_join_lasts, f_join_sets, f_join_ends, f_join_counts, f_place_counts, f_wire_forms, f_is_whole, f_is_row, f_are_wires, f_is_net, f_check_net, f_check_wire, f_is_kind, f_check_kind, f_check_short, f_form_of, f_spring, f_draw, f_pick, f_tone, f_tones, f_joint, f_web, f_padded, f_led, f_parts, f_stretch, f_plan, f_built, f_swerve, f_wished, f_words, f_form, f_right, f_law, c_wire_lengths, p_wire_lengths, c_are_wires, p_are_wires, n_NAMED_KINDS⟩, hT, nT, hlaw.one (At.of F) (fun _ _ _ _ _ _ _ _ => .of_eq rfl), fun H a ns hl ht hS => ⟨a, ns, rfl, ⟨fun P hP => ?_, fun p hp => ?_⟩, hS, fun _ => rfl⟩, fun base _ _ hB => ?_⟩
  · have tb : ∀ q ∈ [(c_wire_lengths, p_wire_lengths), (c_are_wires, p_are_wires)], H q.2 = some (.tbl #[]) := ht
    simp only [ct, List.mem_cons, List.not_mem_nil, or_false] at hP
    have e := hP
    · rw [e]
      exact tabG0 (tb (c_are_wires, p_are_wires) (by simp))
  · have tb : ∀ q ∈ [(c_wire_lengths, p_wire_lengths), (c_are_wires, p_are_wires)], H q.2 = some (.tbl #[]) := ht
    simp only [ct, List.mem_cons, List.not_mem_nil, or_false] at hp
    have e := hp
    · rw [e]
      exact tabS0 (tb (c_wire_lengths, p_wire_lengths) (by simp))
  · exact ok_law T ⟨hB (c_wire_lengths, p_wire_lengths) (by simp), hB (c_are_wires, p_are_wires) (by simp), ne, nt⟩
end Kx

open PySem PySem.W PyProof.Rows in
set_option maxRecDepth 100000 in
set_option maxHeartbeats 0 in
theorem PySem.Challenge.cw_runnets_k09_whole_forms_by_own_words_holds : PySem.Challenge.rw_runnets_k09_whole_forms_by_own_words.Holds := by
  w_on; o_law; k_head; (case hw => w_witness2)
  k_fill
  refine My.walkT (l := PySem.Challenge.rw_runnets_k09_whole_forms_by_own_words) (n := 63) (k := 10) (x := "script") (CX := fun _ => L2.CX0) rfl (by decide) rfl ⟨⟨rfl, by decide, by decide⟩, rfl⟩ (fun w h Y => by first | exact PySem.W.kIn_of Y | exact PySem.W.km_in_of Y) ?F (fun _ _ _ _ _ z => z)
  case F =>
    intro w mg fa h KX G hmg htab
    refine' Kx.all_mk KX G hmg (Kx.txt_of KX G ?h_run_through ?h_wire_lengths ?h_join_words ?h_short_words ?h_join_firsts ?h_join_lasts ?h_join_sets ?h_join_ends ?h_join_counts ?h_place_counts ?h_wire_forms ?h_is_whole ?h_is_row ?h_are_wires ?h_is_net ?h_check_net ?h_check_wire ?h_is_kind ?h_check_kind ?h_check_short ?h_form_of ?h_spring ?h_draw ?h_pick ?h_tone ?h_tones ?h_joint ?h_web ?h_padded ?h_led ?h_parts ?h_stretch ?h_plan ?h_built ?h_swerve ?h_wished ?h_words ?h_form ?h_right ?h_law ?t_wire_lengths ?t_are_wires ?k_LONGEST_WORD ?k_MOST_PLACES ?k_MOST_BOXES ?k_MOST_ENDS ?k_NAMED_KINDS ?z_len ?z_abs ?z_repr ?z_int ?z_tuple ?z_list ?z_type ?z_max ?z_all ?z_range ?z_enumerate ?z_zip ?z_str ?z_sorted) ?h_law ?hT ?nT ?ne ?nt
    (case h_run_through => (refine' My.hasFn ?a ?l ?c ?k; (case a => k_is); (case l => k_is); (case c => k_is); (case k => k_is)))
    (case h_wire_lengths => (refine' My.hasFn ?a ?l ?c ?k; (case a => k_is); (case l => k_is); (case c => k_is); (case k => k_is)))
    (case h_join_words => (refine' My.hasFn ?a ?l ?c ?k; (case a => k_is); (case l => k_is); (case c => k_is); (case k => k_is)))
    (case h_short_words => (refine' My.hasFn ?a ?l ?c ?k; (case a => k_is); (case l => k_is); (case c => k_is); (case k => k_is)))
    (case h_join_firsts => (refine' My.hasFn ?a ?l ?c ?k; (case a => k_is); (case l => k_is); (case c => k_is); (case k => k_is)))
    (case h_join_lasts => (refine' My.hasFn ?a ?l ?c ?k; (case a => k_is); (case l => k_is); (case c => k_is); (case k => k_is)))
    (case h_join_sets => (refine' My.hasFn ?a ?l ?c ?k; (case a => k_is); (case l => k_is); (case c => k_is); (case k => k_is)))
    (case h_join_ends => (refine' My.hasFn ?a ?l ?c ?k; (case a => k_is); (case l => k_is); (case c => k_is); (case k => k_is)))
    (case h_join_counts => (refine' My.hasFn ?a ?l ?c ?k; (case a => k_is); (case l => k_is); (case c => k_is); (case k => k_is)))
    (case h_place_counts => (refine' My.hasFn ?a ?l ?c ?k; (case a => k_is); (case l => k_is); (case c => k_is); (case k => k_is)))
    (case h_wire_forms => (refine' My.hasFn ?a ?l ?c ?k; (case a => k_is); (case l => k_is); (case c => k_is); (case k => k_is)))
    (case h_is_whole => (refine' My.hasFn ?a ?l ?c ?k; (case a => k_is); (case l => k_is); (case c => k_is); (case k => k_is)))
    (case h_is_row => (refine' My.hasFn ?a ?l ?c ?k; (case a => k_is); (case l => k_is); (case c => k_is); (case k => k_is)))
    (case h_are_wires => (refine' My.hasFn ?a ?l ?c ?k; (case a => k_is); (case l => k_is); (case c => k_is); (case k => k_is)))
    (case h_is_net => (refine' My.hasFn ?a ?l ?c ?k; (case a => k_is); (case l => k_is); (case c => k_is); (case k => k_is)))
    (case h_check_net => (refine' My.hasFn ?a ?l ?c ?k; (case a => k_is); (case l => k_is); (case c => k_is); (case k => k_is)))
    (case h_check_wire => (refine' My.hasFn ?a ?l ?c ?k; (case a => k_is); (case l => k_is); (case c => k_is); (case k => k_is)))
    (case h_is_kind => (refine' My.hasFn ?a ?l ?c ?k; (case a => k_is); (case l => k_is); (case c => k_is); (case k => k_is)))
    (case h_check_kind => (refine' My.hasFn ?a ?l ?c ?k; (case a => k_is); (case l => k_is); (case c => k_is); (case k => k_is)))
    (case h_check_short => (refine' My.hasFn ?a ?l ?c ?k; (case a => k_is); (case l => k_is); (case c => k_is); (case k => k_is)))
    (case h_form_of => (refine' My.hasFn ?a ?l ?c ?k; (case a => k_is); (case l => k_is); (case c => k_is); (case k => k_is)))
    (case h_spring => (refine' My.hasFn ?a ?l ?c ?k; (case a => k_is); (case l => k_is); (case c => k_is); (case k => k_is)))
    (case h_draw => (refine' My.hasFn ?a ?l ?c ?k; (case a => k_is); (case l => k_is); (case c => k_is); (case k => k_is)))
    (case h_pick => (refine' My.hasFn ?a ?l ?c ?k; (case a => k_is); (case l => k_is); (case c => k_is); (case k => k_is)))
    (case h_tone => (refine' My.hasFn ?a ?l ?c ?k; (case a => k_is); (case l => k_is); (case c => k_is); (case k => k_is)))
    (case h_tones => (refine' My.hasFn ?a ?l ?c ?k; (case a => k_is); (case l => k_is); (case c => k_is); (case k => k_is)))
    (case h_joint => (refine' My.hasFn ?a ?l ?c ?k; (case a => k_is); (case l => k_is); (case c => k_is); (case k => k_is)))
    (case h_web => (refine' My.hasFn ?a ?l ?c ?k; (case a => k_is); (case l => k_is); (case c => k_is); (case k => k_is)))
    (case h_padded => (refine' My.hasFn ?a ?l ?c ?k; (case a => k_is); (case l => k_is); (case c => k_is); (case k => k_is)))
    (case h_led => (refine' My.hasFn ?a ?l ?c ?k; (case a => k_is); (case l => k_is); (case c => k_is); (case k => k_is)))
    (case h_parts => (refine' My.hasFn ?a ?l ?c ?k; (case a => k_is); (case l => k_is); (case c => k_is); (case k => k_is)))
    (case h_stretch => (refine' My.hasFn ?a ?l ?c ?k; (case a => k_is); (case l => k_is); (case c => k_is); (case k => k_is)))
    (case h_plan => (refine' My.hasFn ?a ?l ?c ?k; (case a => k_is); (case l => k_is); (case c => k_is); (case k => k_is)))
    (case h_built => (refine' My.hasFn ?a ?l ?c ?k; (case a => k_is); (case l => k_is); (case c => k_is); (case k => k_is)))
    (case h_swerve => (refine' My.hasFn ?a ?l ?c ?k; (case a => k_is); (case l => k_is); (case c => k_is); (case k => k_is)))
    (case h_wished => (refine' My.hasFn ?a ?l ?c ?k; (case a => k_is); (case l => k_is); (case c => k_is); (case k => k_is)))
    (case h_words => (refine' My.hasFn ?a ?l ?c ?k; (case a => k_is); (case l => k_is); (case c => k_is); (case k => k_is)))
    (case h_form => (refine' My.hasFn ?a ?l ?c ?k; (case a => k_is); (case l => k_is); (case c => k_is); (case k => k_is)))
    (case h_right => (refine' My.hasFn ?a ?l ?c ?k; (case a => k_is); (case l => k_is); (case c => k_is); (case k => k_is)))
    (case h_law => (refine' My.hasFn ?a ?l ?c ?k; (case a => k_is); (case l => k_is); (case c => k_is); (case k => k_is)))
    (case t_wire_lengths => (refine' My.tabOf ?ta ?tl ?th ?tc ?tv; (case ta => k_is); (case tl => k_is); (case th => exact rfl); (case tc => k_is); (case tv => exact rfl)))
    (case t_are_wires => (refine' My.tabOf ?ta ?tl ?th ?tc ?tv; (case ta => k_is); (case tl => k_is); (case th => exact rfl); (case tc => k_is); (case tv => exact rfl)))
    (case k_LONGEST_WORD => exact ⟨_, by k_is⟩)
    (case k_MOST_PLACES => exact ⟨_, by k_is⟩)
    (case k_MOST_BOXES => exact ⟨_, by k_is⟩)
    (case k_MOST_ENDS => exact ⟨_, by k_is⟩)
    (case k_NAMED_KINDS => (refine' My.tupC ?ta ?tl ?tz ?tv; (case ta => k_is); (case tl => k_is); (case tz => decide); (case tv => exact (.cons ⟨_, rfl⟩ (.cons ⟨_, rfl⟩ (.cons ⟨_, rfl⟩ (.cons ⟨_, rfl⟩ (.cons ⟨_, rfl⟩ (.cons ⟨_, rfl⟩ .nil)))))))))
    (case z_len => k_is)
    (case z_abs => k_is)
    (case z_repr => k_is)
    (case z_int => k_is)
    (case z_tuple => k_is)
    (case z_list => k_is)
    (case z_type => k_is)
    (case z_max => k_is)
    (case z_all => k_is)
    (case z_range => k_is)
    (case z_enumerate => k_is)
    (case z_zip => k_is)
    (case z_str => k_is)
    (case z_sorted => k_is)
    case hT =>
      intro p hp
      simp only [List.mem_cons, List.not_mem_nil, or_false] at hp
      rcases hp with rfl | rfl
      · (refine' htab "wire_lengths" _ _ _ rfl (My.tabOf ?ta ?tl ?th ?tc ?tv); (case ta => k_is); (case tl => k_is); (case th => exact rfl); (case tc => k_is); (case tv => exact rfl))
      · (refine' htab "are_wires" _ _ _ rfl (My.tabOf ?ta ?tl ?th ?tc ?tv); (case ta => k_is); (case tl => k_is); (case th => exact rfl); (case tc => k_is); (case tv => exact rfl))
    case nT =>
      intro p hp
      simp only [List.mem_cons, List.not_mem_nil, or_false] at hp
      rcases hp with rfl | rfl
      · kernel_rfl
      · kernel_rfl
    (case ne => (intro q hq P hP; first | (exfalso; simp [Kx.ct] at hq; done) | (exfalso; simp [Kx.ct] at hP; done) | (simp only [Kx.ct, List.mem_cons, List.not_mem_nil, or_false] at hq hP; (try subst hq); (try subst hP); first | decide | (rcases hq with rfl | rfl <;> (try rcases hP with rfl | rfl) <;> decide))))
    (case nt => (intro p hp q hq e; first | (exfalso; simp [Kx.ct] at hp; done) | (simp only [Kx.ct, List.mem_cons, List.not_mem_nil, or_false] at hp hq; first | (subst hp; subst hq; rfl) | (rcases hp with rfl | rfl <;> rcases hq with rfl | rfl <;> first | rfl | exact absurd e (by decide)))))

