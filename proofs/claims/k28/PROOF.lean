import PyProof.Rows.All
import Wide.All
import OpenK.AllK
import Wide.FinOn
import HandS.ForMost
import HandS.ForExc
import HandS.TupAny
import HandS.TupMul
import HandS.Wide
import HandS.Style
import HandS.Conv
import PyProof.ReprRoads
import HandS.AnyAll
import HandS.Lambda
import HandS.CallLocal
import HandS.More
import KE.GoesEnum
import HandS.Walk
import HandS.Codes
import HandS.Star
import KE.KTupSum
import HandS.IsInst
import HandS.Sort
import HandS.Dict
import HandS.Strs
import HandS.SetFor
import HandS.DictComp
import HandS.RevRange
import HandS.Rev
import HandS.Small
import KE.KRevSl
import HandS.SortInts
import HandS.Zip
import PyProof.TypeEq
import KE.KDictZip
import KE.KMathG
import HandS.Gcd
import HandS.Nested
import PySem.Challenge.RW_runnets_k28_whole_carries_by_own_adding
set_option Elab.async false
set_option linter.all false
set_option maxRecDepth 100000
set_option maxHeartbeats 4000000
/-! a def's promise where it is known besides that no repr is under way -/
namespace My
open PySem PySem.Spec PyProof.Rows L2

/-- room, and nothing under way that a repr would mind -/
structure Rm (k : Nat) (A : Around) : Prop where
  r : Room k A
  g : A.guards = some []
theorem Rm.mono {j k : Nat} {A : Around} (h : Rm k A) (e : j ≤ k) : Rm j A := ⟨h.r.mono e, h.g⟩
theorem Rm.deeper {k : Nat} {A : Around} (h : Rm (k + 1) A) (env : Env) : Rm k (A.deeper env) :=
  ⟨h.r.deeper env, h.g⟩

structure FnG (P : Program) (w : World) (K : PySem.W.Frag) (mg : Str → Option Value)
    (base : Heap) (CX : CXT) (k : Nat) (f : Addr) (fd : FuncData) (ps : List Str) (sp : Sp) : Prop where
  len : ∀ vs H Q E, sp vs H Q E → vs.length = ps.length
  go : ∀ (A : Around) (outer : List Env) (s : Shared) (H : Hp) (args : Args)
    (us : List Value) (vs : List V) (Q : VK) (E : XK), Rm k A →
    Env0 P w K mg base A outer s H → BindsTo s fd args (ps.zip us) → Vals vs us →
    sp vs H Q E → codeAny (model P w) A (.call (.ref f) args) (CR CX outer P w H s Q E) s

section
variable {P : Program} {w : World} {K : PySem.W.Frag} {mg : Str → Option Value} {base : Heap}
variable {CX : CXT} {k : Nat} {f : Addr} {fd : FuncData} {ps : List Str} {sp : Sp}
theorem FnG.mono {j : Nat} (F : FnG P w K mg base CX j f fd ps sp) (h : j ≤ k) :
    FnG P w K mg base CX k f fd ps sp :=
  ⟨F.len, fun A o s H args us vs Q E r => F.go A o s H args us vs Q E (r.mono h)⟩
/-- a promise of the library's kind is one of this kind -/
theorem FnG.of (F : FnOk P w K mg base CX k f fd ps sp) : FnG P w K mg base CX k f fd ps sp :=
  ⟨F.len, fun A o s H args us vs Q E r => F.run A o s H args us vs Q E r.r⟩

/-- with what follows wished away: a def by its body -/
theorem fnG_of {x qual : Str} {st : Stmt} {N : List Str}
    (F : Fun K x qual st f fd) (S : FnScope N ps (defScope st))
    (len : ∀ vs H Q E, sp vs H Q E → vs.length = ps.length)
    (hb : ∀ (cdv : Value) (A : Around) (outer : List Env) (s : Shared) (H : Hp) (vs : List V) (Q : VK) (E : XK),
      (∀ fd', (∃ oc od osl, K.lookup f = some ⟨oc, od, .func fd', osl⟩) → fd'.code = cdv) →
      Rm k (A.deeper (envOfC qual (defScope st) s.heap.objs.size f cdv)) → sp vs H Q E →
      ∃ t, PSs (cxOf CX P w K mg base N qual (defScope st) f cdv A outer s H E) (defBody st) t ∧
        t { nx := fun _ H' => Q .non H', rt := Q } (start N vs) H) :
    FnG P w K mg base CX (k + 1) f fd ps sp := by
  refine ⟨len, fun A outer s H args us vs Q E hr e0 bt rv hsp => ?_⟩
  obtain ⟨oc, od, kV, doc, pm, an, cdv, ct, osl, efd, lk, hcd⟩ := F.ex
  subst efd
  have keep := fun b o e => (e0.bs b o e).1
  have lim : s.heap.NoLimit := e0.mod.nolimit.keeps keep
  have hl : vs.length = ps.length := len _ _ _ _ hsp
  refine codeAny_call_function hr.r.depth ((e0.mod.kin.keeps keep) _ _ lk) rfl S.co S.gen rfl
    (PySem.W.codeRec_of (e0.mod.kin.keeps keep) hcd) (bt _ _ _ _ ?_)
  refine wpAny_newFunctionEnv_cells S.kind (fun ⟨n, v⟩ hy => ?_) fun env he s1 x => ?_
  · rcases S.par n (List.of_mem_zip hy).1 with q | q
    · exact Or.inl q
    · exact Or.inr (And.intro q (PySem.W.cellsFrom_some _ _ _ (Or.inl q)))
  subst he
  refine ⟨lim.keeps x.toInCall.keep, codeAny_func ?_⟩
  have hc1 : ∀ fd', (∃ oc od osl, K.lookup f = some ⟨oc, od, .func fd', osl⟩) → fd'.code = cdv := fun fd' hz => by
    obtain ⟨oc', od', osl', e'⟩ := hz
    rw [lk] at e'
    cases e'
    rfl
  obtain ⟨t, ht, hq⟩ := hb cdv A outer s H vs Q E hc1 (hr.deeper _) hsp
  have I := inv_start (CX := CX) (qual := qual) (f := f) (cd := cdv) (E := E) S hr.r.hd e0 hl rv x
  refine wpAny_mono (ht.run [] s1 _ H _ I hq) (fun fl s' hs => ?_) fun e s' hs => hs
  cases fl with
  | ret u =>
    obtain ⟨v, σ', H', J, r', q⟩ := hs
    exact ⟨v, H', J.os, J.bare, J.base, J.hok, r', q⟩
  | next =>
    obtain ⟨σ', H', J, q⟩ := hs
    exact ⟨V.non, H', J.os, J.bare, J.base, J.hok, rfl, q⟩
  | brk => exact hs.elim fun _ z => z.elim fun _ z => False.elim z.2
  | cont => exact hs.elim fun _ z => z.elim fun _ z => False.elim z.2

end

/-- how a call lies in a body: what it returns, what it raises -/
theorem endG {X : Cx} {CX : CXT} {E : XK} {Q : VK} {c : Code} {pins : List (Addr × Obj)} {σ : L2.St} {H : Hp} {s : Shared}
    (I : Inv X pins σ H s) (hx : Passes CX X E)
    (h : codeAny (model X.prog X.w) X.A c (CR CX X.stack X.prog X.w H s Q E) s) {f : Value} {a : Args}
    (e : c = .call f a) : codeAny (model X.prog X.w) X.A c (fun r s' => match r with
      | .ok (.ret u) => EP X pins σ Q u s'
      | .ok _ => False
      | .error z => X.xe z s') s := by
  refine codeAny_mono h fun r s' hq => ?_
  match r, hq with
  | .error z, hq => exact hx pins σ H s z s' I hq
  | .ok (.ret u), hq => exact I.after hq

section
variable {X : Cx} {CX : CXT} {k : Nat} {f : Addr} {fd : FuncData} {ps ks : List Str} {sp : Sp} {E : XK} {ds : List Value} {dvs : List V}
theorem run_fnG {pins : List (Addr × Obj)} {σ : L2.St} {H : Hp} {s : Shared} {Q : VK} {us : List Value} {vs : List V}
    (F : FnG X.prog X.w X.K X.mg X.base CX k f fd ps sp) (hr : Rm k X.A)
    (hb : Binds X.K fd ps ds) (hd : Vals dvs ds) (hx : Passes CX X E)
    (I : Inv X pins σ H s) (r : Vals vs us) (h : sp (vs ++ dvs) H Q E) :
    wpAny (model X.prog X.w) X.A (call (.ref f) us) (EP X pins σ Q) X.xe s := by
  have r2 := r.append hd
  have hl : (us ++ ds).length = ps.length := r2.length.symm.trans (F.len _ _ _ _ h)
  have c := F.go X.A X.stack s H ⟨us, []⟩ _ _ Q E hr I.env0 (hb s us I.kIn hl) r2 h
  refine wpAny_call (codeAny_mono c fun r s' hq => ?_)
  match r, hq with
  | .error z, hq => exact hx pins σ H s z s' I hq
  | .ok (.ret u), hq => exact I.after hq

variable {g : List Value → List Value → List Value} {gV : List V → List V → List V}
theorem run_fnkG {pins : List (Addr × Obj)} {σ : L2.St} {H : Hp} {s : Shared} {Q : VK} {us ws : List Value} {vs zs : List V}
    (F : FnG X.prog X.w X.K X.mg X.base CX k f fd ps sp) (hr : Rm k X.A)
    (hb : KBinds X.K fd ps ks g gV) (hx : Passes CX X E)
    (I : Inv X pins σ H s) (r : Vals vs us) (rz : Vals zs ws) (h : sp (gV vs zs) H Q E) :
    wpAny (model X.prog X.w) X.A (call (.ref f) us (ks.zip ws)) (EP X pins σ Q) X.xe s := by
  have r2 := hb.rel r rz
  have hl : (g us ws).length = ps.length := r2.length.symm.trans (F.len _ _ _ _ h)
  have c := F.go X.A X.stack s H ⟨us, ks.zip ws⟩ _ _ Q E hr I.env0 (hb.to s us ws I.kIn hl) r2 h
  refine wpAny_call (codeAny_mono c fun r s' hq => ?_)
  match r, hq with
  | .error z, hq => exact hx pins σ H s z s' I hq
  | .ok (.ret u), hq => exact I.after hq
end

/-- the def's data stands at f -/
def At (K : PySem.W.Frag) (f : Addr) (fd : FuncData) : Prop := ∃ oc od osl, K.lookup f = some ⟨oc, od, .func fd, osl⟩
theorem At.inj {K : PySem.W.Frag} {f : Addr} {d e : FuncData} (a : At K f d) (b : At K f e) : d = e := by
  obtain ⟨oc, od, osl, h1⟩ := a
  obtain ⟨oc', od', osl', h2⟩ := b
  rw [h1] at h2
  cases h2
  rfl
theorem At.of {K : PySem.W.Frag} {x qual : Str} {st : Stmt} {f : Addr} {fd : FuncData} (F : Fun K x qual st f fd) : At K f fd := by
  obtain ⟨oc, od, kV, doc, pm, an, cdv, ct, osl, e, lk, _⟩ := F.ex
  exact ⟨oc, od, osl, lk⟩
/-- a def of the text, as its callers see it -/
structure Df (P : Program) (w : World) (K : PySem.W.Frag) (mg : Str → Option Value) (base : Heap)
    (CX : CXT) (k : Nat) (x : Str) (f : Addr) (ps : List Str) (sp : Sp) : Prop where
  ex : ∃ fd, FnG P w K mg base CX k f fd ps sp ∧ Binds K fd ps [] ∧ At K f fd
  kp : PySem.W.keepIn K (.ref f) = true
  gl : mg x = some (.ref f)
section
variable {X : Cx} {CX : CXT} {k j : Nat} {f : Addr} {ps : List Str} {sp : Sp} {E : XK} {x : Str} {p pos : Pos} {e : Expr} {es : List Expr} {t : TA}
/-- f(e, ..) -/
theorem pe_df (D : Df X.prog X.w X.K X.mg X.base CX j x f ps sp) (hr : Rm k X.A) (hj : j ≤ k) (hg : Gl X x) (hx : Passes CX X E)
    (ha : PA X (e :: es) t) (hdb : (x == ("__debug__" : Str)) = false := by decide)
    (he : starEach (e :: es) X.env = (false, eval e X.env) :: starEach es X.env := by rfl)
    (hpl : (backTo pos (starEach es X.env)).any (·.1) = false := by rfl) :
    PE X (.Call (.Name x p) (e :: es) [] pos) (tCall sp [] E t) := by
  obtain ⟨fd, F, b, _⟩ := D.ex
  refine PE.mk fun pins s σ H Q I h => wpAny_Call_Name_kw (ld_glob I hg D.gl ?_ hdb)
  refine PySem.W.callWith_K (h₀ := X.base) I.ok.mod.kin D.kp (thn (ha.run pos pins s σ H _ I h) ?_) he hpl
  intro us s1 hz
  obtain ⟨vs, H1, I1, r, q⟩ := hz
  exact ⟨I1.kIn, run_fnG F (hr.mono hj) b .nil hx I1 r q⟩
/-- how a call by names binds: g puts the values in the parameters' order -/
structure Kwb (K : PySem.W.Frag) (f : Addr) (ps ks : List Str) (g : List Value → List Value) (gV : List V → List V) : Prop where
  to : ∃ fd, At K f fd ∧ ∀ (s : Shared) (ws : List Value), K.In s.heap → ws.length = ks.length → BindsTo s fd ⟨[], ks.zip ws⟩ (ps.zip (g ws))
  rel : ∀ {zs : List V} {ws : List Value}, Vals zs ws → Vals (gV zs) (g ws)
def tCallKw (ks : List Str) (sp : Sp) (gV : List V → List V) (E : XK) (tk : TA) : TE := fun σ H Q => tk σ H fun zs H2 => zs.length = ks.length ∧ sp (gV zs) H2 Q E
/-- f(k = v, ..) -/
theorem pe_dfk {ks : List Str} {g : List Value → List Value} {gV : List V → List V} {kws : List Keyword} {tk : TA}
    (D : Df X.prog X.w X.K X.mg X.base CX j x f ps sp) (B : Kwb X.K f ps ks g gV) (hr : Rm k X.A) (hj : j ≤ k) (hg : Gl X x) (hx : Passes CX X E)
    (hkw : PK X kws tk) (hall : (backToKw pos (keywordEach kws X.env)).all (·.1.isSome) = true := by rfl)
    (hks : (backToKw pos (keywordEach kws X.env)).filterMap (·.1) = ks := by rfl) (hdb : (x == ("__debug__" : Str)) = false := by decide)
    (hpl : ((backTo pos (starEach [] X.env)).any (·.1) || (backToKw pos (keywordEach kws X.env)).any (·.1.isNone)) = false := by rfl) :
    PE X (.Call (.Name x p) [] kws pos) (tCallKw ks sp gV E tk) := by
  obtain ⟨fd, F, b, at1⟩ := D.ex
  obtain ⟨fd', at2, hb⟩ := B.to
  cases at1.inj at2
  refine PE.mk fun pins s σ H Q I h => wpAny_Call_Name_kw (ld_glob I hg D.gl ?_ hdb)
  refine PySem.W.callWith_KW0 (h₀ := X.base) I.ok.mod.kin D.kp hall (thn (hkw.run pos pins s σ H _ I h) ?_) hpl
  intro ws s2 hz
  obtain ⟨zs, H2, I2, rz, hl, q2⟩ := hz
  refine ⟨I2.kIn, ?_⟩
  rw [hks]
  have r2 := B.rel rz
  have c := F.go X.A X.stack s2 H2 ⟨[], ks.zip ws⟩ _ _ Q E (hr.mono hj) I2.env0 (hb s2 ws I2.kIn (rz.length.symm.trans hl)) r2 q2
  refine wpAny_call (codeAny_mono c fun r s' hq => ?_)
  match r, hq with
  | .error z, hq => exact hx pins σ H2 s2 z s' I2 hq
  | .ok (.ret u), hq => exact I2.after hq
end
end My

/-! the law's own call, from a promise of this kind -/
namespace My
open PySem PySem.Spec PyProof.Rows L2

/-- what the end of a law asks of its run -/
abbrev Fine (s₁ : Shared) (r : Result) (s' : Shared) : Prop :=
  r = .ok (.ret (.bool true)) ∧ OldK s₁.heap s'.heap ∧ s'.os = s₁.os ∧ AllBare s'.gens

section
variable {P : Program} {w : World} {K : PySem.W.Frag} {mg mb : Str → Option Value} {CX : CXT} {k : Nat}
variable {fa a : Addr} {fd : FuncData} {x : Str} {sp : Sp} {s₁ : Shared}

/-- from an abstract heap H that tracks nothing but the script -/
theorem run_law (H : Hp) (KX : K.In s₁.heap) (g0 : s₁.heap.Ns mainGlobals mg) (b0 : s₁.heap.Ns builtinsNs mb)
    (bb : ∀ y : Str, y ≠ "__name__" → mb y = bootBuiltins y) (nl : s₁.heap.NoLimit) (ng : s₁.gens = #[])
    {its : Array Value} (ha : s₁.heap.get? a = some { cls := .type "list", data := .seq its })
    (hr : Rm k callerA) (bd : ∀ (s : Shared) (u : Value), BindsTo s fd ⟨[u], []⟩ [(x, u)])
    (F : ∀ base : Heap, K.In base → base.Ns mainGlobals mg → FnG P w K mg base CX k fa fd [x] sp)
    (hO : Only H) (hsp : sp [.ref a] H (fun v _ => v = .bl true) fun _ _ _ => False)
    (hok : HOk P w H s₁.heap) (hA : ∀ b, H b ≠ none → b = a) (hK : H a ≠ none → K.lookup a = none)
    (hCX : ∀ H e s', CX [] H s₁ (fun _ _ _ => False) e s' → False) :
    codeAny (model P w) callerA (.call (.ref fa) ⟨[.ref a], []⟩) (Fine s₁) s₁ := by
  have only_a : ∀ {b : Addr} {u : HO}, H b = some u → b = a := fun q => hA _ (by rw [q]; nofun)
  have free_dict : ∀ {b : Addr} {o : Obj} {es ep}, s₁.heap.get? b = some o → o.data = .dict es ep → H b = none := by
    intro b o es ep e d
    match q : H b with
    | none => rfl
    | some u =>
      rw [only_a q, ha] at e
      cases e
      exact nomatch d
  have ns' : ∀ {b m}, s₁.heap.Ns b m → (hidT s₁.heap H).Ns b m := by
    intro b m z
    obtain ⟨o, es, ep, e, d, r⟩ := z
    exact ⟨o, es, ep, hidT_get e (free_dict e d), d, r⟩
  have kin : K.In (hidT s₁.heap H) := by
    intro b o e
    refine hidT_get (KX b o e) ?_
    match q : H b with
    | none => rfl
    | some u =>
      have eb := only_a q
      subst eb
      rw [hK (by rw [q]; nofun)] at e
      cases e
  obtain ⟨mc, n1, n2⟩ := nl
  have M : Mod K mg (hidT s₁.heap H) := ⟨kin, ns' g0, ⟨mb, ns' b0, bb⟩, ⟨mc, ns' n1, n2⟩⟩
  have e0 : Env0 P w K mg (hidT s₁.heap H) callerA [] s₁ H :=
    { frames := rfl, mod := M, bs := fun b o e => of_hidT e, bsz := Nat.le_of_eq (hidT_size _ _)
      funs := trivial, frf := (fun b hb => nomatch hb), hok := hok, bare := .of_eq ng }
  have c := (F _ kin (ns' g0)).go callerA [] s₁ H ⟨[.ref a], []⟩ [.ref a] [.ref a] _ _ hr e0 (bd s₁ _) (.cons rfl .nil) hsp
  refine codeAny_mono c fun r s' h => ?_
  match r, h with
  | .error e, h => exact absurd h (hCX H e s')
  | .ok (.ret u), h =>
    obtain ⟨v, H', os, bare, un, hok', r', q⟩ := h
    cases (show v = .bl true from q)
    cases (show u = Value.bool true from r')
    refine ⟨rfl, OldK.of_keep fun b o e => ?_, os, bare⟩
    match q : H b with
    | none => exact un.keep b o e q (fun z => nomatch z) (fun z => nomatch z)
    | some u =>
      rcases hO b with z | ⟨ob, xs, z⟩
      · exact nomatch q.symm.trans z
      · have e1 := (hok b _ z).1
        have e2 := (hok' b _ (un.frzs b ob _ z)).1
        rw [e] at e1
        cases e1
        exact e2

theorem law_callG {vs : List Value} {ns : List Int} (KX : K.In s₁.heap) (g0 : s₁.heap.Ns mainGlobals mg) (b0 : s₁.heap.Ns builtinsNs mb)
    (bb : ∀ y : Str, y ≠ "__name__" → mb y = bootBuiltins y) (nl : s₁.heap.NoLimit) (ng : s₁.gens = #[])
    (ha : s₁.heap.get? a = some { cls := .type "list", data := .seq vs.toArray }) (hi : IntsAre vs ns) (hl : ns.length ≤ sizeLine)
    (hr : Rm k callerA) (bd : ∀ (s : Shared) (u : Value), BindsTo s fd ⟨[u], []⟩ [(x, u)])
    (F : ∀ base : Heap, K.In base → base.Ns mainGlobals mg → FnG P w K mg base CX k fa fd [x] sp)
    (hsp : ∀ H : Hp, Only H → SqL K H a (ns.map V.int) → sp [.ref a] H (fun v _ => v = .bl true) fun _ _ _ => False)
    (hCX : ∀ H e s', CX [] H s₁ (fun _ _ _ => False) e s' → False) :
    codeAny (model P w) callerA (.call (.ref fa) ⟨[.ref a], []⟩) (Fine s₁) s₁ := by
  have rv := vals_ints hi
  match hk : K.lookup a with
  | some o =>
    have e := KX a o hk
    rw [ha] at e
    cases e
    have hS : SqL K (fun _ => none) a (ns.map V.int) :=
      Or.inr ⟨_, vs.toArray, _, hk, rfl, rfl, rfl, by rw [List.size_toArray, hi.length]; exact hl, by simpa using rv⟩
    have oN : Only fun _ => none := fun _ => Or.inl rfl
    exact run_law _ KX g0 b0 bb nl ng ha hr bd F oN (hsp _ oN hS) (fun b u z => nomatch z) (fun b z => (z rfl).elim) (fun z => (z rfl).elim) hCX
  | none =>
    let u : HO := .frz { cls := .type "list", data := .seq vs.toArray } (.lst (ns.map V.int))
    let H : Hp := fun b => if b = a then some u else none
    have at_a : H a = some u := if_pos rfl
    have off : ∀ {b}, b ≠ a → H b = none := fun h => if_neg h
    have oN : Only H := fun b => if h : b = a then by subst h; exact Or.inr ⟨_, _, at_a⟩ else Or.inl (off h)
    have hS : SqL K H a (ns.map V.int) := Or.inl (Or.inr ⟨_, at_a⟩)
    refine run_law H KX g0 b0 bb nl ng ha hr bd F oN (hsp _ oN hS) (fun b o z => ?_) (fun b z => ?_) (fun _ => hk) hCX
    · by_cases hb : b = a
      · subst hb
        cases at_a.symm.trans z
        exact ⟨ha, by rw [List.length_map]; exact hl, vs, _, rv, ha⟩
      · exact nomatch (off hb).symm.trans z
    · exact Classical.byContradiction fun hb => z (off hb)
end

/-- what k_head leaves, from the law's promise -/
theorem walkG {l : PySem.W.OpenLaw} {n k : Nat} {q : Program} {loose : List Str} {XP : (Str → Option Value) → Heap → Prop} {YP : World → Heap → Prop}
    {d : DefRec} {K : Params → PySem.W.Frag} {CX : World → CXT} {sp : World → Sp} {x : Str}
    (hn : l.most = some n) (hn2 : n ≤ sizeLine) (hdf : d.params.defaults = []) (hr : Rm k callerA)
    (hY : ∀ (w : World) (h : Heap), YP w h → (K w.params).In h)
    (F : ∀ (w : World) (mg : Str → Option Value) (fa : Addr) (h : Heap), (K w.params).In h → h.Ns mainGlobals mg → mg d.name = some (.ref fa) →
      ∃ fd, (∀ (s : Shared) (u : Value), BindsTo s fd ⟨[u], []⟩ [(x, u)]) ∧ ∀ base : Heap,
        (K w.params).In base → base.Ns mainGlobals mg → FnG l.prog w (K w.params) mg base (CX w) k fa fd [x] (sp w))
    (hsp : ∀ (w : World) (H : Hp) (a : Addr) (ns : List Int), ns.length ≤ n → Only H → SqL (K w.params) H a (ns.map V.int) →
      sp w [.ref a] H (fun v _ => v = .bl true) fun _ _ _ => False)
    (hCX : ∀ (w : World) (H : Hp) (s : Shared) (e : Value) (s' : Shared), CX w [] H s (fun _ _ _ => False) e s' → False) :
    PySem.W.WalkO q loose XP YP l.row.toRowW d [] (fun f vs => PySem.call f vs) := by
  refine Att.attach_call hn hdf ?_
  intro w s₀ s₁ mg mb fa o pm cd doc a vs ns G Y ho hd hcd hmg hobj hints hlen hg
  obtain ⟨fd, hb, hF⟩ := F w mg fa _ (hY w _ Y) G.T.g hmg
  exact law_callG (hY w _ Y) G.T.g G.T.b G.T.builtins G.T.nolimit hg hobj hints (Nat.le_trans hlen hn2) hr hb hF
    (fun H hO hS => hsp w H a ns hlen hO hS) fun H e s' => hCX w H s₁ e s'
end My

/-! repr of data -/
namespace My
open PySem PySem.Spec PyProof.Rows L2

mutual
/-- a bound for how long it is written out -/
def cost : PyData → Nat
  | .none => 4
  | .bool _ => 5
  | .int i => i.natAbs.log2 + 2
  | .str x => (reprText x).length
  | .list xs => costs xs + 2
  | .tuple xs => costs xs + 3
  | .dict _ => 0
def costs : List PyData → Nat
  | [] => 0
  | x :: xs => cost x + 2 + costs xs
end
theorem listText_le : ∀ ts : List Str, (listText ts).length ≤ piled ts + 2
  | [] => by decide
  | t :: r => by
    have h := textFrom_length_pos r 1 (("[" : Str) ++ (if (0 : Nat) > 0 then ", " else "" : String) ++ t) Nat.one_pos
    have e : (listText (t :: r)) = textFrom 1 (("[" : Str) ++ (if (0 : Nat) > 0 then ", " else "" : String) ++ t) r ++ "]" := rfl
    have e1 : ((("[" : Str) ++ (if (0 : Nat) > 0 then ", " else "" : String))).length = 1 := rfl
    have e2 : (("]" : String) : Str).length = 1 := rfl
    rw [e, strLen_append, h, strLen_append, e1, e2, piled_cons]
    omega
theorem tupleText_le (ts : List Str) : (tupleText ts).length ≤ piled ts + 3 := by
  have e3 : (((if ts.length == 1 then ",)" else ")" : String) : Str)).length ≤ 2 := by
    split <;> decide +kernel
  have e1 : ((("(" : String) : Str)).length = 1 := rfl
  have e4 : (Str.join ", " ts).length ≤ piled ts := by
    by_cases h : ts = []
    · subst h
      decide +kernel
    · have := join_length_add ts h
      omega
  unfold tupleText
  rw [strLen_append, strLen_append, e1]
  omega
mutual
theorem shown_le : ∀ d : PyData, d.hasDict = false → d.shown.length ≤ cost d
  | .none, _ => by simp only [PyData.shown, cost]; decide
  | .bool b, _ => by cases b <;> (simp only [PyData.shown, cost]; decide)
  | .int i, _ => by
    have e := int_text_length_le (a := i) (k := i.natAbs.log2 + 1) (Nat.succ_pos _) (Nat.lt_succ_self _)
    simp only [PyData.shown, cost]
    rw [PySem.ofString_length]
    omega
  | .str x, _ => by simp only [PyData.shown, cost]; exact Nat.le_refl _
  | .list xs, h => by
    have e := shown_les xs (by simpa [PyData.hasDict] using h)
    have e2 := listText_le (PyData.shownAll xs)
    simp only [PyData.shown, cost]
    omega
  | .tuple xs, h => by
    have e := shown_les xs (by simpa [PyData.hasDict] using h)
    have e2 := tupleText_le (PyData.shownAll xs)
    simp only [PyData.shown, cost]
    omega
  | .dict _, h => by simp [PyData.hasDict] at h
theorem shown_les : ∀ ds : List PyData, PyData.hasDictAll ds = false → piled (PyData.shownAll ds) ≤ costs ds
  | [], _ => by simp [PyData.shownAll, costs, piled]
  | d :: ds, h => by
    simp only [PyData.hasDictAll, Bool.or_eq_false_iff] at h
    have e1 := shown_le d h.1
    have e2 := shown_les ds h.2
    simp only [PyData.shownAll, costs]
    rw [piled_cons]
    omega
end

/-- data that repr takes -/
structure Shows (d : PyData) : Prop where
  s : d.showable = true
  n : d.hasDict = false
  dp : d.depth ≤ 60
  z : cost d ≤ sizeLine

def rReprD (K : PySem.W.Frag) : List V → Hp → VK → Prop := fun xs H Q =>
  ∃ v d, xs = [v] ∧ Dp K H v d ∧ Shows d ∧ Q (.str d.shown) H
theorem call_reprD {X : Cx} {k : Nat} (hr : Rm k X.A) : CallR X (.builtin "repr") (rReprD X.K) := by
  intro pins s σ H xs us Q I r h
  obtain ⟨v, d, rfl, hd, S, q⟩ := h
  obtain ⟨u, rfl, ru⟩ := vals1 r
  have hz : d.shown.length ≤ sizeLine := Nat.le_trans (shown_le d S.n) S.z
  have hu := hr.r.units
  obtain ⟨as, rd⟩ := Dp.reads I d v u hd ru
  have fin : ∀ t, EP X pins σ Q (.str d.shown t) { s with toks := s.toks + 1 } :=
    fun t => ⟨.str d.shown, H, I.tok _, ⟨t, rfl⟩, q⟩
  have ref : ∀ a, u = .ref a → wpAny (model X.prog X.w) X.A (call (.builtin "repr") [u]) (EP X pins σ Q) X.xe s := by
    intro a e
    subst e
    have := S.dp
    refine repr_of_reads' rd S.s (PyData.noDict_hsm S.n) hr.g (by omega) (fun _ _ e => e) (fun h' t tk kp => ?_) hz
    exact ⟨.str d.shown, H, I.kept (h' := h') (t' := tk) kp, ⟨t, rfl⟩, q⟩
  cases hd with
  | non =>
    cases ru
    exact PySem.P.repr_of_none (fin _)
  | bl b =>
    cases ru
    exact PySem.P.repr_of_bool (by cases b <;> exact fin _)
  | int i =>
    obtain ⟨t, rfl⟩ := ru
    exact PySem.P.repr_of_int (by simpa [PyData.showable] using S.s) (fin _)
  | str x =>
    obtain ⟨t, rfl⟩ := ru
    exact PySem.P.repr_of_str (fin _) (by simpa [PyData.shown] using hz)
  | lst _ _ => exact ref _ ru
  | tup _ _ => exact ref _ ru
end My

/-! a small def, called from anywhere: type(value) is int and least <= value <= most -/
namespace My
open PySem PySem.Spec PyProof.Rows L2

/-- whether a value is a whole number within bounds -/
def whole (u : Value) (l m : Int) : Bool := match u with
  | .int i _ => decide (l ≤ i) && decide (i ≤ m)
  | _ => false

/-- what is written of the def -/
structure WholeD (K : PySem.W.Frag) (mg : Str → Option Value) (f : Addr) (fd : FuncData) (st : Stmt) : Prop where
  fn : Fun K "is_whole" "is_whole" st f fd
  sc : FnScope ["value", "least", "most"] ["value", "least", "most"] (defScope st)
  bd : Binds K fd ["value", "least", "most"] []
  ty : mg "type" = none
  it : mg "int" = none
  gty : (defScope st).names.lookup ("type" : Str) = some NameKind.globalImplicit
  git : (defScope st).names.lookup ("int" : Str) = some NameKind.globalImplicit
  lv : (defScope st).names.lookup ("value" : Str) = some NameKind.local
  ll : (defScope st).names.lookup ("least" : Str) = some NameKind.local
  lm : (defScope st).names.lookup ("most" : Str) = some NameKind.local
  body : ∃ p1 p2 p3 p4 p5 p6 p7 p8 p9 p10 p11, defBody st = [.Return (some (.BoolOp .And [
    .Compare (.Call (.Name "type" p1) [.Name "value" p2] [] p3) [.Is] [.Name "int" p4] p5,
    .Compare (.Name "least" p6) [.LtE, .LtE] [.Name "value" p7, .Name "most" p8] p9] p10)) p11]

section
variable {P : Program} {w : World} {K : PySem.W.Frag} {mg : Str → Option Value} {base : Heap}
variable {A : Around} {E : Value → Shared → Prop} {s : Shared}

theorem keeps_of {s s' : Shared} {h : Heap} {t : Nat} (e : s' = { s with heap := h, toks := t })
    (k : ∀ b o, s.heap.get? b = some o → h.get? b = some o) : Keeps s s' := ⟨h, t, e, k⟩

theorem typeIs_kept {s s' : Shared} {u : Value} {T : String} (h : s.TypeIs u T)
    (k : ∀ b o, s.heap.get? b = some o → s'.heap.get? b = some o) : s'.TypeIs u T := by
  cases u with
  | ref a =>
    obtain ⟨o, e, c⟩ := h
    exact ⟨o, k _ _ e, c⟩
  | _ => exact h
theorem whole_low {f : Addr} {fd : FuncData} {st : Stmt} (D : WholeD K mg f fd st) (M : L2.Mod K mg base)
    (hk : ∀ b o, base.get? b = some o → s.heap.get? b = some o) (hd : A.handled = none)
    (dp : A.depth + 2 < recursionLimit) (un : A.units + 40 < cLine) {u : Value} {T : String} (hT : s.TypeIs u T)
    (nb : (Value.type T == Value.type "builtin_function_or_method") = false)
    (hi : T = "int" → ∃ i t, u = .int i t) (ni : T ≠ "int" → ∀ i t, u ≠ .int i t) {l m : Int} {t1 t2 : Tok} :
    wpAny (model P w) A (call (.ref f) [u, .int l t1, .int m t2]) (fun y s' => y = .bool (whole u l m) ∧ Keeps s s') E s := by
  obtain ⟨oc, od, kV, doc, pm, an, cdv, ct, osl, efd, lk, hcd⟩ := D.fn.ex
  subst efd
  have kin := M.kin.keeps hk
  have lim : s.heap.NoLimit := M.nolimit.keeps hk
  refine wpAny_call ?_
  refine codeAny_call_function (by omega) (kin _ _ lk) rfl D.sc.co D.sc.gen rfl
    (PySem.W.codeRec_of kin hcd) (D.bd s [u, .int l t1, .int m t2] kin rfl _ _ _ _ ?_)
  refine wpAny_newFunctionEnv_cells D.sc.kind (fun ⟨n, v⟩ hy => ?_) fun env he s1 x => ?_
  · rcases D.sc.par n (List.of_mem_zip hy).1 with q | q
    · exact Or.inl q
    · exact Or.inr (And.intro q (PySem.W.cellsFrom_some _ _ _ (Or.inl q)))
  obtain ⟨h1, tk, es1, hk1⟩ := x.done
  refine ⟨lim.keeps x.toInCall.keep, codeAny_func ?_⟩
  obtain ⟨p1, p2, p3, p4, p5, p6, p7, p8, p9, p10, p11, hb⟩ := D.body
  rw [hb]
  subst he
  have kb1 : ∀ b o, base.get? b = some o → s1.heap.get? b = some o := fun b o e => x.toInCall.keep b o (hk b o e)
  have ns := x.toInCall.ns
  obtain ⟨mb, bl1, bl2⟩ := M.blt
  have nd : (["value", "least", "most"] : List Str).Nodup := D.sc.nd
  have v0 := bindL_get (kindOf := (envOfC "is_whole" (defScope st) s.heap.objs.size f cdv).kindOf) (i := 0) (vs := [u, .int l t1, .int m t2]) (m := fun _ => none) nd rfl rfl D.lv
  have v1 := bindL_get (kindOf := (envOfC "is_whole" (defScope st) s.heap.objs.size f cdv).kindOf) (i := 1) (vs := [u, .int l t1, .int m t2]) (m := fun _ => none) nd rfl rfl D.ll
  have v2 := bindL_get (kindOf := (envOfC "is_whole" (defScope st) s.heap.objs.size f cdv).kindOf) (i := 2) (vs := [u, .int l t1, .int m t2]) (m := fun _ => none) nd rfl rfl D.lm
  have ldB : ∀ {A' : Around} {E' : Value → Shared → Prop} {y : Str} {v : Value} {pos : Pos} {Q : Value → Shared → Prop}, (defScope st).names.lookup y = some NameKind.globalImplicit → mg y = none → bootBuiltins y = some v → y ≠ "__name__" → (y == ("__debug__" : Str)) = false → Q v s1 →
      wpAny (model P w) A' (eval (.Name y pos) (envOfC "is_whole" (defScope st) s.heap.objs.size f cdv)) Q E' s1 := by
    intro A' E' y v pos Q g0 g1 g2 g3 g4 q
    exact Calls.Name_function_global D.sc.kind g0 (Calls.loadGlobal_builtin (M.glob.keeps kb1) g1 (bl1.keeps kb1) ((bl2 y g3).trans g2) q) g4
  have fin : ∀ b, b = whole u l m → Value.bool b = .bool (whole u l m) ∧ Keeps s s1 := fun b e => ⟨by rw [e], h1, tk, es1, hk1⟩
  refine wpAny_execs_cons (wpAny_Return_some (BoolOp_and (wpAny_Compare1 (wpAny_Call_Name_kw (ldB (v := .type "type") D.gty D.ty (by decide +kernel) (by decide) (by decide) ?_)))))
  refine PyProof.Rows.callWith_type1 (Calls.spliced_cons (wpAny_Name (wpAny_loadName_local D.sc.kind D.lv ns v0 (Calls.spliced_nil ?_))))
  have hT1 : s1.TypeIs u T := typeIs_kept hT x.toInCall.keep
  refine call_type_of hT1 nb (ldB (v := .type "int") D.git D.it (by decide +kernel) (by decide) (by decide) (wpAny_is_plain rfl ?_))
  refine wpAny_truthy_bool ?_
  by_cases e : T = "int"
  · obtain ⟨i, t, eu⟩ := hi e
    subst eu e
    rw [beq_self_eq_true]
    refine BoolOp_one (Compare_chain (wpAny_Name (wpAny_loadName_local D.sc.kind D.ll ns v1 (chain_link (wpAny_Name (wpAny_loadName_local D.sc.kind D.lv ns v0 (le_int (wpAny_truthy_bool ?_))))))) (by with_unfolding_all rfl))
    by_cases h : l ≤ i
    · rw [decide_eq_true h]
      exact chain_last (wpAny_Name (wpAny_loadName_local D.sc.kind D.lm ns v2 (le_int (fin _ (by simp only [whole, decide_eq_true h, Bool.true_and])))))
    · rw [decide_eq_false h]
      exact fin _ (by simp only [whole, decide_eq_false h, Bool.false_and])
  · have e' : (Value.type T == Value.type "int") = false := beq_eq_false_iff_ne.mpr fun z => e (Value.type.inj z)
    rw [e']
    refine fin _ ?_
    cases u with
    | int i t => exact (ni e i t rfl).elim
    | _ => rfl
end
end My

/-! all(test for x in t), t a tuple, the test may call defs -/
namespace My
open PySem PySem.Spec PyProof.Rows L2 GxR

/-- the test at each item, from where the tuple stood (all but the table at P is kept) -/
def EltOk (X : Cx) (P : Addr) (scope : Scope) (x : Str) (elt : Expr) (s1 : Shared) (its : List Value) (pb : Value → Bool) : Prop :=
  ∀ (cenv : Env) (A' : Around) (E' : Value → Shared → Prop) (v : Value) (s2 : Shared) (m2 : Str → Option Value),
    cenv.scope = scope → cenv.globals = mainGlobals → cenv.builtins = builtinsNs →
    cenv.cells = cloFrom X.env.cells scope.names [] → A'.handled = none →
    A'.depth ≤ X.A.depth + 1 → A'.units ≤ X.A.units + 8 → v ∈ its → s2.heap.Ns cenv.locals m2 → m2 x = some v →
    (∀ b o, b ≠ P → s1.heap.get? b = some o → s2.heap.get? b = some o) →
    wpAny (model X.prog X.w) A' (eval elt cenv) (fun y s3 => y = .bool (pb v) ∧ Keeps s2 s3) E' s2

/-- the j-th answer -/
def ansAt (pb : Value → Bool) (l : List Value) (j : Nat) : Bool := (l[j]?.map pb).getD false
theorem ansAt_of {pb : Value → Bool} {l : List Value} {j : Nat} {v : Value} (h : l[j]? = some v) : ansAt pb l j = pb v := by
  simp only [ansAt, h, Option.map_some, Option.getD_some]
theorem all_ansAt (l : List Value) (pb : Value → Bool) : (List.range l.length).all (ansAt pb l) = l.all pb := by
  apply Bool.eq_iff_iff.mpr
  simp only [List.all_eq_true]
  refine ⟨fun h v hv => ?_, fun h j hj => ?_⟩
  · obtain ⟨j, hj, e⟩ := List.getElem_of_mem hv
    have q := h j (List.mem_range.mpr hj)
    rwa [ansAt_of ((List.getElem?_eq_getElem hj).trans (congrArg some e))] at q
  · have hj' := List.mem_range.mp hj
    rw [ansAt_of (List.getElem?_eq_getElem hj')]
    exact h _ (List.getElem_mem hj')

/-- a generator over the items its, ready in the state s5; H1: what was held before -/
def RdyT (X : Cx) (pins : List (Addr × Obj)) (σ : L2.St) (H1 : Hp) (P : Addr) (its : List Value) (pb : Value → Bool) (g : Addr) (s5 : Shared) : Prop :=
  ∃ (fp wr : List Addr) (G : Array GenState → Array GenState → Prop) (F : Nat → Value → Prop) (St : Nat → Shared → Prop),
    WalksS X.prog X.w X.A.in1 g fp wr G its.length F St ∧ St 0 s5 ∧ TruthOf X.prog X.w X.A.in1 F (ansAt pb its) ∧
    ∀ s', Moved wr G s5 s' → ∃ H2, Tabbed P H1 H2 ∧ Inv X pins σ H2 s'

/-- the generator expression's code object: new, or found in the table -/
theorem genexpr_code {M : Model} {A : Around} {E : Value → Shared → Prop} {s : Shared} {env : Env} {c P : Addr} {ps : Array Value}
    {pos : Pos} {qn : Str} {scope : Scope} {Q : Value → Shared → Prop} (hc : env.code = .ref c) (cd : PySem.W.CodeHd s.heap c P)
    (hP : s.heap.get? P = some { cls := .none, data := .fields ps }) (ht : TriplesOk ps.toList)
    (h : ∀ (code : Value) (h3 : Heap) (tk : Nat) (more : Array Value), Heap.ExtBut P s.heap h3 → s.heap.objs.size ≤ h3.objs.size →
      h3.get? P = some { cls := .none, data := .fields (ps ++ more) } → TriplesOk (ps ++ more).toList →
      Q code { s with heap := h3, toks := tk }) :
    wpAny M A (genexprCode env pos qn scope) Q E s := by
  match hf : codeAmong pos ps.toList with
  | none =>
    refine wpAny_genexprCodeX hc (cd.code hP ht) (cd.tab hP) hf fun c' h' tk hx hge hlt hco _ htab _ => ?_
    obtain ⟨o1, vs, f1, tf, fl, tg, inF, tx, tt, op, _, _, _, _, _, _, _, _, _, htr, _⟩ := hco
    exact h _ h' tk _ hx (Nat.le_trans hge (Nat.le_of_lt hlt)) htab.2 htr
  | some cv =>
    refine wpAny_genexprCode_hit hc (cd.code hP ht) hf ?_
    have e : ps ++ #[] = ps := Array.append_empty
    exact h cv s.heap s.toks #[] (Heap.ExtBut.refl _ _) (Nat.le_refl _) (by rw [e]; exact hP) (by rw [e]; exact ht)

section
variable {X : Cx} {pins : List (Addr × Obj)} {σ : L2.St} {H : Hp} {s : Shared}
theorem gen_tup {c P : Addr} {elt iter : Expr} {x : Str} {px gpos : Pos} {scope : Scope} {te : TE} {k : Nat}
    {Q' : Value → Shared → Prop} {R : Hp → (Value → Bool) → List Value → Prop}
    (hr : Room k X.A) (TB : TabB X.base X.mg c P) (hcode : X.env.code = .ref c) (S : GenS X.env scope x) (hi : PE X iter te)
    (hs : ∀ v, genFold iter X.env v = pure v) (I : Inv X pins σ H s)
    {Φ : V → Hp → Prop} (h : te σ H Φ) (hΦ : ∀ v H1, Φ v H1 → ∃ (a : Addr) (xs : List V), v = .ref a ∧ SqT X.K H1 a xs ∧ TabG H1 P ∧
      ∀ (s1 : Shared) (its : List Value), Inv X pins σ H1 s1 → Vals xs its →
        ∃ pb, EltOk X P scope x elt s1 its pb ∧ R H1 pb its)
    (hQ : ∀ H1 pb its g s5, R H1 pb its → RdyT X pins σ H1 P its pb g s5 → Q' (.ref g) s5) :
    wpAny (model X.prog X.w) X.A (eval (.GeneratorExp elt [⟨.Name x px, iter, [], 0⟩] scope gpos) X.env) Q' X.xe s := by
  refine wpAny_GeneratorExp_walksQD hr.hd S.co (closure_ok S.free) S.cell S.dot S.loc S.kind (by have := hr.dp; omega) ?_ hs
  refine thn (hi.run pins s σ H _ I h) fun xv s1 hz => ?_
  obtain ⟨v, H1, I1, r1, hz⟩ := hz
  obtain ⟨a, xs, ev, hq, ⟨ps, hP, ht⟩, hel⟩ := hΦ v H1 hz
  subst ev
  cases r1
  obtain ⟨its, rv, tp, hlen⟩ := I1.tuple hq
  obtain ⟨pb, hE, hR⟩ := hel s1 its I1 rv
  refine wpAny_pyIter_tuple (show s1.heap.IsTuple a its.toArray from tp) ?_
  generalize ho : ({ cls := .type "tuple_iterator", data := .fields #[.ref a, .int 0 0] } : Obj) = o
  have pushK : ∀ b u, s1.heap.get? b = some u → (s1.heap.push o).get? b = some u := fun b u e => Heap.get?_push_of_some _ e
  have hPs : s1.heap.get? P = some { cls := .none, data := .fields ps } := I1.hok P _ hP
  have szo : (s1.heap.push o).objs.size = s1.heap.objs.size + 1 := Heap.size_push ..
  have lim2 : (s1.heap.push o).NoLimit := I1.nolimit.push o
  have cd := (TB.code.keeps fun b u e => pushK b u (I1.bk b u e))
  have hcl : cStatics < s1.heap.objs.size := by
    obtain ⟨_, hns, _⟩ := I1.nolimit
    exact hns.lt
  have hcP : cStatics ≠ P := by
    intro e
    obtain ⟨_, ⟨o', es, ep, h1, h2, _⟩, _⟩ := I1.nolimit
    rw [e, hPs] at h1
    cases h1
    cases h2
  obtain ⟨bm, ob, e1, e2, e3, e4, e5, e6, e7, e8⟩ := TB.bm
  refine ⟨lim2, ?_⟩
  have hP2 : (s1.heap.push o).get? P = some { cls := .none, data := .fields ps } := pushK P _ hPs
  refine genexpr_code hcode cd hP2 ht fun code h3 tk more hx hsz hP3 ht3 => ?_
  have keep3 : ∀ b u, b ≠ P → s1.heap.get? b = some u → h3.get? b = some u := fun b u hb e => hx b u hb (pushK b u e)
  refine wpAny_builtinsFor (m := X.mg) ?_ e1 e2 (keep3 _ _ e4 (I1.bk _ _ e5)) e6 e7 e8 ?_
  · rw [I1.ok.glob]
    exact ((I1.mod.glob.keeps I1.bk).push o).extBut hx TB.gP
  have It : (s1.heap.push o).IsTupleIter s1.heap.objs.size a 0 := by
    subst ho
    exact ⟨_, Heap.get?_push_size _ rfl, rfl, rfl⟩
  have nPi : s1.heap.objs.size ≠ P := (Nat.ne_of_lt (Heap.lt_size hPs)).symm
  have aI : a ≠ s1.heap.objs.size := Nat.ne_of_lt tp.lt
  have aP : a ≠ P := by
    intro e
    obtain ⟨o1, q1, q2, _⟩ := tp
    rw [e, hPs] at q1
    cases q1
    cases q2
  refine ⟨s1.heap.objs.size, [s1.heap.objs.size, a], [s1.heap.objs.size], its.toArray.size, _, _, (fun _ => true),
    (fun i y => ∃ v, its[i]? = some v ∧ y = .bool (pb v)), rfl, fun A' hA => Walks.tuple (A := A') hA s1.heap.objs.size a aI its.toArray, ?_, ?_, lim2.extBut hx hcP, ?_, ?_, ?_⟩
  · exact ⟨It.at fun u e => hx _ u nPi e, Heap.IsTuple.at (show s1.heap.IsTuple a its.toArray from tp) fun u e => keep3 a u aP e⟩
  · intro b hb
    have hsz' : (s1.heap.push o).objs.size ≤ h3.objs.size := hsz
    have hz : (s1.heap.objs.size : Nat) < h3.objs.size := by omega
    rcases List.mem_cons.mp hb with z | z
    · rw [z]
      exact hz
    · rw [List.mem_singleton.mp z]
      exact Nat.lt_trans tp.lt hz
  · intro z
    exact Nat.ne_of_lt hcl (List.mem_singleton.mp z)
  · intro href hhref
    refine ⟨fun A' E' i v s₂ m₂ hA _ _ hPv hn hm hk => ?_, fun A' E' i v s₂ m₂ hA hD hU hPv hp hn hm hk => ?_⟩
    · rw [List.forIn_nil]
      exact wpAny_pure (And.intro rfl (keeps_refl _))
    · have hv : its[i]? = some v := by rw [← Array.getElem?_toList] at hPv; exact hPv
      refine wpAny_mono (hE _ A' E' v s₂ m₂ rfl I1.ok.glob rfl rfl hA hD hU (List.mem_of_getElem? hv) hn hm ?_) (fun y s3 r => ⟨⟨v, hv, r.1⟩, r.2⟩) fun _ _ e => e
      intro b u nb e
      have e3 : h3.get? b = some u := keep3 b u nb e
      have hb : b < s1.heap.objs.size := Heap.lt_size e
      refine hk b (List.mem_range.mpr (Heap.lt_size e3)) (fun z => ?_) u (hhref b u e3)
      exact Nat.ne_of_lt hb (List.mem_singleton.mp z)
  · intro g h5 tk5 gs hgb hag hsz5 hk5 W5 hat
    have pT : passing (fun _ => true) its.toArray.size 0 = List.range its.length := passing_true _
    rw [pT, List.length_range] at W5
    refine hQ H1 pb its g _ hR ⟨_, _, _, _, _, W5.in4_1, hat, ?_, fun s' hm => ?_⟩
    · intro j y sj Qj Ej hy hQj
      obtain ⟨i, hij, v, hv, ey⟩ := hy
      subst ey
      obtain ⟨hj, ej⟩ := List.getElem?_eq_some_iff.mp hij
      rw [List.getElem_range] at ej
      subst ej
      have hQ2 : Qj (ansAt pb its j) sj := hQj
      rw [ansAt_of hv] at hQ2
      exact wpAny_truthy_bool hQ2
    · have nwr : ∀ b u, s1.heap.get? b = some u → b ∉ h3.objs.size :: [s1.heap.objs.size] := by
        intro b u e z
        have hl := Heap.lt_size e
        have hsz' : (s1.heap.push o).objs.size ≤ h3.objs.size := hsz
        rcases List.mem_cons.mp z with z | z
        · rw [z] at hl
          exact Nat.lt_irrefl _ (Nat.lt_of_lt_of_le (Nat.lt_of_lt_of_le hl (Nat.le_of_lt (by rw [szo] at hsz'; exact hsz'))) (Nat.le_refl _))
        · rw [List.mem_singleton.mp z] at hl
          exact Nat.lt_irrefl _ hl
      have J := inv_tab (more := more) (h' := s'.heap) (g' := s'.gens) (d' := s'.drawn) (t' := s'.toks) I1 hP
        (fun b u hb e => hm.heap b u (nwr b u e) (hk5 b u (keep3 b u hb e)))
        (hm.heap P _ (nwr P _ hPs) (hk5 P _ hP3)) (AllBare.movedS (I1.bare.push hgb) hm)
      rw [sh_eta s1 s' hm.os] at J
      exact ⟨_, ⟨⟨_, upd_same, ht3⟩, fun b hb => upd_ne hb⟩, J⟩
/-- all(..) of it -/
def tAllT (K : PySem.W.Frag) (P : Addr) (te : TE) (W : L2.St → Hp → List V → (Bool → Prop) → Prop) : TE := fun σ H Q =>
  te σ H fun v H1 => ∃ a xs, v = .ref a ∧ SqT K H1 a xs ∧ TabG H1 P ∧ W σ H1 xs fun b => ∀ H2, Tabbed P H1 H2 → Q (.bl b) H2
theorem pe_allT {c P : Addr} {elt iter : Expr} {x : Str} {px p pos gpos : Pos} {scope : Scope} {te : TE} {k : Nat}
    {W : L2.St → Hp → List V → (Bool → Prop) → Prop}
    (hr : Room k X.A) (hg : Gl X "all") (hm : X.mg "all" = none) (TB : TabB X.base X.mg c P) (hcode : X.env.code = .ref c)
    (S : GenS X.env scope x) (hi : PE X iter te)
    (hel : ∀ (pins : List (Addr × Obj)) (σ : L2.St) (s1 : Shared) (H1 : Hp) (xs : List V) (its : List Value) (q : Bool → Prop),
      Inv X pins σ H1 s1 → Vals xs its → W σ H1 xs q → ∃ pb, EltOk X P scope x elt s1 its pb ∧ q (its.all pb))
    (hs : ∀ v, genFold iter X.env v = pure v)
    (he : starEach [.GeneratorExp elt [⟨.Name x px, iter, [], 0⟩] scope gpos] X.env = (false, eval (.GeneratorExp elt [⟨.Name x px, iter, [], 0⟩] scope gpos) X.env) :: starEach [] X.env := by rfl) :
    PE X (.Call (.Name "all" p) [.GeneratorExp elt [⟨.Name x px, iter, [], 0⟩] scope gpos] [] pos) (tAllT X.K P te W) := by
  have hv : bootBuiltins "all" = some (.builtin "all") := by decide +kernel
  refine PE.mk fun pins s σ H Q I h => wpAny_Call_Name_kw (ld_blt I hg hm hv ?_)
  refine PyProof.Rows.callWith_builtin1 ?_ he (by rfl)
  rw [he]
  refine Calls.spliced_cons (gen_tup (R := fun H1 pb its => ∀ H2, Tabbed P H1 H2 → Q (.bl (its.all pb)) H2) hr TB hcode S hi hs I h ?_ ?_)
  · rintro v H1 ⟨a, xs, e, hq, ht, hw⟩
    exact ⟨a, xs, e, hq, ht, fun s1 its I1 rv => hel pins σ s1 H1 xs its _ I1 rv hw⟩
  · intro H1 pb its g s5 hR hG
    obtain ⟨fp, wr, G, F, St, W, hst, htr, hI⟩ := hG
    refine Calls.spliced_nil (call_all_walkS (W.self 0 _ _ _ hst ⟨g, fp, wr, G, _, F, St, _, rfl, W, hst, htr, fun s' hmv => ?_⟩))
    obtain ⟨H2, hT, J⟩ := hI s' hmv
    refine ⟨.bl _, H2, J, rfl, ?_⟩
    rw [all_ansAt]
    exact hR H2 hT
end
end My

/-! the test is_whole(value, 0, many - 1) at each item -/
namespace My
open PySem PySem.Spec PyProof.Rows L2 GxR

def wholeV (x : V) (l m : Int) : Bool := match x with
  | .int i => decide (l ≤ i) && decide (i ≤ m)
  | _ => false
theorem wholeV_of {x : V} {u : Value} (r : RelV x u) (l m : Int) : whole u l m = wholeV x l m := by
  cases x with
  | int i =>
    obtain ⟨t, rfl⟩ := r
    rfl
  | non => cases (show u = Value.none from r); rfl
  | bl b => cases (show u = Value.bool b from r); rfl
  | str z => obtain ⟨t, rfl⟩ := (show ∃ t, u = Value.str z t from r); rfl
  | byt z => obtain ⟨t, rfl⟩ := (show ∃ t, u = Value.bytes z t from r); rfl
  | flt z => obtain ⟨t, rfl⟩ := (show ∃ t, u = Value.float z t from r); rfl
  | ref a => cases (show u = Value.ref a from r); rfl
  | ty n => cases (show u = Value.type n from r); rfl
theorem all_wholeV {l m : Int} : ∀ {xs : List V} {its : List Value}, Vals xs its → its.all (fun u => whole u l m) = xs.all fun x => wholeV x l m
  | _, _, .nil => rfl
  | _, _, .cons r t => by rw [List.all_cons, List.all_cons, wholeV_of r, all_wholeV t]
theorem Vals.mem {u : Value} : ∀ {xs : List V} {its : List Value}, Vals xs its → u ∈ its → ∃ x ∈ xs, RelV x u
  | _, _, .nil, h => nomatch h
  | _, _, .cons (a := x) r t, h => by
    rcases List.mem_cons.mp h with e | h
    · subst e
      exact ⟨_, List.mem_cons_self, r⟩
    · obtain ⟨y, hy, q⟩ := Vals.mem t h
      exact ⟨y, List.mem_cons_of_mem _ hy, q⟩
theorem tyInt {K : PySem.W.Frag} {H : Hp} {x : V} {u : Value} {T : String} (t : TyB K H x T) (r : RelV x u) :
    (T = "int" → ∃ i k, u = .int i k) ∧ (T ≠ "int" → ∀ i k, u ≠ .int i k) := by
  cases t with
  | int i =>
    obtain ⟨k, rfl⟩ := r
    exact ⟨fun _ => ⟨i, k, rfl⟩, fun h => (h rfl).elim⟩
  | non => cases (show u = Value.none from r); exact ⟨fun h => absurd h (by decide), fun _ _ _ => nofun⟩
  | bl b => cases (show u = Value.bool b from r); exact ⟨fun h => absurd h (by decide), fun _ _ _ => nofun⟩
  | str z => obtain ⟨k, rfl⟩ := (show ∃ t, u = Value.str z t from r); exact ⟨fun h => absurd h (by decide), fun _ _ _ => nofun⟩
  | byt z => obtain ⟨k, rfl⟩ := (show ∃ t, u = Value.bytes z t from r); exact ⟨fun h => absurd h (by decide), fun _ _ _ => nofun⟩
  | lst h => cases (show u = Value.ref _ from r); exact ⟨fun h => absurd h (by decide), fun _ _ _ => nofun⟩
  | tup h => cases (show u = Value.ref _ from r); exact ⟨fun h => absurd h (by decide), fun _ _ _ => nofun⟩
  | dK h => cases (show u = Value.ref _ from r); exact ⟨fun h => absurd h (by decide), fun _ _ _ => nofun⟩
theorem typeIs_but {s s' : Shared} {u : Value} {T : String} {P : Addr} {d : Data} (h : s.TypeIs u T) (hP : s.heap.get? P = some { cls := .none, data := d })
    (k : ∀ b o, b ≠ P → s.heap.get? b = some o → s'.heap.get? b = some o) : s'.TypeIs u T := by
  cases u with
  | ref a =>
    obtain ⟨o, e, c⟩ := h
    refine ⟨o, k a o (fun z => ?_) e, c⟩
    rw [z, hP] at e
    cases e
    cases c
  | _ => exact h

/-- the names of the test -/
structure EltS (X : Cx) (scope : Scope) (x m fn : Str) (im : Nat) : Prop where
  kind : scope.kind = .function
  lx : scope.names.lookup x = some .local
  lf : scope.names.lookup fn = some .globalImplicit
  lm : scope.names.lookup m = some .free
  nm : X.N[im]? = some m
  cm : X.env.scope.names.lookup m = some .cell
  dx : (x == ("__debug__" : Str)) = false
  df : (fn == ("__debug__" : Str)) = false
  dm : (m == ("__debug__" : Str)) = false
  dc : (m == ("__classdict__" : Str)) = false

def wholeW (K : PySem.W.Frag) (P : Addr) (im : Nat) : L2.St → Hp → List V → (Bool → Prop) → Prop := fun σ H xs q =>
  ∃ n : Int, σ[im]? = some (some (.int n)) ∧ (∃ ps, H P = some (.tbl ps)) ∧ (∀ x ∈ xs, ∃ T, TyB K H x T) ∧ q (xs.all fun x => wholeV x 0 (n - 1))

theorem elt_whole {X : Cx} {P : Addr} {scope : Scope} {x m : Str} {im : Nat} {f : Addr} {fd : FuncData} {st : Stmt}
    {p1 p2 p3 p4 p5 p6 p7 : Pos} {j1 j2 : Nat} {k : Nat} (hr : Room k X.A) (S : EltS X scope x m "is_whole" im)
    (D : WholeD X.K X.mg f fd st) (gf : X.mg "is_whole" = some (.ref f)) (pins : List (Addr × Obj)) (σ : L2.St) (s1 : Shared) (H1 : Hp)
    (xs : List V) (its : List Value) (q : Bool → Prop) (I : Inv X pins σ H1 s1) (rv : Vals xs its) (h : wholeW X.K P im σ H1 xs q) :
    ∃ pb, EltOk X P scope x (.Call (.Name "is_whole" p1) [.Name x p2, .Constant (.int 0) j1 p3, .BinOp (.Name m p4) .Sub (.Constant (.int 1) j2 p5) p6] [] p7) s1 its pb ∧ q (its.all pb) := by
  obtain ⟨n, hn, hP, hty, hq⟩ := h
  refine ⟨fun u => whole u 0 (n - 1), ?_, by rw [all_wholeV rv]; exact hq⟩
  intro cenv A' E' v s2 m2 hs hg hbt hc hd hD hU hv hns hm2 hk
  obtain ⟨x0, hx0, rx⟩ := Vals.mem rv hv
  obtain ⟨T, ty⟩ := hty x0 hx0
  obtain ⟨ps, hPs⟩ := hP
  have oP := I.hok P _ hPs
  have oP : s1.heap.get? P = some { cls := .none, data := .fields ps } := oP
  have kb : ∀ b o, X.base.get? b = some o → s2.heap.get? b = some o := fun b o e =>
    hk b o (fun z => by have := (I.bs b o e).2; rw [z, hPs] at this; cases this) (I.bk b o e)
  have hT : s2.TypeIs v T := typeIs_but (ty.is I rx) oP hk
  obtain ⟨t3, t4⟩ := tyInt ty rx
  -- the captured name
  obtain ⟨mm, _, hl⟩ := I.loc
  obtain ⟨un, ⟨tn, eun⟩, lk⟩ := hl im m (.int n) S.nm hn (Or.inr (Or.inl S.cm))
  subst eun
  obtain ⟨cc, hcc, hcell⟩ : ∃ c, X.env.cells.lookup m = some c ∧ s1.heap.IsCell c (some (.int n tn)) := by
    rcases lk with ⟨z, _⟩ | ⟨_, c, h1, h2⟩
    · exact nomatch (S.cm.symm.trans z)
    · exact ⟨c, h1, h2⟩
  have hcl : (cloFrom X.env.cells scope.names []).lookup m = some cc := by
    obtain ⟨c2, e2⟩ := mem_lookup (cloFrom_has (cells := X.env.cells) (acc := []) (PySem.mem_of_lookup S.lm))
    rcases cloFrom_mem (PySem.mem_of_lookup e2) with hm | ⟨_, h2⟩
    · cases hm
    · rw [e2]
      have e3 : c2 = cc := by
        rw [h2, hcc]
        rfl
      rw [e3]
  have hcell2 : s2.heap.IsCell cc (some (.int n tn)) := by
    obtain ⟨o, e, d⟩ := hcell
    refine ⟨o, hk cc o (fun z => ?_) e, d⟩
    rw [z, oP] at e
    cases e
    cases d
  have kin := I.mod.kin.keeps kb
  refine wpAny_Call_Name_kw (Calls.Name_function_global (by rw [hs]; exact S.kind) (show cenv.scope.names.lookup ("is_whole" : Str) = some NameKind.globalImplicit by rw [hs]; exact S.lf)
    (Calls.loadGlobal_global (by rw [hg]; exact I.mod.glob.keeps kb) gf ?_) S.df)
  refine PySem.W.callWith_K (h₀ := X.base) I.mod.kin D.fn.kp ?_ (by rfl) (by rfl)
  refine Calls.spliced_cons (wpAny_Name (wpAny_loadName_local (by rw [hs]; exact S.kind) (show cenv.scope.names.lookup x = some .local by rw [hs]; exact S.lx) hns hm2 ?_) S.dx)
  show wpAny _ _ (spliced ((false, eval (.Constant (.int 0) j1 p3) cenv) :: backTo p7 (starEach [.BinOp (.Name m p4) .Sub (.Constant (.int 1) j2 p5) p6] cenv))) _ _ _
  refine Calls.spliced_cons (wpAny_Constant_int ?_)
  show wpAny _ _ (spliced ((false, eval (.BinOp (.Name m p4) .Sub (.Constant (.int 1) j2 p5) p6) cenv) :: backTo p7 (starEach [] cenv))) _ _ _
  refine Calls.spliced_cons (wpAny_BinOp (wpAny_Name (wpAny_loadName_free (by rw [hs]; exact S.kind) (show cenv.scope.names.lookup m = some .free by rw [hs]; exact S.lm)
    (by rw [hc]; exact hcl) hcell2 ?_ S.dc) S.dm))
  refine wpAny_Constant_int (sub_int (Calls.spliced_nil ⟨kin, ?_⟩))
  have w2 := whole_low (P := X.prog) (w := X.w) (A := A') (E := E') (s := { s2 with toks := s2.toks + 1 + 1 + 1 }) (l := 0) (m := n - 1) (t1 := s2.toks) (t2 := s2.toks + 1 + 1) D I.mod kb hd
    (by have := hr.dp; omega) (by have := hr.un; omega) (u := v) (T := T) hT ty.nb t3 t4
  refine wpAny_mono w2 (fun y s3 hz => ⟨hz.1, ?_⟩) fun _ _ e => e
  obtain ⟨h', tk, e, kk⟩ := hz.2
  exact ⟨h', tk, by rw [e], kk⟩
/-- the generator expression's scope, by one look -/
def genSB (sc scope : Scope) (x : Str) : Bool :=
  decide (scope.kind = .function) && !scope.isCoroutine && decide (scope.names.lookup (".0" : Str) = some NameKind.local) && decide (scope.names.lookup x = some NameKind.local) &&
    scope.names.all fun y => !decide (y.2 = NameKind.cell) && (!decide (y.2 = NameKind.free) || decide (sc.names.lookup y.1 = some NameKind.cell))
theorem genS_by {qual : Str} {sc scope : Scope} {L f : Addr} {cd : Value} {x : Str} (h : genSB sc scope x = true) : GenS (envOfC qual sc L f cd) scope x := by
  unfold genSB at h
  simp only [Bool.and_eq_true, Bool.or_eq_true, Bool.not_eq_true', decide_eq_true_eq, decide_eq_false_iff_not, List.all_eq_true] at h
  obtain ⟨⟨⟨⟨h1, h2⟩, h3⟩, h4⟩, h5⟩ := h
  refine ⟨h1, h2, fun y hy => (h5 y hy).1, h3, h4, fun y hy e => ?_⟩
  rcases (h5 y hy).2 with z | z
  · exact absurd e z
  · exact cell_has z
end My

/-! lambdas that capture nothing: made, handed on, called -/
namespace My
open PySem PySem.Spec PyProof.Rows L2
open LamX (CodeO TabS ExtN inv_table among_app codeO_ne)

/-- the function object o stands at f -/
def FnO (f : Addr) (o : Obj) : HO := .ext fun h => h.get? f = some o
theorem fnO_ok {P : Program} {w : World} {H : Hp} {h : Heap} {f : Addr} {o : Obj} (e : h.get? f = some o) : ObjOk P w H h f (FnO f o) :=
  ⟨e, ⟨o, e⟩, fun _ _ h1 st => st o h1⟩
theorem fnO_ne {f : Addr} {o : Obj} (ps : Array Value) : FnO f o ≠ .tbl ps := fun z => by
  unfold FnO at z
  cases z

theorem cloFrom_nil {cells : List (Str × Addr)} : ∀ {names : List (Str × NameKind)}, (∀ y ∈ names, y.2 ≠ .free) → cloFrom cells names [] = []
  | [], _ => rfl
  | (n, k) :: r, h => by
    have h1 : (k == NameKind.free) = false := beq_eq_false_iff_ne.mpr (h (n, k) List.mem_cons_self)
    unfold cloFrom
    rw [h1]
    exact cloFrom_nil fun y hy => h y (List.mem_cons_of_mem _ hy)

abbrev lamObj (q : Str) (params : Arguments) (body : Expr) (scope : Scope) (pm : Value) (c' : Addr) (ctv : Value) : Obj :=
  PySem.W.kla_obj "<lambda>" q params body scope [] pm c' ctv

section
variable {X : Cx} {pins : List (Addr × Obj)} {σ : L2.St} {H : Hp} {s : Shared}
/-- lambda ..: body -/
theorem lam_mk {c P : Addr} {params : Arguments} {body : Expr} {scope : Scope} {pos : Pos} {E : Value → Shared → Prop} {Q : Value → Shared → Prop}
    (I : Inv X pins σ H s) (TB : LamX.TabB X.base X.mg c P) (hcode : X.env.code = .ref c)
    (hT : TabS H P (X.env.qual ++ "<lambda>")) (hdef : defaultsOf params X.env = ([], [])) (nf : ∀ y ∈ scope.names, y.2 ≠ .free)
    (h : ∀ (f c' : Addr) (pm ctv : Value) (H1 : Hp) (s' : Shared), Inv X pins σ H1 s' → ExtN H H1 → TabS H1 P (X.env.qual ++ "<lambda>") →
      (∀ b, b ≠ P → H b ≠ none → H1 b = H b) → H f = none → H1 f = some (FnO f (lamObj (X.env.qual ++ "<lambda>") params body scope pm c' ctv)) →
      H1 c' = some (CodeO c' (X.env.qual ++ "<lambda>")) → Q (.ref f) s') :
    wpAny (model X.prog X.w) X.A (eval (.Lambda params body scope pos) X.env) Q E s := by
  obtain ⟨ps, hP, ht, ha⟩ := hT
  have hclos : closureFor scope X.env = pure [] := by
    have e := closure_ok (env := X.env) (scope := scope) fun y hy z => absurd z (nf y hy)
    rwa [cloFrom_nil nf] at e
  refine PySem.W.kla_eval hdef ?_
  have bP : s.heap.BuiltinsAt X.mg P := TB.bm.keeps I.bk
  have hP' : s.heap.get? P = some { cls := .none, data := .fields ps } := I.hok P _ hP
  have g0 := I.mod.glob.keeps I.bk
  have cd := TB.code.keeps I.bk
  match hc : codeAmong pos ps.toList with
  | none =>
    refine PySem.W.kla_makeFunction (mg := X.mg) (c := c) (P := P) (ps := ps) hclos I.ok.glob g0 hcode cd hP' ht hc TB.gP bP ?_
    intro c' ctv h' tk hx hge hlt hrec htb
    obtain ⟨c2, oc, vs, t, e2, hoc, hd, hv⟩ := hrec
    cases e2
    have hsz : s.heap.objs.size ≤ h'.objs.size := Nat.le_trans hge (Nat.le_of_lt hlt)
    have nC : H c' = none := I.hok.fresh hge
    have nF : H h'.objs.size = none := I.hok.fresh hsz
    have I1 := inv_table (q := X.env.qual ++ "<lambda>") (t' := tk) (more := #[rawInt pos.line, rawInt pos.col, .ref c']) (h' := h') I hP hx htb hge ⟨oc, vs, t, hoc, hd, hv⟩
    have I2 := I1.laid (a := h'.objs.size) (t' := tk) (h' := h'.push (lamObj (X.env.qual ++ "<lambda>") params body scope ((X.mg "__name__").getD .none) c' ctv))
      (fun b u e => Heap.get?_push_of_some _ e) (Nat.le_refl _) (fnO_ok (Heap.get?_push_size _ rfl))
    have nPF : P ≠ h'.objs.size := ne_of_none hP nF
    have nPC : P ≠ c' := ne_of_none hP nC
    have nCF : c' ≠ h'.objs.size := Nat.ne_of_lt hlt
    have old : ∀ b, b ≠ P → H b ≠ none → upd (upd (upd H P (.tbl (ps ++ #[rawInt pos.line, rawInt pos.col, .ref c']))) c' (CodeO c' (X.env.qual ++ "<lambda>"))) h'.objs.size (FnO h'.objs.size (lamObj (X.env.qual ++ "<lambda>") params body scope ((X.mg "__name__").getD .none) c' ctv)) b = H b := by
      intro b h1 h2
      rw [upd_ne (fun z => h2 (by rw [z]; exact nF)), upd_ne (fun z => h2 (by rw [z]; exact nC)), upd_ne h1]
    have ext : ExtN H _ := fun b o e n => (old b (fun z => n ps (Option.some.inj (e.symm.trans (by rw [z]; exact hP)))) (by rw [e]; nofun)).trans e
    have atC : upd (upd (upd H P (.tbl (ps ++ #[rawInt pos.line, rawInt pos.col, .ref c']))) c' (CodeO c' (X.env.qual ++ "<lambda>"))) h'.objs.size (FnO h'.objs.size (lamObj (X.env.qual ++ "<lambda>") params body scope ((X.mg "__name__").getD .none) c' ctv)) c' = some (CodeO c' (X.env.qual ++ "<lambda>")) := by
      rw [upd_ne nCF, upd_same]
    refine h h'.objs.size c' _ ctv _ _ I2 ext ⟨ps ++ #[rawInt pos.line, rawInt pos.col, .ref c'], ?_, ?_, fun p' cv hcv => ?_⟩ old nF upd_same atC
    · rw [upd_ne nPF, upd_ne nPC, upd_same]
    · rw [Array.toList_append]
      exact PySem.TriplesOk_snoc _ _ _ _ ht
    · rw [Array.toList_append] at hcv
      rcases among_app _ ht hcv with z | z
      · obtain ⟨c0, e1, e2⟩ := ha p' cv z
        exact ⟨c0, e1, ext _ _ e2 codeO_ne⟩
      · exact ⟨c', z, atC⟩
  | some cv =>
    obtain ⟨c', e, hco⟩ := ha pos cv hc
    subst e
    refine PySem.W.kla_makeFunctionHit (mg := X.mg) (c := c) (P := P) (ps := ps) hclos I.ok.glob g0 hcode cd hP' ht hc bP fun ctv h' tk hx hsz => ?_
    have nF : H h'.objs.size = none := I.hok.fresh hsz
    have I1 := I.kept (h' := h') (t' := tk) hx
    have I2 := I1.laid (a := h'.objs.size) (t' := tk) (h' := h'.push (lamObj (X.env.qual ++ "<lambda>") params body scope ((X.mg "__name__").getD .none) c' ctv))
      (fun b u e => Heap.get?_push_of_some _ e) (Nat.le_refl _) (fnO_ok (Heap.get?_push_size _ rfl))
    have old : ∀ b, H b ≠ none → upd H h'.objs.size (FnO h'.objs.size (lamObj (X.env.qual ++ "<lambda>") params body scope ((X.mg "__name__").getD .none) c' ctv)) b = H b := fun b h2 =>
      upd_ne (fun z => h2 (by rw [z]; exact nF))
    have all : ∀ b o, H b = some o → upd H h'.objs.size (FnO h'.objs.size (lamObj (X.env.qual ++ "<lambda>") params body scope ((X.mg "__name__").getD .none) c' ctv)) b = some o := fun b o e => (old b (by rw [e]; nofun)).trans e
    exact h h'.objs.size c' _ ctv _ _ I2 (ExtN.of all) (TabS.ext ⟨ps, hP, ht, ha⟩ all) (fun b _ h2 => old b h2) nF upd_same (all _ _ hco)
/-- the reading of a lambda -/
def tLam (P : Addr) (q : Str) (params : Arguments) (body : Expr) (scope : Scope) : TE := fun _ H Q => TabS H P q ∧
  ∀ (f c' : Addr) (pm ctv : Value) (H1 : Hp), ExtN H H1 → TabS H1 P q → (∀ b, b ≠ P → H b ≠ none → H1 b = H b) → H f = none →
    H1 f = some (FnO f (lamObj q params body scope pm c' ctv)) → H1 c' = some (CodeO c' q) → Q (.ref f) H1
theorem pe_lam {c P : Addr} {params : Arguments} {body : Expr} {scope : Scope} {pos : Pos} (TB : LamX.TabB X.base X.mg c P) (hcode : X.env.code = .ref c)
    (hdef : defaultsOf params X.env = ([], [])) (nf : ∀ y ∈ scope.names, y.2 ≠ .free) :
    PE X (.Lambda params body scope pos) (tLam P (X.env.qual ++ "<lambda>") params body scope) := by
  refine PE.mk fun pins s σ H Q I h => lam_mk I TB hcode h.1 hdef nf fun f c' pm ctv H1 s' I1 e t o nf' a1 a2 => ?_
  exact ⟨.ref f, H1, I1, rfl, h.2 f c' pm ctv H1 e t o nf' a1 a2⟩
end

/-- what may be called, with so many arguments -/
structure Cal (P : Program) (w : World) (K : PySem.W.Frag) (mg : Str → Option Value) (base : Heap) (k : Nat) (f : Addr) (H : Hp) (ar : Nat) (sp : Sp) : Prop where
  fn : PySem.W.keepIn K (.ref f) = true ∨ ∃ o : Obj, H f = some (FnO f o) ∧ ∃ oc od fd sl, o = ⟨oc, od, .func fd, sl⟩
  run : ∀ (A : Around) (outer : List Env) (s : Shared) (H' : Hp) (us : List Value) (vs : List V) (Q : VK) (E : XK), Rm k A →
    Env0 P w K mg base A outer s H' → ExtN H H' → Vals vs us → us.length = ar → sp vs H' Q E →
    codeAny (model P w) A (.call (.ref f) ⟨us, []⟩) (CR CX0 outer P w H' s Q E) s
section
variable {P : Program} {w : World} {K : PySem.W.Frag} {mg : Str → Option Value} {base : Heap} {k ar : Nat} {f : Addr} {H H1 : Hp} {sp : Sp}
theorem Cal.ext (c : Cal P w K mg base k f H ar sp) (e : ExtN H H1) : Cal P w K mg base k f H1 ar sp := by
  refine ⟨?_, fun A o s H' us vs Q E r e0 x => c.run A o s H' us vs Q E r e0 (e.trans x)⟩
  rcases c.fn with h | ⟨o, h, z⟩
  · exact Or.inl h
  · exact Or.inr ⟨o, e _ _ h fnO_ne, z⟩
theorem Cal.mono {j : Nat} (c : Cal P w K mg base j f H ar sp) (h : j ≤ k) : Cal P w K mg base k f H ar sp := ⟨c.fn, fun A o s H' us vs Q E r => c.run A o s H' us vs Q E (r.mono h)⟩
theorem Cal.of {x : Str} {ps : List Str} (D : Df P w K mg base CX0 k x f ps sp) (hl : ps.length = ar) : Cal P w K mg base k f H ar sp := by
  obtain ⟨fd, F, b, _⟩ := D.ex
  refine ⟨Or.inl D.kp, fun A outer s H' us vs Q E r e0 _ rv hu hs => ?_⟩
  have kin : K.In s.heap := e0.mod.kin.keeps fun b o e => (e0.bs b o e).1
  have hb := b s us kin (by rw [List.append_nil, hu, hl])
  rw [List.append_nil] at hb
  exact F.go A outer s H' _ us vs Q E r e0 hb rv hs
/-- a lambda that captures nothing, by its body -/
theorem lam_cal {q : Str} {params : Arguments} {body : Expr} {scope : Scope} {pm ctv : Value} {c' : Addr} {N ps : List Str}
    (h1 : H f = some (FnO f (lamObj q params body scope pm c' ctv))) (h2 : H c' = some (CodeO c' q)) (S : FnScope N ps scope)
    (hb : ∀ us : List Value, us.length = ps.length → bindArgs (PySem.W.kla_fn "<lambda>" q params body scope [] pm (.ref c') ctv) ⟨us, []⟩ = pure (ps.zip us))
    (hbody : ∀ (A : Around) (outer : List Env) (s : Shared) (H' : Hp) (vs : List V) (Q : VK) (E : XK),
      Rm k (A.deeper (envOfC q scope s.heap.objs.size f (.ref c'))) → sp vs H' Q E →
      ∃ t, PE (cxOf CX0 P w K mg base N q scope f (.ref c') A outer s H' E) body t ∧ t (start N vs) H' Q) :
    Cal P w K mg base (k + 1) f H ps.length sp := by
  refine ⟨Or.inr ⟨_, h1, _, _, _, _, rfl⟩, fun A outer s H' us vs Q E hr e0 ext rv hu hs => ?_⟩
  have hl : vs.length = ps.length := rv.length.trans hu
  have o1 : s.heap.get? f = some (lamObj q params body scope pm c' ctv) := (e0.hok f _ (ext _ _ h1 fnO_ne)).1
  obtain ⟨oc, fl, t, hoc, hdc, hvc⟩ := (e0.hok c' _ (ext _ _ h2 codeO_ne)).1
  have lim : s.heap.NoLimit := e0.mod.nolimit.keeps fun b o e => (e0.bs b o e).1
  refine PySem.W.kla_callFunE hr.r.depth o1 rfl S.co S.gen rfl ⟨c', oc, fl, t, rfl, hoc, hdc, hvc⟩ ?_
  rw [hb us hu]
  refine wpAny_pure (wpAny_newFunctionEnv_cells S.kind (fun ⟨n, v⟩ hy => ?_) fun env he s1 x => ?_)
  · rcases S.par n (List.of_mem_zip hy).1 with z | z
    · exact Or.inl z
    · exact Or.inr (And.intro z (PySem.W.cellsFrom_some _ _ _ (Or.inl z)))
  subst he
  refine ⟨lim.keeps x.toInCall.keep, PySem.W.kla_codeExpr ?_⟩
  obtain ⟨t, ht, hq⟩ := hbody A outer s H' vs Q E (hr.deeper _) hs
  have I := inv_start (CX := CX0) (qual := q) (f := f) (cd := .ref c') (E := E) S hr.r.hd e0 hl rv x
  refine wpAny_mono (ht.run [] s1 _ H' _ I hq) (fun v s' hz => ?_) fun e s' hz => hz
  obtain ⟨v', H2, J, r', qq⟩ := hz
  exact ⟨v', H2, J.os, J.bare, J.base, J.hok, r', qq⟩
end

section
variable {X : Cx} {k i j : Nat} {x : Str} {p pos : Pos} {e : Expr} {es : List Expr} {t : TA}
/-- a call of what the slot holds -/
def tCal (X : Cx) (j i ar : Nat) (t : TA) : TE := fun σ H Q => ∃ f sp, σ[i]? = some (some (.ref f)) ∧ Cal X.prog X.w X.K X.mg X.base j f H ar sp ∧
  t σ H fun vs H1 => vs.length = ar ∧ ExtN H H1 ∧ sp vs H1 Q E0
theorem pe_cal (hr : Rm k X.A) (hj : j ≤ k) (hN : X.N[i]? = some x) (hv : Vis X.env.scope x) (ha : PA X (e :: es) t)
    (hdb : (x == ("__debug__" : Str)) = false := by decide) (hcd : (x == ("__classdict__" : Str)) = false := by decide)
    (he : starEach (e :: es) X.env = (false, eval e X.env) :: starEach es X.env := by rfl)
    (hpl : (backTo pos (starEach es X.env)).any (·.1) = false := by rfl) {ar : Nat} :
    PE X (.Call (.Name x p) (e :: es) [] pos) (tCal X j i ar t) := by
  refine PE.mk fun pins s σ H Q I h => ?_
  obtain ⟨f, sp, hs, c, ht⟩ := h
  refine wpAny_Call_Name_kw (thn ((pe_var (pos := p) hN hv hdb hcd).run pins s σ H (fun v H1 => v = .ref f ∧ H1 = H) I ⟨.ref f, hs, rfl, rfl⟩) fun u s1 hz => ?_)
  obtain ⟨v, H1, I1, r1, e1, e2⟩ := hz
  subst e1 e2
  cases r1
  have run : ∀ us s2 vs H2, Inv X pins σ H2 s2 → Vals vs us → vs.length = ar ∧ ExtN H1 H2 ∧ sp vs H2 Q E0 →
      wpAny (model X.prog X.w) X.A (call (.ref f) us) (EP X pins σ Q) X.xe s2 := by
    intro us s2 vs H2 I2 r q
    refine wpAny_call (codeAny_mono (c.run X.A X.stack s2 H2 us vs Q E0 (hr.mono hj) I2.env0 q.2.1 r (r.length.symm.trans q.1) q.2.2) fun r s' hq => ?_)
    match r, hq with
    | .ok (.ret u), hq => exact I2.after hq
  rcases c.fn with hk | ⟨o, ho, oc, od, fd, sl, eo⟩
  · refine PySem.W.callWith_K (h₀ := X.base) I1.ok.mod.kin hk (thn (ha.run pos pins s1 σ _ _ I1 ht) ?_) he hpl
    intro us s2 hz
    obtain ⟨vs, H2, I2, r, q⟩ := hz
    exact ⟨I2.kIn, run us s2 vs H2 I2 r q⟩
  · subst eo
    refine PySem.W.callWith_F ⟨oc, od, fd, sl, (I1.hok f _ ho).1⟩ (thn (ha.run pos pins s1 σ _ _ I1 ht) ?_) he hpl
    intro us s2 hz
    obtain ⟨vs, H2, I2, r, q⟩ := hz
    exact ⟨⟨oc, od, fd, sl, (I2.hok f _ (q.2.1 _ _ ho fnO_ne)).1⟩, run us s2 vs H2 I2 r q⟩
end
end My

/-! the law's own call where tables of code objects may grow -/
namespace My
open PySem PySem.Spec PyProof.Rows L2

/-- what may be tracked at the law's start: the script, the tables -/
def Startable (a : Addr) (its : Array Value) (ts : List (Addr × Addr)) (h : Heap) (H : Hp) : Prop := ∀ b u, H b = some u →
  (b = a ∧ u = .frz { cls := .type "list", data := .seq its } (.lst ((its.toList.filterMap absV)))) ∨ (b ∈ ts.map (·.2) ∧ u = .tbl #[])

section
variable {P : Program} {w : World} {K : PySem.W.Frag} {mg mb : Str → Option Value} {CX : CXT} {k : Nat}
variable {fa a : Addr} {fd : FuncData} {x : Str} {sp : Sp} {s₁ : Shared} {ts : List (Addr × Addr)}

theorem run_lawT (H : Hp) (KX : K.In s₁.heap) (g0 : s₁.heap.Ns mainGlobals mg) (b0 : s₁.heap.Ns builtinsNs mb)
    (bb : ∀ y : Str, y ≠ "__name__" → mb y = bootBuiltins y) (nl : s₁.heap.NoLimit) (ng : s₁.gens = #[])
    (hT : PySem.W.TabsAt ts s₁.heap) (nT : ∀ p ∈ ts, K.lookup p.2 = none)
    (hbm : ∃ (bm : Addr) (ob : Obj), mg "__builtins__" = some (.ref bm) ∧ bm ≠ builtinsNs ∧ s₁.heap.get? bm = some ob ∧ ob.cls = .type "module" ∧ ob.dict = some builtinsNs ∧ ob.data = .plain)
    {its : Array Value} (ha : s₁.heap.get? a = some { cls := .type "list", data := .seq its })
    (hr : Rm k callerA) (bd : ∀ (s : Shared) (u : Value), BindsTo s fd ⟨[u], []⟩ [(x, u)])
    (F : ∀ base : Heap, K.In base → base.Ns mainGlobals mg → (∀ p ∈ ts, LamX.TabB base mg p.1 p.2) → FnG P w K mg base CX k fa fd [x] sp)
    (hA : ∀ b u, H b = some u → (b = a ∧ ∃ xs, u = .frz { cls := .type "list", data := .seq its } (.lst xs)) ∨ (b ∈ ts.map (·.2) ∧ u = .tbl #[]))
    (hsp : sp [.ref a] H (fun v _ => v = .bl true) fun _ _ _ => False)
    (hok : HOk P w H s₁.heap) (hK : H a ≠ none → K.lookup a = none)
    (hCX : ∀ H e s', CX [] H s₁ (fun _ _ _ => False) e s' → False) :
    codeAny (model P w) callerA (.call (.ref fa) ⟨[.ref a], []⟩) (Fine s₁) s₁ := by
  have tabObj : ∀ b, b ∈ ts.map (·.2) → s₁.heap.get? b = some { cls := .none, data := .fields #[] } := by
    intro b hb
    obtain ⟨p, hp, e⟩ := List.mem_map.mp hb
    rw [← e]
    exact (hT p hp).2
  -- what is neither a list nor an empty table is not tracked
  have free : ∀ {b : Addr} {o : Obj}, s₁.heap.get? b = some o → (∀ vs n, o.data ≠ .seq vs n) → o.data ≠ .fields #[] → H b = none := by
    intro b o e h1 h2
    match q : H b with
    | none => rfl
    | some u =>
      rcases hA b u q with ⟨z, _⟩ | ⟨z, _⟩
      · rw [z, ha] at e
        cases e
        exact absurd rfl (h1 _ _)
      · rw [tabObj b z] at e
        cases e
        exact absurd rfl h2
  have free_dict : ∀ {b : Addr} {o : Obj} {es ep}, s₁.heap.get? b = some o → o.data = .dict es ep → H b = none := fun e d =>
    free e (fun _ _ z => nomatch d.symm.trans z) fun z => nomatch d.symm.trans z
  have ns' : ∀ {b m}, s₁.heap.Ns b m → (hidT s₁.heap H).Ns b m := by
    intro b m z
    obtain ⟨o, es, ep, e, d, r⟩ := z
    exact ⟨o, es, ep, hidT_get e (free_dict e d), d, r⟩
  have kin : K.In (hidT s₁.heap H) := by
    intro b o e
    refine hidT_get (KX b o e) ?_
    match q : H b with
    | none => rfl
    | some u =>
      rcases hA b u q with ⟨z, _⟩ | ⟨z, _⟩
      · rw [z] at e q
        rw [hK (by rw [q]; nofun)] at e
        cases e
      · obtain ⟨p, hp, ep⟩ := List.mem_map.mp z
        rw [← ep, nT p hp] at e
        cases e
  obtain ⟨mc, n1, n2⟩ := nl
  have M : L2.Mod K mg (hidT s₁.heap H) := ⟨kin, ns' g0, ⟨mb, ns' b0, bb⟩, ⟨mc, ns' n1, n2⟩⟩
  have TB : ∀ p ∈ ts, LamX.TabB (hidT s₁.heap H) mg p.1 p.2 := by
    intro p hp
    have tP := (hT p hp).2
    obtain ⟨og, eg, eg2, g1, g2, _⟩ := id g0
    refine ⟨?_, ?_, fun z => ?_⟩
    · obtain ⟨o, vs, fl, tf, fg, tg, inF, tx, tt, e1, r1, r2, r3, r4⟩ := (hT p hp).1
      refine ⟨o, vs, fl, tf, fg, tg, inF, tx, tt, hidT_get e1 (free e1 ?_ fun z => ?_), r1, r2, r3, r4⟩
      · exact fun _ _ z => nomatch r2.symm.trans z
      · cases r2.symm.trans z
        simp at r3
    · obtain ⟨bm, ob, b1, b2, b3, b4, b5, b6⟩ := hbm
      refine ⟨bm, ob, b1, b2, fun z => ?_, fun z => ?_, hidT_get b3 (free b3 (fun _ _ z => nomatch b6.symm.trans z) fun z => nomatch b6.symm.trans z), b4, b5, b6⟩
      · rw [z, g1] at b3
        cases b3
        exact nomatch g2.symm.trans b6
      · rw [z, tP] at b3
        cases b3
        exact nomatch b6
    · rw [z, tP] at g1
      cases g1
      exact nomatch g2
  have e0 : Env0 P w K mg (hidT s₁.heap H) callerA [] s₁ H :=
    { frames := rfl, mod := M, bs := fun b o e => of_hidT e, bsz := Nat.le_of_eq (hidT_size _ _)
      funs := trivial, frf := (fun b hb => nomatch hb), hok := hok, bare := .of_eq ng }
  have c := (F _ kin (ns' g0) TB).go callerA [] s₁ H ⟨[.ref a], []⟩ [.ref a] [.ref a] _ _ hr e0 (bd s₁ _) (.cons rfl .nil) hsp
  refine codeAny_mono c fun r s' h => ?_
  match r, h with
  | .error e, h => exact absurd h (hCX H e s')
  | .ok (.ret u), h =>
    obtain ⟨v, H', os, bare, un, hok', r', q⟩ := h
    cases (show v = .bl true from q)
    cases (show u = Value.bool true from r')
    have key : ∀ b o, b ∉ ts.map (·.2) → s₁.heap.get? b = some o → s'.heap.get? b = some o := by
      intro b o nb e
      match q : H b with
      | none => exact un.keep b o e q (fun z => nomatch z) (fun z => nomatch z)
      | some u =>
        rcases hA b u q with ⟨_, xs, z⟩ | ⟨z, _⟩
        · rw [z] at q
          have e1 := (hok b _ q).1
          have e2 := (hok' b _ (un.frzs b _ _ q)).1
          rw [e] at e1
          cases e1
          exact e2
        · exact absurd z nb
    have grown : ∀ p ∈ ts, s'.heap.get? p.2 ≠ none ∧ (H p.2 = some (.tbl #[]) → ∃ more : Array Value, s'.heap.get? p.2 = some { cls := .none, data := .fields more }) := by
      intro p hp
      refine ⟨fun z => ?_, fun e => ?_⟩
      · obtain ⟨o', e'⟩ := un.there p.2 _ (hT p hp).2 (fun z => nomatch z)
        rw [z] at e'
        cases e'
      · obtain ⟨more, z⟩ := un.tbls p.2 #[] e
        exact ⟨_, hok' p.2 _ z⟩
    refine ⟨rfl, ⟨fun b o e => ?_, fun b o e => un.there b o e (fun z => nomatch z)⟩, os, bare⟩
    by_cases hb : b ∈ ts.map (·.2)
    · obtain ⟨p, hp, ep⟩ := List.mem_map.mp hb
      match q : H b with
      | none => exact Or.inl (un.keep b o e q (fun z => nomatch z) (fun z => nomatch z))
      | some u =>
        rcases hA b u q with ⟨z, _⟩ | ⟨_, z⟩
        · have t1 := tabObj b hb
          rw [z, ha] at t1
          cases t1
        · rw [z, ← ep] at q
          obtain ⟨more, hm⟩ := (grown p hp).2 q
          rw [← ep] at e ⊢
          rw [(hT p hp).2] at e
          cases e
          exact Or.inr (Or.inl ⟨((hT p hp).1.tab (hT p hp).2).isCodeTable, rfl, #[], more, rfl, by rw [Array.empty_append]; exact hm⟩)
    · exact Or.inl (key b o hb e)

theorem law_callT {vs : List Value} {ns : List Int} (KX : K.In s₁.heap) (g0 : s₁.heap.Ns mainGlobals mg) (b0 : s₁.heap.Ns builtinsNs mb)
    (bb : ∀ y : Str, y ≠ "__name__" → mb y = bootBuiltins y) (nl : s₁.heap.NoLimit) (ng : s₁.gens = #[])
    (hT : PySem.W.TabsAt ts s₁.heap) (nT : ∀ p ∈ ts, K.lookup p.2 = none)
    (hbm : ∃ (bm : Addr) (ob : Obj), mg "__builtins__" = some (.ref bm) ∧ bm ≠ builtinsNs ∧ s₁.heap.get? bm = some ob ∧ ob.cls = .type "module" ∧ ob.dict = some builtinsNs ∧ ob.data = .plain)
    (ha : s₁.heap.get? a = some { cls := .type "list", data := .seq vs.toArray }) (hi : IntsAre vs ns) (hl : ns.length ≤ sizeLine)
    (hr : Rm k callerA) (bd : ∀ (s : Shared) (u : Value), BindsTo s fd ⟨[u], []⟩ [(x, u)])
    (F : ∀ base : Heap, K.In base → base.Ns mainGlobals mg → (∀ p ∈ ts, LamX.TabB base mg p.1 p.2) → FnG P w K mg base CX k fa fd [x] sp)
    (hsp : ∀ H : Hp, (∀ p ∈ ts, H p.2 = some (.tbl #[])) → SqL K H a (ns.map V.int) → sp [.ref a] H (fun v _ => v = .bl true) fun _ _ _ => False)
    (hCX : ∀ H e s', CX [] H s₁ (fun _ _ _ => False) e s' → False) :
    codeAny (model P w) callerA (.call (.ref fa) ⟨[.ref a], []⟩) (Fine s₁) s₁ := by
  have rv := vals_ints hi
  have tabO : ∀ b, b ∈ ts.map (·.2) → s₁.heap.get? b = some { cls := .none, data := .fields #[] } := by
    intro b hb
    obtain ⟨p, hp, e⟩ := List.mem_map.mp hb
    rw [← e]
    exact (hT p hp).2
  have aT : a ∉ ts.map (·.2) := fun z => by
    have q := tabO a z
    rw [ha] at q
    cases q
  have mem : ∀ p ∈ ts, p.2 ∈ ts.map (·.2) := fun p hp => List.mem_map.mpr ⟨p, hp, rfl⟩
  let T : Hp := fun b => if b ∈ ts.map (·.2) then some (.tbl #[]) else none
  have T1 : ∀ {b}, b ∈ ts.map (·.2) → T b = some (.tbl #[]) := fun h => if_pos h
  have T0 : ∀ {b}, b ∉ ts.map (·.2) → T b = none := fun h => if_neg h
  match hk : K.lookup a with
  | some o =>
    have e := KX a o hk
    rw [ha] at e
    cases e
    have hS : SqL K T a (ns.map V.int) :=
      Or.inr ⟨_, vs.toArray, _, hk, rfl, rfl, rfl, by rw [List.size_toArray, hi.length]; exact hl, by simpa using rv⟩
    refine run_lawT T KX g0 b0 bb nl ng hT nT hbm ha hr bd F (fun b u z => ?_) (hsp _ (fun p hp => T1 (mem p hp)) hS) (fun b u z => ?_) (fun z => absurd (T0 aT) z) hCX
    · by_cases hb : b ∈ ts.map (·.2)
      · cases (T1 hb).symm.trans z
        exact Or.inr ⟨hb, rfl⟩
      · exact nomatch (T0 hb).symm.trans z
    · by_cases hb : b ∈ ts.map (·.2)
      · cases (T1 hb).symm.trans z
        exact tabO b hb
      · exact nomatch (T0 hb).symm.trans z
  | none =>
    let u : HO := .frz { cls := .type "list", data := .seq vs.toArray } (.lst (ns.map V.int))
    let H : Hp := fun b => if b = a then some u else T b
    have at_a : H a = some u := if_pos rfl
    have off : ∀ {b}, b ≠ a → H b = T b := fun h => if_neg h
    have hS : SqL K H a (ns.map V.int) := Or.inl (Or.inr ⟨_, at_a⟩)
    refine run_lawT H KX g0 b0 bb nl ng hT nT hbm ha hr bd F (fun b o z => ?_) (hsp _ (fun p hp => ?_) hS) (fun b o z => ?_) (fun _ => hk) hCX
    · by_cases hb : b = a
      · subst hb
        cases at_a.symm.trans z
        exact Or.inl ⟨rfl, _, rfl⟩
      · have z1 := (off hb).symm.trans z
        by_cases h2 : b ∈ ts.map (·.2)
        · cases (T1 h2).symm.trans z1
          exact Or.inr ⟨h2, rfl⟩
        · exact nomatch (T0 h2).symm.trans z1
    · rw [off (fun z => aT (by rw [← z]; exact mem p hp))]
      exact T1 (mem p hp)
    · by_cases hb : b = a
      · subst hb
        cases at_a.symm.trans z
        exact ⟨ha, by rw [List.length_map]; exact hl, vs, _, rv, ha⟩
      · have z1 := (off hb).symm.trans z
        by_cases h2 : b ∈ ts.map (·.2)
        · cases (T1 h2).symm.trans z1
          exact tabO b h2
        · exact nomatch (T0 h2).symm.trans z1
end

/-- what k_head leaves, from the law's promise: F gives the def, its tables and its promise -/
theorem walkT {l : PySem.W.OpenLaw} {n k : Nat} {q : Program} {loose : List Str} {XP : (Str → Option Value) → Heap → Prop} {YP : World → Heap → Prop}
    {d : DefRec} {K : Params → PySem.W.Frag} {CX : World → CXT} {x : Str}
    (hn : l.most = some n) (hn2 : n ≤ sizeLine) (hdf : d.params.defaults = []) (hr : Rm k callerA)
    (hY : ∀ (w : World) (h : Heap), YP w h → (K w.params).In h)
    (F : ∀ (w : World) (mg : Str → Option Value) (fa : Addr) (h : Heap), (K w.params).In h → h.Ns mainGlobals mg → mg d.name = some (.ref fa) →
      (∀ (y : Str) (e : DefRec) (c P : Addr), (PyProof.Rows.recsOf q).find? (fun r => r.name == y) = some e → PySem.W.tabIn (K w.params) y = some (c, P) →
        PySem.W.CodeHd h c P ∧ h.get? P = some (PySem.W.tabObj #[])) →
      ∃ (fd : FuncData) (ts : List (Addr × Addr)) (sp : Sp), PySem.W.TabsAt ts h ∧ (∀ p ∈ ts, (K w.params).lookup p.2 = none) ∧
        (∀ (s : Shared) (u : Value), BindsTo s fd ⟨[u], []⟩ [(x, u)]) ∧
        (∀ (H : Hp) (a : Addr) (ns : List Int), ns.length ≤ n → (∀ p ∈ ts, H p.2 = some (.tbl #[])) → SqL (K w.params) H a (ns.map V.int) →
          sp [.ref a] H (fun v _ => v = .bl true) fun _ _ _ => False) ∧
        ∀ base : Heap, (K w.params).In base → base.Ns mainGlobals mg → (∀ p ∈ ts, LamX.TabB base mg p.1 p.2) →
          FnG l.prog w (K w.params) mg base (CX w) k fa fd [x] sp)
    (hCX : ∀ (w : World) (H : Hp) (s : Shared) (e : Value) (s' : Shared), CX w [] H s (fun _ _ _ => False) e s' → False) :
    PySem.W.WalkO q loose XP YP l.row.toRowW d [] (fun f vs => PySem.call f vs) := by
  refine Att.attach_call hn hdf ?_
  intro w s₀ s₁ mg mb fa o pm cd doc a vs ns G Y ho hd hcd hmg hobj hints hlen hg
  have KX := hY w _ Y
  obtain ⟨fd, ts, sp, hT, nT, hb, hsp, hF⟩ := F w mg fa _ KX G.T.g hmg fun y e c P h1 h2 => PySem.W.tab_of G.T KX h1 h2
  exact law_callT KX G.T.g G.T.b G.T.builtins G.T.nolimit hg hT nT G.T.bmain hobj hints (Nat.le_trans hlen hn2) hr hb hF
    (fun H hH hS => hsp H a ns hlen hH hS) fun H e s' => hCX w H s₁ e s'
end My

/-! for i, x in enumerate(t), t a tuple -/
namespace My
open PySem PySem.Spec PyProof.Rows L2

theorem enum_new1 {v : Value} {o : Obj} {Hc : Heap → Prop} (B : Begins v o Hc) :
    Meets (Builtin.«enumerate.__new__» ⟨[.type "enumerate", v], []⟩) (fun _ R s => Hc s.heap ∧
      R (.ok (.ret (.ref (s.heap.push o).objs.size)))
        { s with heap := (s.heap.push o).push { cls := .type "enumerate", data := .fields #[.none, .bool false, .ref s.heap.objs.size, rawInt 0, .none, .none] } }) :=
  .of_wp fun prog w A R s hs => by
    obtain ⟨hp, g, d, tk, os⟩ := s
    obtain ⟨hv, hs⟩ := hs
    have hsub := sub_enumerate
    have it1 : ∀ {A' : Around} {E : Value → Shared → Prop} {Q : Value → Shared → Prop}, Q (.ref hp.objs.size) ⟨hp.push o, g, d, tk, os⟩ →
        wpAny (model prog w) A' (pyIter v) Q E ⟨hp, g, d, tk, os⟩ := fun q => B.iter prog w _ _ ⟨hp, g, d, tk, os⟩ _ hv q
    wp_walk using it1
    refine wpAny_stack_any fun st => wpAny_pure ?_
    split
    · rename_i c _ _ _ _ _
      cases (c == Value.type "enumerate")
      · wp_walk using it1
        exact Exists.intro _ (And.intro rfl hs)
      · wp_walk using it1
        exact Exists.intro _ (And.intro rfl hs)
    · wp_walk using it1
      exact Exists.intro _ (And.intro rfl hs)
section
variable {prog : Program} {w : World} {A : Around} {E : Value → Shared → Prop} {s : Shared}
theorem enum_call1 {v : Value} {o : Obj} {Hc : Heap → Prop} {Q : Value → Shared → Prop} (B : Begins v o Hc) (hv : Hc s.heap)
    (h : ∀ h', IsEnum h' (s.heap.objs.size + 1) s.heap.objs.size 0 .none → h'.get? s.heap.objs.size = some o → h'.objs.size = s.heap.objs.size + 2 →
      (∀ b u, s.heap.get? b = some u → h'.get? b = some u) → Q (.ref (s.heap.objs.size + 1)) { s with heap := h' }) :
    wpAny (model prog w) A (call (.type "enumerate") [v]) Q E s := by
  refine callType_new F.called_enumerate (by decide) (F.typeCall_enumerate_1 _) (F.newCall_enumerate_1 _) (fun obj => F.args_object_init_2 obj _)
    F.entry_enumerate_new (enum_new1 B) ⟨hv, ?_⟩
  have hz : (s.heap.push o).objs.size = s.heap.objs.size + 1 := Heap.size_push ..
  show _ ∧ _
  rw [hz]
  generalize ho2 : ({ cls := .type "enumerate", data := .fields #[.none, .bool false, .ref s.heap.objs.size, rawInt 0, .none, .none] } : Obj) = o2
  have he : ((s.heap.push o).push o2).get? (s.heap.objs.size + 1) = some o2 := by
    rw [← hz]
    exact Heap.get?_push_size _ (by rw [← ho2]; rfl)
  refine ⟨⟨o2, he, by rw [← ho2]⟩, h _ (by show Heap.get? _ _ = some _; rw [he, ← ho2]) ?_ (by rw [Heap.size_push, hz]) fun b u x => ?_⟩
  · exact Heap.get?_push_of_some _ (Heap.get?_push_size _ B.free)
  · exact Heap.get?_push_of_some _ (Heap.get?_push_of_some _ x)
end

/-- the turns: a new pair of the place and the item -/
def ItE (K : PySem.W.Frag) (a : Addr) : It :=
  ⟨fun i H => ∃ (xs : List V) (x : V), SqT K H a xs ∧ xs[i]? = some x,
    fun i H v H' => ∃ T x, v = .ref T ∧ H T = none ∧ H' = upd H T (.tup [.int (i : Nat), x]) ∧ ∀ xs, SqT K H a xs → xs[i]? = some x,
    fun i H => ∃ xs : List V, SqT K H a xs ∧ xs.length = i⟩
/-- the iterators' state -/
def EnSt (a e it : Addr) (i : Nat) (h : Heap) : Prop := (∃ old, IsEnum h e it (i : Int) old) ∧ h.IsTupleIter it a i ∧ e ≠ it
theorem turn_enT {P : Program} {w : World} {K : PySem.W.Frag} {elts : List Expr} {kk : Nat} {tpos : Pos} (a e it : Addr) (hea : a ≠ e) (hia : a ≠ it) :
    Turn P w K (.Tuple elts kk tpos) (ItE K a) [e, it] e (EnSt a e it) where
  mem := List.mem_cons_self
  obj := fun i h st b hb => by
    obtain ⟨⟨old, he⟩, ⟨o, ho, hc, hd⟩, _⟩ := st
    rcases List.mem_cons.mp hb with z | z
    · subst z
      exact ⟨_, he, fun v => nofun⟩
    · rw [List.mem_singleton.mp z]
      exact ⟨o, ho, fun v q => nomatch hd.symm.trans q⟩
  keep := fun i h h' st k => by
    obtain ⟨⟨old, he⟩, hi, hne⟩ := st
    exact ⟨⟨old, k e List.mem_cons_self _ he⟩, hi.at fun o q => k it (List.mem_cons_of_mem _ List.mem_cons_self) o q, hne⟩
  item := by
    intro X hP hw hK hc i pins s σ H E I hf st hg
    subst hP hw hK
    obtain ⟨⟨old, he⟩, hit, hne⟩ := st
    obtain ⟨xs, x, hq, hx⟩ := hg
    obtain ⟨its, rv, p, hz⟩ := I.tuple hq
    obtain ⟨u, hu, ru⟩ := rv.get hx
    have D := Draws.tuple (prog := X.prog) (w := X.w) (A := X.A.in1) (I.ok.hd hc) it a hia its.toArray
    have hi : i < its.toArray.size := by
      have := (List.getElem?_eq_some_iff.mp hu).1
      simpa using this
    have hel : e < s.heap.objs.size := Heap.lt_size he
    have hil : it < s.heap.objs.size := by
      obtain ⟨_, q, _⟩ := hit
      exact Heap.lt_size q
    have nef : e ∉ [it, a] := by
      intro z
      rcases List.mem_cons.mp z with z | z
      · exact hne z
      · exact hea (List.mem_singleton.mp z).symm
    refine wpAny_pyNext_enum_itemD D he ⟨hit, p⟩ hi hne nef fun y h' tk hy ho hst' hT hsz hk => ?_
    have ey : y = u := by
      have hy' : its[i]? = some y := by rw [← Array.getElem?_toList] at hy; exact hy
      exact Option.some.inj (hy'.symm.trans hu)
    subst ey
    refine ⟨_, rfl, wpAny_letOwnedTupleGo_enum (s := { s with heap := h', toks := tk + 1 }) ho fun h'' he' sb => ?_⟩
    have hT2 : h''.get? s.heap.objs.size = some { cls := .type "tuple", data := .seq #[.int i tk, y] } := (sb.2 _ (Nat.ne_of_gt hel)).trans hT
    have new : ObjOk X.prog X.w (upd H s.heap.objs.size (.tup [.int (i : Nat), x])) h'' s.heap.objs.size (.tup [.int (i : Nat), x]) :=
      ⟨by show 2 ≤ sizeLine; decide, [.int i tk, y], .cons ⟨_, rfl⟩ (.cons ru .nil), Exists.intro _ (And.intro hT2 ⟨rfl, _, rfl⟩)⟩
    have I1 : Inv X pins σ (upd H s.heap.objs.size (.tup [.int (i : Nat), x])) { s with heap := h'', toks := tk + 1 } :=
      I.turnedNew (ch := [e, it]) (fun b ob hb q => (sb.2 b (fun z => hb (z ▸ List.mem_cons_self))).trans
        (hk b ob (fun z => hb (z ▸ List.mem_cons_self)) (fun z => hb (z ▸ List.mem_cons_of_mem _ List.mem_cons_self)) q)) hf (Nat.le_refl _) new
    refine ⟨.ref s.heap.objs.size, _, I1, rfl, ⟨_, x, rfl, I.hok.fresh (Nat.le_refl _), rfl, fun ys h2 => by rw [I.tuple_inj h2 hq]; exact hx⟩, ⟨⟨y, ?_⟩, hst'.1.at fun o q => (sb.2 it (Ne.symm hne)).trans q, hne⟩, fun b hb => ?_⟩
    · rw [show ((i + 1 : Nat) : Int) = (i : Int) + 1 by omega]
      exact he'
    · have hb' : b < s.heap.objs.size := by
        rcases List.mem_cons.mp hb with z | z
        · rw [z]; exact hel
        · rw [List.mem_singleton.mp z]; exact hil
      rw [upd_ne (Nat.ne_of_lt hb')]
      exact (hf b hb).1
  done := by
    intro X hP hw hK hc i pins s σ H E I hf st hg
    subst hP hw hK
    obtain ⟨⟨old, he⟩, hit, hne⟩ := st
    obtain ⟨xs, hq, hx⟩ := hg
    obtain ⟨its, rv, p, hz⟩ := I.tuple hq
    have D := Draws.tuple (prog := X.prog) (w := X.w) (A := X.A.in1) (I.ok.hd hc) it a hia its.toArray
    obtain ⟨f0, f1, f2, f3, f4, f5⟩ := hf it (List.mem_cons_of_mem _ List.mem_cons_self)
    have el : i = its.toArray.size := by
      have := rv.length
      simp
      omega
    refine wpAny_pyNext_enum_endD D he ⟨el ▸ hit, p⟩ fun h' eb => ⟨rfl, ?_⟩
    exact I.turned (t' := s.toks) (fun b o hb q => eb b o hb q) f0 f1 f3 f4 f5
  self := fun A i s Q E st h => let ⟨⟨_, he⟩, _⟩ := st; wpAny_pyIter_enum he h
def iEnT (K : PySem.W.Frag) (te : TE) : TI := fun σ H R => te σ H fun v H1 => ∃ a xs, v = .ref a ∧ SqT K H1 a xs ∧ R (ItE K a) H1
theorem pi_enumT {X : Cx} {e : Expr} {te : TE} {p pos tpos : Pos} {elts : List Expr} {kk : Nat} (hg : Gl X "enumerate") (hm : X.mg "enumerate" = none) (ha : PE X e te)
    (hs : starEach [e] X.env = (false, eval e X.env) :: starEach [] X.env := by rfl) :
    PI X (.Tuple elts kk tpos) (.Call (.Name "enumerate" p) [e] [] pos) (iEnT X.K te) := by
  refine ⟨fun pins s σ H R I h => ?_⟩
  refine PyProof.Rows.Call_ (ld_blt I hg hm boot_enumerate (PyProof.Rows.callWith_type1 ?_ hs rfl))
  rw [hs]
  refine Calls.spliced_cons (thn (ha.run pins s σ H _ I h) fun u s1 hz => Calls.spliced_nil ?_)
  obtain ⟨v, H1, I1, r1, a, xs, ev, hq, q⟩ := hz
  subst ev
  cases r1
  obtain ⟨its, rv, p', _⟩ := I1.tuple hq
  refine enum_call1 (begins_tuple a its.toArray) p' fun h' he hit hsz hk => wpAny_pyIter_enum he ?_
  have I2 : Inv X pins σ H1 { s1 with heap := h' } := I1.kept (t' := s1.toks) hk
  have la : a < s1.heap.objs.size := p'.lt
  refine ⟨s1.heap.objs.size + 1, [s1.heap.objs.size + 1, s1.heap.objs.size], _, _, H1, rfl, I2,
    turn_enT a (s1.heap.objs.size + 1) s1.heap.objs.size (Nat.ne_of_lt (Nat.lt_succ_of_lt la)) (Nat.ne_of_lt la),
    ⟨⟨.none, he⟩, ⟨_, hit, rfl, rfl⟩, Nat.succ_ne_self _⟩, fun b hb => ?_, q⟩
  have hle : s1.heap.objs.size ≤ b := by
    rcases List.mem_cons.mp hb with z | z
    · rw [z]; exact Nat.le_add_right _ _
    · rw [List.mem_singleton.mp z]; exact Nat.le_refl _
  exact I1.fpOk hle (I1.hok.fresh hle)
theorem walk_enT {K : PySem.W.Frag} {a : Addr} {xs : List V} : L2.Walk (ItE K a) xs.length (fun H => SqT K H a xs)
    (fun i H v H' => ∃ T x, v = .ref T ∧ H T = none ∧ H' = upd H T (.tup [.int (i : Nat), x]) ∧ xs[i]? = some x) where
  goes := fun i H hi hG => ⟨xs, xs[i], hG, List.getElem?_eq_getElem hi⟩
  stops := fun H hG => ⟨xs, hG, rfl⟩
  yields := fun i H x H' _ hG y => by
    obtain ⟨T, z, e1, e2, e3, e4⟩ := y
    exact ⟨T, z, e1, e2, e3, e4 xs hG⟩
end My

/-! data in the heap, and how heaps go on -/
namespace My
open PySem PySem.Spec PyProof.Rows L2
open LamX (CodeO TabS ExtN)
open GxR (TabG Tabbed)

/-! ### operators by what their operands are -/
theorem OpR.either {X : Cx} {f : Value → Value → Sem Value} {r1 r2 : R2} (h1 : OpR X f r1) (h2 : OpR X f r2) :
    OpR X f (fun x y H Q => r1 x y H Q ∨ r2 x y H Q) := fun pins s σ H x y v u Q I rx ry h =>
  h.elim (h1 pins s σ H x y v u Q I rx ry) (h2 pins s σ H x y v u Q I rx ry)
theorem SlR.either {X : Cx} {r1 r2 : V → Option Int → Option Int → Hp → VK → Prop} (h1 : SlR X r1) (h2 : SlR X r2) :
    SlR X (fun x a b H Q => r1 x a b H Q ∨ r2 x a b H Q) := fun pins s σ H x v vl vu lo hi sl Q I rx hs pl pu h =>
  h.elim (h1 pins s σ H x v vl vu lo hi sl Q I rx hs pl pu) (h2 pins s σ H x v vl vu lo hi sl Q I rx hs pl pu)
section
variable {X : Cx} {k : Nat}
def rAddG (K : PySem.W.Frag) : R2 := fun x y H Q => rI0 (fun i j => .int (i + j)) x y H Q ∨ (rCat x y H Q ∨ (rCatA K x y H Q ∨
  ∃ i j, x = .str i ∧ y = .str j ∧ i.length + j.length ≤ sizeLine ∧ Q (.str (i ++ j)) H))
theorem op_addG : OpR X (binaryOp .Add) (rAddG X.K) := OpR.either op_add (OpR.either op_cat (OpR.either op_catA op_add_str))
def rMulG (K : PySem.W.Frag) : R2 := fun x y H Q => rI CMul (fun i j => .int (i * j)) x y H Q ∨ (rRep x y H Q ∨ rRepT K x y H Q)
theorem op_mulG : OpR X (binaryOp .Mult) (rMulG X.K) := OpR.either op_mul (OpR.either op_rep op_repT)
def rEqG (K : PySem.W.Frag) : R2 := fun x y H Q => rEq x y H Q ∨ rEqD K x y H Q
def rNeG (K : PySem.W.Frag) : R2 := fun x y H Q => rNe x y H Q ∨ rNeD K x y H Q
theorem op_eqG (hr : Rm k X.A) : OpR X (compareOp .Eq) (rEqG X.K) := OpR.either op_eq (op_eqD hr.r.units)
theorem op_neG (hr : Rm k X.A) : OpR X (compareOp .NotEq) (rNeG X.K) := OpR.either op_ne (op_neD hr.r.units)
def rIsG : R2 := fun x y H Q => (y = .non ∧ Q (.bl (decide (x = .non))) H) ∨ ((∃ a b, x = .ty a ∧ y = .ty b ∧ Q (.bl (decide (a = b))) H) ∨ rIsB x y H Q)
theorem op_isG : OpR X (compareOp .Is) rIsG := OpR.either op_isN (OpR.either op_isTyB op_isBl)
def rIsNotG : R2 := fun x y H Q => (y = .non ∧ Q (.bl (!decide (x = .non))) H) ∨ rNotB x y H Q
theorem op_isNotG : OpR X (compareOp .IsNot) rIsNotG := OpR.either op_notN op_notBl
def rSlG (K : PySem.W.Frag) : V → Option Int → Option Int → Hp → VK → Prop := fun x a b H Q => rSlL K x a b H Q ∨ rSlA K x a b H Q
theorem sl_seq : SlR X (rSlG X.K) := SlR.either sl_list sl_tupA
/-- what a for walks: a list or a tuple -/
def iSeq (K : PySem.W.Frag) (te : TE) : TI := fun σ H R => te σ H fun v H1 => ∃ a, v = .ref a ∧ (((∃ xs, SqL K H1 a xs) ∧ R (Itl K a) H1) ∨ ((∃ xs, SqT K H1 a xs) ∧ R (Itt K a) H1))
theorem pi_seq {tg l : Expr} {te : TE} (hl : PE X l te) : PI X tg l (iSeq X.K te) := by
  refine PI.mk fun pins s σ H R I h => thn (hl.run pins s σ H _ I h) fun v s1 hz => ?_
  obtain ⟨x, H1, I1, r1, a, ex, hz⟩ := hz
  subst ex
  cases r1
  have fp : ∀ b ∈ [s1.heap.objs.size], FpOk X pins H1 b := fun b hb => by
    cases List.mem_singleton.mp hb
    exact I1.fpOk (Nat.le_refl _) (I1.hok.fresh (Nat.le_refl _))
  rcases hz with ⟨⟨xs, hq⟩, q⟩ | ⟨⟨xs, hq⟩, q⟩
  · obtain ⟨its, _, p, _⟩ := I1.list hq
    exact wpAny_pyIter_list p.isList ⟨_, _, _, _, H1, rfl, I1.kept (t' := s1.toks) fun b o e => Heap.get?_push_of_some _ e, turn_list a _, ⟨_, Heap.get?_push_size _ rfl, rfl, rfl⟩, fp, q⟩
  · obtain ⟨its, _, p, _⟩ := I1.tuple hq
    exact wpAny_pyIter_tuple (show s1.heap.IsTuple a its.toArray from p) ⟨_, _, _, _, H1, rfl, I1.kept (t' := s1.toks) fun b o e => Heap.get?_push_of_some _ e, turn_tuple a _, ⟨_, Heap.get?_push_size _ rfl, rfl, rfl⟩, fp, q⟩
end
/-! the same with the written part named -/
section
variable {X : Cx} {K : PySem.W.Frag} {k : Nat}
theorem ix_K (h : X.K = K := by rfl) : IxR X (rIx K) := h ▸ ix_seq
theorem sl_K (h : X.K = K := by rfl) : SlR X (rSlG K) := h ▸ sl_seq
theorem op_addK (h : X.K = K := by rfl) : OpR X (binaryOp .Add) (rAddG K) := h ▸ op_addG
theorem op_mulK (h : X.K = K := by rfl) : OpR X (binaryOp .Mult) (rMulG K) := h ▸ op_mulG
theorem op_eqK (hr : Rm k X.A) (h : X.K = K := by rfl) : OpR X (compareOp .Eq) (rEqG K) := h ▸ op_eqG hr
theorem op_neK (hr : Rm k X.A) (h : X.K = K := by rfl) : OpR X (compareOp .NotEq) (rNeG K) := h ▸ op_neG hr
theorem op_inK (h : X.K = K := by rfl) : OpR X (compareOp .In) (rIn K false) := h ▸ op_in_seq
theorem op_notInK (h : X.K = K := by rfl) : OpR X (compareOp .NotIn) (rIn K true) := h ▸ op_notIn_seq
def rLenK (K : PySem.W.Frag) : List V → Hp → VK → Prop := fun xs H Q => ∃ p ys, xs = [.ref p] ∧ (SqL K H p ys ∨ SqT K H p ys) ∧ Q (.int ys.length) H
theorem call_lenK (h : X.K = K := by rfl) : CallR X (.builtin "len") (rLenK K) := h ▸ call_len_seq
def rListK (K : PySem.W.Frag) : List V → Hp → VK → Prop := fun xs H Q => ∃ p ys, xs = [.ref p] ∧ (SqL K H p ys ∨ SqT K H p ys) ∧ ∀ l, H l = none → Q (.ref l) (upd H l (.lst ys))
theorem call_listK (h : X.K = K := by rfl) : CallR X (.type "list") (rListK K) := h ▸ call_list_of
def rTupleK (K : PySem.W.Frag) : List V → Hp → VK → Prop := fun xs H Q => ∃ p ys, xs = [.ref p] ∧ ((SqL K H p ys ∧ ∀ l, H l = none → Q (.ref l) (upd H l (.tup ys))) ∨ (SqT K H p ys ∧ Q (.ref p) H))
theorem call_tupleK (h : X.K = K := by rfl) : CallR X (.type "tuple") (rTupleK K) := h ▸ call_tuple_of
theorem call_reprK (hr : Rm k X.A) (h : X.K = K := by rfl) : CallR X (.builtin "repr") (rReprD K) := h ▸ call_reprD hr
theorem call_typeK (h : X.K = K := by rfl) : CallR X (.type "type") (rTyp K) := h ▸ call_type1
theorem call_allK (hc : X.calm = true) (h : X.K = K := by rfl) : CallR X (.builtin "all") (rAll K) := h ▸ cr_all hc
theorem call_sumK (hc : X.calm = true) (h : X.K = K := by rfl) : CallR X (.builtin "sum") (rSum K) := h ▸ cr_sum hc
theorem call_maxK (hc : X.calm = true) (h : X.K = K := by rfl) : CallR X (.builtin "max") (rMax K) := h ▸ cr_max hc
theorem pi_K {tg l : Expr} {te : TE} (hl : PE X l te) (h : X.K = K := by rfl) : PI X tg l (iSeq K te) := h ▸ pi_seq hl
theorem pi_enK {e : Expr} {te : TE} {p pos tpos : Pos} {elts : List Expr} {kk : Nat} (hg : Gl X "enumerate") (hm : X.mg "enumerate" = none) (ha : PE X e te)
    (hs : starEach [e] X.env = (false, eval e X.env) :: starEach [] X.env := by rfl) (h : X.K = K := by rfl) :
    PI X (.Tuple elts kk tpos) (.Call (.Name "enumerate" p) [e] [] pos) (iEnT K te) := h ▸ pi_enumT hg hm ha hs
end
/-- a module's constant number -/
def Con1 (mg : Str → Option Value) (x : Str) (v : V) : Prop := ∃ u, mg x = some u ∧ RelV v u
theorem pe_gcon {X : Cx} {x : Str} {v : V} {pos : Pos} (h : Con1 X.mg x v) (hg : Gl X x) (hd : (x == ("__debug__" : Str)) = false := by decide) : PE X (.Name x pos) (tC v) := by
  obtain ⟨u, e, r⟩ := h
  exact pe_glob hg e r hd

/-! ### how heaps go on -/
/-- the tables of code objects -/
structure Ct where
  G : List Addr
  T : List (Addr × Str)
structure Gd (c : Ct) (H : Hp) : Prop where
  g : ∀ P ∈ c.G, TabG H P
  t : ∀ p ∈ c.T, TabS H p.1 p.2
/-- what stood stands, but for tables and what may change -/
structure Sm (c : Ct) (M : List Addr) (H H' : Hp) : Prop where
  ex : ∀ b o, b ∉ M → H b = some o → (∀ ps, o ≠ .tbl ps) → H' b = some o
  st : ∀ b, H b ≠ none → H' b ≠ none
  gd : Gd c H → Gd c H'
section
variable {c : Ct} {M M' : List Addr} {H H1 H2 H' : Hp} {p l : Addr} {o : HO}
theorem Sm.refl : Sm c M H H := ⟨fun _ _ _ e _ => e, fun _ e => e, fun g => g⟩
theorem Sm.trans (a : Sm c M H H1) (b : Sm c M H1 H2) : Sm c M H H2 :=
  ⟨fun x u n e t => b.ex x u n (a.ex x u n e t) t, fun x e => b.st x (a.st x e), fun g => b.gd (a.gd g)⟩
theorem Sm.sub (a : Sm c M H H1) (h : ∀ x ∈ M, x ∈ M') : Sm c M' H H1 := ⟨fun x u n => a.ex x u fun z => n (h x z), a.st, a.gd⟩
theorem Sm.any (a : Sm c [] H H1) : Sm c M H H1 := a.sub fun _ h => nomatch h
theorem Sm.fresh (a : Sm c M H H1) (h : H1 p = none) : H p = none := Classical.byContradiction fun z => a.st p z h
theorem Gd.of_all (g : Gd c H) (h : ∀ b u, H b = some u → H' b = some u) : Gd c H' :=
  ⟨fun P hP => let ⟨ps, e, t⟩ := g.g P hP; ⟨ps, h _ _ e, t⟩, fun q hq => (g.t q hq).ext h⟩
theorem Sm.of_all (h : ∀ b u, H b = some u → H' b = some u) : Sm c M H H' :=
  Sm.mk (fun b u _ e _ => h b u e) (fun b e z => (by
    match q : H b with
    | none => exact e q
    | some u => exact nomatch (h b u q).symm.trans z)) fun g => g.of_all h
theorem Sm.new (hp : H p = none) : Sm c M H (upd H p o) := Sm.of_all fun b u e => by rw [upd_ne (ne_of_none e hp)]; exact e
theorem Sm.ext (a : Sm c [] H H') : ExtN H H' := fun b o e n => a.ex b o (fun z => nomatch z) e n
/-- a list that may change is changed -/
theorem Sm.put {xs ys : List V} (hl : l ∈ M) (h : H l = some (.lst xs)) : Sm c M H (upd H l (.lst ys)) := by
  have off : ∀ b u, H b = some u → (∀ zs, u ≠ .lst zs) → upd H l (.lst ys) b = some u := fun b u e n => by
    rw [upd_ne (fun z => n xs (by rw [z, h] at e; exact (Option.some.inj e).symm))]
    exact e
  refine ⟨fun b u n e _ => by rw [upd_ne (fun z => n (by rw [z]; exact hl))]; exact e, fun b e z => ?_, fun g => ⟨fun P hP => ?_, fun q hq => ?_⟩⟩
  · by_cases hb : b = l
    · rw [hb, upd_same] at z
      cases z
    · rw [upd_ne hb] at z
      exact e z
  · obtain ⟨ps, e, t⟩ := g.g P hP
    exact ⟨ps, off _ _ e nofun, t⟩
  · obtain ⟨ps, e, t, a⟩ := g.t q hq
    refine ⟨ps, off _ _ e nofun, t, fun pos cv hc => ?_⟩
    obtain ⟨c0, e1, e2⟩ := a pos cv hc
    exact ⟨c0, e1, off _ _ e2 (fun zs z => by unfold CodeO at z; cases z)⟩
/-- what may change was made behind H: so it is nothing to H -/
theorem Sm.out (a : Sm c (l :: M) H H') (hl : H l = none) : Sm c M H H' :=
  ⟨fun b u n e t => a.ex b u (fun z => by
    rcases List.mem_cons.mp z with z | z
    · rw [z, hl] at e
      cases e
    · exact n z) e t, a.st, a.gd⟩
theorem Sm.tabbed {P : Addr} (h : Tabbed P H H') (hP : H P ≠ none) (n : ∀ q ∈ c.T, q.1 ≠ P) (d : ∀ ps, H P = some (.tbl ps) → True) (ht : ∃ ps, H P = some (.tbl ps)) : Sm c M H H' := by
  obtain ⟨ps0, e0⟩ := ht
  have off : ∀ b u, H b = some u → (∀ ps, u ≠ .tbl ps) → H' b = some u := fun b u e t => by
    rw [h.2 b (fun z => t ps0 (by rw [z, e0] at e; exact (Option.some.inj e).symm))]
    exact e
  refine ⟨fun b u _ e t => off b u e t, fun b e z => ?_, fun g => ⟨fun R hR => ?_, fun q hq => ?_⟩⟩
  · by_cases hb : b = P
    · obtain ⟨ps, e, _⟩ := h.1
      rw [hb, e] at z
      cases z
    · rw [h.2 b hb] at z
      exact e z
  · by_cases hb : R = P
    · rw [hb]
      exact h.1
    · obtain ⟨ps, e, t⟩ := g.g R hR
      exact ⟨ps, by rw [h.2 R hb]; exact e, t⟩
  · obtain ⟨ps, e, t, a⟩ := g.t q hq
    refine ⟨ps, by rw [h.2 _ (n q hq)]; exact e, t, fun pos cv hc => ?_⟩
    obtain ⟨c0, e1, e2⟩ := a pos cv hc
    exact ⟨c0, e1, off _ _ e2 (fun zs z => by unfold CodeO at z; cases z)⟩
end

/-! ### data -/
mutual
/-- v is the data d, nothing of which may change (M: what may) -/
inductive Dq (M : List Addr) (H : Hp) : V → PyData → Prop
  | non : Dq M H .non .none
  | bl (b : Bool) : Dq M H (.bl b) (.bool b)
  | int (i : Int) : Dq M H (.int i) (.int i)
  | str (x : Str) : Dq M H (.str x) (.str x)
  | lst {a : Addr} {xs : List V} {ds : List PyData} : a ∉ M → H a = some (.lst xs) → Dqs M H xs ds → Dq M H (.ref a) (.list ds)
  | tup {a : Addr} {xs : List V} {ds : List PyData} : a ∉ M → H a = some (.tup xs) → Dqs M H xs ds → Dq M H (.ref a) (.tuple ds)
  | dct {a : Addr} : a ∉ M → H a = some (.dK []) → Dq M H (.ref a) (.dict [])
inductive Dqs (M : List Addr) (H : Hp) : List V → List PyData → Prop
  | nil : Dqs M H [] []
  | cons {v : V} {vs : List V} {d : PyData} {ds : List PyData} : Dq M H v d → Dqs M H vs ds → Dqs M H (v :: vs) (d :: ds)
end
section
variable {c : Ct} {M M' : List Addr} {H H' : Hp}
mutual
theorem Dq.map (h : ∀ a o, a ∉ M → H a = some o → (∀ ps, o ≠ .tbl ps) → a ∉ M' ∧ H' a = some o) : ∀ {v : V} {d : PyData}, Dq M H v d → Dq M' H' v d
  | _, _, .non => .non
  | _, _, .bl b => .bl b
  | _, _, .int i => .int i
  | _, _, .str x => .str x
  | _, _, .lst n e r => let z := h _ _ n e nofun; .lst z.1 z.2 (Dqs.map h r)
  | _, _, .tup n e r => let z := h _ _ n e nofun; .tup z.1 z.2 (Dqs.map h r)
  | _, _, .dct n e => let z := h _ _ n e nofun; .dct z.1 z.2
theorem Dqs.map (h : ∀ a o, a ∉ M → H a = some o → (∀ ps, o ≠ .tbl ps) → a ∉ M' ∧ H' a = some o) : ∀ {vs : List V} {ds : List PyData}, Dqs M H vs ds → Dqs M' H' vs ds
  | _, _, .nil => .nil
  | _, _, .cons x r => .cons (Dq.map h x) (Dqs.map h r)
end
theorem Dq.sm {v : V} {d : PyData} (s : Sm c M H H') (x : Dq M H v d) : Dq M H' v d := x.map fun a o n e t => ⟨n, s.ex a o n e t⟩
theorem Dqs.sm {v : List V} {d : List PyData} (s : Sm c M H H') (x : Dqs M H v d) : Dqs M H' v d := x.map fun a o n e t => ⟨n, s.ex a o n e t⟩
theorem Dq.wk {v : V} {d : PyData} {l : Addr} (hl : H l = none) (x : Dq M H v d) : Dq (l :: M) H v d := x.map fun a o n e _ => ⟨fun z => by
  rcases List.mem_cons.mp z with z | z
  · rw [z, hl] at e
    cases e
  · exact n z, e⟩
theorem Dqs.wk {v : List V} {d : List PyData} {l : Addr} (hl : H l = none) (x : Dqs M H v d) : Dqs (l :: M) H v d := x.map fun a o n e _ => ⟨fun z => by
  rcases List.mem_cons.mp z with z | z
  · rw [z, hl] at e
    cases e
  · exact n z, e⟩
theorem Dq.sub {v : V} {d : PyData} (h : ∀ x ∈ M', x ∈ M) (x : Dq M H v d) : Dq M' H v d := x.map fun a o n e _ => ⟨fun z => n (h a z), e⟩
theorem Dqs.sub {v : List V} {d : List PyData} (h : ∀ x ∈ M', x ∈ M) (x : Dqs M H v d) : Dqs M' H v d := x.map fun a o n e _ => ⟨fun z => n (h a z), e⟩
theorem Dqs.length : ∀ {vs : List V} {ds : List PyData}, Dqs M H vs ds → vs.length = ds.length
  | _, _, .nil => rfl
  | _, _, .cons _ r => congrArg (· + 1) r.length
theorem Dqs.get : ∀ {vs : List V} {ds : List PyData} {i : Nat} {d : PyData}, Dqs M H vs ds → ds[i]? = some d → ∃ v, vs[i]? = some v ∧ Dq M H v d
  | _, _, 0, _, .cons x _, e => ⟨_, rfl, by cases e; exact x⟩
  | _, _, i + 1, _, .cons _ r, e => by simpa using Dqs.get (i := i) r (by simpa using e)
theorem Dqs.getV : ∀ {vs : List V} {ds : List PyData} {i : Nat} {v : V}, Dqs M H vs ds → vs[i]? = some v → ∃ d, ds[i]? = some d ∧ Dq M H v d
  | _, _, 0, _, .cons x _, e => ⟨_, rfl, by cases e; exact x⟩
  | _, _, i + 1, _, .cons _ r, e => by simpa using Dqs.getV (i := i) r (by simpa using e)
theorem Dqs.append : ∀ {vs ws : List V} {ds es : List PyData}, Dqs M H vs ds → Dqs M H ws es → Dqs M H (vs ++ ws) (ds ++ es)
  | _, _, _, _, .nil, r => r
  | _, _, _, _, .cons x q, r => .cons x (q.append r)
theorem Dqs.snoc {vs : List V} {ds : List PyData} {v : V} {d : PyData} (a : Dqs M H vs ds) (b : Dq M H v d) : Dqs M H (vs ++ [v]) (ds ++ [d]) := a.append (.cons b .nil)
theorem Dqs.ints : ∀ (ns : List Int), Dqs M H (ns.map V.int) (ns.map PyData.int)
  | [] => .nil
  | n :: r => .cons (.int n) (Dqs.ints r)
mutual
theorem Dq.dp {K : PySem.W.Frag} : ∀ {v : V} {d : PyData}, d.hasDict = false → Dq M H v d → Dp K H v d
  | _, _, _, .non => .non
  | _, _, _, .bl b => .bl b
  | _, _, _, .int i => .int i
  | _, _, _, .str x => .str x
  | _, _, h, .lst _ e r => .lst (SqL.of e) (Dqs.dp (by simpa [PyData.hasDict] using h) r)
  | _, _, h, .tup _ e r => .tup (SqT.of e) (Dqs.dp (by simpa [PyData.hasDict] using h) r)
  | _, _, h, .dct _ _ => by simp [PyData.hasDict] at h
theorem Dqs.dp {K : PySem.W.Frag} : ∀ {vs : List V} {ds : List PyData}, PyData.hasDictAll ds = false → Dqs M H vs ds → DpAll K H vs ds
  | _, _, _, .nil => .nil
  | _, _, h, .cons x r => by
    simp only [PyData.hasDictAll, Bool.or_eq_false_iff] at h
    exact .cons (Dq.dp h.1 x) (Dqs.dp h.2 r)
end
/-- the type's name -/
def tyName : PyData → String
  | .none => "NoneType"
  | .bool _ => "bool"
  | .int _ => "int"
  | .str _ => "str"
  | .list _ => "list"
  | .tuple _ => "tuple"
  | .dict _ => "dict"
theorem Dq.ty {K : PySem.W.Frag} {v : V} {d : PyData} (x : Dq M H v d) : TyB K H v (tyName d) := by
  cases x with
  | non => exact .non
  | bl b => exact .bl b
  | int i => exact .int i
  | str z => exact .str z
  | lst _ e _ => exact .lst (SqL.of e)
  | tup _ e _ => exact .tup (SqT.of e)
  | dct _ e => exact .dK e
theorem Dq.tup_inv {v : V} {ds : List PyData} (x : Dq M H v (.tuple ds)) : ∃ a xs, v = .ref a ∧ a ∉ M ∧ H a = some (.tup xs) ∧ Dqs M H xs ds := by
  cases x with
  | tup n e r => exact ⟨_, _, rfl, n, e, r⟩
theorem Dq.lst_inv {v : V} {ds : List PyData} (x : Dq M H v (.list ds)) : ∃ a xs, v = .ref a ∧ a ∉ M ∧ H a = some (.lst xs) ∧ Dqs M H xs ds := by
  cases x with
  | lst n e r => exact ⟨_, _, rfl, n, e, r⟩
theorem Dq.int_inv {v : V} {i : Int} (x : Dq M H v (.int i)) : v = .int i := by
  cases x
  rfl
end
end My

/-! promises over data; the nets -/
namespace My
open PySem PySem.Spec PyProof.Rows L2
open LamX (CodeO TabS ExtN)
open GxR (TabG Tabbed)

/-- a promise over data: pre tells the answer -/
def spD (c : Ct) (pre : List PyData → PyData → Prop) : Sp := fun vs H Q _ => ∃ (M : List Addr) (ds : List PyData) (d : PyData),
  Gd c H ∧ (∀ m ∈ M, H m ≠ none) ∧ Dqs M H vs ds ∧ pre ds d ∧ ∀ v H', Sm c [] H H' → Dq M H' v d → Q v H'
theorem spD_len {c : Ct} {pre : List PyData → PyData → Prop} {n : Nat} (h : ∀ ds d, pre ds d → ds.length = n) : ∀ vs H Q E, spD c pre vs H Q E → vs.length = n := by
  rintro vs H Q E ⟨M, ds, d, _, _, a, p, _⟩
  exact a.length.trans (h _ _ p)
theorem Dqs.inv1 {M : List Addr} {H : Hp} {vs : List V} {d : PyData} (x : Dqs M H vs [d]) : ∃ v, vs = [v] ∧ Dq M H v d := by
  cases x with
  | cons a r => cases r; exact ⟨_, rfl, a⟩
theorem Dqs.inv2 {M : List Addr} {H : Hp} {vs : List V} {d e : PyData} (x : Dqs M H vs [d, e]) : ∃ v w, vs = [v, w] ∧ Dq M H v d ∧ Dq M H w e := by
  cases x with
  | cons a r =>
    obtain ⟨w, rfl, b⟩ := r.inv1
    exact ⟨_, _, rfl, a, b⟩
theorem Dqs.inv3 {M : List Addr} {H : Hp} {vs : List V} {d e f : PyData} (x : Dqs M H vs [d, e, f]) : ∃ v w u, vs = [v, w, u] ∧ Dq M H v d ∧ Dq M H w e ∧ Dq M H u f := by
  cases x with
  | cons a r =>
    obtain ⟨w, u, rfl, b, c⟩ := r.inv2
    exact ⟨_, _, _, rfl, a, b, c⟩
theorem Dqs.one {M : List Addr} {H : Hp} {v : V} {d : PyData} (a : Dq M H v d) : Dqs M H [v] [d] := .cons a .nil
theorem Dqs.two {M : List Addr} {H : Hp} {v w : V} {d e : PyData} (a : Dq M H v d) (b : Dq M H w e) : Dqs M H [v, w] [d, e] := .cons a (.one b)
theorem Dqs.three {M : List Addr} {H : Hp} {v w u : V} {d e f : PyData} (a : Dq M H v d) (b : Dq M H w e) (x : Dq M H u f) : Dqs M H [v, w, u] [d, e, f] := .cons a (.two b x)
theorem dq_new {M : List Addr} {H : Hp} {p : Addr} {xs : List V} {ds : List PyData} (hM : ∀ m ∈ M, H m ≠ none) (hp : H p = none) (x : Dqs M H xs ds) : Dq M (upd H p (.tup xs)) (.ref p) (.tuple ds) :=
  .tup (fun z => hM p z hp) upd_same (x.sm (c := ⟨[], []⟩) (Sm.new hp))
theorem dq_newL {M : List Addr} {H : Hp} {p : Addr} {xs : List V} {ds : List PyData} (hM : ∀ m ∈ M, H m ≠ none) (hp : H p = none) (x : Dqs M H xs ds) : Dq M (upd H p (.lst xs)) (.ref p) (.list ds) :=
  .lst (fun z => hM p z hp) upd_same (x.sm (c := ⟨[], []⟩) (Sm.new hp))

/-! ### whole numbers, rows, nets -/
def wholeD (d : PyData) (l m : Int) : Bool := match d with
  | .int i => decide (l ≤ i) && decide (i ≤ m)
  | _ => false
def rowD (d : PyData) (l m : Int) : Bool := match d with
  | .tuple xs => decide (l ≤ (xs.length : Int)) && decide ((xs.length : Int) ≤ m)
  | _ => false
def wiresD (ds : List PyData) (m : Int) : Bool := ds.all fun d => wholeD d 0 (m - 1)
theorem wholeV_D {M : List Addr} {H : Hp} {v : V} {d : PyData} (x : Dq M H v d) (l m : Int) : wholeV v l m = wholeD d l m := by
  cases x <;> rfl
theorem wiresV_D {M : List Addr} {H : Hp} {l m : Int} : ∀ {vs : List V} {ds : List PyData}, Dqs M H vs ds → (vs.all fun v => wholeV v l m) = ds.all fun d => wholeD d l m
  | _, _, .nil => rfl
  | _, _, .cons x r => by rw [List.all_cons, List.all_cons, wholeV_D x, wiresV_D r]
/-- the boxes from the t-th one on are pairs of earlier wires -/
def boxesD (n : Int) : Nat → List PyData → Bool
  | _, [] => true
  | t, .tuple [a, b] :: r => wiresD [a, b] (n + (t : Int)) && boxesD n (t + 1) r
  | _, _ :: _ => false
def isNetD (d : PyData) : Bool := match d with
  | .tuple [.int n, .tuple bs, .tuple es] =>
    (decide (1 ≤ n) && decide (n ≤ 12)) && (decide ((bs.length : Int) ≤ 60) && (decide (1 ≤ (es.length : Int)) && decide ((es.length : Int) ≤ 24))) && (boxesD n 0 bs && wiresD es (n + (bs.length : Int)))
  | _ => false
end My
namespace My
open PySem PySem.Spec PyProof.Rows L2
theorem Dq.bool_inv {M : List Addr} {H : Hp} {v : V} {b : Bool} (x : Dq M H v (.bool b)) : v = .bl b := by
  cases x
  rfl
theorem Dq.none_inv {M : List Addr} {H : Hp} {v : V} (x : Dq M H v .none) : v = .non := by
  cases x
  rfl
theorem rowD3 {x : PyData} (h : rowD x 3 3 = true) : ∃ a b c, x = .tuple [a, b, c] := by
  cases x with
  | tuple xs =>
    simp only [rowD, Bool.and_eq_true, decide_eq_true_eq] at h
    match xs, h with
    | [a, b, c], _ => exact ⟨a, b, c, rfl⟩
    | [], h => simp at h
    | [_], h => simp at h
    | [_, _], h => simp at h
    | _ :: _ :: _ :: _ :: _, h => simp at h; omega
  | _ => simp [rowD] at h
theorem rowD2 {x : PyData} (h : rowD x 2 2 = true) : ∃ a b, x = .tuple [a, b] := by
  cases x with
  | tuple xs =>
    simp only [rowD, Bool.and_eq_true, decide_eq_true_eq] at h
    match xs, h with
    | [a, b], _ => exact ⟨a, b, rfl⟩
    | [], h => simp at h
    | [_], h => simp at h
    | _ :: _ :: _ :: _, h => simp at h; omega
  | _ => simp [rowD] at h
theorem wholeD_int {x : PyData} {l m : Int} (h : wholeD x l m = true) : ∃ i, x = .int i ∧ l ≤ i ∧ i ≤ m := by
  cases x with
  | int i => simp only [wholeD, Bool.and_eq_true, decide_eq_true_eq] at h; exact ⟨i, rfl, h⟩
  | _ => simp [wholeD] at h
theorem rowD_tup {x : PyData} {l m : Int} (h : rowD x l m = true) : ∃ xs, x = .tuple xs ∧ l ≤ (xs.length : Int) ∧ (xs.length : Int) ≤ m := by
  cases x with
  | tuple xs => simp only [rowD, Bool.and_eq_true, decide_eq_true_eq] at h; exact ⟨xs, rfl, h⟩
  | _ => simp [rowD] at h
theorem isNet_row {x : PyData} (h : rowD x 3 3 = false) : isNetD x = false := by
  unfold isNetD
  split
  · simp [rowD] at h
  · rfl
theorem isNet_places {a b c : PyData} (h : wholeD a 1 12 = false) : isNetD (.tuple [a, b, c]) = false := by
  unfold isNetD
  split
  · rename_i e
    cases e
    simp only [wholeD] at h
    rw [h, Bool.false_and, Bool.false_and]
  · rfl
theorem isNet_rows {n : Int} {b c : PyData} (h : (rowD b 0 60 && rowD c 1 24) = false) : isNetD (.tuple [.int n, b, c]) = false := by
  unfold isNetD
  split
  · rename_i bs es e
    cases e
    simp only [rowD] at h
    have h' : (decide ((bs.length : Int) ≤ 60) && (decide (1 ≤ (es.length : Int)) && decide ((es.length : Int) ≤ 24))) = false := by
      rw [← h, decide_eq_true (show (0 : Int) ≤ (bs.length : Int) by omega), Bool.true_and]
    rw [h', Bool.and_false, Bool.false_and]
  · rfl
theorem isNet_wires {n : Int} {bs es : List PyData} (h1 : wholeD (.int n) 1 12 = true) (h2 : rowD (.tuple bs) 0 60 = true) (h3 : rowD (.tuple es) 1 24 = true) :
    isNetD (.tuple [.int n, .tuple bs, .tuple es]) = (boxesD n 0 bs && wiresD es (n + (bs.length : Int))) := by
  simp only [wholeD, rowD, Bool.and_eq_true, decide_eq_true_eq] at h1 h2 h3
  simp only [isNetD]
  rw [decide_eq_true h1.1, decide_eq_true h1.2, decide_eq_true h2.2, decide_eq_true h3.1, decide_eq_true h3.2]
  rfl
/-- one more box -/
theorem boxesD_step {n : Int} {t : Nat} {x : PyData} {r : List PyData} (h : rowD x 2 2 = false ∨ ∃ ys, x = .tuple ys ∧ ys.length = 2 ∧ wiresD ys (n + (t : Int)) = false) : boxesD n t (x :: r) = false := by
  unfold boxesD
  split
  · rename_i e
    cases e
  · rename_i e
    cases e
    rcases h with h | ⟨ys, e, _, h⟩
    · simp [rowD] at h
    · cases e
      rw [h, Bool.false_and]
  · rfl
theorem boxesD_ok {n : Int} {t : Nat} {a b : PyData} {r : List PyData} (h : wiresD [a, b] (n + (t : Int)) = true) : boxesD n t (.tuple [a, b] :: r) = boxesD n (t + 1) r := by
  show (wiresD [a, b] (n + (t : Int)) && boxesD n (t + 1) r) = _
  rw [h, Bool.true_and]
end My
namespace My
open PySem PySem.Spec PyProof.Rows L2
/-! ### nets, typed -/
def nI (k : Nat) : PyData := .int (k : Int)
def encB (b : Nat × Nat) : PyData := .tuple [nI b.1, nI b.2]
def encW (w : List Nat) : PyData := .tuple (w.map nI)
def encNet (n : Nat) (bs : List (Nat × Nat)) (es : List Nat) : PyData := .tuple [nI n, .tuple (bs.map encB), encW es]
/-- the boxes from the t-th one on are of earlier wires -/
def boxOk (n : Nat) : Nat → List (Nat × Nat) → Prop
  | _, [] => True
  | t, b :: r => b.1 < n + t ∧ b.2 < n + t ∧ boxOk n (t + 1) r
structure NetOk (n : Nat) (bs : List (Nat × Nat)) (es : List Nat) : Prop where
  n1 : 1 ≤ n
  n2 : n ≤ 12
  b : bs.length ≤ 60
  e1 : 1 ≤ es.length
  e2 : es.length ≤ 24
  bx : boxOk n 0 bs
  ew : ∀ e ∈ es, e < n + bs.length
theorem wholeD_nI {k : Nat} {m : Int} : wholeD (nI k) 0 (m - 1) = decide ((k : Int) < m) := by
  show (decide ((0 : Int) ≤ (k : Int)) && decide ((k : Int) ≤ m - 1)) = _
  rw [decide_eq_true (show (0 : Int) ≤ (k : Int) by omega), Bool.true_and]
  by_cases h : (k : Int) < m
  · rw [decide_eq_true h, decide_eq_true (by omega)]
  · rw [decide_eq_false h, decide_eq_false (by omega)]
theorem boxesD_ok' {n : Nat} : ∀ {bs : List (Nat × Nat)} {t : Nat}, boxOk n t bs → boxesD (n : Int) t (bs.map encB) = true
  | [], _, _ => rfl
  | b :: r, t, h => by
    obtain ⟨h1, h2, h3⟩ := h
    show (wiresD [nI b.1, nI b.2] ((n : Int) + (t : Int)) && boxesD (n : Int) (t + 1) (r.map encB)) = true
    rw [boxesD_ok' h3, Bool.and_true]
    unfold wiresD
    simp only [List.all_cons, List.all_nil, Bool.and_true, wholeD_nI, Bool.and_eq_true, decide_eq_true_eq]
    omega
theorem isNetD_of {n : Nat} {bs : List (Nat × Nat)} {es : List Nat} (h : NetOk n bs es) : isNetD (encNet n bs es) = true := by
  obtain ⟨h1, h2, h3, h4, h5, h6, h7⟩ := h
  unfold encNet nI encW isNetD
  simp only [Bool.and_eq_true, decide_eq_true_eq, List.length_map]
  refine ⟨⟨⟨by omega, by omega⟩, by omega, by omega, by omega⟩, boxesD_ok' h6, ?_⟩
  unfold wiresD
  rw [List.all_eq_true]
  intro d hd
  obtain ⟨e, he, rfl⟩ := List.mem_map.mp hd
  rw [wholeD_nI]
  have := h7 e he
  exact decide_eq_true (by omega)
theorem boxOk_get {n : Nat} : ∀ {bs : List (Nat × Nat)} {t i : Nat} {b : Nat × Nat}, boxOk n t bs → bs[i]? = some b → b.1 < n + t + i ∧ b.2 < n + t + i
  | [], _, _, _, _, e => by simp at e
  | b :: r, t, 0, _, h, e => by
    cases e
    exact ⟨h.1, h.2.1⟩
  | _ :: r, t, i + 1, _, h, e => by
    have := boxOk_get (i := i) h.2.2 (by simpa using e)
    omega
/-- what the wires come to -/
def stepD (jf : PyData → PyData → PyData) (acc : List PyData) (b : Nat × Nat) : List PyData := acc ++ [jf (acc.getD b.1 .none) (acc.getD b.2 .none)]
def runD (jf : PyData → PyData → PyData) (ws : List PyData) (bs : List (Nat × Nat)) : List PyData := bs.foldl (stepD jf) ws
theorem runD_len {jf : PyData → PyData → PyData} : ∀ (bs : List (Nat × Nat)) (ws : List PyData), (runD jf ws bs).length = ws.length + bs.length
  | [], ws => rfl
  | b :: r, ws => by
    show (runD jf (stepD jf ws b) r).length = _
    rw [runD_len r]
    simp [stepD]
    omega
theorem runD_snoc {jf : PyData → PyData → PyData} {ws : List PyData} {bs : List (Nat × Nat)} {b : Nat × Nat} : runD jf ws (bs ++ [b]) = stepD jf (runD jf ws bs) b := by
  unfold runD
  rw [List.foldl_append]
  rfl
theorem sz_of {n : Nat} (h : n ≤ 100000) : n ≤ sizeLine := Nat.le_trans h (by decide)
theorem sz_lt {n : Nat} (h : n < 100000) : n < sizeLine := Nat.lt_of_lt_of_le h (by decide)
theorem atI_of {α : Type} {xs : List α} {j : Nat} {v : α} (h : xs[j]? = some v) : atI xs (j : Int) = some v := atI_nat h
end My
namespace My
open PySem PySem.Spec PyProof.Rows L2
open LamX (CodeO TabS ExtN)
theorem Sm.lam {c : Ct} {M : List Addr} {H H1 : Hp} {P : Addr} {q : Str} (e : ExtN H H1) (t : TabS H1 P q) (t0 : TabS H P q) (o : ∀ b, b ≠ P → H b ≠ none → H1 b = H b)
    (hq : ∀ p ∈ c.T, p.1 = P → p.2 = q) (hG : ∀ R ∈ c.G, R ≠ P) : Sm c M H H1 := by
  refine ⟨fun b u _ h n => e b u h n, fun b h z => ?_, fun g => ⟨fun R hR => ?_, fun p hp => ?_⟩⟩
  · by_cases hb : b = P
    · obtain ⟨ps, h1, _⟩ := t
      rw [hb, h1] at z
      cases z
    · rw [o b hb h] at z
      exact h z
  · obtain ⟨ps, h1, h2⟩ := g.g R hR
    exact ⟨ps, (o R (hG R hR) (by rw [h1]; nofun)).trans h1, h2⟩
  · by_cases hb : p.1 = P
    · rw [hq p hp hb, hb]
      exact t
    · obtain ⟨ps, h1, h2, h3⟩ := g.t p hp
      refine ⟨ps, (o _ hb (by rw [h1]; nofun)).trans h1, h2, fun pos cv hc => ?_⟩
      obtain ⟨c0, e1, e2⟩ := h3 pos cv hc
      exact ⟨c0, e1, e c0 _ e2 LamX.codeO_ne⟩
theorem flat_rep {α : Type} (x : α) : ∀ n : Nat, (List.replicate n [x]).flatten = List.replicate n x
  | 0 => rfl
  | n + 1 => by
    rw [List.replicate_succ, List.flatten_cons, flat_rep x n, List.replicate_succ]
    rfl
def addD (x y : PyData) : PyData := match x, y with
  | .int i, .int j => .int (i + j)
  | _, _ => .none
/-- how many places the words have -/
def lensD (n : Nat) (bs : List (Nat × Nat)) : List PyData := runD addD (List.replicate n (.int 1)) bs
def joinD (x y : PyData) : PyData := match x, y with
  | .tuple a, .tuple b => if a.length + b.length > 400 then .none else .tuple (a ++ b)
  | _, _ => .none
/-- the short words, None for long ones -/
def wordsD (n : Nat) (bs : List (Nat × Nat)) : List PyData := runD joinD ((List.range n).map fun k => .tuple [nI k]) bs
theorem Dqs.rep {M : List Addr} {H : Hp} {v : V} {d : PyData} (x : Dq M H v d) : ∀ n : Nat, Dqs M H (List.replicate n v) (List.replicate n d)
  | 0 => .nil
  | n + 1 => .cons x (Dqs.rep x n)
end My
namespace My
open PySem PySem.Spec PyProof.Rows L2
/-- a word that is short enough, or None -/
def PrW (d : PyData) : Prop := d = .none ∨ ∃ w : List PyData, d = .tuple w ∧ 1 ≤ w.length ∧ w.length ≤ 400
theorem prW_join {x y : PyData} (hx : PrW x) (hy : PrW y) : PrW (joinD x y) := by
  rcases hx with rfl | ⟨a, rfl, a1, a2⟩
  · exact Or.inl rfl
  · rcases hy with rfl | ⟨b, rfl, b1, b2⟩
    · exact Or.inl rfl
    · by_cases h : a.length + b.length > 400
      · exact Or.inl (if_pos h)
      · refine Or.inr ⟨a ++ b, if_neg h, ?_, ?_⟩ <;> (rw [List.length_append]; omega)
end My
namespace My
open PySem PySem.Spec PyProof.Rows L2
theorem lensD_ints (n : Nat) : ∀ (bs : List (Nat × Nat)) (ws : List PyData), (∀ x ∈ ws, ∃ i, x = .int i) → boxOk n (ws.length - n) bs → n ≤ ws.length → ∀ x ∈ runD addD ws bs, ∃ i, x = .int i
  | [], ws, h, _, _ => h
  | b :: r, ws, h, hb, hn => by
    obtain ⟨h1, h2, h3⟩ := hb
    have i1 : b.1 < ws.length := by omega
    have i2 : b.2 < ws.length := by omega
    refine lensD_ints n r (stepD addD ws b) ?_ ?_ (by simp [stepD]; omega)
    · intro x hx
      rcases List.mem_append.mp hx with z | z
      · exact h x z
      · rw [List.mem_singleton.mp z]
        obtain ⟨i, e1⟩ := h _ (List.getElem_mem i1)
        obtain ⟨j, e2⟩ := h _ (List.getElem_mem i2)
        rw [List.getD_eq_getElem?_getD, List.getD_eq_getElem?_getD, List.getElem?_eq_getElem i1, List.getElem?_eq_getElem i2]
        show ∃ k, addD ws[b.1] ws[b.2] = .int k
        rw [e1, e2]
        exact ⟨i + j, rfl⟩
    · have : (stepD addD ws b).length - n = ws.length - n + 1 := by simp [stepD]; omega
      rw [this]
      exact h3
end My
namespace My
open PySem PySem.Spec PyProof.Rows L2
open LamX (ExtN)
theorem sq_ext {K : PySem.W.Frag} {H H' : Hp} {a : Addr} {xs : List V} (e : ExtN H H') (h : SqL K H a xs) : SqL K H' a xs := by
  rcases h with (h | ⟨o, h⟩) | h
  · exact Or.inl (Or.inl (e _ _ h nofun))
  · exact Or.inl (Or.inr ⟨o, e _ _ h nofun⟩)
  · exact Or.inr h
theorem cut_mem {xs : List V} {lo hi : Option Int} {x : V} (h : x ∈ cutV xs lo hi) : x ∈ xs := by
  unfold cutV at h
  exact List.mem_of_mem_drop (List.mem_of_mem_take h)
/-- the law's well of numbers -/
structure Spr (H : Hp) (sp : Addr) : Prop where
  ex : ∃ x m c : Int, H sp = some (.lst [.int x, .int m, .int c]) ∧ 0 ≤ m ∧ m < 2147483647
theorem Spr.sm {c : Ct} {M : List Addr} {H H' : Hp} {sp : Addr} (h : Spr H sp) (s : Sm c M H H') (n : sp ∉ M) : Spr H' sp := by
  obtain ⟨x, m, k, e, r⟩ := h.ex
  exact ⟨x, m, k, s.ex sp _ n e nofun, r⟩
theorem Spr.some {H : Hp} {sp : Addr} (h : Spr H sp) : ∃ xs, H sp = some (.lst xs) := by
  obtain ⟨x, m, k, e, r⟩ := h.ex
  exact ⟨_, e⟩
end My
namespace My
open PySem PySem.Spec PyProof.Rows L2
/-! ### words -/
def wstep (acc : List (List Nat)) (b : Nat × Nat) : List (List Nat) := acc ++ [acc.getD b.1 [] ++ acc.getD b.2 []]
def wordsOf (n : Nat) (bs : List (Nat × Nat)) : List (List Nat) := bs.foldl wstep ((List.range n).map fun k => [k])
theorem wordsOf_snoc {n : Nat} {bs : List (Nat × Nat)} {b : Nat × Nat} : wordsOf n (bs ++ [b]) = wstep (wordsOf n bs) b := by
  unfold wordsOf
  rw [List.foldl_append]
  rfl
theorem wordsOf_nil {n : Nat} : wordsOf n [] = (List.range n).map fun k => [k] := rfl
theorem wfold_len : ∀ (bs : List (Nat × Nat)) (ws : List (List Nat)), (bs.foldl wstep ws).length = ws.length + bs.length
  | [], _ => rfl
  | b :: r, ws => by
    show (r.foldl wstep (wstep ws b)).length = _
    rw [wfold_len r]
    simp [wstep]
    omega
theorem wordsOf_len (n : Nat) (bs : List (Nat × Nat)) : (wordsOf n bs).length = n + bs.length := by
  unfold wordsOf
  rw [wfold_len]
  simp
theorem boxOk_snoc {n : Nat} {b : Nat × Nat} : ∀ {bs : List (Nat × Nat)} {t : Nat}, boxOk n t bs → b.1 < n + t + bs.length → b.2 < n + t + bs.length → boxOk n t (bs ++ [b])
  | [], t, _, h1, h2 => ⟨by simpa using h1, by simpa using h2, trivial⟩
  | a :: r, t, ⟨p, q, z⟩, h1, h2 => ⟨p, q, boxOk_snoc z (by simp at h1; omega) (by simp at h2; omega)⟩
theorem encW_get {ws : List (List Nat)} {i : Nat} {w : List Nat} (h : ws[i]? = some w) : (ws.map encW)[i]? = some (encW w) := by
  rw [List.getElem?_map, h]
  rfl
theorem getD_of {α : Type} {l : List α} {i : Nat} {x d : α} (h : l[i]? = some x) : l.getD i d = x := by
  rw [List.getD_eq_getElem?_getD, h]
  rfl
theorem enc_append (a b : List Nat) : encW (a ++ b) = .tuple (a.map nI ++ b.map nI) := by
  unfold encW
  rw [List.map_append]
/-- words of one place and more, of so many at most -/
def Lens (L : Nat) (ws : List (List Nat)) : Prop := ∀ w ∈ ws, 1 ≤ w.length ∧ w.length ≤ L
theorem Lens.snoc {L : Nat} {ws : List (List Nat)} {w : List Nat} (h : Lens L ws) (h1 : 1 ≤ w.length) (h2 : w.length ≤ L) : Lens L (ws ++ [w]) := fun x hx => by
  rcases List.mem_append.mp hx with z | z
  · exact h x z
  · rw [List.mem_singleton.mp z]
    exact ⟨h1, h2⟩
end My
namespace My
open PySem PySem.Spec PyProof.Rows L2
/-- the lists of the law's net while it grows -/
structure WebSt (c : Ct) (M : List Addr) (sp lb lw le : Addr) (n L : Nat) (H0 H : Hp) (bs : List (Nat × Nat)) (es : List Nat) : Prop where
  sm : Sm c [lb, lw, le, sp] H0 H
  spr : Spr H sp
  b : ∃ bV, H lb = some (.lst bV) ∧ Dqs (lb :: lw :: le :: M) H bV (bs.map encB)
  w : ∃ wV, H lw = some (.lst wV) ∧ Dqs (lb :: lw :: le :: M) H wV ((wordsOf n bs).map encW)
  e : ∃ eV, H le = some (.lst eV) ∧ Dqs (lb :: lw :: le :: M) H eV (es.map nI)
  bo : boxOk n 0 bs
  ln : Lens L (wordsOf n bs)
section
variable {c : Ct} {M : List Addr} {sp lb lw le : Addr} {n L : Nat} {H0 H H' : Hp} {bs : List (Nat × Nat)} {es : List Nat}
theorem WebSt.on (x : WebSt c M sp lb lw le n L H0 H bs es) (s : Sm c [sp] H H') (h : Spr H' sp) (ms : sp ∈ M) (n1 : lb ≠ sp) (n2 : lw ≠ sp) (n3 : le ≠ sp) : WebSt c M sp lb lw le n L H0 H' bs es := by
  have sub : ∀ z ∈ [sp], z ∈ lb :: lw :: le :: M := fun z hz => by
    rw [List.mem_singleton.mp hz]
    exact List.mem_cons_of_mem _ (List.mem_cons_of_mem _ (List.mem_cons_of_mem _ ms))
  obtain ⟨bV, hb, db⟩ := x.b
  obtain ⟨wV, hw, dw⟩ := x.w
  obtain ⟨eV, he, de⟩ := x.e
  refine ⟨x.sm.trans (s.sub fun z hz => ?_), h, ⟨bV, s.ex lb _ (fun z => n1 (List.mem_singleton.mp z)) hb nofun, db.sm (s.sub sub)⟩, ⟨wV, s.ex lw _ (fun z => n2 (List.mem_singleton.mp z)) hw nofun, dw.sm (s.sub sub)⟩,
    ⟨eV, s.ex le _ (fun z => n3 (List.mem_singleton.mp z)) he nofun, de.sm (s.sub sub)⟩, x.bo, x.ln⟩
  rw [List.mem_singleton.mp hz]
  simp
theorem WebSt.quiet (x : WebSt c M sp lb lw le n L H0 H bs es) (s : Sm c [] H H') : WebSt c M sp lb lw le n L H0 H' bs es := by
  obtain ⟨bV, hb, db⟩ := x.b
  obtain ⟨wV, hw, dw⟩ := x.w
  obtain ⟨eV, he, de⟩ := x.e
  exact ⟨x.sm.trans s.any, x.spr.sm s (fun z => nomatch z), ⟨bV, s.ex lb _ (fun z => nomatch z) hb nofun, db.sm s.any⟩, ⟨wV, s.ex lw _ (fun z => nomatch z) hw nofun, dw.sm s.any⟩,
    ⟨eV, s.ex le _ (fun z => nomatch z) he nofun, de.sm s.any⟩, x.bo, x.ln⟩
end
section
variable {c : Ct} {M : List Addr} {sp lb lw le : Addr} {n L : Nat} {H0 H H' : Hp} {bs : List (Nat × Nat)} {es : List Nat}
theorem WebSt.len {wV : List V} (x : WebSt c M sp lb lw le n L H0 H bs es) (dw : Dqs (lb :: lw :: le :: M) H wV ((wordsOf n bs).map encW)) : wV.length = n + bs.length := by
  have := dw.length
  rw [List.length_map, wordsOf_len] at this
  exact this
theorem WebSt.joined {i j : Nat} {w1 w2 : List Nat} {bV wV : List V} (x : WebSt c M sp lb lw le n L H0 H bs es) (s : Sm c [lb, lw] H H') (n1 : lb ≠ sp) (n2 : lw ≠ sp) (n3 : lb ≠ le) (n4 : lw ≠ le)
    (hb : H' lb = some (.lst bV)) (hw : H' lw = some (.lst wV)) (db : Dqs (lb :: lw :: le :: M) H' bV (bs.map encB ++ [encB (i, j)])) (dw : Dqs (lb :: lw :: le :: M) H' wV ((wordsOf n bs ++ [w1 ++ w2]).map encW))
    (e1 : (wordsOf n bs)[i]? = some w1) (e2 : (wordsOf n bs)[j]? = some w2) (hL : w1.length + w2.length ≤ L) : WebSt c M sp lb lw le n L H0 H' (bs ++ [(i, j)]) es := by
  obtain ⟨eV, he, de⟩ := x.e
  have l1 := x.ln w1 (List.mem_of_getElem? e1)
  have i1 : i < n + bs.length := by
    rw [← wordsOf_len]
    exact (List.getElem?_eq_some_iff.mp e1).1
  have i2 : j < n + bs.length := by
    rw [← wordsOf_len]
    exact (List.getElem?_eq_some_iff.mp e2).1
  have ew : wordsOf n (bs ++ [(i, j)]) = wordsOf n bs ++ [w1 ++ w2] := by
    rw [wordsOf_snoc]
    show wordsOf n bs ++ [(wordsOf n bs).getD i [] ++ (wordsOf n bs).getD j []] = _
    rw [getD_of e1, getD_of e2]
  have out : ∀ {z : Addr}, z ≠ lb → z ≠ lw → z ∉ [lb, lw] := fun a b h => by
    rcases List.mem_cons.mp h with h | h
    · exact a h
    · exact b (List.mem_singleton.mp h)
  refine ⟨x.sm.trans (s.sub fun z hz => ?_), x.spr.sm s (out n1.symm n2.symm), ⟨bV, hb, ?_⟩, ⟨wV, hw, ?_⟩, ⟨eV, s.ex le _ (out n3.symm n4.symm) he nofun, de.sm (s.sub fun z hz => ?_)⟩, boxOk_snoc x.bo (by simpa using i1) (by simpa using i2), ?_⟩
  · rcases List.mem_cons.mp hz with h | h
    · rw [h]; simp
    · rw [List.mem_singleton.mp h]; simp
  · rw [List.map_append]
    exact db
  · rw [ew]
    exact dw
  · rcases List.mem_cons.mp hz with h | h
    · rw [h]; simp
    · rw [List.mem_singleton.mp h]; simp
  · rw [ew]
    exact x.ln.snoc (by rw [List.length_append]; omega) (by rw [List.length_append]; exact hL)
theorem WebSt.more {k : Nat} {eV : List V} (x : WebSt c M sp lb lw le n L H0 H bs es) (n1 : lb ≠ le) (n2 : lw ≠ le) (n3 : le ≠ sp) (he : H le = some (.lst eV)) (de : Dqs (lb :: lw :: le :: M) H eV (es.map nI)) :
    WebSt c M sp lb lw le n L H0 (upd H le (.lst (eV ++ [.int (k : Int)]))) bs (es ++ [k]) := by
  obtain ⟨bV, hb, db⟩ := x.b
  obtain ⟨wV, hw, dw⟩ := x.w
  have s : ∀ {N}, le ∈ N → Sm c N H (upd H le (.lst (eV ++ [.int (k : Int)]))) := fun h => Sm.put h he
  have mA : le ∈ lb :: lw :: le :: M := by simp
  refine ⟨x.sm.trans (s (by simp)), x.spr.sm (s (N := [le]) (by simp)) (fun z => n3 (List.mem_singleton.mp z).symm), ⟨bV, by rw [upd_ne n1]; exact hb, db.sm (s mA)⟩, ⟨wV, by rw [upd_ne n2]; exact hw, dw.sm (s mA)⟩, ⟨_, upd_same, ?_⟩, x.bo, x.ln⟩
  rw [List.map_append]
  exact (de.sm (s mA)).snoc (.int _)
end
theorem wstep_low {ws : List (List Nat)} {i : Nat} {b : Nat × Nat} (h : i < ws.length) : (wstep ws b)[i]? = ws[i]? := by
  unfold wstep
  rw [List.getElem?_append_left h]
theorem wfold_low : ∀ (bs : List (Nat × Nat)) (ws : List (List Nat)) {i : Nat}, i < ws.length → (bs.foldl wstep ws)[i]? = ws[i]?
  | [], _, _, _ => rfl
  | b :: r, ws, i, h => by
    show (r.foldl wstep (wstep ws b))[i]? = _
    rw [wfold_low r (wstep ws b) (by simp [wstep]; omega), wstep_low h]
theorem wordsOf_low {n : Nat} {bs : List (Nat × Nat)} {i : Nat} (h : i < n) : (wordsOf n bs)[i]? = some [i] := by
  unfold wordsOf
  rw [wfold_low _ _ (by simpa using h)]
  simp [h]
theorem lens_get {L : Nat} {ws : List (List Nat)} {i : Nat} {w : List Nat} (h : Lens L ws) (e : ws[i]? = some w) : 1 ≤ w.length ∧ w.length ≤ L := h w (List.mem_of_getElem? e)
/-- an item of the words -/
theorem word_get {M : List Addr} {H : Hp} {wV : List V} {ws : List (List Nat)} {i : Nat} (dw : Dqs M H wV (ws.map encW)) (hi : i < ws.length) :
    ∃ a u w, wV[i]? = some (.ref a) ∧ ws[i]? = some w ∧ a ∉ M ∧ H a = some (.tup u) ∧ Dqs M H u (w.map nI) ∧ u.length = w.length := by
  have e : ws[i]? = some ws[i] := List.getElem?_eq_getElem hi
  obtain ⟨x, hx, dx⟩ := dw.get (encW_get e)
  obtain ⟨a, u, rfl, na, ha, hu⟩ := dx.tup_inv
  exact ⟨a, u, _, hx, e, na, ha, hu, by have := hu.length; simpa using this⟩
theorem canLay_nI : ∀ ks : List Nat, PyData.canLayAll0 (ks.map nI) = true
  | [] => rfl
  | k :: r => by
    show (PyData.canLay0 (nI k) && PyData.canLayAll0 (r.map nI)) = true
    rw [canLay_nI r]
    rfl
theorem depth_nI : ∀ ks : List Nat, PyData.depthAll (ks.map nI) = 0
  | [] => rfl
  | k :: r => by
    show max (PyData.depth (nI k)) (PyData.depthAll (r.map nI)) = 0
    rw [depth_nI r]
    rfl
theorem shaped_nI (ks : List Nat) : SeqAt.shaped (.list (ks.map nI)) = true := by
  have h1 : PyData.canLay0 (.list (ks.map nI)) = true := by
    simp only [PyData.canLay0]
    exact canLay_nI ks
  have h2 : PyData.depth (.list (ks.map nI)) = 1 := by
    simp only [PyData.depth]
    rw [depth_nI]
  unfold SeqAt.shaped
  rw [h1, h2]
  rfl
theorem dict_nI : ∀ ks : List Nat, PyData.hasDictAll (ks.map nI) = false
  | [] => rfl
  | k :: r => by
    show (PyData.hasDict (nI k) || PyData.hasDictAll (r.map nI)) = false
    rw [dict_nI r]
    rfl
theorem Dqs.nats {M : List Addr} {H : Hp} : ∀ ks : List Nat, Dqs M H (ks.map fun k : Nat => V.int (k : Int)) (ks.map nI)
  | [] => .nil
  | k :: r => .cons (.int _) (Dqs.nats r)
theorem wfold_pre : ∀ (bs : List (Nat × Nat)) (ws : List (List Nat)), ∃ r, bs.foldl wstep ws = ws ++ r
  | [], ws => ⟨[], (List.append_nil _).symm⟩
  | b :: t, ws => by
    obtain ⟨r, e⟩ := wfold_pre t (wstep ws b)
    exact ⟨_, e.trans (List.append_assoc _ _ _)⟩
theorem wordsOf_pre (n : Nat) (bs : List (Nat × Nat)) (i : Nat) : ∃ r, wordsOf n bs = wordsOf n (bs.take i) ++ r := by
  obtain ⟨r, e⟩ := wfold_pre (bs.drop i) (wordsOf n (bs.take i))
  refine ⟨r, ?_⟩
  rw [← e]
  unfold wordsOf
  rw [← List.foldl_append, List.take_append_drop]
theorem Lens.take {L n : Nat} {bs : List (Nat × Nat)} (h : Lens L (wordsOf n bs)) (i : Nat) : Lens L (wordsOf n (bs.take i)) := fun w hw => by
  obtain ⟨r, e⟩ := wordsOf_pre n bs i
  exact h w (by rw [e]; exact List.mem_append_left _ hw)
theorem wordsOf_take {n : Nat} {bs : List (Nat × Nat)} {i : Nat} {b : Nat × Nat} (h : bs[i]? = some b) : wordsOf n (bs.take (i + 1)) = wstep (wordsOf n (bs.take i)) b := by
  rw [List.take_add_one, h]
  exact wordsOf_snoc
end My

/-! words: what the program's own walk comes to; how they are shown -/
namespace My
open PySem PySem.Spec PyProof.Rows L2
theorem getD_map {α : Type} (f : α → PyData) {ws : List α} {i : Nat} {w : α} (h : ws[i]? = some w) : (ws.map f).getD i .none = f w := by
  rw [List.getD_eq_getElem?_getD, List.getElem?_map, h]
  rfl
theorem runD_words {jf : PyData → PyData → PyData} {f : List Nat → PyData} {L n : Nat} (hf : ∀ a b : List Nat, a.length + b.length ≤ L → jf (f a) (f b) = f (a ++ b)) :
    ∀ (bs : List (Nat × Nat)) (ws : List (List Nat)), boxOk n (ws.length - n) bs → n ≤ ws.length → Lens L (bs.foldl wstep ws) → runD jf (ws.map f) bs = (bs.foldl wstep ws).map f
  | [], ws, _, _, _ => rfl
  | b :: r, ws, hb, hn, hL => by
    obtain ⟨h1, h2, h3⟩ := hb
    have i1 : b.1 < ws.length := by omega
    have i2 : b.2 < ws.length := by omega
    have e : stepD jf (ws.map f) b = (wstep ws b).map f := by
      unfold stepD wstep
      rw [getD_map f (List.getElem?_eq_getElem i1), getD_map f (List.getElem?_eq_getElem i2), getD_of (List.getElem?_eq_getElem i1), getD_of (List.getElem?_eq_getElem i2), List.map_append]
      obtain ⟨z, ez⟩ := wfold_pre r (wstep ws b)
      have m : ws[b.1] ++ ws[b.2] ∈ (b :: r).foldl wstep ws := by
        show _ ∈ r.foldl wstep (wstep ws b)
        rw [ez]
        refine List.mem_append_left _ ?_
        unfold wstep
        rw [getD_of (List.getElem?_eq_getElem i1), getD_of (List.getElem?_eq_getElem i2)]
        exact List.mem_append_right _ (List.mem_singleton.mpr rfl)
      have := (hL _ m).2
      rw [List.length_append] at this
      rw [hf _ _ this]
      rfl
    show runD jf (stepD jf (ws.map f) b) r = (r.foldl wstep (wstep ws b)).map f
    rw [e]
    have l : (wstep ws b).length = ws.length + 1 := by simp [wstep]
    refine runD_words (n := n) hf r (wstep ws b) ?_ (by omega) hL
    rw [show (wstep ws b).length - n = ws.length - n + 1 by omega]
    exact h3
theorem lensD_words {L n : Nat} {bs : List (Nat × Nat)} (hb : boxOk n 0 bs) (hL : Lens L (wordsOf n bs)) : lensD n bs = (wordsOf n bs).map fun w => nI w.length := by
  have e : (List.replicate n (PyData.int 1)) = ((List.range n).map fun k => [k]).map fun w => nI w.length := by
    rw [List.map_map]
    refine (List.eq_replicate_iff.mpr ⟨by simp, fun x hx => ?_⟩).symm
    obtain ⟨k, _, rfl⟩ := List.mem_map.mp hx
    rfl
  unfold lensD
  rw [e]
  refine runD_words (n := n) (fun a b _ => ?_) bs _ (by simpa using hb) (by simp) hL
  show PyData.int ((a.length : Int) + (b.length : Int)) = _
  unfold nI
  rw [List.length_append]
  rfl
theorem wordsD_words {L n : Nat} {bs : List (Nat × Nat)} (hb : boxOk n 0 bs) (hL : Lens L (wordsOf n bs)) (h4 : L ≤ 400) : wordsD n bs = (wordsOf n bs).map encW := by
  have e : ((List.range n).map fun k => PyData.tuple [nI k]) = ((List.range n).map fun k => [k]).map encW := by
    rw [List.map_map]
    rfl
  unfold wordsD
  rw [e]
  refine runD_words (n := n) (fun a b h => ?_) bs _ (by simpa using hb) (by simp) hL
  rw [enc_append]
  show (if (a.map nI).length + (b.map nI).length > 400 then _ else _) = _
  rw [List.length_map, List.length_map, if_neg (by omega)]
/-- what word_of is asked -/
theorem word_at {L n k : Nat} {bs : List (Nat × Nat)} {w : List Nat} (hb : boxOk n 0 bs) (hL : Lens L (wordsOf n bs)) (h4 : L ≤ 400) (h : (wordsOf n bs)[k]? = some w) :
    (lensD n bs)[k]? = some (.int (w.length : Int)) ∧ (w.length : Int) ≤ 400 ∧ (wordsD n bs)[k]? = some (encW w) := by
  have := hL w (List.mem_of_getElem? h)
  refine ⟨?_, by omega, ?_⟩
  · rw [lensD_words hb hL, List.getElem?_map, h]
    rfl
  · rw [wordsD_words hb hL h4, List.getElem?_map, h]
    rfl
/-- the word of a box -/
theorem word_box {n t : Nat} {bs : List (Nat × Nat)} {b : Nat × Nat} (hb : boxOk n 0 bs) (h : bs[t]? = some b) :
    ∃ w1 w2, (wordsOf n bs)[b.1]? = some w1 ∧ (wordsOf n bs)[b.2]? = some w2 ∧ (wordsOf n bs)[n + t]? = some (w1 ++ w2) := by
  have ht := (List.getElem?_eq_some_iff.mp h).1
  obtain ⟨g1, g2⟩ := boxOk_get hb h
  obtain ⟨r, e⟩ := wordsOf_pre n bs (t + 1)
  have lt := wordsOf_len n (bs.take t)
  rw [List.length_take, Nat.min_eq_left (by omega)] at lt
  rw [wordsOf_take h] at e
  have i1 : b.1 < (wordsOf n (bs.take t)).length := by omega
  have i2 : b.2 < (wordsOf n (bs.take t)).length := by omega
  have l : (wstep (wordsOf n (bs.take t)) b).length = n + t + 1 := by
    simp [wstep]
    omega
  refine ⟨(wordsOf n (bs.take t))[b.1], (wordsOf n (bs.take t))[b.2], ?_, ?_, ?_⟩
  · rw [e, List.getElem?_append_left (by omega), wstep_low i1]
    exact List.getElem?_eq_getElem i1
  · rw [e, List.getElem?_append_left (by omega), wstep_low i2]
    exact List.getElem?_eq_getElem i2
  · rw [e, List.getElem?_append_left (by omega)]
    unfold wstep
    rw [List.getElem?_append_right (by omega), lt, Nat.sub_self, getD_of (List.getElem?_eq_getElem i1), getD_of (List.getElem?_eq_getElem i2)]
    rfl
/-- places are places -/
def Ent (n : Nat) (ws : List (List Nat)) : Prop := ∀ w ∈ ws, ∀ k ∈ w, k < n
theorem wfold_ent {n : Nat} : ∀ (bs : List (Nat × Nat)) (ws : List (List Nat)), Ent n ws → Ent n (bs.foldl wstep ws)
  | [], _, h => h
  | b :: r, ws, h => by
    refine wfold_ent r (wstep ws b) fun w hw k hk => ?_
    have at' : ∀ i, ∀ k ∈ ws.getD i [], k < n := fun i k hk => by
      rw [List.getD_eq_getElem?_getD] at hk
      cases e : ws[i]? with
      | none => rw [e] at hk; exact nomatch hk
      | some w => rw [e] at hk; exact h w (List.mem_of_getElem? e) k hk
    unfold wstep at hw
    rcases List.mem_append.mp hw with z | z
    · exact h w z k hk
    · rw [List.mem_singleton.mp z] at hk
      rcases List.mem_append.mp hk with y | y
      · exact at' _ k y
      · exact at' _ k y
theorem wordsOf_ent (n : Nat) (bs : List (Nat × Nat)) : Ent n (wordsOf n bs) := by
  refine wfold_ent bs _ fun w hw k hk => ?_
  obtain ⟨j, hj, rfl⟩ := List.mem_map.mp hw
  rw [List.mem_singleton.mp hk]
  exact List.mem_range.mp hj
/-! ### shown -/
theorem cost_ints : ∀ ks : List Nat, (∀ k ∈ ks, k < 2 ^ 64) → costs (ks.map nI) ≤ 68 * ks.length
  | [], _ => Nat.le_refl _
  | k :: r, h => by
    have e := cost_ints r fun x hx => h x (List.mem_cons_of_mem _ hx)
    have hk := h k List.mem_cons_self
    have l : (k : Int).natAbs.log2 ≤ 64 := by
      rw [Int.natAbs_natCast]
      by_cases z : k = 0
      · rw [z]; decide
      · exact Nat.le_of_lt ((Nat.log2_lt z).mpr hk)
    show cost (nI k) + 2 + costs (r.map nI) ≤ 68 * (r.length + 1)
    have : cost (nI k) = (k : Int).natAbs.log2 + 2 := by simp only [nI, cost]
    omega
theorem show_ints : ∀ ks : List Nat, (∀ k ∈ ks, k < 2 ^ 64) → PyData.showableAll (ks.map nI) = true
  | [], _ => rfl
  | k :: r, h => by
    show (PyData.showable (nI k) && PyData.showableAll (r.map nI)) = true
    rw [show_ints r fun x hx => h x (List.mem_cons_of_mem _ hx), Bool.and_true]
    have hk := h k List.mem_cons_self
    have l : (k : Int).natAbs.log2 < 1920 := by
      rw [Int.natAbs_natCast]
      by_cases z : k = 0
      · rw [z]; decide
      · exact Nat.lt_trans ((Nat.log2_lt z).mpr hk) (by decide)
    simp only [nI, PyData.showable]
    exact decide_eq_true l
theorem encW_facts {L : Nat} {w : List Nat} (hL : w.length ≤ L) (h : ∀ k ∈ w, k < 2 ^ 64) : PyData.showable (encW w) = true ∧ PyData.hasDict (encW w) = false ∧ PyData.depth (encW w) = 1 ∧ cost (encW w) ≤ 68 * L + 3 := by
  refine ⟨?_, ?_, ?_, ?_⟩
  · simp only [encW, PyData.showable]; exact show_ints w h
  · simp only [encW, PyData.hasDict]; exact dict_nI w
  · simp only [encW, PyData.depth]; rw [depth_nI]
  · simp only [encW, cost]
    have := cost_ints w h
    have : 68 * w.length ≤ 68 * L := Nat.mul_le_mul_left _ hL
    omega
theorem encWs_facts {L : Nat} : ∀ {ws : List (List Nat)}, (∀ w ∈ ws, w.length ≤ L) → (∀ w ∈ ws, ∀ k ∈ w, k < 2 ^ 64) → PyData.showableAll (ws.map encW) = true ∧ PyData.hasDictAll (ws.map encW) = false ∧ PyData.depthAll (ws.map encW) ≤ 1 ∧ costs (ws.map encW) ≤ (68 * L + 5) * ws.length
  | [], _, _ => ⟨rfl, rfl, Nat.zero_le _, Nat.le_refl _⟩
  | w :: r, h1, h2 => by
    obtain ⟨a, b, c, d⟩ := encWs_facts (ws := r) (fun x hx => h1 x (List.mem_cons_of_mem _ hx)) fun x hx => h2 x (List.mem_cons_of_mem _ hx)
    obtain ⟨a', b', c', d'⟩ := encW_facts (h1 w List.mem_cons_self) (h2 w List.mem_cons_self)
    refine ⟨?_, ?_, ?_, ?_⟩
    · show (PyData.showable (encW w) && PyData.showableAll (r.map encW)) = true
      rw [a, a']; rfl
    · show (PyData.hasDict (encW w) || PyData.hasDictAll (r.map encW)) = false
      rw [b, b']; rfl
    · show max (PyData.depth (encW w)) (PyData.depthAll (r.map encW)) ≤ 1
      rw [c']; omega
    · show cost (encW w) + 2 + costs (r.map encW) ≤ (68 * L + 5) * (r.length + 1)
      have : (68 * L + 5) * (r.length + 1) = (68 * L + 5) * r.length + (68 * L + 5) := by rw [Nat.mul_add, Nat.mul_one]
      omega
theorem shows_word {w : List Nat} (hL : w.length ≤ 10000) (h : ∀ k ∈ w, k < 2 ^ 64) : Shows (encW w) := by
  obtain ⟨a, b, c, d⟩ := encW_facts hL h
  exact ⟨a, b, by omega, Nat.le_trans d (by decide)⟩
theorem shows_words {ws : List (List Nat)} (hn : ws.length ≤ 100) (hL : ∀ w ∈ ws, w.length ≤ 1000) (h : ∀ w ∈ ws, ∀ k ∈ w, k < 2 ^ 64) : Shows (.list (ws.map encW)) := by
  obtain ⟨a, b, c, d⟩ := encWs_facts hL h
  refine ⟨?_, ?_, ?_, ?_⟩
  · simp only [PyData.showable]; exact a
  · simp only [PyData.hasDict]; exact b
  · simp only [PyData.depth]; omega
  · simp only [cost]
    have : (68 * 1000 + 5) * ws.length ≤ (68 * 1000 + 5) * 100 := Nat.mul_le_mul_left _ hn
    exact Nat.le_trans (show costs (ws.map encW) + 2 ≤ (68 * 1000 + 5) * 100 + 2 by omega) (by decide)
end My

/-! what the top has left, def by def -/
namespace My
open PySem PySem.Spec PyProof.Rows L2
/-- a def as the top has left it -/
structure HasFn (K : PySem.W.Frag) (x qual : Str) (st : Stmt) (f : Addr) : Prop where
  ex : ∃ (oc kV dc pm cd ct : Value) (od an : Option Addr) (sl : Array (Option Value)),
    K.lookup f = some ⟨oc, od, .func (PySem.W.fnOf x qual (defArgs st) (defBody st) (defScope st) .none kV dc pm an cd ct), sl⟩ ∧ PySem.W.codeIn K cd qual = true
  at_ : PySem.W.nsIn K mainGlobals x = some (some (.ref f))
  kp : PySem.W.keepIn K (.ref f) = true
section
variable {K : PySem.W.Frag} {h : Heap} {mg : Str → Option Value}
theorem hasFn {x qual : Str} {st : Stmt} {f : Addr} {oc kV dc pm cd ct : Value} {od an : Option Addr} {sl : Array (Option Value)} (a : PySem.W.nsIn K mainGlobals x = some (some (.ref f)))
    (l : K.lookup f = some ⟨oc, od, .func (PySem.W.fnOf x qual (defArgs st) (defBody st) (defScope st) .none kV dc pm an cd ct), sl⟩) (c : PySem.W.codeIn K cd qual = true) (k : PySem.W.keepIn K (.ref f) = true) : HasFn K x qual st f :=
  ⟨⟨oc, kV, dc, pm, cd, ct, od, an, sl, l, c⟩, a, k⟩
theorem HasFn.fn {x qual : Str} {st : Stmt} {f : Addr} {ps : List Str} (F : HasFn K x qual st f)
    (hb : ∀ (kV doc pm : Value) (an : Option Addr) (cdv ct : Value) (us : List Value), us.length = ps.length → bindArgs (PySem.W.fnOf x qual (defArgs st) (defBody st) (defScope st) .none kV doc pm an cdv ct) ⟨us, []⟩ = pure (ps.zip us)) :
    ∃ fd, Fun K x qual st f fd ∧ L2.Binds K fd ps [] := by
  obtain ⟨oc, kV, dc, pm, cd, ct, od, an, sl, l, c⟩ := F.ex
  have G := fun_mk (st := st) l c F.kp
  exact ⟨_, G, G.binds hb⟩
theorem HasFn.gl {x qual : Str} {st : Stmt} {f : Addr} (F : HasFn K x qual st f) (X : K.In h) (G : h.Ns mainGlobals mg) : mg x = some (.ref f) := PySem.W.mg_of X G F.at_
theorem HasFn.tab {x qual : Str} {st : Stmt} {f c P : Addr} (F : HasFn K x qual st f) (X : K.In h) (G : h.Ns mainGlobals mg) (ht : PySem.W.tabIn K x = some (c, P)) : ∃ fd, At K f fd ∧ fd.code = .ref c := by
  obtain ⟨oc, kV, dc, pm, cd, ct, od, an, sl, l, _⟩ := F.ex
  exact ⟨_, ⟨oc, od, sl, l⟩, PySem.W.law_code X G ht (F.gl X G) (X _ _ l) rfl⟩
theorem HasFn.kw {x qual : Str} {st : Stmt} {f : Addr} {ps ks : List Str} {g : List Value → List Value} {gV : List V → List V} (F : HasFn K x qual st f)
    (hb : ∀ (s : Shared) (kV doc pm : Value) (an : Option Addr) (cdv ct : Value) (ws : List Value), ws.length = ks.length → BindsTo s (PySem.W.fnOf x qual (defArgs st) (defBody st) (defScope st) .none kV doc pm an cdv ct) ⟨[], ks.zip ws⟩ (ps.zip (g ws)))
    (hr : ∀ {zs : List V} {ws : List Value}, Vals zs ws → Vals (gV zs) (g ws)) : Kwb K f ps ks g gV := by
  obtain ⟨oc, kV, dc, pm, cd, ct, od, an, sl, l, _⟩ := F.ex
  exact ⟨⟨_, ⟨oc, od, sl, l⟩, fun s ws _ hl => hb s _ _ _ _ _ _ ws hl⟩, hr⟩
theorem vals_getD : ∀ {zs : List V} {ws : List Value}, Vals zs ws → ∀ i : Nat, RelV (zs.getD i .non) (ws.getD i .none)
  | _, _, .nil, i => by cases i <;> exact rfl
  | _, _, .cons r _, 0 => r
  | _, _, .cons _ t, i + 1 => vals_getD t i
theorem con1_int {x : Str} {i : Int} (X : K.In h) (G : h.Ns mainGlobals mg) (e : ∃ t, PySem.W.nsIn K mainGlobals x = some (some (.int i t))) : Con1 mg x (.int i) := by
  obtain ⟨t, e⟩ := e
  exact ⟨_, PySem.W.mg_of X G e, ⟨t, rfl⟩⟩
end
end My
namespace My
open PySem PySem.Spec PyProof.Rows L2
theorem HasFn.one {K : PySem.W.Frag} {x qual : Str} {st : Stmt} {f : Addr} {fd : FuncData} {y : Str} (F : HasFn K x qual st f) (A : At K f fd)
    (hb : ∀ (s : Shared) (kV doc pm : Value) (an : Option Addr) (cdv ct u : Value), BindsTo s (PySem.W.fnOf x qual (defArgs st) (defBody st) (defScope st) .none kV doc pm an cdv ct) ⟨[u], []⟩ [(y, u)]) : ∀ (s : Shared) (u : Value), BindsTo s fd ⟨[u], []⟩ [(y, u)] := by
  obtain ⟨oc, kV, dc, pm, cd, ct, od, an, sl, l, _⟩ := F.ex
  cases A.inj ⟨oc, od, sl, l⟩
  exact fun s u => hb s _ _ _ _ _ _ u
theorem tabOf {K : PySem.W.Frag} {x : Str} {f c P : Addr} {oc oc2 : Value} {od od2 : Option Addr} {fd : FuncData} {sl sl2 : Array (Option Value)} {vs : Array Value} (a : PySem.W.nsIn K mainGlobals x = some (some (.ref f)))
    (l : K.lookup f = some ⟨oc, od, .func fd, sl⟩) (hc : fd.code = .ref c) (lc : K.lookup c = some ⟨oc2, od2, .fields vs, sl2⟩) (hv : vs[11]? = some (.ref P)) : PySem.W.tabIn K x = some (c, P) := by
  unfold PySem.W.tabIn
  rw [a]
  dsimp only
  rw [l]
  dsimp only
  rw [hc]
  dsimp only
  rw [lc]
  dsimp only
  rw [hv]
theorem tabG0 {H : Hp} {P : Addr} (h : H P = some (.tbl #[])) : GxR.TabG H P := ⟨_, h, trivial⟩
theorem tabS0 {H : Hp} {P : Addr} {q : Str} (h : H P = some (.tbl #[])) : LamX.TabS H P q := ⟨_, h, trivial, fun _ _ z => nomatch z⟩
end My
namespace My
open PySem PySem.Spec PyProof.Rows L2
/-- a tuple that the top has left -/
structure TupC (K : PySem.W.Frag) (x : Str) (a : Addr) (xs : List V) : Prop where
  at_ : PySem.W.nsIn K mainGlobals x = some (some (.ref a))
  ex : ∃ (o : Obj) (its : Array Value) (n : Nat), K.lookup a = some o ∧ o.cls = .type "tuple" ∧ o.data = .seq its n ∧ its.size ≤ sizeLine ∧ Vals xs its.toList
theorem tupC {K : PySem.W.Frag} {x : Str} {a : Addr} {xs : List V} {od : Option Addr} {its : Array Value} {n : Nat} {sl : Array (Option Value)} (e : PySem.W.nsIn K mainGlobals x = some (some (.ref a)))
    (l : K.lookup a = some ⟨.type "tuple", od, .seq its n, sl⟩) (z : its.size ≤ sizeLine) (v : Vals xs its.toList) : TupC K x a xs := ⟨e, _, _, _, l, rfl, rfl, z, v⟩
theorem TupC.con {K : PySem.W.Frag} {h : Heap} {mg : Str → Option Value} {x : Str} {a : Addr} {xs : List V} (T : TupC K x a xs) (X : K.In h) (G : h.Ns mainGlobals mg) : Con1 mg x (.ref a) := ⟨_, PySem.W.mg_of X G T.at_, rfl⟩
theorem TupC.sq {K : PySem.W.Frag} {x : Str} {a : Addr} {xs : List V} (T : TupC K x a xs) (H : Hp) : SqT K H a xs := Or.inr T.ex
end My

/-! xs[i] += e; sum of a tuple -/
namespace My
open PySem PySem.Spec PyProof.Rows L2
section
variable {X : Cx} {K : PySem.W.Frag}
theorem get_list : PGet X (rIxL X.K) := by
  intro pins s σ H x y v u Q I rx ry h
  obtain ⟨p, xs, i, z, rfl, rfl, hq, he, q⟩ := h
  cases rx
  obtain ⟨t, rfl⟩ := ry
  obtain ⟨its, r, pl, hz⟩ := I.list hq
  obtain ⟨j, h1, h2, h3, h4, h5⟩ := atI_get he
  obtain ⟨w, ew, rw'⟩ := r.get h2
  have hl := r.length
  have hn := line63
  have fin : EP X pins σ Q w s := ⟨z, H, I, rw', q⟩
  by_cases h0 : 0 ≤ i
  · have hj : i.toNat = j := by
      rw [seqIndex_of h0 h5] at h1
      exact Option.some.inj h1
    exact wpAny_getItem_list pl.isList h0 (by omega) (by rw [hj]; simpa using ew) fin
  · have hj : (i + (its.toArray.size : Int)).toNat = j := by
      rw [seqIndex_neg (by omega) h4] at h1
      rw [List.size_toArray, ← hl]
      exact Option.some.inj h1
    exact wpAny_getItem_list_neg pl.isList (by omega) (by rw [List.size_toArray] <;> omega) (by omega) (by rw [hj]; simpa using ew) fin
/-- xs[i] += e, whole numbers in a list -/
theorem ps_augL {o i e : Expr} {to ti te : TE} {pos tpos : Pos} (ho : PE X o to) (hi : PE X i ti) (he : PE X e te) (h : X.K = K := by rfl)
    (ha : ∀ ov iv new, augStore i ov iv new = (do holding [new, ov, iv] (setItem ov iv new); release [new, ov, iv] []; pure .next) := by intros; rfl) :
    PS X (.AugAssign (.Subscript o i tpos) .Add e pos) (tAugS to ti te (rIxL K) (ipI fun i j => i + j) rSetL) := by
  subst h
  exact ps_augS ho hi get_list he ip_add set_list ha
def rSumT (K : PySem.W.Frag) : List V → Hp → VK → Prop := fun vs H Q => ∃ (a : Addr) (ns : List Int), vs = [V.ref a] ∧ SqT K H a (ns.map V.int) ∧ Q (.int ns.sum) H
theorem cr_sumT (hc : X.calm = true) : CallR X (.builtin "sum") (rSumT X.K) := by
  intro pins s σ H vs us Q I r h
  obtain ⟨a, ns, rfl, hs, q⟩ := h
  obtain ⟨its, rv, hl, _⟩ := I.tuple hs
  rw [Vals.ref1 r]
  have hi := rv.ints
  obtain ⟨xs, e⟩ := hi.allInts.items
  have hn : numsOf (intItems xs).toList = ns := by rw [← e]; exact hi.numsOf
  rw [nums_intItems] at hn
  have hl' : s.heap.IsTuple a (intItems xs) := e ▸ (show s.heap.IsTuple a its.toArray from hl)
  refine PySem.W.ktm_sumG (I.ok.hd hc) hl' fun h' tk t' hk => ?_
  rw [preSum_eq, List.take_of_length_le (by simp), hn]
  exact ⟨.int _, H, I.kept hk, ⟨_, rfl⟩, q⟩
theorem call_sumTK (hc : X.calm = true) (h : X.K = K := by rfl) : CallR X (.builtin "sum") (rSumT K) := h ▸ cr_sumT hc
end
theorem starK {X : Cx} {K : PySem.W.Frag} {e : Expr} {es : List Expr} {te : TE} {t : TA} {p : Pos} (he : PE X e te) (hr : PA X es t) (h : X.K = K := by rfl) (hs : starEach (.Starred e p :: es) X.env = (true, eval e X.env) :: starEach es X.env := by rfl) :
    PA X (.Starred e p :: es) (StX.tStar K te t) := by
  subst h
  exact StX.pa_star he hr hs
end My

/-! runs through a net, of anything; counts -/
namespace My
open PySem PySem.Spec PyProof.Rows L2
section
variable {α β : Type}
def stepA (op : α → α → α) (d : α) (acc : List α) (b : Nat × Nat) : List α := acc ++ [op (acc.getD b.1 d) (acc.getD b.2 d)]
def runA (op : α → α → α) (d : α) (ws : List α) (bs : List (Nat × Nat)) : List α := bs.foldl (stepA op d) ws
theorem runA_len {op : α → α → α} {d : α} : ∀ (bs : List (Nat × Nat)) (ws : List α), (runA op d ws bs).length = ws.length + bs.length
  | [], ws => rfl
  | b :: r, ws => by
    show (runA op d (stepA op d ws b) r).length = _
    rw [runA_len r]
    simp [stepA]
    omega
theorem runA_snoc {op : α → α → α} {d : α} {ws : List α} {bs : List (Nat × Nat)} {b : Nat × Nat} : runA op d ws (bs ++ [b]) = stepA op d (runA op d ws bs) b := by
  unfold runA
  rw [List.foldl_append]
  rfl
theorem runA_take {op : α → α → α} {d : α} {ws : List α} {bs : List (Nat × Nat)} {i : Nat} {b : Nat × Nat} (h : bs[i]? = some b) : runA op d ws (bs.take (i + 1)) = stepA op d (runA op d ws (bs.take i)) b := by
  rw [List.take_add_one, h]
  exact runA_snoc
theorem runA_inv {op : α → α → α} {d : α} {P : α → Prop} (hP : ∀ a b, P a → P b → P (op a b)) (hd : P d) : ∀ (bs : List (Nat × Nat)) (ws : List α), (∀ w ∈ ws, P w) → ∀ w ∈ runA op d ws bs, P w
  | [], ws, h => h
  | b :: r, ws, h => by
    refine runA_inv hP hd r (stepA op d ws b) fun w hw => ?_
    have at' : ∀ i, P (ws.getD i d) := fun i => by
      rw [List.getD_eq_getElem?_getD]
      cases e : ws[i]? with
      | none => exact hd
      | some w => exact h w (List.mem_of_getElem? e)
    rcases List.mem_append.mp hw with z | z
    · exact h w z
    · rw [List.mem_singleton.mp z]
      exact hP _ _ (at' _) (at' _)
theorem runA_map {op : α → α → α} {d : α} {op' : β → β → β} {d' : β} {f : α → β} {P : α → Prop} {n : Nat} (hP : ∀ a b, P a → P b → P (op a b)) (hom : ∀ a b, P a → P b → op' (f a) (f b) = f (op a b)) :
    ∀ (bs : List (Nat × Nat)) (ws : List α), (∀ w ∈ ws, P w) → boxOk n (ws.length - n) bs → n ≤ ws.length → runA op' d' (ws.map f) bs = (runA op d ws bs).map f
  | [], ws, _, _, _ => rfl
  | b :: r, ws, h, hb, hn => by
    obtain ⟨h1, h2, h3⟩ := hb
    have i1 : b.1 < ws.length := by omega
    have i2 : b.2 < ws.length := by omega
    have g1 : ws[b.1]? = some ws[b.1] := List.getElem?_eq_getElem i1
    have g2 : ws[b.2]? = some ws[b.2] := List.getElem?_eq_getElem i2
    have e : stepA op' d' (ws.map f) b = (stepA op d ws b).map f := by
      unfold stepA
      rw [getD_of (l := ws.map f) (x := f ws[b.1]) (by rw [List.getElem?_map, g1]; rfl), getD_of (l := ws.map f) (x := f ws[b.2]) (by rw [List.getElem?_map, g2]; rfl), getD_of g1, getD_of g2, List.map_append,
        hom _ _ (h _ (List.getElem_mem i1)) (h _ (List.getElem_mem i2))]
      rfl
    show runA op' d' (stepA op' d' (ws.map f) b) r = (runA op d (stepA op d ws b) r).map f
    rw [e]
    have l : (stepA op d ws b).length = ws.length + 1 := by simp [stepA]
    refine runA_map (n := n) hP hom r (stepA op d ws b) (fun w hw => ?_) ?_ (by omega)
    · rcases List.mem_append.mp hw with z | z
      · exact h w z
      · rw [List.mem_singleton.mp z, getD_of g1, getD_of g2]
        exact hP _ _ (h _ (List.getElem_mem i1)) (h _ (List.getElem_mem i2))
    · rw [show (stepA op d ws b).length - n = ws.length - n + 1 by omega]
      exact h3
end
theorem runD_eq {jf : PyData → PyData → PyData} {ws : List PyData} {bs : List (Nat × Nat)} : runD jf ws bs = runA jf .none ws bs := rfl
/-- numbers -/
theorem runD_nI {jf : PyData → PyData → PyData} {op : Nat → Nat → Nat} {n : Nat} (hom : ∀ a b, jf (nI a) (nI b) = nI (op a b)) {bs : List (Nat × Nat)} {ws : List Nat} (hb : boxOk n 0 bs) (hw : ws.length = n) :
    runD jf (ws.map nI) bs = (runA op 0 ws bs).map nI := by
  rw [runD_eq]
  exact runA_map (P := fun _ => True) (n := n) (fun _ _ _ _ => trivial) (fun a b _ _ => hom a b) bs ws (fun _ _ => trivial) (by rw [hw, Nat.sub_self]; exact hb) (by omega)
/-! ### counts -/
def bumpN (u : List Nat) (k : Nat) : List Nat := u.set k (u.getD k 0 + 1)
theorem bumpN_len {u : List Nat} {k : Nat} : (bumpN u k).length = u.length := by simp [bumpN]
theorem bumps_len : ∀ (ks u : List Nat), (ks.foldl bumpN u).length = u.length
  | [], _ => rfl
  | k :: r, u => by
    show (r.foldl bumpN (bumpN u k)).length = _
    rw [bumps_len r, bumpN_len]
theorem bump_map {u : List Nat} {k : Nat} : (bumpN u k).map (fun x : Nat => V.int (x : Int)) = (u.map fun x : Nat => V.int (x : Int)).set k (.int ((u.getD k 0 : Nat) + 1 : Int)) := by
  unfold bumpN
  rw [List.map_set]
  rfl
theorem nats_get {u : List Nat} {k : Nat} (h : k < u.length) : (u.map fun x : Nat => V.int (x : Int))[k]? = some (.int (u.getD k 0 : Nat)) := by
  rw [List.getElem?_map, List.getElem?_eq_getElem h, List.getD_eq_getElem?_getD, List.getElem?_eq_getElem h]
  rfl
theorem nats_inv {M : List Addr} {H : Hp} : ∀ {vs : List V} {ks : List Nat}, Dqs M H vs (ks.map nI) → vs = ks.map fun x : Nat => V.int (x : Int)
  | _, [], .nil => rfl
  | _, k :: r, .cons a t => by rw [a.int_inv, nats_inv t]; rfl
theorem nats_ints {ks : List Nat} : (ks.map fun x : Nat => V.int (x : Int)) = (ks.map fun x : Nat => (x : Int)).map V.int := by
  rw [List.map_map]
  rfl
theorem nats_sum : ∀ ks : List Nat, (ks.map fun x : Nat => (x : Int)).sum = (ks.sum : Nat)
  | [] => rfl
  | k :: r => by
    rw [List.map_cons, List.sum_cons, nats_sum r, List.sum_cons]
    omega
/-- the greatest one -/
theorem max_unique {ks : List Int} {m m' : Int} (h1 : m ∈ ks) (h2 : ∀ y ∈ ks, y ≤ m) (h3 : m' ∈ ks) (h4 : ∀ y ∈ ks, y ≤ m') : m = m' := by
  have := h2 m' h3
  have := h4 m h1
  omega
def Small (ks : List Nat) : Prop := ∀ k ∈ ks, k < 2 ^ 64
theorem shows_nats {ks : List Nat} (hn : ks.length ≤ 10000) (h : Small ks) : Shows (.tuple (ks.map nI)) := shows_word hn h
theorem shows_natsL {ks : List Nat} (hn : ks.length ≤ 10000) (h : Small ks) : Shows (.list (ks.map nI)) := by
  refine ⟨?_, ?_, ?_, ?_⟩
  · simp only [PyData.showable]; exact show_ints ks h
  · simp only [PyData.hasDict]; exact dict_nI ks
  · simp only [PyData.depth]; rw [depth_nI]; decide
  · simp only [cost]
    have := cost_ints ks h
    have : 68 * ks.length ≤ 68 * 10000 := Nat.mul_le_mul_left _ hn
    exact Nat.le_trans (show costs (ks.map nI) + 2 ≤ 68 * 10000 + 2 by omega) (by decide)
/-- boxes and ends while they grow -/
structure TallSt (c : Ct) (M : List Addr) (sp lb le : Addr) (n : Nat) (H0 H : Hp) (bs : List (Nat × Nat)) (es : List Nat) : Prop where
  sm : Sm c [lb, le, sp] H0 H
  spr : Spr H sp
  b : ∃ bV, H lb = some (.lst bV) ∧ Dqs (lb :: le :: M) H bV (bs.map encB)
  e : ∃ eV, H le = some (.lst eV) ∧ Dqs (lb :: le :: M) H eV (es.map nI)
  bo : boxOk n 0 bs
section
variable {c : Ct} {M : List Addr} {sp lb le : Addr} {n : Nat} {H0 H H' : Hp} {bs : List (Nat × Nat)} {es : List Nat}
theorem TallSt.on (x : TallSt c M sp lb le n H0 H bs es) (s : Sm c [sp] H H') (h : Spr H' sp) (ms : sp ∈ M) (n1 : lb ≠ sp) (n3 : le ≠ sp) : TallSt c M sp lb le n H0 H' bs es := by
  have sub : ∀ z ∈ [sp], z ∈ lb :: le :: M := fun z hz => by
    rw [List.mem_singleton.mp hz]
    exact List.mem_cons_of_mem _ (List.mem_cons_of_mem _ ms)
  obtain ⟨bV, hb, db⟩ := x.b
  obtain ⟨eV, he, de⟩ := x.e
  refine ⟨x.sm.trans (s.sub fun z hz => ?_), h, ⟨bV, s.ex lb _ (fun z => n1 (List.mem_singleton.mp z)) hb nofun, db.sm (s.sub sub)⟩,
    ⟨eV, s.ex le _ (fun z => n3 (List.mem_singleton.mp z)) he nofun, de.sm (s.sub sub)⟩, x.bo⟩
  rw [List.mem_singleton.mp hz]
  simp
theorem TallSt.quiet (x : TallSt c M sp lb le n H0 H bs es) (s : Sm c [] H H') : TallSt c M sp lb le n H0 H' bs es := by
  obtain ⟨bV, hb, db⟩ := x.b
  obtain ⟨eV, he, de⟩ := x.e
  exact ⟨x.sm.trans s.any, x.spr.sm s (fun z => nomatch z), ⟨bV, s.ex lb _ (fun z => nomatch z) hb nofun, db.sm s.any⟩, ⟨eV, s.ex le _ (fun z => nomatch z) he nofun, de.sm s.any⟩, x.bo⟩
theorem TallSt.full (x : TallSt c M sp lb le n H0 H bs es) (hM : ∀ m ∈ M, H0 m ≠ none) : ∀ m ∈ lb :: le :: M, H m ≠ none := fun m hm => by
  obtain ⟨bV, hb, _⟩ := x.b
  obtain ⟨eV, he, _⟩ := x.e
  rcases List.mem_cons.mp hm with z | hm
  · rw [z, hb]; nofun
  rcases List.mem_cons.mp hm with z | hm
  · rw [z, he]; nofun
  exact x.sm.st m (hM m hm)
/-- one more box: p its pair -/
theorem TallSt.box {i j : Nat} {p : Addr} {bV : List V} (x : TallSt c M sp lb le n H0 H bs es) (hM : ∀ m ∈ M, H0 m ≠ none) (hp : H p = none) (n1 : lb ≠ sp) (n3 : le ≠ lb) (hb : H lb = some (.lst bV))
    (i1 : i < n + bs.length) (i2 : j < n + bs.length) : TallSt c M sp lb le n H0 (upd (upd H p (.tup [.int (i : Int), .int (j : Int)])) lb (.lst (bV ++ [.ref p]))) (bs ++ [(i, j)]) es := by
  have hF := x.full hM
  obtain ⟨bV', hb', db⟩ := x.b
  rw [hb] at hb'
  cases hb'
  obtain ⟨eV, he, de⟩ := x.e
  have s1 : ∀ {N}, Sm c N H (upd H p (.tup [.int (i : Int), .int (j : Int)])) := Sm.new hp
  have b1 : (upd H p (.tup [.int (i : Int), .int (j : Int)])) lb = some (.lst bV) := by rw [upd_ne (ne_of_none hb hp)]; exact hb
  have s2 : ∀ {N}, lb ∈ N → Sm c N (upd H p (.tup [.int (i : Int), .int (j : Int)])) (upd (upd H p (.tup [.int (i : Int), .int (j : Int)])) lb (.lst (bV ++ [.ref p]))) := fun h => Sm.put h b1
  have mA : lb ∈ lb :: le :: M := by simp
  refine ⟨x.sm.trans (s1.trans (s2 (by simp))), (x.spr.sm (c := c) (M := []) s1 (fun z => nomatch z)).sm (s2 (N := [lb]) (by simp)) (fun z => n1 (List.mem_singleton.mp z).symm), ⟨_, upd_same, ?_⟩, ⟨eV, ?_, (de.sm (s1)).sm (s2 mA)⟩, boxOk_snoc x.bo (by simpa using i1) (by simpa using i2)⟩
  · rw [List.map_append]
    exact ((db.sm (s1)).snoc (dq_new hF hp (.two (.int (i : Int)) (.int (j : Int))))).sm (s2 mA)
  · rw [upd_ne n3, upd_ne (ne_of_none he hp)]
    exact he
theorem TallSt.more {k : Nat} {eV : List V} (x : TallSt c M sp lb le n H0 H bs es) (n1 : lb ≠ le) (n3 : le ≠ sp) (he : H le = some (.lst eV)) (de : Dqs (lb :: le :: M) H eV (es.map nI)) :
    TallSt c M sp lb le n H0 (upd H le (.lst (eV ++ [.int (k : Int)]))) bs (es ++ [k]) := by
  obtain ⟨bV, hb, db⟩ := x.b
  have s : ∀ {N}, le ∈ N → Sm c N H (upd H le (.lst (eV ++ [.int (k : Int)]))) := fun h => Sm.put h he
  have mA : le ∈ lb :: le :: M := by simp
  refine ⟨x.sm.trans (s (by simp)), x.spr.sm (s (N := [le]) (by simp)) (fun z => n3 (List.mem_singleton.mp z).symm), ⟨bV, by rw [upd_ne n1]; exact hb, db.sm (s mA)⟩, ⟨_, upd_same, ?_⟩, x.bo⟩
  rw [List.map_append]
  exact (de.sm (s mA)).snoc (.int _)
end
def maxD (x y : PyData) : PyData := match x, y with
  | .int i, .int j => .int ((if j > i then j else i) + 1)
  | _, _ => .none
def depOf (n : Nat) (bs : List (Nat × Nat)) : List Nat := runA (fun a b => 1 + max a b) 0 (List.replicate n 0) bs
theorem depD {n : Nat} {bs : List (Nat × Nat)} (hb : boxOk n 0 bs) : runD maxD (List.replicate n (.int 0)) bs = (depOf n bs).map nI := by
  have e : (List.replicate n (PyData.int 0)) = (List.replicate n 0).map nI := by rw [List.map_replicate]; rfl
  rw [e]
  refine runD_nI (fun a b => ?_) hb (by simp)
  show PyData.int ((if (b : Int) > (a : Int) then (b : Int) else (a : Int)) + 1) = .int ((1 + max a b : Nat) : Int)
  congr 1
  split <;> omega
def lenOf (n : Nat) (bs : List (Nat × Nat)) : List Nat := runA (fun a b => a + b) 0 (List.replicate n 1) bs
theorem lenD {n : Nat} {bs : List (Nat × Nat)} (hb : boxOk n 0 bs) : lensD n bs = (lenOf n bs).map nI := by
  have e : (List.replicate n (PyData.int 1)) = (List.replicate n 1).map nI := by rw [List.map_replicate]; rfl
  unfold lensD
  rw [e]
  refine runD_nI (fun a b => ?_) hb (by simp)
  show PyData.int ((a : Int) + (b : Int)) = .int ((a + b : Nat) : Int)
  congr 1
def wiresOf (bs : List (Nat × Nat)) : List Nat := bs.flatMap fun b => [b.1, b.2]
def fansOf (n : Nat) (bs : List (Nat × Nat)) (es : List Nat) : List Nat := (wiresOf bs ++ es).foldl bumpN (List.replicate (n + bs.length) 0)
theorem ixN_of {n k : Nat} (h : k < n) : ixN n (k : Int) = some k := by
  unfold ixN
  rw [if_pos (by omega), if_pos (by omega)]
  simp
def rowsOf (bs : List (Nat × Nat)) (es : List Nat) : List (List Nat) := (bs.map fun b => [b.1, b.2]) ++ [es]
theorem rows_flat (bs : List (Nat × Nat)) (es : List Nat) : (rowsOf bs es).flatten = wiresOf bs ++ es := by
  unfold rowsOf wiresOf
  rw [List.flatten_append, List.flatMap_def]
  simp
theorem rows_enc (bs : List (Nat × Nat)) (es : List Nat) : bs.map encB ++ [encW es] = (rowsOf bs es).map encW := by
  unfold rowsOf
  rw [List.map_append, List.map_map]
  rfl
theorem rows_lt {n : Nat} {bs : List (Nat × Nat)} {es : List Nat} (hN : NetOk n bs es) : ∀ r ∈ rowsOf bs es, ∀ k ∈ r, k < n + bs.length := by
  intro r hr k hk
  unfold rowsOf at hr
  rcases List.mem_append.mp hr with z | z
  · obtain ⟨b, hb, rfl⟩ := List.mem_map.mp z
    obtain ⟨i, hi⟩ := List.getElem?_of_mem hb
    obtain ⟨g1, g2⟩ := boxOk_get hN.bx hi
    have := (List.getElem?_eq_some_iff.mp hi).1
    rcases List.mem_cons.mp hk with y | y
    · omega
    · have := List.mem_singleton.mp y
      omega
  · rw [List.mem_singleton.mp z] at hk
    exact hN.ew k hk
theorem take_flat {α : Type} {rows : List (List α)} {i : Nat} {r : List α} (h : rows[i]? = some r) : (rows.take (i + 1)).flatten = (rows.take i).flatten ++ r := by
  rw [List.take_add_one, h]
  simp
theorem foldl_take {α β : Type} (f : β → α → β) {r : List α} {k : Nat} {x : α} (h : r[k]? = some x) (u : β) : (r.take (k + 1)).foldl f u = f ((r.take k).foldl f u) x := by
  rw [List.take_add_one, h, List.foldl_append]
  rfl
/-! ### how often each place comes -/
def unitOf (n k : Nat) : List Nat := (List.range n).map fun p => if p = k then 1 else 0
def addV (a b : List Nat) : List Nat := List.zipWith (fun x y => x + y) a b
def grownOf (n : Nat) (bs : List (Nat × Nat)) : List (List Nat) := runA addV [] ((List.range n).map (unitOf n)) bs
theorem unit_len (n k : Nat) : (unitOf n k).length = n := by simp [unitOf]
theorem addV_len {n : Nat} {a b : List Nat} (ha : a.length = n) (hb : b.length = n) : (addV a b).length = n := by simp [addV, ha, hb]
theorem addV_sum : ∀ {a b : List Nat}, a.length = b.length → (addV a b).sum = a.sum + b.sum
  | [], [], _ => rfl
  | x :: a, y :: b, h => by
    have := addV_sum (a := a) (b := b) (by simpa using h)
    show (x + y + (addV a b).sum) = (x + a.sum) + (y + b.sum)
    omega
  | [], _ :: _, h => by simp at h
  | _ :: _, [], h => by simp at h
theorem unit_sum_aux (k : Nat) : ∀ n, ((List.range n).map fun p => if p = k then 1 else 0).sum = if k < n then 1 else 0
  | 0 => by simp
  | n + 1 => by
    rw [List.range_succ, List.map_append, List.sum_append, unit_sum_aux k n]
    simp only [List.map_cons, List.map_nil, List.sum_cons, List.sum_nil]
    by_cases h : k < n
    · rw [if_pos h, if_neg (by omega), if_pos (by omega)]
      rfl
    · rw [if_neg h]
      by_cases h2 : n = k
      · rw [if_pos h2, if_pos (by omega)]
        rfl
      · rw [if_neg h2, if_neg (by omega)]
        rfl
theorem unit_sum {n k : Nat} (h : k < n) : (unitOf n k).sum = 1 := by
  unfold unitOf
  rw [unit_sum_aux, if_pos h]
theorem grown_sum {n : Nat} {bs : List (Nat × Nat)} (hb : boxOk n 0 bs) : (grownOf n bs).map List.sum = lenOf n bs := by
  unfold grownOf lenOf
  have e : (List.replicate n 1) = ((List.range n).map (unitOf n)).map List.sum := by
    rw [List.map_map]
    refine (List.eq_replicate_iff.mpr ⟨by simp, fun x hx => ?_⟩).symm
    obtain ⟨k, hk, rfl⟩ := List.mem_map.mp hx
    exact unit_sum (List.mem_range.mp hk)
  rw [e]
  refine (runA_map (P := fun w : List Nat => w.length = n) (n := n) (fun a b ha hb => addV_len ha hb) (fun a b ha hb => (addV_sum (ha.trans hb.symm)).symm) bs _ (fun w hw => ?_) (by simpa using hb) (by simp)).symm
  obtain ⟨k, _, rfl⟩ := List.mem_map.mp hw
  exact unit_len n k
theorem runA_all {α : Type} {op : α → α → α} {d : α} {P : α → Prop} {n : Nat} (hP : ∀ a b, P a → P b → P (op a b)) : ∀ (bs : List (Nat × Nat)) (ws : List α), (∀ w ∈ ws, P w) → boxOk n (ws.length - n) bs → n ≤ ws.length → ∀ w ∈ runA op d ws bs, P w
  | [], ws, h, _, _ => h
  | b :: r, ws, h, hb, hn => by
    obtain ⟨h1, h2, h3⟩ := hb
    have i1 : b.1 < ws.length := by omega
    have i2 : b.2 < ws.length := by omega
    have l : (stepA op d ws b).length = ws.length + 1 := by simp [stepA]
    refine runA_all (n := n) hP r (stepA op d ws b) (fun w hw => ?_) ?_ (by omega)
    · rcases List.mem_append.mp hw with z | z
      · exact h w z
      · rw [List.mem_singleton.mp z, getD_of (List.getElem?_eq_getElem i1), getD_of (List.getElem?_eq_getElem i2)]
        exact hP _ _ (h _ (List.getElem_mem i1)) (h _ (List.getElem_mem i2))
    · rw [show (stepA op d ws b).length - n = ws.length - n + 1 by omega]
      exact h3
theorem boxOk_take {n : Nat} : ∀ {bs : List (Nat × Nat)} {t : Nat} (i : Nat), boxOk n t bs → boxOk n t (bs.take i)
  | _, _, 0, _ => trivial
  | [], _, _ + 1, _ => trivial
  | b :: r, t, i + 1, ⟨h1, h2, h3⟩ => ⟨h1, h2, boxOk_take i h3⟩
theorem grown_lens' {n : Nat} {bs : List (Nat × Nat)} (hb : boxOk n 0 bs) : ∀ w ∈ grownOf n bs, w.length = n :=
  runA_all (P := fun w : List Nat => w.length = n) (n := n) (fun a b ha hb => addV_len ha hb) bs _ (fun w hw => by obtain ⟨k, _, rfl⟩ := List.mem_map.mp hw; exact unit_len n k) (by simpa using hb) (by simp)
theorem grownOf_len (n : Nat) (bs : List (Nat × Nat)) : (grownOf n bs).length = n + bs.length := by
  unfold grownOf
  rw [runA_len]
  simp
theorem addV_range {n : Nat} {a b : List Nat} (ha : a.length = n) (hb : b.length = n) : addV a b = (List.range n).map fun k => a.getD k 0 + b.getD k 0 := by
  refine List.ext_getElem? fun i => ?_
  unfold addV
  rw [List.getElem?_zipWith, List.getElem?_map]
  by_cases h : i < n
  · rw [List.getElem?_range h, List.getElem?_eq_getElem (by omega), List.getElem?_eq_getElem (by omega)]
    simp [List.getD_eq_getElem?_getD, List.getElem?_eq_getElem (show i < a.length by omega), List.getElem?_eq_getElem (show i < b.length by omega)]
  · rw [List.getElem?_eq_none (show a.length ≤ i by omega), List.getElem?_eq_none (show (List.range n).length ≤ i by rw [List.length_range]; omega)]
    rfl
/-! ### bounds -/
def iterN (g : Nat → Nat) : Nat → Nat → Nat
  | 0, B => B
  | n + 1, B => iterN g n (g B)
theorem runA_bound {op : Nat → Nat → Nat} {g : Nat → Nat} (hg : ∀ x, x ≤ g x) (ho : ∀ a b B, a ≤ B → b ≤ B → op a b ≤ g B) : ∀ (bs : List (Nat × Nat)) (ws : List Nat) (B : Nat), (∀ w ∈ ws, w ≤ B) → ∀ w ∈ runA op 0 ws bs, w ≤ iterN g bs.length B
  | [], ws, B, h => h
  | b :: r, ws, B, h => by
    refine runA_bound hg ho r (stepA op 0 ws b) (g B) fun w hw => ?_
    have at' : ∀ i, ws.getD i 0 ≤ B := fun i => by
      rw [List.getD_eq_getElem?_getD]
      cases e : ws[i]? with
      | none => exact Nat.zero_le _
      | some w => exact h w (List.mem_of_getElem? e)
    rcases List.mem_append.mp hw with z | z
    · exact Nat.le_trans (h w z) (hg B)
    · rw [List.mem_singleton.mp z]
      exact ho _ _ B (at' _) (at' _)
theorem iter_succ : ∀ n B : Nat, iterN (fun x : Nat => x + 1) n B = B + n
  | 0, B => rfl
  | n + 1, B => by
    show iterN (fun x : Nat => x + 1) n (B + 1) = _
    rw [iter_succ n]
    omega
theorem iter_dbl : ∀ n B : Nat, iterN (fun x : Nat => 2 * x) n B = 2 ^ n * B
  | 0, B => by simp [iterN]
  | n + 1, B => by
    show iterN (fun x : Nat => 2 * x) n (2 * B) = _
    rw [iter_dbl n, Nat.pow_succ, Nat.mul_assoc]
theorem dep_small {n : Nat} {bs : List (Nat × Nat)} (h : bs.length ≤ 60) : Small (depOf n bs) := fun k hk => by
  have := runA_bound (op := fun a b => 1 + max a b) (g := fun x => x + 1) (fun x => by omega) (fun a b B ha hb => by omega) bs (List.replicate n 0) 0 (fun w hw => by rw [List.eq_of_mem_replicate hw]; exact Nat.le_refl _) k hk
  rw [iter_succ] at this
  exact Nat.lt_of_le_of_lt this (by omega)
theorem len_small {n : Nat} {bs : List (Nat × Nat)} (h : bs.length ≤ 60) : Small (lenOf n bs) := fun k hk => by
  have := runA_bound (op := fun a b => a + b) (g := fun x => 2 * x) (fun x => by omega) (fun a b B ha hb => by omega) bs (List.replicate n 1) 1 (fun w hw => by rw [List.eq_of_mem_replicate hw]; exact Nat.le_refl _) k hk
  rw [iter_dbl, Nat.mul_one] at this
  exact Nat.lt_of_le_of_lt this (Nat.lt_of_le_of_lt (Nat.pow_le_pow_right (by decide) h) (by decide))
theorem bumps_bound : ∀ (ks u : List Nat) (B : Nat), (∀ x ∈ u, x ≤ B) → ∀ x ∈ ks.foldl bumpN u, x ≤ B + ks.length
  | [], u, B, h => h
  | k :: r, u, B, h => by
    intro x hx
    have := bumps_bound r (bumpN u k) (B + 1) (fun y hy => by
      unfold bumpN at hy
      rcases List.mem_or_eq_of_mem_set hy with z | z
      · exact Nat.le_trans (h y z) (Nat.le_succ _)
      · rw [z]
        rw [List.getD_eq_getElem?_getD]
        cases e : u[k]? with
        | none => show 0 + 1 ≤ _; omega
        | some w =>
          have := h w (List.mem_of_getElem? e)
          show w + 1 ≤ _
          omega) x hx
    rw [List.length_cons]
    omega
theorem wiresOf_len : ∀ bs : List (Nat × Nat), (wiresOf bs).length = 2 * bs.length
  | [] => rfl
  | b :: r => by
    have := wiresOf_len r
    unfold wiresOf at this ⊢
    rw [List.flatMap_cons, List.length_append, this, List.length_cons]
    show 2 + 2 * r.length = 2 * (r.length + 1)
    omega
theorem fans_small {n : Nat} {bs : List (Nat × Nat)} {es : List Nat} (h : bs.length ≤ 60) (h2 : es.length ≤ 24) : Small (fansOf n bs es) := fun k hk => by
  have := bumps_bound (wiresOf bs ++ es) (List.replicate (n + bs.length) 0) 0 (fun w hw => by rw [List.eq_of_mem_replicate hw]; exact Nat.le_refl _) k hk
  rw [List.length_append, wiresOf_len] at this
  exact Nat.lt_of_le_of_lt this (by omega)
theorem ex_max : ∀ ks : List Nat, ks ≠ [] → ∃ m ∈ ks, ∀ y ∈ ks, y ≤ m
  | [], h => absurd rfl h
  | [k], _ => ⟨k, List.mem_cons_self, fun y hy => by rw [List.mem_singleton.mp hy]; exact Nat.le_refl _⟩
  | k :: k2 :: r, _ => by
    obtain ⟨m, hm, hl⟩ := ex_max (k2 :: r) nofun
    by_cases h : m ≤ k
    · exact ⟨k, List.mem_cons_self, fun y hy => by
        rcases List.mem_cons.mp hy with z | z
        · rw [z]; exact Nat.le_refl _
        · exact Nat.le_trans (hl y z) h⟩
    · exact ⟨m, List.mem_cons_of_mem _ hm, fun y hy => by
        rcases List.mem_cons.mp hy with z | z
        · rw [z]; omega
        · exact hl y z⟩
theorem wiresOf_take {bs : List (Nat × Nat)} {i : Nat} {b : Nat × Nat} (h : bs[i]? = some b) : wiresOf (bs.take (i + 1)) = wiresOf (bs.take i) ++ [b.1, b.2] := by
  rw [List.take_add_one, h]
  unfold wiresOf
  rw [List.flatMap_append]
  rfl
theorem depOf_take {n : Nat} {bs : List (Nat × Nat)} {i : Nat} {b : Nat × Nat} (h : bs[i]? = some b) : depOf n (bs.take (i + 1)) = depOf n (bs.take i) ++ [1 + max ((depOf n (bs.take i)).getD b.1 0) ((depOf n (bs.take i)).getD b.2 0)] := by
  unfold depOf
  rw [runA_take h]
  rfl
theorem depOf_len (n : Nat) (bs : List (Nat × Nat)) : (depOf n bs).length = n + bs.length := by
  unfold depOf
  rw [runA_len]
  simp
end My

/-! boxes and words while they grow, any joins -/
namespace My
open PySem PySem.Spec PyProof.Rows L2
theorem wordsOf_app (n : Nat) (bs more : List (Nat × Nat)) : ∃ r, wordsOf n (bs ++ more) = wordsOf n bs ++ r := by
  obtain ⟨r, e⟩ := wfold_pre more (wordsOf n bs)
  refine ⟨r, ?_⟩
  rw [← e]
  unfold wordsOf
  rw [List.foldl_append]
theorem wordsOf_more {n : Nat} {bs : List (Nat × Nat)} (more : List (Nat × Nat)) {i : Nat} {w : List Nat} (h : (wordsOf n bs)[i]? = some w) : (wordsOf n (bs ++ more))[i]? = some w := by
  obtain ⟨r, e⟩ := wordsOf_app n bs more
  rw [e, List.getElem?_append_left (List.getElem?_eq_some_iff.mp h).1]
  exact h
/-- a wire whose word has at most so many places -/
def Wr (n : Nat) (bs : List (Nat × Nat)) (i l : Nat) : Prop := ∃ w, (wordsOf n bs)[i]? = some w ∧ 1 ≤ w.length ∧ w.length ≤ l
theorem Wr.more {n : Nat} {bs : List (Nat × Nat)} (more : List (Nat × Nat)) {i l : Nat} (h : Wr n bs i l) : Wr n (bs ++ more) i l := by
  obtain ⟨w, e, a, b⟩ := h
  exact ⟨w, wordsOf_more more e, a, b⟩
theorem Wr.mono {n : Nat} {bs : List (Nat × Nat)} {i l l' : Nat} (h : Wr n bs i l) (hl : l ≤ l') : Wr n bs i l' := by
  obtain ⟨w, e, a, b⟩ := h
  exact ⟨w, e, a, Nat.le_trans b hl⟩
theorem Wr.lt {n : Nat} {bs : List (Nat × Nat)} {i l : Nat} (h : Wr n bs i l) : i < n + bs.length := by
  obtain ⟨w, e, _⟩ := h
  rw [← wordsOf_len]
  exact (List.getElem?_eq_some_iff.mp e).1
theorem Wr.low {n : Nat} {bs : List (Nat × Nat)} {i : Nat} (h : i < n) : Wr n bs i 1 := ⟨[i], wordsOf_low h, Nat.le_refl _, Nat.le_refl _⟩
/-- which lists are at hand -/
structure JC (M : List Addr) (sp lb lw : Addr) : Prop where
  ms : sp ∈ M
  mb : lb ∈ M
  mw : lw ∈ M
  bw : lb ≠ lw
  bs : lb ≠ sp
  ws : lw ≠ sp
/-- how often the box b is beneath a wire -/
def ostep (n b : Nat) (acc : List Nat) (x : Nat × Nat) : List Nat := acc ++ [acc.getD x.1 0 + acc.getD x.2 0 + (if acc.length = n + b then 1 else 0)]
def occs (n : Nat) (bs : List (Nat × Nat)) (b : Nat) : List Nat := bs.foldl (ostep n b) (List.replicate n 0)
def occ (n : Nat) (bs : List (Nat × Nat)) (b i : Nat) : Nat := (occs n bs b).getD i 0
theorem occs_fold_len (n b : Nat) : ∀ (bs : List (Nat × Nat)) (acc : List Nat), (bs.foldl (ostep n b) acc).length = acc.length + bs.length
  | [], _ => rfl
  | x :: r, acc => by
    show (r.foldl (ostep n b) (ostep n b acc x)).length = _
    rw [occs_fold_len n b r]
    simp [ostep]
    omega
theorem occs_len {n b : Nat} {bs : List (Nat × Nat)} : (occs n bs b).length = n + bs.length := by
  unfold occs
  rw [occs_fold_len, List.length_replicate]
theorem occs_snoc {n b : Nat} {bs : List (Nat × Nat)} {x : Nat × Nat} : occs n (bs ++ [x]) b = ostep n b (occs n bs b) x := by
  unfold occs
  rw [List.foldl_append]
  rfl
theorem occs_pre {n b : Nat} (bs : List (Nat × Nat)) : ∀ more : List (Nat × Nat), ∃ r, occs n (bs ++ more) b = occs n bs b ++ r := by
  have key : ∀ (more : List (Nat × Nat)) (acc : List Nat), ∃ r, more.foldl (ostep n b) acc = acc ++ r := by
    intro more
    induction more with
    | nil => exact fun acc => ⟨[], (List.append_nil _).symm⟩
    | cons x r ih =>
      intro acc
      obtain ⟨z, e⟩ := ih (ostep n b acc x)
      exact ⟨_, e.trans (List.append_assoc _ _ _)⟩
  intro more
  obtain ⟨r, e⟩ := key more (occs n bs b)
  refine ⟨r, ?_⟩
  rw [← e]
  unfold occs
  rw [List.foldl_append]
theorem occ_more {n b i : Nat} {bs : List (Nat × Nat)} (more : List (Nat × Nat)) (h : i < n + bs.length) : occ n (bs ++ more) b i = occ n bs b i := by
  obtain ⟨r, e⟩ := occs_pre (n := n) (b := b) bs more
  unfold occ
  rw [e, List.getD_eq_getElem?_getD, List.getD_eq_getElem?_getD, List.getElem?_append_left (by rw [occs_len]; exact h)]
theorem occ_new {n b : Nat} {bs : List (Nat × Nat)} {x y : Nat} : occ n (bs ++ [(x, y)]) b (n + bs.length) = occ n bs b x + occ n bs b y + (if bs.length = b then 1 else 0) := by
  unfold occ
  rw [occs_snoc]
  unfold ostep
  rw [List.getD_eq_getElem?_getD, List.getElem?_append_right (by rw [occs_len]; exact Nat.le_refl _), occs_len, Nat.sub_self]
  show _ + _ + _ = _
  congr 1
  by_cases h : bs.length = b
  · rw [if_pos h, if_pos (by omega)]
  · rw [if_neg h, if_neg (by omega)]
theorem occ_low {n b i : Nat} {bs : List (Nat × Nat)} (h : i < n) : occ n bs b i = 0 := by
  have e : occ n ([] ++ bs) b i = occ n [] b i := occ_more bs (by simpa using h)
  rw [List.nil_append] at e
  rw [e]
  show (List.replicate n 0).getD i 0 = 0
  rw [List.getD_eq_getElem?_getD, List.getElem?_replicate]
  split <;> rfl
theorem occ_out {n b i : Nat} {bs : List (Nat × Nat)} (h : n + bs.length ≤ i) : occ n bs b i = 0 := by
  unfold occ
  rw [List.getD_eq_getElem?_getD, List.getElem?_eq_none (by rw [occs_len]; exact h)]
  rfl
/-- each box at most once beneath each wire; and none that is not there -/
def Lin (n : Nat) (bs : List (Nat × Nat)) : Prop := ∀ b i, occ n bs b i ≤ (if b < bs.length then 1 else 0)
theorem lin_nil {n : Nat} : Lin n [] := fun b i => by
  by_cases h : i < n
  · rw [occ_low h]
    exact Nat.zero_le _
  · rw [occ_out (by simpa using h)]
    exact Nat.zero_le _
theorem Lin.snoc {n x y : Nat} {bs : List (Nat × Nat)} (h : Lin n bs) (d : ∀ b, occ n bs b x + occ n bs b y ≤ 1) : Lin n (bs ++ [(x, y)]) := fun b i => by
  have hl : (bs ++ [(x, y)]).length = bs.length + 1 := by simp
  rw [hl]
  by_cases h1 : i < n + bs.length
  · rw [occ_more _ h1]
    have h2 : (if b < bs.length then 1 else 0) ≤ (if b < bs.length + 1 then 1 else 0) := by
      split <;> split <;> omega
    exact Nat.le_trans (h b i) h2
  · by_cases h2 : i = n + bs.length
    · subst h2
      rw [occ_new]
      have := d b
      have a1 := h b x
      have a2 := h b y
      by_cases hb : b < bs.length
      · rw [if_neg (by omega), if_pos (by omega)]
        omega
      · rw [if_neg hb] at a1 a2
        by_cases hb2 : bs.length = b
        · rw [if_pos hb2, if_pos (by omega)]
          omega
        · rw [if_neg hb2, if_neg (by omega)]
          omega
    · rw [occ_out (by rw [hl]; omega)]
      exact Nat.zero_le _
structure JS (M : List Addr) (sp lb lw : Addr) (n : Nat) (H : Hp) (bs : List (Nat × Nat)) : Prop where
  spr : Spr H sp
  b : ∃ bV, H lb = some (.lst bV) ∧ Dqs M H bV (bs.map encB)
  w : ∃ wV, H lw = some (.lst wV) ∧ Dqs M H wV ((wordsOf n bs).map encW)
  bo : boxOk n 0 bs
  ln : Lens 200 (wordsOf n bs)
  li : Lin n bs
section
variable {c : Ct} {M N : List Addr} {sp lb lw : Addr} {n : Nat} {H H' : Hp} {bs : List (Nat × Nat)}
theorem JS.sm (x : JS M sp lb lw n H bs) (s : Sm c N H H') (hN : ∀ z ∈ N, z ∈ M) (n1 : lb ∉ N) (n2 : lw ∉ N) (h : Spr H' sp) : JS M sp lb lw n H' bs := by
  obtain ⟨bV, hb, db⟩ := x.b
  obtain ⟨wV, hw, dw⟩ := x.w
  exact ⟨h, ⟨bV, s.ex lb _ n1 hb nofun, db.sm (s.sub hN)⟩, ⟨wV, s.ex lw _ n2 hw nofun, dw.sm (s.sub hN)⟩, x.bo, x.ln, x.li⟩
theorem JS.on (k : JC M sp lb lw) (x : JS M sp lb lw n H bs) (s : Sm c [sp] H H') (h : Spr H' sp) : JS M sp lb lw n H' bs :=
  x.sm s (fun z hz => by rw [List.mem_singleton.mp hz]; exact k.ms) (fun z => k.bs (List.mem_singleton.mp z)) (fun z => k.ws (List.mem_singleton.mp z)) h
theorem JS.quiet (x : JS M sp lb lw n H bs) (s : Sm c [] H H') : JS M sp lb lw n H' bs :=
  x.sm s (fun z hz => nomatch hz) (fun z => nomatch z) (fun z => nomatch z) (x.spr.sm s fun z => nomatch z)
theorem JC.sub2 (k : JC M sp lb lw) : ∀ z ∈ [lb, lw], z ∈ M := fun z hz => by
  rcases List.mem_cons.mp hz with h | h
  · rw [h]; exact k.mb
  · rw [List.mem_singleton.mp h]; exact k.mw
theorem JC.sub3 (k : JC M sp lb lw) : ∀ z ∈ [lb, lw, sp], z ∈ M := fun z hz => by
  rcases List.mem_cons.mp hz with h | h
  · rw [h]; exact k.mb
  rcases List.mem_cons.mp h with h | h
  · rw [h]; exact k.mw
  · rw [List.mem_singleton.mp h]; exact k.ms
theorem sub_23 {z : Addr} (h : z ∈ [lb, lw]) : z ∈ [lb, lw, sp] := by
  rcases List.mem_cons.mp h with h | h
  · rw [h]; simp
  · rw [List.mem_singleton.mp h]; simp
theorem sub_s3 {z : Addr} (h : z ∈ [sp]) : z ∈ [lb, lw, sp] := by
  rw [List.mem_singleton.mp h]; simp
theorem JS.len (x : JS M sp lb lw n H bs) {wV : List V} (dw : Dqs M H wV ((wordsOf n bs).map encW)) : wV.length = n + bs.length := by
  have := dw.length
  rw [List.length_map, wordsOf_len] at this
  exact this
theorem JS.joined {i j : Nat} {w1 w2 : List Nat} {bV wV : List V} (k : JC M sp lb lw) (x : JS M sp lb lw n H bs) (s : Sm c [lb, lw] H H')
    (hb : H' lb = some (.lst bV)) (hw : H' lw = some (.lst wV)) (db : Dqs M H' bV (bs.map encB ++ [encB (i, j)])) (dw : Dqs M H' wV ((wordsOf n bs ++ [w1 ++ w2]).map encW))
    (e1 : (wordsOf n bs)[i]? = some w1) (e2 : (wordsOf n bs)[j]? = some w2) (l1 : 1 ≤ w1.length) (l3 : w1.length + w2.length ≤ 200) (dj : ∀ b, occ n bs b i + occ n bs b j ≤ 1) : JS M sp lb lw n H' (bs ++ [(i, j)]) ∧ (wordsOf n (bs ++ [(i, j)]))[n + bs.length]? = some (w1 ++ w2) := by
  have i1 : i < n + bs.length := by
    rw [← wordsOf_len]
    exact (List.getElem?_eq_some_iff.mp e1).1
  have i2 : j < n + bs.length := by
    rw [← wordsOf_len]
    exact (List.getElem?_eq_some_iff.mp e2).1
  have ew : wordsOf n (bs ++ [(i, j)]) = wordsOf n bs ++ [w1 ++ w2] := by
    rw [wordsOf_snoc]
    show wordsOf n bs ++ [(wordsOf n bs).getD i [] ++ (wordsOf n bs).getD j []] = _
    rw [getD_of e1, getD_of e2]
  refine ⟨⟨x.spr.sm s fun z => ?_, ⟨bV, hb, ?_⟩, ⟨wV, hw, ?_⟩, boxOk_snoc x.bo (by simpa using i1) (by simpa using i2), by rw [ew]; exact x.ln.snoc (by rw [List.length_append]; omega) (by rw [List.length_append]; exact l3), x.li.snoc dj⟩, ?_⟩
  · rcases List.mem_cons.mp z with h | h
    · exact k.bs h.symm
    · exact k.ws (List.mem_singleton.mp h).symm
  · rw [List.map_append]
    exact db
  · rw [ew]
    exact dw
  · rw [ew, ← wordsOf_len, List.getElem?_append_right (Nat.le_refl _), Nat.sub_self]
    rfl
end
/-- kinds -/
def ToneV (v : V) : Prop := (∃ m : Nat, v = .int (m : Int) ∧ 2 ≤ m ∧ m ≤ 8) ∨ v = .str "any" ∨ v = .str "even" ∨ v = .str "first" ∨ v = .str "last" ∨ v = .str "sets" ∨ v = .str "ends"
theorem ToneV.scal {v : V} (h : ToneV v) (x : Str) : scal v (.str x) = true := by
  rcases h with ⟨m, rfl, _⟩ | rfl | rfl | rfl | rfl | rfl | rfl <;> rfl
theorem ToneV.flat {v : V} (h : ToneV v) : flatV v = true := by
  rcases h with ⟨m, rfl, _⟩ | rfl | rfl | rfl | rfl | rfl | rfl <;> rfl
theorem ToneV.num {v : V} (h : ToneV v) (h1 : ¬ decide (v = .str "any") = true) (h2 : ¬ decide (v = .str "even") = true) (h3 : ¬ decide (v = .str "first") = true) (h4 : ¬ decide (v = .str "last") = true) (h5 : ¬ decide (v = .str "sets") = true)
    (h6 : ¬ decide (v = .str "ends") = true) : ∃ m : Nat, v = .int (m : Int) ∧ m ≤ 8 := by
  rcases h with ⟨m, e, _, hm⟩ | h | h | h | h | h | h
  · exact ⟨m, e, hm⟩
  · exact absurd (decide_eq_true h) h1
  · exact absurd (decide_eq_true h) h2
  · exact absurd (decide_eq_true h) h3
  · exact absurd (decide_eq_true h) h4
  · exact absurd (decide_eq_true h) h5
  · exact absurd (decide_eq_true h) h6
theorem cutV_take (xs : List V) (k : Nat) : cutV xs none (some (k : Int)) = xs.take k := by
  unfold cutV
  rw [HT.sIx_none, HT.sIx_nat, List.drop_zero, Nat.sub_zero]
  by_cases h : k ≤ xs.length
  · rw [Nat.min_eq_left h]
  · rw [Nat.min_eq_right (by omega), List.take_of_length_le (by omega), List.take_of_length_le (by omega)]
theorem cutV_drop (xs : List V) (k : Nat) : cutV xs (some (k : Int)) none = xs.drop k := by
  unfold cutV
  rw [HT.sIx_none, HT.sIx_nat]
  by_cases h : k ≤ xs.length
  · rw [Nat.min_eq_left h, List.take_of_length_le (by rw [List.length_drop]; omega)]
  · rw [Nat.min_eq_right (by omega), Nat.sub_self, List.take_zero, List.drop_eq_nil_of_le (by omega)]
/-! ### wishes -/
def runsOf (n : Nat) : List (Nat × Nat) := (List.range n).map fun k => (0, k)
structure PlanOk (n : Nat) (ws : List (Nat × Nat)) : Prop where
  n1 : 1 ≤ n
  n2 : n ≤ 12
  w : ∀ b ∈ ws, b.1 ≤ b.2 ∧ b.2 < n
  l1 : 1 ≤ ws.length
  l2 : ws.length ≤ 12
  sm : ws = runsOf n ∨ (n ≤ 6 ∧ ws.length ≤ 4)
theorem plan_runs {n : Nat} (h1 : 1 ≤ n) (h2 : n ≤ 12) : PlanOk n (runsOf n) :=
  ⟨h1, h2, fun b hb => by
    obtain ⟨k, hk, rfl⟩ := List.mem_map.mp hb
    exact ⟨Nat.zero_le _, List.mem_range.mp hk⟩, by simp [runsOf]; omega, by simp [runsOf]; omega, Or.inl rfl⟩
theorem canLay_encB : ∀ ws : List (Nat × Nat), PyData.canLayAll0 (ws.map encB) = true
  | [] => rfl
  | b :: r => by
    show (PyData.canLay0 (encB b) && PyData.canLayAll0 (r.map encB)) = true
    rw [canLay_encB r]
    rfl
theorem depth_encB : ∀ ws : List (Nat × Nat), PyData.depthAll (ws.map encB) ≤ 1
  | [] => Nat.zero_le _
  | b :: r => by
    show max (PyData.depth (encB b)) (PyData.depthAll (r.map encB)) ≤ 1
    have := depth_encB r
    have e : PyData.depth (encB b) = 1 := by
      simp only [encB, nI, PyData.depth, PyData.depthAll]
      rfl
    omega
theorem dict_encB : ∀ ws : List (Nat × Nat), PyData.hasDictAll (ws.map encB) = false
  | [] => rfl
  | b :: r => by
    show (PyData.hasDict (encB b) || PyData.hasDictAll (r.map encB)) = false
    rw [dict_encB r]
    rfl
theorem shaped_encB (ws : List (Nat × Nat)) : SeqAt.shaped (.list (ws.map encB)) = true := by
  have h1 : PyData.canLay0 (.list (ws.map encB)) = true := by
    simp only [PyData.canLay0]
    exact canLay_encB ws
  have h2 : PyData.depth (.list (ws.map encB)) ≤ 64 := by
    simp only [PyData.depth]
    have := depth_encB ws
    omega
  unfold SeqAt.shaped
  rw [h1, decide_eq_true h2]
  rfl
theorem nI_eqv (a b : Nat) : PyData.eqv (nI a) (nI b) = decide (a = b) := by
  show ((a : Int) == (b : Int)) = decide (a = b)
  by_cases h : a = b
  · subst h
    simp
  · rw [decide_eq_false h]
    exact beq_eq_false_iff_ne.mpr (fun z => h (by omega))
theorem encB_eqv (a b : Nat × Nat) : PyData.eqv (encB a) (encB b) = decide (a = b) := by
  show (PyData.eqv (nI a.1) (nI b.1) && (PyData.eqv (nI a.2) (nI b.2) && true)) = _
  rw [nI_eqv, nI_eqv, Bool.and_true]
  obtain ⟨a1, a2⟩ := a
  obtain ⟨b1, b2⟩ := b
  by_cases h : a1 = b1
  · by_cases h2 : a2 = b2
    · subst h; subst h2; simp
    · rw [decide_eq_false h2, Bool.and_false, decide_eq_false fun z => h2 (Prod.mk.inj z).2]
  · rw [decide_eq_false h, Bool.false_and, decide_eq_false fun z => h (Prod.mk.inj z).1]
theorem encBs_eqv : ∀ ws vs : List (Nat × Nat), PyData.eqvAll (ws.map encB) (vs.map encB) = decide (ws = vs)
  | [], [] => rfl
  | [], _ :: _ => rfl
  | _ :: _, [] => rfl
  | a :: r, b :: t => by
    show (PyData.eqv (encB a) (encB b) && PyData.eqvAll (r.map encB) (t.map encB)) = _
    rw [encB_eqv, encBs_eqv r t]
    by_cases h : a = b
    · by_cases h2 : r = t
      · subst h; subst h2; simp
      · rw [decide_eq_false h2, Bool.and_false, decide_eq_false fun z => h2 (List.cons.inj z).2]
    · rw [decide_eq_false h, Bool.false_and, decide_eq_false fun z => h (List.cons.inj z).1]
theorem listB_eqv (ws vs : List (Nat × Nat)) : PyData.eqv (.list (ws.map encB)) (.list (vs.map encB)) = decide (ws = vs) := encBs_eqv ws vs
theorem boxOk_set {n : Nat} {b : Nat × Nat} : ∀ {bs : List (Nat × Nat)} {t i : Nat}, boxOk n t bs → b.1 < n + t + i → b.2 < n + t + i → boxOk n t (bs.set i b)
  | [], _, _, h, _, _ => h
  | a :: r, t, 0, ⟨_, _, h3⟩, k1, k2 => ⟨by simpa using k1, by simpa using k2, h3⟩
  | a :: r, t, i + 1, ⟨h1, h2, h3⟩, k1, k2 => ⟨h1, h2, boxOk_set (i := i) h3 (by omega) (by omega)⟩
theorem Dqs.set {M : List Addr} {H : Hp} {v : V} {d : PyData} (x : Dq M H v d) : ∀ {vs : List V} {ds : List PyData} (i : Nat), Dqs M H vs ds → Dqs M H (vs.set i v) (ds.set i d)
  | _, _, _, .nil => .nil
  | _, _, 0, .cons _ r => .cons x r
  | _, _, i + 1, .cons a r => .cons a (Dqs.set x i r)
theorem encB_set {bs : List (Nat × Nat)} {i : Nat} {b : Nat × Nat} : (bs.set i b).map encB = (bs.map encB).set i (encB b) := List.map_set
end My
namespace My
open PySem PySem.Spec PyProof.Rows L2
/-- the boxes that came in between -/
def newI (a c b : Nat) : Nat := if a ≤ b ∧ b < c then 1 else 0
theorem app1_len {bs : List (Nat × Nat)} {x : Nat × Nat} : (bs ++ [x]).length = bs.length + 1 := by simp
theorem occ_stepL {n i j k : Nat} {bs : List (Nat × Nat)} (hk : k < n) (hj : j < n + bs.length) (b : Nat) :
    occ n (bs ++ [(i, k)]) b (n + bs.length) + occ n (bs ++ [(i, k)]) b j ≤ occ n bs b i + occ n bs b j + newI bs.length (bs ++ [(i, k)]).length b := by
  rw [occ_new, occ_low hk, occ_more _ hj, app1_len]
  unfold newI
  split <;> split <;> omega
theorem occ_stepR {n i j k : Nat} {bs : List (Nat × Nat)} (hk : k < n) (hi : i < n + bs.length) (b : Nat) :
    occ n (bs ++ [(k, j)]) b i + occ n (bs ++ [(k, j)]) b (n + bs.length) ≤ occ n bs b i + occ n bs b j + newI bs.length (bs ++ [(k, j)]).length b := by
  rw [occ_new, occ_low hk, occ_more _ hi, app1_len]
  unfold newI
  split <;> split <;> omega
theorem Lin.one {n b i : Nat} {bs : List (Nat × Nat)} (h : Lin n bs) : occ n bs b i ≤ 1 := by
  have := h b i
  split at this <;> omega
theorem Lin.zero {n b i : Nat} {bs : List (Nat × Nat)} (h : Lin n bs) (hb : bs.length ≤ b) : occ n bs b i = 0 := by
  have := h b i
  rw [if_neg (by omega)] at this
  omega
/-- two that were apart, some boxes later -/
theorem apart {n i j x : Nat} {bs : List (Nat × Nat)} {c : Nat} (h : Lin n bs) (d : ∀ b, occ n bs b i + occ n bs b j ≤ 1) {o : Nat → Nat} (ho : ∀ b, o b ≤ occ n bs b i + occ n bs b j + newI bs.length c b) (b : Nat) : o b ≤ 1 := by
  have h1 := ho b
  have h2 := d b
  unfold newI at h1
  split at h1
  · rename_i hb
    have a1 := h.zero (i := i) hb.1
    have a2 := h.zero (i := j) hb.1
    omega
  · omega
theorem newI_grow {a c b : Nat} (h : a ≤ c) : newI a c b + (if c = b then 1 else 0) ≤ newI a (c + 1) b := by
  unfold newI
  split <;> split <;> split <;> omega
theorem newI_mono {a c d b : Nat} (h : c ≤ d) : newI a c b ≤ newI a d b := by
  unfold newI
  split <;> split <;> omega
theorem newI_trans {a c d b : Nat} (h1 : a ≤ c) (h2 : c ≤ d) : newI a c b + newI c d b ≤ newI a d b := by
  unfold newI
  split <;> split <;> split <;> omega
end My

/-! stretches -/
namespace My
open PySem PySem.Spec PyProof.Rows L2
def upN (i l : Nat) : List Nat := (List.range l).map fun t => i + t
theorem upN_len (i l : Nat) : (upN i l).length = l := by simp [upN]
theorem upN_get {i l t : Nat} (h : t < l) : (upN i l)[t]? = some (i + t) := by simp [upN, h]
theorem upN_app (i l m : Nat) : upN i (l + m) = upN i l ++ upN (i + l) m := by
  refine List.ext_getElem? fun t => ?_
  by_cases h : t < l
  · rw [upN_get (by omega), List.getElem?_append_left (by rw [upN_len]; exact h), upN_get h]
  · rw [List.getElem?_append_right (by rw [upN_len]; omega), upN_len]
    by_cases h2 : t < l + m
    · rw [upN_get h2, upN_get (by omega)]
      congr 1
      omega
    · rw [List.getElem?_eq_none (by rw [upN_len]; omega), List.getElem?_eq_none (by rw [upN_len]; omega)]
def isStr (w : List Nat) : Prop := w = upN (w.headD 0) w.length
instance (w : List Nat) : Decidable (isStr w) := inferInstanceAs (Decidable (w = upN (w.headD 0) w.length))
def stOf (w : List Nat) : Option (Nat × Nat) := if isStr w then some (w.headD 0, w.headD 0 + w.length - 1) else none
def encS : Option (Nat × Nat) → PyData
  | none => .none
  | some p => encB p
def joinS : Option (Nat × Nat) → Option (Nat × Nat) → Option (Nat × Nat)
  | some p, some q => if p.2 + 1 = q.1 then some (p.1, q.2) else none
  | _, _ => none
theorem head_upN {i l : Nat} (h : 1 ≤ l) : (upN i l).headD 0 = i := by
  have := upN_get (i := i) (l := l) (t := 0) (by omega)
  rw [List.headD_eq_head?_getD, List.head?_eq_getElem?, this]
  simp
theorem isStr_of {w : List Nat} {i l : Nat} (hl : 1 ≤ l) (h : w = upN i l) : isStr w := by
  unfold isStr
  rw [h, head_upN hl, upN_len]
theorem str_join {a b : List Nat} (ha : a ≠ []) (hb : b ≠ []) : stOf (a ++ b) = joinS (stOf a) (stOf b) := by
  have la : 1 ≤ a.length := List.length_pos_iff.mpr ha
  have lb : 1 ≤ b.length := List.length_pos_iff.mpr hb
  have split : isStr (a ++ b) → a = upN ((a ++ b).headD 0) a.length ∧ b = upN ((a ++ b).headD 0 + a.length) b.length := fun h => by
    unfold isStr at h
    rw [List.length_append, upN_app] at h
    exact List.append_inj h (by rw [upN_len])
  by_cases hA : isStr a
  · by_cases hB : isStr b
    · have eA : stOf a = some (a.headD 0, a.headD 0 + a.length - 1) := if_pos hA
      have eB : stOf b = some (b.headD 0, b.headD 0 + b.length - 1) := if_pos hB
      rw [eA, eB]
      show _ = if a.headD 0 + a.length - 1 + 1 = b.headD 0 then some (a.headD 0, b.headD 0 + b.length - 1) else none
      by_cases h : a.headD 0 + a.length - 1 + 1 = b.headD 0
      · rw [if_pos h]
        have e : a ++ b = upN (a.headD 0) (a.length + b.length) := by
          rw [upN_app, ← hA, show a.headD 0 + a.length = b.headD 0 by omega, ← hB]
        have hs := isStr_of (by omega) e
        have hh : (a ++ b).headD 0 = a.headD 0 := by rw [e, head_upN (by omega)]
        unfold stOf
        rw [if_pos hs, hh, List.length_append]
        congr 2
        omega
      · rw [if_neg h]
        refine if_neg fun z => h ?_
        obtain ⟨z1, z2⟩ := split z
        have h1 : a.headD 0 = (a ++ b).headD 0 := (congrArg (fun l : List Nat => l.headD 0) z1).trans (head_upN la)
        have h2 : b.headD 0 = (a ++ b).headD 0 + a.length := (congrArg (fun l : List Nat => l.headD 0) z2).trans (head_upN lb)
        omega
    · have eB : stOf b = none := if_neg hB
      rw [eB]
      have : joinS (stOf a) none = none := by cases stOf a <;> rfl
      rw [this]
      exact if_neg fun z => hB (isStr_of lb (split z).2)
  · have eA : stOf a = none := if_neg hA
    rw [eA]
    have : joinS none (stOf b) = none := rfl
    rw [this]
    exact if_neg fun z => hA (isStr_of la (split z).1)
theorem str_place (k : Nat) : stOf [k] = some (k, k) := by
  have : isStr [k] := by
    show [k] = [k + 0]
    rfl
  unfold stOf
  rw [if_pos this]
  rfl
def strD (x y : PyData) : PyData := match x, y with
  | .tuple [.int a, .int b], .tuple [.int c, .int d] => if b + 1 = c then .tuple [.int a, .int d] else .none
  | _, _ => .none
theorem strD_enc (s t : Option (Nat × Nat)) : strD (encS s) (encS t) = encS (joinS s t) := by
  cases s with
  | none => rfl
  | some p => cases t with
    | none => rfl
    | some q =>
      show (if ((p.2 : Nat) : Int) + 1 = ((q.1 : Nat) : Int) then PyData.tuple [.int (p.1 : Int), .int (q.2 : Int)] else .none) = encS (if p.2 + 1 = q.1 then some (p.1, q.2) else none)
      by_cases h : p.2 + 1 = q.1
      · rw [if_pos h, if_pos (by omega)]
        rfl
      · rw [if_neg h, if_neg (by omega)]
        rfl
def strsD (n : Nat) (bs : List (Nat × Nat)) : List PyData := runD strD ((List.range n).map fun k => .tuple [nI k, nI k]) bs
theorem wordsOf_run (n : Nat) (bs : List (Nat × Nat)) : wordsOf n bs = runA (fun a b => a ++ b) [] ((List.range n).map fun k => [k]) bs := rfl
theorem strs_words {n : Nat} {bs : List (Nat × Nat)} (hb : boxOk n 0 bs) : strsD n bs = (wordsOf n bs).map fun w => encS (stOf w) := by
  have e : ((List.range n).map fun k => PyData.tuple [nI k, nI k]) = ((List.range n).map fun k => [k]).map fun w => encS (stOf w) := by
    rw [List.map_map]
    refine List.map_congr_left fun k _ => ?_
    show _ = encS (stOf [k])
    rw [str_place]
    rfl
  unfold strsD
  rw [e, runD_eq, wordsOf_run]
  refine runA_map (P := fun w : List Nat => w ≠ []) (n := n) (fun a b ha _ h => ha (List.append_eq_nil_iff.mp h).1) (fun a b ha hb => ?_) bs _ (fun w hw => ?_) (by simpa using hb) (by simp)
  · show strD (encS (stOf a)) (encS (stOf b)) = encS (stOf (a ++ b))
    rw [strD_enc, str_join ha hb]
  · obtain ⟨k, _, rfl⟩ := List.mem_map.mp hw
    nofun
theorem word_ne {n : Nat} {bs : List (Nat × Nat)} (hb : boxOk n 0 bs) : ∀ w ∈ wordsOf n bs, w ≠ [] := by
  rw [wordsOf_run]
  refine runA_all (P := fun w : List Nat => w ≠ []) (n := n) (fun a b ha _ h => ha (List.append_eq_nil_iff.mp h).1) bs _ (fun w hw => ?_) (by simpa using hb) (by simp)
  obtain ⟨k, _, rfl⟩ := List.mem_map.mp hw
  nofun
theorem str_short {n : Nat} {w : List Nat} (he : ∀ k ∈ w, k < n) (hw : w ≠ []) (hs : isStr w) : w.length ≤ n := by
  have l : 1 ≤ w.length := List.length_pos_iff.mpr hw
  have g : (upN (w.headD 0) w.length)[w.length - 1]? = some (w.headD 0 + (w.length - 1)) := upN_get (by omega)
  have hs' : w = upN (w.headD 0) w.length := hs
  rw [← hs'] at g
  have := he _ (List.mem_of_getElem? g)
  omega
theorem nIs_eqv : ∀ a b : List Nat, PyData.eqvAll (a.map nI) (b.map nI) = decide (a = b)
  | [], [] => rfl
  | [], _ :: _ => rfl
  | _ :: _, [] => rfl
  | x :: a, y :: b => by
    show (PyData.eqv (nI x) (nI y) && PyData.eqvAll (a.map nI) (b.map nI)) = _
    rw [nI_eqv, nIs_eqv a b]
    by_cases h : x = y
    · by_cases h2 : a = b
      · subst h; subst h2; simp
      · rw [decide_eq_false h2, Bool.and_false, decide_eq_false fun z => h2 (List.cons.inj z).2]
    · rw [decide_eq_false h, Bool.false_and, decide_eq_false fun z => h (List.cons.inj z).1]
theorem encW_eqv (a b : List Nat) : PyData.eqv (encW a) (encW b) = decide (a = b) := nIs_eqv a b
theorem shaped_encW (a : List Nat) : SeqAt.shaped (encW a) = true := by
  have h1 : PyData.canLay0 (encW a) = true := by
    simp only [encW, PyData.canLay0]
    exact canLay_nI a
  have h2 : PyData.depth (encW a) = 1 := by
    simp only [encW, PyData.depth]
    rw [depth_nI]
  unfold SeqAt.shaped
  rw [h1, h2]
  rfl
theorem dict_encW (a : List Nat) : PyData.hasDict (encW a) = false := by
  simp only [encW, PyData.hasDict]
  exact dict_nI a
/-- what a wire's word begins with -/
def encH (w : List Nat) : PyData := .tuple [nI w.length, encW (w.take 13)]
theorem take_app (a b : List Nat) (k : Nat) : (a.take k ++ b.take k).take k = (a ++ b).take k := by
  rw [List.take_append, List.take_append, List.take_take, Nat.min_self, List.length_take]
  by_cases h : k ≤ a.length
  · rw [Nat.min_eq_left h, Nat.sub_self, List.take_zero, show k - a.length = 0 by omega, List.take_zero]
  · rw [Nat.min_eq_right (by omega), List.take_take, Nat.min_eq_left (by omega)]
theorem encS_facts (s : Option (Nat × Nat)) (h : ∀ p, s = some p → p.1 < 2 ^ 64 ∧ p.2 < 2 ^ 64) : PyData.showable (encS s) = true ∧ PyData.hasDict (encS s) = false ∧ PyData.depth (encS s) ≤ 1 ∧ cost (encS s) ≤ 200 := by
  cases s with
  | none => exact ⟨rfl, rfl, Nat.zero_le _, by show cost PyData.none ≤ 200; simp only [cost]; decide⟩
  | some p =>
    obtain ⟨a, b, c, d⟩ := encW_facts (L := 2) (w := [p.1, p.2]) (Nat.le_refl _) (fun k hk => by
      rcases List.mem_cons.mp hk with z | z
      · rw [z]; exact (h p rfl).1
      · rw [List.mem_singleton.mp z]; exact (h p rfl).2)
    exact ⟨a, b, Nat.le_of_eq c, Nat.le_trans d (by decide)⟩
theorem encSs_facts : ∀ {ss : List (Option (Nat × Nat))}, (∀ s ∈ ss, ∀ p, s = some p → p.1 < 2 ^ 64 ∧ p.2 < 2 ^ 64) → PyData.showableAll (ss.map encS) = true ∧ PyData.hasDictAll (ss.map encS) = false ∧ PyData.depthAll (ss.map encS) ≤ 1 ∧ costs (ss.map encS) ≤ 202 * ss.length
  | [], _ => ⟨rfl, rfl, Nat.zero_le _, Nat.le_refl _⟩
  | w :: r, h1 => by
    obtain ⟨a, b, c, d⟩ := encSs_facts (ss := r) fun x hx => h1 x (List.mem_cons_of_mem _ hx)
    obtain ⟨a', b', c', d'⟩ := encS_facts w (h1 w List.mem_cons_self)
    refine ⟨?_, ?_, ?_, ?_⟩
    · show (PyData.showable (encS w) && PyData.showableAll (r.map encS)) = true
      rw [a, a']; rfl
    · show (PyData.hasDict (encS w) || PyData.hasDictAll (r.map encS)) = false
      rw [b, b']; rfl
    · show max (PyData.depth (encS w)) (PyData.depthAll (r.map encS)) ≤ 1
      omega
    · show cost (encS w) + 2 + costs (r.map encS) ≤ 202 * (r.length + 1)
      omega
theorem shows_encS (s : Option (Nat × Nat)) (h : ∀ p, s = some p → p.1 < 2 ^ 64 ∧ p.2 < 2 ^ 64) : Shows (encS s) := by
  obtain ⟨a, b, c, d⟩ := encS_facts s h
  exact ⟨a, b, by omega, Nat.le_trans d (by decide)⟩
theorem shows_encSs {ss : List (Option (Nat × Nat))} (hn : ss.length ≤ 1000) (h : ∀ s ∈ ss, ∀ p, s = some p → p.1 < 2 ^ 64 ∧ p.2 < 2 ^ 64) : Shows (.list (ss.map encS)) := by
  obtain ⟨a, b, c, d⟩ := encSs_facts h
  refine ⟨?_, ?_, ?_, ?_⟩
  · simp only [PyData.showable]; exact a
  · simp only [PyData.hasDict]; exact b
  · simp only [PyData.depth]; omega
  · simp only [cost]
    have : 202 * ss.length ≤ 202 * 1000 := Nat.mul_le_mul_left _ hn
    exact Nat.le_trans (show costs (ss.map encS) + 2 ≤ 202 * 1000 + 2 by omega) (by decide)
theorem str_small {n : Nat} {w : List Nat} (he : ∀ k ∈ w, k < n) (hn : n ≤ 12) (hw : w ≠ []) : ∀ p, stOf w = some p → p.1 < 2 ^ 64 ∧ p.2 < 2 ^ 64 := fun p hp => by
  unfold stOf at hp
  split at hp
  · rename_i hs
    cases hp
    have l := str_short he hw hs
    have l1 : 1 ≤ w.length := List.length_pos_iff.mpr hw
    have g : w[0]? = some (w.headD 0) := by
      rw [List.headD_eq_head?_getD, List.head?_eq_getElem?, List.getElem?_eq_getElem (show 0 < w.length by omega)]
      rfl
    have := he _ (List.mem_of_getElem? g)
    have e64 : (2 : Nat) ^ 64 = 18446744073709551616 := by decide
    constructor
    · show w.headD 0 < 2 ^ 64
      omega
    · show w.headD 0 + w.length - 1 < 2 ^ 64
      omega
  · cases hp
end My

/-! what an expression's data are; isinstance, str, ranges as values -/
namespace My
open PySem PySem.Spec PyProof.Rows L2
section
variable {X : Cx} {K : PySem.W.Frag} {k : Nat}
theorem call_isiK (h : X.K = K := by rfl) : CallR X (.builtin "isinstance") (rIsi K) := h ▸ call_isi
theorem op_notin_rng : OpR X (compareOp .NotIn) (fun x y H Q => ∃ i a lo hi, x = V.int i ∧ y = V.ref a ∧ H a = some (.rng lo hi) ∧ Q (.bl (!decide (lo ≤ i ∧ i < hi))) H) := by
  intro pins s σ H x y v u Q I rx ry h
  obtain ⟨i, a, lo, hi, rfl, rfl, ha, q⟩ := h
  obtain ⟨k, rfl⟩ := rx
  obtain rfl : u = Value.ref a := ry
  obtain ⟨t1, t2, t3, ho⟩ := I.hok a _ ha
  show wpAny _ _ (do return Value.bool (!(← contains (Value.ref a) (Value.int i k)))) _ _ s
  refine wpAny_bind (wpAny_contains_slot (T := "range") ⟨_, ho, rfl⟩ F.slot_range_contains (call_meets F.slot_range_contains ⟨_, ho, rfl⟩ F.entry_range_contains (F.args_range_contains_2 _ _) (q_contains a lo hi i t1 t2 t3 k)
    ⟨ho, wpAny_truthy_bool (wpAny_pure ⟨.bl _, H, I, rfl, ?_⟩)⟩))
  rw [place1]
  exact q
/-- str(x): of an int or of a list or tuple -/
def rStrD (K : PySem.W.Frag) : List V → Hp → VK → Prop := fun xs H Q =>
  (∃ i, xs = [.int i] ∧ i.natAbs.log2 < 1920 ∧ Q (.str (toString i)) H) ∨ ∃ a d, xs = [.ref a] ∧ Dp K H (.ref a) d ∧ Shows d ∧ Q (.str d.shown) H
theorem call_strD (hr : Rm k X.A) : CallR X (.type "str") (rStrD X.K) := by
  refine CallR.or call_str_int ?_
  intro pins s σ H xs us Q I r h
  obtain ⟨a, d, rfl, hd, S, q⟩ := h
  obtain ⟨u, rfl, ru⟩ := vals1 r
  have hz : d.shown.length ≤ sizeLine := Nat.le_trans (shown_le d S.n) S.z
  have hu := hr.r.units
  obtain ⟨as, rd⟩ := Dp.reads I d _ u hd ru
  obtain rfl : u = Value.ref a := ru
  have := S.dp
  refine str_of_reads rd S.s (PyData.noDict_hsm S.n) hr.g (by omega) (fun _ _ e => e) (fun h' t tk kp => ?_) hz
  exact ⟨.str d.shown, H, I.kept (h' := h') (t' := tk) kp, ⟨t, rfl⟩, q⟩
theorem call_strK (hr : Rm k X.A) (h : X.K = K := by rfl) : CallR X (.type "str") (rStrD K) := h ▸ call_strD hr
end
theorem Dq.tyx {M : List Addr} {H : Hp} {K : PySem.W.Frag} {v : V} {d : PyData} (x : Dq M H v d) : TyX K H v (.type (tyName d)) := by
  cases x with
  | non => exact .base .non
  | bl b => exact .base (.bl b)
  | int i => exact .base (.int i)
  | str z => exact .base (.str z)
  | lst _ e _ => exact .base (.lst e)
  | tup _ e _ => exact .base (.tup e)
  | dct _ e => exact .base (.dK e)
def isTupD : PyData → Bool | .tuple _ => true | _ => false
def isIntD : PyData → Bool | .int _ => true | .bool _ => true | _ => false
def isBoolD : PyData → Bool | .bool _ => true | _ => false
def isStrD : PyData → Bool | .str _ => true | _ => false
theorem kit_tup (d : PyData) : kitB (tyName d) "tuple" = some (isTupD d) := by
  cases d with
  | none => exact (by decide +kernel : kitB "NoneType" "tuple" = some false)
  | bool _ => exact (by decide +kernel : kitB "bool" "tuple" = some false)
  | int _ => exact (by decide +kernel : kitB "int" "tuple" = some false)
  | str _ => exact (by decide +kernel : kitB "str" "tuple" = some false)
  | list _ => exact (by decide +kernel : kitB "list" "tuple" = some false)
  | tuple _ => exact (by decide +kernel : kitB "tuple" "tuple" = some true)
  | dict _ => exact (by decide +kernel : kitB "dict" "tuple" = some false)
theorem kit_int (d : PyData) : kitB (tyName d) "int" = some (isIntD d) := by
  cases d with
  | none => exact (by decide +kernel : kitB "NoneType" "int" = some false)
  | bool _ => exact (by decide +kernel : kitB "bool" "int" = some true)
  | int _ => exact (by decide +kernel : kitB "int" "int" = some true)
  | str _ => exact (by decide +kernel : kitB "str" "int" = some false)
  | list _ => exact (by decide +kernel : kitB "list" "int" = some false)
  | tuple _ => exact (by decide +kernel : kitB "tuple" "int" = some false)
  | dict _ => exact (by decide +kernel : kitB "dict" "int" = some false)
theorem kit_bool (d : PyData) : kitB (tyName d) "bool" = some (isBoolD d) := by
  cases d with
  | none => exact (by decide +kernel : kitB "NoneType" "bool" = some false)
  | bool _ => exact (by decide +kernel : kitB "bool" "bool" = some true)
  | int _ => exact (by decide +kernel : kitB "int" "bool" = some false)
  | str _ => exact (by decide +kernel : kitB "str" "bool" = some false)
  | list _ => exact (by decide +kernel : kitB "list" "bool" = some false)
  | tuple _ => exact (by decide +kernel : kitB "tuple" "bool" = some false)
  | dict _ => exact (by decide +kernel : kitB "dict" "bool" = some false)
theorem kit_str (d : PyData) : kitB (tyName d) "str" = some (isStrD d) := by
  cases d with
  | none => exact (by decide +kernel : kitB "NoneType" "str" = some false)
  | bool _ => exact (by decide +kernel : kitB "bool" "str" = some false)
  | int _ => exact (by decide +kernel : kitB "int" "str" = some false)
  | str _ => exact (by decide +kernel : kitB "str" "str" = some true)
  | list _ => exact (by decide +kernel : kitB "list" "str" = some false)
  | tuple _ => exact (by decide +kernel : kitB "tuple" "str" = some false)
  | dict _ => exact (by decide +kernel : kitB "dict" "str" = some false)
theorem isiD {M : List Addr} {H : Hp} {K : PySem.W.Frag} {v : V} {d : PyData} {n : String} {b : Bool} {Q : VK} (x : Dq M H v d) (k : kitB (tyName d) n = some b) (q : Q (.bl b) H) : rIsi K [v, .ty n] H Q :=
  ⟨v, .ty n, _, _, b, rfl, .ty n, x.tyx, kit_ty k, q⟩
/-! ### an expression that comes to data -/
/-- data without dicts, not deep -/
def Sml (n : Nat) (d : PyData) : Prop := d.canLay0 = true ∧ d.depth ≤ n
theorem sml_all {n : Nat} : ∀ {ds : List PyData}, (∀ x ∈ ds, Sml n x) → PyData.canLayAll0 ds = true ∧ PyData.depthAll ds ≤ n
  | [], _ => ⟨rfl, Nat.zero_le _⟩
  | d :: r, h => by
    obtain ⟨a, b⟩ := h d List.mem_cons_self
    obtain ⟨a', b'⟩ := sml_all fun x hx => h x (List.mem_cons_of_mem _ hx)
    refine ⟨?_, ?_⟩
    · show (PyData.canLay0 d && PyData.canLayAll0 r) = true
      rw [a, a']
      rfl
    · show max (PyData.depth d) (PyData.depthAll r) ≤ n
      omega
theorem sml_items {n : Nat} : ∀ {ds : List PyData}, PyData.canLayAll0 ds = true → PyData.depthAll ds ≤ n → ∀ x ∈ ds, Sml n x
  | [], _, _, _, z => nomatch z
  | d :: r, a, b, x, hx => by
    have a' : (PyData.canLay0 d && PyData.canLayAll0 r) = true := a
    have b' : max (PyData.depth d) (PyData.depthAll r) ≤ n := b
    rw [Bool.and_eq_true] at a'
    rcases List.mem_cons.mp hx with rfl | hx
    · exact ⟨a'.1, by omega⟩
    · exact sml_items a'.2 (by omega) x hx
theorem sml_tup {n : Nat} {ds : List PyData} (h : ∀ x ∈ ds, Sml n x) : Sml (n + 1) (.tuple ds) := by
  obtain ⟨a, b⟩ := sml_all h
  exact ⟨by simp only [PyData.canLay0]; exact a, by simp only [PyData.depth]; omega⟩
theorem sml_lst {n : Nat} {ds : List PyData} (h : ∀ x ∈ ds, Sml n x) : Sml (n + 1) (.list ds) := by
  obtain ⟨a, b⟩ := sml_all h
  exact ⟨by simp only [PyData.canLay0]; exact a, by simp only [PyData.depth]; omega⟩
theorem sml_out {n : Nat} {ds : List PyData} (h : Sml (n + 1) (.tuple ds)) : ∀ x ∈ ds, Sml n x := by
  obtain ⟨a, b⟩ := h
  simp only [PyData.canLay0] at a
  simp only [PyData.depth] at b
  exact sml_items a (by omega)
theorem Sml.mono {m n : Nat} {d : PyData} (h : Sml m d) (e : m ≤ n) : Sml n d := ⟨h.1, Nat.le_trans h.2 e⟩
theorem sml_int {n : Nat} {i : Int} : Sml n (.int i) := ⟨rfl, Nat.zero_le _⟩
theorem sml_bl {n : Nat} {b : Bool} : Sml n (.bool b) := ⟨rfl, Nat.zero_le _⟩
theorem strOk_of (s : String) : PyData.strOk (Str.ofString s) = true := by
  rw [Str.ofString_eq_toList]
  unfold PyData.strOk
  simp only [List.all_toArray, List.all_map, List.all_eq_true]
  intro c _
  have h := c.valid
  simp only [UInt32.isValidChar, Nat.isValidChar] at h
  refine decide_eq_true ?_
  show c.val.toNat < 0x110000
  omega
theorem sml_str {n : Nat} {x : String} : Sml n (.str (Str.ofString x)) := ⟨strOk_of x, Nat.zero_le _⟩
theorem sml_non {n : Nat} : Sml n .none := ⟨rfl, Nat.zero_le _⟩
section
variable {c : Ct} {M : List Addr} {sp : Addr} {σ : L2.St} {H : Hp} {K : PySem.W.Frag}
def EvA (c : Ct) (M : List Addr) (sp : Addr) (te : TE) (σ : L2.St) (H : Hp) (P : PyData → Prop) : Prop :=
  ∀ H1, Sm c [sp] H H1 → Spr H1 sp → ∀ Q : VK, (∀ v H2 d, Sm c [sp] H1 H2 → Spr H2 sp → Dq M H2 v d → P d → Q v H2) → te σ H1 Q
def EvN (c : Ct) (M : List Addr) (sp : Addr) (k : Nat) (ta : TA) (σ : L2.St) (H : Hp) (Pe : PyData → Prop) : Prop :=
  ∀ H1, Sm c [sp] H H1 → Spr H1 sp → ∀ R : List V → Hp → Prop, (∀ vs H2 ds, Sm c [sp] H1 H2 → Spr H2 sp → Dqs M H2 vs ds → ds.length = k → (∀ d ∈ ds, Pe d) → R vs H2) → ta σ H1 R
def EvO (c : Ct) (sp : Addr) (to : TO) (σ : L2.St) (H : Hp) : Prop :=
  ∀ H1, Sm c [sp] H H1 → Spr H1 sp → ∀ R : Option Int → Hp → Prop, (∀ o H2, Sm c [sp] H1 H2 → Spr H2 sp → R o H2) → to σ H1 R
def PAny : PyData → Prop := fun _ => True
def PInt : PyData → Prop := fun d => ∃ i, d = .int i
def PTup (lo hi : Nat) (Pe : PyData → Prop) : PyData → Prop := fun d => ∃ ds, d = .tuple ds ∧ lo ≤ ds.length ∧ ds.length ≤ hi ∧ ∀ x ∈ ds, Pe x
def PLst (lo hi : Nat) (Pe : PyData → Prop) : PyData → Prop := fun d => ∃ ds, d = .list ds ∧ lo ≤ ds.length ∧ ds.length ≤ hi ∧ ∀ x ∈ ds, Pe x
theorem EvA.mono {te : TE} {P P' : PyData → Prop} (h : EvA c M sp te σ H P) (hP : ∀ d, P d → P' d) : EvA c M sp te σ H P' := fun H1 s1 r1 Q hq =>
  h H1 s1 r1 Q fun v H2 d s2 r2 dv pd => hq v H2 d s2 r2 dv (hP d pd)
theorem EvA.on {te : TE} {P : PyData → Prop} {H' : Hp} (s : Sm c [sp] H H') (h : EvA c M sp te σ H P) : EvA c M sp te σ H' P := fun H1 s1 => h H1 (s.trans s1)
theorem PTup.mono {lo hi : Nat} {Pe Pe2 : PyData → Prop} {d : PyData} (h : PTup lo hi Pe d) (f : ∀ x, Pe x → Pe2 x) : PTup lo hi Pe2 d := by
  obtain ⟨ds, e, a, b, h⟩ := h
  exact ⟨ds, e, a, b, fun x hx => f x (h x hx)⟩
theorem PTup.sml {lo hi n : Nat} {d : PyData} (h : PTup lo hi (Sml n) d) : Sml (n + 1) d := by
  obtain ⟨ds, rfl, _, _, h⟩ := h
  exact sml_tup h
theorem PLst.sml {lo hi n : Nat} {d : PyData} (h : PLst lo hi (Sml n) d) : Sml (n + 1) d := by
  obtain ⟨ds, rfl, _, _, h⟩ := h
  exact sml_lst h
theorem PInt.sml {n : Nat} {d : PyData} (h : PInt d) : Sml n d := by
  obtain ⟨i, rfl⟩ := h
  exact sml_int
theorem ev_var {i : Nat} {v : V} {d : PyData} {P : PyData → Prop} (ms : sp ∈ M) (h : σ[i]? = some (some v)) (dv : Dq M H v d) (p : P d) : EvA c M sp (tVar i) σ H P := fun H1 s1 r1 Q hq =>
  ⟨v, h, hq v H1 d Sm.refl r1 (dv.sm (s1.sub fun z hz => by rw [List.mem_singleton.mp hz]; exact ms)) p⟩
theorem ev_int {i : Int} {P : PyData → Prop} (p : P (.int i)) : EvA c M sp (tC (.int i)) σ H P := fun H1 _ r1 Q hq => hq _ H1 _ Sm.refl r1 (.int i) p
theorem ev_bl {b : Bool} {P : PyData → Prop} (p : P (.bool b)) : EvA c M sp (tC (.bl b)) σ H P := fun H1 _ r1 Q hq => hq _ H1 _ Sm.refl r1 (.bl b) p
theorem ev_str {x : Str} {P : PyData → Prop} (p : P (.str x)) : EvA c M sp (tC (.str x)) σ H P := fun H1 _ r1 Q hq => hq _ H1 _ Sm.refl r1 (.str x) p
theorem ev_non {P : PyData → Prop} (p : P .none) : EvA c M sp (tC .non) σ H P := fun H1 _ r1 Q hq => hq _ H1 _ Sm.refl r1 .non p
theorem evN_nil {Pe : PyData → Prop} : EvN c M sp 0 tNil σ H Pe := fun H1 _ r1 R hR => hR [] H1 [] Sm.refl r1 .nil rfl (fun _ z => nomatch z)
theorem evN_cons {te : TE} {ta : TA} {n : Nat} {Pe : PyData → Prop} (ms : sp ∈ M) (h : EvA c M sp te σ H Pe) (t : EvN c M sp n ta σ H Pe) : EvN c M sp (n + 1) (tCons te ta) σ H Pe := fun H1 s1 r1 R hR =>
  h H1 s1 r1 _ fun v H2 d s2 r2 dv pd => t H2 (s1.trans s2) r2 _ fun vs H3 ds s3 r3 dvs hl he => hR _ H3 (d :: ds) (s2.trans s3) r3 (.cons (dv.sm (s3.sub fun z hz => by rw [List.mem_singleton.mp hz]; exact ms)) dvs) (by rw [List.length_cons, hl]) (fun x hx => by
    rcases List.mem_cons.mp hx with z | z
    · rw [z]; exact pd
    · exact he x z)
theorem evO_none : EvO c sp tNoPart σ H := fun H1 _ r1 R hR => hR none H1 Sm.refl r1
theorem evO_some {te : TE} (h : EvA c M sp te σ H PInt) : EvO c sp (tPart te) σ H := fun H1 s1 r1 R hR =>
  h H1 s1 r1 _ fun v H2 d s2 r2 dv ⟨i, e⟩ => by
    subst e
    cases dv.int_inv
    exact ⟨i, rfl, hR _ H2 s2 r2⟩
theorem full1 {H1 : Hp} (hM : ∀ m ∈ M, H m ≠ none) (s : Sm c [sp] H H1) : ∀ m ∈ M, H1 m ≠ none := fun m hm => s.st m (hM m hm)
theorem ev_tup {ta : TA} {n : Nat} {Pe : PyData → Prop} (hM : ∀ m ∈ M, H m ≠ none) (hn : n ≤ 100000) (t : EvN c M sp n ta σ H Pe) : EvA c M sp (tTup ta) σ H (PTup n n Pe) := fun H1 s1 r1 Q hq =>
  t H1 s1 r1 _ fun vs H2 ds s2 r2 dvs hl he => ⟨sz_of (by have := dvs.length; omega), fun p hp => hq _ _ (.tuple ds) (s2.trans (Sm.new hp)) (r2.sm (c := c) (M := []) (Sm.new hp) fun z => nomatch z) (dq_new (full1 hM (s1.trans s2)) hp dvs) ⟨ds, rfl, by omega, by omega, he⟩⟩
theorem ev_lst {ta : TA} {n : Nat} {Pe : PyData → Prop} (hM : ∀ m ∈ M, H m ≠ none) (hn : n ≤ 100000) (t : EvN c M sp n ta σ H Pe) : EvA c M sp (tLst ta) σ H (PLst n n Pe) := fun H1 s1 r1 Q hq =>
  t H1 s1 r1 _ fun vs H2 ds s2 r2 dvs hl he => ⟨sz_of (by have := dvs.length; omega), fun p hp => hq _ _ (.list ds) (s2.trans (Sm.new hp)) (r2.sm (c := c) (M := []) (Sm.new hp) fun z => nomatch z) (dq_newL (full1 hM (s1.trans s2)) hp dvs) ⟨ds, rfl, by omega, by omega, he⟩⟩
theorem ev_dict {P : PyData → Prop} (hM : ∀ m ∈ M, H m ≠ none) (pd : P (.dict [])) : EvA c M sp tDNewK σ H P := fun H1 s1 r1 Q hq p hp =>
  hq _ _ (.dict []) (Sm.new hp) (r1.sm (c := c) (M := []) (Sm.new hp) fun z => nomatch z) (.dct (fun z => full1 hM s1 p z hp) upd_same) pd
/-- an operator -/
theorem ev_op {r : R2} {ta tb : TE} {Pa Pb P : PyData → Prop} (ms : sp ∈ M) (ha : EvA c M sp ta σ H Pa) (hb : EvA c M sp tb σ H Pb)
    (hr : ∀ H2 x y dx dy, Sm c [sp] H H2 → Spr H2 sp → Dq M H2 x dx → Dq M H2 y dy → Pa dx → Pb dy → ∀ Q : VK, (∀ v H3 d, Sm c [sp] H2 H3 → Spr H3 sp → Dq M H3 v d → P d → Q v H3) → r x y H2 Q) : EvA c M sp (tOp r ta tb) σ H P := fun H1 s1 r1 Q hq =>
  ha H1 s1 r1 _ fun x H2 dx s2 r2 hx px => hb H2 (s1.trans s2) r2 _ fun y H3 dy s3 r3 hy py =>
    hr H3 x y dx dy ((s1.trans s2).trans s3) r3 (hx.sm (s3.sub fun z hz => by rw [List.mem_singleton.mp hz]; exact ms)) hy px py Q fun v H4 d s4 r4 dv pd => hq v H4 d ((s2.trans s3).trans s4) r4 dv pd
theorem ev_add {ta tb : TE} (ms : sp ∈ M) (ha : EvA c M sp ta σ H PInt) (hb : EvA c M sp tb σ H PInt) : EvA c M sp (tOp (rAddG K) ta tb) σ H PInt :=
  ev_op ms ha hb fun H2 x y dx dy s2 r2 hx hy px py Q hq => by
    obtain ⟨i, rfl⟩ := px
    obtain ⟨j, rfl⟩ := py
    cases hx.int_inv
    cases hy.int_inv
    exact Or.inl ⟨_, _, rfl, rfl, hq _ H2 _ Sm.refl r2 (.int _) ⟨_, rfl⟩⟩
theorem ev_sub {ta tb : TE} (ms : sp ∈ M) (ha : EvA c M sp ta σ H PInt) (hb : EvA c M sp tb σ H PInt) : EvA c M sp (tOp (rI0 fun i j => .int (i - j)) ta tb) σ H PInt :=
  ev_op ms ha hb fun H2 x y dx dy s2 r2 hx hy px py Q hq => by
    obtain ⟨i, rfl⟩ := px
    obtain ⟨j, rfl⟩ := py
    cases hx.int_inv
    cases hy.int_inv
    exact ⟨_, _, rfl, rfl, hq _ H2 _ Sm.refl r2 (.int _) ⟨_, rfl⟩⟩
theorem ev_pow {i j : Int} (h : CPow i j) : EvA c M sp (tOp (rI CPow fun i j => .int (i ^ j.toNat)) (tC (.int i)) (tC (.int j))) σ H PInt := fun H1 _ r1 Q hq => ⟨i, j, rfl, rfl, h, hq _ H1 _ Sm.refl r1 (.int _) ⟨_, rfl⟩⟩
theorem ev_catL {ta tb : TE} {a1 a2 b1 b2 : Nat} {Pe : PyData → Prop} (hM : ∀ m ∈ M, H m ≠ none) (hz : a2 + b2 ≤ 100000) (ms : sp ∈ M) (ha : EvA c M sp ta σ H (PLst a1 a2 Pe)) (hb : EvA c M sp tb σ H (PLst b1 b2 Pe)) : EvA c M sp (tOp (rAddG K) ta tb) σ H (PLst (a1 + b1) (a2 + b2) Pe) :=
  ev_op ms ha hb fun H2 x y dx dy s2 r2 hx hy px py Q hq => by
    obtain ⟨ds, rfl, l1, l2, m1⟩ := px
    obtain ⟨es, rfl, k1, k2, m2⟩ := py
    obtain ⟨a, xs, rfl, na, ea, da⟩ := hx.lst_inv
    obtain ⟨b, ys, rfl, nb, eb, db⟩ := hy.lst_inv
    have h1 := da.length
    have h2 := db.length
    exact Or.inr (Or.inl ⟨a, b, xs, ys, rfl, rfl, ea, eb, sz_of (by omega), fun p hp => hq _ _ (.list (ds ++ es)) (Sm.new hp) (r2.sm (c := c) (M := []) (Sm.new hp) fun z => nomatch z) (dq_newL (full1 hM s2) hp (da.append db)) ⟨_, rfl, by rw [List.length_append]; omega, by rw [List.length_append]; omega, fun x hx => (List.mem_append.mp hx).elim (m1 x) (m2 x)⟩⟩)
theorem ev_catT {ta tb : TE} {a1 a2 b1 b2 : Nat} {Pe : PyData → Prop} (hM : ∀ m ∈ M, H m ≠ none) (hz : a2 + b2 ≤ 100000) (ms : sp ∈ M) (ha : EvA c M sp ta σ H (PTup a1 a2 Pe)) (hb : EvA c M sp tb σ H (PTup b1 b2 Pe)) : EvA c M sp (tOp (rAddG K) ta tb) σ H (PTup (a1 + b1) (a2 + b2) Pe) :=
  ev_op ms ha hb fun H2 x y dx dy s2 r2 hx hy px py Q hq => by
    obtain ⟨ds, rfl, l1, l2, m1⟩ := px
    obtain ⟨es, rfl, k1, k2, m2⟩ := py
    obtain ⟨a, xs, ex, na, ea, da⟩ := id hx.tup_inv
    obtain ⟨b, ys, ey, nb, eb, db⟩ := id hy.tup_inv
    subst ex
    subst ey
    have h1 := da.length
    have h2 := db.length
    have lo : a1 + b1 ≤ (ds ++ es).length ∧ (ds ++ es).length ≤ a2 + b2 ∧ ∀ x ∈ ds ++ es, Pe x := ⟨by rw [List.length_append]; omega, by rw [List.length_append]; omega, fun x hx => (List.mem_append.mp hx).elim (m1 x) (m2 x)⟩
    refine Or.inr (Or.inr (Or.inl ⟨a, b, xs, ys, rfl, rfl, SqT.of ea, SqT.of eb, sz_of (by omega), fun z => ?_, fun _ z => ?_, fun _ _ p hp => ?_⟩))
    · have e : ds = [] := List.length_eq_zero_iff.mp (by rw [← h1, z]; rfl)
      rw [e, List.nil_append] at lo
      exact hq _ H2 _ Sm.refl r2 hy ⟨es, rfl, lo⟩
    · have e : es = [] := List.length_eq_zero_iff.mp (by rw [← h2, z]; rfl)
      rw [e, List.append_nil] at lo
      exact hq _ H2 _ Sm.refl r2 hx ⟨ds, rfl, lo⟩
    · exact hq _ _ (.tuple (ds ++ es)) (Sm.new hp) (r2.sm (c := c) (M := []) (Sm.new hp) fun z => nomatch z) (dq_new (full1 hM s2) hp (da.append db)) ⟨_, rfl, lo⟩
theorem dqs_flat {H2 : Hp} {vs : List V} {ds : List PyData} (x : Dqs M H2 vs ds) : ∀ n : Nat, Dqs M H2 (List.replicate n vs).flatten (List.replicate n ds).flatten
  | 0 => .nil
  | n + 1 => by
    rw [List.replicate_succ, List.replicate_succ, List.flatten_cons, List.flatten_cons]
    exact x.append (dqs_flat x n)
theorem ev_rep {ta : TE} {n : Nat} {Pe : PyData → Prop} (hM : ∀ m ∈ M, H m ≠ none) (hn : 2 ≤ n ∧ n ≤ 1000) (ms : sp ∈ M) (ha : EvA c M sp ta σ H (PTup 1 1 Pe)) : EvA c M sp (tOp (rMulG K) ta (tC (.int (n : Int)))) σ H (PTup n n Pe) :=
  ev_op ms ha ((fun H1 _ r1 Q hq => hq _ H1 _ Sm.refl r1 (.int _) rfl : EvA c M sp (tC (.int (n : Int))) σ H fun d => d = .int (n : Int))) fun H2 x y dx dy s2 r2 hx hy px py Q hq => by
    obtain ⟨ds, rfl, l1, l2, m1⟩ := px
    subst py
    cases hy.int_inv
    obtain ⟨a, xs, rfl, na, ea, da⟩ := hx.tup_inv
    have h1 := da.length
    refine Or.inr (Or.inr ⟨a, _, xs, rfl, rfl, SqT.of ea, fun z => by rw [z] at h1; simp at h1; omega, by omega, by omega, by omega, fun p hp => ?_⟩)
    have dn := dqs_flat da n
    rw [Int.toNat_natCast]
    exact hq _ _ (.tuple (List.replicate n ds).flatten) (Sm.new hp) (r2.sm (c := c) (M := []) (Sm.new hp) fun z => nomatch z) (dq_new (full1 hM s2) hp dn) ⟨_, rfl, by simp [show ds.length = 1 by omega], by simp [show ds.length = 1 by omega], fun x hx => by
      obtain ⟨l, hl, hx⟩ := List.mem_flatten.mp hx
      rw [List.eq_of_mem_replicate hl] at hx
      exact m1 x hx⟩
theorem Dqs.take {M : List Addr} {H : Hp} : ∀ {vs : List V} {ds : List PyData} (k : Nat), Dqs M H vs ds → Dqs M H (vs.take k) (ds.take k)
  | _, _, 0, _ => .nil
  | _, _, _ + 1, .nil => .nil
  | _, _, k + 1, .cons a r => .cons a (Dqs.take k r)
theorem Dqs.drop {M : List Addr} {H : Hp} : ∀ {vs : List V} {ds : List PyData} (k : Nat), Dqs M H vs ds → Dqs M H (vs.drop k) (ds.drop k)
  | _, _, 0, r => r
  | _, _, _ + 1, .nil => .nil
  | _, _, k + 1, .cons _ r => Dqs.drop k r
/-- a part of a tuple -/
theorem ev_slT {te : TE} {tl th : TO} {lo hi : Nat} {Pe : PyData → Prop} (hM : ∀ m ∈ M, H m ≠ none) (ms : sp ∈ M) (h : EvA c M sp te σ H (PTup lo hi Pe)) (hl : EvO c sp tl σ H) (hh : EvO c sp th σ H) : EvA c M sp (tSl (rSlG K) te tl th) σ H (PTup 0 hi Pe) := fun H1 s1 r1 Q hq =>
  h H1 s1 r1 _ fun x H2 dx s2 r2 hx px => hl H2 (s1.trans s2) r2 _ fun l H3 s3 r3 => hh H3 ((s1.trans s2).trans s3) r3 _ fun u H4 s4 r4 => by
    obtain ⟨ds, rfl, l1, l2, m1⟩ := px
    have sub : ∀ z ∈ [sp], z ∈ M := fun z hz => by rw [List.mem_singleton.mp hz]; exact ms
    have hx4 := hx.sm ((s3.trans s4).sub sub)
    obtain ⟨a, xs, ex, na, ea, da⟩ := id hx4.tup_inv
    subst ex
    have s24 := s2.trans (s3.trans s4)
    refine Or.inr ⟨a, xs, rfl, SqT.of ea, fun _ => hq _ H4 _ s24 r4 hx4 ⟨ds, rfl, Nat.zero_le _, l2, m1⟩, fun _ p hp => ?_⟩
    refine hq _ _ (.tuple ((ds.drop (HT.sIx xs.length 0 l)).take (HT.sIx xs.length xs.length u - HT.sIx xs.length 0 l))) (s24.trans (Sm.new hp)) (r4.sm (c := c) (M := []) (Sm.new hp) fun z => nomatch z) (dq_new (full1 hM (s1.trans s24)) hp ((da.drop _).take _)) ⟨_, rfl, Nat.zero_le _, ?_, fun x hx => m1 x (List.mem_of_mem_drop (List.mem_of_mem_take hx))⟩
    rw [List.length_take, List.length_drop]
    omega
/-- str(x) of a number, or of data that can be shown -/
theorem ev_strI {te : TE} {P : PyData → Prop} (hp : ∀ x : String, P (.str (Str.ofString x))) (h : EvA c M sp te σ H fun d => ∃ i, d = .int i ∧ i.natAbs.log2 < 1920) : EvA c M sp (tCB (rStrD K) (tCons te tNil)) σ H P := fun H1 s1 r1 Q hq =>
  h H1 s1 r1 _ fun x H2 dx s2 r2 hx ⟨i, e, z⟩ => by
    subst e
    cases hx.int_inv
    exact Or.inl ⟨i, rfl, z, hq _ H2 _ s2 r2 (.str _) (hp _)⟩
theorem ev_strD {te : TE} {P : PyData → Prop} (hp : ∀ x : Str, P (.str x)) (h : EvA c M sp te σ H fun d => Shows d ∧ ∃ ds, d = .tuple ds) : EvA c M sp (tCB (rStrD K) (tCons te tNil)) σ H P := fun H1 s1 r1 Q hq =>
  h H1 s1 r1 _ fun x H2 dx s2 r2 hx ⟨S, ds, e⟩ => by
    subst e
    obtain ⟨a, xs, rfl, na, ea, da⟩ := id hx.tup_inv
    exact Or.inr ⟨a, _, rfl, hx.dp S.n, S, hq _ H2 _ s2 r2 (.str _) (hp _)⟩
/-- list(x) of a tuple -/
theorem ev_list {te : TE} {lo hi : Nat} {Pe : PyData → Prop} (hM : ∀ m ∈ M, H m ≠ none) (h : EvA c M sp te σ H (PTup lo hi Pe)) : EvA c M sp (tCB (rListK K) (tCons te tNil)) σ H (PLst lo hi Pe) := fun H1 s1 r1 Q hq =>
  h H1 s1 r1 _ fun x H2 dx s2 r2 hx px => by
    obtain ⟨ds, rfl, l1, l2, m1⟩ := px
    obtain ⟨a, xs, rfl, na, ea, da⟩ := id hx.tup_inv
    exact ⟨a, xs, rfl, Or.inr (SqT.of ea), fun p hp => hq _ _ (.list ds) (s2.trans (Sm.new hp)) (r2.sm (c := c) (M := []) (Sm.new hp) fun z => nomatch z) (dq_newL (full1 hM (s1.trans s2)) hp da) ⟨ds, rfl, l1, l2, m1⟩⟩
end
end My

/-! sets and dicts of numbers -/
namespace My
open PySem PySem.Spec PyProof.Rows L2
open RT (iRevA pi_revA)
section
variable {X : Cx} {K : PySem.W.Frag} {w : World} {k : Nat}
theorem un1 (hr : Rm k X.A) : X.A.units + 1 < cLine := by
  have := hr.r.units
  omega
/-- set(t), t a tuple of numbers -/
def rSetT (w : World) (K : PySem.W.Frag) : List V → Hp → VK → Prop := fun vs H Q => ∃ (p : Addr) (ns : List Int), vs = [.ref p] ∧ SqT K H p (ns.map V.int) ∧ ns.length ≤ 1000 ∧
  ∀ q n, H q = none → n ≤ ns.length → Q (.ref q) (upd H q (SetO w q (fun j => decide (j ∈ ns)) n))
theorem call_setT (hc : X.calm = true) : CallR X (.type "set") (rSetT X.w X.K) := by
  intro pins s σ H xs us Q I r h
  obtain ⟨p0, ns, rfl, hq, hl, q⟩ := h
  obtain ⟨u, rfl, ru⟩ := vals1 r
  cases ru
  obtain ⟨its, rv, pt, hz⟩ := I.tuple hq
  have hi : IntsAre its.toArray.toList ns := ints_of_vals rv
  refine call_set_tupI ns (I.ok.hd hc) (show s.heap.IsTuple p0 its.toArray from pt) hi (by unfold scanBound; omega) fun h' tk c R1 hcn kp => ?_
  exact ⟨.ref _, upd H s.heap.objs.size (SetO X.w s.heap.objs.size (fun j => decide (j ∈ ns)) c), I.laid (t' := tk) kp (Nat.le_refl _) (setO_new R1), rfl, q _ c (I.hok.fresh (Nat.le_refl _)) hcn⟩
theorem call_setK (hc : X.calm = true) (hw : X.w = w := by rfl) (h : X.K = K := by rfl) : CallR X (.type "set") (rSetT w K) := by
  subst hw
  subst h
  exact call_setT hc
theorem or_sinW (hw : X.w = w := by rfl) : OpR X (compareOp .In) (rSIn w) := by
  subst hw
  exact or_sin
theorem or_snotinW (hw : X.w = w := by rfl) : OpR X (compareOp .NotIn) (rSNotIn w) := by
  subst hw
  exact or_snotin
variable {o e : Expr} {es : List Expr} {to : TE} {t : TA} {apos cpos : Pos}
theorem pe_saddK (ho : PE X o to) (ha : PA X (e :: es) t) (hw : X.w = w := by rfl)
    (hbase : attributeBase o "add" X.env (eval o X.env) = eval o X.env := by rfl)
    (hfew : ((backTo cpos (starEach (e :: es) X.env)).all (fun x => !x.1) && (backToKw cpos (keywordEach [] X.env)).all (fun x => x.1.isSome)
      && decide ((e :: es).length + ([] : List Keyword).length + (if ([] : List Keyword).isEmpty then 0 else 1) < 30)) = true := by rfl)
    (hline : (apos.endLine == cpos.line) = true := by rfl) (hs : starEach (e :: es) X.env = (false, eval e X.env) :: starEach es X.env := by rfl) (hplain : (backTo cpos (starEach es X.env)).any (·.1) = false := by rfl) :
    PE X (.Call (.Attribute o "add" apos) (e :: es) [] cpos) (tSAdd w to t) := by
  subst hw
  exact pe_sadd ho ha hbase hfew hline hs hplain
theorem pi_revK {tg e : Expr} {te : TE} {p pos : Pos} (hg : Gl X "reversed") (hm : X.mg "reversed" = none) (he : PE X e te) (hs : starEach [e] X.env = (false, eval e X.env) :: starEach [] X.env := by rfl) (h : X.K = K := by rfl) :
    PI X tg (.Call (.Name "reversed" p) [e] [] pos) (iRevA K te) := by
  subst h
  exact pi_revA hg hm he hs
end
theorem pi_enumK {X : Cx} {K : PySem.W.Frag} {e : Expr} {ta : TA} {p pos tpos : Pos} {elts : List Expr} {kk : Nat} (hg : Gl X "enumerate") (hm : X.mg "enumerate" = none) (ha : PA X [e] ta) (hs : starEach [e] X.env = [(false, eval e X.env)] := by rfl) (h : X.K = K := by rfl) :
    PI X (.Tuple elts kk tpos) (.Call (.Name "enumerate" p) [e] [] pos) (iEnum K ta) := by
  subst h
  exact pi_enum hg hm ha hs
section
variable {c : Ct} {M N : List Addr} {H H' : Hp} {l : Addr} {o o' : HO}
/-- where the text makes no code objects: any object that may change is changed -/
theorem Sm.putX (hT : c.T = []) (hl : l ∈ M) (h : H l = some o) (ho : ∀ ps, o ≠ .tbl ps) : Sm c M H (upd H l o') := by
  refine ⟨fun b u n e _ => by rw [upd_ne (fun z => n (by rw [z]; exact hl))]; exact e, fun b e z => ?_, fun g => ⟨fun P hP => ?_, fun q hq => ?_⟩⟩
  · by_cases hb : b = l
    · rw [hb, upd_same] at z
      cases z
    · rw [upd_ne hb] at z
      exact e z
  · obtain ⟨ps, e, t⟩ := g.g P hP
    refine ⟨ps, ?_, t⟩
    rw [upd_ne (fun z => ho ps (by rw [z, h] at e; exact Option.some.inj e))]
    exact e
  · rw [hT] at hq
    exact nomatch hq
end
theorem setO_tbl {w : World} {a : Addr} {S : Int → Bool} {n : Nat} {ps : Array Value} : SetO w a S n ≠ .tbl ps := fun z => by
  have z' : HO.ext _ = HO.tbl ps := z
  cases z'
theorem dK_tbl {kvs : List (Key × V)} {ps : Array Value} : HO.dK kvs ≠ .tbl ps := nofun
section
variable {J : It} {n : Nat} {G : Hp → Prop} {Y : Nat → Hp → V → Hp → Prop}
/-- a dict comprehension over a walk -/
theorem dc_it (w : Walk J n G Y) {g : TG} {tt : TT} {tk tv : TE} {vs : List Nat} {σ : L2.St} {H1 : Hp} {D : Addr} {Qd : Hp → Prop} (Pv : Nat → Hp → Prop) (h0 : Pv 0 (upd H1 D (.dK []))) (hG : ∀ i H, i ≤ n → Pv i H → G H)
    (hs : ∀ i x H H', i < n → Pv i H → Y i H x H' → g x (wipe σ vs) H' fun σ2 H2 => wipe σ2 vs = wipe σ vs ∧ tt σ2 H2 fun b H3 =>
      if b = true then tk σ2 H3 fun y H4 => tv σ2 H4 fun z H5 => ∃ kvs k, y = kV k ∧ H5 D = some (.dK kvs) ∧ kvs.length < sizeLine ∧ Pv (i + 1) (upd H5 D (.dK (putK kvs k z))) else Pv (i + 1) H3) (hd : ∀ H, Pv n H → Qd H) :
    ∃ W : Nat → Nat → Hp → Prop, (∃ m, W 0 m (upd H1 D (.dK []))) ∧ ∀ i m H, W i m H →
      (J.stop i H ∧ Qd H) ∨ (J.go i H ∧ ∃ Nx : Hp → Prop, (∀ H', Nx H' → ∃ m', m' < m ∧ W (i + 1) m' H') ∧ ∀ x H', J.yld i H x H' → g x (wipe σ vs) H' fun σ2 H2 => wipe σ2 vs = wipe σ vs ∧ tt σ2 H2 fun b H3 =>
        if b = true then tk σ2 H3 fun y H4 => tv σ2 H4 fun z H5 => ∃ kvs k, y = kV k ∧ H5 D = some (.dK kvs) ∧ kvs.length < sizeLine ∧ Nx (upd H5 D (.dK (putK kvs k z))) else Nx H3) := by
  refine ⟨fun i m H => m = n - i ∧ i ≤ n ∧ Pv i H, ⟨n, by simp, Nat.zero_le _, h0⟩, ?_⟩
  rintro i m H ⟨rfl, hi, p⟩
  have q := hG i H hi p
  by_cases hlt : i < n
  · refine .inr ⟨w.goes i H hlt q, Pv (i + 1), fun H' p' => ⟨n - (i + 1), by omega, rfl, hlt, p'⟩, fun x H' y => hs i x H H' hlt p (w.yields i H x H' hlt q y)⟩
  · have e : i = n := by omega
    subst e
    exact .inl ⟨w.stops H q, hd H p⟩
end
end My

/-! what rests on what; nets without what no end needs -/
namespace My
open PySem PySem.Spec PyProof.Rows L2
def markB (n : Nat) (bs : List (Nat × Nat)) (t : Nat) (m : List Bool) : List Bool := if m.getD (n + t) false = true then (m.set (bs.getD t (0, 0)).1 true).set (bs.getD t (0, 0)).2 true else m
def downB (n : Nat) (bs : List (Nat × Nat)) : Nat → List Bool → List Bool
  | 0, m => m
  | t + 1, m => downB n bs t (markB n bs t m)
def startB (k : Nat) (ss : List Nat) : List Bool := ss.foldl (fun m s => m.set s true) (List.replicate k false)
def metOf (n : Nat) (bs : List (Nat × Nat)) (ss : List Nat) : List Bool := downB n bs bs.length (startB (n + bs.length) ss)
theorem getD_set {m : List Bool} {i k : Nat} : (m.set i true).getD k false = (m.getD k false || decide (k = i ∧ i < m.length)) := by
  rw [List.getD_eq_getElem?_getD, List.getD_eq_getElem?_getD, List.getElem?_set]
  by_cases h : i = k
  · subst h
    by_cases h2 : i < m.length
    · simp [h2]
    · simp [h2]
  · have : ¬ (k = i ∧ i < m.length) := fun z => h z.1.symm
    rw [if_neg h, decide_eq_false this, Bool.or_false]
theorem markB_len {n t : Nat} {bs : List (Nat × Nat)} {m : List Bool} : (markB n bs t m).length = m.length := by
  unfold markB
  split
  · rw [List.length_set, List.length_set]
  · rfl
theorem downB_len {n : Nat} {bs : List (Nat × Nat)} : ∀ (t : Nat) (m : List Bool), (downB n bs t m).length = m.length
  | 0, _ => rfl
  | t + 1, m => (downB_len t _).trans markB_len
theorem fold_start : ∀ (ss : List Nat) (m : List Bool), (∀ s ∈ ss, s < m.length) → (ss.foldl (fun m s => m.set s true) m).length = m.length ∧ ∀ i, (ss.foldl (fun m s => m.set s true) m).getD i false = (m.getD i false || decide (i ∈ ss))
  | [], m, _ => ⟨rfl, fun i => by simp⟩
  | s :: r, m, h => by
    obtain ⟨a, b⟩ := fold_start r (m.set s true) fun x hx => by
      rw [List.length_set]
      exact h x (List.mem_cons_of_mem _ hx)
    refine ⟨by show (r.foldl _ (m.set s true)).length = _; rw [a, List.length_set], fun i => ?_⟩
    show (r.foldl _ (m.set s true)).getD i false = _
    rw [b, getD_set, Bool.or_assoc]
    congr 1
    have hs := h s List.mem_cons_self
    by_cases e : i = s
    · simp [e, hs]
    · simp [e]
theorem startB_len {k : Nat} {ss : List Nat} (h : ∀ s ∈ ss, s < k) : (startB k ss).length = k := by
  unfold startB
  rw [(fold_start ss _ (by simpa using h)).1, List.length_replicate]
theorem startB_get {k i : Nat} {ss : List Nat} (h : ∀ s ∈ ss, s < k) : (startB k ss).getD i false = decide (i ∈ ss) := by
  unfold startB
  rw [(fold_start ss _ (by simpa using h)).2, List.getD_eq_getElem?_getD, List.getElem?_replicate]
  split <;> rfl
theorem metOf_len {n : Nat} {bs : List (Nat × Nat)} {ss : List Nat} (h : ∀ s ∈ ss, s < n + bs.length) : (metOf n bs ss).length = n + bs.length := (downB_len _ _).trans (startB_len h)
/-- what the wires of ss rest on -/
inductive Rch (n : Nat) (bs : List (Nat × Nat)) (ss : List Nat) : Nat → Prop
  | start {s : Nat} : s ∈ ss → Rch n bs ss s
  | left {t : Nat} {b : Nat × Nat} : bs[t]? = some b → Rch n bs ss (n + t) → Rch n bs ss b.1
  | right {t : Nat} {b : Nat × Nat} : bs[t]? = some b → Rch n bs ss (n + t) → Rch n bs ss b.2
section
variable {n : Nat} {bs : List (Nat × Nat)} {ss : List Nat}
theorem mark_mono {t i : Nat} {m : List Bool} (h : m.getD i false = true) : (markB n bs t m).getD i false = true := by
  unfold markB
  split
  · rw [getD_set, getD_set, h]
    rfl
  · exact h
theorem down_mono {i : Nat} : ∀ (t : Nat) {m : List Bool}, m.getD i false = true → (downB n bs t m).getD i false = true
  | 0, _, h => h
  | t + 1, _, h => down_mono t (mark_mono h)
theorem mark_high {t i : Nat} {m : List Bool} (hb : boxOk n 0 bs) (ht : t < bs.length) (hi : n + t ≤ i) : (markB n bs t m).getD i false = m.getD i false := by
  obtain ⟨g1, g2⟩ := boxOk_get hb (List.getElem?_eq_getElem ht)
  have e : bs.getD t (0, 0) = bs[t] := getD_of (List.getElem?_eq_getElem ht)
  unfold markB
  split
  · rw [e, getD_set, getD_set, decide_eq_false (show ¬ (i = bs[t].1 ∧ _) by omega), decide_eq_false (show ¬ (i = bs[t].2 ∧ _) by omega), Bool.or_false, Bool.or_false]
  · rfl
theorem down_high {i : Nat} (hb : boxOk n 0 bs) : ∀ (t : Nat) {m : List Bool}, t ≤ bs.length → n + t ≤ i → (downB n bs t m).getD i false = m.getD i false
  | 0, _, _, _ => rfl
  | t + 1, m, ht, hi => by
    show (downB n bs t (markB n bs t m)).getD i false = _
    rw [down_high hb t (by omega) (by omega), mark_high hb (by omega) (by omega)]
theorem down_sound : ∀ (t : Nat) {m : List Bool}, t ≤ bs.length → (∀ i, m.getD i false = true → Rch n bs ss i) → ∀ i, (downB n bs t m).getD i false = true → Rch n bs ss i
  | 0, _, _, h => h
  | t + 1, m, ht, h => by
    refine down_sound t (by omega) fun i hi => ?_
    unfold markB at hi
    split at hi
    · rename_i hm
      have r := h _ hm
      have gb : bs[t]? = some bs[t] := List.getElem?_eq_getElem (by omega)
      rw [getD_of gb, getD_set, getD_set] at hi
      simp only [Bool.or_eq_true, decide_eq_true_eq] at hi
      rcases hi with (hi | ⟨e, _⟩) | ⟨e, _⟩
      · exact h i hi
      · rw [e]
        exact .left gb r
      · rw [e]
        exact .right gb r
    · exact h i hi
theorem down_closed {k : Nat} (hb : boxOk n 0 bs) : ∀ (t : Nat) {m : List Bool}, t ≤ bs.length → m.length = n + bs.length → k < t → (downB n bs t m).getD (n + k) false = true →
    (downB n bs t m).getD (bs.getD k (0, 0)).1 false = true ∧ (downB n bs t m).getD (bs.getD k (0, 0)).2 false = true
  | 0, _, _, _, h, _ => nomatch h
  | t + 1, m, ht, hm, hk, h => by
    by_cases e : k = t
    · subst e
      have hk' : k < bs.length := by omega
      obtain ⟨g1, g2⟩ := boxOk_get hb (List.getElem?_eq_getElem hk')
      have eb : bs.getD k (0, 0) = bs[k] := getD_of (List.getElem?_eq_getElem hk')
      have h' : m.getD (n + k) false = true := by
        have h : (downB n bs k (markB n bs k m)).getD (n + k) false = true := h
        rwa [down_high hb k (by omega) (Nat.le_refl _), mark_high hb hk' (Nat.le_refl _)] at h
      refine ⟨down_mono k ?_, down_mono k ?_⟩
      · unfold markB
        rw [if_pos h', eb, getD_set, getD_set, decide_eq_true (show bs[k].1 = bs[k].1 ∧ bs[k].1 < m.length by omega), Bool.or_true, Bool.true_or]
      · unfold markB
        rw [if_pos h', eb, getD_set, decide_eq_true (show bs[k].2 = bs[k].2 ∧ bs[k].2 < (m.set bs[k].1 true).length by rw [List.length_set]; omega), Bool.or_true]
    · exact down_closed hb t (by omega) (markB_len.trans hm) (by omega) h
theorem met_rch (hs : ∀ s ∈ ss, s < n + bs.length) {i : Nat} (h : (metOf n bs ss).getD i false = true) : Rch n bs ss i :=
  down_sound _ (Nat.le_refl _) (fun i hi => by
    rw [startB_get hs] at hi
    exact .start (of_decide_eq_true hi)) i h
theorem rch_met (hb : boxOk n 0 bs) (hs : ∀ s ∈ ss, s < n + bs.length) {i : Nat} (h : Rch n bs ss i) : (metOf n bs ss).getD i false = true := by
  induction h with
  | start h => exact down_mono _ (by rw [startB_get hs]; exact decide_eq_true h)
  | left h _ ih =>
    have := (down_closed hb _ (Nat.le_refl _) (startB_len hs) (List.getElem?_eq_some_iff.mp h).1 ih).1
    rwa [getD_of h] at this
  | right h _ ih =>
    have := (down_closed hb _ (Nat.le_refl _) (startB_len hs) (List.getElem?_eq_some_iff.mp h).1 ih).2
    rwa [getD_of h] at this
end
/-! ### without what is not needed -/
def cntB (keep : Nat → Bool) (t : Nat) : Nat := ((List.range t).filter keep).length
def nmOf (n : Nat) (keep : Nat → Bool) (i : Nat) : Nat := if i < n then i else n + cntB keep (i - n)
def keptOf (keep : Nat → Bool) (k : Nat) : List Nat := (List.range k).filter keep
def newB (n : Nat) (bs : List (Nat × Nat)) (keep : Nat → Bool) (t : Nat) : Nat × Nat := (nmOf n keep (bs.getD t (0, 0)).1, nmOf n keep (bs.getD t (0, 0)).2)
def trimB (n : Nat) (bs : List (Nat × Nat)) (keep : Nat → Bool) : List (Nat × Nat) := (keptOf keep bs.length).map (newB n bs keep)
theorem kept_succ {keep : Nat → Bool} {k : Nat} : keptOf keep (k + 1) = keptOf keep k ++ (if keep k = true then [k] else []) := by
  unfold keptOf
  rw [List.range_succ, List.filter_append, List.filter_cons]
  rfl
theorem cnt_succ {keep : Nat → Bool} {k : Nat} : cntB keep (k + 1) = cntB keep k + (if keep k = true then 1 else 0) := by
  have h : cntB keep (k + 1) = (keptOf keep (k + 1)).length := rfl
  rw [h, kept_succ, List.length_append]
  show cntB keep k + _ = _
  split <;> rfl
theorem cnt_mono {keep : Nat → Bool} {a b : Nat} (h : a ≤ b) : cntB keep a ≤ cntB keep b := by
  induction b with
  | zero => rw [Nat.le_zero.mp h]; exact Nat.le_refl _
  | succ b ih =>
    by_cases e : a = b + 1
    · rw [e]; exact Nat.le_refl _
    · have := ih (by omega)
      rw [cnt_succ]
      omega
theorem cnt_lt {keep : Nat → Bool} {a b : Nat} (h : a < b) (k : keep a = true) : cntB keep a < cntB keep b := by
  have := cnt_mono (keep := keep) (show a + 1 ≤ b from h)
  rw [cnt_succ, if_pos k] at this
  omega
theorem kept_len {keep : Nat → Bool} {k : Nat} : (keptOf keep k).length = cntB keep k := rfl
theorem kept_get {keep : Nat → Bool} {t : Nat} (k : keep t = true) : ∀ len, t < len → (keptOf keep len)[cntB keep t]? = some t
  | 0, h => nomatch h
  | len + 1, h => by
    rw [kept_succ]
    by_cases e : t = len
    · subst e
      rw [if_pos k, List.getElem?_append_right (Nat.le_of_eq kept_len), kept_len, Nat.sub_self]
      rfl
    · have ih := kept_get k len (by omega)
      rw [List.getElem?_append_left (List.getElem?_eq_some_iff.mp ih).1]
      exact ih
theorem kept_idx {keep : Nat → Bool} {t j : Nat} : ∀ len, (keptOf keep len)[j]? = some t → keep t = true ∧ t < len ∧ cntB keep t = j
  | 0, h => by simp [keptOf] at h
  | len + 1, h => by
    rw [kept_succ] at h
    by_cases hj : j < (keptOf keep len).length
    · rw [List.getElem?_append_left hj] at h
      obtain ⟨a, b, c⟩ := kept_idx len h
      exact ⟨a, by omega, c⟩
    · rw [List.getElem?_append_right (by omega)] at h
      split at h
      · rename_i hk
        have e0 : j - (keptOf keep len).length = 0 := by
          have := (List.getElem?_eq_some_iff.mp h).1
          simp at this
          omega
        rw [e0] at h
        cases h
        exact ⟨hk, Nat.lt_succ_self _, by show (keptOf keep t).length = j; omega⟩
      · simp at h
section
variable {n : Nat} {bs : List (Nat × Nat)} {es : List Nat} {keep : Nat → Bool}
/-- the boxes of what is kept are kept -/
def Clo (n : Nat) (bs : List (Nat × Nat)) (keep : Nat → Bool) (i : Nat) : Prop := i < n ∨ ∃ t, i = n + t ∧ t < bs.length ∧ keep t = true
structure Kp (n : Nat) (bs : List (Nat × Nat)) (es : List Nat) (keep : Nat → Bool) : Prop where
  e : ∀ e ∈ es, Clo n bs keep e
  b : ∀ t b, bs[t]? = some b → keep t = true → Clo n bs keep b.1 ∧ Clo n bs keep b.2
theorem nm_low {i : Nat} (h : i < n) : nmOf n keep i = i := if_pos h
theorem nm_box {t : Nat} : nmOf n keep (n + t) = n + cntB keep t := by
  unfold nmOf
  rw [if_neg (by omega), Nat.add_sub_cancel_left]
theorem nm_lt {i t : Nat} (h : Clo n bs keep i) (hi : i < n + t) : nmOf n keep i < n + cntB keep t := by
  rcases h with h | ⟨s, rfl, _, ks⟩
  · rw [nm_low h]
    omega
  · rw [nm_box]
    have := cnt_lt (show s < t by omega) ks
    omega
theorem boxOk_of : ∀ {bs : List (Nat × Nat)} {t : Nat}, (∀ i b, bs[i]? = some b → b.1 < n + t + i ∧ b.2 < n + t + i) → boxOk n t bs
  | [], _, _ => trivial
  | b :: r, t, h => by
    have h0 := h 0 b rfl
    refine ⟨by omega, by omega, boxOk_of fun i x hx => ?_⟩
    have := h (i + 1) x hx
    omega
theorem trim_get {j : Nat} {b : Nat × Nat} (h : (trimB n bs keep)[j]? = some b) : ∃ t b0, t < bs.length ∧ keep t = true ∧ cntB keep t = j ∧ bs[t]? = some b0 ∧ b = (nmOf n keep b0.1, nmOf n keep b0.2) := by
  unfold trimB at h
  rw [List.getElem?_map] at h
  obtain ⟨t, ht, e⟩ := Option.map_eq_some_iff.mp h
  obtain ⟨k, l, c⟩ := kept_idx _ ht
  refine ⟨t, bs[t], l, k, c, List.getElem?_eq_getElem l, ?_⟩
  rw [← e]
  unfold newB
  rw [getD_of (List.getElem?_eq_getElem l)]
theorem trim_box {t : Nat} {b : Nat × Nat} (h : bs[t]? = some b) (k : keep t = true) : (trimB n bs keep)[cntB keep t]? = some (nmOf n keep b.1, nmOf n keep b.2) := by
  unfold trimB
  rw [List.getElem?_map, kept_get k _ (List.getElem?_eq_some_iff.mp h).1]
  show some (newB n bs keep t) = _
  unfold newB
  rw [getD_of h]
theorem trim_len : (trimB n bs keep).length = cntB keep bs.length := by
  unfold trimB
  rw [List.length_map]
  rfl
theorem cnt_le {k : Nat} : cntB keep k ≤ k := by
  have := List.length_filter_le keep (List.range k)
  rw [List.length_range] at this
  exact this
theorem trim_ok (hN : NetOk n bs es) (K : Kp n bs es keep) : NetOk n (trimB n bs keep) (es.map (nmOf n keep)) := by
  have b60 := hN.b
  have c := cnt_le (keep := keep) (k := bs.length)
  have h1 := hN.e1
  have h2 := hN.e2
  refine ⟨hN.n1, hN.n2, by rw [trim_len]; omega, by rw [List.length_map]; exact h1, by rw [List.length_map]; exact h2, boxOk_of fun j b hj => ?_, fun e he => ?_⟩
  · obtain ⟨t, b0, l, k, c, hb, rfl⟩ := trim_get hj
    obtain ⟨g1, g2⟩ := boxOk_get hN.bx hb
    obtain ⟨k1, k2⟩ := K.b t b0 hb k
    have a1 := nm_lt k1 (show b0.1 < n + t by omega)
    have a2 := nm_lt k2 (show b0.2 < n + t by omega)
    refine ⟨?_, ?_⟩
    · show nmOf n keep b0.1 < n + 0 + j
      omega
    · show nmOf n keep b0.2 < n + 0 + j
      omega
  · obtain ⟨e0, he0, rfl⟩ := List.mem_map.mp he
    rw [trim_len]
    exact nm_lt (K.e e0 he0) (hN.ew e0 he0)
theorem trim_word (hb : boxOk n 0 bs) (hb' : boxOk n 0 (trimB n bs keep)) (K : Kp n bs es keep) : ∀ (m i : Nat), i < m → Clo n bs keep i → (wordsOf n (trimB n bs keep))[nmOf n keep i]? = (wordsOf n bs)[i]?
  | 0, _, h, _ => nomatch h
  | m + 1, i, h, c => by
    rcases c with h | ⟨t, rfl, l, k⟩
    · rw [nm_low h, wordsOf_low h, wordsOf_low h]
    · have hbt : bs[t]? = some bs[t] := List.getElem?_eq_getElem l
      obtain ⟨g1, g2⟩ := boxOk_get hb hbt
      obtain ⟨k1, k2⟩ := K.b t _ hbt k
      obtain ⟨w1, w2, e1, e2, e3⟩ := word_box hb hbt
      obtain ⟨v1, v2, f1, f2, f3⟩ := word_box hb' (trim_box hbt k)
      have i1 := trim_word hb hb' K m bs[t].1 (by omega) k1
      have i2 := trim_word hb hb' K m bs[t].2 (by omega) k2
      rw [i1, e1] at f1
      rw [i2, e2] at f2
      cases f1
      cases f2
      rw [nm_box, f3, e3]
theorem trim_lens {L : Nat} (hb : boxOk n 0 bs) (hb' : boxOk n 0 (trimB n bs keep)) (K : Kp n bs es keep) (hL : Lens L (wordsOf n bs)) : Lens L (wordsOf n (trimB n bs keep)) := fun w hw => by
  obtain ⟨i, hi⟩ := List.getElem?_of_mem hw
  have li := (List.getElem?_eq_some_iff.mp hi).1
  rw [wordsOf_len, trim_len] at li
  by_cases h : i < n
  · rw [wordsOf_low h] at hi
    have := wordsOf_low (bs := bs) h
    cases hi
    exact hL _ (List.mem_of_getElem? this)
  · have hj : i - n < (keptOf keep bs.length).length := by rw [kept_len]; omega
    obtain ⟨k, l, c⟩ := kept_idx _ (List.getElem?_eq_getElem hj)
    have := trim_word hb hb' K (n + (keptOf keep bs.length)[i - n] + 1) (n + (keptOf keep bs.length)[i - n]) (Nat.lt_succ_self _) (Or.inr ⟨_, rfl, l, k⟩)
    rw [nm_box, c, show n + (i - n) = i by omega, hi] at this
    exact hL w (List.mem_of_getElem? this.symm)
/-- what is kept: what the ends rest on -/
def needB (n : Nat) (bs : List (Nat × Nat)) (es : List Nat) (t : Nat) : Bool := (metOf n bs es).getD (n + t) false
theorem clo_rch (hb : boxOk n 0 bs) (hs : ∀ s ∈ es, s < n + bs.length) {i : Nat} (hi : i < n + bs.length) (r : Rch n bs es i) : Clo n bs (needB n bs es) i := by
  by_cases h : i < n
  · exact .inl h
  · refine .inr ⟨i - n, by omega, by omega, ?_⟩
    unfold needB
    rw [show n + (i - n) = i by omega]
    exact rch_met hb hs r
theorem need_kp (hN : NetOk n bs es) : Kp n bs es (needB n bs es) := by
  refine ⟨fun e he => clo_rch hN.bx hN.ew (hN.ew e he) (.start he), fun t b hb k => ?_⟩
  have r := met_rch hN.ew k
  obtain ⟨g1, g2⟩ := boxOk_get hN.bx hb
  have l := (List.getElem?_eq_some_iff.mp hb).1
  exact ⟨clo_rch hN.bx hN.ew (by omega) (.left hb r), clo_rch hN.bx hN.ew (by omega) (.right hb r)⟩
theorem rch_trim (hN : NetOk n bs es) {i : Nat} (r : Rch n bs es i) : Rch n (trimB n bs (needB n bs es)) (es.map (nmOf n (needB n bs es))) (nmOf n (needB n bs es) i) := by
  induction r with
  | start h => exact .start (List.mem_map.mpr ⟨_, h, rfl⟩)
  | @left t b hb h ih =>
    have k : needB n bs es t = true := rch_met hN.bx hN.ew h
    rw [nm_box] at ih
    exact Rch.left (trim_box hb k) ih
  | @right t b hb h ih =>
    have k : needB n bs es t = true := rch_met hN.bx hN.ew h
    rw [nm_box] at ih
    exact Rch.right (trim_box hb k) ih
/-- of it all is needed -/
theorem trim_all (hN : NetOk n bs es) {j : Nat} (hj : j < (trimB n bs (needB n bs es)).length) : needB n (trimB n bs (needB n bs es)) (es.map (nmOf n (needB n bs es))) j = true := by
  have hN' := trim_ok hN (need_kp hN)
  obtain ⟨t, b0, l, k, c, hb, e⟩ := trim_get (List.getElem?_eq_getElem hj)
  have r := rch_trim hN (met_rch hN.ew k)
  rw [nm_box, c] at r
  exact rch_met hN'.bx hN'.ew r
theorem kept_all {k : Nat} : (∀ t, t < k → keep t = true) → keptOf keep k = List.range k ∧ cntB keep k = k := fun h => by
  have e : keptOf keep k = List.range k := List.filter_eq_self.mpr fun t ht => h t (List.mem_range.mp ht)
  exact ⟨e, by rw [← kept_len, e, List.length_range]⟩
theorem trim_same (hb : boxOk n 0 bs) (he : ∀ e ∈ es, e < n + bs.length) (h : ∀ t, t < bs.length → keep t = true) : trimB n bs keep = bs ∧ es.map (nmOf n keep) = es := by
  have nm : ∀ i, i < n + bs.length → nmOf n keep i = i := fun i hi => by
    by_cases hn : i < n
    · exact nm_low hn
    · obtain ⟨t, rfl⟩ := Nat.exists_eq_add_of_le (Nat.le_of_not_lt hn)
      rw [nm_box, (kept_all (k := t) fun s hs => h s (by omega)).2]
  refine ⟨List.ext_getElem? fun i => ?_, ?_⟩
  · unfold trimB
    rw [(kept_all h).1, List.getElem?_map]
    by_cases hi : i < bs.length
    · obtain ⟨g1, g2⟩ := boxOk_get hb (List.getElem?_eq_getElem hi)
      rw [List.getElem?_range hi]
      show some (newB n bs keep i) = _
      unfold newB
      rw [getD_of (List.getElem?_eq_getElem hi), nm _ (by omega), nm _ (by omega), List.getElem?_eq_getElem hi]
    · rw [List.getElem?_eq_none (by rw [List.length_range]; omega), List.getElem?_eq_none (by omega)]
      rfl
  · conv => rhs; rw [← List.map_id es]
    exact List.map_congr_left fun e h => nm e (he e h)
end
/-! ### how long words become when a box is turned -/
theorem lens_more {L n : Nat} {bs : List (Nat × Nat)} {b : Nat × Nat} (h : Lens L (wordsOf n bs)) (h1 : b.1 < n + bs.length) (h2 : b.2 < n + bs.length) : Lens (2 * L) (wordsOf n (bs ++ [b])) := fun w hw => by
  rw [wordsOf_snoc] at hw
  unfold wstep at hw
  rcases List.mem_append.mp hw with z | z
  · have := h w z
    omega
  · rw [List.mem_singleton.mp z]
    have e1 : (wordsOf n bs)[b.1]? = some ((wordsOf n bs)[b.1]'(by rw [wordsOf_len]; exact h1)) := List.getElem?_eq_getElem _
    have e2 : (wordsOf n bs)[b.2]? = some ((wordsOf n bs)[b.2]'(by rw [wordsOf_len]; exact h2)) := List.getElem?_eq_getElem _
    have a1 := h _ (List.mem_of_getElem? e1)
    have a2 := h _ (List.mem_of_getElem? e2)
    rw [getD_of e1, getD_of e2, List.length_append]
    omega
theorem turned_le {L n at_ : Nat} {bs : List (Nat × Nat)} {b : Nat × Nat} (hL : Lens L (wordsOf n bs)) (hb : boxOk n 0 bs) (hb' : boxOk n 0 (bs.set at_ b)) (h2 : 2 ≤ L) :
    ∀ (m i : Nat), i < m → ∀ w w', (wordsOf n bs)[i]? = some w → (wordsOf n (bs.set at_ b))[i]? = some w' → 1 ≤ w'.length ∧ w'.length ≤ L * w.length ∧ (i < n + at_ → w' = w)
  | 0, _, h, _, _, _, _ => nomatch h
  | m + 1, i, h, w, w', e, e' => by
    have lw := hL w (List.mem_of_getElem? e)
    by_cases hn : i < n
    · rw [wordsOf_low hn] at e e'
      cases e
      cases e'
      exact ⟨Nat.le_refl _, by show 1 ≤ L * 1; omega, fun _ => rfl⟩
    · obtain ⟨t, rfl⟩ := Nat.exists_eq_add_of_le (Nat.le_of_not_lt hn)
      have lt : t < bs.length := by
        have := (List.getElem?_eq_some_iff.mp e).1
        rw [wordsOf_len] at this
        omega
      have lt' : t < (bs.set at_ b).length := by rw [List.length_set]; exact lt
      obtain ⟨w1, w2, q1, q2, q3⟩ := word_box hb (List.getElem?_eq_getElem lt)
      obtain ⟨v1, v2, p1, p2, p3⟩ := word_box hb' (List.getElem?_eq_getElem lt')
      obtain ⟨g1, g2⟩ := boxOk_get hb (List.getElem?_eq_getElem lt)
      obtain ⟨k1, k2⟩ := boxOk_get hb' (List.getElem?_eq_getElem lt')
      rw [q3] at e
      cases e
      rw [p3] at e'
      cases e'
      have get : ∀ j, j < n + t → ∃ x y, (wordsOf n bs)[j]? = some x ∧ (wordsOf n (bs.set at_ b))[j]? = some y := fun j hj =>
        ⟨_, _, List.getElem?_eq_getElem (by rw [wordsOf_len]; omega), List.getElem?_eq_getElem (by rw [wordsOf_len, List.length_set]; omega)⟩
      obtain ⟨x1, y1, a1, c1⟩ := get (bs.set at_ b)[t].1 (by omega)
      obtain ⟨x2, y2, a2, c2⟩ := get (bs.set at_ b)[t].2 (by omega)
      obtain ⟨d1, f1, s1⟩ := turned_le hL hb hb' h2 m _ (by omega) x1 y1 a1 c1
      obtain ⟨d2, f2, s2⟩ := turned_le hL hb hb' h2 m _ (by omega) x2 y2 a2 c2
      rw [p1] at c1
      rw [p2] at c2
      cases c1
      cases c2
      rw [List.length_append, List.length_append]
      rw [List.length_append] at lw
      by_cases ht : t = at_
      · have r1 := s1 (by omega)
        have r2 := s2 (by omega)
        subst r1
        subst r2
        have b1 := hL _ (List.mem_of_getElem? a1)
        have b2 := hL _ (List.mem_of_getElem? a2)
        have z1 := hL _ (List.mem_of_getElem? q1)
        have z2 := hL _ (List.mem_of_getElem? q2)
        have : L * 2 ≤ L * (w1.length + w2.length) := Nat.mul_le_mul_left _ (by omega)
        exact ⟨by omega, by omega, fun z => absurd z (by omega)⟩
      · have eb : (bs.set at_ b)[t] = bs[t] := List.getElem_set_ne (fun z => ht z.symm) lt'
        rw [eb] at a1 a2
        rw [q1] at a1
        rw [q2] at a2
        cases a1
        cases a2
        refine ⟨by omega, by rw [Nat.mul_add]; omega, fun z => ?_⟩
        rw [s1 (by omega), s2 (by omega)]
theorem lens_turned {L n at_ : Nat} {bs : List (Nat × Nat)} {b : Nat × Nat} (hL : Lens L (wordsOf n bs)) (hb : boxOk n 0 bs) (hb' : boxOk n 0 (bs.set at_ b)) (h2 : 2 ≤ L) : Lens (L * L) (wordsOf n (bs.set at_ b)) := fun w' hw => by
  obtain ⟨i, hi⟩ := List.getElem?_of_mem hw
  have li := (List.getElem?_eq_some_iff.mp hi).1
  rw [wordsOf_len, List.length_set, ← wordsOf_len] at li
  obtain ⟨a, c, _⟩ := turned_le hL hb hb' h2 (i + 1) i (Nat.lt_succ_self _) _ w' (List.getElem?_eq_getElem li) hi
  have := hL _ (List.getElem_mem li)
  exact ⟨a, Nat.le_trans c (Nat.mul_le_mul_left _ this.2)⟩
theorem occ_box {n t : Nat} {bs : List (Nat × Nat)} {x : Nat × Nat} (b : Nat) (hb : boxOk n 0 bs) (h : bs[t]? = some x) : occ n bs b (n + t) = occ n bs b x.1 + occ n bs b x.2 + (if t = b then 1 else 0) := by
  have ht := (List.getElem?_eq_some_iff.mp h).1
  obtain ⟨g1, g2⟩ := boxOk_get hb h
  have lt : (bs.take t).length = t := by rw [List.length_take, Nat.min_eq_left (by omega)]
  have e : bs = (bs.take t ++ [x]) ++ bs.drop (t + 1) := by
    rw [List.append_assoc]
    have : [x] ++ bs.drop (t + 1) = bs.drop t := by
      rw [List.drop_eq_getElem_cons ht, (List.getElem?_eq_some_iff.mp h).2]
      rfl
    rw [this, List.take_append_drop]
  have l1 : (bs.take t ++ [x]).length = t + 1 := by rw [app1_len, lt]
  have k0 : occ n bs b (n + t) = occ n (bs.take t ++ [x]) b (n + t) := by
    conv => lhs; rw [e]
    exact occ_more _ (by omega)
  have k1 : occ n bs b x.1 = occ n (bs.take t) b x.1 := by
    conv => lhs; rw [e]
    rw [occ_more _ (by omega), occ_more _ (by omega)]
  have k2 : occ n bs b x.2 = occ n (bs.take t) b x.2 := by
    conv => lhs; rw [e]
    rw [occ_more _ (by omega), occ_more _ (by omega)]
  rw [k0, k1, k2]
  have := occ_new (n := n) (b := b) (bs := bs.take t) (x := x.1) (y := x.2)
  rw [lt] at this
  exact this
/-- a box turned: what is beneath a wire once is turned once -/
theorem turned2_le {L n at_ : Nat} {bs : List (Nat × Nat)} {b : Nat × Nat} (hL : Lens L (wordsOf n bs)) (hb : boxOk n 0 bs) (hb' : boxOk n 0 (bs.set at_ b)) (hp : at_ < bs.length → ∃ p, bs[at_]? = some p ∧ (b.1 = p.1 ∨ b.2 = p.2)) :
    ∀ (m i : Nat), i < m → ∀ w w', (wordsOf n bs)[i]? = some w → (wordsOf n (bs.set at_ b))[i]? = some w' → 1 ≤ w'.length ∧ w'.length ≤ w.length + occ n bs at_ i * L ∧ (i < n + at_ → w' = w)
  | 0, _, h, _, _, _, _ => nomatch h
  | m + 1, i, h, w, w', e, e' => by
    have lw := hL w (List.mem_of_getElem? e)
    by_cases hn : i < n
    · rw [wordsOf_low hn] at e e'
      cases e
      cases e'
      exact ⟨Nat.le_refl _, Nat.le_add_right _ _, fun _ => rfl⟩
    · obtain ⟨t, rfl⟩ := Nat.exists_eq_add_of_le (Nat.le_of_not_lt hn)
      have lt : t < bs.length := by
        have := (List.getElem?_eq_some_iff.mp e).1
        rw [wordsOf_len] at this
        omega
      have lt' : t < (bs.set at_ b).length := by rw [List.length_set]; exact lt
      obtain ⟨w1, w2, q1, q2, q3⟩ := word_box hb (List.getElem?_eq_getElem lt)
      obtain ⟨v1, v2, p1, p2, p3⟩ := word_box hb' (List.getElem?_eq_getElem lt')
      obtain ⟨g1, g2⟩ := boxOk_get hb (List.getElem?_eq_getElem lt)
      obtain ⟨k1, k2⟩ := boxOk_get hb' (List.getElem?_eq_getElem lt')
      rw [q3] at e
      cases e
      rw [p3] at e'
      cases e'
      have get : ∀ j, j < n + t → ∃ x y, (wordsOf n bs)[j]? = some x ∧ (wordsOf n (bs.set at_ b))[j]? = some y := fun j hj =>
        ⟨_, _, List.getElem?_eq_getElem (by rw [wordsOf_len]; omega), List.getElem?_eq_getElem (by rw [wordsOf_len, List.length_set]; omega)⟩
      obtain ⟨x1, y1, a1, c1⟩ := get (bs.set at_ b)[t].1 (by omega)
      obtain ⟨x2, y2, a2, c2⟩ := get (bs.set at_ b)[t].2 (by omega)
      obtain ⟨d1, f1, s1⟩ := turned2_le hL hb hb' hp m _ (by omega) x1 y1 a1 c1
      obtain ⟨d2, f2, s2⟩ := turned2_le hL hb hb' hp m _ (by omega) x2 y2 a2 c2
      rw [p1] at c1
      rw [p2] at c2
      cases c1
      cases c2
      have eo := occ_box (n := n) at_ hb (List.getElem?_eq_getElem lt)
      rw [List.length_append, List.length_append]
      rw [List.length_append] at lw
      by_cases ht : t = at_
      · have r1 := s1 (by omega)
        have r2 := s2 (by omega)
        subst r1
        subst r2
        have b1 := hL _ (List.mem_of_getElem? a1)
        have b2 := hL _ (List.mem_of_getElem? a2)
        rw [if_pos ht] at eo
        subst ht
        have eb : (bs.set t b)[t] = b := List.getElem_set_self lt'
        rw [eb] at a1 a2
        obtain ⟨p, hp1, hp2⟩ := hp lt
        rw [List.getElem?_eq_getElem lt] at hp1
        cases hp1
        have key : v1.length + v2.length ≤ w1.length + w2.length + L := by
          rcases hp2 with z | z
          · rw [z, q1] at a1
            cases a1
            omega
          · rw [z, q2] at a2
            cases a2
            omega
        have m1 : L ≤ (occ n bs t bs[t].1 + occ n bs t bs[t].2 + 1) * L := Nat.le_mul_of_pos_left _ (by omega)
        rw [eo]
        exact ⟨by omega, by omega, fun z => absurd z (by omega)⟩
      · have eb : (bs.set at_ b)[t] = bs[t] := List.getElem_set_ne (fun z => ht z.symm) lt'
        rw [if_neg ht, Nat.add_zero] at eo
        simp only [eb] at a1 a2 f1 f2 s1 s2
        rw [q1] at a1
        rw [q2] at a2
        cases a1
        cases a2
        rw [eo, Nat.add_mul]
        refine ⟨by omega, by omega, fun z => ?_⟩
        rw [s1 (by omega), s2 (by omega)]
theorem lens_turned2 {n at_ : Nat} {bs : List (Nat × Nat)} {b : Nat × Nat} (hL : Lens 200 (wordsOf n bs)) (li : Lin n bs) (hb : boxOk n 0 bs) (hb' : boxOk n 0 (bs.set at_ b)) (hp : at_ < bs.length → ∃ p, bs[at_]? = some p ∧ (b.1 = p.1 ∨ b.2 = p.2)) : Lens 400 (wordsOf n (bs.set at_ b)) := fun w' hw => by
  obtain ⟨i, hi⟩ := List.getElem?_of_mem hw
  have li' := (List.getElem?_eq_some_iff.mp hi).1
  rw [wordsOf_len, List.length_set, ← wordsOf_len (n := n) (bs := bs)] at li'
  obtain ⟨a, c, _⟩ := turned2_le hL hb hb' hp (i + 1) i (Nat.lt_succ_self _) _ w' (List.getElem?_eq_getElem li') hi
  have h2 := hL _ (List.getElem_mem li')
  have h3 := li.one (b := at_) (i := i)
  have h4 : occ n bs at_ i * 200 ≤ 1 * 200 := Nat.mul_le_mul_right _ h3
  exact ⟨a, by omega⟩
theorem Lens.mono {L L' : Nat} {ws : List (List Nat)} (h : Lens L ws) (e : L ≤ L') : Lens L' ws := fun w hw => ⟨(h w hw).1, Nat.le_trans (h w hw).2 e⟩
theorem szB {n : Nat} (h : n ≤ 16000000) : n ≤ sizeLine := Nat.le_trans h (by decide)
end My

/-! ranges that are walked later, t[::-1] and t.count(x) of a tuple -/
namespace My
open PySem PySem.Spec PyProof.Rows L2
/-- for x in v, v a range -/
def iRngV (te : TE) : TI := fun σ H R => te σ H fun v H1 => ∃ (a : Addr) (lo hi : Int), v = .ref a ∧ H1 a = some (.rng lo hi) ∧ (-(2 ^ 62) ≤ lo ∧ lo < 2 ^ 62 ∧ -(2 ^ 62) ≤ hi ∧ hi < 2 ^ 62) ∧ R (Itc lo 1 (hi - lo).toNat) H1
theorem pi_rngV {X : Cx} {tg l : Expr} {te : TE} (hl : PE X l te) : PI X tg l (iRngV te) := by
  refine PI.mk fun pins s σ H R I h => thn (hl.run pins s σ H _ I h) fun v s1 hz => ?_
  obtain ⟨x, H1, I1, r1, a, lo, hi, ex, ha, ⟨b1, b2, b3, b4⟩, q⟩ := hz
  subst ex
  cases r1
  obtain ⟨t1, t2, t3, ho⟩ := I1.hok a _ ha
  have ho : IsRange s1.heap a lo hi 1 t1 t2 t3 := ho
  refine wpAny_pyIter_range ho (small_one b1 b2 b3 b4) (pi_one (tk := s1.toks) I1 _ (turn_rangeC _ lo 1 (hi - lo).toNat) ?_ q)
  have e1 : lo + ((0 : Nat) : Int) * 1 = lo := by omega
  have e2 : (((hi - lo).toNat : Nat) : Int) - ((0 : Nat) : Int) = Builtin.Range.rangeSize lo hi 1 := by
    rw [rangeSize_one]
    split <;> omega
  show IsRangeIter _ _ (lo + ((0 : Nat) : Int) * 1) ((((hi - lo).toNat : Nat) : Int) - ((0 : Nat) : Int)) 1
  rw [e1, e2]
  exact Heap.get?_push_size _ rfl
/-- t.count(k), t a tuple of numbers -/
def rCntT (K : PySem.W.Frag) : V → List V → Hp → VK → Prop := fun x xs H Q => ∃ (p : Addr) (ns : List Int) (k : Int), x = .ref p ∧ xs = [.int k] ∧ SqT K H p (ns.map V.int) ∧ Q (.int (ns.count k : Nat)) H
theorem mt_tcount {X : Cx} : MtR X "tuple.count" (rCntT X.K) := by
  intro pins s σ H x xs v us Q I rx rxs h
  obtain ⟨p, ns, k, rfl, rfl, hs, q⟩ := h
  obtain rfl : v = Value.ref p := rx
  obtain ⟨u, rfl, t, rfl⟩ := vals1 rxs
  obtain ⟨its, rv, pt, hz⟩ := I.tuple hs
  obtain ⟨⟨cls, dd, data, sl⟩, ho, hc, n, hd⟩ := (show s.heap.IsTuple p its.toArray from pt)
  simp only at hc hd
  subst hc hd
  have hi := ints_of_vals rv
  refine call_meets PySem.F.slot_tuple_count ⟨_, ho, rfl⟩ PySem.F.entry_tuple_count (PySem.F.args_tuple_count_2 _ _) (SeqAt.tuple_countAt p its.toArray n dd sl (.int k t) (eqk k)) ⟨ho, fun y hy => (eqk_gives hi y (by simpa using hy)).at _ _, ?_⟩
  have ec : its.toArray.toList.countP (eqk k) = ns.count k := eqk_count hi
  rw [ec]
  exact ⟨.int (ns.count k : Nat), H, I.tok _, ⟨s.toks, rfl⟩, q⟩
end My
namespace My
open PySem PySem.Spec PyProof.Rows HT
section
variable {prog : Program} {w : World} {A : Around} {E : Value → Shared → Prop} {s : Shared}
theorem rev_places (n : Nat) : Builtin.Slice.sliceAdjust none none (-1) (n : Int) = ((n : Int) - 1, -1) ∧ Builtin.Slice.slicePlaces ((n : Int) - 1) (-1) (-1) = n := by
  refine ⟨rfl, ?_⟩
  unfold Builtin.Slice.slicePlaces
  rw [if_neg (by decide)]
  by_cases h : (n : Int) - 1 > -1
  · rw [if_pos h, show (- -1 : Int) = 1 by decide, Int.ediv_one]
    omega
  · rw [if_neg h]
    omega
theorem fm_congr {α β : Type} {f g : α → Option β} : ∀ {l : List α}, (∀ x ∈ l, f x = g x) → l.filterMap f = l.filterMap g
  | [], _ => rfl
  | x :: r, h => by rw [List.filterMap_cons, List.filterMap_cons, h x List.mem_cons_self, fm_congr fun y hy => h y (List.mem_cons_of_mem _ hy)]
theorem rev_items (xs : Array Value) : ((List.range xs.size).filterMap fun (k : Nat) => xs[(((xs.size : Int) - 1) + (k : Int) * (-1)).toNat]?).toArray = xs.toList.reverse.toArray := by
  have e : ((List.range xs.size).filterMap fun (k : Nat) => xs[(((xs.size : Int) - 1) + (k : Int) * (-1)).toNat]?) = ((List.range xs.size).map fun k => xs.size - 1 - k).filterMap (xs[·]?) := by
    rw [List.filterMap_map]
    refine fm_congr fun k hk => ?_
    have := List.mem_range.mp hk
    show xs[_]? = xs[xs.size - 1 - k]?
    rw [show (((xs.size : Int) - 1) + (k : Int) * (-1)).toNat = xs.size - 1 - k by omega]
  rw [e, PySem.W.krv_range, List.filterMap_reverse, PySem.W.krv_all]
theorem getItem_tuple_rev {t sl : Addr} {items : Array Value} {v1 v2 vk : Value} {Q : Value → Shared → Prop} (ht : IsTup s.heap t items) (hs : s.heap.IsSliceOf sl v1 v2 vk) (p1 : IsPart v1 none) (p2 : IsPart v2 none) (pk : IsPart vk (some (-1)))
    (h : Q (.ref s.heap.objs.size) { s with heap := s.heap.push { cls := .type "tuple", data := .seq items.toList.reverse.toArray } }) (hsz : items.size ≤ sizeLine) : wpAny (model prog w) A (getItem (.ref t) (.ref sl)) Q E s := by
  obtain ⟨os, hos, hcs, hds⟩ := id hs
  have hT : s.TypeIs (.ref sl) "slice" := ⟨os, hos, hcs⟩
  have hz : sizeOk (.seq items.toList.reverse.toArray) := by
    show items.toList.reverse.toArray.size ≤ sizeLine
    rw [List.size_toArray, List.length_reverse, Array.length_toList]
    exact hsz
  obtain ⟨a1, a2⟩ := rev_places items.size
  unfold getItem
  try with_reducible refine wpAny_holding ?_
  first | refine wpAny_bind (wpAny_pure ?_) | skip
  refine wpAny_bind (wpAny_sequenceKey ht.typeIs (by decide) (wpAny_bind (wpAny_callSpecial?_slot (name := Str.ofString "__getitem__") ht.typeIs PyProof.Rows.slot_tuple_getitem (wpAny_call_entry PyProof.Rows.slot_tuple_getitem ht.typeIs entry_tuple_getitem ?_ (args_tuple_getitem _ _)))))
  show wpAny _ _ (Builtin.Tuple.tupleItemsOf (.ref t) >>= fun z => _) _ _ s
  refine wpAny_bind (tupleItemsOf_ ht (wpAny_bind (wpAny_typeOf hT ?_)))
  rw [if_pos (show (Value.type "slice" == Value.type "slice") = true by decide)]
  refine wpAny_bind ?_
  unfold Builtin.Slice.sliceApplied Builtin.Slice.sliceFields
  refine wpAny_bind (wpAny_bind (wpAny_field hos hds (x := v1) rfl (wpAny_bind (wpAny_field hos hds (x := v2) rfl (wpAny_bind (wpAny_field hos hds (x := vk) rfl (wpAny_pure ?_)))))))
  refine wpAny_bind (slicePart_ pk ?_)
  show wpAny _ _ (if ((-1 : Int) == 0) = true then _ else _) _ _ s
  rw [if_neg (show ¬ ((-1 : Int) == 0) = true by decide)]
  refine wpAny_bind (slicePart_ p1 (wpAny_bind (slicePart_ p2 (wpAny_bind (wpAny_pure ?_)))))
  show wpAny _ _ (match Builtin.Slice.sliceAdjust none none (-1) (items.size : Int) with | (lo, hi) => pure (lo, (-1 : Int), Builtin.Slice.slicePlaces lo hi (-1))) _ _ s
  rw [a1]
  show wpAny _ _ (pure ((items.size : Int) - 1, (-1 : Int), Builtin.Slice.slicePlaces ((items.size : Int) - 1) (-1) (-1))) _ _ s
  rw [a2]
  refine wpAny_pure ?_
  have hno : ¬ ((((items.size : Int) - 1) == 0 && (-1 : Int) == 1 && items.size == items.size) = true) := by
    rw [show ((-1 : Int) == 1) = false by decide, Bool.and_false, Bool.false_and]
    decide
  show wpAny _ _ (if ((((items.size : Int) - 1) == 0 && (-1 : Int) == 1 && items.size == items.size)) = true then _ else _) _ _ s
  rw [if_neg hno, rev_items]
  first
    | exact wpAny_bind (m := Builtin.Tuple.tupleExact _) (wpAny_newObj_type (wpAny_pure ⟨_, rfl, wpAny_pure h⟩) hz)
    | exact wpAny_bind (m := Builtin.Tuple.tupleExact _) (wpAny_newObj_type (wpAny_bind (wpAny_pure (wpAny_pure ⟨_, rfl, wpAny_pure h⟩))) hz)
    | exact wpAny_bind (wpAny_bind (m := Builtin.Tuple.tupleExact _) (wpAny_newObj_type (wpAny_pure (wpAny_pure ⟨_, rfl, wpAny_pure h⟩)) hz))
    | exact wpAny_bind (wpAny_bind (m := Builtin.Tuple.tupleExact _) (wpAny_newObj_type (wpAny_pure ⟨_, rfl, wpAny_pure h⟩) hz))
end
end My
namespace My
open PySem PySem.Spec PyProof.Rows L2
/-- t[::-1], t a tuple -/
def tRevT (K : PySem.W.Frag) (te : TE) : TE := fun σ H Q => te σ H fun x H1 => ∃ a xs, x = .ref a ∧ SqT K H1 a xs ∧ ∀ p, H1 p = none → Q (.ref p) (upd H1 p (.tup xs.reverse))
theorem pe_revT {X : Cx} {e : Expr} {te : TE} {k : Nat} {p1 p2 p3 pos : Pos} (he : PE X e te) : PE X (.Subscript e (.Slice none none (some (.UnaryOp .USub (.Constant (.int 1) k p1) p2)) p3) pos) (tRevT X.K te) := by
  refine PE.mk fun pins s σ H Q I h => Subscript_ (thn (he.run pins s σ H _ I h) fun v s1 hz => ?_)
  obtain ⟨x, H1, I1, r1, a, xs, ex, hx, q⟩ := hz
  subst ex
  cases r1
  have hst : PO X (some (.UnaryOp .USub (.Constant (.int 1) k p1) p2)) (tPart (tUn (rU fun i => .int (-i)) (tC (.int 1)))) := po_some (pe_un un_neg pe_int)
  refine wpAny_Slice (thn (po_none.run pins s1 σ H1 (fun o H2 => o = none ∧ H2 = H1) I1 ⟨rfl, rfl⟩) fun vl s2 hl => ?_)
  obtain ⟨l, H2, I2, pl, el, e2⟩ := hl
  subst el e2
  refine thn (po_none.run pins s2 σ H2 (fun o H3 => o = none ∧ H3 = H2) I2 ⟨rfl, rfl⟩) fun vu s3 hu => ?_
  obtain ⟨u, H3, I3, pu, eu, e3⟩ := hu
  subst eu e3
  refine thn (hst.run pins s3 σ H3 (fun o H4 => o = some (-1) ∧ H4 = H3) I3 ⟨1, rfl, -1, rfl, rfl, rfl⟩) fun vs s4 hv => ?_
  obtain ⟨o, H4, I4, ps, eo, e4⟩ := hv
  subst eo e4
  have I5 : Inv X pins σ H4 { s4 with heap := s4.heap.push { cls := .type "slice", data := .fields #[vl, vu, vs] } } := I4.kept (t' := s4.toks) fun b ob q => Heap.get?_push_of_some _ q
  obtain ⟨its, r, ht, hz⟩ := I5.tuple hx
  have hlen := r.length
  have hT : IsTup (s4.heap.push { cls := .type "slice", data := .fields #[vl, vu, vs] }) a its.toArray := ht
  show wpAny _ X.A (subscriptTail e (.Slice none none (some (.UnaryOp .USub (.Constant (.int 1) k p1) p2)) p3) (.ref a) (.ref s4.heap.objs.size)) _ X.xe { s4 with heap := s4.heap.push { cls := .type "slice", data := .fields #[vl, vu, vs] } }
  refine tail_any (ops := [.ref a, .ref s4.heap.objs.size]) hT.typeIs (PyProof.Rows.slot_tuple_getitem.lookup) (getItem_tuple_rev hT (Heap.IsSliceOf.new _ vl vu vs) pl pu ps ?_ (by rw [List.size_toArray]; omega)) (by with_unfolding_all rfl)
  refine ⟨.ref _, _, I5.laid (t' := s4.toks) (o := .tup xs.reverse) (fun b ob q => Heap.get?_push_of_some _ q) (Nat.le_refl _) ?_, rfl, q _ (I5.hok.fresh (Nat.le_refl _))⟩
  exact ⟨by rw [List.length_reverse]; exact hlen.symm ▸ (by omega), its.reverse, r.reverse, ⟨_, Heap.get?_push_size _ rfl, rfl, 0, by simp⟩⟩
end My
namespace My
open PySem PySem.Spec PyProof.Rows
section
variable {prog : Program} {w : World} {A : Around} {E : Value → Shared → Prop} {s : Shared}
/-- what sorted gathers of a tuple -/
theorem gather_tup {t : Addr} {ys : List Value} {Q : List Value → Shared → Prop} (hy : s.heap.IsTuple t ys.toArray)
    (h : Q ys { s with heap := (s.heap.push (seqObj "list" #[] 0)).update s.heap.objs.size (Obj.mapSeq (· ++ ys.toArray)) }) (hz : ys.length ≤ sizeLine) : wpAny (model prog w) A (collect (.ref t)) Q E s := by
  obtain ⟨ob, g1, g2, m, g3⟩ := id hy
  have g4 : (s.heap.push (seqObj "list" #[] 0)).get? t = some ob := Heap.get?_push_of_some _ g1
  unfold collect
  refine wpAny_bind (wpAny_runValue (codeAny_builtin entry_proto_collect' ?_))
  show wpAny _ _ (do again (.builtin "list.__iadd__" ⟨[← newList [], .ref t], []⟩)) _ _ s
  refine wpAny_bind (wpAny_newList (wpAny_pure ⟨Code.quiet_builtin _ (by decide +kernel), codeAny_builtin entry_list_iadd' ?_⟩))
  show wpAny _ _ (Builtin.List.listExtendWith (.ref s.heap.objs.size) (.ref t) (.ref s.heap.objs.size)) _ _ { s with heap := s.heap.push (seqObj "list" #[] 0) }
  unfold Builtin.List.listExtendWith
  refine wpAny_bind (wpAny_typeOf (T := "tuple") ⟨ob, g4, g2⟩ ?_)
  have e1 : (Value.type "tuple" == Value.type "tuple") = true := by rfl
  rw [if_pos (by rw [e1]; simp)]
  refine wpAny_bind (listItems_at g4 g3 (wpAny_bind (listItems_at (xs := #[]) (n := 0) (Heap.get?_push_size _ rfl) rfl ?_)))
  rw [if_neg (by simp)]
  refine wpAny_bind (listUpdate_at (xs := #[]) (n := 0) (Heap.get?_push_size _ rfl) rfl (wpAny_pure ?_) (Nat.zero_le _) (by show (#[] ++ ys.toArray).size ≤ sizeLine + 1; simp only [Array.size_append, List.size_toArray, List.length_nil]; omega))
  show wpAny (model prog w) A (do
      let o ← load s.heap.objs.size
      match o.data with
      | .seq xs _ => pure xs.toList
      | _ => unsupported "internal:collect") Q E { s with heap := (s.heap.push (seqObj "list" #[] 0)).update s.heap.objs.size (Obj.mapSeq (· ++ ys.toArray)) }
  refine wpAny_bind (wpAny_load (get?_update_seq (Heap.get?_push_size _ rfl) _) ?_)
  show wpAny _ _ (pure ((#[] : Array Value) ++ ys.toArray).toList) Q E _
  have e2 : ((#[] : Array Value) ++ ys.toArray).toList = ys := by simp
  rw [e2]
  exact wpAny_pure h
end
end My
namespace SrtO
open PySem PySem.Spec PyProof.Rows
section
variable {prog : Program} {w : World} {A : Around} {E : Value → Shared → Prop} {s : Shared}
/-- sorted(t) of a tuple -/
theorem sortedT_ord {t : Addr} {ys : List Value} {ltv : Value → Value → Bool} {Q : Value → Shared → Prop} (O : Swo ltv) (hy : s.heap.IsTuple t ys.toArray) (hz : ys.length ≤ sizeLine)
    (hS : 2 ≤ ys.length → ∀ (h₁ : Heap) (a : Addr), h₁.get? a = some (seqObj "list" ys.toArray 0) → (∀ b o, s.heap.get? b = some o → b ≠ a ∧ h₁.get? b = some o) → SortableO prog w A.in1.in1 { s with heap := h₁ } a ys ltv)
    (h : ∀ out : List Value, Srtd ltv out → Stb ltv out ys → Q (.ref (s.heap.objs.size + 1)) { s with heap := sortedAll s.heap ys out.toArray }) : wpAny (model prog w) A (call (.builtin "sorted") [.ref t]) Q E s := by
  refine Calls.call_function_entry kind_sorted plain_sorted entry_sorted (args_sorted1 _) ?_
  unfold Builtin.«sorted»
  refine wpAny_bind (m := checkCount "sorted" 1 1 _) (wpAny_pure (wpAny_bind (My.gather_tup hy (wpAny_bind (wpAny_newList ?_ hz)) hz)))
  have z1 : ((s.heap.push (seqObj "list" #[] 0)).update s.heap.objs.size (Obj.mapSeq (· ++ ys.toArray))).objs.size = s.heap.objs.size + 1 := by rw [Heap.size_update, size_push']
  have z2 : (((s.heap.push (seqObj "list" #[] 0)).update s.heap.objs.size (Obj.mapSeq (· ++ ys.toArray))).push (seqObj "list" ys.toArray 0)).get? (s.heap.objs.size + 1) = some (seqObj "list" ys.toArray 0) := by
    rw [← z1]
    exact Heap.get?_push_size _ rfl
  have z3 : ∀ b o, s.heap.get? b = some o → b ≠ s.heap.objs.size + 1 ∧ (((s.heap.push (seqObj "list" #[] 0)).update s.heap.objs.size (Obj.mapSeq (· ++ ys.toArray))).push (seqObj "list" ys.toArray 0)).get? b = some o := fun b o q => by
    have z4 : b < s.heap.objs.size := Heap.lt_size q
    refine ⟨Nat.ne_of_lt (Nat.lt_succ_of_lt z4), Heap.get?_push_of_some _ ?_⟩
    rw [Heap.get?_update_ne _ _ _ _ (Nat.ne_of_lt z4)]
    exact Heap.get?_push_of_some _ q
  show wpAny _ _ _ _ _ { s with heap := ((s.heap.push (seqObj "list" #[] 0)).update s.heap.objs.size (Obj.mapSeq (· ++ ys.toArray))).push (seqObj "list" ys.toArray 0) }
  rw [z1]
  exact wpAny_bind (wpAny_holding (wpAny_call_entry slot_list_sort ⟨_, z2, rfl⟩ entry_list_sort (list_sort_ord O z2 hz (fun h2 => hS h2 _ _ z2 z3) fun out hs hb => ⟨_, rfl, wpAny_pure ⟨_, rfl, h out hs hb⟩⟩) (args_list_sort _)))
end
end SrtO
namespace My
open PySem PySem.Spec PyProof.Rows L2
open RZ (iZipA pi_zipA ItzT)
def rSrtT (K : PySem.W.Frag) : List V → Hp → VK → Prop := fun vs H Q => ∃ (a : Addr) (ns : List Int), vs = [V.ref a] ∧ SqT K H a (ns.map V.int) ∧
  ∀ (ns' : List Int) (p : Addr), ns'.Perm ns → ns'.Pairwise (· ≤ ·) → H p = none → Q (.ref p) (upd H p (.lst (ns'.map V.int)))
theorem call_srtT {X : Cx} {K : PySem.W.Frag} (hK : X.K = K := by rfl) : CallR X (.builtin "sorted") (rSrtT K) := by
  subst hK
  intro pins s σ H vs us Q I r h
  obtain ⟨a, ns, rfl, hs, q⟩ := h
  obtain ⟨its, rv, pt, hz⟩ := I.tuple hs
  rw [Vals.ref1 r]
  have hi := rv.ints
  refine SrtO.sortedT_ord SrtO.swo_int (show s.heap.IsTuple a its.toArray from pt) (by rw [← rv.length]; exact hz) (fun h2 _ _ _ _ => SrtO.ints_sortable hi h2) fun out h1 h2 => ?_
  obtain ⟨k1, k2, k3⟩ := SrtO.ints_out hi h1 h2
  obtain ⟨ep, he⟩ := PyProof.Rows.sortedAll_at s.heap its out.toArray
  have hl : ((out.map SrtO.iv).map V.int).length ≤ sizeLine := by
    rw [List.length_map, k2.length_eq, ← List.length_map (f := V.int)]
    exact hz
  exact ⟨.ref (s.heap.objs.size + 1), upd H (s.heap.objs.size + 1) (.lst ((out.map SrtO.iv).map V.int)), I.laid (t' := s.toks) (fun _ _ z => PyProof.Rows.sortedAll_old z) (Nat.le_succ _) ⟨hl, out, ep, vals_of_ints k1, he⟩, rfl, q _ _ k2 k3 (I.hok.fresh (Nat.le_succ _))⟩
section
variable {X : Cx} {K : PySem.W.Frag} {k : Nat}
theorem mt_tcountK (h : X.K = K := by rfl) : MtR X "tuple.count" (rCntT K) := h ▸ mt_tcount
theorem pe_revTK {e : Expr} {te : TE} {k : Nat} {p1 p2 p3 pos : Pos} (he : PE X e te) (h : X.K = K := by rfl) : PE X (.Subscript e (.Slice none none (some (.UnaryOp .USub (.Constant (.int 1) k p1) p2)) p3) pos) (tRevT K te) := h ▸ pe_revT he
theorem pe_revLK {e : Expr} {te : TE} {k : Nat} {p1 p2 p3 pos : Pos} (he : PE X e te) (h : X.K = K := by rfl) : PE X (.Subscript e (.Slice none none (some (.UnaryOp .USub (.Constant (.int 1) k p1) p2)) p3) pos) (tRevL K te) := h ▸ pe_revL he
theorem pi_zipAK {e e2 : Expr} {ta : TA} {p pos tpos : Pos} {elts : List Expr} {kk : Nat} (hg : Gl X "zip") (hm : X.mg "zip" = none) (ha : PA X [e, e2] ta)
    (hs : starEach [e, e2] X.env = (false, eval e X.env) :: starEach [e2] X.env := by rfl) (hpl : (backTo pos (starEach [e2] X.env)).any (·.1) = false := by rfl) (h : X.K = K := by rfl) :
    PI X (.Tuple elts kk tpos) (.Call (.Name "zip" p) [e, e2] [] pos) (iZipA K ta) := by
  subst h
  exact pi_zipA hg hm ha hs hpl
/-- range(n) as a value -/
theorem cr_range1 : CallR X (.type "range") (fun vs H Q => ∃ j, vs = [V.int j] ∧ ∀ p, H p = none → Q (.ref p) (upd H p (.rng 0 j))) := by
  intro pins s σ H vs us Q I r h
  obtain ⟨j, rfl, q⟩ := h
  obtain ⟨u, rfl, t, rfl⟩ := vals1 r
  refine call_range_1 ⟨.ref s.heap.objs.size, upd H s.heap.objs.size (.rng 0 j), I.laid (t' := s.toks + 2) (fun b o e => Heap.get?_push_of_some _ e) (Nat.le_refl _) ⟨_, _, _, Heap.get?_push_size _ rfl⟩, rfl, q _ (I.hok.fresh (Nat.le_refl _))⟩
variable {CX : CXT} {j : Nat} {f : Addr} {sp : Sp} {E : XK} {x : Str} {p pos : Pos}
/-- f() -/
theorem pe_df0 (D : Df X.prog X.w X.K X.mg X.base CX j x f [] sp) (hr : Rm k X.A) (hj : j ≤ k) (hg : Gl X x) (hx : Passes CX X E) (hdb : (x == ("__debug__" : Str)) = false := by decide) : PE X (.Call (.Name x p) [] [] pos) (tCall sp [] E tNil) := by
  obtain ⟨fd, F, b, _⟩ := D.ex
  refine PE.mk fun pins s σ H Q I h => wpAny_Call_Name_kw (ld_glob I hg D.gl ?_ hdb)
  exact PySem.W.callWith_K0 I.kIn D.kp (run_fnG F (hr.mono hj) b .nil hx I .nil h)
end
end My

/-! forms of words -/
namespace My
open PySem PySem.Spec PyProof.Rows L2
theorem runD_words2 {jf : PyData → PyData → PyData} {f : List Nat → PyData} {L n : Nat} (hf : ∀ a b : List Nat, 1 ≤ a.length → 1 ≤ b.length → a.length + b.length ≤ L → jf (f a) (f b) = f (a ++ b)) :
    ∀ (bs : List (Nat × Nat)) (ws : List (List Nat)), boxOk n (ws.length - n) bs → n ≤ ws.length → Lens L (bs.foldl wstep ws) → runD jf (ws.map f) bs = (bs.foldl wstep ws).map f
  | [], ws, _, _, _ => rfl
  | b :: r, ws, hb, hn, hL => by
    obtain ⟨h1, h2, h3⟩ := hb
    have i1 : b.1 < ws.length := by omega
    have i2 : b.2 < ws.length := by omega
    obtain ⟨z, ez⟩ := wfold_pre r (wstep ws b)
    have ez' : (b :: r).foldl wstep ws = wstep ws b ++ z := ez
    have up : ∀ w ∈ ws, w ∈ (b :: r).foldl wstep ws := fun w hw => by
      rw [ez']
      exact List.mem_append_left _ (List.mem_append_left _ hw)
    have e : stepD jf (ws.map f) b = (wstep ws b).map f := by
      unfold stepD wstep
      rw [getD_map f (List.getElem?_eq_getElem i1), getD_map f (List.getElem?_eq_getElem i2), getD_of (List.getElem?_eq_getElem i1), getD_of (List.getElem?_eq_getElem i2), List.map_append]
      have m : ws[b.1] ++ ws[b.2] ∈ (b :: r).foldl wstep ws := by
        rw [ez']
        refine List.mem_append_left _ ?_
        unfold wstep
        rw [getD_of (List.getElem?_eq_getElem i1), getD_of (List.getElem?_eq_getElem i2)]
        exact List.mem_append_right _ (List.mem_singleton.mpr rfl)
      have k := (hL _ m).2
      rw [List.length_append] at k
      rw [hf _ _ (hL _ (up _ (List.getElem_mem i1))).1 (hL _ (up _ (List.getElem_mem i2))).1 k]
      rfl
    show runD jf (stepD jf (ws.map f) b) r = (r.foldl wstep (wstep ws b)).map f
    rw [e]
    have l : (wstep ws b).length = ws.length + 1 := by simp [wstep]
    refine runD_words2 (n := n) hf r (wstep ws b) ?_ (by omega) hL
    rw [show (wstep ws b).length - n = ws.length - n + 1 by omega]
    exact h3
/-- what the wires' forms come to -/
theorem forms_run {jf : PyData → PyData → PyData} {f : List Nat → PyData} {L n : Nat} {bs : List (Nat × Nat)} (hf : ∀ a b : List Nat, 1 ≤ a.length → 1 ≤ b.length → a.length + b.length ≤ L → jf (f a) (f b) = f (a ++ b)) (hb : boxOk n 0 bs) (hL : Lens L (wordsOf n bs)) :
    runD jf ((List.range n).map fun k => f [k]) bs = (wordsOf n bs).map f := by
  have e : ((List.range n).map fun k => f [k]) = ((List.range n).map fun k => [k]).map f := by
    rw [List.map_map]
    rfl
  rw [e]
  exact runD_words2 (n := n) hf bs _ (by simpa using hb) (by simp) hL
/-- the numbers of a tuple -/
def natD : PyData → Nat
  | .int i => i.toNat
  | _ => 0
def decW : PyData → List Nat
  | .tuple xs => xs.map natD
  | _ => []
theorem dec_enc (w : List Nat) : decW (encW w) = w := by
  show (w.map nI).map natD = w
  rw [List.map_map]
  conv => rhs; rw [← List.map_id w]
  exact List.map_congr_left fun k _ => by
    show ((k : Int)).toNat = k
    omega
def jOf (J : List Nat → List Nat → List Nat) (x y : PyData) : PyData := encW (J (decW x) (decW y))
theorem jOf_enc {J : List Nat → List Nat → List Nat} (a b : List Nat) : jOf J (encW a) (encW b) = encW (J a b) := by
  unfold jOf
  rw [dec_enc, dec_enc]
def PrN (x : PyData) : Prop := ∃ w : List Nat, x = encW w ∧ w.Nodup ∧ ∀ k ∈ w, k < 12
theorem nodup_len : ∀ (n : Nat) (w : List Nat), w.Nodup → (∀ k ∈ w, k < n) → w.length ≤ n
  | 0, w, _, h => by
    cases w with
    | nil => exact Nat.le_refl _
    | cons k r => exact absurd (h k List.mem_cons_self) (by omega)
  | n + 1, w, hn, h => by
    by_cases hm : n ∈ w
    · have e := List.length_erase_of_mem hm
      have := nodup_len n (w.erase n) (hn.erase n) fun k hk => by
        have h1 := (List.Nodup.mem_erase_iff hn).mp hk
        have h2 := h k h1.2
        omega
      omega
    · have := nodup_len n w hn fun k hk => by
        have h2 := h k hk
        have : k ≠ n := fun z => hm (by rw [← z]; exact hk)
        omega
      omega
/-! ### first comings, last comings -/
def addF (a b : List Nat) : List Nat := a ++ b.filter fun x => !decide (x ∈ a)
def addL (a b : List Nat) : List Nat := a.filter (fun x => !decide (x ∈ b)) ++ b
def fstep (acc : List Nat) (x : Nat) : List Nat := if x ∈ acc then acc else acc ++ [x]
def firstsOf (w : List Nat) : List Nat := w.foldl fstep []
def lastsOf (w : List Nat) : List Nat := (firstsOf w.reverse).reverse
theorem fold_firsts : ∀ (m : Nat) (b acc : List Nat), b.length = m → b.foldl fstep acc = acc ++ (firstsOf b).filter fun x => !decide (x ∈ acc)
  | 0, b, acc, h => by
    rw [List.length_eq_zero_iff.mp h]
    exact (List.append_nil _).symm
  | m + 1, b, acc, h => by
    obtain ⟨c, x, rfl⟩ : ∃ c x, b = c ++ [x] := by
      rcases List.eq_nil_or_concat b with z | ⟨c, x, z⟩
      · rw [z] at h
        cases h
      · exact ⟨c, x, z.trans List.concat_eq_append⟩
    have ih := fold_firsts m c acc (by simpa using h)
    have e1 : firstsOf (c ++ [x]) = fstep (firstsOf c) x := by
      unfold firstsOf
      rw [List.foldl_append]
      rfl
    rw [List.foldl_append, ih, e1]
    show fstep (acc ++ _) x = _
    unfold fstep
    by_cases h1 : x ∈ firstsOf c
    · rw [if_pos h1, if_pos]
      by_cases h2 : x ∈ acc
      · exact List.mem_append_left _ h2
      · exact List.mem_append_right _ (List.mem_filter.mpr ⟨h1, by simp [h2]⟩)
    · rw [if_neg h1, List.filter_append]
      by_cases h2 : x ∈ acc
      · rw [if_pos (List.mem_append_left _ h2)]
        simp [h2]
      · rw [if_neg]
        · simp [h2]
        · intro z
          rcases List.mem_append.mp z with z | z
          · exact h2 z
          · exact h1 (List.mem_filter.mp z).1
theorem firsts_app (a b : List Nat) : firstsOf (a ++ b) = addF (firstsOf a) (firstsOf b) := by
  unfold addF
  rw [← fold_firsts _ b _ rfl]
  unfold firstsOf
  rw [List.foldl_append]
theorem lasts_app (a b : List Nat) : lastsOf (a ++ b) = addL (lastsOf a) (lastsOf b) := by
  unfold lastsOf addL
  rw [List.reverse_append, firsts_app]
  unfold addF
  rw [List.reverse_append, ← List.filter_reverse]
  congr 1
  refine List.filter_congr fun x _ => ?_
  simp
theorem firsts_one (k : Nat) : firstsOf [k] = [k] := rfl
theorem lasts_one (k : Nat) : lastsOf [k] = [k] := rfl
theorem mem_addF {a b : List Nat} {x : Nat} : x ∈ addF a b ↔ x ∈ a ∨ x ∈ b := by
  unfold addF
  rw [List.mem_append, List.mem_filter]
  by_cases h : x ∈ a <;> simp [h]
theorem mem_addL {a b : List Nat} {x : Nat} : x ∈ addL a b ↔ x ∈ a ∨ x ∈ b := by
  unfold addL
  rw [List.mem_append, List.mem_filter]
  by_cases h : x ∈ b <;> simp [h]
theorem nodup_addF {a b : List Nat} (ha : a.Nodup) (hb : b.Nodup) : (addF a b).Nodup := by
  unfold addF
  refine List.nodup_append.mpr ⟨ha, hb.sublist List.filter_sublist, fun x hx y hy z => ?_⟩
  have := (List.mem_filter.mp hy).2
  rw [← z] at this
  simp [hx] at this
theorem nodup_addL {a b : List Nat} (ha : a.Nodup) (hb : b.Nodup) : (addL a b).Nodup := by
  unfold addL
  refine List.nodup_append.mpr ⟨ha.sublist List.filter_sublist, hb, fun x hx y hy z => ?_⟩
  have := (List.mem_filter.mp hx).2
  rw [z] at this
  simp [hy] at this
theorem prN_F {x y : PyData} (hx : PrN x) (hy : PrN y) : PrN (jOf addF x y) := by
  obtain ⟨a, rfl, a1, a2⟩ := hx
  obtain ⟨b, rfl, b1, b2⟩ := hy
  rw [jOf_enc]
  exact ⟨_, rfl, nodup_addF a1 b1, fun k hk => (mem_addF.mp hk).elim (a2 k) (b2 k)⟩
theorem prN_L {x y : PyData} (hx : PrN x) (hy : PrN y) : PrN (jOf addL x y) := by
  obtain ⟨a, rfl, a1, a2⟩ := hx
  obtain ⟨b, rfl, b1, b2⟩ := hy
  rw [jOf_enc]
  exact ⟨_, rfl, nodup_addL a1 b1, fun k hk => (mem_addL.mp hk).elim (a2 k) (b2 k)⟩
/-! ### the places -/
def setOf (n : Nat) (w : List Nat) : List Nat := (List.range n).filter fun k => decide (k ∈ w)
def addS (a b : List Nat) : List Nat := setOf 12 (a ++ b)
theorem nodup_setOf {n : Nat} {w : List Nat} : (setOf n w).Nodup := List.nodup_range.sublist List.filter_sublist
theorem mem_setOf {n k : Nat} {w : List Nat} : k ∈ setOf n w ↔ k < n ∧ k ∈ w := by
  unfold setOf
  rw [List.mem_filter, List.mem_range, decide_eq_true_eq]
theorem prN_S {x y : PyData} (hx : PrN x) (hy : PrN y) : PrN (jOf addS x y) := by
  obtain ⟨a, rfl, a1, a2⟩ := hx
  obtain ⟨b, rfl, b1, b2⟩ := hy
  rw [jOf_enc]
  exact ⟨_, rfl, nodup_setOf, fun k hk => (mem_setOf.mp hk).1⟩
theorem setOf_app (a b : List Nat) : addS (setOf 12 a) (setOf 12 b) = setOf 12 (a ++ b) := by
  unfold addS
  refine List.filter_congr fun k hk => ?_
  have := List.mem_range.mp hk
  refine decide_eq_decide.mpr ?_
  rw [List.mem_append, List.mem_append, mem_setOf, mem_setOf]
  exact ⟨fun z => z.imp (·.2) (·.2), fun z => z.imp (fun y => ⟨this, y⟩) fun y => ⟨this, y⟩⟩
theorem setOf_le {n : Nat} {w : List Nat} (hn : n ≤ 12) (h : ∀ k ∈ w, k < n) : setOf 12 w = setOf n w := by
  have key : ∀ m, n ≤ m → setOf m w = setOf n w := by
    intro m
    induction m with
    | zero =>
      intro hm
      rw [Nat.le_zero.mp hm]
    | succ m ih =>
      intro hm
      by_cases e : n = m + 1
      · rw [e]
      · rw [← ih (by omega)]
        unfold setOf
        rw [List.range_succ, List.filter_append]
        have : ¬ m ∈ w := fun z => by
          have := h m z
          omega
        simp [this]
  exact key 12 hn
theorem setOf_one {k : Nat} (h : k < 12) : setOf 12 [k] = [k] := by
  match k, h with
  | 0, _ => decide
  | 1, _ => decide
  | 2, _ => decide
  | 3, _ => decide
  | 4, _ => decide
  | 5, _ => decide
  | 6, _ => decide
  | 7, _ => decide
  | 8, _ => decide
  | 9, _ => decide
  | 10, _ => decide
  | 11, _ => decide
  | k + 12, h => omega
/-- two in order, the one the other's turn -/
theorem sorted_eq : ∀ {a b : List Int}, a.Perm b → a.Pairwise (· ≤ ·) → b.Pairwise (· ≤ ·) → a = b
  | [], b, p, _, _ => (List.nil_perm.mp p).symm
  | x :: a, [], p, _, _ => absurd p.length_eq (by simp)
  | x :: a, y :: b, p, h1, h2 => by
    have hx : x ∈ y :: b := p.mem_iff.mp List.mem_cons_self
    have hy : y ∈ x :: a := p.mem_iff.mpr List.mem_cons_self
    have e : x = y := by
      rcases List.mem_cons.mp hx with z | z
      · exact z
      · rcases List.mem_cons.mp hy with z' | z'
        · exact z'.symm
        · have k1 := (List.pairwise_cons.mp h1).1 y z'
          have k2 := (List.pairwise_cons.mp h2).1 x z
          omega
    subst e
    rw [sorted_eq ((List.perm_cons x).mp p) (List.pairwise_cons.mp h1).2 (List.pairwise_cons.mp h2).2]
theorem sorted_setOf {n : Nat} {w : List Nat} : ((setOf n w).map fun k : Nat => (k : Int)).Pairwise (· ≤ ·) := by
  refine List.pairwise_map.mpr ?_
  have : (List.range n).Pairwise (· < ·) := List.pairwise_lt_range
  exact (this.sublist List.filter_sublist).imp fun h => by omega
theorem sorted_addS {a b : List Nat} (ha : a.Nodup) (hb : b.Nodup) (h1 : ∀ k ∈ a, k < 12) (h2 : ∀ k ∈ b, k < 12) {ns : List Int} (p : ns.Perm ((addF a b).map fun k : Nat => (k : Int))) (hs : ns.Pairwise (· ≤ ·)) : ns = (addS a b).map fun k : Nat => (k : Int) := by
  refine sorted_eq (p.trans (List.Perm.map _ ?_)) hs sorted_setOf
  refine (List.perm_ext_iff_of_nodup (nodup_addF ha hb) nodup_setOf).mpr fun k => ?_
  rw [mem_addF, mem_setOf, List.mem_append]
  exact ⟨fun z => ⟨z.elim (h1 k) (h2 k), z⟩, fun z => z.2⟩
theorem walk_zipT {K : PySem.W.Frag} {a b : Addr} {xs ys : List V} {n : Nat} (hx : xs.length = n) (hy : ys.length = n) : L2.Walk (RZ.ItzT K a b) n (fun H => SqT K H a xs ∧ SqT K H b ys) (L2.YPair (fun i => xs[i]?) fun i => ys[i]?) := by
  refine ⟨fun i _ hi q => ?_, fun _ q => ⟨xs, ys, q.1, q.2, Or.inl (by omega)⟩, fun i H v H' _ q y => ?_⟩
  · have h1 : i < xs.length := by omega
    have h2 : i < ys.length := by omega
    exact ⟨xs, ys, xs[i], ys[i], q.1, q.2, List.getElem?_eq_getElem h1, List.getElem?_eq_getElem h2⟩
  · obtain ⟨T, x, z, k1, k2, k3, k4, k5⟩ := y
    exact ⟨T, x, z, k1, k2, k3, k4 xs q.1, k5 ys q.2⟩
/-! ### how often -/
def countsOf (n : Nat) (w : List Nat) : List Nat := (List.range n).map fun k => w.count k
def addC (a b : List Nat) : List Nat := List.zipWith (· + ·) a b
theorem counts_app (n : Nat) (a b : List Nat) : addC (countsOf n a) (countsOf n b) = countsOf n (a ++ b) := by
  unfold addC countsOf
  rw [List.zipWith_map, List.zipWith_self]
  exact List.map_congr_left fun k _ => (List.count_append).symm
/-! ### the ends -/
def endsOf (w : List Nat) : List Nat := [w.headD 0, w.getLastD 0]
def addE (a b : List Nat) : List Nat := [a.headD 0, b.getD 1 0]
theorem ends_app {a b : List Nat} (ha : 1 ≤ a.length) (hb : 1 ≤ b.length) : addE (endsOf a) (endsOf b) = endsOf (a ++ b) := by
  match a, b, ha, hb with
  | x :: a, y :: b, _, _ =>
    show [x, (y :: b).getLastD 0] = [x, (x :: a ++ y :: b).getLastD 0]
    rw [List.getLastD_eq_getLast?, List.getLastD_eq_getLast?, List.getLast?_append]
    have e : (y :: b).getLast? = some ((y :: b).getLast (by simp)) := List.getLast?_eq_some_getLast _
    rw [e]
    rfl
/-! ### tuples that are known to be bare -/
def FrzT (H : Hp) (a : Addr) (xs : List V) : Prop := ∃ o : Obj, H a = some (.frz o (.tup xs)) ∧ o.cls = .type "tuple" ∧ o.dict = none
theorem FrzT.sq {K : PySem.W.Frag} {H : Hp} {a : Addr} {xs : List V} (h : FrzT H a xs) : SqT K H a xs := by
  obtain ⟨o, e, _⟩ := h
  exact Or.inl (Or.inr ⟨o, e⟩)
theorem FrzT.sm {c : Ct} {M : List Addr} {H H' : Hp} {a : Addr} {xs : List V} (h : FrzT H a xs) (s : Sm c M H H') (n : a ∉ M) : FrzT H' a xs := by
  obtain ⟨o, e, r⟩ := h
  exact ⟨o, s.ex a _ n e nofun, r⟩
def tTupF (t : TA) : TE := fun σ H Q => t σ H fun xs H1 => xs.length ≤ sizeLine ∧ ∀ (p : Addr) (o : Obj), H1 p = none → o.cls = .type "tuple" → o.dict = none → Q (.ref p) (upd H1 p (.frz o (.tup xs)))
theorem pe_tupF {X : Cx} {es : List Expr} {t : TA} {pos : Pos} {x1 : Nat} (h : PA X es t) : PE X (.Tuple es x1 pos) (tTupF t) := by
  refine ⟨fun pins s σ H Q I hq => ?_⟩
  refine wpAny_Tuple_spliced (thn (h.run pos pins s σ H _ I hq) fun us s1 hz => ?_)
  obtain ⟨xs, H1, I1, r, z, q⟩ := hz
  refine ⟨by rw [← r.length]; exact z, ?_⟩
  have hf : H1 s1.heap.objs.size = none := I1.hok.fresh (Nat.le_refl _)
  refine ⟨.ref s1.heap.objs.size, upd H1 s1.heap.objs.size (.frz _ (.tup xs)), I1.laid (t' := s1.toks) (fun b u e => Heap.get?_push_of_some _ e) (Nat.le_refl _) ⟨Heap.get?_push_size _ rfl, z, us, r, ⟨_, Heap.get?_push_size _ rfl, rfl, _, rfl⟩⟩, rfl, q _ _ hf rfl rfl⟩
def rCatF (K : PySem.W.Frag) : R2 := fun x y H Q => ∃ a b xs ys, x = .ref a ∧ y = .ref b ∧ SqT K H a xs ∧ SqT K H b ys ∧ xs ≠ [] ∧ ys ≠ [] ∧ xs.length + ys.length ≤ sizeLine ∧
  ∀ (p : Addr) (o : Obj), H p = none → o.cls = .type "tuple" → o.dict = none → Q (.ref p) (upd H p (.frz o (.tup (xs ++ ys))))
theorem op_catF {X : Cx} : OpR X (binaryOp .Add) (rCatF X.K) := by
  intro pins s σ H x y v u Q I rx ry h
  obtain ⟨a, b, xs, ys, rfl, rfl, ha, hb, hx, hy, hz, q2⟩ := h
  cases rx
  cases ry
  obtain ⟨its, r1, p1, _⟩ := I.tuple ha
  obtain ⟨its2, r2, p2, _⟩ := I.tuple hb
  refine HT.cat_tup p1 p2 (fun z => hx (r1.nil_iff.mp z)) (fun z => absurd (r2.nil_iff.mp z) hy) (fun z => ?_) (by rw [← r1.length, ← r2.length]; exact hz)
  refine ⟨.ref s.heap.objs.size, _, I.laid (t' := s.toks) (o := .frz _ (.tup (xs ++ ys))) (fun b ob q => Heap.get?_push_of_some _ q) (Nat.le_refl _) ⟨Heap.get?_push_size _ rfl, by rw [List.length_append]; exact hz, _, r1.append r2, IsTup.new _ _⟩, rfl, q2 _ _ (I.hok.fresh (Nat.le_refl _)) rfl rfl⟩
/-- numbers are added, tuples are joined to a bare one -/
def rAddF (K : PySem.W.Frag) : R2 := fun x y H Q => rAddG K x y H Q ∨ rCatF K x y H Q
theorem op_addF {X : Cx} {K : PySem.W.Frag} (h : X.K = K := by rfl) : OpR X (binaryOp .Add) (rAddF K) := by
  subst h
  exact OpR.either op_addG op_catF
/-- t.count(x), t a tuple of numbers -/
def tCnt (K : PySem.W.Frag) (to : TE) (t : TA) : TE := fun σ H Q => to σ H fun x H1 => (∃ p ys, x = .ref p ∧ FrzT H1 p ys) ∧ t σ H1 fun xs H2 => rCntT K x xs H2 Q
section
variable {X : Cx} {K : PySem.W.Frag}
theorem pe_cntK {o e : Expr} {to : TE} {t : TA} {apos cpos : Pos} (ho : PE X o to) (ha : PA X [e] t)
    (hbase : attributeBase o "count" X.env (eval o X.env) = eval o X.env := by rfl)
    (hfew : ((backTo cpos (starEach [e] X.env)).all (fun x => !x.1) && (backToKw cpos (keywordEach [] X.env)).all (fun x => x.1.isSome)
      && decide ([e].length + ([] : List Keyword).length + (if ([] : List Keyword).isEmpty then 0 else 1) < 30)) = true := by rfl)
    (hline : (apos.endLine == cpos.line) = true := by rfl) (hs : starEach [e] X.env = (false, eval e X.env) :: starEach [] X.env := by rfl) (hplain : (backTo cpos (starEach [] X.env)).any (·.1) = false := by rfl) (h : X.K = K := by rfl) :
    PE X (.Call (.Attribute o "count" apos) [e] [] cpos) (tCnt K to t) := by
  subst h
  refine ⟨fun pins s σ H Q I h => ?_⟩
  refine wpAny_Call_method_late hbase hfew hline rfl (thn (ho.run pins s σ H _ I h) fun v s1 hz => ?_)
  obtain ⟨x, H1, I1, r1, ⟨p, ys, rfl, hsq⟩, q1⟩ := hz
  cases r1
  obtain ⟨ob, ho, hcl, hdn⟩ := hsq
  obtain ⟨hob, _⟩ := I1.hok p _ ho
  refine ⟨"tuple", "tuple.count", PySem.F.plainAttrs_tuple, PySem.F.slot_tuple_count, PySem.F.type_tuple_count, ⟨ob, hob, hcl⟩, fun a e => ?_, ?_⟩
  · cases e
    exact ⟨ob, hob, hdn⟩
  · have hA := ha.run cpos pins s1 σ H1 _ I1 q1
    rw [hs] at hA ⊢
    refine Calls.callWith_builtin (by show (false || (backTo cpos (starEach [] X.env)).any (·.1)) = false; rw [hplain]; rfl) (Calls.evalArgs_plain ?_)
    exact thn hA fun us s2 ⟨vs, H2, I2, r2, q2⟩ => mt_tcount pins s2 σ H2 (.ref p) vs (.ref p) us Q I2 rfl r2 q2
end
end My

/-! values seen without the heap: data, lists of one's own, what is borrowed; what stands at a point of a def -/
namespace My
open PySem PySem.Spec PyProof.Rows L2
open LamX (CodeO TabS ExtN)

/-- what never changes once it is made -/
def Stays : HO → Prop
  | .lst _ => False
  | .dT _ => False
  | .dK _ => False
  | .set _ _ => False
  | .ins _ _ _ => False
  | _ => True
/-- what stood stands, but for tables and the lists that may change -/
structure Sn (c : Ct) (M : List Addr) (H H' : Hp) : Prop where
  ex : ∀ b o, b ∉ M → H b = some o → (∀ ps, o ≠ .tbl ps) → H' b = some o
  nl : ∀ b o, H b = some o → (∀ ps, o ≠ .tbl ps) → Stays o → H' b = some o
  st : ∀ b, H b ≠ none → H' b ≠ none
  gd : Gd c H → Gd c H'
section
variable {c : Ct} {M M' : List Addr} {H H1 H2 H' : Hp} {p l : Addr} {o : HO}
theorem Sn.refl : Sn c M H H := ⟨fun _ _ _ e _ => e, fun _ _ e _ _ => e, fun _ e => e, fun g => g⟩
theorem Sn.trans (a : Sn c M H H1) (b : Sn c M H1 H2) : Sn c M H H2 :=
  ⟨fun x u n e t => b.ex x u n (a.ex x u n e t) t, fun x u e t n => b.nl x u (a.nl x u e t n) t n, fun x e => b.st x (a.st x e), fun g => b.gd (a.gd g)⟩
theorem Sn.sub (a : Sn c M H H1) (h : ∀ x ∈ M, x ∈ M') : Sn c M' H H1 := ⟨fun x u n => a.ex x u fun z => n (h x z), a.nl, a.st, a.gd⟩
theorem Sn.any (a : Sn c [] H H1) : Sn c M H H1 := a.sub fun _ h => nomatch h
theorem Sn.fresh (a : Sn c M H H1) (h : H1 p = none) : H p = none := Classical.byContradiction fun z => a.st p z h
theorem Sn.of (a : Sm c [] H H1) : Sn c M H H1 := ⟨fun b o _ e t => a.ex b o (fun z => nomatch z) e t, fun b o e t _ => a.ex b o (fun z => nomatch z) e t, a.st, a.gd⟩
theorem Sn.new (hp : H p = none) : Sn c M H (upd H p o) := Sn.of (Sm.new hp)
theorem Sn.put {xs ys : List V} (hl : l ∈ M) (h : H l = some (.lst xs)) : Sn c M H (upd H l (.lst ys)) :=
  ⟨(Sm.put (c := c) hl h).ex, fun b o e _ n => by rw [upd_ne (fun z => by rw [z, h] at e; cases e; exact n)]; exact e, (Sm.put (c := c) hl h).st, (Sm.put hl h).gd⟩
theorem Sn.ext (a : Sn c [] H H') : ExtN H H' := fun b o e n => a.ex b o (fun z => nomatch z) e n
theorem Sn.sm (a : Sn c M H H') : Sm c M H H' := ⟨a.ex, a.st, a.gd⟩
/-- what may change was made behind H: so it is nothing to H -/
theorem Sn.outs {L : List Addr} (a : Sn c (L ++ M) H H') (hl : ∀ l ∈ L, H l = none) : Sn c M H H' :=
  ⟨fun b u n e t => a.ex b u (fun z => by
    rcases List.mem_append.mp z with z | z
    · rw [hl b z] at e
      cases e
    · exact n z) e t, a.nl, a.st, a.gd⟩
end
/-- a bare tuple -/
abbrev bw (ds : List PyData) : PyData := .dict [(.none, .tuple ds)]
/-- the script: a list that is read alone -/
abbrev scr (ds : List PyData) : PyData := .dict [(.bool true, .list ds)]
mutual
/-- v is the data d, nothing of which may change; tuples of the module, too -/
inductive Dk (K : PySem.W.Frag) (M : List Addr) (H : Hp) : V → PyData → Prop
  | non : Dk K M H .non .none
  | bl (b : Bool) : Dk K M H (.bl b) (.bool b)
  | int (i : Int) : Dk K M H (.int i) (.int i)
  | str (x : Str) : Dk K M H (.str x) (.str x)
  | lst {a : Addr} {xs : List V} {ds : List PyData} : a ∉ M → H a = some (.lst xs) → Dks K M H xs ds → Dk K M H (.ref a) (.list ds)
  | tup {a : Addr} {xs : List V} {ds : List PyData} : a ∉ M → H a = some (.tup xs) → Dks K M H xs ds → Dk K M H (.ref a) (.tuple ds)
  | bar {a : Addr} {xs : List V} {ds : List PyData} : a ∉ M → FrzT H a xs → Dks K M H xs ds → Dk K M H (.ref a) (.dict [(.none, .tuple ds)])
  | ktup {a : Addr} {xs : List V} {ds : List PyData} : (∀ H' : Hp, SqT K H' a xs) → Dks K M H xs ds → Dk K M H (.ref a) (.tuple ds)
  | dct {a : Addr} : a ∉ M → H a = some (.dK []) → Dk K M H (.ref a) (.dict [])
  | scr {a : Addr} {xs : List V} {ds : List PyData} : a ∉ M → Rd H a (.lst xs) → Dks K M H xs ds → Dk K M H (.ref a) (.dict [(.bool true, .list ds)])
  | scrK {a : Addr} {xs : List V} {ds : List PyData} : (∀ H' : Hp, SqL K H' a xs) → Dks K M H xs ds → Dk K M H (.ref a) (.dict [(.bool true, .list ds)])
inductive Dks (K : PySem.W.Frag) (M : List Addr) (H : Hp) : List V → List PyData → Prop
  | nil : Dks K M H [] []
  | cons {v : V} {vs : List V} {d : PyData} {ds : List PyData} : Dk K M H v d → Dks K M H vs ds → Dks K M H (v :: vs) (d :: ds)
end
section
variable {c : Ct} {K : PySem.W.Frag} {M M' : List Addr} {H H' : Hp}
mutual
theorem Dk.map (h : ∀ a o, a ∉ M → H a = some o → (∀ ps, o ≠ .tbl ps) → a ∉ M' ∧ H' a = some o) : ∀ {v : V} {d : PyData}, Dk K M H v d → Dk K M' H' v d
  | _, _, .non => .non
  | _, _, .bl b => .bl b
  | _, _, .int i => .int i
  | _, _, .str x => .str x
  | _, _, .lst n e r => let z := h _ _ n e nofun; .lst z.1 z.2 (Dks.map h r)
  | _, _, .tup n e r => let z := h _ _ n e nofun; .tup z.1 z.2 (Dks.map h r)
  | _, _, .bar n ⟨o, e, e2⟩ r => let z := h _ _ n e nofun; .bar z.1 ⟨o, z.2, e2⟩ (Dks.map h r)
  | _, _, .ktup e r => .ktup e (Dks.map h r)
  | _, _, .dct n e => let z := h _ _ n e nofun; .dct z.1 z.2
  | _, _, .scr n (.inl e) r => let z := h _ _ n e nofun; .scr z.1 (.inl z.2) (Dks.map h r)
  | _, _, .scr n (.inr ⟨o, e⟩) r => let z := h _ _ n e nofun; .scr z.1 (.inr ⟨o, z.2⟩) (Dks.map h r)
  | _, _, .scrK e r => .scrK e (Dks.map h r)
theorem Dks.map (h : ∀ a o, a ∉ M → H a = some o → (∀ ps, o ≠ .tbl ps) → a ∉ M' ∧ H' a = some o) : ∀ {vs : List V} {ds : List PyData}, Dks K M H vs ds → Dks K M' H' vs ds
  | _, _, .nil => .nil
  | _, _, .cons x r => .cons (Dk.map h x) (Dks.map h r)
end
theorem Dk.sm {v : V} {d : PyData} (s : Sn c M H H') (x : Dk K M H v d) : Dk K M H' v d := x.map fun a o n e t => ⟨n, s.ex a o n e t⟩
theorem Dks.sm {v : List V} {d : List PyData} (s : Sn c M H H') (x : Dks K M H v d) : Dks K M H' v d := x.map fun a o n e t => ⟨n, s.ex a o n e t⟩
theorem Dk.sub {v : V} {d : PyData} (h : ∀ x ∈ M', x ∈ M) (x : Dk K M H v d) : Dk K M' H v d := x.map fun a o n e _ => ⟨fun z => n (h a z), e⟩
theorem Dks.sub {v : List V} {d : List PyData} (h : ∀ x ∈ M', x ∈ M) (x : Dks K M H v d) : Dks K M' H v d := x.map fun a o n e _ => ⟨fun z => n (h a z), e⟩
theorem Dks.length : ∀ {vs : List V} {ds : List PyData}, Dks K M H vs ds → vs.length = ds.length
  | _, _, .nil => rfl
  | _, _, .cons _ r => congrArg (· + 1) r.length
theorem Dks.get : ∀ {vs : List V} {ds : List PyData} {i : Nat} {d : PyData}, Dks K M H vs ds → ds[i]? = some d → ∃ v, vs[i]? = some v ∧ Dk K M H v d
  | _, _, 0, _, .cons x _, e => ⟨_, rfl, by cases e; exact x⟩
  | _, _, i + 1, _, .cons _ r, e => by simpa using Dks.get (i := i) r (by simpa using e)
theorem Dks.getV : ∀ {vs : List V} {ds : List PyData} {i : Nat} {v : V}, Dks K M H vs ds → vs[i]? = some v → ∃ d, ds[i]? = some d ∧ Dk K M H v d
  | _, _, 0, _, .cons x _, e => ⟨_, rfl, by cases e; exact x⟩
  | _, _, i + 1, _, .cons _ r, e => by simpa using Dks.getV (i := i) r (by simpa using e)
theorem Dks.append : ∀ {vs ws : List V} {ds es : List PyData}, Dks K M H vs ds → Dks K M H ws es → Dks K M H (vs ++ ws) (ds ++ es)
  | _, _, _, _, .nil, r => r
  | _, _, _, _, .cons x q, r => .cons x (q.append r)
theorem Dks.snoc {vs : List V} {ds : List PyData} {v : V} {d : PyData} (a : Dks K M H vs ds) (b : Dk K M H v d) : Dks K M H (vs ++ [v]) (ds ++ [d]) := a.append (.cons b .nil)
theorem Dks.take : ∀ {vs : List V} {ds : List PyData} (k : Nat), Dks K M H vs ds → Dks K M H (vs.take k) (ds.take k)
  | _, _, 0, _ => .nil
  | _, _, _ + 1, .nil => .nil
  | _, _, k + 1, .cons a r => .cons a (Dks.take k r)
theorem Dks.drop : ∀ {vs : List V} {ds : List PyData} (k : Nat), Dks K M H vs ds → Dks K M H (vs.drop k) (ds.drop k)
  | _, _, 0, r => r
  | _, _, _ + 1, .nil => .nil
  | _, _, k + 1, .cons _ r => Dks.drop k r
theorem Dks.rev : ∀ {vs : List V} {ds : List PyData}, Dks K M H vs ds → Dks K M H vs.reverse ds.reverse
  | _, _, .nil => .nil
  | _, _, .cons a r => by
    rw [List.reverse_cons, List.reverse_cons]
    exact r.rev.snoc a
theorem Dks.flat {vs : List V} {ds : List PyData} (x : Dks K M H vs ds) : ∀ n : Nat, Dks K M H (List.replicate n vs).flatten (List.replicate n ds).flatten
  | 0 => .nil
  | n + 1 => by
    rw [List.replicate_succ, List.replicate_succ, List.flatten_cons, List.flatten_cons]
    exact x.append (Dks.flat x n)
theorem Dks.set : ∀ {vs : List V} {ds : List PyData} (k : Nat) {v : V} {d : PyData}, Dks K M H vs ds → Dk K M H v d → Dks K M H (vs.set k v) (ds.set k d)
  | _, _, _, _, _, .nil, _ => .nil
  | _, _, 0, _, _, .cons _ r, x => .cons x r
  | _, _, k + 1, _, _, .cons a r, x => .cons a (Dks.set k r x)
theorem Dks.ints : ∀ (ns : List Int), Dks K M H (ns.map V.int) (ns.map PyData.int)
  | [] => .nil
  | n :: r => .cons (.int n) (Dks.ints r)
mutual
theorem Dq.dk : ∀ {v : V} {d : PyData}, Dq M H v d → Dk K M H v d
  | _, _, .non => .non
  | _, _, .bl b => .bl b
  | _, _, .int i => .int i
  | _, _, .str x => .str x
  | _, _, .lst n e r => .lst n e (Dqs.dk r)
  | _, _, .tup n e r => .tup n e (Dqs.dk r)
  | _, _, .dct n e => .dct n e
theorem Dqs.dk : ∀ {v : List V} {d : List PyData}, Dqs M H v d → Dks K M H v d
  | _, _, .nil => .nil
  | _, _, .cons x r => .cons x.dk (Dqs.dk r)
end
mutual
/-- bare tuples as tuples -/
def um : PyData → PyData
  | .dict [(.none, .tuple ds)] => .tuple (ums ds)
  | .list ds => .list (ums ds)
  | .tuple ds => .tuple (ums ds)
  | d => d
def ums : List PyData → List PyData
  | [] => []
  | d :: ds => um d :: ums ds
end
theorem FrzT.sqt {a : Addr} {xs : List V} (h : FrzT H a xs) : SqT K H a xs := h.sq
mutual
theorem Dk.dp : ∀ {v : V} {d : PyData}, (um d).hasDict = false → Dk K M H v d → Dp K H v (um d)
  | _, _, _, .non => .non
  | _, _, _, .bl b => .bl b
  | _, _, _, .int i => .int i
  | _, _, _, .str x => .str x
  | _, _, h, .lst _ e r => by
    simp only [um] at h ⊢
    exact .lst (SqL.of e) (Dks.dp (by simpa [PyData.hasDict] using h) r)
  | _, _, h, .tup _ e r => by
    simp only [um] at h ⊢
    exact .tup (SqT.of e) (Dks.dp (by simpa [PyData.hasDict] using h) r)
  | _, _, h, .bar _ e r => by
    simp only [um] at h ⊢
    exact .tup e.sq (Dks.dp (by simpa [PyData.hasDict] using h) r)
  | _, _, h, .ktup e r => by
    simp only [um] at h ⊢
    exact .tup (e H) (Dks.dp (by simpa [PyData.hasDict] using h) r)
  | _, _, h, .dct _ _ => by simp [um, PyData.hasDict] at h
  | _, _, h, .scr _ _ _ => by simp [um, PyData.hasDict] at h
  | _, _, h, .scrK _ _ => by simp [um, PyData.hasDict] at h
theorem Dks.dp : ∀ {v : List V} {d : List PyData}, PyData.hasDictAll (ums d) = false → Dks K M H v d → DpAll K H v (ums d)
  | _, _, _, .nil => .nil
  | _, _, h, .cons x r => by
    simp only [ums, PyData.hasDictAll, Bool.or_eq_false_iff] at h ⊢
    exact .cons (Dk.dp h.1 x) (Dks.dp h.2 r)
end
mutual
theorem um_same : ∀ {d : PyData}, d.hasDict = false → um d = d
  | .none, _ => rfl
  | .bool _, _ => rfl
  | .int _, _ => rfl
  | .str _, _ => rfl
  | .list ds, h => by
    simp only [um]
    rw [ums_same (by simpa [PyData.hasDict] using h)]
  | .tuple ds, h => by
    simp only [um]
    rw [ums_same (by simpa [PyData.hasDict] using h)]
  | .dict _, h => by simp [PyData.hasDict] at h
theorem ums_same : ∀ {ds : List PyData}, PyData.hasDictAll ds = false → ums ds = ds
  | [], _ => rfl
  | d :: ds, h => by
    simp only [PyData.hasDictAll, Bool.or_eq_false_iff] at h
    simp only [ums]
    rw [um_same h.1, ums_same h.2]
end
theorem Dk.dp0 {v : V} {d : PyData} (h : d.hasDict = false) (x : Dk K M H v d) : Dp K H v d := by
  have := Dk.dp (by rw [um_same h]; exact h) x
  rwa [um_same h] at this
theorem Dk.bool_inv {v : V} {b : Bool} (x : Dk K M H v (.bool b)) : v = .bl b := by cases x; rfl
theorem Dk.int_inv {v : V} {i : Int} (x : Dk K M H v (.int i)) : v = .int i := by cases x; rfl
theorem Dk.str_inv {v : V} {i : Str} (x : Dk K M H v (.str i)) : v = .str i := by cases x; rfl
theorem Dk.none_inv {v : V} (x : Dk K M H v .none) : v = .non := by cases x; rfl
end

/-! ### a value at tree level -/
/-- how a thing of one's own lies in the heap: its places, what it holds -/
structure Rep where
  P : PySem.W.Frag → List Addr → Hp → List Addr → List PyData → Prop
  ob : ∀ {K M H as ds}, P K M H as ds → ∀ a ∈ as, ∃ o, H a = some o ∧ ∀ ps, o ≠ .tbl ps
  map : ∀ {K : PySem.W.Frag} {M M' : List Addr} {H H' : Hp} {as : List Addr} {ds : List PyData}, P K M H as ds → (∀ a ∈ as, H' a = H a) → (∀ a o, a ∉ M → H a = some o → (∀ ps, o ≠ .tbl ps) → a ∉ M' ∧ H' a = some o) → P K M' H' as ds
def inA (a : Addr) : List Addr → Nat
  | [] => 0
  | b :: r => (if a = b then 1 else 0) + inA a r
theorem inA_pos {a : Addr} : ∀ {as : List Addr}, 0 < inA a as ↔ a ∈ as
  | [] => by simp [inA]
  | b :: r => by
    have := inA_pos (a := a) (as := r)
    rw [List.mem_cons]
    unfold inA
    by_cases h : a = b
    · rw [if_pos h]
      exact ⟨fun _ => Or.inl h, fun _ => by omega⟩
    · rw [if_neg h, Nat.zero_add, this]
      exact ⟨Or.inr, fun z => z.resolve_left h⟩
abbrev FSpec := List PyData → (PyData → Prop) → Prop
inductive Rv where
  | dat (d : PyData)
  /-- a list of one's own (k: made here) -/
  | own (k : Bool) (a : Addr) (ds : List PyData)
  /-- the list at a of slot i, borrowed -/
  | bor (a : Addr) (i : Nat)
  | tup (rs : List Rv)
  /-- what may be called -/
  | fn (j : Nat) (f : Addr) (ar : Nat) (S : FSpec)
  /-- a range object -/
  | rg (lo hi : Int)
  /-- a list of one's own, of things of one's own -/
  | nst (a : Addr) (rs : List Rv)
  /-- a state of one's own: the thing at a, with what lies at as -/
  | st (k : Bool) (R : Rep) (a : Addr) (as : List Addr) (ds : List PyData)
mutual
/-- how often the list at a is owned -/
def Rv.cnt (a : Addr) : Rv → Nat
  | .own _ b _ => if a = b then 1 else 0
  | .tup rs => Rv.cntL a rs
  | .dat _ => 0
  | .bor _ _ => 0
  | .fn _ _ _ _ => 0
  | .rg _ _ => 0
  | .nst b rs => (if a = b then 1 else 0) + Rv.cntL a rs
  | .st _ _ b bs _ => inA a (b :: bs)
def Rv.cntL (a : Addr) : List Rv → Nat
  | [] => 0
  | r :: rs => r.cnt a + Rv.cntL a rs
end
/-- the frame of a def's run -/
structure Fx where
  P : Program
  w : World
  K : PySem.W.Frag
  mg : Str → Option Value
  base : Heap
  c : Ct
structure Fm extends Fx where
  B : List Addr
  M : List Addr
  H0 : Hp
/-- a promise over data alone -/
def spP (K : PySem.W.Frag) (c : Ct) (S : FSpec) : Sp := fun vs H Q _ => ∃ (M : List Addr) (ds : List PyData) (k : PyData → Prop),
  Gd c H ∧ (∀ m ∈ M, H m ≠ none) ∧ Dks K M H vs ds ∧ S ds k ∧ ∀ v H' d, Sn c [] H H' → Dk K M H' v d → k d → Q v H'
mutual
inductive Rq (f : Fm) (L : List Addr) (H : Hp) : V → Rv → Prop
  | dat {v : V} {d : PyData} : Dk f.K (L ++ f.M) H v d → Rq f L H v (.dat d)
  | own {k : Bool} {a : Addr} {xs : List V} {ds : List PyData} : (k = true → a ∈ L) → (k = false → a ∈ f.B) → H a = some (.lst xs) → Dks f.K (L ++ f.M) H xs ds → Rq f L H (.ref a) (.own k a ds)
  | bor {a : Addr} {i : Nat} : Rq f L H (.ref a) (.bor a i)
  | tup {p : Addr} {xs : List V} {rs : List Rv} : p ∉ L ++ f.M → H p = some (.tup xs) → Rqs f L H xs rs → Rq f L H (.ref p) (.tup rs)
  | fn {j : Nat} {g : Addr} {ar : Nat} {S : FSpec} (Hf : Hp) : Cal f.P f.w f.K f.mg f.base j g Hf ar (spP f.K f.c S) →
      (∀ b o, Hf b = some o → (∀ ps, o ≠ .tbl ps) → Stays o ∧ H b = some o) → Rq f L H (.ref g) (.fn j g ar S)
  | rg {p : Addr} {lo hi : Int} : p ∉ L ++ f.M → H p = some (.rng lo hi) → Rq f L H (.ref p) (.rg lo hi)
  | nst {a : Addr} {xs : List V} {rs : List Rv} : a ∈ L → H a = some (.lst xs) → Rqs f L H xs rs → Rq f L H (.ref a) (.nst a rs)
  | st {k : Bool} {R : Rep} {a : Addr} {as : List Addr} {ds : List PyData} : (k = true → ∀ b ∈ a :: as, b ∈ L) → (k = false → ∀ b ∈ a :: as, b ∈ f.B) → R.P f.K (L ++ f.M) H (a :: as) ds → Rq f L H (.ref a) (.st k R a as ds)
inductive Rqs (f : Fm) (L : List Addr) (H : Hp) : List V → List Rv → Prop
  | nil : Rqs f L H [] []
  | cons {v : V} {vs : List V} {r : Rv} {rs : List Rv} : Rq f L H v r → Rqs f L H vs rs → Rqs f L H (v :: vs) (r :: rs)
end
section
variable {f : Fm} {L L' : List Addr} {H H' : Hp}
theorem Rq.map_ (h : ∀ a o, a ∉ L ++ f.M → H a = some o → (∀ ps, o ≠ .tbl ps) → a ∉ L' ++ f.M ∧ H' a = some o) (hn : ∀ b o, H b = some o → (∀ ps, o ≠ .tbl ps) → Stays o → H' b = some o) :
    (∀ {v : V} {r : Rv}, Rq f L H v r → (∀ a, 0 < r.cnt a → (a ∈ L → a ∈ L') ∧ H' a = H a) → Rq f L' H' v r) ∧
    (∀ {v : List V} {r : List Rv}, Rqs f L H v r → (∀ a, 0 < Rv.cntL a r → (a ∈ L → a ∈ L') ∧ H' a = H a) → Rqs f L' H' v r) := by
  have c1 : ∀ {v d}, Dk f.K (L ++ f.M) H v d → (∀ a, 0 < (Rv.dat d).cnt a → (a ∈ L → a ∈ L') ∧ H' a = H a) → Rq f L' H' v (.dat d) := fun x _ => .dat (x.map h)
  have c2 : ∀ {k a xs ds}, (k = true → a ∈ L) → (k = false → a ∈ f.B) → H a = some (.lst xs) → Dks f.K (L ++ f.M) H xs ds → (∀ b, 0 < (Rv.own k a ds).cnt b → (b ∈ L → b ∈ L') ∧ H' b = H b) → Rq f L' H' (.ref a) (.own k a ds) := fun {k a xs ds} x1 x2 e r g => by
    obtain ⟨g1, g2⟩ := g a (by simp [Rv.cnt])
    exact .own (fun z => g1 (x1 z)) x2 (g2.trans e) (r.map h)
  have c3 : ∀ {p xs rs}, p ∉ L ++ f.M → H p = some (.tup xs) → Rqs f L H xs rs → ((∀ a, 0 < Rv.cntL a rs → (a ∈ L → a ∈ L') ∧ H' a = H a) → Rqs f L' H' xs rs) → (∀ a, 0 < (Rv.tup rs).cnt a → (a ∈ L → a ∈ L') ∧ H' a = H a) → Rq f L' H' (.ref p) (.tup rs) := fun {p xs rs} n e _ ih g => by
    have z := h _ _ n e nofun
    exact .tup z.1 z.2 (ih fun a ha => g a (by simpa [Rv.cnt] using ha))
  have c4 : ∀ {j g ar S} (Hf : Hp), Cal f.P f.w f.K f.mg f.base j g Hf ar (spP f.K f.c S) → (∀ b o, Hf b = some o → (∀ ps, o ≠ .tbl ps) → Stays o ∧ H b = some o) → (∀ a, 0 < (Rv.fn j g ar S).cnt a → (a ∈ L → a ∈ L') ∧ H' a = H a) → Rq f L' H' (.ref g) (.fn j g ar S) := fun Hf c x _ => .fn Hf c fun b o e t => by
    obtain ⟨x1, x2⟩ := x b o e t
    exact ⟨x1, hn b o x2 t x1⟩
  have c6 : ∀ {p lo hi}, p ∉ L ++ f.M → H p = some (.rng lo hi) → (∀ a, 0 < (Rv.rg lo hi).cnt a → (a ∈ L → a ∈ L') ∧ H' a = H a) → Rq f L' H' (.ref p) (.rg lo hi) := fun {p lo hi} n e _ => by
    have z := h _ _ n e nofun
    exact .rg z.1 z.2
  have c7 : ∀ {a xs rs}, a ∈ L → H a = some (.lst xs) → Rqs f L H xs rs → ((∀ a, 0 < Rv.cntL a rs → (a ∈ L → a ∈ L') ∧ H' a = H a) → Rqs f L' H' xs rs) → (∀ b, 0 < (Rv.nst a rs).cnt b → (b ∈ L → b ∈ L') ∧ H' b = H b) → Rq f L' H' (.ref a) (.nst a rs) := fun {a xs rs} n e _ ih g => by
    obtain ⟨g1, g2⟩ := g a (by simp only [Rv.cnt, if_pos]; omega)
    exact .nst (g1 n) (g2.trans e) (ih fun b hb => g b (by simp only [Rv.cnt]; omega))
  have c8 : ∀ {k R a as ds}, (k = true → ∀ b ∈ a :: as, b ∈ L) → (k = false → ∀ b ∈ a :: as, b ∈ f.B) → R.P f.K (L ++ f.M) H (a :: as) ds → (∀ b, 0 < (Rv.st k R a as ds).cnt b → (b ∈ L → b ∈ L') ∧ H' b = H b) → Rq f L' H' (.ref a) (.st k R a as ds) := fun {k R a as ds} x1 x2 p g => by
    have g := fun b (hb : b ∈ a :: as) => g b (inA_pos.mpr hb)
    exact .st (fun z b hb => (g b hb).1 (x1 z b hb)) x2 (R.map p (fun b hb => (g b hb).2) h)
  have c5 : ∀ {v vs r rs}, ((∀ a, 0 < r.cnt a → (a ∈ L → a ∈ L') ∧ H' a = H a) → Rq f L' H' v r) → ((∀ a, 0 < Rv.cntL a rs → (a ∈ L → a ∈ L') ∧ H' a = H a) → Rqs f L' H' vs rs) → (∀ a, 0 < Rv.cntL a (r :: rs) → (a ∈ L → a ∈ L') ∧ H' a = H a) → Rqs f L' H' (v :: vs) (r :: rs) := fun {v vs r rs} i1 i2 g =>
    .cons (i1 fun a ha => g a (by simp only [Rv.cntL]; omega)) (i2 fun a ha => g a (by simp only [Rv.cntL]; omega))
  constructor
  · intro v r x
    exact Rq.rec (motive_1 := fun v r _ => (∀ a, 0 < r.cnt a → (a ∈ L → a ∈ L') ∧ H' a = H a) → Rq f L' H' v r) (motive_2 := fun v r _ => (∀ a, 0 < Rv.cntL a r → (a ∈ L → a ∈ L') ∧ H' a = H a) → Rqs f L' H' v r)
      c1 c2 (fun _ => .bor) c3 c4 c6 c7 c8 (fun _ => .nil) (fun _ _ => c5) x
  · intro v r x
    exact Rqs.rec (motive_1 := fun v r _ => (∀ a, 0 < r.cnt a → (a ∈ L → a ∈ L') ∧ H' a = H a) → Rq f L' H' v r) (motive_2 := fun v r _ => (∀ a, 0 < Rv.cntL a r → (a ∈ L → a ∈ L') ∧ H' a = H a) → Rqs f L' H' v r)
      c1 c2 (fun _ => .bor) c3 c4 c6 c7 c8 (fun _ => .nil) (fun _ _ => c5) x
theorem Rq.map (h : ∀ a o, a ∉ L ++ f.M → H a = some o → (∀ ps, o ≠ .tbl ps) → a ∉ L' ++ f.M ∧ H' a = some o) (hn : ∀ b o, H b = some o → (∀ ps, o ≠ .tbl ps) → Stays o → H' b = some o) {v : V} {r : Rv} (g : ∀ a, 0 < r.cnt a → (a ∈ L → a ∈ L') ∧ H' a = H a) (x : Rq f L H v r) : Rq f L' H' v r := (Rq.map_ h hn).1 x g
theorem Rqs.map (h : ∀ a o, a ∉ L ++ f.M → H a = some o → (∀ ps, o ≠ .tbl ps) → a ∉ L' ++ f.M ∧ H' a = some o) (hn : ∀ b o, H b = some o → (∀ ps, o ≠ .tbl ps) → Stays o → H' b = some o) {v : List V} {r : List Rv} (g : ∀ a, 0 < Rv.cntL a r → (a ∈ L → a ∈ L') ∧ H' a = H a) (x : Rqs f L H v r) : Rqs f L' H' v r := (Rq.map_ h hn).2 x g
theorem Rqs.length : ∀ {vs : List V} {rs : List Rv}, Rqs f L H vs rs → vs.length = rs.length
  | _, _, .nil => rfl
  | _, _, .cons _ r => congrArg (· + 1) r.length
theorem Rqs.append : ∀ {vs ws : List V} {rs ss : List Rv}, Rqs f L H vs rs → Rqs f L H ws ss → Rqs f L H (vs ++ ws) (rs ++ ss)
  | _, _, _, _, .nil, r => r
  | _, _, _, _, .cons x q, r => .cons x (q.append r)
/-- what is owned -/
theorem Rq.mem : ∀ {v : V} {r : Rv} {a : Addr}, Rq f L H v r → 0 < r.cnt a → a ∈ L ∨ a ∈ f.B := by
  intro v r a h
  refine Rq.rec (motive_1 := fun v r _ => 0 < r.cnt a → a ∈ L ∨ a ∈ f.B) (motive_2 := fun vs rs _ => 0 < Rv.cntL a rs → a ∈ L ∨ a ∈ f.B) ?_ ?_ ?_ ?_ ?_ ?_ ?_ ?_ ?_ ?_ h
  · intro v d _ z
    simp [Rv.cnt] at z
  · intro k b xs ds x1 x2 _ _ z
    have e : a = b := Classical.byContradiction fun n => by simp [Rv.cnt, n] at z
    subst e
    cases k with
    | true => exact Or.inl (x1 rfl)
    | false => exact Or.inr (x2 rfl)
  · intro a i z
    simp [Rv.cnt] at z
  · intro p xs rs _ _ _ ih z
    exact ih (by simpa [Rv.cnt] using z)
  · intro j g ar S Hf _ _ z
    simp [Rv.cnt] at z
  · intro p lo hi _ _ z
    simp [Rv.cnt] at z
  · intro b xs rs x1 _ _ ih z
    by_cases q : a = b
    · rw [q]
      exact Or.inl x1
    · simp only [Rv.cnt, if_neg q] at z
      exact ih (by omega)
  · intro k R b as ds x1 x2 p z
    have z2 : a ∈ b :: as := inA_pos.mp z
    cases k with
    | true => exact Or.inl (x1 rfl a z2)
    | false => exact Or.inr (x2 rfl a z2)
  · intro z
    simp [Rv.cntL] at z
  · intro v vs r rs _ _ i1 i2 z
    simp only [Rv.cntL] at z
    by_cases q : 0 < r.cnt a
    · exact i1 q
    · exact i2 (by omega)
/-- what is owned is a list -/
theorem Rq.lst : ∀ {v : V} {r : Rv} {a : Addr}, Rq f L H v r → 0 < r.cnt a → ∃ o, H a = some o ∧ ∀ ps, o ≠ .tbl ps := by
  intro v r a h
  refine Rq.rec (motive_1 := fun v r _ => 0 < r.cnt a → ∃ o, H a = some o ∧ ∀ ps, o ≠ .tbl ps) (motive_2 := fun vs rs _ => 0 < Rv.cntL a rs → ∃ o, H a = some o ∧ ∀ ps, o ≠ .tbl ps) ?_ ?_ ?_ ?_ ?_ ?_ ?_ ?_ ?_ ?_ h
  · intro v d _ z
    simp [Rv.cnt] at z
  · intro k b xs ds x1 x2 e _ z
    have e : a = b := Classical.byContradiction fun n => by simp [Rv.cnt, n] at z
    subst e
    exact ⟨.lst xs, by assumption, nofun⟩
  · intro a i z
    simp [Rv.cnt] at z
  · intro p xs rs _ _ _ ih z
    exact ih (by simpa [Rv.cnt] using z)
  · intro j g ar S Hf _ _ z
    simp [Rv.cnt] at z
  · intro p lo hi _ _ z
    simp [Rv.cnt] at z
  · intro b xs rs _ x2 _ ih z
    by_cases q : a = b
    · rw [q]
      exact ⟨.lst xs, x2, nofun⟩
    · simp only [Rv.cnt, if_neg q] at z
      exact ih (by omega)
  · intro k R b as ds x1 x2 p z
    exact R.ob p a (inA_pos.mp z)
  · intro z
    simp [Rv.cntL] at z
  · intro v vs r rs _ _ i1 i2 z
    simp only [Rv.cntL] at z
    by_cases q : 0 < r.cnt a
    · exact i1 q
    · exact i2 (by omega)
end
abbrev Ev := List (Option Rv)
def cO (a : Addr) : Option Rv → Nat
  | some r => r.cnt a
  | none => 0
def cE (a : Addr) : Ev → Nat
  | [] => 0
  | o :: e => cO a o + cE a e
def cP (a : Addr) : List (V × Rv) → Nat
  | [] => 0
  | p :: P => p.2.cnt a + cP a P
theorem cP_app (a : Addr) : ∀ (P Q : List (V × Rv)), cP a (P ++ Q) = cP a P + cP a Q
  | [], Q => by simp [cP]
  | p :: P, Q => by
    show p.2.cnt a + cP a (P ++ Q) = p.2.cnt a + cP a P + cP a Q
    rw [cP_app a P Q]
    omega
theorem cP_one (a : Addr) (v : V) (r : Rv) : cP a [(v, r)] = r.cnt a := by simp [cP]
theorem cE_set (a : Addr) (o : Option Rv) : ∀ (e : Ev) (i : Nat), i < e.length → cE a (e.set i o) + cO a (e[i]?.getD none) = cE a e + cO a o
  | [], _, h => nomatch h
  | x :: e, 0, _ => by
    show cO a o + cE a e + cO a x = cO a x + cE a e + cO a o
    omega
  | x :: e, i + 1, h => by
    have := cE_set a o e i (by simpa using h)
    show cO a x + cE a (e.set i o) + cO a (e[i]?.getD none) = cO a x + cE a e + cO a o
    omega
theorem cE_get {a : Addr} {e : Ev} {i : Nat} {r : Rv} (h : e[i]? = some (some r)) : r.cnt a ≤ cE a e := by
  induction e generalizing i with
  | nil => simp at h
  | cons x e ih =>
    cases i with
    | zero =>
      cases h
      show r.cnt a ≤ r.cnt a + cE a e
      omega
    | succ i =>
      have := ih (i := i) (by simpa using h)
      show r.cnt a ≤ cO a x + cE a e
      omega
theorem cP_mem {a : Addr} {P : List (V × Rv)} {p : V × Rv} (h : p ∈ P) : p.2.cnt a ≤ cP a P := by
  induction P with
  | nil => nomatch h
  | cons x P ih =>
    show p.2.cnt a ≤ x.2.cnt a + cP a P
    rcases List.mem_cons.mp h with z | z
    · rw [z]; omega
    · have := ih z
      omega
/-- what stands at a point of a def: P what is pending -/
structure Stn (f : Fm) (L : List Addr) (P : List (V × Rv)) (σ : L2.St) (H : Hp) (e : Ev) : Prop where
  gd : Gd f.c H
  sm : Sn f.c (L ++ f.B) f.H0 H
  fr : ∀ l ∈ L, f.H0 l = none
  al0 : ∀ m ∈ f.M, f.H0 m ≠ none
  bm : ∀ b ∈ f.B, b ∈ f.M
  al : ∀ m ∈ L, H m ≠ none
  nd : ∀ a, cE a e + cP a P ≤ 1
  ln : e.length = σ.length
  sl : ∀ (i : Nat) (r : Rv), e[i]? = some (some r) → ∃ v, σ[i]? = some (some v) ∧ Rq f L H v r
  pd : ∀ p ∈ P, Rq f L H p.1 p.2
section
variable {f : Fm} {L L' : List Addr} {P : List (V × Rv)} {σ : L2.St} {H H' : Hp} {e : Ev} {v : V} {r : Rv} {p a : Addr} {xs : List V} {ds : List PyData} {d : PyData}
theorem Stn.all (S : Stn f L P σ H e) : ∀ m ∈ L ++ f.M, H m ≠ none := fun m hm => by
  rcases List.mem_append.mp hm with z | z
  · exact S.al m z
  · exact S.sm.st m (S.al0 m z)
/-- to another heap -/
theorem Stn.to (S : Stn f L P σ H e) (h : ∀ a o, a ∉ L ++ f.M → H a = some o → (∀ ps, o ≠ .tbl ps) → a ∉ L' ++ f.M ∧ H' a = some o) (hn : ∀ b o, H b = some o → (∀ ps, o ≠ .tbl ps) → Stays o → H' b = some o)
    (g : ∀ a, 0 < cE a e + cP a P → (a ∈ L → a ∈ L') ∧ H' a = H a) (gd : Gd f.c H') (sm : Sn f.c (L' ++ f.B) f.H0 H') (fr : ∀ l ∈ L', f.H0 l = none) (al : ∀ m ∈ L', H' m ≠ none) : Stn f L' P σ H' e :=
  ⟨gd, sm, fr, S.al0, S.bm, al, S.nd, S.ln, fun i r hr => by
    obtain ⟨v, h1, h2⟩ := S.sl i r hr
    exact ⟨v, h1, h2.map h hn fun a ha => g a (by have := cE_get (a := a) hr; omega)⟩,
   fun p hp => (S.pd p hp).map h hn fun a ha => g a (by have := cP_mem (a := a) hp; omega)⟩
/-- the heap grows -/
theorem Stn.grow (S : Stn f L P σ H e) (s : Sn f.c [] H H') : Stn f L P σ H' e := by
  refine S.to (fun a o n x t => ⟨n, s.ex a o (fun z => nomatch z) x t⟩) s.nl (fun a ha => ⟨fun z => z, ?_⟩) (s.gd S.gd) (S.sm.trans s.any) S.fr fun m hm => s.st m (S.al m hm)
  have : ∃ o, H a = some o ∧ ∀ ps, o ≠ .tbl ps := by
    by_cases z : 0 < cP a P
    · have : ∀ P : List (V × Rv), 0 < cP a P → ∃ p ∈ P, 0 < p.2.cnt a := fun P => by
        induction P with
        | nil => intro z; simp [cP] at z
        | cons x P ih =>
          intro z
          by_cases q : 0 < x.2.cnt a
          · exact ⟨x, List.mem_cons_self, q⟩
          · obtain ⟨p, hp, hq⟩ := ih (by simp only [cP] at z; omega)
            exact ⟨p, List.mem_cons_of_mem _ hp, hq⟩
      obtain ⟨p, hp, hq⟩ := this P z
      exact Rq.lst (S.pd p hp) hq
    · have : ∀ e : Ev, 0 < cE a e → ∃ (i : Nat) (r : Rv), e[i]? = some (some r) ∧ 0 < r.cnt a := fun e => by
        induction e with
        | nil => intro z; simp [cE] at z
        | cons x e ih =>
          intro z
          by_cases q : 0 < cO a x
          · cases x with
            | none => simp [cO] at q
            | some r => exact ⟨0, r, rfl, q⟩
          · obtain ⟨i, r, h1, h2⟩ := ih (by simp only [cE] at z; omega)
            exact ⟨i + 1, r, by simpa using h1, h2⟩
      obtain ⟨i, r, h1, h2⟩ := this e (by omega)
      obtain ⟨v, _, h3⟩ := S.sl i r h1
      exact Rq.lst h3 h2
  obtain ⟨o, hx, ht⟩ := this
  rw [s.ex a _ (fun z => nomatch z) hx ht, hx]
end
end My

/-! how a point goes on -/
namespace My
open PySem PySem.Spec PyProof.Rows L2
open LamX (CodeO TabS ExtN)
section
variable {f : Fm} {L L' : List Addr} {P R : List (V × Rv)} {σ : L2.St} {H H' : Hp} {e : Ev} {v : V} {r : Rv} {p a : Addr} {xs : List V} {ds : List PyData} {d : PyData} {k : Bool} {i : Nat}
theorem Stn.owned (S : Stn f L P σ H e) (z : 0 < cE a e + cP a P) : (∃ o, H a = some o ∧ ∀ ps, o ≠ .tbl ps) ∧ (a ∈ L ∨ a ∈ f.B) := by
  by_cases z2 : 0 < cP a P
  · have : ∀ P : List (V × Rv), 0 < cP a P → ∃ p ∈ P, 0 < p.2.cnt a := fun P => by
      induction P with
      | nil => intro z; simp [cP] at z
      | cons x P ih =>
        intro z
        by_cases q : 0 < x.2.cnt a
        · exact ⟨x, List.mem_cons_self, q⟩
        · obtain ⟨p, hp, hq⟩ := ih (by simp only [cP] at z; omega)
          exact ⟨p, List.mem_cons_of_mem _ hp, hq⟩
    obtain ⟨p, hp, hq⟩ := this P z2
    exact ⟨Rq.lst (S.pd p hp) hq, Rq.mem (S.pd p hp) hq⟩
  · have : ∀ e : Ev, 0 < cE a e → ∃ (i : Nat) (r : Rv), e[i]? = some (some r) ∧ 0 < r.cnt a := fun e => by
      induction e with
      | nil => intro z; simp [cE] at z
      | cons x e ih =>
        intro z
        by_cases q : 0 < cO a x
        · cases x with
          | none => simp [cO] at q
          | some r => exact ⟨0, r, rfl, q⟩
        · obtain ⟨i, r, h1, h2⟩ := ih (by simp only [cE] at z; omega)
          exact ⟨i + 1, r, by simpa using h1, h2⟩
    obtain ⟨i, r, h1, h2⟩ := this e (by omega)
    obtain ⟨v, _, h3⟩ := S.sl i r h1
    exact ⟨Rq.lst h3 h2, Rq.mem h3 h2⟩
theorem Stn.pop (S : Stn f L (P ++ R) σ H e) : Stn f L P σ H e :=
  ⟨S.gd, S.sm, S.fr, S.al0, S.bm, S.al, fun a => by have := S.nd a; rw [cP_app] at this; omega, S.ln, S.sl, fun p hp => S.pd p (List.mem_append_left _ hp)⟩
theorem Stn.mid {Q : List (V × Rv)} (S : Stn f L (P ++ R ++ Q) σ H e) : Stn f L (P ++ Q) σ H e :=
  ⟨S.gd, S.sm, S.fr, S.al0, S.bm, S.al, fun a => by have := S.nd a; rw [cP_app, cP_app] at this; rw [cP_app]; omega, S.ln, S.sl, fun p hp => S.pd p (by
    rcases List.mem_append.mp hp with z | z
    · exact List.mem_append_left _ (List.mem_append_left _ z)
    · exact List.mem_append_right _ z)⟩
theorem Stn.last (S : Stn f L (P ++ [(v, r)]) σ H e) : Rq f L H v r := S.pd (v, r) (List.mem_append_right _ List.mem_cons_self)
/-- one more is pending -/
theorem Stn.push (S : Stn f L P σ H e) (x : Rq f L H v r) (h : ∀ a, cE a e + cP a P + r.cnt a ≤ 1) : Stn f L (P ++ [(v, r)]) σ H e :=
  ⟨S.gd, S.sm, S.fr, S.al0, S.bm, S.al, fun a => by rw [cP_app, cP_one]; have := h a; omega, S.ln, S.sl, fun p hp => by
    rcases List.mem_append.mp hp with z | z
    · exact S.pd p z
    · rw [List.mem_singleton.mp z]
      exact x⟩
theorem Stn.pushD (S : Stn f L P σ H e) (x : Dk f.K (L ++ f.M) H v d) : Stn f L (P ++ [(v, .dat d)]) σ H e := S.push (.dat x) fun a => by have := S.nd a; simp only [Rv.cnt]; omega
theorem Stn.newD (S : Stn f L P σ H e) (s : Sn f.c [] H H') (x : Dk f.K (L ++ f.M) H' v d) : Stn f L (P ++ [(v, .dat d)]) σ H' e := (S.grow s).pushD x
/-- a new list -/
theorem Stn.fresh (S : Stn f L P σ H e) (hp : H p = none) (x : Dks f.K (L ++ f.M) H xs ds) : Stn f (p :: L) (P ++ [(.ref p, .own true p ds)]) σ (upd H p (.lst xs)) e := by
  have off : ∀ {b o}, H b = some o → upd H p (.lst xs) b = some o := fun {b o} z => by rw [upd_ne (ne_of_none z hp)]; exact z
  have s : Sn f.c (L ++ f.B) H (upd H p (.lst xs)) := Sn.new hp
  have nodes : ∀ b o, b ∉ L ++ f.M → H b = some o → (∀ ps, o ≠ .tbl ps) → b ∉ (p :: L) ++ f.M ∧ upd H p (.lst xs) b = some o := fun b o n z _ => ⟨fun q => by
    rcases List.mem_cons.mp q with q | q
    · rw [q, hp] at z
      cases z
    · exact n q, off z⟩
  have S1 : Stn f (p :: L) P σ (upd H p (.lst xs)) e := by
    refine S.to nodes s.nl (fun a ha => ⟨fun z => List.mem_cons_of_mem _ z, ?_⟩) ((Sn.new (c := f.c) (M := []) hp).gd S.gd) ((S.sm.trans s).sub fun x hx => List.mem_cons_of_mem _ hx) (fun l hl => ?_) fun m hm => ?_
    · obtain ⟨⟨ys, h, _⟩, _⟩ := S.owned ha
      rw [off h, h]
    · rcases List.mem_cons.mp hl with z | z
      · rw [z]
        exact S.sm.fresh hp
      · exact S.fr l z
    · rcases List.mem_cons.mp hm with z | z
      · rw [z, upd_same]
        nofun
      · exact s.st m (S.al m z)
  refine S1.push (.own (fun _ => List.mem_cons_self) nofun upd_same (x.map nodes)) fun a => ?_
  have := S.nd a
  simp only [Rv.cnt]
  by_cases z : a = p
  · subst z
    rw [if_pos rfl]
    have : ¬ 0 < cE a e + cP a P := fun z => by
      obtain ⟨⟨ys, h, _⟩, _⟩ := S.owned z
      rw [hp] at h
      cases h
    omega
  · rw [if_neg z]
    omega
/-- what is read -/
def rd (e : Ev) : Rv → Option PyData
  | .dat d => some d
  | .own _ _ ds => some (.list ds)
  | .bor a i => match e[i]? with
    | some (some (.own _ b ds)) => if a = b then some (.list ds) else none
    | _ => none
  | .tup _ => none
  | .fn _ _ _ _ => none
  | .rg _ _ => none
  | .nst _ _ => none
  | .st _ _ _ _ _ => none
/-- the same, by what follows -/
def rdK (e : Ev) (r : Rv) (k : PyData → Prop) : Prop := match r with
  | .dat d => k d
  | .own _ _ ds => k (.list ds)
  | .bor a i => match e[i]? with
    | some (some (.own _ b ds)) => a = b ∧ k (.list ds)
    | _ => False
  | .tup _ => False
  | .fn _ _ _ _ => False
  | .rg _ _ => False
  | .nst _ _ => False
  | .st _ _ _ _ _ => False
theorem rdK_some {e : Ev} {r : Rv} {k : PyData → Prop} (h : rdK e r k) : ∃ d, rd e r = some d ∧ k d := by
  cases r with
  | dat d => exact ⟨d, rfl, h⟩
  | own k a ds => exact ⟨_, rfl, h⟩
  | bor a i =>
    simp only [rdK] at h
    simp only [rd]
    split at h
    · obtain ⟨rfl, h⟩ := h
      exact ⟨_, by rw [if_pos rfl], h⟩
    · exact h.elim
  | tup _ => exact h.elim
  | fn _ _ _ _ => exact h.elim
  | rg _ _ => exact h.elim
  | nst _ _ => exact h.elim
  | st _ _ _ _ _ => exact h.elim
/-- the same, but for whose the list itself is -/
def Ck (K : PySem.W.Frag) (M : List Addr) (H : Hp) (v : V) (d : PyData) : Prop := (∃ a xs ds, d = .list ds ∧ v = .ref a ∧ H a = some (.lst xs) ∧ Dks K M H xs ds) ∨ Dk K M H v d
theorem Ck.sm {c : Ct} {K : PySem.W.Frag} {M : List Addr} (s : Sn c [] H H') (h : Ck K M H v d) : Ck K M H' v d := by
  rcases h with ⟨a, xs, ds, e1, e2, e3, e4⟩ | h
  · exact Or.inl ⟨a, xs, ds, e1, e2, s.ex a _ (fun z => nomatch z) e3 nofun, e4.sm (s.any (M := M))⟩
  · exact Or.inr (h.sm (s.any (M := M)))
theorem Ck.lst {K : PySem.W.Frag} {M : List Addr} (h : Ck K M H v (.list ds)) : ∃ a xs, v = .ref a ∧ H a = some (.lst xs) ∧ Dks K M H xs ds := by
  rcases h with ⟨a, xs, ds', e1, e2, e3, e4⟩ | h
  · cases e1
    exact ⟨a, xs, e2, e3, e4⟩
  · cases h with
    | lst _ e r => exact ⟨_, _, rfl, e, r⟩
theorem Ck.dk {K : PySem.W.Frag} {M : List Addr} (h : Ck K M H v d) (n : ∀ ds, d ≠ .list ds) : Dk K M H v d := by
  rcases h with ⟨a, xs, ds, e1, _⟩ | h
  · exact absurd e1 (n ds)
  · exact h
theorem Ck.int {K : PySem.W.Frag} {M : List Addr} {i : Int} (h : Ck K M H v (.int i)) : v = .int i := (h.dk nofun).int_inv
theorem Ck.str {K : PySem.W.Frag} {M : List Addr} {i : Str} (h : Ck K M H v (.str i)) : v = .str i := (h.dk nofun).str_inv
theorem Ck.bool {K : PySem.W.Frag} {M : List Addr} {i : Bool} (h : Ck K M H v (.bool i)) : v = .bl i := (h.dk nofun).bool_inv
theorem Ck.tup {K : PySem.W.Frag} {M : List Addr} (h : Ck K M H v (.tuple ds)) : ∃ a xs, v = .ref a ∧ SqT K H a xs ∧ Dks K M H xs ds := by
  have h := h.dk nofun
  cases h with
  | tup _ e r => exact ⟨_, _, rfl, SqT.of e, r⟩
  | ktup e r => exact ⟨_, _, rfl, e H, r⟩
theorem Ck.bar {K : PySem.W.Frag} {M : List Addr} (h : Ck K M H v (bw ds)) : ∃ a xs, v = .ref a ∧ FrzT H a xs ∧ Dks K M H xs ds := by
  have h := h.dk nofun
  cases h with
  | bar _ e r => exact ⟨_, _, rfl, e, r⟩
theorem Ck.dp {K : PySem.W.Frag} {M : List Addr} (h : Ck K M H v d) (n : (um d).hasDict = false) : Dp K H v (um d) := by
  rcases h with ⟨a, xs, ds, rfl, rfl, e3, e4⟩ | h
  · simp only [um] at n ⊢
    exact .lst (SqL.of e3) (e4.dp (by simpa [PyData.hasDict] using n))
  · exact h.dp n
/-- the items of a list, a tuple, a bare tuple -/
def seqOf : PyData → Option (List PyData)
  | .list ds => some ds
  | .tuple ds => some ds
  | .dict [(.none, .tuple ds)] => some ds
  | .dict [(.bool true, .list ds)] => some ds
  | _ => none
theorem Ck.scr {K : PySem.W.Frag} {M : List Addr} (h : Ck K M H v (scr ds)) : ∃ a xs, v = .ref a ∧ SqL K H a xs ∧ Dks K M H xs ds := by
  have h := h.dk nofun
  cases h with
  | scr _ e r => exact ⟨_, _, rfl, Or.inl e, r⟩
  | scrK e r => exact ⟨_, _, rfl, e H, r⟩
theorem Ck.seq {K : PySem.W.Frag} {M : List Addr} (h : Ck K M H v d) (hs : seqOf d = some ds) : ∃ a xs, v = .ref a ∧ (SqL K H a xs ∨ SqT K H a xs) ∧ Dks K M H xs ds := by
  unfold seqOf at hs
  split at hs
  · cases hs
    obtain ⟨a, xs, h1, h2, h3⟩ := h.lst
    exact ⟨a, xs, h1, Or.inl (SqL.of h2), h3⟩
  · cases hs
    obtain ⟨a, xs, h1, h2, h3⟩ := h.tup
    exact ⟨a, xs, h1, Or.inr h2, h3⟩
  · cases hs
    obtain ⟨a, xs, h1, h2, h3⟩ := h.bar
    exact ⟨a, xs, h1, Or.inr h2.sq, h3⟩
  · cases hs
    obtain ⟨a, xs, h1, h2, h3⟩ := h.scr
    exact ⟨a, xs, h1, Or.inl h2, h3⟩
  · cases hs
theorem Stn.read (S : Stn f L P σ H e) (hp : (v, r) ∈ P) (h : rd e r = some d) : Ck f.K (L ++ f.M) H v d := by
  have q := S.pd _ hp
  cases q with
  | dat x => cases h; exact Or.inr x
  | own _ _ h1 h2 => cases h; exact Or.inl ⟨_, _, _, rfl, rfl, h1, h2⟩
  | bor =>
    rename_i a i
    simp only [rd] at h
    split at h
    · rename_i k b ds he
      split at h
      · rename_i ab
        subst ab
        cases h
        obtain ⟨v, h1, h2⟩ := S.sl _ _ he
        cases h2 with
        | own _ _ h3 h4 => exact Or.inl ⟨_, _, _, rfl, rfl, h3, h4⟩
      · cases h
    · cases h
  | tup _ _ _ => cases h
  | fn _ _ _ => cases h
  | rg _ _ => cases h
  | nst _ _ _ => cases h
  | st _ _ _ => cases h
mutual
/-- what is frozen -/
def Rv.fz : Rv → Option PyData
  | .dat d => some d
  | .own k _ ds => if k = true then some (.list ds) else none
  | .tup rs => (Rv.fzL rs).map .tuple
  | .bor _ _ => none
  | .fn _ _ _ _ => none
  | .rg _ _ => none
  | .nst _ rs => (Rv.fzL rs).map .list
  | .st _ _ _ _ _ => none
def Rv.fzL : List Rv → Option (List PyData)
  | [] => some []
  | r :: rs => match r.fz, Rv.fzL rs with
    | some d, some ds => some (d :: ds)
    | _, _ => none
end
theorem fz_dk (hs : ∀ x ∈ L', x ∈ L) (x : Rq f L H v r) : ∀ d, r.fz = some d → (∀ a, 0 < r.cnt a → a ∉ L' ++ f.M) → Dk f.K (L' ++ f.M) H v d := by
  have sub : ∀ {M}, ∀ x ∈ L' ++ M, x ∈ L ++ M := fun x hx => by
    rcases List.mem_append.mp hx with z | z
    · exact List.mem_append_left _ (hs x z)
    · exact List.mem_append_right _ z
  refine Rq.rec (motive_1 := fun v r _ => ∀ d, r.fz = some d → (∀ a, 0 < r.cnt a → a ∉ L' ++ f.M) → Dk f.K (L' ++ f.M) H v d)
    (motive_2 := fun vs rs _ => ∀ ds, Rv.fzL rs = some ds → (∀ a, 0 < Rv.cntL a rs → a ∉ L' ++ f.M) → Dks f.K (L' ++ f.M) H vs ds) ?_ ?_ ?_ ?_ ?_ ?_ ?_ ?_ ?_ ?_ x
  · intro v d x _ h _
    cases h
    exact x.sub sub
  · intro k a xs ds x1 x2 h1 h2 d h n
    cases k with
    | false => simp [Rv.fz] at h
    | true =>
      simp only [Rv.fz, if_pos] at h
      cases h
      exact .lst (n a (by simp [Rv.cnt])) h1 (h2.sub sub)
  · intro a i d h _
    simp [Rv.fz] at h
  · intro p xs rs n1 h1 _ ih d h n
    simp only [Rv.fz] at h
    obtain ⟨ds, h2, e⟩ := Option.map_eq_some_iff.mp h
    subst e
    exact .tup (fun z => n1 (sub _ z)) h1 (ih ds h2 fun a ha => n a (by simpa [Rv.cnt] using ha))
  · intro j g ar S Hf _ _ d h _
    simp [Rv.fz] at h
  · intro p lo hi _ _ d h _
    simp [Rv.fz] at h
  · intro a xs rs x1 h1 _ ih d h n
    simp only [Rv.fz] at h
    obtain ⟨ds, h2, e⟩ := Option.map_eq_some_iff.mp h
    subst e
    exact .lst (n a (by simp only [Rv.cnt, if_pos]; omega)) h1 (ih ds h2 fun b hb => n b (by simp only [Rv.cnt]; omega))
  · intro k R a as ds _ _ _ d h _
    simp [Rv.fz] at h
  · intro ds h _
    simp only [Rv.fzL] at h
    cases h
    exact .nil
  · intro v vs r rs _ _ i1 i2 ds h n
    simp only [Rv.fzL] at h
    split at h
    · rename_i d ds' h1 h2
      cases h
      exact .cons (i1 d h1 fun a ha => n a (by simp only [Rv.cntL]; omega)) (i2 ds' h2 fun a ha => n a (by simp only [Rv.cntL]; omega))
    · cases h
theorem fz_loc (x : Rq f L H v r) : ∀ d, r.fz = some d → ∀ a, 0 < r.cnt a → a ∈ L := by
  refine Rq.rec (motive_1 := fun v r _ => ∀ d, r.fz = some d → ∀ a, 0 < r.cnt a → a ∈ L)
    (motive_2 := fun vs rs _ => ∀ ds, Rv.fzL rs = some ds → ∀ a, 0 < Rv.cntL a rs → a ∈ L) ?_ ?_ ?_ ?_ ?_ ?_ ?_ ?_ ?_ ?_ x
  · intro v d x _ h a z
    simp [Rv.cnt] at z
  · intro k b xs ds x1 x2 h1 h2 d h a z
    have e : a = b := Classical.byContradiction fun n => by simp [Rv.cnt, n] at z
    subst e
    cases k with
    | false => simp [Rv.fz] at h
    | true => exact x1 rfl
  · intro a i d h
    simp [Rv.fz] at h
  · intro p xs rs n1 h1 _ ih d h a z
    simp only [Rv.fz] at h
    obtain ⟨ds, h2, e⟩ := Option.map_eq_some_iff.mp h
    exact ih ds h2 a (by simpa [Rv.cnt] using z)
  · intro j g ar S Hf _ _ d h
    simp [Rv.fz] at h
  · intro p lo hi _ _ d h
    simp [Rv.fz] at h
  · intro b xs rs x1 _ _ ih d h a z
    simp only [Rv.fz] at h
    obtain ⟨ds, h2, e⟩ := Option.map_eq_some_iff.mp h
    by_cases q : a = b
    · rw [q]
      exact x1
    · simp only [Rv.cnt, if_neg q] at z
      exact ih ds h2 a (by omega)
  · intro k R a as ds _ _ _ d h
    simp [Rv.fz] at h
  · intro ds h a z
    simp [Rv.cntL] at z
  · intro v vs r rs _ _ i1 i2 ds h a z
    simp only [Rv.fzL] at h
    simp only [Rv.cntL] at z
    split at h
    · rename_i d ds' h1 h2
      by_cases q : 0 < r.cnt a
      · exact i1 d h1 a q
      · exact i2 ds' h2 a (by omega)
    · cases h
theorem Stn.freeze (S : Stn f L (P ++ [(v, r)]) σ H e) (h : r.fz = some d) : ∃ L', Stn f L' (P ++ [(v, .dat d)]) σ H e := by
  have loc := fz_loc S.last d h
  refine ⟨L.filter fun l => decide (r.cnt l = 0), ?_⟩
  have sub : ∀ x ∈ L.filter fun l => decide (r.cnt l = 0), x ∈ L := fun x hx => (List.mem_filter.mp hx).1
  have subM : ∀ x ∈ (L.filter fun l => decide (r.cnt l = 0)) ++ f.M, x ∈ L ++ f.M := fun x hx => by
    rcases List.mem_append.mp hx with z | z
    · exact List.mem_append_left _ (sub x z)
    · exact List.mem_append_right _ z
  have S1 : Stn f (L.filter fun l => decide (r.cnt l = 0)) P σ H e := by
    refine S.pop.to (fun a o n z _ => ⟨fun q => n (subM _ q), z⟩) (fun _ _ z _ _ => z) (fun a ha => ⟨fun z => List.mem_filter.mpr ⟨z, decide_eq_true ?_⟩, rfl⟩) S.gd ?_ (fun l hl => S.fr l (sub l hl)) fun m hm => S.al m (sub m hm)
    · have := S.nd a
      rw [cP_app, cP_one] at this
      omega
    · refine ⟨fun b o n z t => S.sm.ex b o (fun q => ?_) z t, S.sm.nl, S.sm.st, S.sm.gd⟩
      rcases List.mem_append.mp q with q | q
      · rw [S.fr b q] at z
        cases z
      · exact n (List.mem_append_right _ q)
  refine S1.pushD (fz_dk sub S.last d h fun a ha z => ?_)
  rcases List.mem_append.mp z with z | z
  · have := of_decide_eq_true (List.mem_filter.mp z).2
    omega
  · exact S.al0 a z (S.fr a (loc a ha))
/-- the list of a slot is taken out -/
theorem Stn.clear (S : Stn f L P σ H e) : Stn f L P σ H (e.set i none) := by
  refine ⟨S.gd, S.sm, S.fr, S.al0, S.bm, S.al, fun a => ?_, by rw [List.length_set]; exact S.ln, fun j r hr => ?_, S.pd⟩
  · have := S.nd a
    by_cases hi : i < e.length
    · have h2 := cE_set a none e i hi
      simp only [cO] at h2
      omega
    · rw [List.set_eq_of_length_le (by omega)]
      exact this
  · by_cases hj : i = j
    · subst hj
      by_cases hi : i < e.length
      · rw [List.getElem?_set_self hi] at hr
        cases hr
      · rw [List.set_eq_of_length_le (by omega)] at hr
        exact S.sl i r hr
    · rw [List.getElem?_set_ne hj] at hr
      exact S.sl j r hr
theorem Stn.takes (S : Stn f L P σ H e) (h : e[i]? = some (some r)) : ∀ a, cE a (e.set i none) + cP a P + r.cnt a ≤ 1 := fun a => by
  have := S.nd a
  have h2 := cE_set a none e i (List.getElem?_eq_some_iff.mp h).1
  rw [h] at h2
  simp only [Option.getD_some, cO] at h2
  omega
theorem Stn.take (S : Stn f L (P ++ [(v, .bor a i)]) σ H e) (h : e[i]? = some (some (.own k a ds))) : Stn f L (P ++ [(v, .own k a ds)]) σ H (e.set i none) := by
  have q := S.last
  cases q
  obtain ⟨v', h1, h2⟩ := S.sl _ _ h
  have h3 := h2
  cases h3
  exact S.pop.clear.push h2 (S.pop.takes h)
/-- a slot gets a value -/
theorem Stn.give (S : Stn f L P σ H e) (hi : σ[i]? = some (some v)) (x : Rq f L H v r) (h : ∀ a, cE a (e.set i none) + cP a P + r.cnt a ≤ 1) : Stn f L P σ H (e.set i (some r)) := by
  have hl : i < e.length := by
    rw [S.ln]
    exact (List.getElem?_eq_some_iff.mp hi).1
  refine ⟨S.gd, S.sm, S.fr, S.al0, S.bm, S.al, fun a => ?_, by rw [List.length_set]; exact S.ln, fun j q hq => ?_, S.pd⟩
  · have h1 := h a
    have h2 := cE_set a none e i hl
    have h3 := cE_set a (some r) e i hl
    simp only [cO] at h2 h3
    omega
  · by_cases hj : i = j
    · subst hj
      rw [List.getElem?_set_self hl] at hq
      cases hq
      exact ⟨v, hi, x⟩
    · rw [List.getElem?_set_ne hj] at hq
      exact S.sl j q hq
theorem Stn.put (S : Stn f L (P ++ [(v, r)]) σ H e) (hl : i < e.length) : Stn f L P (σ.set i (some v)) H (e.set i (some r)) := by
  have hl' : i < σ.length := by rw [← S.ln]; exact hl
  refine ⟨S.gd, S.sm, S.fr, S.al0, S.bm, S.al, fun a => ?_, by rw [List.length_set, List.length_set]; exact S.ln, fun j q hq => ?_, S.pop.pd⟩
  · have h1 := S.nd a
    rw [cP_app, cP_one] at h1
    have h3 := cE_set a (some r) e i hl
    simp only [cO] at h3
    omega
  · by_cases hj : i = j
    · subst hj
      rw [List.getElem?_set_self hl] at hq
      cases hq
      exact ⟨v, by rw [List.getElem?_set_self hl'], S.last⟩
    · rw [List.getElem?_set_ne hj] at hq ⊢
      exact S.sl j q hq
theorem Stn.wipe1 {x : Option V} (S : Stn f L P σ H e) : Stn f L P (σ.set i x) H (e.set i none) := by
  have S1 := S.clear (i := i)
  refine ⟨S1.gd, S1.sm, S1.fr, S1.al0, S1.bm, S1.al, S1.nd, by rw [List.length_set, List.length_set]; exact S.ln, fun j q hq => ?_, S1.pd⟩
  by_cases hj : i = j
  · subst hj
    by_cases hi : i < e.length
    · rw [List.getElem?_set_self hi] at hq
      cases hq
    · have := (List.getElem?_eq_some_iff.mp hq).1
      rw [List.length_set] at this
      omega
  · rw [List.getElem?_set_ne hj] at hq ⊢
    exact S.sl j q hq
/-- one list changes -/
theorem Stn.change {ys : List V} (S : Stn f L P σ H e) (n : cE a e + cP a P = 0) (ha : a ∈ L ∨ a ∈ f.B) (h : H a = some (.lst xs)) : Stn f L P σ (upd H a (.lst ys)) e := by
  have hm : a ∈ L ++ f.B := List.mem_append.mpr ha
  have hM : a ∈ L ++ f.M := ha.elim (fun z => List.mem_append_left _ z) fun z => List.mem_append_right _ (S.bm a z)
  have s : Sn f.c (L ++ f.B) H (upd H a (.lst ys)) := Sn.put hm h
  refine S.to (fun b o nb z _ => ⟨nb, ?_⟩) s.nl (fun b hb => ⟨fun z => z, ?_⟩) (s.gd S.gd) (S.sm.trans s) S.fr fun m hm => s.st m (S.al m hm)
  · rw [upd_ne (fun q => nb (by rw [q]; exact hM))]
    exact z
  · exact upd_ne fun q => by
      rw [q] at hb
      omega
theorem Dks.change {K : PySem.W.Frag} {M : List Addr} {zs ys : List V} (hM : a ∈ M) (x : Dks K M H xs ds) : Dks K M (upd H a (.lst ys)) xs ds := x.map fun b o n z _ => ⟨n, by
  rw [upd_ne (fun q => n (by rw [q]; exact hM))]
  exact z⟩
theorem Stn.mutate {ys : List V} {es : List PyData} (S : Stn f L P σ H e) (h : e[i]? = some (some (.own k a ds))) (x : Dks f.K (L ++ f.M) H ys es) : Stn f L P σ (upd H a (.lst ys)) (e.set i (some (.own k a es))) := by
  obtain ⟨v, h1, h2⟩ := S.sl _ _ h
  have tk := S.takes h
  have n0 : cE a (e.set i none) + cP a P = 0 := by
    have := tk a
    simp only [Rv.cnt, if_pos] at this
    omega
  cases h2 with
  | own x1 x2 x3 x4 =>
    have ha : a ∈ L ∨ a ∈ f.B := by
      cases k with
      | true => exact Or.inl (x1 rfl)
      | false => exact Or.inr (x2 rfl)
    have hM : a ∈ L ++ f.M := ha.elim (fun z => List.mem_append_left _ z) fun z => List.mem_append_right _ (S.bm a z)
    have S1 := (S.clear (i := i)).change (ys := ys) n0 ha x3
    have S2 := S1.give (i := i) h1 (.own (k := k) x1 x2 upd_same (x.change (zs := []) hM)) fun b => by
      rw [List.set_set]
      exact tk b
    rwa [List.set_set] at S2
/-- .. of a pending one -/
theorem Stn.mutateP {ys : List V} {es : List PyData} (S : Stn f L (P ++ [(.ref a, .own true a ds)]) σ H e) (x : Dks f.K (L ++ f.M) H ys es) : Stn f L (P ++ [(.ref a, .own true a es)]) σ (upd H a (.lst ys)) e := by
  have tk := S.nd
  have n0 : cE a e + cP a P = 0 := by
    have := tk a
    rw [cP_app, cP_one] at this
    simp only [Rv.cnt, if_pos] at this
    omega
  have q := S.last
  cases q with
  | own x1 x2 x3 x4 =>
    have hM : a ∈ L ++ f.M := List.mem_append_left _ (x1 rfl)
    refine (S.pop.change (ys := ys) n0 (Or.inl (x1 rfl)) x3).push (.own x1 x2 upd_same (x.change (zs := []) hM)) fun b => ?_
    have := tk b
    rw [cP_app, cP_one] at this
    simp only [Rv.cnt] at this ⊢
    omega
end
end My

/-! expressions at tree level -/
namespace My
open PySem PySem.Spec PyProof.Rows L2
open LamX (CodeO TabS ExtN)
abbrev DE := Ev → (Rv → Ev → Prop) → Prop
abbrev DT := Ev → (Bool → Ev → Prop) → Prop
abbrev DA := Ev → (List Rv → Ev → Prop) → Prop
structure EndsD where
  nx : Ev → Prop
  rt : Rv → Ev → Prop
  bk : Ev → Prop := fun _ => False
  ct : Ev → Prop := fun _ => False
abbrev DS := EndsD → Ev → Prop
def LE (x : Fx) (te : TE) (de : DE) : Prop := ∀ {f : Fm} {L : List Addr} {P : List (V × Rv)} {σ : L2.St} {H : Hp} {e : Ev} {Q : VK} {Qd : Rv → Ev → Prop}, f.toFx = x → Stn f L P σ H e → de e Qd →
  (∀ v r L' H' e', Stn f L' (P ++ [(v, r)]) σ H' e' → Qd r e' → Q v H') → te σ H Q
def LA (x : Fx) (ta : TA) (da : DA) : Prop := ∀ {f : Fm} {L : List Addr} {P : List (V × Rv)} {σ : L2.St} {H : Hp} {e : Ev} {Q : List V → Hp → Prop} {Qd : List Rv → Ev → Prop}, f.toFx = x → Stn f L P σ H e → da e Qd →
  (∀ ps L' H' e', Stn f L' (P ++ ps) σ H' e' → Qd (ps.map Prod.snd) e' → Q (ps.map Prod.fst) H') → ta σ H Q
def LT (x : Fx) (tt : TT) (dt : DT) : Prop := ∀ {f : Fm} {L : List Addr} {P : List (V × Rv)} {σ : L2.St} {H : Hp} {e : Ev} {Q : Bool → Hp → Prop} {Qd : Bool → Ev → Prop}, f.toFx = x → Stn f L P σ H e → dt e Qd →
  (∀ b L' H' e', Stn f L' P σ H' e' → Qd b e' → Q b H') → tt σ H Q
section
variable {x : Fx}
/-! ### names, constants -/
def dVar (i : Nat) : DE := fun e Q => match e[i]? with
  | some (some (.own _ a _)) => Q (.bor a i) e
  | some (some (.st _ _ a _ _)) => Q (.bor a i) e
  | some (some (.dat d)) => Q (.dat d) e
  | some (some (.fn j g ar S)) => Q (.fn j g ar S) e
  | some (some (.rg lo hi)) => Q (.rg lo hi) e
  | _ => False
theorem le_var {i : Nat} : LE x (tVar i) (dVar i) := fun {f L P σ H e Q Qd} hf S h q => by
  unfold dVar at h
  split at h
  · rename_i k a ds he
    obtain ⟨v, h1, h2⟩ := S.sl _ _ he
    cases h2
    exact ⟨_, h1, q _ _ L H e (S.push .bor fun b => by have := S.nd b; simp only [Rv.cnt]; omega) h⟩
  · rename_i k R a as ds he
    obtain ⟨v, h1, h2⟩ := S.sl _ _ he
    cases h2
    exact ⟨_, h1, q _ _ L H e (S.push .bor fun b => by have := S.nd b; simp only [Rv.cnt]; omega) h⟩
  · rename_i d he
    obtain ⟨v, h1, h2⟩ := S.sl _ _ he
    exact ⟨_, h1, q _ _ L H e (S.push h2 fun b => by have := S.nd b; simp only [Rv.cnt]; omega) h⟩
  · rename_i j g ar S' he
    obtain ⟨v, h1, h2⟩ := S.sl _ _ he
    exact ⟨_, h1, q _ _ L H e (S.push h2 fun b => by have := S.nd b; simp only [Rv.cnt]; omega) h⟩
  · rename_i lo hi he
    obtain ⟨v, h1, h2⟩ := S.sl _ _ he
    exact ⟨_, h1, q _ _ L H e (S.push h2 fun b => by have := S.nd b; simp only [Rv.cnt]; omega) h⟩
  · exact h.elim
def dC (d : PyData) : DE := fun e Q => Q (.dat d) e
theorem le_c {v : V} {d : PyData} (h : ∀ M H, Dk x.K M H v d) : LE x (tC v) (dC d) := fun {f L P σ H e Q Qd} hf S hd q => by
  subst hf
  exact q _ _ L H e (S.pushD (h _ H)) hd
theorem le_int {i : Int} : LE x (tC (.int i)) (dC (.int i)) := le_c fun _ _ => .int i
theorem le_str {s : Str} : LE x (tC (.str s)) (dC (.str s)) := le_c fun _ _ => .str s
theorem le_bl {b : Bool} : LE x (tC (.bl b)) (dC (.bool b)) := le_c fun _ _ => .bl b
theorem le_non : LE x (tC .non) (dC .none) := le_c fun _ _ => .non
/-! ### what an operation gives -/
inductive Rx where
  | dt (d : PyData)
  | nl (ds : List PyData)
def dGive (e : Ev) (Q : Rv → Ev → Prop) : Rx → Prop
  | .dt d => Q (.dat d) e
  | .nl ds => ∀ a, Q (.own true a ds) e
/-- the outcome, by values -/
def OutX (c : Ct) (K : PySem.W.Frag) (M : List Addr) (H : Hp) (v : V) (H' : Hp) : Rx → Prop
  | .dt d => Sn c [] H H' ∧ Dk K M H' v d
  | .nl ds => ∃ p H1 xs, Sn c [] H H1 ∧ H1 p = none ∧ v = .ref p ∧ H' = upd H1 p (.lst xs) ∧ Dks K M H1 xs ds
theorem Stn.out {f : Fm} {L : List Addr} {P : List (V × Rv)} {σ : L2.St} {H H' : Hp} {e : Ev} {v : V} {rx : Rx} {Q : Rv → Ev → Prop} {R : Prop} (S : Stn f L P σ H e) (o : OutX f.c f.K (L ++ f.M) H v H' rx) (h : dGive e Q rx)
    (hq : ∀ v' r L' H'' e', v' = v → H'' = H' → Stn f L' (P ++ [(v', r)]) σ H'' e' → Q r e' → R) : R := by
  cases rx with
  | dt d => exact hq v (.dat d) L H' e rfl rfl (S.newD o.1 o.2) h
  | nl ds =>
    obtain ⟨p, H1, xs, s, hp, rfl, rfl, x⟩ := o
    exact hq (.ref p) (.own true p ds) (p :: L) _ e rfl rfl ((S.grow s).fresh hp x) (h p)
/-- a two-place operation, by values and by data -/
abbrev W2 := PyData → PyData → (Rx → Prop) → Prop
def O2 (x : Fx) (r : R2) (w : W2) : Prop := ∀ {M : List Addr} {H : Hp} {u v : V} {du dv : PyData} {Q : VK} {k : Rx → Prop}, (∀ m ∈ M, H m ≠ none) → Ck x.K M H u du → Ck x.K M H v dv → w du dv k →
  (∀ v H' rx, OutX x.c x.K M H v H' rx → k rx → Q v H') → r u v H Q
def dOp (w : W2) (da db : DE) : DE := fun e Q => da e fun ra e1 => db e1 fun rb e2 => rdK e2 ra fun du => rdK e2 rb fun dv => w du dv (dGive e2 Q)
theorem le_op {r : R2} {w : W2} {ta tb : TE} {da db : DE} (ho : O2 x r w) (ha : LE x ta da) (hb : LE x tb db) : LE x (tOp r ta tb) (dOp w da db) := fun {f L P σ H e Q Qd} hf S h q => by
  refine ha hf S h fun u ra L1 H1 e1 S1 h1 => hb hf S1 h1 fun v rb L2 H2 e2 S2 h2 => ?_
  obtain ⟨du, e3, h2⟩ := rdK_some h2
  obtain ⟨dv, e4, h2⟩ := rdK_some h2
  have c1 := S2.read (v := u) (r := ra) (by simp) e3
  have c2 := S2.read (v := v) (r := rb) (by simp) e4
  subst hf
  refine ho S2.all c1 c2 h2 fun v' H' rx o hk => ?_
  have S3 : Stn f L2 P σ H2 e2 := S2.pop.pop
  exact S3.out o hk fun v2 r2 L3 H3 e3 ev eh S4 h4 => by
    subst ev eh
    exact q _ _ _ _ _ S4 h4
abbrev W1 := PyData → (Rx → Prop) → Prop
def O1 (x : Fx) (r : V → Hp → VK → Prop) (w : W1) : Prop := ∀ {M : List Addr} {H : Hp} {u : V} {du : PyData} {Q : VK} {k : Rx → Prop}, (∀ m ∈ M, H m ≠ none) → Ck x.K M H u du → w du k →
  (∀ v H' rx, OutX x.c x.K M H v H' rx → k rx → Q v H') → r u H Q
def dUn (w : W1) (da : DE) : DE := fun e Q => da e fun ra e1 => rdK e1 ra fun du => w du (dGive e1 Q)
theorem le_un {r : V → Hp → VK → Prop} {w : W1} {ta : TE} {da : DE} (ho : O1 x r w) (ha : LE x ta da) : LE x (tUn r ta) (dUn w da) := fun {f L P σ H e Q Qd} hf S h q => by
  refine ha hf S h fun u ra L1 H1 e1 S1 h1 => ?_
  obtain ⟨du, e3, h1⟩ := rdK_some h1
  have c1 := S1.read (v := u) (r := ra) (by simp) e3
  subst hf
  refine ho S1.all c1 h1 fun v' H' rx o hk => ?_
  exact S1.pop.out o hk fun v2 r2 L3 H3 e3 ev eh S4 h4 => by
    subst ev eh
    exact q _ _ _ _ _ S4 h4
/-! ### arguments -/
def dNil : DA := fun e Q => Q [] e
def dCons (da : DE) (dr : DA) : DA := fun e Q => da e fun r e1 => dr e1 fun rs e2 => Q (r :: rs) e2
theorem la_nil : LA x tNil dNil := fun {f L P σ H e Q Qd} hf S h q => q [] L H e (by rw [List.append_nil]; exact S) h
theorem la_cons {ta : TE} {tr : TA} {da : DE} {dr : DA} (ha : LE x ta da) (hr : LA x tr dr) : LA x (tCons ta tr) (dCons da dr) := fun {f L P σ H e Q Qd} hf S h q =>
  ha hf S h fun v r L1 H1 e1 S1 h1 => hr hf S1 h1 fun ps L2 H2 e2 S2 h2 => q ((v, r) :: ps) L2 H2 e2 (by rw [List.append_assoc] at S2; exact S2) h2
def rds (e : Ev) : List Rv → Option (List PyData)
  | [] => some []
  | r :: rs => match rd e r, rds e rs with
    | some d, some ds => some (d :: ds)
    | _, _ => none
def rdsK (e : Ev) : List Rv → (List PyData → Prop) → Prop
  | [], k => k []
  | r :: rs, k => rdK e r fun d => rdsK e rs fun ds => k (d :: ds)
theorem rdsK_some {e : Ev} : ∀ {rs : List Rv} {k : List PyData → Prop}, rdsK e rs k → ∃ ds, rds e rs = some ds ∧ k ds
  | [], _, h => ⟨[], rfl, h⟩
  | r :: rs, k, h => by
    obtain ⟨d, h1, h⟩ := rdK_some h
    obtain ⟨ds, h2, h⟩ := rdsK_some (rs := rs) h
    refine ⟨d :: ds, ?_, h⟩
    simp only [rds]
    rw [h1, h2]
theorem Stn.reads {f : Fm} {L : List Addr} {P : List (V × Rv)} {σ : L2.St} {H : Hp} {e : Ev} (S : Stn f L P σ H e) : ∀ (ps : List (V × Rv)) (ds : List PyData), (∀ p ∈ ps, p ∈ P) → rds e (ps.map Prod.snd) = some ds → Paired (fun v d => Ck f.K (L ++ f.M) H v d) (ps.map Prod.fst) ds
  | [], ds, _, h => by
    cases h
    exact .nil
  | p :: ps, ds, hp, h => by
    simp only [List.map_cons, rds] at h
    split at h
    · rename_i d ds' h1 h2
      cases h
      exact .cons (S.read (hp p List.mem_cons_self) h1) (S.reads ps ds' (fun q hq => hp q (List.mem_cons_of_mem _ hq)) h2)
    · cases h
/-- a builtin, by values and data -/
abbrev WN := List PyData → (Rx → Prop) → Prop
def ON (x : Fx) (r : List V → Hp → VK → Prop) (w : WN) : Prop := ∀ {M : List Addr} {H : Hp} {us : List V} {ds : List PyData} {Q : VK} {k : Rx → Prop}, (∀ m ∈ M, H m ≠ none) → Paired (fun v d => Ck x.K M H v d) us ds → w ds k →
  (∀ v H' rx, OutX x.c x.K M H v H' rx → k rx → Q v H') → r us H Q
def dCB (w : WN) (da : DA) : DE := fun e Q => da e fun rs e1 => rdsK e1 rs fun ds => w ds (dGive e1 Q)
theorem le_cb {r : List V → Hp → VK → Prop} {w : WN} {ta : TA} {da : DA} (ho : ON x r w) (ha : LA x ta da) : LE x (tCB r ta) (dCB w da) := fun {f L P σ H e Q Qd} hf S h q => by
  refine ha hf S h fun ps L1 H1 e1 S1 h1 => ?_
  obtain ⟨ds, e3, h1⟩ := rdsK_some h1
  have c1 := S1.reads ps ds (fun p hp => List.mem_append_right _ hp) e3
  subst hf
  refine ho S1.all c1 h1 fun v' H' rx o hk => ?_
  exact S1.pop.out o hk fun v2 r2 L3 H3 e3 ev eh S4 h4 => by
    subst ev eh
    exact q _ _ _ _ _ S4 h4
/-! ### tests -/
def dTest (de : DE) : DT := fun e Q => de e fun r e1 => match r with
  | .dat (.bool b) => Q b e1
  | _ => False
theorem lt_test {te : TE} {de : DE} (h : LE x te de) : LT x (tTest te) (dTest de) := fun {f L P σ H e Q Qd} hf S hd q => by
  refine h hf S hd fun v r L1 H1 e1 S1 h1 => ?_
  split at h1
  · rename_i b
    have z := S1.last
    cases z with
    | dat z =>
      cases z.bool_inv
      exact ⟨b, rfl, q b L1 H1 e1 S1.pop h1⟩
  · exact h1.elim
theorem lt_b {te : TE} {de : DE} (h : LE x te de) : LT x (tB te) (dTest de) := lt_test h
def dAnd (t u : DT) : DT := fun e Q => t e fun b e1 => (b = true → u e1 Q) ∧ (b = false → Q false e1)
def dOr (t u : DT) : DT := fun e Q => t e fun b e1 => (b = true → Q true e1) ∧ (b = false → u e1 Q)
def dNot (t : DT) : DT := fun e Q => t e fun b e1 => Q (!b) e1
theorem lt_and {t u : TT} {dt du : DT} (h1 : LT x t dt) (h2 : LT x u du) : LT x (tAnd t u) (dAnd dt du) := fun {f L P σ H e Q Qd} hf S hd q =>
  h1 hf S hd fun b L1 H1 e1 S1 k1 => by
    cases b with
    | true => exact h2 hf S1 (k1.1 rfl) q
    | false => exact q false L1 H1 e1 S1 (k1.2 rfl)
theorem lt_or {t u : TT} {dt du : DT} (h1 : LT x t dt) (h2 : LT x u du) : LT x (tOr t u) (dOr dt du) := fun {f L P σ H e Q Qd} hf S hd q =>
  h1 hf S hd fun b L1 H1 e1 S1 k1 => by
    cases b with
    | false => exact h2 hf S1 (k1.2 rfl) q
    | true => exact q true L1 H1 e1 S1 (k1.1 rfl)
theorem lt_not {t : TT} {dt : DT} (h1 : LT x t dt) : LT x (tNot t) (dNot dt) := fun {f L P σ H e Q Qd} hf S hd q =>
  h1 hf S hd fun b L1 H1 e1 S1 k1 => q (!b) L1 H1 e1 S1 k1
/-- as values -/
def dTst (de : DE) (k : Bool → Ev → Prop) : Ev → Prop := fun e => de e fun r e1 => match r with
  | .dat (.bool b) => k b e1
  | _ => False
theorem le_tst {te : TE} {de : DE} {f : Fm} {L : List Addr} {P : List (V × Rv)} {σ : L2.St} {H : Hp} {e : Ev} {k : Bool → Ev → Prop} {R : V → Hp → Prop} (h : LE x te de) (hf : f.toFx = x) (S : Stn f L P σ H e) (hd : dTst de k e)
    (q : ∀ b L' H' e', Stn f L' P σ H' e' → k b e' → R (.bl b) H') : te σ H R := by
  refine h hf S hd fun v r L1 H1 e1 S1 h1 => ?_
  split at h1
  · rename_i b
    have z := S1.last
    cases z with
    | dat z =>
      cases z.bool_inv
      exact q b L1 H1 e1 S1.pop h1
  · exact h1.elim
def dAndV (da db : DE) : DE := fun e Q => dTst da (fun b e1 => (b = true → db e1 Q) ∧ (b = false → Q (.dat (.bool false)) e1)) e
def dOrV (da db : DE) : DE := fun e Q => dTst da (fun b e1 => (b = true → Q (.dat (.bool true)) e1) ∧ (b = false → db e1 Q)) e
def dNotV (da : DE) : DE := fun e Q => dTst da (fun b e1 => Q (.dat (.bool (!b))) e1) e
theorem le_andV {ta tb : TE} {da db : DE} (h1 : LE x ta da) (h2 : LE x tb db) : LE x (tAndV ta tb) (dAndV da db) := fun {f L P σ H e Q Qd} hf S hd q =>
  le_tst (R := fun v H1 => ∃ c, v = .bl c ∧ if c = true then tb σ H1 Q else Q (.bl false) H1) h1 hf S hd fun b L1 H1 e1 S1 k1 => ⟨b, rfl, by
    cases b with
    | true => exact h2 hf S1 (k1.1 rfl) q
    | false => exact q _ _ L1 H1 e1 (S1.pushD (.bl false)) (k1.2 rfl)⟩
theorem le_orV {ta tb : TE} {da db : DE} (h1 : LE x ta da) (h2 : LE x tb db) : LE x (tOrV ta tb) (dOrV da db) := fun {f L P σ H e Q Qd} hf S hd q =>
  le_tst (R := fun v H1 => ∃ c, v = .bl c ∧ if c = true then Q (.bl true) H1 else tb σ H1 Q) h1 hf S hd fun b L1 H1 e1 S1 k1 => ⟨b, rfl, by
    cases b with
    | false => exact h2 hf S1 (k1.2 rfl) q
    | true => exact q _ _ L1 H1 e1 (S1.pushD (.bl true)) (k1.1 rfl)⟩
theorem le_notV {ta : TE} {da : DE} (h1 : LE x ta da) : LE x (tNotV ta) (dNotV da) := fun {f L P σ H e Q Qd} hf S hd q =>
  le_tst (R := fun v H1 => ∃ c, v = .bl c ∧ Q (.bl (!c)) H1) h1 hf S hd fun b L1 H1 e1 S1 k1 => ⟨b, rfl, q _ _ L1 H1 e1 (S1.pushD (.bl _)) k1⟩
def dIf (t : DT) (da db : DE) : DE := fun e Q => t e fun b e1 => (b = true → da e1 Q) ∧ (b = false → db e1 Q)
theorem le_if {t : TT} {ta tb : TE} {dt : DT} {da db : DE} (h0 : LT x t dt) (h1 : LE x ta da) (h2 : LE x tb db) : LE x (tIf t ta tb) (dIf dt da db) := fun {f L P σ H e Q Qd} hf S hd q =>
  h0 hf S hd fun b L1 H1 e1 S1 k1 => by
    cases b with
    | true => exact h1 hf S1 (k1.1 rfl) q
    | false => exact h2 hf S1 (k1.2 rfl) q
/-- a op1 b op2 c -/
def dChain (w w' : W2) (da db dc : DE) : DE := fun e Q => da e fun ra e1 => db e1 fun rb e2 => rdK e2 ra fun du => rdK e2 rb fun dv => w du dv fun rx => match rx with
    | .dt (.bool b) => (b = true → dc e2 fun rc e3 => rdK e3 rb fun dv => rdK e3 rc fun dw => w' dv dw (dGive e3 Q)) ∧ (b = false → Q (.dat (.bool false)) e2)
    | _ => False
theorem le_chain {r r' : R2} {w w' : W2} {ta tb tc : TE} {da db dc : DE} (ho : O2 x r w) (ho' : O2 x r' w') (ha : LE x ta da) (hb : LE x tb db) (hc : LE x tc dc) : LE x (tChain r r' ta tb tc) (dChain w w' da db dc) := fun {f L P σ H e Q Qd} hf S h q => by
  refine ha hf S h fun u ra L1 H1 e1 S1 h1 => hb hf S1 h1 fun v rb L2 H2 e2 S2 h2 => ?_
  obtain ⟨du, e3, h2⟩ := rdK_some h2
  obtain ⟨dv, e4, h2⟩ := rdK_some h2
  have c1 := S2.read (v := u) (r := ra) (by simp) e3
  have c2 := S2.read (v := v) (r := rb) (by simp) e4
  have hf2 := hf
  subst hf
  refine ho S2.all c1 c2 h2 fun v' H' rx o hk => ?_
  split at hk
  · rename_i b
    obtain ⟨o1, o2⟩ := o
    cases o2.bool_inv
    refine ⟨b, rfl, ?_⟩
    have S3 := S2.grow o1
    cases b with
    | true =>
      have hk := hk.1 rfl
      rw [if_pos rfl]
      refine hc rfl S3 hk fun w rc L4 H4 e4 S4 h4 => ?_
      obtain ⟨dv', e5, h4⟩ := rdK_some h4
      obtain ⟨dw, e6, h4⟩ := rdK_some h4
      have c3 := S4.read (v := v) (r := rb) (by simp) e5
      have c4 := S4.read (v := w) (r := rc) (by simp) e6
      refine ho' S4.all c3 c4 h4 fun v' H' rx o hk => ?_
      have S5 : Stn f L4 P σ H4 e4 := S4.pop.pop.pop
      exact S5.out o hk fun v2 r2 L3 H3 e3 ev eh S4 h4 => by
        subst ev eh
        exact q _ _ _ _ _ S4 h4
    | false =>
      have hk := hk.2 rfl
      rw [if_neg (by decide)]
      exact q _ _ _ _ _ ((S3.pop.pop).pushD (.bl false)) hk
  · exact hk.elim
/-! ### frozen, moved -/
def dFrz (de : DE) : DE := fun e Q => de e fun r e1 => match r with
  | .dat d => Q (.dat d) e1
  | .bor a i => match e1[i]? with
    | some (some (.own true b ds)) => a = b ∧ Q (.dat (.list ds)) (e1.set i (some (.dat (.list ds))))
    | _ => False
  | .fn j g ar S => Q (.fn j g ar S) e1
  | .rg lo hi => Q (.rg lo hi) e1
  | r => match r.fz with
    | some d => Q (.dat d) e1
    | none => False
theorem Stn.frzSlot {f : Fm} {L : List Addr} {P : List (V × Rv)} {σ : L2.St} {H : Hp} {e : Ev} {v : V} {a : Addr} {i : Nat} {ds : List PyData} (S : Stn f L (P ++ [(v, .bor a i)]) σ H e) (h : e[i]? = some (some (.own true a ds))) :
    ∃ L', Stn f L' (P ++ [(v, .dat (.list ds))]) σ H (e.set i (some (.dat (.list ds)))) := by
  obtain ⟨v', hs, _⟩ := S.sl _ _ h
  have q := S.last
  have ev : v' = v := by
    obtain ⟨v2, h1, h2⟩ := S.sl _ _ h
    rw [hs] at h1
    cases h1
    cases h2
    cases q
    rfl
  subst ev
  obtain ⟨L', S1⟩ := (S.take h).freeze (d := .list ds) (by simp [Rv.fz])
  refine ⟨L', ?_⟩
  have x := S1.last
  have hl : i < e.length := (List.getElem?_eq_some_iff.mp h).1
  have S2 := S1.give (i := i) hs x fun b => by
    have := S1.nd b
    rw [List.set_set]
    simp only [Rv.cnt]
    omega
  rwa [List.set_set] at S2
theorem le_frz {te : TE} {de : DE} (h : LE x te de) : LE x te (dFrz de) := fun {f L P σ H e Q Qd} hf S hd q =>
  h hf S hd fun v r L1 H1 e1 S1 k1 => by
    split at k1
    · exact q _ _ _ _ _ S1 k1
    · split at k1
      · rename_i he
        obtain ⟨ab, k1⟩ := k1
        subst ab
        obtain ⟨L', S2⟩ := S1.frzSlot he
        exact q _ _ _ _ _ S2 k1
      · exact k1.elim
    · exact q _ _ _ _ _ S1 k1
    · exact q _ _ _ _ _ S1 k1
    · split at k1
      · rename_i d hz
        obtain ⟨L', S2⟩ := S1.freeze hz
        exact q _ _ _ _ _ S2 k1
      · exact k1.elim
/-- what is borrowed is taken -/
def dMv (de : DE) : DE := fun e Q => de e fun r e1 => match r with
  | .bor a i => match e1[i]? with
    | some (some (.own true b ds)) => a = b ∧ Q (.own true a ds) (e1.set i none)
    | _ => False
  | r => Q r e1
theorem le_mv {te : TE} {de : DE} (h : LE x te de) : LE x te (dMv de) := fun {f L P σ H e Q Qd} hf S hd q =>
  h hf S hd fun v r L1 H1 e1 S1 k1 => by
    split at k1
    · split at k1
      · rename_i he
        obtain ⟨ab, k1⟩ := k1
        subst ab
        exact q _ _ _ _ _ (S1.take he) k1
      · exact k1.elim
    · exact q _ _ _ _ _ S1 k1
/-! ### displays -/
def Rv.datL : List Rv → Option (List PyData)
  | [] => some []
  | .dat d :: rs => (Rv.datL rs).map (d :: ·)
  | _ => none
theorem datL_rq {f : Fm} {L : List Addr} {H : Hp} : ∀ {vs : List V} {rs : List Rv} {ds : List PyData}, Rqs f L H vs rs → Rv.datL rs = some ds → Dks f.K (L ++ f.M) H vs ds
  | _, _, _, .nil, h => by cases h; exact .nil
  | _, _, _, .cons (.dat x) r, h => by
    simp only [Rv.datL] at h
    obtain ⟨ds', h1, rfl⟩ := Option.map_eq_some_iff.mp h
    exact .cons x (datL_rq r h1)
  | _, _, _, .cons (.own _ _ _ _) r, h => by simp [Rv.datL] at h
  | _, _, _, .cons .bor r, h => by simp [Rv.datL] at h
  | _, _, _, .cons (.tup _ _ _) r, h => by simp [Rv.datL] at h
  | _, _, _, .cons (.fn _ _ _) r, h => by simp [Rv.datL] at h
  | _, _, _, .cons (.rg _ _) r, h => by simp [Rv.datL] at h
  | _, _, _, .cons (.nst _ _ _) r, h => by simp [Rv.datL] at h
  | _, _, _, .cons (.st _ _ _) r, h => by simp [Rv.datL] at h
theorem Stn.rqs {f : Fm} {L : List Addr} {P : List (V × Rv)} {σ : L2.St} {H : Hp} {e : Ev} (S : Stn f L P σ H e) : ∀ ps : List (V × Rv), (∀ p ∈ ps, p ∈ P) → Rqs f L H (ps.map Prod.fst) (ps.map Prod.snd)
  | [], _ => .nil
  | p :: ps, hp => .cons (S.pd p (hp p List.mem_cons_self)) (S.rqs ps fun q hq => hp q (List.mem_cons_of_mem _ hq))
theorem cntL_map (a : Addr) : ∀ ps : List (V × Rv), Rv.cntL a (ps.map Prod.snd) = cP a ps
  | [] => rfl
  | p :: ps => by
    show p.2.cnt a + Rv.cntL a (ps.map Prod.snd) = p.2.cnt a + cP a ps
    rw [cntL_map a ps]
def dTup (da : DA) : DE := fun e Q => da e fun rs e1 => rs.length ≤ 100000 ∧ match Rv.datL rs with
  | some ds => Q (.dat (.tuple ds)) e1
  | none => Q (.tup rs) e1
theorem le_tup {ta : TA} {da : DA} (h : LA x ta da) : LE x (tTup ta) (dTup da) := fun {f L P σ H e Q Qd} hf S hd q =>
  h hf S hd fun ps L1 H1 e1 S1 ⟨hz, k1⟩ => ⟨sz_of (by simpa using hz), fun p hp => by
    have xs := S1.rqs ps fun p hp => List.mem_append_right _ hp
    have s : Sn f.c [] H1 (upd H1 p (.tup (ps.map Prod.fst))) := Sn.new hp
    have np : p ∉ L1 ++ f.M := fun z => S1.all p z hp
    split at k1
    · rename_i ds hds
      exact q _ _ _ _ _ (S1.pop.newD s (.tup np upd_same ((datL_rq xs hds).sm (s.any)))) k1
    · have S2 := S1.grow s
      refine q _ _ _ _ _ (S2.pop.push (.tup np upd_same (S2.rqs ps fun p hp => List.mem_append_right _ hp)) fun a => ?_) k1
      have := S2.nd a
      rw [cP_app] at this
      simp only [Rv.cnt]
      rw [cntL_map]
      omega⟩
/-- a bare tuple -/
def dTupF (da : DA) : DE := fun e Q => da e fun rs e1 => rs.length ≤ 100000 ∧ match Rv.datL rs with
  | some ds => Q (.dat (bw ds)) e1
  | none => False
def dLst (da : DA) : DE := fun e Q => da e fun rs e1 => rs.length ≤ 100000 ∧ match Rv.datL rs with
  | some ds => ∀ a, Q (.own true a ds) e1
  | none => False
theorem le_lst {ta : TA} {da : DA} (h : LA x ta da) : LE x (tLst ta) (dLst da) := fun {f L P σ H e Q Qd} hf S hd q =>
  h hf S hd fun ps L1 H1 e1 S1 ⟨hz, k1⟩ => ⟨sz_of (by simpa using hz), fun p hp => by
    have xs := S1.rqs ps fun p hp => List.mem_append_right _ hp
    split at k1
    · rename_i ds hds
      exact q _ _ _ _ _ (S1.pop.fresh hp (datL_rq xs hds)) (k1 p)
    · exact k1.elim⟩
def dDNew : DE := fun e Q => Q (.dat (.dict [])) e
theorem le_dnew : LE x tDNewK dDNew := fun {f L P σ H e Q Qd} hf S hd q p hp =>
  q _ _ _ _ _ (S.newD (Sn.new hp) (.dct (fun z => S.all p z hp) upd_same)) hd
end
end My

/-! operations at tree level -/
namespace My
open PySem PySem.Spec PyProof.Rows L2
open LamX (CodeO TabS ExtN)
section
variable {x : Fx} {K : PySem.W.Frag} {M : List Addr} {H : Hp} {c : Ct}
theorem out_d {v : V} {d : PyData} (h : Dk K M H v d) : OutX c K M H v H (.dt d) := ⟨Sn.refl, h⟩
theorem out_tup {p : Addr} {xs : List V} {ds : List PyData} (hM : ∀ m ∈ M, H m ≠ none) (hp : H p = none) (h : Dks K M H xs ds) : OutX c K M H (.ref p) (upd H p (.tup xs)) (.dt (.tuple ds)) :=
  ⟨Sn.new hp, .tup (fun z => hM p z hp) upd_same (h.sm (c := ⟨[], []⟩) (Sn.new hp))⟩
theorem out_lst {p : Addr} {xs : List V} {ds : List PyData} (hp : H p = none) (h : Dks K M H xs ds) : OutX c K M H (.ref p) (upd H p (.lst xs)) (.nl ds) := ⟨p, H, xs, Sn.refl, hp, rfl, rfl, h⟩
theorem out_bar {p : Addr} {o : Obj} {xs : List V} {ds : List PyData} (hM : ∀ m ∈ M, H m ≠ none) (hp : H p = none) (h1 : o.cls = .type "tuple") (h2 : o.dict = none) (h : Dks K M H xs ds) : OutX c K M H (.ref p) (upd H p (.frz o (.tup xs))) (.dt (bw ds)) :=
  ⟨Sn.new hp, .bar (fun z => hM p z hp) ⟨o, upd_same, h1, h2⟩ (h.sm (c := ⟨[], []⟩) (Sn.new hp))⟩
/-! ### arithmetic -/
def iiW (C : Int → Int → Prop) (g : Int → Int → PyData) : W2 := fun du dv k => match du, dv with
  | .int i, .int j => C i j ∧ k (.dt (g i j))
  | _, _ => False
theorem o2_rI {C : Int → Int → Prop} {g : Int → Int → V} {gd : Int → Int → PyData} (hg : ∀ i j M H, Dk x.K M H (g i j) (gd i j)) : O2 x (rI C g) (iiW C gd) := fun {M H u v du dv Q k} hM cu cv w q => by
  unfold iiW at w
  split at w
  · cases cu.int
    cases cv.int
    exact ⟨_, _, rfl, rfl, w.1, q _ H _ (out_d (hg _ _ _ _)) w.2⟩
  · exact w.elim
def ii0 (g : Int → Int → PyData) : W2 := fun du dv k => match du, dv with
  | .int i, .int j => k (.dt (g i j))
  | _, _ => False
theorem o2_rI0 {g : Int → Int → V} {gd : Int → Int → PyData} (hg : ∀ i j M H, Dk x.K M H (g i j) (gd i j)) : O2 x (rI0 g) (ii0 gd) := fun {M H u v du dv Q k} hM cu cv w q => by
  unfold ii0 at w
  split at w
  · cases cu.int
    cases cv.int
    exact ⟨_, _, rfl, rfl, q _ H _ (out_d (hg _ _ _ _)) w⟩
  · exact w.elim
abbrev subW : W2 := ii0 fun i j => .int (i - j)
theorem o2_sub : O2 x (rI0 fun i j => V.int (i - j)) subW := o2_rI0 fun _ _ _ _ => .int _
abbrev fdivW : W2 := iiW CDiv fun i j => .int (i / j)
theorem o2_fdiv : O2 x (rI CDiv fun i j => V.int (i / j)) fdivW := o2_rI fun _ _ _ _ => .int _
abbrev modW : W2 := iiW (fun _ j => 0 < j) fun i j => .int (i % j)
theorem o2_mod : O2 x (rI (fun _ j => 0 < j) fun i j => V.int (i % j)) modW := o2_rI fun _ _ _ _ => .int _
abbrev powW : W2 := iiW CPow fun i j => .int (i ^ j.toNat)
theorem o2_pow : O2 x (rI CPow fun i j => V.int (i ^ j.toNat)) powW := o2_rI fun _ _ _ _ => .int _
abbrev ltW : W2 := ii0 fun i j => .bool (decide (i < j))
theorem o2_lt : O2 x (rI0 fun i j => V.bl (decide (i < j))) ltW := o2_rI0 fun _ _ _ _ => .bl _
abbrev leW : W2 := ii0 fun i j => .bool (decide (i ≤ j))
theorem o2_le : O2 x (rI0 fun i j => V.bl (decide (i ≤ j))) leW := o2_rI0 fun _ _ _ _ => .bl _
abbrev gtW : W2 := ii0 fun i j => .bool (decide (j < i))
theorem o2_gt : O2 x (rI0 fun i j => V.bl (decide (j < i))) gtW := o2_rI0 fun _ _ _ _ => .bl _
abbrev geW : W2 := ii0 fun i j => .bool (decide (j ≤ i))
theorem o2_ge : O2 x (rI0 fun i j => V.bl (decide (j ≤ i))) geW := o2_rI0 fun _ _ _ _ => .bl _
def negW : W1 := fun du k => match du with
  | .int i => k (.dt (.int (-i)))
  | _ => False
theorem o1_neg : O1 x (rU fun i => V.int (-i)) negW := fun {M H u du Q k} hM cu w q => by
  unfold negW at w
  split at w
  · cases cu.int
    exact ⟨_, rfl, q _ H _ (out_d (.int _)) w⟩
  · exact w.elim
def addW : W2 := fun du dv k => match du, dv with
  | .int i, .int j => k (.dt (.int (i + j)))
  | .str a, .str b => a.length + b.length ≤ 100000 ∧ k (.dt (.str (a ++ b)))
  | .list a, .list b => a.length + b.length ≤ 100000 ∧ k (.nl (a ++ b))
  | .tuple a, .tuple b => a.length + b.length ≤ 100000 ∧ k (.dt (.tuple (a ++ b)))
  | _, _ => False
theorem o2_add : O2 x (rAddG x.K) addW := fun {M H u v du dv Q k} hM cu cv w q => by
  unfold addW at w
  split at w
  · cases cu.int
    cases cv.int
    exact Or.inl ⟨_, _, rfl, rfl, q _ H _ (out_d (.int _)) w⟩
  · cases cu.str
    cases cv.str
    exact Or.inr (Or.inr (Or.inr ⟨_, _, rfl, rfl, sz_of w.1, q _ H _ (out_d (.str _)) w.2⟩))
  · obtain ⟨a, xs, rfl, ha, da⟩ := cu.lst
    obtain ⟨b, ys, rfl, hb, db⟩ := cv.lst
    have e1 := da.length
    have e2 := db.length
    exact Or.inr (Or.inl ⟨a, b, xs, ys, rfl, rfl, ha, hb, sz_of (by omega), fun p hp => q _ _ _ (out_lst hp (da.append db)) w.2⟩)
  · obtain ⟨a, xs, rfl, ha, da⟩ := cu.tup
    obtain ⟨b, ys, rfl, hb, db⟩ := cv.tup
    have e1 := da.length
    have e2 := db.length
    refine Or.inr (Or.inr (Or.inl ⟨a, b, xs, ys, rfl, rfl, ha, hb, sz_of (by omega), fun z => ?_, fun _ z => ?_, fun _ _ p hp => q _ _ _ (out_tup hM hp (da.append db)) w.2⟩))
    · rw [z] at e1
      rw [List.length_eq_zero_iff.mp e1.symm, List.nil_append] at w
      exact q _ H _ (out_d (cv.dk nofun)) w.2
    · rw [z] at e2
      rw [List.length_eq_zero_iff.mp e2.symm, List.append_nil] at w
      exact q _ H _ (out_d (cu.dk nofun)) w.2
  · exact w.elim
/-- where tuples are made bare -/
def addFW : W2 := fun du dv k => match du, dv with
  | .int i, .int j => k (.dt (.int (i + j)))
  | .dict [(.none, .tuple a)], .dict [(.none, .tuple b)] => a ≠ [] ∧ b ≠ [] ∧ a.length + b.length ≤ 100000 ∧ k (.dt (bw (a ++ b)))
  | .list a, .list b => a.length + b.length ≤ 100000 ∧ k (.nl (a ++ b))
  | _, _ => False
theorem o2_addF : O2 x (rAddF x.K) addFW := fun {M H u v du dv Q k} hM cu cv w q => by
  unfold addFW at w
  split at w
  · exact Or.inl (o2_add hM cu cv (show addW (.int _) (.int _) k from w) q)
  · obtain ⟨a, xs, rfl, ha, da⟩ := cu.bar
    obtain ⟨b, ys, rfl, hb, db⟩ := cv.bar
    have e1 := da.length
    have e2 := db.length
    refine Or.inr ⟨a, b, xs, ys, rfl, rfl, ha.sq, hb.sq, fun z => w.1 ?_, fun z => w.2.1 ?_, sz_of (by have := w.2.2.1; omega), fun p o hp h1 h2 => q _ _ _ (out_bar hM hp h1 h2 (da.append db)) w.2.2.2⟩
    · rw [z] at e1
      exact List.length_eq_zero_iff.mp e1.symm
    · rw [z] at e2
      exact List.length_eq_zero_iff.mp e2.symm
  · exact Or.inl (o2_add hM cu cv (show addW (.list _) (.list _) k from w) q)
  · exact w.elim
def mulW : W2 := fun du dv k => match du, dv with
  | .int i, .int j => CMul i j ∧ k (.dt (.int (i * j)))
  | .list a, .int j => -(2 ^ 63) ≤ j ∧ j < 2 ^ 63 ∧ a.length * j.toNat ≤ 100000 ∧ k (.nl (List.replicate j.toNat a).flatten)
  | .tuple a, .int j => a ≠ [] ∧ 2 ≤ j ∧ j ≤ 1000 ∧ a.length ≤ 1000 ∧ k (.dt (.tuple (List.replicate j.toNat a).flatten))
  | _, _ => False
theorem o2_mul : O2 x (rMulG x.K) mulW := fun {M H u v du dv Q k} hM cu cv w q => by
  unfold mulW at w
  split at w
  · cases cu.int
    cases cv.int
    exact Or.inl ⟨_, _, rfl, rfl, w.1, q _ H _ (out_d (.int _)) w.2⟩
  · obtain ⟨a, xs, rfl, ha, da⟩ := cu.lst
    cases cv.int
    have e1 := da.length
    exact Or.inr (Or.inl ⟨a, _, xs, rfl, rfl, ha, w.1, w.2.1, sz_of (by rw [e1]; exact w.2.2.1), fun p hp => q _ _ _ (out_lst hp (da.flat _)) w.2.2.2⟩)
  · obtain ⟨a, xs, rfl, ha, da⟩ := cu.tup
    cases cv.int
    have e1 := da.length
    refine Or.inr (Or.inr ⟨a, _, xs, rfl, rfl, ha, fun z => w.1 ?_, w.2.1, w.2.2.1, by rw [e1]; exact w.2.2.2.1, fun p hp => q _ _ _ (out_tup hM hp (da.flat _)) w.2.2.2.2⟩)
    rw [z] at e1
    exact List.length_eq_zero_iff.mp e1.symm
  · exact w.elim
/-! ### comparisons of data -/
theorem shaped_nd {d : PyData} (h : SeqAt.shaped d = true) : d.hasDict = false := PyData.hasDict_of_canLay _ (SeqAt.canLay_of_shaped h)
def eqW : W2 := fun du dv k => ∃ a b, um du = a ∧ um dv = b ∧ SeqAt.shaped a = true ∧ SeqAt.shaped b = true ∧ k (.dt (.bool (PyData.eqv a b)))
theorem o2_eq : O2 x (rEqG x.K) eqW := fun {M H u v du dv Q k} hM cu cv ⟨a, b, e1, e2, h1, h2, w⟩ q => by
  subst e1 e2
  exact Or.inr ⟨_, _, cu.dp (shaped_nd h1), cv.dp (shaped_nd h2), h1, h2, q _ H _ (out_d (.bl _)) w⟩
def neW : W2 := fun du dv k => ∃ a b, um du = a ∧ um dv = b ∧ SeqAt.shaped a = true ∧ SeqAt.shaped b = true ∧ k (.dt (.bool (!PyData.eqv a b)))
theorem o2_ne : O2 x (rNeG x.K) neW := fun {M H u v du dv Q k} hM cu cv ⟨a, b, e1, e2, h1, h2, w⟩ q => by
  subst e1 e2
  exact Or.inr ⟨_, _, cu.dp (shaped_nd h1), cv.dp (shaped_nd h2), h1, h2, q _ H _ (out_d (.bl _)) w⟩
def flatD : PyData → Bool
  | .none => true
  | .bool _ => true
  | .int _ => true
  | .str _ => true
  | _ => false
theorem flat_v {v : V} {d : PyData} (h : Dk K M H v d) (f : flatD d = true) : flatV v = true ∧ ∀ {w e}, Dk K M H w e → flatD e = true → eqV v w = PyData.eqv d e := by
  cases h <;> first | (exact absurd (show false = true from f) (by decide)) | skip
  all_goals
    refine ⟨rfl, fun {w e} h2 f2 => ?_⟩
    cases h2 <;> first | rfl | exact absurd (show false = true from f2) (by decide)
theorem flat_vs {v : V} {d : PyData} (h : Dk K M H v d) (f : flatD d = true) : ∀ {xs : List V} {ds : List PyData}, Dks K M H xs ds → ds.all flatD = true → xs.all flatV = true ∧ inV v xs = ds.any fun y => PyData.eqv y d
  | _, _, .nil, _ => ⟨rfl, rfl⟩
  | _, _, .cons (v := y) (d := e) a r, g => by
    rw [List.all_cons, Bool.and_eq_true] at g
    obtain ⟨h1, h2⟩ := flat_vs h f r g.2
    have h3 := flat_v a g.1
    refine ⟨by rw [List.all_cons, h3.1, h1]; rfl, ?_⟩
    have h4 := h3.2 h f
    unfold inV at h2 ⊢
    rw [List.any_cons, List.any_cons, h4, h2]
def inW (neg : Bool) : W2 := fun du dv k => match seqOf dv with
  | some ds => flatD du = true ∧ ds.all flatD = true ∧ k (.dt (.bool (if neg = true then !(ds.any fun y => PyData.eqv y du) else ds.any fun y => PyData.eqv y du)))
  | none => False
theorem o2_in {neg : Bool} : O2 x (rIn x.K neg) (inW neg) := fun {M H u v du dv Q k} hM cu cv w q => by
  unfold inW at w
  split at w
  · rename_i ds hs
    obtain ⟨a, xs, rfl, h1, h2⟩ := cv.seq hs
    have hu := cu.dk (fun ds z => by rw [z] at w; exact absurd w.1 (by simp [flatD]))
    obtain ⟨f1, f2⟩ := flat_vs hu w.1 h2 w.2.1
    refine ⟨a, xs, rfl, h1, (flat_v hu w.1).1, f1, ?_⟩
    rw [f2]
    exact q _ H _ (out_d (.bl _)) w.2.2
  · exact w.elim
def isNoneD : PyData → Bool
  | .none => true
  | _ => false
def isW : W2 := fun du dv k => match du, dv with
  | _, .none => k (.dt (.bool (isNoneD du)))
  | .bool a, .bool b => k (.dt (.bool (decide (a = b))))
  | _, _ => False
theorem isn_v {v : V} {d : PyData} (h : Ck K M H v d) : decide (v = .non) = isNoneD d := by
  rcases h with ⟨a, xs, ds, rfl, rfl, _⟩ | h
  · rfl
  · cases h <;> rfl
theorem o2_is : O2 x rIsG isW := fun {M H u v du dv Q k} hM cu cv w q => by
  unfold isW at w
  split at w
  · cases (cv.dk nofun).none_inv
    exact Or.inl ⟨rfl, by rw [isn_v cu]; exact q _ H _ (out_d (.bl _)) w⟩
  · cases cu.bool
    cases cv.bool
    exact Or.inr (Or.inr ⟨_, _, rfl, rfl, q _ H _ (out_d (.bl _)) w⟩)
  · exact w.elim
def isnW : W2 := fun du dv k => match du, dv with
  | _, .none => k (.dt (.bool (!isNoneD du)))
  | .bool a, .bool b => k (.dt (.bool (!decide (a = b))))
  | _, _ => False
theorem o2_isn : O2 x rIsNotG isnW := fun {M H u v du dv Q k} hM cu cv w q => by
  unfold isnW at w
  split at w
  · cases (cv.dk nofun).none_inv
    exact Or.inl ⟨rfl, by rw [isn_v cu]; exact q _ H _ (out_d (.bl _)) w⟩
  · cases cu.bool
    cases cv.bool
    exact Or.inr ⟨_, _, rfl, rfl, q _ H _ (out_d (.bl _)) w⟩
  · exact w.elim
/-! ### parts -/
theorem atI_dk {xs : List V} {ds : List PyData} (h : Dks K M H xs ds) {i : Int} {d : PyData} (e : atI ds i = some d) : ∃ v, atI xs i = some v ∧ Dk K M H v d := by
  unfold atI at e ⊢
  rw [h.length]
  cases hj : ixN ds.length i with
  | none =>
    rw [hj] at e
    cases e
  | some j =>
    rw [hj] at e
    exact h.get (i := j) e
def ixW : W2 := fun du dv k => match seqOf du, dv with
  | some ds, .int i => ∃ d, atI ds i = some d ∧ k (.dt d)
  | _, _ => False
theorem o2_ix : O2 x (rIx x.K) ixW := fun {M H u v du dv Q k} hM cu cv w q => by
  unfold ixW at w
  split at w
  · rename_i ds i hs
    obtain ⟨d, hd, w⟩ := w
    obtain ⟨a, xs, rfl, h1, h2⟩ := cu.seq hs
    cases cv.int
    obtain ⟨y, hy, dy⟩ := atI_dk h2 hd
    rcases h1 with h1 | h1
    · exact Or.inl ⟨a, xs, i, y, rfl, rfl, h1, hy, q _ H _ (out_d dy) w⟩
    · exact Or.inr (Or.inl ⟨a, xs, i, y, rfl, rfl, h1, hy, q _ H _ (out_d dy) w⟩)
  · exact w.elim
abbrev DO := Ev → (Option Int → Ev → Prop) → Prop
def LO (x : Fx) (to : TO) (d : DO) : Prop := ∀ {f : Fm} {L : List Addr} {P : List (V × Rv)} {σ : L2.St} {H : Hp} {e : Ev} {Q : Option Int → Hp → Prop} {Qd : Option Int → Ev → Prop}, f.toFx = x → Stn f L P σ H e → d e Qd →
  (∀ o L' H' e', Stn f L' P σ H' e' → Qd o e' → Q o H') → to σ H Q
def dNoP : DO := fun e Q => Q none e
def dPart (de : DE) : DO := fun e Q => de e fun r e1 => match r with
  | .dat (.int i) => Q (some i) e1
  | _ => False
theorem lo_none : LO x tNoPart dNoP := fun {f L P σ H e Q Qd} hf S h q => q none L H e S h
theorem lo_some {te : TE} {de : DE} (h : LE x te de) : LO x (tPart te) (dPart de) := fun {f L P σ H e Q Qd} hf S hd q =>
  h hf S hd fun v r L1 H1 e1 S1 k1 => by
    split at k1
    · rename_i i
      have z := S1.last
      cases z with
      | dat z =>
        cases z.int_inv
        exact ⟨i, rfl, q _ _ _ _ S1.pop k1⟩
    · exact k1.elim
def cutD (ds : List PyData) (lo hi : Option Int) : List PyData := (ds.drop (HT.sIx ds.length 0 lo)).take (HT.sIx ds.length ds.length hi - HT.sIx ds.length 0 lo)
theorem cut_dk {xs : List V} {ds : List PyData} (h : Dks K M H xs ds) (lo hi : Option Int) : Dks K M H (cutV xs lo hi) (cutD ds lo hi) := by
  unfold cutV cutD
  rw [h.length]
  exact (h.drop _).take _
def dSl (de : DE) (dl dh : DO) : DE := fun e Q => de e fun r e1 => dl e1 fun lo e2 => dh e2 fun hi e3 => rdK e3 r fun d => match d with
  | .list ds => ∀ a, Q (.own true a (cutD ds lo hi)) e3
  | .dict [(.bool true, .list ds)] => ∀ a, Q (.own true a (cutD ds lo hi)) e3
  | .tuple ds => Q (.dat (.tuple (cutD ds lo hi))) e3
  | _ => False
theorem le_sl {te : TE} {tl th : TO} {de : DE} {dl dh : DO} (h1 : LE x te de) (h2 : LO x tl dl) (h3 : LO x th dh) : LE x (tSl (rSlG x.K) te tl th) (dSl de dl dh) := fun {f L P σ H e Q Qd} hf S hd q =>
  h1 hf S hd fun v r L1 H1 e1 S1 k1 => h2 hf S1 k1 fun lo L2 H2 e2 S2 k2 => h3 hf S2 k2 fun hi L3 H3 e3 S3 k3 => by
    subst hf
    obtain ⟨d, hr, k3⟩ := rdK_some k3
    split at k3
    · rename_i ds
      obtain ⟨a, xs, rfl, ha, da⟩ := (S3.read (v := v) (r := r) (by simp) hr).lst
      exact Or.inl ⟨a, xs, rfl, SqL.of ha, fun p hp => q _ _ _ _ _ (S3.pop.fresh hp (cut_dk da lo hi)) (k3 p)⟩
    · rename_i ds
      obtain ⟨a, xs, rfl, ha, da⟩ := (S3.read (v := v) (r := r) (by simp) hr).scr
      exact Or.inl ⟨a, xs, rfl, ha, fun p hp => q _ _ _ _ _ (S3.pop.fresh hp (cut_dk da lo hi)) (k3 p)⟩
    · rename_i ds
      have ck := S3.read (v := v) (r := r) (by simp) hr
      obtain ⟨a, xs, rfl, ha, da⟩ := ck.tup
      refine Or.inr ⟨a, xs, rfl, ha, fun z => ?_, fun _ p hp => ?_⟩
      · refine q _ _ _ _ _ (S3.pop.pushD (d := .tuple (cutD ds lo hi)) ?_) k3
        have e : cutD ds lo hi = ds := by
          unfold cutD
          rw [da.length] at z
          rw [z.1, z.2, List.drop_zero, Nat.sub_zero, List.take_length]
        rw [e]
        exact ck.dk nofun
      · obtain ⟨o1, o2⟩ := out_tup (c := f.c) S3.all hp (cut_dk da lo hi)
        exact q _ _ _ _ _ (S3.pop.newD o1 o2) k3
    · exact k3.elim
end
end My

/-! what is walked, targets, comprehensions, builtins at tree level -/
namespace My
open PySem PySem.Spec PyProof.Rows L2
open LamX (CodeO TabS ExtN)
/-! ### targets -/
abbrev DG := Rv → Ev → (Ev → Prop) → Prop
abbrev DGs := List Rv → Ev → (Ev → Prop) → Prop
def LG (x : Fx) (vs : List Nat) (g : TG) (dg : DG) : Prop := ∀ {f : Fm} {L : List Addr} {P : List (V × Rv)} {σ : L2.St} {H : Hp} {e : Ev} {v : V} {r : Rv} {Q : L2.St → Hp → Prop} {Qd : Ev → Prop}, f.toFx = x → Stn f L (P ++ [(v, r)]) σ H e → dg r e Qd →
  (∀ L' σ' H' e', Stn f L' P σ' H' e' → (∀ j, j ∉ vs → σ'[j]? = σ[j]?) → σ'.length = σ.length → Qd e' → Q σ' H') → g v σ H Q
def LGs (x : Fx) (vs : List Nat) (g : TGs) (dg : DGs) : Prop := ∀ {f : Fm} {L : List Addr} {P ps : List (V × Rv)} {σ : L2.St} {H : Hp} {e : Ev} {Q : L2.St → Hp → Prop} {Qd : Ev → Prop}, f.toFx = x → Stn f L (P ++ ps) σ H e → dg (ps.map Prod.snd) e Qd →
  (∀ L' σ' H' e', Stn f L' P σ' H' e' → (∀ j, j ∉ vs → σ'[j]? = σ[j]?) → σ'.length = σ.length → Qd e' → Q σ' H') → g (ps.map Prod.fst) σ H Q
theorem Stn.put' {f : Fm} {L : List Addr} {P : List (V × Rv)} {σ : L2.St} {H : Hp} {e : Ev} {v : V} {r : Rv} (i : Nat) (S : Stn f L (P ++ [(v, r)]) σ H e) : Stn f L P (σ.set i (some v)) H (e.set i (some r)) := by
  by_cases hi : i < e.length
  · exact S.put hi
  · rw [List.set_eq_of_length_le (by rw [← S.ln]; omega), List.set_eq_of_length_le (by omega)]
    exact S.pop
section
variable {x : Fx} {vs : List Nat}
def dgName (i : Nat) : DG := fun r e Q => match r with
  | .dat d => Q (e.set i (some (.dat d)))
  | .own true a ds => Q (e.set i (some (.own true a ds)))
  | .rg lo hi => Q (e.set i (some (.rg lo hi)))
  | .nst a rs => Q (e.set i (some (.nst a rs)))
  | .st true R a as ds => Q (e.set i (some (.st true R a as ds)))
  | _ => False
theorem lg_name {i : Nat} (hi : i ∈ vs) : LG x vs (gName i) (dgName i) := fun {f L P σ H e v r Q Qd} hf S h q => by
  have nj : ∀ j, j ∉ vs → (σ.set i (some v))[j]? = σ[j]? := fun j hj => by
    rw [List.getElem?_set_ne]
    exact fun z => hj (by rw [← z]; exact hi)
  unfold dgName at h
  split at h
  · exact q _ _ _ _ (S.put' i) nj (by rw [List.length_set]) h
  · exact q _ _ _ _ (S.put' i) nj (by rw [List.length_set]) h
  · exact q _ _ _ _ (S.put' i) nj (by rw [List.length_set]) h
  · exact q _ _ _ _ (S.put' i) nj (by rw [List.length_set]) h
  · exact q _ _ _ _ (S.put' i) nj (by rw [List.length_set]) h
  · exact h.elim
def dgNil : DGs := fun rs e Q => rs = [] ∧ Q e
def dgCons (g : DG) (gs : DGs) : DGs := fun rs e Q => match rs with
  | r :: rs => g r e fun e1 => gs rs e1 Q
  | [] => False
theorem lgs_nil : LGs x vs gNil dgNil := fun {f L P ps σ H e Q Qd} hf S h q => by
  obtain ⟨h1, h2⟩ := h
  have : ps = [] := by simpa using h1
  subst this
  exact ⟨rfl, q _ _ _ _ (by rw [List.append_nil] at S; exact S) (fun _ _ => rfl) rfl h2⟩
/-- the first pending one is put last -/
theorem Stn.swap {f : Fm} {L : List Addr} {P ps : List (V × Rv)} {p : V × Rv} {σ : L2.St} {H : Hp} {e : Ev} (S : Stn f L (P ++ p :: ps) σ H e) : Stn f L (P ++ ps ++ [p]) σ H e := by
  refine ⟨S.gd, S.sm, S.fr, S.al0, S.bm, S.al, fun a => ?_, S.ln, S.sl, fun q hq => S.pd q ?_⟩
  · have := S.nd a
    rw [cP_app] at this
    rw [cP_app, cP_app]
    simp only [cP] at this ⊢
    omega
  · simp only [List.mem_append, List.mem_cons, List.not_mem_nil, or_false] at hq ⊢
    rcases hq with (h | h) | h
    · exact Or.inl h
    · exact Or.inr (Or.inr h)
    · exact Or.inr (Or.inl h)
theorem lgs_cons {g : TG} {gs : TGs} {dg : DG} {dgs : DGs} (h1 : LG x vs g dg) (h2 : LGs x vs gs dgs) : LGs x vs (gCons g gs) (dgCons dg dgs) := fun {f L P ps σ H e Q Qd} hf S h q => by
  cases ps with
  | nil => exact h.elim
  | cons p ps =>
    refine ⟨p.1, ps.map Prod.fst, rfl, h1 (v := p.1) (r := p.2) hf S.swap h fun L1 σ1 H1 e1 S1 j1 l1 k1 => ?_⟩
    exact h2 hf S1 k1 fun L2 σ2 H2 e2 S2 j2 l2 k2 => q _ _ _ _ S2 (fun j hj => (j2 j hj).trans (j1 j hj)) (l2.trans l1) k2
theorem Stn.unpack {f : Fm} {L : List Addr} {P : List (V × Rv)} {σ : L2.St} {H : Hp} {e : Ev} {v : V} {rs : List Rv} (S : Stn f L (P ++ [(v, .tup rs)]) σ H e) :
    ∃ p xs, v = .ref p ∧ H p = some (.tup xs) ∧ xs.length = rs.length ∧ ∃ ps : List (V × Rv), ps.map Prod.fst = xs ∧ ps.map Prod.snd = rs ∧ Stn f L (P ++ ps) σ H e := by
  have q := S.last
  cases q with
  | tup n h1 h2 =>
    rename_i p xs
    have key : ∀ {xs : List V} {rs : List Rv}, Rqs f L H xs rs → ∃ ps : List (V × Rv), ps.map Prod.fst = xs ∧ ps.map Prod.snd = rs ∧ ∀ p ∈ ps, Rq f L H p.1 p.2 := by
      intro xs rs h
      induction rs generalizing xs with
      | nil => cases h; exact ⟨[], rfl, rfl, fun _ z => nomatch z⟩
      | cons r rs ih =>
        cases h with
        | cons a b =>
          obtain ⟨ps, e1, e2, e3⟩ := ih b
          refine ⟨(_, r) :: ps, by rw [List.map_cons, e1], by rw [List.map_cons, e2], fun p hp => ?_⟩
          rcases List.mem_cons.mp hp with z | z
          · rw [z]; exact a
          · exact e3 p z
    obtain ⟨ps, e1, e2, e3⟩ := key h2
    refine ⟨p, xs, rfl, h1, h2.length, ps, e1, e2, S.gd, S.sm, S.fr, S.al0, S.bm, S.al, fun a => ?_, S.ln, S.sl, fun q hq => ?_⟩
    · have := S.nd a
      rw [cP_app, cP_one] at this
      rw [cP_app, ← cntL_map a ps, e2]
      simpa [Rv.cnt] using this
    · rcases List.mem_append.mp hq with z | z
      · exact S.pop.pd q z
      · exact e3 q z
def dgTup (n : Nat) (g : DGs) : DG := fun r e Q => match r with
  | .tup rs => rs.length = n ∧ g rs e Q
  | .dat (.tuple ds) => ds.length = n ∧ g (ds.map .dat) e Q
  | _ => False
theorem Stn.spread {f : Fm} {L : List Addr} {P : List (V × Rv)} {σ : L2.St} {H : Hp} {e : Ev} (S : Stn f L P σ H e) : ∀ {xs : List V} {ds : List PyData}, Dks f.K (L ++ f.M) H xs ds → ∃ ps : List (V × Rv), ps.map Prod.fst = xs ∧ ps.map Prod.snd = ds.map .dat ∧ Stn f L (P ++ ps) σ H e := by
  intro xs ds h
  induction ds generalizing xs P with
  | nil =>
    cases h
    exact ⟨[], rfl, rfl, by rw [List.append_nil]; exact S⟩
  | cons d ds ih =>
    cases h with
    | cons a b =>
      rename_i v vs
      obtain ⟨ps, e1, e2, S2⟩ := ih (S.pushD a) b
      exact ⟨(v, .dat d) :: ps, by rw [List.map_cons, e1], by rw [List.map_cons, e2]; rfl, by rw [List.append_assoc] at S2; exact S2⟩
theorem lg_tup {n : Nat} {g : TGs} {dg : DGs} (h : LGs x vs g dg) : LG x vs (gTup x.K n g) (dgTup n dg) := fun {f L P σ H e v r Q Qd} hf S hd q => by
  subst hf
  unfold dgTup at hd
  split at hd
  · obtain ⟨p, xs, rfl, h1, hl, ps, e1, e2, S2⟩ := S.unpack
    refine ⟨p, xs, rfl, SqT.of h1, hl.trans hd.1, ?_⟩
    rw [← e1]
    exact h rfl S2 (by rw [e2]; exact hd.2) q
  · rename_i ds
    have ck := S.read (v := v) (r := .dat (.tuple ds)) (by simp) rfl
    obtain ⟨p, xs, rfl, h1, dx⟩ := ck.tup
    obtain ⟨ps, e1, e2, S2⟩ := S.pop.spread dx
    refine ⟨p, xs, rfl, h1, dx.length.trans hd.1, ?_⟩
    rw [← e1]
    exact h rfl S2 (by rw [e2]; exact hd.2) q
  · exact hd.elim
/-- xs[i] = v -/
def dgSub (i : Nat) (di : DE) : DG := fun r e Q => match r with
  | .dat d => (∃ k a ds, e[i]? = some (some (.own k a ds))) ∧ di e fun ri e1 => match ri, e1[i]? with
    | .dat (.int j), some (some (.own k a ds)) => ∃ n, ixN ds.length j = some n ∧ Q (e1.set i (some (.own k a (ds.set n d))))
    | _, _ => False
  | _ => False
theorem lg_sub {i : Nat} {ti : TE} {di : DE} (h : LE x ti di) : LG x vs (gSub (tVar i) ti rSetL) (dgSub i di) := fun {f L P σ H e v r Q Qd} hf S hd q => by
  unfold dgSub at hd
  split at hd
  · rename_i d
    obtain ⟨⟨k0, a0, ds0, h0⟩, hd⟩ := hd
    obtain ⟨v0, s0, q0⟩ := S.sl _ _ h0
    have ev0 : v0 = .ref a0 := by cases q0; rfl
    subst ev0
    refine ⟨_, s0, h hf S hd fun vi ri L1 H1 e1 S1 k1 => ?_⟩
    split at k1
    · rename_i j k a ds he
      obtain ⟨n, hn, k1⟩ := k1
      · have z := S1.last
        cases z with
        | dat z =>
          cases z.int_inv
          obtain ⟨v1, s1, q1⟩ := S1.sl _ _ he
          rw [s0] at s1
          cases s1
          have S2 := S1.pop
          have dx : Dk f.K (L1 ++ f.M) H1 v d := by
            have z := S2.last
            cases z with
            | dat z => exact z
          cases q1 with
          | own _ _ hx dd =>
            refine ⟨_, _, _, _, rfl, rfl, hx, (by rw [dd.length]; exact hn), q _ _ _ _ (S2.pop.mutate he (dd.set n dx)) (fun _ _ => rfl) rfl k1⟩
    · exact k1.elim
  · exact hd.elim
/-! ### what is walked -/
inductive Src where
  | rng (lo c : Int) (n : Nat)
  | seq (r : Rv)
  | enu (r : Rv)
  | zip (r s : Rv)
  | rev (r : Rv)
def enumD (ds : List PyData) : List PyData := (List.range ds.length).map fun i => .tuple [.int (i : Nat), ds.getD i .none]
def zipD (ds es : List PyData) : List PyData := (List.range (min ds.length es.length)).map fun i => .tuple [ds.getD i .none, es.getD i .none]
def items (e : Ev) : Src → Option (List PyData)
  | .rng lo c n => some ((List.range n).map fun i => .int (lo + (i : Nat) * c))
  | .seq r => (rd e r).bind seqOf
  | .enu r => ((rd e r).bind seqOf).map enumD
  | .rev r => ((rd e r).bind seqOf).map List.reverse
  | .zip r s => ((rd e r).bind seqOf).bind fun ds => ((rd e s).bind seqOf).map fun es => zipD ds es
/-- n turns; at turn i it gives the i-th item -/
structure Itm (f : Fm) (P : List (V × Rv)) (src : Src) (ds : List PyData) (J : It) (G : Hp → Prop) (Y : Nat → Hp → V → Hp → Prop) : Prop where
  w : Walk J ds.length G Y
  g : ∀ {L R σ H e}, Stn f L (P ++ R) σ H e → items e src = some ds → G H
  y : ∀ {L R σ H e i v H'}, Stn f L (P ++ R) σ H e → items e src = some ds → i < ds.length → Y i H v H' → ∃ d, ds[i]? = some d ∧ Sn f.c [] H H' ∧ Dk f.K (L ++ f.M) H' v d
abbrev DI := Ev → (Src → Ev → Prop) → Prop
def LI (x : Fx) (wi : TI) (di : DI) : Prop := ∀ {f : Fm} {L : List Addr} {P : List (V × Rv)} {σ : L2.St} {H : Hp} {e : Ev} {R : It → Hp → Prop} {Qd : Src → Ev → Prop}, f.toFx = x → Stn f L P σ H e →
  di e Qd → (∀ src e1, Qd src e1 → (items e1 src).isSome = true) →
  (∀ J ps src L' H' e' ds G Y, Stn f L' (P ++ ps) σ H' e' → items e' src = some ds → Itm f (P ++ ps) src ds J G Y → Qd src e' → R J H') → wi σ H R
def diRng1 (da : DA) : DI := fun e Q => da e fun rs e1 => match rs with
  | [.dat (.int j)] => -(2 ^ 62) ≤ j ∧ j < 2 ^ 62 ∧ Q (.rng 0 1 j.toNat) e1
  | _ => False
def diRng2 (da : DA) : DI := fun e Q => da e fun rs e1 => match rs with
  | [.dat (.int i), .dat (.int j)] => (-(2 ^ 62) ≤ i ∧ i < 2 ^ 62 ∧ -(2 ^ 62) ≤ j ∧ j < 2 ^ 62) ∧ Q (.rng i 1 (j - i).toNat) e1
  | _ => False
theorem itm_rng {f : Fm} {P : List (V × Rv)} {lo c : Int} {n : Nat} {J : It} (h : Walk J n (fun _ => True) (YFn fun i => .int (lo + (i : Nat) * c))) :
    Itm f P (.rng lo c n) ((List.range n).map fun i => .int (lo + (i : Nat) * c)) J (fun _ => True) (YFn fun i => .int (lo + (i : Nat) * c)) where
  w := by rw [List.length_map, List.length_range]; exact h
  g := fun _ _ => trivial
  y := fun {L R σ H e i v H'} S _ hi y => by
    obtain ⟨rfl, rfl⟩ := y
    rw [List.length_map, List.length_range] at hi
    refine ⟨.int (lo + (i : Nat) * c), ?_, Sn.refl, .int _⟩
    rw [List.getElem?_map, List.getElem?_range hi]
    rfl
theorem walk_rng1 {lo : Int} {n : Nat} : Walk (Itr lo n) n (fun _ => True) (YFn fun i => .int (lo + (i : Nat) * 1)) := by
  have := L2.walk_range (lo := lo) (n := n)
  simpa only [Int.mul_one] using this
theorem li_rng1 {ta : TA} {da : DA} (h : LA x ta da) : LI x (iRng1 ta) (diRng1 da) := fun {f L P σ H e R Qd} hf S hd _ q =>
  h hf S hd fun ps L1 H1 e1 S1 k1 => by
    split at k1
    · rename_i j hj
      match ps, hj with
      | [(v, .dat (.int _))], rfl =>
        have z := S1.last
        cases z with
        | dat z =>
          cases z.int_inv
          exact ⟨_, rfl, k1.1, k1.2.1, q _ [] (.rng 0 1 j.toNat) _ _ _ _ _ _ (by rw [List.append_nil]; exact S1.pop) rfl (itm_rng walk_rng1) k1.2.2⟩
    · exact k1.elim
theorem li_rng2 {ta : TA} {da : DA} (h : LA x ta da) : LI x (iRng2 ta) (diRng2 da) := fun {f L P σ H e R Qd} hf S hd _ q =>
  h hf S hd fun ps L1 H1 e1 S1 k1 => by
    split at k1
    · rename_i i j hj
      match ps, hj with
      | [(v, .dat (.int _)), (u, .dat (.int _))], rfl =>
        have z := S1.pd (u, .dat (.int j)) (by simp)
        have z2 := S1.pd (v, .dat (.int i)) (by simp)
        cases z with
        | dat z =>
          cases z.int_inv
          cases z2 with
          | dat z2 =>
            cases z2.int_inv
            exact ⟨_, _, rfl, k1.1, q _ [] (.rng i 1 (j - i).toNat) _ _ _ _ _ _ (by rw [List.append_nil]; exact S1.pop) rfl (itm_rng walk_rng1) k1.2⟩
    · exact k1.elim
def diSeq (de : DE) : DI := fun e Q => de e fun r e1 => Q (.seq r) e1
theorem some_of {α : Type} {o : Option α} (h : o.isSome = true) : ∃ y, o = some y := by
  cases o with
  | none => cases h
  | some y => exact ⟨y, rfl⟩
/-! ### a list or a tuple, as it stays -/
structure LorT (f : Fm) (P : List (V × Rv)) (r : Rv) (ds : List PyData) (a : Addr) (Sq : Hp → List V → Prop) : Prop where
  get : ∀ {L R σ H e}, Stn f L (P ++ R) σ H e → (rd e r).bind seqOf = some ds → ∃ xs, Sq H xs ∧ Dks f.K (L ++ f.M) H xs ds
theorem lort {f : Fm} {L : List Addr} {P : List (V × Rv)} {σ : L2.St} {H : Hp} {e : Ev} {v : V} {r : Rv} {ds : List PyData} (hp : (v, r) ∈ P) (S : Stn f L P σ H e) (h : (rd e r).bind seqOf = some ds) :
    ∃ a, v = .ref a ∧ (LorT f P r ds a (fun H xs => SqL f.K H a xs) ∨ LorT f P r ds a (fun H xs => SqT f.K H a xs)) := by
  obtain ⟨d0, h01, h02⟩ := Option.bind_eq_some_iff.mp h
  obtain ⟨a, xs0, rfl, _, _⟩ := (S.read hp h01).seq h02
  refine ⟨a, rfl, ?_⟩
  by_cases hr : (∀ d, r = .dat d → ∃ es, d = .list es ∨ d = scr es)
  · refine Or.inl ⟨fun {L R σ H e} S hi => ?_⟩
    obtain ⟨d, h1, h2⟩ := Option.bind_eq_some_iff.mp hi
    have ck := S.read (v := .ref a) (r := r) (List.mem_append_left _ hp) h1
    have hd : ∃ es, d = .list es ∨ d = scr es := by
      cases r with
      | dat d' =>
        cases h1
        exact hr _ rfl
      | own k b es =>
        cases h1
        exact ⟨_, Or.inl rfl⟩
      | bor b i =>
        simp only [rd] at h1
        split at h1
        · split at h1
          · cases h1
            exact ⟨_, Or.inl rfl⟩
          · cases h1
        · cases h1
      | tup _ => cases h1
      | fn _ _ _ _ => cases h1
      | rg _ _ => cases h1
      | nst _ _ => cases h1
      | st _ _ _ _ _ => cases h1
    obtain ⟨es, rfl | rfl⟩ := hd
    · cases h2
      obtain ⟨a', xs, e1, e2, e3⟩ := ck.lst
      cases e1
      exact ⟨xs, SqL.of e2, e3⟩
    · cases h2
      obtain ⟨a', xs, e1, e2, e3⟩ := ck.scr
      cases e1
      exact ⟨xs, e2, e3⟩
  · have ex : ∃ d, r = .dat d ∧ ¬ ∃ es, d = .list es ∨ d = scr es := by
      refine Classical.byContradiction fun z => hr fun d hd => Classical.byContradiction fun z2 => z ⟨d, hd, z2⟩
    obtain ⟨d, rfl, nd⟩ := ex
    refine Or.inr ⟨fun {L R σ H e} S hi => ?_⟩
    have h2 : seqOf d = some ds := hi
    have ck := S.read (v := .ref a) (r := .dat d) (List.mem_append_left _ hp) rfl
    unfold seqOf at h2
    split at h2
    · exact absurd ⟨_, Or.inl rfl⟩ nd
    · cases h2
      obtain ⟨a', xs, e1, e2, e3⟩ := ck.tup
      cases e1
      exact ⟨xs, e2, e3⟩
    · cases h2
      obtain ⟨a', xs, e1, e2, e3⟩ := ck.bar
      cases e1
      exact ⟨xs, e2.sq, e3⟩
    · exact absurd ⟨_, Or.inr rfl⟩ nd
    · cases h2
theorem li_seq {te : TE} {de : DE} (h : LE x te de) : LI x (iSeq x.K te) (diSeq de) := fun {f L P σ H e R Qd} hf S hd hq q =>
  h hf S hd fun v r L1 H1 e1 S1 k1 => by
    subst hf
    have k2 := k1
    obtain ⟨ds, hds⟩ := some_of (hq _ _ k1)
    have hb : (rd e1 r).bind seqOf = some ds := hds
    obtain ⟨a, rfl, lt⟩ := lort (v := v) (r := r) (by simp) S1 hb
    have S1' : Stn f L1 (P ++ [(V.ref a, r)] ++ []) σ H1 e1 := by rw [List.append_nil]; exact S1
    rcases lt with lt | lt
    · obtain ⟨xs', l1, _⟩ := lt.get S1' hb
      refine ⟨a, rfl, Or.inl ⟨⟨xs', l1⟩, q (Itl f.K a) [(.ref a, r)] (.seq r) _ _ _ ds (fun H => ∃ xs, SqL f.K H a xs ∧ xs.length = ds.length) (fun i H x H' => H' = H ∧ ∀ xs, SqL f.K H a xs → xs[i]? = some x) S1 hds ⟨⟨?_, ?_, ?_⟩, ?_, ?_⟩ k2⟩⟩
      · rintro i H hi ⟨xs, g1, g2⟩
        exact ⟨xs, xs[i]'(by omega), g1, List.getElem?_eq_getElem (by omega)⟩
      · rintro H ⟨xs, g1, g2⟩
        exact ⟨xs, g1, by omega⟩
      · intro i H x H' hi _ y
        exact y
      · intro L R σ H e S hi
        obtain ⟨xs, g1, g2⟩ := lt.get S hi
        exact ⟨xs, g1, g2.length⟩
      · intro L R σ H e i v H' S hi hlt y
        obtain ⟨rfl, y⟩ := y
        obtain ⟨xs, g1, g2⟩ := lt.get S hi
        obtain ⟨d, e1, e2⟩ := g2.getV (y xs g1)
        exact ⟨d, e1, Sn.refl, e2⟩
    · obtain ⟨xs', l1, _⟩ := lt.get S1' hb
      refine ⟨a, rfl, Or.inr ⟨⟨xs', l1⟩, q (Itt f.K a) [(.ref a, r)] (.seq r) _ _ _ ds (fun H => ∃ xs, SqT f.K H a xs ∧ xs.length = ds.length) (fun i H x H' => H' = H ∧ ∀ xs, SqT f.K H a xs → xs[i]? = some x) S1 hds ⟨⟨?_, ?_, ?_⟩, ?_, ?_⟩ k2⟩⟩
      · rintro i H hi ⟨xs, g1, g2⟩
        exact ⟨xs, xs[i]'(by omega), g1, List.getElem?_eq_getElem (by omega)⟩
      · rintro H ⟨xs, g1, g2⟩
        exact ⟨xs, g1, by omega⟩
      · intro i H x H' hi _ y
        exact y
      · intro L R σ H e S hi
        obtain ⟨xs, g1, g2⟩ := lt.get S hi
        exact ⟨xs, g1, g2.length⟩
      · intro L R σ H e i v H' S hi hlt y
        obtain ⟨rfl, y⟩ := y
        obtain ⟨xs, g1, g2⟩ := lt.get S hi
        obtain ⟨d, e1, e2⟩ := g2.getV (y xs g1)
        exact ⟨d, e1, Sn.refl, e2⟩
end
end My

/-! comprehensions, more that is walked, builtins at tree level -/
namespace My
open PySem PySem.Spec PyProof.Rows L2
open LamX (CodeO TabS ExtN)
open RZ (iZipA pi_zipA ItzT)
section
variable {x : Fx}
def diEnu (de : DE) : DI := fun e Q => de e fun r e1 => match r with
  | .dat (.tuple ds) => Q (.enu (.dat (.tuple ds))) e1
  | _ => False
theorem enumD_get {ds : List PyData} {i : Nat} {d : PyData} (h : ds[i]? = some d) : (enumD ds)[i]? = some (.tuple [.int (i : Nat), d]) := by
  have hi := (List.getElem?_eq_some_iff.mp h).1
  unfold enumD
  rw [List.getElem?_map, List.getElem?_range hi]
  simp only [Option.map_some, List.getD_eq_getElem?_getD, h, Option.getD_some]
/-- enumerate of a tuple -/
theorem li_enuT {te : TE} {de : DE} (h : LE x te de) : LI x (iEnT x.K te) (diEnu de) := fun {f L P σ H e R Qd} hf S hd hq q =>
  h hf S hd fun v r L1 H1 e1 S1 k1 => by
    subst hf
    split at k1
    case h_2 => exact k1.elim
    rename_i ds
    have k2 := k1
    have get : ∀ {L R σ H e}, Stn f L (P ++ [(v, .dat (.tuple ds))] ++ R) σ H e → ∃ a xs, v = .ref a ∧ SqT f.K H a xs ∧ Dks f.K (L ++ f.M) H xs ds := fun {L R σ H e} S => (S.read (v := v) (r := .dat (.tuple ds)) (by simp) rfl).tup
    obtain ⟨a, xs, rfl, h1, h2⟩ := get (R := []) (by rw [List.append_nil]; exact S1)
    have get' : ∀ {L R σ H e}, Stn f L (P ++ [(V.ref a, .dat (.tuple ds))] ++ R) σ H e → ∃ xs, SqT f.K H a xs ∧ Dks f.K (L ++ f.M) H xs ds := fun {L R σ H e} S => by
      obtain ⟨a', xs, e1, e2, e3⟩ := get S
      cases e1
      exact ⟨xs, e2, e3⟩
    have el : ∀ i, i < ds.length → ∃ d, ds[i]? = some d := fun i hi => ⟨_, List.getElem?_eq_getElem hi⟩
    have len : (enumD ds).length = ds.length := by unfold enumD; rw [List.length_map, List.length_range]
    refine ⟨a, xs, rfl, h1, q (ItE f.K a) [(.ref a, .dat (.tuple ds))] (.enu (.dat (.tuple ds))) _ _ _ (enumD ds) (fun H => ∃ xs, SqT f.K H a xs ∧ xs.length = ds.length)
      (fun i H v H' => ∃ T x, v = .ref T ∧ H T = none ∧ H' = upd H T (.tup [.int (i : Nat), x]) ∧ ∀ xs, SqT f.K H a xs → xs[i]? = some x) S1 rfl ⟨⟨?_, ?_, ?_⟩, ?_, ?_⟩ k2⟩
    · rintro i H hi ⟨xs, g1, g2⟩
      rw [len] at hi
      exact ⟨xs, xs[i]'(by omega), g1, List.getElem?_eq_getElem (by omega)⟩
    · rintro H ⟨xs, g1, g2⟩
      exact ⟨xs, g1, by omega⟩
    · intro i H x H' hi _ y
      exact y
    · intro L R σ H e S hi
      obtain ⟨xs, g1, g2⟩ := get' S
      exact ⟨xs, g1, g2.length⟩
    · intro L R σ H e i v H' S hi hlt y
      rw [len] at hlt
      obtain ⟨T, w, rfl, hT, rfl, y⟩ := y
      obtain ⟨xs, g1, g2⟩ := get' S
      obtain ⟨d, e1, e2⟩ := g2.getV (y xs g1)
      obtain ⟨o1, o2⟩ := out_tup (c := f.c) S.all hT (.cons (.int (i : Nat)) (.cons e2 .nil))
      exact ⟨_, enumD_get e1, o1, o2⟩
theorem zipD_get {ds es : List PyData} {i : Nat} {d e : PyData} (h : ds[i]? = some d) (h2 : es[i]? = some e) : (zipD ds es)[i]? = some (.tuple [d, e]) := by
  have hi := (List.getElem?_eq_some_iff.mp h).1
  have hj := (List.getElem?_eq_some_iff.mp h2).1
  unfold zipD
  rw [List.getElem?_map, List.getElem?_range (by omega)]
  simp only [Option.map_some, List.getD_eq_getElem?_getD, h, h2, Option.getD_some]
/-- zip of two tuples, of two lists -/
def diZip (da : DA) : DI := fun e Q => da e fun rs e1 => match rs with
  | [.dat (.tuple ds), .dat (.tuple es)] => Q (.zip (.dat (.tuple ds)) (.dat (.tuple es))) e1
  | [.dat (.list ds), .dat (.list es)] => Q (.zip (.dat (.list ds)) (.dat (.list es))) e1
  | _ => False
theorem zip_len (ds es : List PyData) : (zipD ds es).length = min ds.length es.length := by unfold zipD; rw [List.length_map, List.length_range]
theorem li_zip {ta : TA} {da : DA} (h : LA x ta da) : LI x (iZipA x.K ta) (diZip da) := fun {f L P σ H e R Qd} hf S hd hq q =>
  h hf S hd fun ps L1 H1 e1 S1 k1 => by
    subst hf
    split at k1
    · rename_i ds es hj
      match ps, hj with
      | [(u, .dat (.tuple _)), (v, .dat (.tuple _))], rfl =>
        have ga : ∀ {L R σ H e}, Stn f L (P ++ [(u, .dat (.tuple ds)), (v, .dat (.tuple es))] ++ R) σ H e → (∃ a xs, u = .ref a ∧ SqT f.K H a xs ∧ Dks f.K (L ++ f.M) H xs ds) ∧ ∃ a xs, v = .ref a ∧ SqT f.K H a xs ∧ Dks f.K (L ++ f.M) H xs es := fun {L R σ H e} S =>
          ⟨(S.read (v := u) (r := .dat (.tuple ds)) (by simp) rfl).tup, (S.read (v := v) (r := .dat (.tuple es)) (by simp) rfl).tup⟩
        obtain ⟨⟨a, xs, rfl, h1, h2⟩, ⟨b, ys, rfl, h3, h4⟩⟩ := ga (R := []) (by rw [List.append_nil]; exact S1)
        refine ⟨a, b, xs, ys, rfl, Or.inr ⟨h1, h3, q (ItzT f.K a b) [(.ref a, .dat (.tuple ds)), (.ref b, .dat (.tuple es))] _ _ _ _ (zipD ds es) (fun H => ∃ xs ys, SqT f.K H a xs ∧ SqT f.K H b ys ∧ xs.length = ds.length ∧ ys.length = es.length)
          (fun i H v H' => ∃ T x y, v = .ref T ∧ H T = none ∧ H' = upd H T (.tup [x, y]) ∧ (∀ xs, SqT f.K H a xs → xs[i]? = some x) ∧ ∀ ys, SqT f.K H b ys → ys[i]? = some y) S1 rfl ⟨⟨?_, ?_, ?_⟩, ?_, ?_⟩ k1⟩⟩
        · rintro i H hi ⟨xs, ys, g1, g2, g3, g4⟩
          rw [zip_len] at hi
          exact ⟨xs, ys, xs[i]'(by omega), ys[i]'(by omega), g1, g2, List.getElem?_eq_getElem (by omega), List.getElem?_eq_getElem (by omega)⟩
        · rintro H ⟨xs, ys, g1, g2, g3, g4⟩
          rw [zip_len]
          exact ⟨xs, ys, g1, g2, by omega⟩
        · intro i H x H' hi _ y
          exact y
        · intro L R σ H e S hi
          obtain ⟨⟨a', xs, e1, g1, g2⟩, ⟨b', ys, e2, g3, g4⟩⟩ := ga S
          cases e1
          cases e2
          exact ⟨xs, ys, g1, g3, g2.length, g4.length⟩
        · intro L R σ H e i v H' S hi hlt y
          obtain ⟨T, w, z, rfl, hT, rfl, y1, y2⟩ := y
          obtain ⟨⟨a', xs, e1, g1, g2⟩, ⟨b', ys, e2, g3, g4⟩⟩ := ga S
          cases e1
          cases e2
          obtain ⟨d, q1, q2⟩ := g2.getV (y1 xs g1)
          obtain ⟨d', q3, q4⟩ := g4.getV (y2 ys g3)
          obtain ⟨o1, o2⟩ := out_tup (c := f.c) S.all hT (.cons q2 (.cons q4 .nil))
          exact ⟨_, zipD_get q1 q3, o1, o2⟩
    · rename_i ds es hj
      match ps, hj with
      | [(u, .dat (.list _)), (v, .dat (.list _))], rfl =>
        have ga : ∀ {L R σ H e}, Stn f L (P ++ [(u, .dat (.list ds)), (v, .dat (.list es))] ++ R) σ H e → (∃ a xs, u = .ref a ∧ SqL f.K H a xs ∧ Dks f.K (L ++ f.M) H xs ds) ∧ ∃ a xs, v = .ref a ∧ SqL f.K H a xs ∧ Dks f.K (L ++ f.M) H xs es := fun {L R σ H e} S => by
          obtain ⟨a, xs, e1, e2, e3⟩ := (S.read (v := u) (r := .dat (.list ds)) (by simp) rfl).lst
          obtain ⟨b, ys, e4, e5, e6⟩ := (S.read (v := v) (r := .dat (.list es)) (by simp) rfl).lst
          exact ⟨⟨a, xs, e1, SqL.of e2, e3⟩, ⟨b, ys, e4, SqL.of e5, e6⟩⟩
        obtain ⟨⟨a, xs, rfl, h1, h2⟩, ⟨b, ys, rfl, h3, h4⟩⟩ := ga (R := []) (by rw [List.append_nil]; exact S1)
        refine ⟨a, b, xs, ys, rfl, Or.inl ⟨h1, h3, q (Itz f.K a b) [(.ref a, .dat (.list ds)), (.ref b, .dat (.list es))] _ _ _ _ (zipD ds es) (fun H => ∃ xs ys, SqL f.K H a xs ∧ SqL f.K H b ys ∧ xs.length = ds.length ∧ ys.length = es.length)
          (fun i H v H' => ∃ T x y, v = .ref T ∧ H T = none ∧ H' = upd H T (.tup [x, y]) ∧ (∀ xs, SqL f.K H a xs → xs[i]? = some x) ∧ ∀ ys, SqL f.K H b ys → ys[i]? = some y) S1 rfl ⟨⟨?_, ?_, ?_⟩, ?_, ?_⟩ k1⟩⟩
        · rintro i H hi ⟨xs, ys, g1, g2, g3, g4⟩
          rw [zip_len] at hi
          exact ⟨xs, ys, xs[i]'(by omega), ys[i]'(by omega), g1, g2, List.getElem?_eq_getElem (by omega), List.getElem?_eq_getElem (by omega)⟩
        · rintro H ⟨xs, ys, g1, g2, g3, g4⟩
          rw [zip_len]
          exact ⟨xs, ys, g1, g2, by omega⟩
        · intro i H x H' hi _ y
          exact y
        · intro L R σ H e S hi
          obtain ⟨⟨a', xs, e1, g1, g2⟩, ⟨b', ys, e2, g3, g4⟩⟩ := ga S
          cases e1
          cases e2
          exact ⟨xs, ys, g1, g3, g2.length, g4.length⟩
        · intro L R σ H e i v H' S hi hlt y
          obtain ⟨T, w, z, rfl, hT, rfl, y1, y2⟩ := y
          obtain ⟨⟨a', xs, e1, g1, g2⟩, ⟨b', ys, e2, g3, g4⟩⟩ := ga S
          cases e1
          cases e2
          obtain ⟨d, q1, q2⟩ := g2.getV (y1 xs g1)
          obtain ⟨d', q3, q4⟩ := g4.getV (y2 ys g3)
          obtain ⟨o1, o2⟩ := out_tup (c := f.c) S.all hT (.cons q2 (.cons q4 .nil))
          exact ⟨_, zipD_get q1 q3, o1, o2⟩
    · exact k1.elim
/-! ### list comprehensions -/
def wipeE (e : Ev) : List Nat → Ev
  | [] => e
  | v :: vs => (wipeE e vs).set v none
theorem wipe_ne {σ : L2.St} {j : Nat} : ∀ {vs : List Nat}, j ∉ vs → (wipe σ vs)[j]? = σ[j]?
  | [], _ => rfl
  | v :: vs, h => by
    unfold wipe
    rw [List.getElem?_set_ne fun z => h (by rw [z]; exact List.mem_cons_self)]
    exact wipe_ne fun z => h (List.mem_cons_of_mem _ z)
theorem wipe_in {σ : L2.St} {j : Nat} : ∀ {vs : List Nat}, j ∈ vs → (wipe σ vs)[j]? = if j < σ.length then some none else none
  | v :: vs, h => by
    unfold wipe
    by_cases e : v = j
    · subst e
      by_cases hl : v < σ.length
      · rw [if_pos hl, List.getElem?_set_self (by rw [wipe_length]; exact hl)]
      · rw [if_neg hl, List.getElem?_eq_none]
        rw [List.length_set, wipe_length]
        omega
    · rw [List.getElem?_set_ne e]
      exact wipe_in (by
        rcases List.mem_cons.mp h with z | z
        · exact absurd z.symm e
        · exact z)
theorem wipe_eq {σ σ' : L2.St} {vs : List Nat} (hl : σ'.length = σ.length) (h : ∀ j, j ∉ vs → σ'[j]? = σ[j]?) : wipe σ' vs = wipe σ vs := by
  apply List.ext_getElem?
  intro j
  by_cases hj : j ∈ vs
  · rw [wipe_in hj, wipe_in hj, hl]
  · rw [wipe_ne hj, wipe_ne hj, h j hj]
theorem wipeE_some {e : Ev} {j : Nat} {r : Rv} : ∀ {vs : List Nat}, (wipeE e vs)[j]? = some (some r) → e[j]? = some (some r) ∧ j ∉ vs
  | [], h => ⟨h, fun z => nomatch z⟩
  | v :: vs, h => by
    unfold wipeE at h
    by_cases q : v = j
    · subst q
      by_cases hl : v < (wipeE e vs).length
      · rw [List.getElem?_set_self hl] at h
        cases h
      · have := (List.getElem?_eq_some_iff.mp h).1
        rw [List.length_set] at this
        omega
    · rw [List.getElem?_set_ne q] at h
      obtain ⟨h1, h2⟩ := wipeE_some h
      exact ⟨h1, fun z => (List.mem_cons.mp z).elim (fun z => q z.symm) h2⟩
theorem wipeE_len (e : Ev) : ∀ vs : List Nat, (wipeE e vs).length = e.length
  | [] => rfl
  | v :: vs => by unfold wipeE; rw [List.length_set, wipeE_len e vs]
theorem wipeE_cnt (a : Addr) (e : Ev) : ∀ vs : List Nat, cE a (wipeE e vs) ≤ cE a e
  | [] => Nat.le_refl _
  | v :: vs => by
    have h1 := wipeE_cnt a e vs
    unfold wipeE
    by_cases hl : v < (wipeE e vs).length
    · have := cE_set a none (wipeE e vs) v hl
      simp only [cO] at this
      omega
    · rw [List.set_eq_of_length_le (by omega)]
      exact h1
theorem Stn.wipe {f : Fm} {L : List Addr} {P : List (V × Rv)} {σ σ' : L2.St} {H : Hp} {e : Ev} {vs : List Nat} (S : Stn f L P σ H e) (hl : σ'.length = σ.length) (h : ∀ j, j ∉ vs → σ'[j]? = σ[j]?) : Stn f L P σ' H (wipeE e vs) :=
  ⟨S.gd, S.sm, S.fr, S.al0, S.bm, S.al, fun a => by have := S.nd a; have := wipeE_cnt a e vs; omega, by rw [wipeE_len, hl]; exact S.ln, fun i r hr => by
    obtain ⟨h1, h2⟩ := wipeE_some hr
    obtain ⟨v, h3, h4⟩ := S.sl i r h1
    exact ⟨v, by rw [h i h2]; exact h3, h4⟩, S.pd⟩
def lcLoop (src : Src) (all : List PyData) (g : DG) (t : DT) (el : DE) (vs : List Nat) (fin : List PyData → Ev → Prop) : List PyData → List PyData → Ev → Prop
  | [], acc, e => fin acc e
  | d :: ds, acc, e => g (.dat d) (wipeE e vs) fun e2 => t e2 fun b e3 => (b = true → el e3 fun r e4 => match r with
      | .dat y => acc.length < 100000 ∧ items (wipeE e4 vs) src = some all ∧ lcLoop src all g t el vs fin ds (acc ++ [y]) (wipeE e4 vs)
      | _ => False) ∧ (b = false → items (wipeE e3 vs) src = some all ∧ lcLoop src all g t el vs fin ds acc (wipeE e3 vs))
def dLc (di : DI) (g : DG) (t : DT) (el : DE) (vs : List Nat) : DE := fun e Q => di e fun src e1 => ∃ ds, items e1 src = some ds ∧ items (wipeE e1 vs) src = some ds ∧ lcLoop src ds g t el vs (fun acc e2 => ∀ a, Q (.own true a acc) e2) ds [] (wipeE e1 vs)
def dYes : DT := fun e Q => Q true e
theorem lt_yes : LT x tYes dYes := fun {f L P σ H e Q Qd} hf S h q => q true L H e S h
theorem le_lc {wi : TI} {g : TG} {tt : TT} {te : TE} {vs : List Nat} {di : DI} {dg : DG} {dt : DT} {de : DE} (hi : LI x wi di) (hg : LG x vs g dg) (ht : LT x tt dt) (he : LE x te de) : LE x (tLc wi g tt te vs) (dLc di dg dt de vs) := fun {f L P σ H e Q Qd} hf S hd q => by
  refine hi hf S hd (fun src e1 z => ?_) fun J ps src L1 H1 e1 ds' G Y S1 h1 I k1 D hD => ?_
  · obtain ⟨ds, h, _⟩ := z
    rw [h]
    rfl
  · obtain ⟨ds, h2, h3, lp⟩ := k1
    cases h1.symm.trans h2
    have S0 : Stn f (D :: L1) (P ++ ps ++ [(.ref D, .own true D [])]) σ (upd H1 D (.lst [])) (wipeE e1 vs) := (S1.wipe rfl fun _ _ => rfl).fresh hD .nil
    refine L2.lc_it I.w (fun i H' => ∃ L' e' acc, Stn f L' (P ++ ps ++ [(.ref D, .own true D acc)]) σ H' e' ∧ items e' src = some ds' ∧ (∃ e0, e' = wipeE e0 vs) ∧ lcLoop src ds' dg dt de vs (fun acc e2 => ∀ a, Qd (.own true a acc) e2) (ds'.drop i) acc e')
      ⟨_, _, _, S0, h3, ⟨e1, rfl⟩, by rw [List.drop_zero]; exact lp⟩ (fun i H' hi hW => ?_) (fun i w H' H2 hi hW hY => ?_) (fun H' hW => ?_)
    · obtain ⟨L', e', acc, S2, g1, _, _⟩ := hW
      exact I.g S2 g1
    · obtain ⟨L', e', acc, S2, g1, ⟨e0, rfl⟩, lp⟩ := hW
      obtain ⟨d, hd, s, dk⟩ := I.y S2 g1 hi hY
      have S3 := (S2.grow s)
      have S4 : Stn f L' (P ++ ps ++ [(.ref D, .own true D acc)]) (wipe σ vs) H2 (wipeE (wipeE e0 vs) vs) := S3.wipe (wipe_length _ _) fun j hj => wipe_ne hj
      rw [List.drop_eq_getElem_cons hi] at lp
      have ed : ds'[i] = d := by
        rw [List.getElem?_eq_getElem hi] at hd
        exact Option.some.inj hd
      rw [ed] at lp
      unfold lcLoop at lp
      refine hg hf (S4.pushD dk) lp fun L5 σ5 H5 e5 S5 j5 l5 k5 => ?_
      have back : ∀ j, j ∉ vs → σ[j]? = σ5[j]? := fun j hj => ((j5 j hj).trans (wipe_ne hj)).symm
      have lb : σ.length = σ5.length := (l5.trans (wipe_length _ _)).symm
      refine ⟨?_, ht hf S5 k5 fun b L6 H6 e6 S6 k6 => ?_⟩
      · exact wipe_eq lb.symm fun j hj => (back j hj).symm
      · cases b with
        | true =>
          have k6 := k6.1 rfl
          rw [if_pos rfl]
          refine he hf S6 k6 fun y r L7 H7 e7 S7 k7 => ?_
          split at k7
          · rename_i dy
            obtain ⟨hz, g2, lp2⟩ := k7
            have dk7 : Dk f.K (L7 ++ f.M) H7 y dy := by
              have z := S7.last
              cases z with
              | dat z => exact z
            have S8 := (S7.pop).wipe (σ' := σ) (vs := vs) lb back
            have z := S8.last
            cases z with
            | own _ _ hx dd =>
              refine ⟨_, hx, sz_lt (by have := dd.length; omega), L7, _, acc ++ [dy], S8.mutateP (dd.snoc dk7), g2, ⟨e7, rfl⟩, lp2⟩
          · exact k7.elim
        | false =>
          have k6 := k6.2 rfl
          rw [if_neg (by decide)]
          exact ⟨L6, _, acc, S6.wipe (σ' := σ) (vs := vs) lb back, k6.1, ⟨e6, rfl⟩, k6.2⟩
    · obtain ⟨L', e', acc, S2, g1, _, lp⟩ := hW
      rw [List.drop_length] at lp
      have S3 : Stn f L' (P ++ [(.ref D, .own true D acc)]) σ H' e' := S2.mid
      exact q _ _ _ _ _ S3 (lp D)
end
end My

/-! calls of defs at tree level -/
namespace My
open PySem PySem.Spec PyProof.Rows L2
open LamX (CodeO TabS ExtN)
abbrev TSpec := List Rv → (Rv → List (List PyData) → Prop) → Prop
/-- what lists that were handed on came to -/
def OutsOk (f : Fm) (L : List Addr) (H' : Hp) : List Rv → List (List PyData) → Prop
  | [], outs => outs = []
  | .own _ a _ :: rs, outs => ∃ o os, outs = o :: os ∧ (∃ xs, H' a = some (.lst xs) ∧ Dks f.K (L ++ f.M) H' xs o) ∧ OutsOk f L H' rs os
  | .st _ R a as _ :: rs, outs => ∃ o os, outs = o :: os ∧ R.P f.K (L ++ f.M) H' (a :: as) o ∧ OutsOk f L H' rs os
  | .dat _ :: rs, outs => OutsOk f L H' rs outs
  | .bor _ _ :: rs, outs => OutsOk f L H' rs outs
  | .tup _ :: rs, outs => OutsOk f L H' rs outs
  | .nst _ _ :: rs, outs => OutsOk f L H' rs outs
  | .fn _ _ _ _ :: rs, outs => OutsOk f L H' rs outs
  | .rg _ _ :: rs, outs => OutsOk f L H' rs outs
mutual
/-- nothing of it is another's -/
def Rv.mov : Rv → Bool
  | .dat _ => true
  | .own k _ _ => k
  | .tup rs => Rv.movL rs
  | .bor _ _ => false
  | .fn _ _ _ _ => true
  | .rg _ _ => true
  | .nst _ rs => Rv.movL rs
  | .st k _ _ _ _ => k
def Rv.movL : List Rv → Bool
  | [] => true
  | r :: rs => r.mov && Rv.movL rs
end
structure Fin (f : Fm) (L : List Addr) (H' : Hp) (rs : List Rv) (v : V) (r : Rv) (outs : List (List PyData)) : Prop where
  sm : Sn f.c (L ++ f.B) f.H0 H'
  fr : ∀ l ∈ L, f.H0 l = none
  al : ∀ l ∈ L, H' l ≠ none
  rq : Rq f L H' v r
  mv : r.mov = true
  nd : ∀ a, r.cnt a ≤ 1
  ou : OutsOk f L H' rs outs
def argOk : List Rv → Bool
  | [] => true
  | .dat _ :: rs => argOk rs
  | .fn _ _ _ _ :: rs => argOk rs
  | .rg _ _ :: rs => argOk rs
  | .own k _ _ :: rs => !k && argOk rs
  | .st k _ _ _ _ :: rs => !k && argOk rs
  | .bor _ _ :: _ => false
  | .tup _ :: _ => false
  | .nst _ _ :: _ => false
def spT (g : Fx) (S : TSpec) : Sp := fun vs H Q _ => ∃ (f : Fm) (rs : List Rv) (k : Rv → List (List PyData) → Prop),
  f.toFx = g ∧ f.H0 = H ∧ Gd g.c H ∧ (∀ m ∈ f.M, H m ≠ none) ∧ (∀ b ∈ f.B, b ∈ f.M) ∧ Rqs f [] H vs rs ∧ (∀ a, Rv.cntL a rs ≤ 1) ∧ argOk rs = true ∧ S rs k ∧
  ∀ v r outs L H', Fin f L H' rs v r outs → k r outs → Q v H'
/-! ### the caller -/
def bors : List Rv → List Nat
  | [] => []
  | .bor _ i :: rs => i :: bors rs
  | .dat _ :: rs => bors rs
  | .own _ _ _ :: rs => bors rs
  | .tup _ :: rs => bors rs
  | .nst _ _ :: rs => bors rs
  | .st _ _ _ _ _ :: rs => bors rs
  | .fn _ _ _ _ :: rs => bors rs
  | .rg _ _ :: rs => bors rs
def passA (e : Ev) : List Rv → Option (List Rv)
  | [] => some []
  | .dat d :: rs => (passA e rs).map (.dat d :: ·)
  | .fn j g ar S :: rs => (passA e rs).map (.fn j g ar S :: ·)
  | .rg lo hi :: rs => (passA e rs).map (.rg lo hi :: ·)
  | .own _ a ds :: rs => (passA e rs).map (.own false a ds :: ·)
  | .bor a i :: rs => match e[i]? with
    | some (some (.own _ b ds)) => if a = b then (passA e rs).map (.own false a ds :: ·) else none
    | some (some (.st _ R b as ds)) => if a = b then (passA e rs).map (.st false R a as ds :: ·) else none
    | _ => none
  | .tup _ :: _ => none
  | .nst _ _ :: _ => none
  | .st _ _ _ _ _ :: _ => none
def passK (e : Ev) : List Rv → (List Rv → Prop) → Prop
  | [], k => k []
  | .dat d :: rs, k => passK e rs fun as => k (.dat d :: as)
  | .fn j g ar S :: rs, k => passK e rs fun as => k (.fn j g ar S :: as)
  | .rg lo hi :: rs, k => passK e rs fun as => k (.rg lo hi :: as)
  | .own _ a ds :: rs, k => passK e rs fun as => k (.own false a ds :: as)
  | .bor a i :: rs, k => match e[i]? with
    | some (some (.own _ b ds)) => a = b ∧ passK e rs fun as => k (.own false a ds :: as)
    | some (some (.st _ R b as ds)) => a = b ∧ passK e rs fun r => k (.st false R a as ds :: r)
    | _ => False
  | .tup _ :: _, _ => False
  | .nst _ _ :: _, _ => False
  | .st _ _ _ _ _ :: _, _ => False
theorem passK_some {e : Ev} : ∀ {rs : List Rv} {k : List Rv → Prop}, passK e rs k → ∃ as, passA e rs = some as ∧ k as
  | [], _, h => ⟨[], rfl, h⟩
  | .dat d :: rs, k, h => by
    obtain ⟨as, h1, h⟩ := passK_some (rs := rs) h
    exact ⟨_, by simp only [passA]; rw [h1]; rfl, h⟩
  | .fn j g ar S :: rs, k, h => by
    obtain ⟨as, h1, h⟩ := passK_some (rs := rs) h
    exact ⟨_, by simp only [passA]; rw [h1]; rfl, h⟩
  | .rg lo hi :: rs, k, h => by
    obtain ⟨as, h1, h⟩ := passK_some (rs := rs) h
    exact ⟨_, by simp only [passA]; rw [h1]; rfl, h⟩
  | .own _ a ds :: rs, k, h => by
    obtain ⟨as, h1, h⟩ := passK_some (rs := rs) h
    exact ⟨_, by simp only [passA]; rw [h1]; rfl, h⟩
  | .bor a i :: rs, k, h => by
    simp only [passK] at h
    simp only [passA]
    split at h
    · obtain ⟨rfl, h⟩ := h
      obtain ⟨as, h1, h⟩ := passK_some (rs := rs) h
      exact ⟨_, by rw [if_pos rfl, h1]; rfl, h⟩
    · obtain ⟨rfl, h⟩ := h
      obtain ⟨as, h1, h⟩ := passK_some (rs := rs) h
      exact ⟨_, by rw [if_pos rfl, h1]; rfl, h⟩
    · exact h.elim
  | .tup _ :: _, _, h => h.elim
  | .nst _ _ :: _, _, h => h.elim
  | .st _ _ _ _ _ :: _, _, h => h.elim
/-- no slot twice -/
def ndB : List Nat → Bool
  | [] => true
  | i :: is => !(is.any fun j => Nat.beq i j) && ndB is
theorem ndB_nd : ∀ {is : List Nat}, ndB is = true → is.Nodup
  | [], _ => .nil
  | i :: is, h => by
    simp only [ndB, Bool.and_eq_true, Bool.not_eq_true', List.any_eq_false] at h
    refine List.nodup_cons.mpr ⟨fun z => h.1 i z (Nat.beq_refl i), ndB_nd h.2⟩
def setC : Ev → Nat → List PyData → Ev
  | [], _, _ => []
  | x :: e, 0, o => (match x with
    | some (.own k a _) => some (.own k a o)
    | some (.st k R a as _) => some (.st k R a as o)
    | y => y) :: e
  | x :: e, i + 1, o => x :: setC e i o
theorem setC_eq (e : Ev) (i : Nat) (o : List PyData) : setC e i o = match e[i]? with
  | some (some (.own k a _)) => e.set i (some (.own k a o))
  | some (some (.st k R a as _)) => e.set i (some (.st k R a as o))
  | _ => e := by
  induction e generalizing i with
  | nil => rfl
  | cons x e ih =>
    cases i with
    | zero =>
      cases x with
      | none => rfl
      | some r => cases r <;> rfl
    | succ i =>
      show x :: setC e i o = _
      rw [ih, List.getElem?_cons_succ]
      rcases e[i]? with _ | _ | r
      · rfl
      · rfl
      · cases r <;> rfl
def putA : List Rv → List (List PyData) → Ev → Ev
  | [], _, e => e
  | .bor _ i :: rs, o :: os, e => putA rs os (setC e i o)
  | .own _ _ _ :: rs, _ :: os, e => putA rs os e
  | .dat _ :: rs, os, e => putA rs os e
  | .fn _ _ _ _ :: rs, os, e => putA rs os e
  | .rg _ _ :: rs, os, e => putA rs os e
  | _, _, e => e
/-- the lists in these slots taken out -/
def clr (e : Ev) : List Nat → Ev
  | [] => e
  | i :: is => (clr e is).set i none
theorem clr_ne {e : Ev} {j : Nat} : ∀ {is : List Nat}, j ∉ is → (clr e is)[j]? = e[j]?
  | [], _ => rfl
  | i :: is, h => by
    unfold clr
    rw [List.getElem?_set_ne fun z => h (by rw [z]; exact List.mem_cons_self)]
    exact clr_ne fun z => h (List.mem_cons_of_mem _ z)
theorem clr_len (e : Ev) : ∀ is : List Nat, (clr e is).length = e.length
  | [] => rfl
  | v :: vs => by unfold clr; rw [List.length_set, clr_len e vs]
theorem passA_cnt (a : Addr) {e : Ev} : ∀ {rs as : List Rv}, (bors rs).Nodup → passA e rs = some as → Rv.cntL a as + cE a (clr e (bors rs)) ≤ cE a e + Rv.cntL a rs
  | [], as, _, h => by
    cases h
    simp [Rv.cntL, bors, clr]
  | .dat d :: rs, as, n, h => by
    obtain ⟨as', h1, rfl⟩ := Option.map_eq_some_iff.mp h
    have := passA_cnt a (rs := rs) n h1
    simp only [Rv.cntL, Rv.cnt, bors]
    omega
  | .fn _ _ _ _ :: rs, as, n, h => by
    obtain ⟨as', h1, rfl⟩ := Option.map_eq_some_iff.mp h
    have := passA_cnt a (rs := rs) n h1
    simp only [Rv.cntL, Rv.cnt, bors]
    omega
  | .rg _ _ :: rs, as, n, h => by
    obtain ⟨as', h1, rfl⟩ := Option.map_eq_some_iff.mp h
    have := passA_cnt a (rs := rs) n h1
    simp only [Rv.cntL, Rv.cnt, bors]
    omega
  | .own k b ds :: rs, as, n, h => by
    obtain ⟨as', h1, rfl⟩ := Option.map_eq_some_iff.mp h
    have := passA_cnt a (rs := rs) n h1
    simp only [Rv.cntL, Rv.cnt, bors]
    omega
  | .tup _ :: rs, as, n, h => by cases h
  | .nst _ _ :: rs, as, n, h => by cases h
  | .st _ _ _ _ _ :: rs, as, n, h => by cases h
  | .bor b i :: rs, as, n, h => by
    simp only [passA] at h
    split at h
    · rename_i k c ds he
      split at h
      · rename_i bc
        subst bc
        obtain ⟨as', h1, rfl⟩ := Option.map_eq_some_iff.mp h
        simp only [bors, List.nodup_cons] at n
        have ih := passA_cnt a (rs := rs) n.2 h1
        have hl : i < (clr e (bors rs)).length := by
          rw [clr_len]
          exact (List.getElem?_eq_some_iff.mp he).1
        have h2 := cE_set a none (clr e (bors rs)) i hl
        rw [clr_ne n.1, he] at h2
        simp only [Option.getD_some, cO, Rv.cnt] at h2
        simp only [Rv.cntL, Rv.cnt, bors, clr]
        omega
      · cases h
    · rename_i k R c as0 ds he
      split at h
      · rename_i bc
        subst bc
        obtain ⟨as', h1, rfl⟩ := Option.map_eq_some_iff.mp h
        simp only [bors, List.nodup_cons] at n
        have ih := passA_cnt a (rs := rs) n.2 h1
        have hl : i < (clr e (bors rs)).length := by
          rw [clr_len]
          exact (List.getElem?_eq_some_iff.mp he).1
        have h2 := cE_set a none (clr e (bors rs)) i hl
        rw [clr_ne n.1, he] at h2
        simp only [Option.getD_some, cO, Rv.cnt] at h2
        simp only [Rv.cntL, Rv.cnt, bors, clr]
        omega
      · cases h
    · cases h
theorem setC_len (e : Ev) (i : Nat) (o : List PyData) : (setC e i o).length = e.length := by
  rw [setC_eq]
  split
  · rw [List.length_set]
  · rw [List.length_set]
  · rfl
theorem setC_cnt (a : Addr) (e : Ev) (i : Nat) (o : List PyData) : cE a (setC e i o) = cE a e := by
  rw [setC_eq]
  split
  · rename_i k b ds he
    have := cE_set a (some (.own k b o)) e i (List.getElem?_eq_some_iff.mp he).1
    rw [he] at this
    simp only [Option.getD_some, cO, Rv.cnt] at this
    omega
  · rename_i k R b bs ds he
    have := cE_set a (some (.st k R b bs o)) e i (List.getElem?_eq_some_iff.mp he).1
    rw [he] at this
    simp only [Option.getD_some, cO, Rv.cnt] at this
    omega
  · rfl
theorem setC_ne {e : Ev} {i j : Nat} {o : List PyData} (h : j ≠ i) : (setC e i o)[j]? = e[j]? := by
  rw [setC_eq]
  split
  · rw [List.getElem?_set_ne h.symm]
  · rw [List.getElem?_set_ne h.symm]
  · rfl
theorem putA_len : ∀ (rs : List Rv) (os : List (List PyData)) (e : Ev), (putA rs os e).length = e.length
  | [], _, e => by simp [putA]
  | .bor _ i :: rs, o :: os, e => by simp only [putA]; rw [putA_len, setC_len]
  | .bor _ i :: rs, [], e => by simp [putA]
  | .own _ _ _ :: rs, _ :: os, e => by simp only [putA]; rw [putA_len]
  | .own _ _ _ :: rs, [], e => by simp [putA]
  | .dat _ :: rs, os, e => by simp only [putA]; rw [putA_len]
  | .fn _ _ _ _ :: rs, os, e => by simp only [putA]; rw [putA_len]
  | .rg _ _ :: rs, os, e => by simp only [putA]; rw [putA_len]
  | .tup _ :: rs, os, e => by simp [putA]
  | .nst _ _ :: rs, os, e => by simp [putA]
  | .st _ _ _ _ _ :: rs, os, e => by simp [putA]
theorem putA_cnt (a : Addr) : ∀ (rs : List Rv) (os : List (List PyData)) (e : Ev), cE a (putA rs os e) = cE a e
  | [], _, e => by simp [putA]
  | .bor _ i :: rs, o :: os, e => by simp only [putA]; rw [putA_cnt, setC_cnt]
  | .bor _ i :: rs, [], e => by simp [putA]
  | .own _ _ _ :: rs, _ :: os, e => by simp only [putA]; rw [putA_cnt]
  | .own _ _ _ :: rs, [], e => by simp [putA]
  | .dat _ :: rs, os, e => by simp only [putA]; rw [putA_cnt]
  | .fn _ _ _ _ :: rs, os, e => by simp only [putA]; rw [putA_cnt]
  | .rg _ _ :: rs, os, e => by simp only [putA]; rw [putA_cnt]
  | .tup _ :: rs, os, e => by simp [putA]
  | .nst _ _ :: rs, os, e => by simp [putA]
  | .st _ _ _ _ _ :: rs, os, e => by simp [putA]
theorem putA_ne {j : Nat} : ∀ (rs : List Rv) (os : List (List PyData)) (e : Ev), j ∉ bors rs → (putA rs os e)[j]? = e[j]?
  | [], _, e, _ => by simp [putA]
  | .bor _ i :: rs, o :: os, e, h => by
    simp only [bors, List.mem_cons, not_or] at h
    simp only [putA]
    rw [putA_ne rs os _ h.2, setC_ne h.1]
  | .bor _ i :: rs, [], e, _ => by simp [putA]
  | .own _ _ _ :: rs, _ :: os, e, h => by simp only [putA]; exact putA_ne rs os e h
  | .own _ _ _ :: rs, [], e, _ => by simp [putA]
  | .dat _ :: rs, os, e, h => by simp only [putA]; exact putA_ne rs os e h
  | .fn _ _ _ _ :: rs, os, e, h => by simp only [putA]; exact putA_ne rs os e h
  | .rg _ _ :: rs, os, e, h => by simp only [putA]; exact putA_ne rs os e h
  | .tup _ :: rs, os, e, _ => by simp [putA]
  | .nst _ _ :: rs, os, e, _ => by simp [putA]
  | .st _ _ _ _ _ :: rs, os, e, _ => by simp [putA]
theorem putA_in {f : Fm} {L : List Addr} {H' : Hp} {e0 : Ev} {j : Nat} : ∀ (rs : List Rv) (as : List Rv) (os : List (List PyData)) (e : Ev), (bors rs).Nodup → passA e0 rs = some as → OutsOk f L H' as os → (∀ i ∈ bors rs, e[i]? = e0[i]?) → j ∈ bors rs →
    (∃ k a ds o xs, e0[j]? = some (some (.own k a ds)) ∧ (putA rs os e)[j]? = some (some (.own k a o)) ∧ H' a = some (.lst xs) ∧ Dks f.K (L ++ f.M) H' xs o) ∨
    ∃ k R a bs ds o, e0[j]? = some (some (.st k R a bs ds)) ∧ (putA rs os e)[j]? = some (some (.st k R a bs o)) ∧ R.P f.K (L ++ f.M) H' (a :: bs) o
  | [], _, _, _, _, _, _, _, h => by simp [bors] at h
  | .bor b i :: rs, as, os, e, n, hp, ho, he, h => by
    simp only [passA] at hp
    split at hp
    · rename_i k c ds hi
      split at hp
      · rename_i bc
        subst bc
        obtain ⟨as', h1, rfl⟩ := Option.map_eq_some_iff.mp hp
        obtain ⟨o, os', rfl, ⟨xs, h3, h4⟩, h5⟩ := ho
        simp only [bors, List.nodup_cons] at n
        simp only [putA]
        have hei : e[i]? = some (some (.own k b ds)) := (he i (by simp [bors])).trans hi
        by_cases q : j = i
        · subst q
          refine Or.inl ⟨k, b, ds, o, xs, hi, ?_, h3, h4⟩
          rw [putA_ne rs os' _ n.1]
          rw [setC_eq]
          rw [hei]
          dsimp only
          rw [List.getElem?_set_self (List.getElem?_eq_some_iff.mp hei).1]
        · refine putA_in rs as' os' _ n.2 h1 h5 (fun l hl => ?_) (by simpa [bors, q] using h)
          rw [setC_ne (fun z => n.1 (by rw [← z]; exact hl))]
          exact he l (by simp [bors, hl])
      · cases hp
    · rename_i k R c bs ds hi
      split at hp
      · rename_i bc
        subst bc
        obtain ⟨as', h1, rfl⟩ := Option.map_eq_some_iff.mp hp
        obtain ⟨o, os', rfl, h3, h5⟩ := ho
        simp only [bors, List.nodup_cons] at n
        simp only [putA]
        have hei : e[i]? = some (some (.st k R b bs ds)) := (he i (by simp [bors])).trans hi
        by_cases q : j = i
        · subst q
          refine Or.inr ⟨k, R, b, bs, ds, o, hi, ?_, h3⟩
          rw [putA_ne rs os' _ n.1]
          rw [setC_eq]
          rw [hei]
          dsimp only
          rw [List.getElem?_set_self (List.getElem?_eq_some_iff.mp hei).1]
        · refine putA_in rs as' os' _ n.2 h1 h5 (fun l hl => ?_) (by simpa [bors, q] using h)
          rw [setC_ne (fun z => n.1 (by rw [← z]; exact hl))]
          exact he l (by simp [bors, hl])
      · cases hp
    · cases hp
  | .own _ a ds :: rs, as, os, e, n, hp, ho, he, h => by
    obtain ⟨as', h1, rfl⟩ := Option.map_eq_some_iff.mp hp
    obtain ⟨o, os', rfl, _, h5⟩ := ho
    simp only [putA]
    exact putA_in rs as' os' e n h1 h5 he h
  | .dat _ :: rs, as, os, e, n, hp, ho, he, h => by
    obtain ⟨as', h1, rfl⟩ := Option.map_eq_some_iff.mp hp
    simp only [putA]
    exact putA_in rs as' os e n h1 ho he h
  | .fn _ _ _ _ :: rs, as, os, e, n, hp, ho, he, h => by
    obtain ⟨as', h1, rfl⟩ := Option.map_eq_some_iff.mp hp
    simp only [putA]
    exact putA_in rs as' os e n h1 ho he h
  | .rg _ _ :: rs, as, os, e, n, hp, ho, he, h => by
    obtain ⟨as', h1, rfl⟩ := Option.map_eq_some_iff.mp hp
    simp only [putA]
    exact putA_in rs as' os e n h1 ho he h
  | .tup _ :: rs, as, os, e, n, hp, _, _, _ => by cases hp
  | .nst _ _ :: rs, as, os, e, n, hp, _, _, _ => by cases hp
  | .st _ _ _ _ _ :: rs, as, os, e, n, hp, _, _, _ => by cases hp
def ownL : List Rv → List Addr
  | [] => []
  | .own _ a _ :: rs => a :: ownL rs
  | .dat _ :: rs => ownL rs
  | .bor _ _ :: rs => ownL rs
  | .tup _ :: rs => ownL rs
  | .nst _ _ :: rs => ownL rs
  | .st _ _ a as _ :: rs => (a :: as) ++ ownL rs
  | .fn _ _ _ _ :: rs => ownL rs
  | .rg _ _ :: rs => ownL rs
theorem ownL_cnt {a : Addr} : ∀ {rs : List Rv}, a ∈ ownL rs → 0 < Rv.cntL a rs
  | .own _ b _ :: rs, h => by
    simp only [ownL, List.mem_cons] at h
    simp only [Rv.cntL, Rv.cnt]
    rcases h with h | h
    · rw [if_pos h]; omega
    · have := ownL_cnt h
      omega
  | .dat _ :: rs, h => by have := ownL_cnt (rs := rs) h; simp only [Rv.cntL]; omega
  | .bor _ _ :: rs, h => by have := ownL_cnt (rs := rs) h; simp only [Rv.cntL]; omega
  | .tup _ :: rs, h => by have := ownL_cnt (rs := rs) h; simp only [Rv.cntL]; omega
  | .nst _ _ :: rs, h => by have := ownL_cnt (rs := rs) h; simp only [Rv.cntL]; omega
  | .st _ _ b bs _ :: rs, h => by
    simp only [Rv.cntL, Rv.cnt]
    rcases List.mem_append.mp h with h | h
    · have := inA_pos.mpr h
      omega
    · have := ownL_cnt (rs := rs) h
      omega
  | .fn _ _ _ _ :: rs, h => by have := ownL_cnt (rs := rs) h; simp only [Rv.cntL]; omega
  | .rg _ _ :: rs, h => by have := ownL_cnt (rs := rs) h; simp only [Rv.cntL]; omega
def dCall (S : TSpec) (da : DA) : DE := fun e Q => da e fun rs e1 => ndB (bors rs) = true ∧ passK e1 rs fun as => S as fun r outs => Q r (putA rs outs e1)
section
variable {f : Fm} {L : List Addr} {P : List (V × Rv)} {σ : L2.St} {H : Hp} {e : Ev}
theorem Stn.pass (S : Stn f L P σ H e) {B : List Addr} {H0 : Hp} : ∀ (ps : List (V × Rv)) (as : List Rv), (∀ p ∈ ps, p ∈ P) → passA e (ps.map Prod.snd) = some as → (∀ a ∈ ownL as, a ∈ B) →
    Rqs (Fm.mk f.toFx B (L ++ f.M) H0) [] H (ps.map Prod.fst) as ∧ argOk as = true ∧ ∀ a ∈ ownL as, a ∈ L ∨ a ∈ f.B
  | [], as, _, h, _ => by
    cases h
    exact ⟨.nil, rfl, fun _ z => nomatch z⟩
  | (v, .dat d) :: ps, as, hp, h, hB => by
    obtain ⟨as', h1, rfl⟩ := Option.map_eq_some_iff.mp h
    obtain ⟨i1, i2, i3⟩ := S.pass (B := B) (H0 := H0) ps as' (fun q hq => hp q (List.mem_cons_of_mem _ hq)) h1 hB
    have q := S.pd _ (hp (v, .dat d) List.mem_cons_self)
    cases q with
    | dat z => exact ⟨.cons (.dat z) i1, i2, i3⟩
  | (v, .fn j g ar S') :: ps, as, hp, h, hB => by
    obtain ⟨as', h1, rfl⟩ := Option.map_eq_some_iff.mp h
    obtain ⟨i1, i2, i3⟩ := S.pass (B := B) (H0 := H0) ps as' (fun q hq => hp q (List.mem_cons_of_mem _ hq)) h1 hB
    have q := S.pd _ (hp (v, .fn j g ar S') List.mem_cons_self)
    cases q with
    | fn Hf c z => exact ⟨.cons (.fn Hf c z) i1, i2, i3⟩
  | (v, .rg lo hi) :: ps, as, hp, h, hB => by
    obtain ⟨as', h1, rfl⟩ := Option.map_eq_some_iff.mp h
    obtain ⟨i1, i2, i3⟩ := S.pass (B := B) (H0 := H0) ps as' (fun q hq => hp q (List.mem_cons_of_mem _ hq)) h1 hB
    have q := S.pd _ (hp (v, .rg lo hi) List.mem_cons_self)
    cases q with
    | rg n c => exact ⟨.cons (.rg n c) i1, i2, i3⟩
  | (v, .own k a ds) :: ps, as, hp, h, hB => by
    obtain ⟨as', h1, rfl⟩ := Option.map_eq_some_iff.mp h
    obtain ⟨i1, i2, i3⟩ := S.pass (B := B) (H0 := H0) ps as' (fun q hq => hp q (List.mem_cons_of_mem _ hq)) h1 (fun b hb => hB b (List.mem_cons_of_mem _ hb))
    have q := S.pd _ (hp (v, .own k a ds) List.mem_cons_self)
    cases q with
    | own x1 x2 x3 x4 =>
      refine ⟨.cons (.own nofun (fun _ => hB a List.mem_cons_self) x3 x4) i1, i2, fun b hb => ?_⟩
      rcases List.mem_cons.mp hb with z | z
      · rw [z]
        cases k with
        | true => exact Or.inl (x1 rfl)
        | false => exact Or.inr (x2 rfl)
      · exact i3 b z
  | (v, .bor a i) :: ps, as, hp, h, hB => by
    simp only [List.map_cons, passA] at h
    split at h
    · rename_i k c ds hi
      split at h
      · rename_i ac
        subst ac
        obtain ⟨as', h1, rfl⟩ := Option.map_eq_some_iff.mp h
        obtain ⟨i1, i2, i3⟩ := S.pass (B := B) (H0 := H0) ps as' (fun q hq => hp q (List.mem_cons_of_mem _ hq)) h1 (fun b hb => hB b (List.mem_cons_of_mem _ hb))
        have q := S.pd _ (hp (v, .bor a i) List.mem_cons_self)
        cases q
        obtain ⟨v', s1, s2⟩ := S.sl _ _ hi
        cases s2 with
        | own x1 x2 x3 x4 =>
          refine ⟨.cons (.own nofun (fun _ => hB a List.mem_cons_self) x3 x4) i1, i2, fun b hb => ?_⟩
          rcases List.mem_cons.mp hb with z | z
          · rw [z]
            cases k with
            | true => exact Or.inl (x1 rfl)
            | false => exact Or.inr (x2 rfl)
          · exact i3 b z
      · cases h
    · rename_i k R c bs ds hi
      split at h
      · rename_i ac
        subst ac
        obtain ⟨as', h1, rfl⟩ := Option.map_eq_some_iff.mp h
        obtain ⟨i1, i2, i3⟩ := S.pass (B := B) (H0 := H0) ps as' (fun q hq => hp q (List.mem_cons_of_mem _ hq)) h1 (fun b hb => hB b (List.mem_append_right _ hb))
        have q := S.pd _ (hp (v, .bor a i) List.mem_cons_self)
        cases q
        obtain ⟨v', s1, s2⟩ := S.sl _ _ hi
        cases s2 with
        | st x1 x2 x3 =>
          refine ⟨.cons (.st nofun (fun _ b hb => hB b (List.mem_append_left _ hb)) x3) i1, i2, fun b hb => ?_⟩
          rcases List.mem_append.mp hb with z | z
          · cases k with
            | true => exact Or.inl (x1 rfl b z)
            | false => exact Or.inr (x2 rfl b z)
          · exact i3 b z
      · cases h
    · cases h
  | (v, .tup _) :: ps, as, _, h, _ => by cases h
  | (v, .nst _ _) :: ps, as, _, h, _ => by cases h
  | (v, .st _ _ _ _ _) :: ps, as, _, h, _ => by cases h
theorem Rv.mov_L {f : Fm} {L : List Addr} {H : Hp} {v : V} {r : Rv} (x : Rq f L H v r) : r.mov = true → ∀ a, 0 < r.cnt a → a ∈ L := by
  refine Rq.rec (motive_1 := fun v r _ => r.mov = true → ∀ a, 0 < r.cnt a → a ∈ L) (motive_2 := fun vs rs _ => Rv.movL rs = true → ∀ a, 0 < Rv.cntL a rs → a ∈ L) ?_ ?_ ?_ ?_ ?_ ?_ ?_ ?_ ?_ ?_ x
  · intro v d _ _ a z
    simp [Rv.cnt] at z
  · intro k b xs ds x1 x2 _ _ m a z
    have e : a = b := Classical.byContradiction fun n => by simp [Rv.cnt, n] at z
    subst e
    exact x1 (by simpa [Rv.mov] using m)
  · intro a i m
    simp [Rv.mov] at m
  · intro p xs rs _ _ _ ih m a z
    exact ih (by simpa [Rv.mov] using m) a (by simpa [Rv.cnt] using z)
  · intro j g ar S Hf _ _ _ a z
    simp [Rv.cnt] at z
  · intro p lo hi _ _ _ a z
    simp [Rv.cnt] at z
  · intro b xs rs x1 _ _ ih m a z
    by_cases q : a = b
    · rw [q]
      exact x1
    · simp only [Rv.cnt, if_neg q] at z
      exact ih (by simpa [Rv.mov] using m) a (by omega)
  · intro k R b bs ds x1 _ _ m a z
    exact x1 (by simpa [Rv.mov] using m) a (inA_pos.mp z)
  · intro _ a z
    simp [Rv.cntL] at z
  · intro v vs r rs _ _ i1 i2 m a z
    simp only [Rv.movL, Bool.and_eq_true] at m
    simp only [Rv.cntL] at z
    by_cases q : 0 < r.cnt a
    · exact i1 m.1 a q
    · exact i2 m.2 a (by omega)
/-- behind a call -/
theorem Stn.called {ps : List (V × Rv)} (S : Stn f L (P ++ ps) σ H e) {as : List Rv} {Lc : List Addr} {H' : Hp} {v : V} {r : Rv} {outs : List (List PyData)} (n : (bors (ps.map Prod.snd)).Nodup) (hp : passA e (ps.map Prod.snd) = some as)
    (F : Fin (Fm.mk f.toFx (ownL as) (L ++ f.M) H) Lc H' as v r outs) : Stn f (Lc ++ L) (P ++ [(v, r)]) σ H' (putA (ps.map Prod.snd) outs e) := by
  obtain ⟨_, _, own⟩ := S.pass (B := ownL as) (H0 := H) ps as (fun p hp => List.mem_append_right _ hp) hp fun a h => h
  have cnt := fun a => passA_cnt a n hp
  have subB : ∀ b ∈ ownL as, b ∈ L ++ f.B := fun b hb => List.mem_append.mpr (own b hb)
  have subM : ∀ b ∈ ownL as, b ∈ L ++ f.M := fun b hb => (own b hb).elim (fun z => List.mem_append_left _ z) fun z => List.mem_append_right _ (S.bm b z)
  have s : Sn f.c (Lc ++ ownL as) H H' := F.sm
  have fr0 : ∀ l ∈ Lc, H l = none := F.fr
  have asc : ∀ {b}, b ∈ Lc ++ L ++ f.M → b ∈ Lc ++ (L ++ f.M) := fun {b} h => by rwa [List.append_assoc] at h
  have asc2 : ∀ {b}, b ∈ Lc ++ (L ++ f.M) → b ∈ Lc ++ L ++ f.M := fun {b} h => by rwa [← List.append_assoc] at h
  have nodes : ∀ a o, a ∉ L ++ f.M → H a = some o → (∀ ps, o ≠ .tbl ps) → a ∉ (Lc ++ L) ++ f.M ∧ H' a = some o := fun a o na ha t => by
    have nl : a ∉ Lc := fun z => by
      rw [fr0 a z] at ha
      cases ha
    refine ⟨fun z => ?_, s.ex a o (fun z => ?_) ha t⟩
    · rcases List.mem_append.mp (asc z) with z | z
      · exact nl z
      · exact na z
    · rcases List.mem_append.mp z with z | z
      · exact nl z
      · exact na (subM a z)
  -- what another owns stays
  have keep : ∀ a, 0 < cE a (clr e (bors (ps.map Prod.snd))) + cP a P → (a ∈ L → a ∈ Lc ++ L) ∧ H' a = H a := fun a ha => by
    refine ⟨fun z => List.mem_append_right _ z, ?_⟩
    have c1 := cnt a
    have c2 := S.nd a
    rw [cP_app] at c2
    rw [cntL_map] at c1
    have na : a ∉ ownL as := fun z => by
      have := ownL_cnt z
      omega
    have pos : 0 < cE a e + cP a (P ++ ps) := by
      rw [cP_app]
      omega
    obtain ⟨⟨xs, hx, ht⟩, _⟩ := S.owned pos
    rw [hx]
    refine s.ex a _ (fun z => ?_) hx ht
    rcases List.mem_append.mp z with z | z
    · rw [fr0 a z] at hx
      cases hx
    · exact na z
  have own0 : ∀ a, 0 < r.cnt a → cE a e + cP a P = 0 := fun a ha => Classical.byContradiction fun z => by
    have hl : a ∈ Lc := Rv.mov_L F.rq F.mv a ha
    obtain ⟨⟨xs, hx, _⟩, _⟩ := S.pop.owned (a := a) (by omega)
    rw [fr0 a hl] at hx
    cases hx
  refine ⟨s.gd S.gd, ?_, fun l hl => ?_, S.al0, S.bm, fun m hm => ?_, fun a => ?_, by rw [putA_len]; exact S.ln, fun i q hq => ?_, fun p hp' => ?_⟩
  · refine (S.sm.sub (M' := (Lc ++ L) ++ f.B) fun x hx => ?_).trans (s.sub fun x hx => ?_)
    · rcases List.mem_append.mp hx with z | z
      · exact List.mem_append_left _ (List.mem_append_right _ z)
      · exact List.mem_append_right _ z
    · rcases List.mem_append.mp hx with z | z
      · exact List.mem_append_left _ (List.mem_append_left _ z)
      · rcases List.mem_append.mp (subB x z) with z | z
        · exact List.mem_append_left _ (List.mem_append_right _ z)
        · exact List.mem_append_right _ z
  · rcases List.mem_append.mp hl with z | z
    · exact S.sm.fresh (F.fr l z)
    · exact S.fr l z
  · rcases List.mem_append.mp hm with z | z
    · exact F.al m z
    · exact s.st m (S.al m z)
  · rw [putA_cnt, cP_app, cP_one]
    have c2 := S.nd a
    rw [cP_app] at c2
    by_cases z : 0 < r.cnt a
    · have := own0 a z
      have := F.nd a
      omega
    · omega
  · by_cases hi : i ∈ bors (ps.map Prod.snd)
    · rcases putA_in (ps.map Prod.snd) as outs e n hp F.ou (fun _ _ => rfl) hi with ⟨k, a, ds, o, xs, h1, h2, h3, h4⟩ | ⟨k, R, a, bs, ds, o, h1, h2, h3⟩
      · rw [h2] at hq
        cases hq
        obtain ⟨v', s1, s2⟩ := S.sl _ _ h1
        cases s2 with
        | own x1 x2 _ _ => exact ⟨_, s1, .own (fun z => List.mem_append_right _ (x1 z)) x2 h3 (h4.sub fun z hz => asc hz)⟩
      · rw [h2] at hq
        cases hq
        obtain ⟨v', s1, s2⟩ := S.sl _ _ h1
        cases s2 with
        | st x1 x2 _ => exact ⟨_, s1, .st (fun z b hb => List.mem_append_right _ (x1 z b hb)) x2 (R.map h3 (fun _ _ => rfl) fun z o nz e _ => ⟨fun q => nz (asc q), e⟩)⟩
    · rw [putA_ne _ _ _ hi] at hq
      obtain ⟨v', s1, s2⟩ := S.sl _ _ hq
      refine ⟨v', s1, s2.map nodes s.nl fun a ha => keep a ?_⟩
      have := cE_get (a := a) (e := clr e (bors (ps.map Prod.snd))) (by rw [clr_ne hi]; exact hq)
      omega
  · rcases List.mem_append.mp hp' with z | z
    · refine (S.pop.pd p z).map nodes s.nl fun a ha => keep a ?_
      have := cP_mem (a := a) z
      omega
    · rw [List.mem_singleton.mp z]
      have mv := Rv.mov_L F.rq F.mv
      -- the frame is another, the lists are the same
      have key : ∀ {v r}, Rq (Fm.mk f.toFx (ownL as) (L ++ f.M) H) Lc H' v r → r.mov = true → Rq f (Lc ++ L) H' v r := by
        intro v r q
        refine Rq.rec (motive_1 := fun v r _ => r.mov = true → Rq f (Lc ++ L) H' v r) (motive_2 := fun vs rs _ => Rv.movL rs = true → Rqs f (Lc ++ L) H' vs rs) ?_ ?_ ?_ ?_ ?_ ?_ ?_ ?_ ?_ ?_ q
        · intro v d x _
          exact .dat (x.sub fun z hz => asc hz)
        · intro k b xs ds x1 x2 x3 x4 m
          have hk : k = true := by simpa [Rv.mov] using m
          subst hk
          exact .own (fun z => List.mem_append_left _ (x1 z)) nofun x3 (x4.sub fun z hz => asc hz)
        · intro a i m
          simp [Rv.mov] at m
        · intro p xs rs n1 h1 _ ih m
          exact .tup (fun z => n1 (asc z)) h1 (ih (by simpa [Rv.mov] using m))
        · intro j g ar S Hf c x _
          exact .fn Hf c x
        · intro p lo hi n1 h1 _
          exact .rg (fun z => n1 (asc z)) h1
        · intro a xs rs n1 h1 _ ih m
          exact .nst (List.mem_append_left _ n1) h1 (ih (by simpa [Rv.mov] using m))
        · intro k R a bs ds x1 _ x3 m
          have hk : k = true := by simpa [Rv.mov] using m
          subst hk
          exact .st (fun z b hb => List.mem_append_left _ (x1 z b hb)) nofun (R.map x3 (fun _ _ => rfl) fun z o nz e _ => ⟨fun q => nz (asc q), e⟩)
        · intro _
          exact .nil
        · intro v vs r rs _ _ i1 i2 m
          simp only [Rv.movL, Bool.and_eq_true] at m
          exact .cons (i1 m.1) (i2 m.2)
      exact key F.rq F.mv
end
/-- f(a, ..) -/
theorem le_call {x : Fx} {S : TSpec} {ta : TA} {da : DA} {E : XK} (h : LA x ta da) : LE x (tCall (spT x S) [] E ta) (dCall S da) := fun {f L P σ H e Q Qd} hf S0 hd q =>
  h hf S0 hd fun ps L1 H1 e1 S1 ⟨n, k1⟩ => by
    subst hf
    have n := ndB_nd n
    obtain ⟨as, hp, k1⟩ := passK_some k1
    · obtain ⟨i1, i2, i3⟩ := S1.pass (B := ownL as) (H0 := H1) ps as (fun p hp => List.mem_append_right _ hp) hp fun a h => h
      refine ⟨(Fm.mk f.toFx (ownL as) (L1 ++ f.M) H1), as, _, rfl, rfl, S1.gd, S1.all, fun b hb => ?_, by rw [List.append_nil]; exact i1, fun a => ?_, i2, k1, fun v r outs L' H' F hk => q v r _ H' _ (S1.called n hp F) hk⟩
      · exact (i3 b hb).elim (fun z => List.mem_append_left _ z) fun z => List.mem_append_right _ (S1.bm b z)
      · have c1 := passA_cnt a n hp
        have c2 := S1.nd a
        rw [cP_app] at c2
        rw [cntL_map] at c1
        omega
end My

/-! statements and defs at tree level -/
namespace My
open PySem PySem.Spec PyProof.Rows L2
open LamX (CodeO TabS ExtN)
def LS (x : Fx) (ts : TS) (ds : DS) : Prop := ∀ {f : Fm} {L : List Addr} {P : List (V × Rv)} {σ : L2.St} {H : Hp} {e : Ev} {D : Ends} {Dd : EndsD}, f.toFx = x → Stn f L P σ H e → ds Dd e →
  (∀ L' σ' H' e', Stn f L' P σ' H' e' → Dd.nx e' → D.nx σ' H') →
  (∀ v r L' σ' H' e', Stn f L' (P ++ [(v, r)]) σ' H' e' → r.mov = true → Dd.rt r e' → D.rt v H') →
  (∀ L' σ' H' e', Stn f L' P σ' H' e' → Dd.bk e' → D.bk σ' H') →
  (∀ L' σ' H' e', Stn f L' P σ' H' e' → Dd.ct e' → D.ct σ' H') → ts D σ H
section
variable {x : Fx}
def dNext : DS := fun D e => D.nx e
theorem ls_next : LS x tNext dNext := fun hf S h nx _ _ _ => nx _ _ _ _ S h
def dNever : DS := fun _ _ => False
theorem ls_never : LS x tNever dNever := fun hf S h _ _ _ _ => h.elim
def dSeq (t u : DS) : DS := fun D e => t { D with nx := u D } e
theorem ls_seq {t u : TS} {dt du : DS} (h1 : LS x t dt) (h2 : LS x u du) : LS x (tSeq t u) (dSeq dt du) := fun {f L P σ H e D Dd} hf S h nx rt bk ct =>
  h1 (D := { D with nx := u D }) hf S h (fun L' σ' H' e' S' k => h2 hf S' k nx rt bk ct) rt bk ct
def dAsg (de : DE) (dg : DG) : DS := fun D e => de e fun r e1 => dg r e1 D.nx
theorem ls_asg {te : TE} {g : TG} {de : DE} {dg : DG} {vs : List Nat} (h1 : LE x te de) (h2 : LG x vs g dg) : LS x (tAsg te g) (dAsg de dg) := fun {f L P σ H e D Dd} hf S h nx rt bk ct =>
  h1 hf S h fun v r L1 H1 e1 S1 k1 => h2 hf S1 k1 fun L2 σ2 H2 e2 S2 _ _ k2 => nx _ _ _ _ S2 k2
def dPar (i j : Nat) (da : DA) : DS := fun D e => da e fun rs e1 => match rs with
  | [r, s] => dgName i r e1 fun e2 => dgName j s e2 D.nx
  | _ => False
theorem ls_par {i j : Nat} {ta : TA} {da : DA} (h : LA x ta da) : LS x (tPar i j ta) (dPar i j da) := fun {f L P σ H e D Dd} hf S hd nx rt bk ct =>
  h hf S hd fun ps L1 H1 e1 S1 k1 => by
    match ps, k1 with
    | [(v, r), (w, s)], k1 =>
      refine ⟨v, w, rfl, ?_⟩
      exact lg_name (vs := [i]) (by simp) (v := v) (r := r) (P := P ++ [(w, s)]) hf S1.swap k1 fun L2 σ2 H2 e2 S2 _ _ k2 =>
        lg_name (vs := [j]) (by simp) (v := w) (r := s) (P := P) hf S2 k2 fun L3 σ3 H3 e3 S3 _ _ k3 => nx _ _ _ _ S3 k3
    | [], k1 => exact k1.elim
    | [_], k1 => exact k1.elim
    | _ :: _ :: _ :: _, k1 => exact k1.elim
def dPar3 (i j l : Nat) (da : DA) : DS := fun D e => da e fun rs e1 => match rs with
  | [r, s, t] => dgName i r e1 fun e2 => dgName j s e2 fun e3 => dgName l t e3 D.nx
  | _ => False
theorem ls_par3 {i j l : Nat} {ta : TA} {da : DA} (h : LA x ta da) : LS x (tPar3 i j l ta) (dPar3 i j l da) := fun {f L P σ H e D Dd} hf S hd nx rt bk ct =>
  h hf S hd fun ps L1 H1 e1 S1 k1 => by
    match ps, k1 with
    | [(v, r), (w, s), (z, t)], k1 =>
      refine ⟨v, w, z, rfl, ?_⟩
      have S2 : Stn f L1 (P ++ [(w, s), (z, t)] ++ [(v, r)]) σ H1 e1 := S1.swap
      exact lg_name (vs := [i]) (by simp) (v := v) (r := r) (P := P ++ [(w, s), (z, t)]) hf S2 k1 fun L2 σ2 H2 e2 S2 _ _ k2 =>
        lg_name (vs := [j]) (by simp) (v := w) (r := s) (P := P ++ [(z, t)]) hf S2.swap k2 fun L3 σ3 H3 e3 S3 _ _ k3 =>
          lg_name (vs := [l]) (by simp) (v := z) (r := t) (P := P) hf S3 k3 fun L4 σ4 H4 e4 S4 _ _ k4 => nx _ _ _ _ S4 k4
    | [], k1 => exact k1.elim
    | [_], k1 => exact k1.elim
    | [_, _], k1 => exact k1.elim
    | _ :: _ :: _ :: _ :: _, k1 => exact k1.elim
def dDrop (de : DE) : DS := fun D e => de e fun _ e1 => D.nx e1
theorem ls_drop {te : TE} {de : DE} (h : LE x te de) : LS x (tDrop te) (dDrop de) := fun {f L P σ H e D Dd} hf S hd nx rt bk ct =>
  h hf S hd fun v r L1 H1 e1 S1 k1 => nx _ _ _ _ S1.pop k1
def dRet (de : DE) : DS := fun D e => de e fun r e1 => r.mov = true ∧ D.rt r e1
theorem ls_ret {te : TE} {de : DE} (h : LE x te de) : LS x (tRet te) (dRet de) := fun {f L P σ H e D Dd} hf S hd nx rt bk ct =>
  h hf S hd fun v r L1 H1 e1 S1 k1 => rt _ _ _ _ _ _ S1 k1.1 k1.2
def dRetN : DS := fun D e => D.rt (.dat .none) e
theorem ls_retN : LS x tRetN dRetN := fun {f L P σ H e D Dd} hf S hd nx rt bk ct => rt _ _ _ _ _ _ (S.pushD .non) rfl hd
def dIfS (c : DT) (t u : DS) : DS := fun D e => c e fun b e1 => (b = true → t D e1) ∧ (b = false → u D e1)
theorem ls_if {c : TT} {t u : TS} {dc : DT} {dt du : DS} (h0 : LT x c dc) (h1 : LS x t dt) (h2 : LS x u du) : LS x (tIfS c t u) (dIfS dc dt du) := fun {f L P σ H e D Dd} hf S hd nx rt bk ct =>
  h0 hf S hd fun b L1 H1 e1 S1 k1 => by
    cases b with
    | true => exact h1 hf S1 (k1.1 rfl) nx rt bk ct
    | false => exact h2 hf S1 (k1.2 rfl) nx rt bk ct
def dBreak : DS := fun D e => D.bk e
theorem ls_break : LS x tBreak dBreak := fun hf S h _ _ bk _ => bk _ _ _ _ S h
def dCont : DS := fun D e => D.ct e
theorem ls_cont : LS x tCont dCont := fun hf S h _ _ _ ct => ct _ _ _ _ S h
/-- a name += of numbers -/
def dAug (g : Int → Int → Int) (i : Nat) (de : DE) : DS := fun D e => match e[i]? with
  | some (some (.dat (.int a))) => de e fun r e1 => match r with
    | .dat (.int b) => D.nx (e1.set i (some (.dat (.int (g a b)))))
    | _ => False
  | _ => False
theorem ls_aug {g : Int → Int → Int} {i : Nat} {te : TE} {de : DE} (h : LE x te de) : LS x (tAug i te (ipI g)) (dAug g i de) := fun {f L P σ H e D Dd} hf S hd nx rt bk ct => by
  unfold dAug at hd
  split at hd
  · rename_i a he
    obtain ⟨v, s1, s2⟩ := S.sl _ _ he
    cases s2 with
    | dat z =>
      cases z.int_inv
      refine ⟨_, s1, h hf S hd fun w r L1 H1 e1 S1 k1 => ?_⟩
      split at k1
      · rename_i b
        have z := S1.last
        cases z with
        | dat z =>
          cases z.int_inv
          exact ⟨_, _, rfl, rfl, nx _ _ _ _ ((S1.pop.pushD (.int (g a b))).put' i) k1⟩
      · exact k1.elim
  · exact hd.elim
/-! ### for -/
def forLoop (src : Src) (all : List PyData) (g : DG) (body : DS) (D : EndsD) : List PyData → Ev → Prop
  | [], e => D.nx e
  | d :: ds, e => g (.dat d) e fun e2 => body { nx := fun e3 => items e3 src = some all ∧ forLoop src all g body D ds e3, rt := D.rt, bk := D.nx, ct := fun e3 => items e3 src = some all ∧ forLoop src all g body D ds e3 } e2
def dFor (di : DI) (g : DG) (body : DS) : DS := fun D e => di e fun src e1 => ∃ ds, items e1 src = some ds ∧ forLoop src ds g body D ds e1
theorem ls_for {wi : TI} {g : TG} {tb : TS} {di : DI} {dg : DG} {db : DS} {vs : List Nat} (hi : LI x wi di) (hg : LG x vs g dg) (hb : LS x tb db) : LS x (tFor wi g tb) (dFor di dg db) := fun {f L P σ H e D Dd} hf S hd nx rt bk ct => by
  refine hi hf S hd (fun src e1 z => ?_) fun J ps src L1 H1 e1 ds' G Y S1 h1 I k1 => ?_
  · obtain ⟨ds, h, _⟩ := z
    rw [h]
    rfl
  · obtain ⟨ds, h2, lp⟩ := k1
    cases h1.symm.trans h2
    refine L2.for_it I.w (fun i σ' H' => ∃ L' e', Stn f L' (P ++ ps) σ' H' e' ∧ items e' src = some ds' ∧ forLoop src ds' dg db Dd (ds'.drop i) e')
      ⟨_, _, S1, h1, by rw [List.drop_zero]; exact lp⟩ (fun i σ' H' hi hW => ?_) (fun i w σ' H' H2 hi hW hY => ?_) (fun σ' H' hW => ?_)
    · obtain ⟨L', e', S2, g1, _⟩ := hW
      rw [← List.append_nil (P ++ ps)] at S2
      exact I.g S2 g1
    · obtain ⟨L', e', S2, g1, lp⟩ := hW
      have S2' := S2
      rw [← List.append_nil (P ++ ps)] at S2'
      obtain ⟨d, hd, s, dk⟩ := I.y S2' g1 hi hY
      rw [List.drop_eq_getElem_cons hi] at lp
      have ed : ds'[i] = d := by
        rw [List.getElem?_eq_getElem hi] at hd
        exact Option.some.inj hd
      rw [ed] at lp
      unfold forLoop at lp
      refine hg hf ((S2.grow s).pushD dk) lp fun L5 σ5 H5 e5 S5 _ _ k5 => ?_
      refine hb hf S5 k5 (fun L6 σ6 H6 e6 S6 k6 => ⟨L6, e6, S6, k6.1, k6.2⟩) (fun v r L6 σ6 H6 e6 S6 m k6 => rt v r L6 σ6 H6 e6 ?_ m k6) (fun L6 σ6 H6 e6 S6 k6 => nx _ _ _ _ S6.pop k6) (fun L6 σ6 H6 e6 S6 k6 => ⟨L6, e6, S6, k6.1, k6.2⟩)
      exact S6.mid
    · obtain ⟨L', e', S2, g1, lp⟩ := hW
      rw [List.drop_length] at lp
      exact nx _ _ _ _ S2.pop lp
/-! ### xs.append(y) -/
def dApp (i : Nat) (da : DA) : DE := fun e Q => (∃ k a ds, e[i]? = some (some (.own k a ds))) ∧ da e fun rs e1 => match rs, e1[i]? with
  | [.dat d], some (some (.own k a ds)) => ds.length < 100000 ∧ Q (.dat .none) (e1.set i (some (.own k a (ds ++ [d]))))
  | _, _ => False
theorem le_app {i : Nat} {ta : TA} {da : DA} (h : LA x ta da) : LE x (tBM x.K "list" rAppend (tVar i) ta) (dApp i da) := fun {f L P σ H e Q Qd} hf S hd q => by
  subst hf
  obtain ⟨⟨k0, a0, ds0, h0⟩, hd⟩ := hd
  obtain ⟨v0, s0, q0⟩ := S.sl _ _ h0
  cases q0 with
  | own x1 x2 x3 x4 =>
    refine ⟨_, s0, Or.inl ⟨rfl, _, SqL.of x3⟩, h rfl S hd fun ps L1 H1 e1 S1 k1 => ?_⟩
    split at k1
    · rename_i d k a ds hps he
      match ps, hps with
      | [(v, .dat _)], rfl =>
        obtain ⟨v1, s1, q1⟩ := S1.sl _ _ he
        rw [s0] at s1
        cases s1
        have z := S1.last
        cases z with
        | dat dx =>
          cases q1 with
          | own y1 y2 y3 y4 =>
            have e4 := y4.length
            refine ⟨_, _, v, rfl, rfl, y3, sz_lt (by omega), q _ _ _ _ _ ((S1.pop.mutate he (y4.snoc dx)).pushD .non) k1.2⟩
    · exact k1.elim
/-! ### defs -/
noncomputable def outsOf : List Rv → Ev → Option (List (List PyData))
  | [], _ => some []
  | .own _ a _ :: rs, o :: e => match o with
    | some (.own _ b ds) => if a = b then (outsOf rs e).map (ds :: ·) else none
    | _ => none
  | .st _ R a as _ :: rs, o :: e => match o with
    | some (.st _ R2 b bs ds) => @ite _ (a = b ∧ R = R2 ∧ as = bs) (Classical.propDecidable _) ((outsOf rs e).map (ds :: ·)) none
    | _ => none
  | .dat _ :: rs, _ :: e => outsOf rs e
  | .fn _ _ _ _ :: rs, _ :: e => outsOf rs e
  | .rg _ _ :: rs, _ :: e => outsOf rs e
  | _ :: _, _ => none
def outsK : List Rv → Ev → (List (List PyData) → Prop) → Prop
  | [], _, k => k []
  | .own _ a _ :: rs, o :: e, k => match o with
    | some (.own _ b ds) => a = b ∧ outsK rs e fun os => k (ds :: os)
    | _ => False
  | .st _ R a as _ :: rs, o :: e, k => match o with
    | some (.st _ R2 b bs ds) => (a = b ∧ R = R2 ∧ as = bs) ∧ outsK rs e fun os => k (ds :: os)
    | _ => False
  | .dat _ :: rs, _ :: e, k => outsK rs e k
  | .fn _ _ _ _ :: rs, _ :: e, k => outsK rs e k
  | .rg _ _ :: rs, _ :: e, k => outsK rs e k
  | _ :: _, _, _ => False
theorem outsK_some : ∀ {rs : List Rv} {e : Ev} {k : List (List PyData) → Prop}, outsK rs e k → ∃ os, outsOf rs e = some os ∧ k os
  | [], _, _, h => ⟨[], rfl, h⟩
  | .own _ a _ :: rs, [], _, h => h.elim
  | .own _ a _ :: rs, o :: e, k, h => by
    simp only [outsK] at h
    simp only [outsOf]
    split at h
    · obtain ⟨rfl, h⟩ := h
      obtain ⟨os, h1, h⟩ := outsK_some (rs := rs) h
      exact ⟨_, by rw [if_pos rfl, h1]; rfl, h⟩
    · exact h.elim
  | .dat _ :: rs, [], _, h => h.elim
  | .dat _ :: rs, o :: e, k, h => outsK_some (rs := rs) (e := e) h
  | .fn _ _ _ _ :: rs, [], _, h => h.elim
  | .fn _ _ _ _ :: rs, o :: e, k, h => outsK_some (rs := rs) (e := e) h
  | .rg _ _ :: rs, [], _, h => h.elim
  | .rg _ _ :: rs, o :: e, k, h => outsK_some (rs := rs) (e := e) h
  | .bor _ _ :: rs, [], _, h => h.elim
  | .bor _ _ :: rs, o :: e, _, h => h.elim
  | .tup _ :: rs, [], _, h => h.elim
  | .nst _ _ :: rs, [], _, h => h.elim
  | .tup _ :: rs, o :: e, _, h => h.elim
  | .nst _ _ :: rs, o :: e, _, h => h.elim
  | .st _ _ _ _ _ :: rs, [], _, h => h.elim
  | .st _ R a as _ :: rs, o :: e, k, h => by
    simp only [outsK] at h
    simp only [outsOf]
    split at h
    · obtain ⟨⟨rfl, rfl, rfl⟩, h⟩ := h
      obtain ⟨os, h1, h⟩ := outsK_some (rs := rs) h
      exact ⟨_, by rw [if_pos ⟨rfl, rfl, rfl⟩, h1]; rfl, h⟩
    · exact h.elim
def outK (rs : List Rv) (k : Rv → List (List PyData) → Prop) (r : Rv) (e : Ev) : Prop := outsK rs e fun outs => k r outs
def specOf (np nN : Nat) (d : DS) : TSpec := fun rs k => rs.length = np ∧ d { nx := fun e => outK rs k (.dat .none) e, rt := fun r e => outK rs k r e } (rs.map some ++ List.replicate (nN - np) none)
theorem spT_len {np nN : Nat} {d : DS} : ∀ vs H Q E, spT x (specOf np nN d) vs H Q E → vs.length = np := by
  rintro vs H Q E ⟨f, rs, k, _, _, _, _, _, h, _, _, ⟨h2, _⟩, _⟩
  exact h.length.trans h2
theorem outs_ok {f : Fm} {L : List Addr} {H' : Hp} : ∀ (rs : List Rv) (e : Ev) (outs : List (List PyData)), outsOf rs e = some outs → (∀ (i : Nat) (r : Rv), e[i]? = some (some r) → ∃ v, Rq f L H' v r) → OutsOk f L H' rs outs
  | [], _, _, h, _ => by
    cases h
    rfl
  | .own _ a _ :: rs, [], _, h, _ => by cases h
  | .own _ a _ :: rs, o :: e, outs, h, g => by
    simp only [outsOf] at h
    split at h
    · rename_i k b ds
      split at h
      · rename_i ab
        subst ab
        obtain ⟨os, h1, rfl⟩ := Option.map_eq_some_iff.mp h
        obtain ⟨v, q⟩ := g 0 _ rfl
        cases q with
        | own x1 x2 x3 x4 => exact ⟨ds, os, rfl, ⟨_, x3, x4⟩, outs_ok rs e os h1 fun i r hr => g (i + 1) r hr⟩
      · cases h
    · cases h
  | .dat _ :: rs, [], _, h, _ => by cases h
  | .dat _ :: rs, o :: e, outs, h, g => outs_ok rs e outs h fun i r hr => g (i + 1) r hr
  | .rg _ _ :: rs, [], _, h, _ => by cases h
  | .rg _ _ :: rs, o :: e, outs, h, g => outs_ok rs e outs h fun i r hr => g (i + 1) r hr
  | .fn _ _ _ _ :: rs, [], _, h, _ => by cases h
  | .fn _ _ _ _ :: rs, o :: e, outs, h, g => outs_ok rs e outs h fun i r hr => g (i + 1) r hr
  | .bor _ _ :: rs, [], _, h, _ => by cases h
  | .bor _ _ :: rs, o :: e, outs, h, _ => by cases h
  | .tup _ :: rs, [], _, h, _ => by cases h
  | .nst _ _ :: rs, [], _, h, _ => by cases h
  | .tup _ :: rs, o :: e, outs, h, _ => by cases h
  | .nst _ _ :: rs, o :: e, outs, h, _ => by cases h
  | .st _ _ _ _ _ :: rs, [], _, h, _ => by cases h
  | .st _ R a as _ :: rs, o :: e, outs, h, g => by
    simp only [outsOf] at h
    split at h
    · rename_i k R2 b bs ds
      split at h
      · rename_i ab
        obtain ⟨rfl, rfl, rfl⟩ := ab
        obtain ⟨os, h1, rfl⟩ := Option.map_eq_some_iff.mp h
        obtain ⟨v, q⟩ := g 0 _ rfl
        cases q with
        | st x1 x2 x3 => exact ⟨ds, os, rfl, x3, outs_ok rs e os h1 fun i r hr => g (i + 1) r hr⟩
      · cases h
    · cases h
theorem cE_app (a : Addr) : ∀ (e e' : Ev), cE a (e ++ e') = cE a e + cE a e'
  | [], e' => by simp [cE]
  | o :: e, e' => by
    show cO a o + cE a (e ++ e') = cO a o + cE a e + cE a e'
    rw [cE_app a e e']
    omega
theorem cE_rep (a : Addr) : ∀ n : Nat, cE a (List.replicate n none) = 0
  | 0 => rfl
  | n + 1 => by
    rw [List.replicate_succ]
    show cO a none + _ = 0
    rw [cE_rep a n]
    rfl
theorem cE_map (a : Addr) : ∀ rs : List Rv, cE a (rs.map some) = Rv.cntL a rs
  | [] => rfl
  | r :: rs => by
    show r.cnt a + cE a (rs.map some) = r.cnt a + Rv.cntL a rs
    rw [cE_map a rs]
theorem Rqs.get {f : Fm} {L : List Addr} {H : Hp} : ∀ {vs : List V} {rs : List Rv} {i : Nat} {r : Rv}, Rqs f L H vs rs → rs[i]? = some r → ∃ v, vs[i]? = some v ∧ Rq f L H v r
  | _, _, 0, _, .cons q _, e => by cases e; exact ⟨_, rfl, q⟩
  | _, _, i + 1, _, .cons _ q, e => by
    obtain ⟨v, h1, h2⟩ := Rqs.get (i := i) q (by simpa using e)
    exact ⟨v, by simpa using h1, h2⟩
/-- a def's body keeps what is told of it at tree level -/
theorem def_run {N : List Str} {np : Nat} {ts : TS} {ds : DS} (h : LS x ts ds) {vs : List V} {H : Hp} {Q : VK} {E : XK} (hs : spT x (specOf np N.length ds) vs H Q E) : ts { nx := fun _ H' => Q .non H', rt := Q } (L2.start N vs) H := by
  obtain ⟨f, rs, k, hf, h0, gd, hM, hB, hq, hnd, _, ⟨hl, hd⟩, fin⟩ := hs
  subst hf
  subst h0
  have lv := hq.length
  have S : Stn f [] [] (L2.start N vs) f.H0 (rs.map some ++ List.replicate (N.length - np) none) := by
    refine ⟨gd, Sn.refl, (fun _ z => nomatch z), hM, hB, (fun _ z => nomatch z), fun a => ?_, ?_, fun i r hr => ?_, fun _ z => nomatch z⟩
    · rw [cE_app, cE_rep, cE_map]
      have := hnd a
      simp only [cP]
      omega
    · unfold L2.start
      simp only [List.length_append, List.length_map, List.length_replicate]
      omega
    · have hi : i < rs.length := by
        refine Classical.byContradiction fun z => ?_
        rw [List.getElem?_append_right (by rw [List.length_map]; omega)] at hr
        have := List.mem_of_getElem? hr
        have := List.eq_of_mem_replicate this
        cases this
      rw [List.getElem?_append_left (by rw [List.length_map]; exact hi), List.getElem?_map] at hr
      obtain ⟨r', h1, h2⟩ := Option.map_eq_some_iff.mp hr
      cases h2
      obtain ⟨v, g1, g2⟩ := hq.get h1
      refine ⟨v, ?_, g2⟩
      unfold L2.start
      rw [List.getElem?_append_left (by rw [List.length_map]; omega), List.getElem?_map, g1]
      rfl
  have done : ∀ {v r L' σ' H' e'}, Stn f L' ([] ++ [(v, r)]) σ' H' e' → r.mov = true → outK rs k r e' → Q v H' := fun {v r L' σ' H' e'} S' m hk => by
    unfold outK at hk
    obtain ⟨outs, ho, hk⟩ := outsK_some hk
    · refine fin v r outs L' H' ⟨S'.sm, S'.fr, S'.al, S'.last, m, fun a => ?_, outs_ok rs e' outs ho fun i q hq => ?_⟩ hk
      · have := S'.nd a
        rw [cP_app, cP_one] at this
        omega
      · obtain ⟨v, _, h⟩ := S'.sl i q hq
        exact ⟨v, h⟩
  exact h (D := { nx := fun _ H' => Q .non H', rt := Q }) rfl S hd (fun L' σ' H' e' S' k' => done (v := .non) (S'.pushD .non) rfl k') (fun v r L' σ' H' e' S' m k' => done S' m k') (fun L' σ' H' e' S' k' => k'.elim) (fun L' σ' H' e' S' k' => k'.elim)
end
end My

/-! builtins at tree level -/
namespace My
open PySem PySem.Spec PyProof.Rows L2
open LamX (CodeO TabS ExtN)
theorem par1 {α β : Type} {R : α → β → Prop} {xs : List α} {d : β} (h : Paired R xs [d]) : ∃ v, xs = [v] ∧ R v d := by
  cases h with
  | cons a r => cases r; exact ⟨_, rfl, a⟩
theorem par2 {α β : Type} {R : α → β → Prop} {xs : List α} {d e : β} (h : Paired R xs [d, e]) : ∃ v w, xs = [v, w] ∧ R v d ∧ R w e := by
  cases h with
  | cons a r =>
    obtain ⟨w, rfl, b⟩ := par1 r
    exact ⟨_, _, rfl, a, b⟩
section
variable {x : Fx} {K : PySem.W.Frag} {M : List Addr} {H : Hp}
def lenW : WN := fun ds k => match ds with
  | [d] => match seqOf d with
    | some es => k (.dt (.int (es.length : Int)))
    | none => False
  | _ => False
theorem on_len : ON x (rLenK x.K) lenW := fun {M H us ds Q k} hM cs w q => by
  unfold lenW at w
  split at w
  · obtain ⟨v, rfl, c⟩ := par1 cs
    split at w
    · rename_i es hs
      obtain ⟨a, xs, rfl, h1, h2⟩ := c.seq hs
      refine ⟨a, xs, rfl, h1, ?_⟩
      rw [h2.length]
      exact q _ H _ (out_d (.int _)) w
    · exact w.elim
  · exact w.elim
def absW : WN := fun ds k => match ds with
  | [.int i] => k (.dt (.int (if i < 0 then -i else i)))
  | _ => False
theorem on_abs : ON x (fun xs H Q => ∃ i, xs = [V.int i] ∧ Q (V.int (if i < 0 then -i else i)) H) absW := fun {M H us ds Q k} hM cs w q => by
  unfold absW at w
  split at w
  · obtain ⟨v, rfl, c⟩ := par1 cs
    cases c.int
    exact ⟨_, rfl, q _ H _ (out_d (.int _)) w⟩
  · exact w.elim
def intW : WN := fun ds k => match ds with
  | [.int i] => k (.dt (.int i))
  | [.bool b] => k (.dt (.int (if b then 1 else 0)))
  | _ => False
theorem on_int : ON x (fun xs H Q => (∃ i, xs = [V.int i] ∧ Q (V.int i) H) ∨ ∃ k, xs = [V.bl k] ∧ Q (V.int (if k then 1 else 0)) H) intW := fun {M H us ds Q k} hM cs w q => by
  unfold intW at w
  split at w
  · obtain ⟨v, rfl, c⟩ := par1 cs
    cases c.int
    exact Or.inl ⟨_, rfl, q _ H _ (out_d (.int _)) w⟩
  · obtain ⟨v, rfl, c⟩ := par1 cs
    cases c.bool
    exact Or.inr ⟨_, rfl, q _ H _ (out_d (.int _)) w⟩
  · exact w.elim
def reprW : WN := fun ds k => match ds with
  | [d] => ∃ d', um d = d' ∧ Shows d' ∧ k (.dt (.str d'.shown))
  | _ => False
theorem on_repr : ON x (rReprD x.K) reprW := fun {M H us ds Q k} hM cs w q => by
  unfold reprW at w
  split at w
  · obtain ⟨v, rfl, c⟩ := par1 cs
    obtain ⟨d', rfl, s, w⟩ := w
    exact ⟨v, _, rfl, c.dp s.n, s, q _ H _ (out_d (.str _)) w⟩
  · exact w.elim
def listW : WN := fun ds k => match ds with
  | [d] => match seqOf d with
    | some es => k (.nl es)
    | none => False
  | _ => False
theorem on_list : ON x (rListK x.K) listW := fun {M H us ds Q k} hM cs w q => by
  unfold listW at w
  split at w
  · obtain ⟨v, rfl, c⟩ := par1 cs
    split at w
    · rename_i es hs
      obtain ⟨a, xs, rfl, h1, h2⟩ := c.seq hs
      exact ⟨a, xs, rfl, h1, fun p hp => q _ _ _ (out_lst hp h2) w⟩
    · exact w.elim
  · exact w.elim
def tupleW : WN := fun ds k => match ds with
  | [.list es] => k (.dt (.tuple es))
  | [.tuple es] => k (.dt (.tuple es))
  | [.dict [(.none, .tuple es)]] => k (.dt (bw es))
  | _ => False
theorem on_tuple : ON x (rTupleK x.K) tupleW := fun {M H us ds Q k} hM cs w q => by
  unfold tupleW at w
  split at w
  · obtain ⟨v, rfl, c⟩ := par1 cs
    obtain ⟨a, xs, rfl, h1, h2⟩ := c.lst
    exact ⟨a, xs, rfl, Or.inl ⟨SqL.of h1, fun p hp => q _ _ _ (out_tup hM hp h2) w⟩⟩
  · obtain ⟨v, rfl, c⟩ := par1 cs
    obtain ⟨a, xs, rfl, h1, h2⟩ := id c.tup
    exact ⟨a, xs, rfl, Or.inr ⟨h1, q _ H _ (out_d (c.dk nofun)) w⟩⟩
  · obtain ⟨v, rfl, c⟩ := par1 cs
    obtain ⟨a, xs, rfl, h1, h2⟩ := id c.bar
    exact ⟨a, xs, rfl, Or.inr ⟨h1.sq, q _ H _ (out_d (c.dk nofun)) w⟩⟩
  · exact w.elim
def strW : WN := fun ds k => match ds with
  | [.int i] => i.natAbs.log2 < 1920 ∧ k (.dt (.str (toString i)))
  | [.tuple es] => ∃ d', um (.tuple es) = d' ∧ Shows d' ∧ k (.dt (.str d'.shown))
  | [.list es] => ∃ d', um (.list es) = d' ∧ Shows d' ∧ k (.dt (.str d'.shown))
  | _ => False
theorem on_str : ON x (rStrD x.K) strW := fun {M H us ds Q k} hM cs w q => by
  unfold strW at w
  split at w
  · obtain ⟨v, rfl, c⟩ := par1 cs
    cases c.int
    exact Or.inl ⟨_, rfl, w.1, q _ H _ (out_d (.str _)) w.2⟩
  · obtain ⟨v, rfl, c⟩ := par1 cs
    obtain ⟨d', rfl, s, w⟩ := w
    obtain ⟨a, xs, rfl, _⟩ := id c.tup
    exact Or.inr ⟨a, _, rfl, c.dp s.n, s, q _ H _ (out_d (.str _)) w⟩
  · obtain ⟨v, rfl, c⟩ := par1 cs
    obtain ⟨d', rfl, s, w⟩ := w
    obtain ⟨a, xs, rfl, _⟩ := id c.lst
    exact Or.inr ⟨a, _, rfl, c.dp s.n, s, q _ H _ (out_d (.str _)) w⟩
  · exact w.elim
theorem ints_dk : ∀ {xs : List V} {ns : List Int}, Dks K M H xs (ns.map PyData.int) → xs = ns.map V.int
  | _, [], .nil => rfl
  | _, n :: ns, .cons a r => by
    cases a.int_inv
    rw [ints_dk r]
    rfl
theorem bls_dk : ∀ {xs : List V} {ns : List Bool}, Dks K M H xs (ns.map PyData.bool) → xs = ns.map V.bl
  | _, [], .nil => rfl
  | _, n :: ns, .cons a r => by
    cases a.bool_inv
    rw [bls_dk r]
    rfl
def sortT : WN := fun ds k => match ds with
  | [.tuple es] => ∃ ns : List Int, es = ns.map .int ∧ ∀ ns' : List Int, ns'.Perm ns → ns'.Pairwise (· ≤ ·) → k (.nl (ns'.map .int))
  | _ => False
theorem on_sortT : ON x (rSrtT x.K) sortT := fun {M H us ds Q k} hM cs w q => by
  unfold sortT at w
  split at w
  · obtain ⟨v, rfl, c⟩ := par1 cs
    obtain ⟨ns, rfl, w⟩ := w
    obtain ⟨a, xs, rfl, h1, h2⟩ := id c.tup
    rw [ints_dk h2] at h1
    exact ⟨a, ns, rfl, h1, fun ns' p h3 h4 hp => q _ _ _ (out_lst hp (Dks.ints ns')) (w ns' h3 h4)⟩
  · exact w.elim
def max2W : WN := fun ds k => match ds with
  | [.int i, .int j] => k (.dt (.int (if j > i then j else i)))
  | _ => False
theorem on_max2 : ON x (fun xs H Q => ∃ i j, xs = [V.int i, V.int j] ∧ Q (V.int (if j > i then j else i)) H) max2W := fun {M H us ds Q k} hM cs w q => by
  unfold max2W at w
  split at w
  · obtain ⟨v, u, rfl, c, c2⟩ := par2 cs
    cases c.int
    cases c2.int
    exact ⟨_, _, rfl, q _ H _ (out_d (.int _)) w⟩
  · exact w.elim
def min2W : WN := fun ds k => match ds with
  | [.int i, .int j] => k (.dt (.int (if j < i then j else i)))
  | _ => False
theorem on_min2 : ON x (fun xs H Q => ∃ i j, xs = [V.int i, V.int j] ∧ Q (V.int (if j < i then j else i)) H) min2W := fun {M H us ds Q k} hM cs w q => by
  unfold min2W at w
  split at w
  · obtain ⟨v, u, rfl, c, c2⟩ := par2 cs
    cases c.int
    cases c2.int
    exact ⟨_, _, rfl, q _ H _ (out_d (.int _)) w⟩
  · exact w.elim
def maxW : WN := fun ds k => match ds with
  | [.list es] => ∃ ns : List Int, es = ns.map .int ∧ 0 < ns.length ∧ ∀ m, m ∈ ns → (∀ y, y ∈ ns → y ≤ m) → k (.dt (.int m))
  | _ => False
theorem on_max : ON x (rMax x.K) maxW := fun {M H us ds Q k} hM cs w q => by
  unfold maxW at w
  split at w
  · obtain ⟨v, rfl, c⟩ := par1 cs
    obtain ⟨ns, rfl, hl, w⟩ := w
    obtain ⟨a, xs, rfl, h1, h2⟩ := id c.lst
    rw [ints_dk h2] at h1
    exact ⟨a, ns, rfl, SqL.of h1, hl, fun m h3 h4 => q _ H _ (out_d (.int _)) (w m h3 h4)⟩
  · exact w.elim
def minW : WN := fun ds k => match ds with
  | [.list es] => ∃ ns : List Int, es = ns.map .int ∧ 0 < ns.length ∧ ∀ m, m ∈ ns → (∀ y, y ∈ ns → m ≤ y) → k (.dt (.int m))
  | _ => False
theorem on_min : ON x (rMin x.K) minW := fun {M H us ds Q k} hM cs w q => by
  unfold minW at w
  split at w
  · obtain ⟨v, rfl, c⟩ := par1 cs
    obtain ⟨ns, rfl, hl, w⟩ := w
    obtain ⟨a, xs, rfl, h1, h2⟩ := id c.lst
    rw [ints_dk h2] at h1
    exact ⟨a, ns, rfl, SqL.of h1, hl, fun m h3 h4 => q _ H _ (out_d (.int _)) (w m h3 h4)⟩
  · exact w.elim
def sumW : WN := fun ds k => match ds with
  | [.list es] => ∃ ns : List Int, es = ns.map .int ∧ k (.dt (.int ns.sum))
  | _ => False
theorem on_sum : ON x (rSum x.K) sumW := fun {M H us ds Q k} hM cs w q => by
  unfold sumW at w
  split at w
  · obtain ⟨v, rfl, c⟩ := par1 cs
    obtain ⟨ns, rfl, w⟩ := w
    obtain ⟨a, xs, rfl, h1, h2⟩ := id c.lst
    rw [ints_dk h2] at h1
    exact ⟨a, ns, rfl, SqL.of h1, q _ H _ (out_d (.int _)) w⟩
  · exact w.elim
def sumTW : WN := fun ds k => match ds with
  | [.tuple es] => ∃ ns : List Int, es = ns.map .int ∧ k (.dt (.int ns.sum))
  | _ => False
theorem on_sumT : ON x (rSumT x.K) sumTW := fun {M H us ds Q k} hM cs w q => by
  unfold sumTW at w
  split at w
  · obtain ⟨v, rfl, c⟩ := par1 cs
    obtain ⟨ns, rfl, w⟩ := w
    obtain ⟨a, xs, rfl, h1, h2⟩ := id c.tup
    rw [ints_dk h2] at h1
    exact ⟨a, ns, rfl, h1, q _ H _ (out_d (.int _)) w⟩
  · exact w.elim
def allW : WN := fun ds k => match ds with
  | [.list es] => ∃ bs : List Bool, es = bs.map .bool ∧ k (.dt (.bool (bs.all id)))
  | _ => False
theorem on_all : ON x (rAll x.K) allW := fun {M H us ds Q k} hM cs w q => by
  unfold allW at w
  split at w
  · obtain ⟨v, rfl, c⟩ := par1 cs
    obtain ⟨ns, rfl, w⟩ := w
    obtain ⟨a, xs, rfl, h1, h2⟩ := id c.lst
    rw [bls_dk h2] at h1
    exact ⟨a, ns, rfl, SqL.of h1, q _ H _ (out_d (.bl _)) w⟩
  · exact w.elim
def anyW : WN := fun ds k => match ds with
  | [.list es] => ∃ bs : List Bool, es = bs.map .bool ∧ k (.dt (.bool (bs.any id)))
  | _ => False
theorem on_any : ON x (rAny x.K) anyW := fun {M H us ds Q k} hM cs w q => by
  unfold anyW at w
  split at w
  · obtain ⟨v, rfl, c⟩ := par1 cs
    obtain ⟨ns, rfl, w⟩ := w
    obtain ⟨a, xs, rfl, h1, h2⟩ := id c.lst
    rw [bls_dk h2] at h1
    exact ⟨a, ns, rfl, SqL.of h1, q _ H _ (out_d (.bl _)) w⟩
  · exact w.elim
def divmodW : WN := fun ds k => match ds with
  | [.int i, .int j] => CDiv i j ∧ k (.dt (.tuple [.int (i / j), .int (i % j)]))
  | _ => False
theorem on_divmod : ON x (fun xs H Q => ∃ i j, xs = [V.int i, V.int j] ∧ CDiv i j ∧ ∀ p, H p = none → Q (V.ref p) (upd H p (.tup [.int (i / j), .int (i % j)]))) divmodW := fun {M H us ds Q k} hM cs w q => by
  unfold divmodW at w
  split at w
  · obtain ⟨v, u, rfl, c, c2⟩ := par2 cs
    cases c.int
    cases c2.int
    exact ⟨_, _, rfl, w.1, fun p hp => q _ _ _ (out_tup hM hp (.cons (.int _) (.cons (.int _) .nil))) w.2⟩
  · exact w.elim
/-! ### types -/
def tyD : PyData → String
  | .dict [(.none, .tuple _)] => "tuple"
  | .dict [(.bool true, .list _)] => "list"
  | d => tyName d
theorem Ck.ty {v : V} {d : PyData} (h : Ck K M H v d) : TyB K H v (tyD d) := by
  rcases h with ⟨a, xs, ds, rfl, rfl, h, _⟩ | h
  · exact .lst (SqL.of h)
  · cases h with
    | non => exact .non
    | bl b => exact .bl b
    | int i => exact .int i
    | str z => exact .str z
    | lst _ e _ => exact .lst (SqL.of e)
    | tup _ e _ => exact .tup (SqT.of e)
    | bar _ e _ => exact .tup e.sq
    | ktup e _ => exact .tup (e H)
    | dct _ e => exact .dK e
    | scr _ e _ => exact .lst (Or.inl e)
    | scrK e _ => exact .lst (e H)
/-- type(e) is T -/
def dTyIs (de : DE) (T : String) : DE := fun e Q => de e fun r e1 => rdK e1 r fun d => Q (.dat (.bool (decide (tyD d = T)))) e1
theorem le_tyIs {te : TE} {de : DE} {T : String} (h : LE x te de) : LE x (tOp rIsG (tCB (rTyp x.K) (tCons te tNil)) (tC (.ty T))) (dTyIs de T) := fun {f L P σ H e Q Qd} hf S hd q =>
  h hf S hd fun v r L1 H1 e1 S1 k1 => by
    subst hf
    obtain ⟨d, hr, k1⟩ := rdK_some k1
    have ck := S1.read (v := v) (r := r) (by simp) hr
    exact ⟨v, _, rfl, ck.ty, Or.inr (Or.inl ⟨_, _, rfl, rfl, q _ _ _ _ _ (S1.pop.pushD (.bl _)) k1⟩)⟩
/-- isinstance(e, T) -/
def dIsi (de : DE) (T : String) : DE := fun e Q => de e fun r e1 => rdK e1 r fun d => (∀ ds, d ≠ scr ds) ∧ ∃ b, kitB (tyD d) T = some b ∧ Q (.dat (.bool b)) e1
theorem le_isi {te : TE} {de : DE} {T : String} (h : LE x te de) : LE x (tCB (rIsi x.K) (tCons te (tCons (tC (.ty T)) tNil))) (dIsi de T) := fun {f L P σ H e Q Qd} hf S hd q =>
  h hf S hd fun v r L1 H1 e1 S1 k1 => by
    subst hf
    obtain ⟨d, hr, k1⟩ := rdK_some k1
    · obtain ⟨ns, b, hb, k1⟩ := k1
      have ck := S1.read (v := v) (r := r) (by simp) hr
      have ty : TyX f.K H1 v (.type (tyD d)) := by
        rcases ck with ⟨a, xs, ds, rfl, rfl, h, _⟩ | h
        · exact .base (.lst h)
        · cases h with
          | non => exact .base .non
          | bl b => exact .base (.bl b)
          | int i => exact .base (.int i)
          | str z => exact .base (.str z)
          | lst _ e _ => exact .base (.lst e)
          | tup _ e _ => exact .base (.tup e)
          | bar _ e _ => exact .fTuple e.choose_spec.1
          | ktup e _ =>
            have := e fun _ => none
            rcases this with z | ⟨o, its, n, z1, z2, _⟩
            · rcases z with z | ⟨_, z⟩ <;> cases z
            · exact .kTuple z1 z2
          | dct _ e => exact .base (.dK e)
          | scr _ _ _ => exact (ns _ rfl).elim
          | scrK _ _ => exact (ns _ rfl).elim
      exact ⟨v, .ty T, _, _, b, rfl, .ty T, ty, kit_ty hb, q _ _ _ _ _ (S1.pop.pushD (.bl b)) k1⟩
/-! ### ranges made into lists and tuples -/
abbrev DRg := Ev → (Int → Int → Ev → Prop) → Prop
def LRg (x : Fx) (tr : L2.St → Hp → (Int → Int → Hp → Prop) → Prop) (dr : DRg) : Prop := ∀ {f : Fm} {L : List Addr} {P : List (V × Rv)} {σ : L2.St} {H : Hp} {e : Ev} {Q : Int → Int → Hp → Prop} {Qd : Int → Int → Ev → Prop}, f.toFx = x → Stn f L P σ H e → dr e Qd →
  (∀ a b L' H' e', Stn f L' P σ H' e' → Qd a b e' → Q a b H') → tr σ H Q
def dRg1 (da : DE) : DRg := fun e Q => da e fun r e1 => match r with
  | .dat (.int n) => Q 0 n e1
  | _ => False
theorem lr_1 {te : TE} {de : DE} (h : LE x te de) : LRg x (tRg1 te) (dRg1 de) := fun {f L P σ H e Q Qd} hf S hd q =>
  h hf S hd fun v r L1 H1 e1 S1 k1 => by
    split at k1
    · have z := S1.last
      cases z with
      | dat z =>
        cases z.int_inv
        exact ⟨_, rfl, q _ _ _ _ _ S1.pop k1⟩
    · exact k1.elim
def dRg2 (da db : DE) : DRg := fun e Q => da e fun r e1 => db e1 fun s e2 => match r, s with
  | .dat (.int a), .dat (.int b) => Q a b e2
  | _, _ => False
theorem lr_2 {ta tb : TE} {da db : DE} (ha : LE x ta da) (hb : LE x tb db) : LRg x (tRg2 ta tb) (dRg2 da db) := fun {f L P σ H e Q Qd} hf S hd q =>
  ha hf S hd fun v r L1 H1 e1 S1 k1 => hb hf S1 k1 fun w s L2 H2 e2 S2 k2 => by
    split at k2
    · have z := S2.last
      have z2 := S2.pop.last
      cases z with
      | dat z =>
        cases z.int_inv
        cases z2 with
        | dat z2 =>
          cases z2.int_inv
          exact ⟨_, _, rfl, rfl, q _ _ _ _ _ S2.pop.pop k2⟩
    · exact k2.elim
def rgD (a b : Int) : List PyData := (List.range (b - a).toNat).map fun i => .int (a + (i : Nat))
theorem rg_dk (a b : Int) : Dks K M H (rgV a b) (rgD a b) := by
  unfold rgV rgD
  have : ∀ l : List Nat, Dks K M H (l.map fun i => V.int (a + (i : Nat))) (l.map fun i => PyData.int (a + (i : Nat))) := fun l => by
    induction l with
    | nil => exact .nil
    | cons n l ih => exact .cons (.int _) ih
  exact this _
def dLstRg (dr : DRg) : DE := fun e Q => dr e fun a b e1 => RgOk a b ∧ ∀ p, Q (.own true p (rgD a b)) e1
theorem le_lstRg {tr : L2.St → Hp → (Int → Int → Hp → Prop) → Prop} {dr : DRg} (h : LRg x tr dr) : LE x (tLstRg tr) (dLstRg dr) := fun {f L P σ H e Q Qd} hf S hd q =>
  h hf S hd fun a b L1 H1 e1 S1 k1 => ⟨k1.1, fun p hp => q _ _ _ _ _ (S1.fresh hp (rg_dk a b)) (k1.2 p)⟩
def dTupRg (dr : DRg) : DE := fun e Q => dr e fun a b e1 => RgOk a b ∧ Q (.dat (.tuple (rgD a b))) e1
theorem le_tupRg {tr : L2.St → Hp → (Int → Int → Hp → Prop) → Prop} {dr : DRg} (h : LRg x tr dr) : LE x (tTupRg tr) (dTupRg dr) := fun {f L P σ H e Q Qd} hf S hd q =>
  h hf S hd fun a b L1 H1 e1 S1 k1 => ⟨k1.1, fun p hp => by
    obtain ⟨o1, o2⟩ := out_tup (c := f.c) S1.all hp (rg_dk (K := f.K) a b)
    exact q _ _ _ _ _ (S1.newD o1 o2) k1.2⟩
/-! ### bare tuples -/
theorem le_tupF {ta : TA} {da : DA} (h : LA x ta da) : LE x (tTupF ta) (dTupF da) := fun {f L P σ H e Q Qd} hf S hd q =>
  h hf S hd fun ps L1 H1 e1 S1 ⟨hz, k1⟩ => ⟨sz_of (by simpa using hz), fun p o hp h1 h2 => by
    have xs := S1.rqs ps fun p hp => List.mem_append_right _ hp
    split at k1
    · rename_i ds hds
      obtain ⟨o1, o2⟩ := out_bar (c := f.c) S1.all hp h1 h2 (datL_rq xs hds)
      exact q _ _ _ _ _ (S1.pop.newD o1 o2) k1
    · exact k1.elim⟩
/-- t.count(x), t a bare tuple of numbers -/
def dCnt (de : DE) (da : DA) : DE := fun e Q => de e fun r e1 => match r with
  | .dat (.dict [(.none, .tuple es)]) => da e1 fun rs e2 => match rs with
    | [.dat (.int i)] => ∃ ns : List Int, es = ns.map .int ∧ Q (.dat (.int (ns.count i : Nat))) e2
    | _ => False
  | _ => False
theorem le_cnt {te : TE} {ta : TA} {de : DE} {da : DA} (h : LE x te de) (h2 : LA x ta da) : LE x (tCnt x.K te ta) (dCnt de da) := fun {f L P σ H e Q Qd} hf S hd q =>
  h hf S hd fun v r L1 H1 e1 S1 k1 => by
    subst hf
    split at k1
    · rename_i es
      obtain ⟨a, xs, rfl, h3, h4⟩ := (S1.read (v := v) (r := .dat (bw es)) (by simp) rfl).bar
      refine ⟨⟨a, xs, rfl, h3⟩, h2 rfl S1 k1 fun ps L2 H2 e2 S2 k2 => ?_⟩
      split at k2
      · rename_i i hps
        match ps, hps with
        | [(w, .dat (.int _))], rfl =>
          obtain ⟨ns, hes, k2⟩ := k2
          subst hes
          obtain ⟨a', xs', e1, h5, h6⟩ := (S2.read (v := .ref a) (r := .dat (bw (ns.map .int))) (by simp) rfl).bar
          cases e1
          have z := S2.last
          cases z with
          | dat z =>
            cases z.int_inv
            rw [ints_dk h6] at h5
            exact ⟨a, ns, i, rfl, rfl, h5.sq, q _ _ _ _ _ (S2.pop.pop.pushD (.int _)) k2⟩
      · exact k2.elim
    · exact k1.elim
/-! ### calls by names -/
def permK (gV : List V → List V) (gR : List Rv → List Rv) : Prop := ∀ ps : List (V × Rv), ∃ qs : List (V × Rv), (∀ p ∈ qs, p ∈ ps) ∧ (∀ a, cP a qs ≤ cP a ps) ∧ qs.map Prod.fst = gV (ps.map Prod.fst) ∧ qs.map Prod.snd = gR (ps.map Prod.snd)
def dCallKw (n : Nat) (S : TSpec) (gR : List Rv → List Rv) (da : DA) : DE := fun e Q => da e fun rs e1 => rs.length = n ∧ ndB (bors (gR rs)) = true ∧ passK e1 (gR rs) fun as => S as fun r outs => Q r (putA (gR rs) outs e1)
theorem Stn.repend {f : Fm} {L : List Addr} {P ps qs : List (V × Rv)} {σ : L2.St} {H : Hp} {e : Ev} (S : Stn f L (P ++ ps) σ H e) (h1 : ∀ p ∈ qs, p ∈ ps) (h2 : ∀ a, cP a qs ≤ cP a ps) : Stn f L (P ++ qs) σ H e :=
  ⟨S.gd, S.sm, S.fr, S.al0, S.bm, S.al, fun a => by have := S.nd a; rw [cP_app] at this ⊢; have := h2 a; omega, S.ln, S.sl, fun p hp => S.pd p (by
    rcases List.mem_append.mp hp with z | z
    · exact List.mem_append_left _ z
    · exact List.mem_append_right _ (h1 p z))⟩
theorem le_callKw {ks : List Str} {S : TSpec} {gV : List V → List V} {gR : List Rv → List Rv} {E : XK} {tk : TA} {da : DA} (h : LA x tk da) (pm : ∀ ps : List (V × Rv), ps.length = ks.length → ∃ qs : List (V × Rv), (∀ p ∈ qs, p ∈ ps) ∧ (∀ a, cP a qs ≤ cP a ps) ∧ qs.map Prod.fst = gV (ps.map Prod.fst) ∧ qs.map Prod.snd = gR (ps.map Prod.snd)) :
    LE x (tCallKw ks (spT x S) gV E tk) (dCallKw ks.length S gR da) := fun {f L P σ H e Q Qd} hf S0 hd q =>
  h hf S0 hd fun ps L1 H1 e1 S1 ⟨hl, n, k1⟩ => by
    subst hf
    have n := ndB_nd n
    obtain ⟨as, hp, k1⟩ := passK_some k1
    · rw [List.length_map] at hl
      obtain ⟨qs, p1, p2, p3, p4⟩ := pm ps hl
      have S1 := S1.repend p1 p2
      rw [← p4] at n hp k1
      obtain ⟨i1, i2, i3⟩ := S1.pass (B := ownL as) (H0 := H1) qs as (fun p hp => List.mem_append_right _ hp) hp fun a h => h
      refine ⟨by rw [List.length_map]; exact hl, (Fm.mk f.toFx (ownL as) (L1 ++ f.M) H1), as, _, rfl, rfl, S1.gd, S1.all, fun b hb => ?_, by rw [← p3]; exact i1, fun a => ?_, i2, k1, fun v r outs L' H' F hk => q v r _ H' _ (S1.called n hp F) hk⟩
      · exact (i3 b hb).elim (fun z => List.mem_append_left _ z) fun z => List.mem_append_right _ (S1.bm b z)
      · have c1 := passA_cnt a n hp
        have c2 := S1.nd a
        rw [cP_app] at c2
        rw [cntL_map] at c1
        omega
/-! ### what is in a slot is called; a def handed on -/
def dCal (J i ar : Nat) (da : DA) : DE := fun e Q => match e[i]? with
  | some (some (.fn j g n S)) => j ≤ J ∧ n = ar ∧ da e fun rs e1 => match rds e1 rs with
    | some ds => rs.length = ar ∧ S ds fun d => Q (.dat d) e1
    | none => False
  | _ => False
theorem le_fn {g : Addr} {j ar : Nat} {S : FSpec} {v : V} (hv : v = .ref g) (h : Cal x.P x.w x.K x.mg x.base j g (fun _ => none) ar (spP x.K x.c S)) : LE x (tC v) (fun e Q => Q (.fn j g ar S) e) := fun {f L P σ H e Q Qd} hf S0 hd q => by
  subst hf
  subst hv
  exact q _ _ _ _ _ (S0.push (.fn _ h fun b o e => nomatch e) fun a => by have := S0.nd a; simp only [Rv.cnt]; omega) hd
end
end My

/-! functions handed on, lambdas, cuts, xs[i] += e at tree level -/
namespace My
open PySem PySem.Spec PyProof.Rows L2
open LamX (CodeO TabS ExtN codeO_ne)
def LEp (x : Fx) (te : TE) (de : DE) : Prop := ∀ {f : Fm} {L : List Addr} {P : List (V × Rv)} {σ : L2.St} {H : Hp} {e : Ev} {Q : VK} {Qd : Rv → Ev → Prop}, f.toFx = x → Stn f L P σ H e → de e Qd →
  (∀ v r, Stn f L (P ++ [(v, r)]) σ H e → Qd r e → Q v H) → te σ H Q
def LAp (x : Fx) (ta : TA) (da : DA) : Prop := ∀ {f : Fm} {L : List Addr} {P : List (V × Rv)} {σ : L2.St} {H : Hp} {e : Ev} {Q : List V → Hp → Prop} {Qd : List Rv → Ev → Prop}, f.toFx = x → Stn f L P σ H e → da e Qd →
  (∀ ps, Stn f L (P ++ ps) σ H e → Qd (ps.map Prod.snd) e → Q (ps.map Prod.fst) H) → ta σ H Q
section
variable {x : Fx}
theorem lep_var {i : Nat} : LEp x (tVar i) (dVar i) := fun {f L P σ H e Q Qd} hf S h q => by
  unfold dVar at h
  split at h
  · rename_i k a ds he
    obtain ⟨v, h1, h2⟩ := S.sl _ _ he
    cases h2
    exact ⟨_, h1, q _ _ (S.push .bor fun b => by have := S.nd b; simp only [Rv.cnt]; omega) h⟩
  · rename_i k R a as ds he
    obtain ⟨v, h1, h2⟩ := S.sl _ _ he
    cases h2
    exact ⟨_, h1, q _ _ (S.push .bor fun b => by have := S.nd b; simp only [Rv.cnt]; omega) h⟩
  · rename_i d he
    obtain ⟨v, h1, h2⟩ := S.sl _ _ he
    exact ⟨_, h1, q _ _ (S.push h2 fun b => by have := S.nd b; simp only [Rv.cnt]; omega) h⟩
  · rename_i j g ar S' he
    obtain ⟨v, h1, h2⟩ := S.sl _ _ he
    exact ⟨_, h1, q _ _ (S.push h2 fun b => by have := S.nd b; simp only [Rv.cnt]; omega) h⟩
  · rename_i lo hi he
    obtain ⟨v, h1, h2⟩ := S.sl _ _ he
    exact ⟨_, h1, q _ _ (S.push h2 fun b => by have := S.nd b; simp only [Rv.cnt]; omega) h⟩
  · exact h.elim
theorem lep_ix {ta tb : TE} {da db : DE} (ha : LEp x ta da) (hb : LEp x tb db) : LEp x (tOp (rIx x.K) ta tb) (dOp ixW da db) := fun {f L P σ H e Q Qd} hf S h q => by
  refine ha hf S h fun u ra S1 h1 => hb hf S1 h1 fun v rb S2 h2 => ?_
  subst hf
  obtain ⟨du, e3, h2⟩ := rdK_some h2
  obtain ⟨dv, e4, h2⟩ := rdK_some h2
  · have cu := S2.read (v := u) (r := ra) (by simp) e3
    have cv := S2.read (v := v) (r := rb) (by simp) e4
    unfold ixW at h2
    split at h2
    · rename_i ds i hs
      obtain ⟨d, hd, h2⟩ := h2
      · obtain ⟨a, xs, rfl, k1, k2⟩ := cu.seq hs
        cases cv.int
        obtain ⟨y, hy, dy⟩ := atI_dk k2 hd
        have S3 := S2.pop.pop.pushD dy
        rcases k1 with k1 | k1
        · exact Or.inl ⟨a, xs, i, y, rfl, rfl, k1, hy, q _ _ S3 h2⟩
        · exact Or.inr (Or.inl ⟨a, xs, i, y, rfl, rfl, k1, hy, q _ _ S3 h2⟩)
    · exact h2.elim
theorem lap_nil : LAp x tNil dNil := fun {f L P σ H e Q Qd} hf S h q => q [] (by rw [List.append_nil]; exact S) h
theorem lap_cons {ta : TE} {tr : TA} {da : DE} {dr : DA} (ha : LEp x ta da) (hr : LAp x tr dr) : LAp x (tCons ta tr) (dCons da dr) := fun {f L P σ H e Q Qd} hf S h q =>
  ha hf S h fun v r S1 h1 => hr hf S1 h1 fun ps S2 h2 => q ((v, r) :: ps) (by rw [List.append_assoc] at S2; exact S2) h2
/-- a call of what a slot holds -/
def dCalP (J i ar : Nat) (da : DA) : DE := fun e Q => match e[i]? with
  | some (some (.fn j g n S)) => j ≤ J ∧ n = ar ∧ da e fun rs e1 => match Rv.datL rs with
    | some ds => ds.length = ar ∧ S ds fun d => Q (.dat d) e1
    | none => False
  | _ => False
theorem le_cal {X : Cx} {J i ar : Nat} {ta : TA} {da : DA} (h : LAp x ta da) (hX : ∀ {j g H ar sp}, Cal x.P x.w x.K x.mg x.base j g H ar sp → Cal X.prog X.w X.K X.mg X.base j g H ar sp) : LE x (tCal X J i ar ta) (dCalP J i ar da) := fun {f L P σ H e Q Qd} hf S hd q => by
  subst hf
  unfold dCalP at hd
  split at hd
  · rename_i j g n S' he
    obtain ⟨h1, h2, hd⟩ := hd
    subst h2
    obtain ⟨v, s1, s2⟩ := S.sl _ _ he
    cases s2 with
    | fn Hf c z =>
      have c2 := (c.ext (H1 := H) fun b o e t => (z b o e t).2).mono h1
      refine ⟨g, _, s1, hX c2, h rfl S hd fun ps S1 k1 => ?_⟩
      split at k1
      · rename_i ds hds
        have xs := datL_rq (S1.rqs ps fun p hp => List.mem_append_right _ hp) hds
        refine ⟨xs.length.trans k1.1, ExtN.refl _, L ++ f.M, ds, _, S.gd, S.all, xs, k1.2, fun v H' d s dk hk => q v _ _ _ _ (S1.pop.newD s dk) hk⟩
      · exact k1.elim
  · exact hd.elim
/-- a def's promise, as one that is handed on -/
def fnS (S : TSpec) : FSpec := fun ds k => S (ds.map .dat) fun r _ => match r with
  | .dat d => k d
  | _ => False
theorem cnt_dats (a : Addr) : ∀ ds : List PyData, Rv.cntL a (ds.map .dat) = 0
  | [] => rfl
  | d :: ds => by
    simp only [List.map_cons, Rv.cntL, Rv.cnt]
    rw [cnt_dats a ds]
theorem rqs_dats {f : Fm} {H : Hp} : ∀ {vs : List V} {ds : List PyData}, Dks f.K f.M H vs ds → Rqs f [] H vs (ds.map .dat)
  | _, _, .nil => .nil
  | _, _, .cons a r => .cons (.dat a) (rqs_dats r)
theorem argOk_dats : ∀ ds : List PyData, argOk (ds.map .dat) = true
  | [] => rfl
  | _ :: ds => argOk_dats ds
theorem spP_T {S : TSpec} {vs : List V} {H : Hp} {Q : VK} {E : XK} (h : spP x.K x.c (fnS S) vs H Q E) : spT x S vs H Q E := by
  obtain ⟨M, ds, k, gd, hM, hq, hs, q⟩ := h
  refine ⟨Fm.mk x [] M H, ds.map .dat, _, rfl, rfl, gd, hM, (fun _ z => nomatch z), rqs_dats hq, fun a => by rw [cnt_dats]; omega, argOk_dats ds, hs, fun v r outs L H' F hk => ?_⟩
  split at hk
  · rename_i d
    have z := F.rq
    cases z with
    | dat z => exact q v H' d (F.sm.outs F.fr) (z.sub fun y hy => List.mem_append_right _ hy) hk
  · exact hk.elim
theorem cal_T {k : Nat} {y : Str} {g : Addr} {ps : List Str} {S : TSpec} {ar : Nat} (D : Df x.P x.w x.K x.mg x.base CX0 k y g ps (spT x S)) (hl : ps.length = ar) : Cal x.P x.w x.K x.mg x.base k g (fun _ => none) ar (spP x.K x.c (fnS S)) := by
  have c := Cal.of (H := fun _ => none) D hl
  exact ⟨c.fn, fun A o s H' us vs Q E r e0 ex rv hu hs => c.run A o s H' us vs Q E r e0 ex rv hu (spP_T hs)⟩
def dFn (j : Nat) (g : Addr) (ar : Nat) (S : FSpec) : DE := fun e Q => Q (.fn j g ar S) e
theorem le_fnT {k : Nat} {y : Str} {g : Addr} {ps : List Str} {S : TSpec} {ar : Nat} (D : Df x.P x.w x.K x.mg x.base CX0 k y g ps (spT x S)) (hl : ps.length = ar) : LE x (tC (.ref g)) (dFn k g ar (fnS S)) := le_fn rfl (cal_T D hl)
/-- a lambda that captures nothing -/
def lamS (np nN : Nat) (de : DE) : FSpec := fun ds k => ds.length = np ∧ de ((ds.map .dat).map some ++ List.replicate (nN - np) none) fun r _ => match r with
  | .dat d => k d
  | _ => False
def dLam (j ar : Nat) (S : FSpec) : DE := fun e Q => ∀ g, Q (.fn j g ar S) e
theorem le_lam {k : Nat} {Pt : Addr} {q : Str} {params : Arguments} {body : Expr} {scope : Scope} {N ps : List Str} {de : DE}
    (mT : (Pt, q) ∈ x.c.T) (n1 : ∀ p ∈ x.c.T, p.1 = Pt → p.2 = q) (n2 : ∀ R ∈ x.c.G, R ≠ Pt) (Sc : FnScope N ps scope)
    (hb : ∀ (pm ctv : Value) (c' : Addr) (us : List Value), us.length = ps.length → bindArgs (PySem.W.kla_fn "<lambda>" q params body scope [] pm (.ref c') ctv) ⟨us, []⟩ = pure (ps.zip us))
    (hbody : ∀ (f c' : Addr) (A : Around) (outer : List Env) (s : Shared) (H' : Hp) (E : XK), Rm k (A.deeper (envOfC q scope s.heap.objs.size f (.ref c'))) →
      ∃ t, PE (cxOf CX0 x.P x.w x.K x.mg x.base N q scope f (.ref c') A outer s H' E) body t ∧ LE x t de) :
    LE x (tLam Pt q params body scope) (dLam (k + 1) ps.length (lamS ps.length N.length de)) := fun {f L P σ H e Q Qd} hf S hd q0 => by
  subst hf
  have tb := S.gd.t _ mT
  refine ⟨tb, fun g c' pm ctv H1 ext tab old nf a1 a2 => ?_⟩
  have s3 : Sm f.c [] H H1 := Sm.lam ext tab tb old (fun y hy e => n1 y hy e) n2
  have S1 := S.grow (Sn.of s3)
  refine q0 _ _ L H1 e (S1.push (.fn (fun b => if b = g then H1 g else if b = c' then H1 c' else none) ?_ ?_) fun b => by have := S1.nd b; simp only [Rv.cnt]; omega) (hd g)
  · refine lam_cal (q := q) (params := params) (body := body) (scope := scope) (pm := pm) (ctv := ctv) (c' := c') (N := N) (ps := ps) ?_ ?_ Sc (hb pm ctv c') fun A outer s H' vs Q' E hr hs => ?_
    · show (if g = g then H1 g else _) = _
      rw [if_pos rfl]
      exact a1
    · show (if c' = g then H1 g else if c' = c' then H1 c' else none) = _
      by_cases z : c' = g
      · rw [if_pos z, ← z]
        exact a2
      · rw [if_neg z, if_pos rfl]
        exact a2
    · obtain ⟨M, ds, kk, gd, hM, hq, ⟨hl, hs⟩, fin⟩ := hs
      obtain ⟨t, ht, hlt⟩ := hbody g c' A outer s H' E hr
      refine ⟨t, ht, ?_⟩
      have lv := hq.length
      have S0 : Stn (Fm.mk f.toFx [] M H') [] [] (L2.start N vs) H' ((ds.map .dat).map some ++ List.replicate (N.length - ps.length) none) := by
        refine ⟨gd, Sn.refl, (fun _ z => nomatch z), hM, (fun _ z => nomatch z), (fun _ z => nomatch z), fun a => ?_, ?_, fun i r hr => ?_, fun _ z => nomatch z⟩
        · rw [cE_app, cE_rep, cE_map, cnt_dats]
          simp only [cP]
          omega
        · unfold L2.start
          simp only [List.length_append, List.length_map, List.length_replicate]
          omega
        · have hi : i < ds.length := by
            refine Classical.byContradiction fun z => ?_
            rw [List.getElem?_append_right (by rw [List.length_map, List.length_map]; omega)] at hr
            have := List.mem_of_getElem? hr
            have := List.eq_of_mem_replicate this
            cases this
          rw [List.getElem?_append_left (by rw [List.length_map, List.length_map]; exact hi), List.getElem?_map, List.getElem?_map] at hr
          obtain ⟨r', h1, h2⟩ := Option.map_eq_some_iff.mp hr
          obtain ⟨d, h3, h4⟩ := Option.map_eq_some_iff.mp h1
          cases h2
          subst h4
          obtain ⟨v, g1, g2⟩ := hq.get h3
          refine ⟨v, ?_, .dat g2⟩
          unfold L2.start
          rw [List.getElem?_append_left (by rw [List.length_map]; omega), List.getElem?_map, g1]
          rfl
      refine hlt (f := Fm.mk f.toFx [] M H') rfl S0 hs fun v r L' H2 e' S2 k2 => ?_
      split at k2
      · rename_i d
        have z := S2.last
        cases z with
        | dat z =>
          have sm2 : Sn f.c (L' ++ []) H' H2 := S2.sm
          exact fin v H2 d (sm2.outs S2.fr) (z.sub fun y hy => List.mem_append_right _ hy) k2
      · exact k2.elim
  · intro b o hb t
    by_cases z : b = g
    · subst z
      rw [if_pos rfl] at hb
      rw [a1] at hb
      cases hb
      exact ⟨trivial, a1⟩
    · by_cases z2 : b = c'
      · subst z2
        rw [if_neg z, if_pos rfl] at hb
        rw [a2] at hb
        cases hb
        exact ⟨trivial, a2⟩
      · rw [if_neg z, if_neg z2] at hb
        cases hb
/-- a cut -/
theorem ls_cut {t u : TS} {dt du : DS} (h1 : LS x t dt) (h2 : LS x u du) : LS x (C8.tCut t u) (dSeq dt du) := fun {f L P σ H e D Dd} hf S h nx rt bk ct => by
  refine ⟨fun σ' H' => ∃ L' e', Stn f L' P σ' H' e' ∧ du Dd e', h1 (D := { D with nx := fun σ' H' => ∃ L' e', Stn f L' P σ' H' e' ∧ du Dd e' }) hf S h (fun L' σ' H' e' S' k => ⟨L', e', S', k⟩) rt bk ct, fun σ' H' hz => ?_⟩
  obtain ⟨L', e', S', k⟩ := hz
  exact h2 hf S' k nx rt bk ct
/-- xs[i] += e of numbers -/
def dAugS (i : Nat) (di de : DE) : DS := fun D e => (∃ k a ds, e[i]? = some (some (.own k a ds))) ∧ di e fun ri e1 => match ri, e1[i]? with
  | .dat (.int j), some (some (.own k a ds)) => ∃ n y, ixN ds.length j = some n ∧ atI ds j = some (.int y) ∧ de e1 fun re e2 => match re, e2[i]? with
      | .dat (.int z), some (some (.own k2 a2 ds2)) => ds2.length = ds.length ∧ D.nx (e2.set i (some (.own k2 a2 (ds2.set n (.int (y + z))))))
      | _, _ => False
  | _, _ => False
theorem ls_augS {i : Nat} {ti te : TE} {di de : DE} (h1 : LE x ti di) (h2 : LE x te de) : LS x (tAugS (tVar i) ti te (rIxL x.K) (ipI fun i j => i + j) rSetL) (dAugS i di de) := fun {f L P σ H e D Dd} hf S hd nx rt bk ct => by
  subst hf
  obtain ⟨⟨k0, a0, ds0, h0⟩, hd⟩ := hd
  obtain ⟨v0, s0, q0⟩ := S.sl _ _ h0
  have ev0 : v0 = .ref a0 := by cases q0; rfl
  subst ev0
  refine ⟨_, s0, h1 rfl S hd fun vi ri L1 H1 e1 S1 k1 => ?_⟩
  split at k1
  · rename_i j k a ds he
    obtain ⟨n, y, hn, hy, k1⟩ := k1
    · have z := S1.last
      cases z with
      | dat z =>
        cases z.int_inv
        obtain ⟨v1, s1, q1⟩ := S1.sl _ _ he
        rw [s0] at s1
        cases s1
        cases q1 with
        | own _ _ hx dd =>
          obtain ⟨w, hw, dw⟩ := atI_dk dd hy
          cases dw.int_inv
          refine ⟨a0, _, _, _, rfl, rfl, SqL.of hx, hw, h2 rfl S1.pop k1 fun ve re L2 H2 e2 S2 k2 => ?_⟩
          split at k2
          · rename_i zz k2' a2 ds2 he2
            have z := S2.last
            cases z with
            | dat z =>
              cases z.int_inv
              obtain ⟨v2, s2, q2⟩ := S2.sl _ _ he2
              rw [s0] at s2
              cases s2
              cases q2 with
              | own _ _ hx2 dd2 =>
                refine ⟨_, _, rfl, rfl, a0, _, _, n, rfl, rfl, hx2, (by rw [dd2.length, k2.1]; exact hn), nx _ _ _ _ (S2.pop.mutate he2 (dd2.set n (.int _))) k2.2⟩
          · exact k2.elim
  · exact k1.elim
theorem dks_ks {K : PySem.W.Frag} {M : List Addr} {H : Hp} : ∀ ds : List PyData, True := fun _ => trivial
end
end My

/-! all(is_whole(v, 0, many - 1) for v in t) at tree level; tuples of the module -/
namespace My
open PySem PySem.Spec PyProof.Rows L2
open LamX (CodeO TabS ExtN codeO_ne)
open GxR (TabG Tabbed)
section
variable {x : Fx}
def dAllW (de : DE) (im : Nat) : DE := fun e Q => de e fun r e1 => match r, e1[im]? with
  | .dat (.tuple ds), some (some (.dat (.int m))) => Q (.dat (.bool (wiresD ds m))) e1
  | _, _ => False
theorem wholeV_K {K : PySem.W.Frag} {M : List Addr} {H : Hp} {v : V} {d : PyData} (h : Dk K M H v d) (l m : Int) : wholeV v l m = wholeD d l m := by
  cases h <;> rfl
theorem wiresV_K {K : PySem.W.Frag} {M : List Addr} {H : Hp} {m : Int} : ∀ {vs : List V} {ds : List PyData}, Dks K M H vs ds → (vs.all fun v => wholeV v 0 (m - 1)) = wiresD ds m
  | _, _, .nil => rfl
  | _, _, .cons a r => by
    have := wiresV_K (m := m) r
    unfold wiresD at this ⊢
    rw [List.all_cons, List.all_cons, wholeV_K a, this]
theorem le_allW {te : TE} {de : DE} {Pt : Addr} {im : Nat} (h : LE x te de) (hG : Pt ∈ x.c.G) (hT : ∀ q ∈ x.c.T, q.1 ≠ Pt) : LE x (tAllT x.K Pt te (wholeW x.K Pt im)) (dAllW de im) := fun {f L P σ H e Q Qd} hf S hd q =>
  h hf S hd fun v r L1 H1 e1 S1 k1 => by
    subst hf
    split at k1
    · rename_i ds m he
      obtain ⟨a, xs, rfl, h1, h2⟩ := (S1.read (v := v) (r := .dat (.tuple ds)) (by simp) rfl).tup
      have tg := S1.gd.g Pt hG
      obtain ⟨ps, e0, t0⟩ := id tg
      obtain ⟨w, s1, s2⟩ := S1.sl _ _ he
      cases s2 with
      | dat z =>
        cases z.int_inv
        refine ⟨a, xs, rfl, h1, tg, m, s1, ⟨ps, e0⟩, fun y hy => ?_, fun H2 hB => ?_⟩
        · obtain ⟨i, hi⟩ := List.getElem?_of_mem hy
          obtain ⟨d, _, hd⟩ := h2.getV hi
          exact ⟨_, Ck.ty (Or.inr hd)⟩
        · have s : Sm f.c [] H1 H2 := Sm.tabbed hB (by rw [e0]; nofun) hT (fun _ _ => trivial) ⟨ps, e0⟩
          rw [wiresV_K h2]
          exact q _ _ _ _ _ ((S1.pop.grow (Sn.of s)).pushD (.bl _)) k1
    · exact k1.elim
/-- a tuple of the module: of numbers and texts -/
theorem le_kt {n : Addr} {vs : List V} {ds : List PyData} (h : ∀ H : Hp, SqT x.K H n vs) (hd : ∀ M H, Dks x.K M H vs ds) : LE x (tC (.ref n)) (dC (.tuple ds)) := le_c fun M H => .ktup h (hd M H)
/-! ### range objects kept and walked -/
def dRng1 (da : DA) : DE := fun e Q => da e fun rs e1 => match rs with
  | [.dat (.int j)] => Q (.rg 0 j) e1
  | _ => False
def dRng2 (da : DA) : DE := fun e Q => da e fun rs e1 => match rs with
  | [.dat (.int i), .dat (.int j)] => Q (.rg i j) e1
  | _ => False
def diRngV (de : DE) : DI := fun e Q => de e fun r e1 => match r with
  | .rg lo hi => (-(2 ^ 62) ≤ lo ∧ lo < 2 ^ 62 ∧ -(2 ^ 62) ≤ hi ∧ hi < 2 ^ 62) ∧ Q (.rng lo 1 (hi - lo).toNat) e1
  | _ => False
theorem li_rngV {te : TE} {de : DE} (h : LE x te de) : LI x (iRngV te) (diRngV de) := fun {f L P σ H e R Qd} hf S hd _ q =>
  h hf S hd fun v r L1 H1 e1 S1 k1 => by
    split at k1
    · rename_i lo hi
      have z := S1.last
      cases z with
      | rg n hx => exact ⟨_, lo, hi, rfl, hx, k1.1, q _ [] (.rng lo 1 (hi - lo).toNat) _ _ _ _ _ _ (by rw [List.append_nil]; exact S1.pop) rfl (itm_rng L2.walk_rangeC) k1.2⟩
    · exact k1.elim
theorem le_rng2 {ta : TA} {da : DA} (h : LA x ta da) : LE x (tCB (fun vs H Q => ∃ i j, vs = [V.int i, V.int j] ∧ ∀ p, H p = none → Q (V.ref p) (upd H p (.rng i j))) ta) (dRng2 da) := fun {f L P σ H e Q Qd} hf S hd q =>
  h hf S hd fun ps L1 H1 e1 S1 k1 => by
    split at k1
    · rename_i i j hps
      match ps, hps with
      | [(v, .dat (.int _)), (u, .dat (.int _))], rfl =>
        have z := S1.pd (u, .dat (.int j)) (by simp)
        have z2 := S1.pd (v, .dat (.int i)) (by simp)
        cases z with
        | dat z =>
          cases z.int_inv
          cases z2 with
          | dat z2 =>
            cases z2.int_inv
            refine ⟨_, _, rfl, fun p hp => ?_⟩
            have S2 := S1.pop.grow (Sn.new hp (o := .rng i j))
            exact q _ _ _ _ _ (S2.push (.rg (fun z => S1.all p z hp) upd_same) fun a => by have := S2.nd a; simp only [Rv.cnt]; omega) k1
    · exact k1.elim
theorem le_rng1 {ta : TA} {da : DA} (h : LA x ta da) : LE x (tCB (fun vs H Q => ∃ j, vs = [V.int j] ∧ ∀ p, H p = none → Q (V.ref p) (upd H p (.rng 0 j))) ta) (dRng1 da) := fun {f L P σ H e Q Qd} hf S hd q =>
  h hf S hd fun ps L1 H1 e1 S1 k1 => by
    split at k1
    · rename_i j hps
      match ps, hps with
      | [(v, .dat (.int _))], rfl =>
        have z := S1.last
        cases z with
        | dat z =>
          cases z.int_inv
          refine ⟨_, rfl, fun p hp => ?_⟩
          have S2 := S1.pop.grow (Sn.new hp (o := .rng 0 j))
          exact q _ _ _ _ _ (S2.push (.rg (fun z => S1.all p z hp) upd_same) fun a => by have := S2.nd a; simp only [Rv.cnt]; omega) k1
    · exact k1.elim
end
end My

namespace My
open PySem PySem.Spec PyProof.Rows L2
theorem call_anyK {X : Cx} {K : PySem.W.Frag} (hc : X.calm = true) (h : X.K = K := by rfl) : CallR X (.builtin "any") (rAny K) := h ▸ cr_any hc
/-- tuple(range(..)), known to be bare -/
def tTupRgF (te : L2.St → Hp → (Int → Int → Hp → Prop) → Prop) : TE := fun σ H Q => te σ H fun a b H1 => RgOk a b ∧ ∀ (q : Addr) (o : Obj), H1 q = none → o.cls = .type "tuple" → o.dict = none → Q (.ref q) (upd H1 q (.frz o (.tup (rgV a b))))
theorem pe_tupRgF {X : Cx} {e : Expr} {te : L2.St → Hp → (Int → Int → Hp → Prop) → Prop} {p pos : Pos} (hc : X.calm = true) (hg : Gl X "tuple") (hm : X.mg "tuple" = none) (he : PRg X e te) (na : starEach [e] X.env = (false, eval e X.env) :: starEach [] X.env := by rfl) : PE X (.Call (.Name "tuple" p) [e] [] pos) (tTupRgF te) := by
  refine ⟨fun pins s σ H Q I h => ?_⟩
  refine Call_ (ld_blt I hg hm boot_tuple (PyProof.Rows.callWith_type1 (args_cons (thn (he pins s σ H _ I h) fun x s1 ⟨r, a, b, t, u, v, H1, ex, hr, I1, ok, q⟩ => args_nil ?_) na) na))
  subst ex
  obtain ⟨b1, b2, b3, b4, b5⟩ := ok
  refine call_tuple_range (n := (b - a).toNat) (I1.ok.hd hc) hr (small_one b1 b2 b3 b4) (rangeSize_nat a b) b5 fun h' tk acc hk hi => ?_
  have I2 : Inv X pins σ H1 { s1 with heap := h', toks := tk } := I1.kept hk
  refine ⟨.ref h'.objs.size, upd H1 h'.objs.size (.frz _ (.tup (rgV a b))), I2.laid (t' := tk) (fun c o e => Heap.get?_push_of_some _ e) (Nat.le_refl _) ⟨Heap.get?_push_size _ rfl, ?_, acc.toList, vals_rg hi, ?_⟩, rfl, q _ _ (I2.hok.fresh (Nat.le_refl _)) rfl rfl⟩
  · rw [rgV_length, sizeLine_eq]; omega
  · rw [Array.toArray_toList]; exact IsTup.new _ _
section
variable {x : Fx}
def dTupRgF (dr : DRg) : DE := fun e Q => dr e fun a b e1 => RgOk a b ∧ Q (.dat (bw (rgD a b))) e1
theorem le_tupRgF {tr : L2.St → Hp → (Int → Int → Hp → Prop) → Prop} {dr : DRg} (h : LRg x tr dr) : LE x (tTupRgF tr) (dTupRgF dr) := fun {f L P σ H e Q Qd} hf S hd q =>
  h hf S hd fun a b L1 H1 e1 S1 k1 => ⟨k1.1, fun p o hp h1 h2 => by
    obtain ⟨o1, o2⟩ := out_bar (c := f.c) S1.all hp h1 h2 (rg_dk (K := f.K) a b)
    exact q _ _ _ _ _ (S1.newD o1 o2) k1.2⟩
/-! ### turned round -/
def dRevL (de : DE) : DE := fun e Q => de e fun r e1 => rdK e1 r fun d => match d with
  | .list ds => ∀ a, Q (.own true a ds.reverse) e1
  | _ => False
theorem le_revL {te : TE} {de : DE} (h : LE x te de) : LE x (tRevL x.K te) (dRevL de) := fun {f L P σ H e Q Qd} hf S hd q =>
  h hf S hd fun v r L1 H1 e1 S1 k1 => by
    subst hf
    obtain ⟨d, hr, k1⟩ := rdK_some k1
    split at k1
    · rename_i ds
      obtain ⟨a, xs, rfl, h1, h2⟩ := (S1.read (v := v) (r := r) (by simp) hr).lst
      exact ⟨a, xs, rfl, SqL.of h1, fun p hp => q _ _ _ _ _ (S1.pop.fresh hp h2.rev) (k1 p)⟩
    · exact k1.elim
def dRevT (de : DE) : DE := fun e Q => de e fun r e1 => match r with
  | .dat (.tuple ds) => Q (.dat (.tuple ds.reverse)) e1
  | .dat (.dict [(.none, .tuple ds)]) => Q (.dat (.tuple ds.reverse)) e1
  | _ => False
theorem le_revT {te : TE} {de : DE} (h : LE x te de) : LE x (tRevT x.K te) (dRevT de) := fun {f L P σ H e Q Qd} hf S hd q =>
  h hf S hd fun v r L1 H1 e1 S1 k1 => by
    subst hf
    split at k1
    · rename_i ds
      obtain ⟨a, xs, rfl, h1, h2⟩ := (S1.read (v := v) (r := .dat (.tuple ds)) (by simp) rfl).tup
      refine ⟨a, xs, rfl, h1, fun p hp => ?_⟩
      obtain ⟨o1, o2⟩ := out_tup (c := f.c) S1.all hp h2.rev
      exact q _ _ _ _ _ (S1.pop.newD o1 o2) k1
    · rename_i ds
      obtain ⟨a, xs, rfl, h1, h2⟩ := (S1.read (v := v) (r := .dat (bw ds)) (by simp) rfl).bar
      refine ⟨a, xs, rfl, h1.sq, fun p hp => ?_⟩
      obtain ⟨o1, o2⟩ := out_tup (c := f.c) S1.all hp h2.rev
      exact q _ _ _ _ _ (S1.pop.newD o1 o2) k1
    · exact k1.elim
end
end My

/-! type(v) in (int, str, ..) -/
namespace My
open PySem PySem.Spec PyProof.Rows L2
def tyNames : List String := ["NoneType", "bool", "int", "str", "bytes", "list", "tuple", "dict"]
theorem ty_meta {T : String} (h : T ∈ tyNames) : ∀ s' : Shared, s'.TypeIs (.type T) "type" := by
  simp only [tyNames, List.mem_cons, List.not_mem_nil, or_false] at h
  rcases h with rfl | rfl | rfl | rfl | rfl | rfl | rfl | rfl
  · exact TypeEq.meta_NoneType
  · exact TypeEq.meta_bool
  · exact TypeEq.meta_int
  · exact TypeEq.meta_str
  · exact TypeEq.meta_bytes
  · exact TypeEq.meta_list
  · exact TypeEq.meta_tuple
  · exact TypeEq.meta_dict
theorem eqAt_ty {A : Around} {s : Shared} {t T : String} (h1 : t ∈ tyNames) (h2 : T ∈ tyNames) : SeqAt.EqAt A s (.type t) (.type T) (decide (t = T)) := fun prog w E Q h => by
  unfold eqBool
  refine wpAny_holding ?_
  refine wpAny_ite_split (fun hab => ?_) (fun hab => ?_)
  · have e : t = T := Value.type.inj (eq_of_beq hab)
    rw [decide_eq_true e] at h
    exact (wpAny_pure h : wpAny (model prog w) A (pure true) Q E s)
  · have e : ¬ t = T := fun z => by
      rw [z, beq_self_eq_true] at hab
      exact hab rfl
    rw [decide_eq_false e] at h
    refine wpAny_bind ?_
    exact TypeEq.eq_type_other (ty_meta h1) (ty_meta h2) (Bool.eq_false_iff.mpr hab) (wpAny_truthy_bool h)
def rInTy (K : PySem.W.Frag) : R2 := fun x y H Q => ∃ (a : Addr) (T : String) (ts : List String), x = .ty T ∧ y = .ref a ∧ SqT K H a (ts.map V.ty) ∧ T ∈ tyNames ∧ (∀ t ∈ ts, t ∈ tyNames) ∧ Q (.bl (ts.any fun t => decide (t = T))) H
def eqTy (T : String) : Value → Bool
  | .type t => decide (t = T)
  | _ => false
theorem ty_vals : ∀ {ts : List String} {its : List Value}, Vals (ts.map V.ty) its → its = ts.map Value.type
  | [], _, .nil => rfl
  | t :: ts, _, .cons a r => by
    rw [ty_vals r, show _ = Value.type t from a]
    rfl
theorem op_inTy {X : Cx} : OpR X (compareOp .In) (rInTy X.K) := by
  intro pins s σ H x y v u Q I rx ry h
  obtain ⟨p, T, ts, rfl, rfl, hq, hT, hts, q⟩ := h
  cases ry
  obtain rfl : v = Value.type T := rx
  obtain ⟨its, r, pl, hz⟩ := I.tuple hq
  have e := ty_vals r
  subst e
  refine SeqAt.in_tupleAt (eqTy T) pl (fun w hw => ?_) ⟨.bl _, H, I, rfl, ?_⟩
  · have hw' : w ∈ ts.map Value.type := by simpa using hw
    obtain ⟨t, ht, rfl⟩ := List.mem_map.mp hw'
    exact eqAt_ty (hts t ht) hT
  · have : (ts.map Value.type).toArray.any (eqTy T) = ts.any fun t => decide (t = T) := by
      rw [List.any_toArray, List.any_map]
      rfl
    rw [this]
    exact q
theorem op_inTyK {X : Cx} {K : PySem.W.Frag} (h : X.K = K := by rfl) : OpR X (compareOp .In) (rInTy K) := h ▸ op_inTy
section
variable {x : Fx}
theorem tyB_mem {K : PySem.W.Frag} {H : Hp} {v : V} {T : String} (h : TyB K H v T) : T ∈ tyNames := by
  cases h <;> decide
/-- type(e) in (T1, T2) -/
def dTyIn (de : DE) (ts : List String) : DE := fun e Q => de e fun r e1 => rdK e1 r fun d => (∀ t ∈ ts, t ∈ tyNames) ∧ Q (.dat (.bool (ts.any fun t => decide (t = tyD d)))) e1
theorem le_tyIn2 {te : TE} {de : DE} {T1 T2 : String} (h : LE x te de) : LE x (tOp (rInTy x.K) (tCB (rTyp x.K) (tCons te tNil)) (tTup (tCons (tC (.ty T1)) (tCons (tC (.ty T2)) tNil)))) (dTyIn de [T1, T2]) := fun {f L P σ H e Q Qd} hf S hd q =>
  h hf S hd fun v r L1 H1 e1 S1 k1 => by
    subst hf
    obtain ⟨d, hr, k1⟩ := rdK_some k1
    · have ck := S1.read (v := v) (r := r) (by simp) hr
      refine ⟨v, _, rfl, ck.ty, sz_of (by show 2 ≤ 100000; decide), fun p hp => ?_⟩
      have s : Sn f.c [] H1 (upd H1 p (.tup [.ty T1, .ty T2])) := Sn.new hp
      exact ⟨p, _, [T1, T2], rfl, rfl, SqT.of upd_same, tyB_mem ck.ty, k1.1, q _ _ _ _ _ ((S1.pop.grow s).pushD (.bl _)) k1.2⟩
end
end My

/-! texts compared at tree level -/
namespace My
open PySem PySem.Spec PyProof.Rows L2
section
variable {x : Fx}
def eqSW : W2 := fun du dv k => match du, dv with
  | .str a, .str b => k (.dt (.bool (decide (a = b))))
  | _, _ => False
def neSW : W2 := fun du dv k => match du, dv with
  | .str a, .str b => k (.dt (.bool (!decide (a = b))))
  | _, _ => False
theorem decS (a b : Str) : decide (V.str a = V.str b) = decide (a = b) := by
  by_cases h : a = b
  · subst h
    simp
  · rw [decide_eq_false h, decide_eq_false fun z => h (by cases z; rfl)]
theorem o2_eqS : O2 x (rEqG x.K) eqSW := fun {M H u v du dv Q k} hM cu cv w q => by
  unfold eqSW at w
  split at w
  · cases cu.str
    cases cv.str
    refine Or.inl ⟨rfl, ?_⟩
    rw [decS]
    exact q _ H _ (out_d (.bl _)) w
  · exact w.elim
theorem o2_neS : O2 x (rNeG x.K) neSW := fun {M H u v du dv Q k} hM cu cv w q => by
  unfold neSW at w
  split at w
  · cases cu.str
    cases cv.str
    refine Or.inl ⟨rfl, ?_⟩
    rw [decS]
    exact q _ H _ (out_d (.bl _)) w
  · exact w.elim
end
end My

/-! list(zip(s, t)) of two tuples -/
namespace My
open PySem PySem.Spec PyProof.Rows L2
open RZ
section
variable {prog : Program} {w : World} {A : Around} {E : Value → Shared → Prop} {s : Shared}
theorem zipK_item {zp ti to_ hd j1 j2 m1 m2 : Addr} {fl : Bool} {ob : Obj} {p1 p2 : Nat} {us vs : Array Value} {u v : Value} {Q : Value → Shared → Prop} (ap : ZipApart zp ti to_ j1 j2 m1 m2)
    (zo : IsZipHeld s.heap zp ti to_ hd fl) (ho : s.heap.get? hd = some ob) (tp : IsPair s.heap ti (.ref j1) (.ref j2)) (t1 : s.heap.IsTupleIter j1 m1 p1) (t2 : s.heap.IsTupleIter j2 m2 p2) (s1 : s.heap.IsTuple m1 us) (s2 : s.heap.IsTuple m2 vs)
    (gu : us[p1]? = some u) (gv : vs[p2]? = some v)
    (fin : ∀ g, IsZipHeld g zp ti to_ hd true → g.IsTupleIter j1 m1 (p1 + 1) → g.IsTupleIter j2 m2 (p2 + 1) → IsPair g s.heap.objs.size u v → g.objs.size = s.heap.objs.size + 1 → (∀ c o, c ≠ zp → c ≠ j1 → c ≠ j2 → s.heap.get? c = some o → g.get? c = some o) → Q (.ref s.heap.objs.size) { s with heap := g }) :
    wpAny (model prog w) A (Builtin.«zip.__next__» ⟨[.ref zp], []⟩) (fun fi s' => ∃ y, fi = .done (.ret y) ∧ Q y s') E s := by
  show wpAny _ _ (field (.ref zp) 2 >>= _) _ _ _
  refine wpAny_bind (wpAny_field zo rfl (x := .bool false) rfl ?_)
  show wpAny _ _ (field (.ref zp) 3 >>= _) _ _ _
  refine wpAny_bind (wpAny_field zo rfl (x := .ref ti) rfl ?_)
  refine wpAny_bind (wpAny_seqItems tp rfl ?_)
  show wpAny _ _ (Builtin.SmallTypes.ownedTupleIsFree (.ref zp) >>= _) _ _ _
  refine wpAny_bind (wpAny_tupleHeld_zip zo ho fun g1 zo1 b1 => ?_)
  simp only [Bool.false_eq_true, ite_false]
  refine wpAny_bind ?_
  rw [← Array.forIn_toList]
  simp only [List.forIn_nil, List.forIn_cons]
  refine wpAny_bind (wpAny_bind (wpAny_holding (Q := _) ?_))
  show wpAny _ _ (Builtin.SmallTypes.nextOf (.ref j1) >>= _) _ _ _
  refine wpAny_bind (nextOf_tuple_item (s := { s with heap := g1 }) (t1.extBut b1.extBut ap.i1z) (s1.extBut b1.extBut ap.l1z) gu fun g2 t1' b2 => wpAny_pure ?_)
  refine wpAny_pure ?_
  refine wpAny_bind (wpAny_bind (wpAny_holding (Q := _) ?_))
  show wpAny _ _ (Builtin.SmallTypes.nextOf (.ref j2) >>= _) _ _ _
  refine wpAny_bind (nextOf_tuple_item (s := { s with heap := g2 }) ((t2.extBut b1.extBut ap.i2z).extBut b2.extBut ap.i12.symm) ((s2.extBut b1.extBut ap.l2z).extBut b2.extBut ap.l2i1) gv fun g3 t2' b3 => wpAny_pure ?_)
  refine wpAny_pure (wpAny_pure ?_)
  show wpAny _ _ (newTuple [u, v] >>= _) _ _ _
  refine wpAny_bind (wpAny_newTuple ?_)
  have sz : g3.objs.size = s.heap.objs.size := by rw [b3.1, b2.1, b1.1]
  have zo3 : IsZipHeld g3 zp ti to_ hd true := b3.extBut _ _ ap.i2z.symm (b2.extBut _ _ ap.i1z.symm zo1)
  have kp : ∀ c o, c ≠ zp → c ≠ j1 → c ≠ j2 → s.heap.get? c = some o → g3.get? c = some o := fun c o c1 c2 c3 e => b3.extBut _ _ c3 (b2.extBut _ _ c2 (b1.extBut _ _ c1 e))
  have t13 : g3.IsTupleIter j1 m1 (p1 + 1) := t1'.extBut b3.extBut ap.i12
  refine wpAny_pure ⟨_, rfl, ?_⟩
  show Q (.ref g3.objs.size) _
  have np : IsPair (g3.push { cls := .type "tuple", data := .seq #[u, v] }) g3.objs.size u v := Heap.get?_push_size _ rfl
  have nz : (g3.push { cls := .type "tuple", data := .seq #[u, v] }).objs.size = g3.objs.size + 1 := Heap.size_push ..
  rw [sz] at np nz ⊢
  exact fin _ (Heap.get?_push_of_some _ zo3) (t13.at fun o e => Heap.get?_push_of_some _ e) (t2'.at fun o e => Heap.get?_push_of_some _ e) np nz fun c o c1 c2 c3 e => Heap.get?_push_of_some _ (kp c o c1 c2 c3 e)
theorem zipK_end {zp ti to_ hd j1 j2 m1 m2 : Addr} {fl : Bool} {ob : Obj} {p1 p2 : Nat} {us vs : Array Value} {Q : PySem.Fin → Shared → Prop} (hh : A.handled = none) (ap : ZipApart zp ti to_ j1 j2 m1 m2)
    (zo : IsZipHeld s.heap zp ti to_ hd fl) (ho : s.heap.get? hd = some ob) (tp : IsPair s.heap ti (.ref j1) (.ref j2)) (t1 : s.heap.IsTupleIter j1 m1 p1) (t2 : s.heap.IsTupleIter j2 m2 p2) (s1 : s.heap.IsTuple m1 us) (s2 : s.heap.IsTuple m2 vs)
    (en : us[p1]? = none ∨ vs[p2]? = none)
    (out : ∀ g e, (∀ c o, c ≠ zp → c ≠ j1 → c ≠ j2 → s.heap.get? c = some o → g.get? c = some o) → (∃ o, g.get? e = some o ∧ o.cls = .type "StopIteration") → E (.ref e) { s with heap := g }) :
    wpAny (model prog w) A (Builtin.«zip.__next__» ⟨[.ref zp], []⟩) Q E s := by
  show wpAny _ _ (field (.ref zp) 2 >>= _) _ _ _
  refine wpAny_bind (wpAny_field zo rfl (x := .bool false) rfl ?_)
  show wpAny _ _ (field (.ref zp) 3 >>= _) _ _ _
  refine wpAny_bind (wpAny_field zo rfl (x := .ref ti) rfl ?_)
  refine wpAny_bind (wpAny_seqItems tp rfl ?_)
  show wpAny _ _ (Builtin.SmallTypes.ownedTupleIsFree (.ref zp) >>= _) _ _ _
  refine wpAny_bind (wpAny_tupleHeld_zip zo ho fun g1 zo1 b1 => ?_)
  simp only [Bool.false_eq_true, ite_false]
  refine wpAny_bind ?_
  rw [← Array.forIn_toList]
  simp only [List.forIn_nil, List.forIn_cons]
  refine wpAny_bind (wpAny_bind (wpAny_holding (Q := _) ?_))
  show wpAny _ _ (Builtin.SmallTypes.nextOf (.ref j1) >>= _) _ _ _
  cases gu : us[p1]? with
  | none =>
    refine wpAny_bind (nextOf_tuple_end (s := { s with heap := g1 }) hh (t1.extBut b1.extBut ap.i1z) (s1.extBut b1.extBut ap.l1z) gu fun g2 e b2 he => ?_)
    exact out g2 e (fun c o c1 c2 _ y => b2 _ _ c2 (b1.extBut _ _ c1 y)) he
  | some u =>
    have gv : vs[p2]? = none := by
      rcases en with z | z
      · rw [gu] at z
        cases z
      · exact z
    refine wpAny_bind (nextOf_tuple_item (s := { s with heap := g1 }) (t1.extBut b1.extBut ap.i1z) (s1.extBut b1.extBut ap.l1z) gu fun g2 t1' b2 => wpAny_pure ?_)
    refine wpAny_pure ?_
    refine wpAny_bind (wpAny_bind (wpAny_holding (Q := _) ?_))
    show wpAny _ _ (Builtin.SmallTypes.nextOf (.ref j2) >>= _) _ _ _
    refine wpAny_bind (nextOf_tuple_end (s := { s with heap := g2 }) hh ((t2.extBut b1.extBut ap.i2z).extBut b2.extBut ap.i12.symm) ((s2.extBut b1.extBut ap.l2z).extBut b2.extBut ap.l2i1) gv fun g3 e b3 he => ?_)
    exact out g3 e (fun c o c1 c2 c3 y => b3 _ _ c3 (b2.extBut _ _ c2 (b1.extBut _ _ c1 y))) he
theorem nextK_item {zp ti to_ hd j1 j2 m1 m2 : Addr} {fl : Bool} {ob : Obj} {p1 p2 : Nat} {us vs : Array Value} {u v : Value} {Q : Option Value → Shared → Prop} (ap : ZipApart zp ti to_ j1 j2 m1 m2)
    (zo : IsZipHeld s.heap zp ti to_ hd fl) (ho : s.heap.get? hd = some ob) (tp : IsPair s.heap ti (.ref j1) (.ref j2)) (t1 : s.heap.IsTupleIter j1 m1 p1) (t2 : s.heap.IsTupleIter j2 m2 p2) (s1 : s.heap.IsTuple m1 us) (s2 : s.heap.IsTuple m2 vs)
    (gu : us[p1]? = some u) (gv : vs[p2]? = some v)
    (fin : ∀ g, IsZipHeld g zp ti to_ hd true → g.IsTupleIter j1 m1 (p1 + 1) → g.IsTupleIter j2 m2 (p2 + 1) → IsPair g s.heap.objs.size u v → g.objs.size = s.heap.objs.size + 1 → (∀ c o, c ≠ zp → c ≠ j1 → c ≠ j2 → s.heap.get? c = some o → g.get? c = some o) → Q (some (.ref s.heap.objs.size)) { s with heap := g }) :
    wpAny (model prog w) A (pyNext (.ref zp)) Q E s := by
  have ty : s.TypeIs (.ref zp) "zip" := ⟨_, zo, rfl⟩
  unfold pyNext
  exact wpAny_bind (wpAny_attempt (wpAny_callSpecial?_slot (name := Str.ofString "__next__") ty F.slot_zip_next
    (wpAny_call_entry F.slot_zip_next ty F.entry_zip_next
      (zipK_item ap zo ho tp t1 t2 s1 s2 gu gv fun g a1 a2 a3 a4 a5 a6 => wpAny_pure (fin g a1 a2 a3 a4 a5 a6)) (F.args_zip_next_1 _))))
theorem nextK_end {zp ti to_ hd j1 j2 m1 m2 : Addr} {fl : Bool} {ob : Obj} {p1 p2 : Nat} {us vs : Array Value} {Q : Option Value → Shared → Prop} (hh : A.handled = none) (ap : ZipApart zp ti to_ j1 j2 m1 m2)
    (zo : IsZipHeld s.heap zp ti to_ hd fl) (ho : s.heap.get? hd = some ob) (tp : IsPair s.heap ti (.ref j1) (.ref j2)) (t1 : s.heap.IsTupleIter j1 m1 p1) (t2 : s.heap.IsTupleIter j2 m2 p2) (s1 : s.heap.IsTuple m1 us) (s2 : s.heap.IsTuple m2 vs)
    (en : us[p1]? = none ∨ vs[p2]? = none)
    (out : ∀ g, (∀ c o, c ≠ zp → c ≠ j1 → c ≠ j2 → s.heap.get? c = some o → g.get? c = some o) → Q none { s with heap := g }) : wpAny (model prog w) A (pyNext (.ref zp)) Q E s := by
  have ty : s.TypeIs (.ref zp) "zip" := ⟨_, zo, rfl⟩
  unfold pyNext
  refine wpAny_bind (wpAny_attempt (wpAny_callSpecial?_slot (name := Str.ofString "__next__") ty F.slot_zip_next
    (wpAny_call_entry F.slot_zip_next ty F.entry_zip_next (zipK_end hh ap zo ho tp t1 t2 s1 s2 en fun g e kp he => ?_) (F.args_zip_next_1 _))))
  obtain ⟨o, h1, h2⟩ := he
  refine wpAny_bind (wpAny_isInstance (T := "StopIteration") (b := true) ⟨o, h1, h2⟩ isSubtype_stop ?_)
  exact wpAny_pure (out _ kp)
end
end My

namespace My
open PySem PySem.Spec PyProof.Rows L2
open RZ
/-- new tuples, one behind another -/
inductive ZN : Hp → List (V × V) → Hp → List V → Prop
  | nil {H : Hp} : ZN H [] H []
  | snoc {H H' : Hp} {ps : List (V × V)} {zs : List V} {p : V × V} {T : Addr} : ZN H ps H' zs → H' T = none → ZN H (ps ++ [p]) (upd H' T (.tup [p.1, p.2])) (zs ++ [.ref T])
theorem upd_swap {H : Hp} {a b : Addr} {o u : HO} (h : a ≠ b) : upd (upd H a o) b u = upd (upd H b u) a o := by
  funext c
  by_cases h1 : c = a
  · subst h1
    rw [upd_ne h, upd_same, upd_same]
  · by_cases h2 : c = b
    · subst h2
      rw [upd_same, upd_ne h1, upd_same]
    · rw [upd_ne h2, upd_ne h1, upd_ne h1, upd_ne h2]
theorem upd_twice {H : Hp} {a : Addr} {o u : HO} : upd (upd H a o) a u = upd H a u := by
  funext c
  by_cases h : c = a
  · subst h
    rw [upd_same, upd_same]
  · rw [upd_ne h, upd_ne h, upd_ne h]
theorem sqt_upd {K : PySem.W.Frag} {H : Hp} {a T : Addr} {o : HO} {xs : List V} (h : SqT K H a xs) (hT : H T = none ∨ ∃ ys, H T = some (.lst ys)) : SqT K (upd H T o) a xs := by
  have ne : ∀ u, H a = some u → (∀ ys, u ≠ .lst ys) → a ≠ T := fun u e n z => by
    subst z
    rcases hT with z | ⟨ys, z⟩
    · rw [z] at e; cases e
    · rw [z] at e; cases e; exact n _ rfl
  rcases h with (h | ⟨ob, h⟩) | h
  · exact Or.inl (Or.inl (by rw [upd_ne (ne _ h nofun)]; exact h))
  · exact Or.inl (Or.inr ⟨ob, by rw [upd_ne (ne _ h nofun)]; exact h⟩)
  · exact Or.inr h
section
variable {X : Cx} {pins : List (Addr × Obj)} {σ : L2.St}
/-- the walk's cells: how far the zip has come -/
structure ZSt (h : Heap) (zp ti to_ j1 j2 m1 m2 : Addr) (i : Nat) (S : Addr) : Prop where
  z : (i = 0 ∧ IsZip h zp ti to_ .none) ∨ ∃ hd fl ob, IsZipHeld h zp ti to_ hd fl ∧ h.get? hd = some ob ∧ hd ≠ zp ∧ hd ≠ j1 ∧ hd ≠ j2 ∧ hd ≠ S
  t : IsPair h ti (.ref j1) (.ref j2)
  o : ∃ u v, IsPair h to_ u v
  a : h.IsTupleIter j1 m1 i
  b : h.IsTupleIter j2 m2 i
theorem zip_loop {A : Around} {a b zp ti to_ j1 j2 S : Addr} {xs ys : List V} {R : Result → Shared → Prop} (hh : A.handled = none) (ap : ZipApart zp ti to_ j1 j2 a b) (lx : xs.length ≤ 1000)
    (nS : S ≠ zp ∧ S ≠ ti ∧ S ≠ to_ ∧ S ≠ j1 ∧ S ≠ j2) (H0 : Hp) (ps0 : List (V × V)) (hp0 : ps0 = (xs.zip ys)) :
    ∀ (k i : Nat) (s : Shared) (H : Hp) (zs : List V), (xs.zip ys).length - i = k → i ≤ (xs.zip ys).length → ZN H0 (ps0.take i) H zs → zs.length = i → H S = none → SqT X.K H a xs → SqT X.K H b ys → Inv X pins σ (upd H S (.lst zs)) s →
      ZSt s.heap zp ti to_ j1 j2 a b i S → (∀ c ∈ [zp, ti, to_, j1, j2], FpOk X pins (upd H S (.lst zs)) c) →
      (∀ H' zs' s', ZN H0 ps0 H' zs' → H' S = none → Inv X pins σ (upd H' S (.lst zs')) s' → R (.ok (.ret .none)) s') →
      codeAny (model X.prog X.w) A (.builtin "list.extend.loop" ⟨[.ref S, .ref zp, .none], []⟩) R s := by
  intro k
  have lz : (xs.zip ys).length = min xs.length ys.length := List.length_zip
  induction k with
  | zero =>
    intro i s H zs hk hi zn lzs hS qa qb I st fp fin
    have ei : i = (xs.zip ys).length := by omega
    refine codeAny_builtin PySem.F.entry_extend_loop ?_
    rw [Around.under_plainId PySem.F.plain_extend_loop _]
    show wpAny _ A.in1 (pyNext (.ref zp) >>= _) _ _ s
    have qa' := sqt_upd (o := .lst zs) qa (.inl hS)
    have qb' := sqt_upd (o := .lst zs) qb (.inl hS)
    obtain ⟨is1, r1, p1, _⟩ := I.tuple qa'
    obtain ⟨is2, r2, p2, _⟩ := I.tuple qb'
    have l1 := r1.length
    have l2 := r2.length
    have en : is1.toArray[i]? = none ∨ is2.toArray[i]? = none := by
      by_cases z : xs.length ≤ ys.length
      · exact .inl (by simp; omega)
      · exact .inr (by simp; omega)
    have done : ∀ g, (∀ c o, c ∉ [zp, ti, to_, j1, j2] → s.heap.get? c = some o → g.get? c = some o) → R (.ok (.ret .none)) { s with heap := g } := fun g kp => by
      refine fin H zs _ ?_ hS (I.turnedL (t' := s.toks) kp fp)
      rw [hp0, ei, ← hp0, hp0, List.take_length] at zn
      rw [hp0]
      exact zn
    rcases st.z with ⟨_, z⟩ | ⟨hd, fl, ob, z, ho, h1, h2, h3, h4⟩
    · obtain ⟨u, v, to1⟩ := st.o
      refine wpAny_bind (pyNext_zipT_end hh ap z st.t to1 st.a st.b p1 p2 en fun g kp => wpAny_pure ?_)
      exact done g fun c o hc e => kp c o (fun q => hc (by simp [q])) (fun q => hc (by simp [q])) (fun q => hc (by simp [q])) (fun q => hc (by simp [q])) e
    · refine wpAny_bind (nextK_end hh ap z ho st.t st.a st.b p1 p2 en fun g kp => wpAny_pure ?_)
      exact done g fun c o hc e => kp c o (fun q => hc (by simp [q])) (fun q => hc (by simp [q])) (fun q => hc (by simp [q])) e
  | succ k ih =>
    intro i s H zs hk hi zn lzs hS qa qb I st fp fin
    have hlt : i < (xs.zip ys).length := by omega
    have i1 : i < xs.length := by omega
    have i2 : i < ys.length := by omega
    refine codeAny_builtin PySem.F.entry_extend_loop ?_
    rw [Around.under_plainId PySem.F.plain_extend_loop _]
    show wpAny _ A.in1 (pyNext (.ref zp) >>= _) _ _ s
    have qa' := sqt_upd (o := .lst zs) qa (.inl hS)
    have qb' := sqt_upd (o := .lst zs) qb (.inl hS)
    obtain ⟨is1, r1, p1, _⟩ := I.tuple qa'
    obtain ⟨is2, r2, p2, _⟩ := I.tuple qb'
    obtain ⟨u, hu, ru⟩ := r1.get (List.getElem?_eq_getElem i1)
    obtain ⟨v, hv, rv⟩ := r2.get (List.getElem?_eq_getElem i2)
    have sS : s.heap.objs.size ≠ S := by
      obtain ⟨_, its, n, _, _, e⟩ := I.lstM (l := S) upd_same
      exact Nat.ne_of_gt (Heap.lt_size e)
    have hTn : (upd H S (.lst zs)) s.heap.objs.size = none := I.hok.fresh (Nat.le_refl _)
    have hTn' : H s.heap.objs.size = none := by rwa [upd_ne sS] at hTn
    have fpl : ∀ c ∈ [zp, ti, to_, j1, j2], c < s.heap.objs.size := fun c hc => by
      obtain ⟨u', v', to1⟩ := st.o
      have := st.a
      have := st.b
      have e' : c = zp ∨ c = ti ∨ c = to_ ∨ c = j1 ∨ c = j2 := by simpa using hc
      rcases e' with q | q | q | q | q
      · rw [q]
        rcases st.z with ⟨_, z⟩ | ⟨_, _, _, z, _⟩
        · exact Heap.lt_size z
        · exact Heap.lt_size z
      · rw [q]; exact Heap.lt_size st.t
      · rw [q]; exact Heap.lt_size to1
      · rw [q]; obtain ⟨_, e1, _⟩ := st.a; exact Heap.lt_size e1
      · rw [q]; obtain ⟨_, e1, _⟩ := st.b; exact Heap.lt_size e1
    -- behind the draw
    have go : ∀ (g : Heap), (∀ c o, c ∉ [zp, ti, to_, j1, j2] → s.heap.get? c = some o → g.get? c = some o) → (∃ hd fl ob, IsZipHeld g zp ti to_ hd fl ∧ g.get? hd = some ob ∧ hd ≠ zp ∧ hd ≠ j1 ∧ hd ≠ j2 ∧ hd ≠ S) → IsPair g ti (.ref j1) (.ref j2) → (∃ u v, IsPair g to_ u v) →
        g.IsTupleIter j1 a (i + 1) → g.IsTupleIter j2 b (i + 1) → IsPair g s.heap.objs.size u v →
        wpAny (model X.prog X.w) A.in1 (updateSeq S (·.push (.ref s.heap.objs.size)) >>= fun _ => again (.builtin "list.extend.loop" ⟨[.ref S, .ref zp, .none], []⟩))
          (fun fin s' => match fin with | .done f => R (.ok f) s' | .again c' => c'.quiet = true ∧ codeAny (model X.prog X.w) A c' R s') (fun e s' => R (.error e) s') { s with heap := g } := fun g kp ⟨hd, fl, ob, zh, ho, n1, n2, n3, n4⟩ ht hto ha hb hT => by
      have new : ObjOk X.prog X.w (upd (upd H S (.lst zs)) s.heap.objs.size (.tup [xs[i], ys[i]])) g s.heap.objs.size (.tup [xs[i], ys[i]]) :=
        ⟨by show 2 ≤ sizeLine; decide, [u, v], .cons ru (.cons rv .nil), ⟨_, hT, rfl, _, rfl⟩⟩
      have I2 : Inv X pins σ (upd (upd H S (.lst zs)) s.heap.objs.size (.tup [xs[i], ys[i]])) { s with heap := g } := I.turnedNew (t' := s.toks) kp fp (Nat.le_refl _) new
      rw [upd_swap sS.symm] at I2
      obtain ⟨hz, its, n, hvl, hl, e⟩ := I2.lstM (l := S) upd_same
      refine wpAny_bind ?_
      refine wpAny_updateSeq e rfl ?_ (by have := hvl.length; simp only [List.size_toArray]; omega) (by rw [Array.size_push]; simp only [List.size_toArray]; have : zs.length = its.length := hl; rw [sizeLine_eq]; omega)
      refine wpAny_pure ⟨plainId_quiet PySem.F.plain_extend_loop _, ?_⟩
      have I3 : Inv X pins σ (upd (upd (upd H s.heap.objs.size (.tup [xs[i], ys[i]])) S (.lst zs)) S (.lst (zs ++ [.ref s.heap.objs.size]))) { s with heap := g.update S (Obj.mapSeq (·.push (.ref s.heap.objs.size))), toks := s.toks } :=
        I2.lset (its' := its ++ [.ref s.heap.objs.size]) upd_same e (by simp) (hvl.append (.cons (show RelV (V.ref s.heap.objs.size) (Value.ref s.heap.objs.size) from rfl) .nil)) (by rw [List.length_append, List.length_singleton, sizeLine_eq]; omega)
      rw [upd_twice] at I3
      have oth : ∀ c o, c ≠ S → g.get? c = some o → (g.update S (Obj.mapSeq (·.push (.ref s.heap.objs.size)))).get? c = some o := fun c o hc e => (Heap.get?_update_other _ _ (Ne.symm hc)).trans e
      have zn' : ZN H0 (ps0.take (i + 1)) (upd H s.heap.objs.size (.tup [xs[i], ys[i]])) (zs ++ [.ref s.heap.objs.size]) := by
        have e5 : ps0.take (i + 1) = ps0.take i ++ [(xs[i], ys[i])] := by
          rw [hp0, List.take_add_one, List.getElem?_eq_getElem hlt, List.getElem_zip]
          rfl
        rw [e5]
        exact .snoc zn hTn'
      refine ih (i + 1) _ _ _ (by omega) hlt zn' (by rw [List.length_append, lzs]; rfl) (by rw [upd_ne sS.symm]; exact hS) (sqt_upd qa (.inl hTn')) (sqt_upd qb (.inl hTn')) I3 ?_ ?_ fin
      · refine ⟨.inr ⟨hd, fl, ob, oth _ _ nS.1.symm zh, oth _ _ n4 ho, n1, n2, n3, n4⟩, oth _ _ nS.2.1.symm ht, ?_, ha.at fun o q => oth _ o nS.2.2.2.1.symm q, hb.at fun o q => oth _ o nS.2.2.2.2.symm q⟩
        obtain ⟨u', v', h5⟩ := hto
        exact ⟨u', v', oth _ _ nS.2.2.1.symm h5⟩
      · intro c hc
        refine ⟨?_, (fp c hc).2⟩
        have cS : c ≠ S := fun q => by
          have e' : c = zp ∨ c = ti ∨ c = to_ ∨ c = j1 ∨ c = j2 := by simpa using hc
          rcases e' with z | z | z | z | z
          · exact nS.1 (q.symm.trans z)
          · exact nS.2.1 (q.symm.trans z)
          · exact nS.2.2.1 (q.symm.trans z)
          · exact nS.2.2.2.1 (q.symm.trans z)
          · exact nS.2.2.2.2 (q.symm.trans z)
        have := (fp c hc).1
        rw [upd_ne cS] at this
        rw [upd_ne cS, upd_ne (Nat.ne_of_lt (fpl c hc))]
        exact this
    rcases st.z with ⟨i0, z⟩ | ⟨hd, fl, ob, z, ho, h1, h2, h3, h4⟩
    · obtain ⟨u', v', to1⟩ := st.o
      refine wpAny_bind (pyNext_zipT_item ap z st.t to1 st.a st.b p1 p2 (x := u) (y := v) (by simpa using hu) (by simpa using hv) fun g g1 g2 g3 g4 g5 g6 kp => ?_)
      refine go g (fun c o hc e => kp c o (fun q => hc (by simp [q])) (fun q => hc (by simp [q])) (fun q => hc (by simp [q])) (fun q => hc (by simp [q])) e) ?_ (kp _ _ ap.TIz ap.TITO ap.TIi1 ap.TIi2 st.t) ⟨_, _, g2⟩ g3 g4 g5
      exact ⟨s.heap.objs.size, false, _, g1, g5, Nat.ne_of_gt (fpl zp (by simp)), Nat.ne_of_gt (fpl j1 (by simp)), Nat.ne_of_gt (fpl j2 (by simp)), sS⟩
    · obtain ⟨u', v', to1⟩ := st.o
      refine wpAny_bind (nextK_item ap z ho st.t st.a st.b p1 p2 (u := u) (v := v) (by simpa using hu) (by simpa using hv) fun g g1 g2 g3 g4 g5 kp => ?_)
      refine go g (fun c o hc e => kp c o (fun q => hc (by simp [q])) (fun q => hc (by simp [q])) (fun q => hc (by simp [q])) e) ⟨hd, true, ob, g1, kp _ _ h1 h2 h3 ho, h1, h2, h3, h4⟩ (kp _ _ ap.TIz ap.TIi1 ap.TIi2 st.t) ⟨u', v', kp _ _ ap.TOz ap.TOi1 ap.TOi2 to1⟩ g2 g3 g4

theorem zip_no_len : typeLookup (.type "zip") "__len__" = pure none := by rw [typeLookup_type, builtinLookup_eq_fast]; kernel_rfl
theorem zip_no_hint : typeLookup (.type "zip") "__length_hint__" = pure none := by rw [typeLookup_type, builtinLookup_eq_fast]; kernel_rfl
theorem zip_ty {h : Heap} {zp ti to_ j1 j2 m1 m2 S : Addr} {i : Nat} {s : Shared} (hs : s.heap = h) (st : ZSt h zp ti to_ j1 j2 m1 m2 i S) : s.TypeIs (.ref zp) "zip" := by
  subst hs
  rcases st.z with ⟨_, z⟩ | ⟨_, _, _, z, _⟩
  · exact ⟨_, z, rfl⟩
  · exact ⟨_, z, rfl⟩
theorem zst_up {h g : Heap} {zp ti to_ j1 j2 m1 m2 S : Addr} (st : ZSt h zp ti to_ j1 j2 m1 m2 0 S) (up : ∀ c o, c ≠ S → h.get? c = some o → g.get? c = some o) (nS : S ≠ zp ∧ S ≠ ti ∧ S ≠ to_ ∧ S ≠ j1 ∧ S ≠ j2) : ZSt g zp ti to_ j1 j2 m1 m2 0 S := by
  refine ⟨?_, up _ _ nS.2.1.symm st.t, ?_, st.a.at fun o q => up _ o nS.2.2.2.1.symm q, st.b.at fun o q => up _ o nS.2.2.2.2.symm q⟩
  · rcases st.z with ⟨i0, z⟩ | ⟨hd, fl, ob, z, ho, h1, h2, h3, h4⟩
    · exact .inl ⟨i0, up _ _ nS.1.symm z⟩
    · exact .inr ⟨hd, fl, ob, up _ _ nS.1.symm z, up _ _ h4 ho, h1, h2, h3, h4⟩
  · obtain ⟨u, v, h⟩ := st.o
    exact ⟨u, v, up _ _ nS.2.2.1.symm h⟩
theorem pyIter_zipS {A : Around} {E : Value → Shared → Prop} {s : Shared} {zp ti to_ j1 j2 m1 m2 S : Addr} {i : Nat} {Q : Value → Shared → Prop} (st : ZSt s.heap zp ti to_ j1 j2 m1 m2 i S) (i0 : i = 0) (h : Q (.ref zp) s) : wpAny (model X.prog X.w) A (pyIter (.ref zp)) Q E s := by
  rcases st.z with ⟨_, z⟩ | ⟨hd, fl, ob, z, _⟩
  · exact wpAny_pyIter_zip z h
  · refine wpAny_pyIter_slot ⟨_, z, rfl⟩ PySem.F.slot_zip_iter (wpAny_call_entry PySem.F.slot_zip_iter ⟨_, z, rfl⟩ PySem.F.entry_zip_iter ?_ (PySem.F.args_zip_iter_1 _))
    show wpAny _ _ (ret (.ref zp)) _ _ s
    exact wpAny_pure ⟨_, rfl, "zip", _, ⟨_, z, rfl⟩, PySem.F.slot_zip_next.lookup, h⟩
/-- list.__init__ of a new list, from a zip -/
theorem init_zip {A : Around} {a b zp ti to_ j1 j2 S : Addr} {xs ys : List V} {R : Result → Shared → Prop} {s : Shared} {H : Hp} (hh : A.handled = none) (ap : ZipApart zp ti to_ j1 j2 a b) (lx : xs.length ≤ 1000)
    (nS : S ≠ zp ∧ S ≠ ti ∧ S ≠ to_ ∧ S ≠ j1 ∧ S ≠ j2) (hS : H S = none) (qa : SqT X.K H a xs) (qb : SqT X.K H b ys) (I : Inv X pins σ (upd H S (.lst [])) s)
    (st : ZSt s.heap zp ti to_ j1 j2 a b 0 S) (fp : ∀ c ∈ [zp, ti, to_, j1, j2], FpOk X pins (upd H S (.lst [])) c) (ne : s.heap.get? S = some { cls := .type "list", data := .seq #[] })
    (fin : ∀ H' zs' s', ZN H (xs.zip ys) H' zs' → H' S = none → Inv X pins σ (upd H' S (.lst zs')) s' → R (.ok (.ret .none)) s') :
    wpAny (model X.prog X.w) A.in1 (Builtin.«list.__init__» ⟨[.ref S, .ref zp], []⟩)
      (fun fi s' => match fi with | .done f => R (.ok f) s' | .again c' => c'.quiet = true ∧ codeAny (model X.prog X.w) A c' R s') (fun e s' => R (.error e) s') s := by
  show wpAny _ A.in1 (do let old ← Builtin.List.listItems (.ref S); Builtin.List.listUpdate (.ref S) (fun _ => #[]); letGo old.toList.reverse; Builtin.List.listExtendWith (.ref S) (.ref zp) .none) _ _ s
  refine wpAny_bind ?_
  unfold Builtin.List.listItems
  refine wpAny_bind (wpAny_seqItems ne rfl (wpAny_pure ?_))
  show wpAny _ A.in1 (updateSeq S (fun _ => #[]) >>= fun _ => letGo (#[] : Array Value).toList.reverse >>= fun _ => Builtin.List.listExtendWith (.ref S) (.ref zp) .none) _ _ s
  refine wpAny_bind (wpAny_updateSeq ne rfl ?_)
  have g1 := Heap.get?_update_self (Obj.mapSeq (fun _ => (#[] : Array Value))) ne rfl
  have I1 : Inv X pins σ (upd (upd H S (.lst [])) S (.lst [])) { s with heap := s.heap.update S (Obj.mapSeq fun _ => #[]), toks := s.toks } := I.lset (its := []) (its' := []) upd_same ne rfl .nil (Nat.zero_le _)
  rw [upd_twice] at I1
  have st1 := zst_up (g := s.heap.update S (Obj.mapSeq fun _ => #[])) st (fun c o hc e => (Heap.get?_update_other _ _ (Ne.symm hc)).trans e) nS
  refine wpAny_bind (wpAny_letGo ?_)
  generalize hs1 : ({ s with heap := s.heap.update S (Obj.mapSeq fun _ => #[]) } : Shared) = s1 at I1 ⊢
  have st1 : ZSt s1.heap zp ti to_ j1 j2 a b 0 S := by rw [← hs1]; exact st1
  have ty := zip_ty (s := s1) rfl st1
  have sz : S ≠ zp := nS.1
  unfold Builtin.List.listExtendWith
  refine wpAny_bind (wpAny_typeOf ty ?_)
  have e1 : Builtin.List.listSameRef (.ref S) (.ref zp) = false := by simp [Builtin.List.listSameRef, sz]
  have e2 : (Value.type "zip" == Value.type "list") = false := by decide
  have e3 : (Value.type "zip" == Value.type "tuple") = false := by decide
  simp only [e1, e2, e3, Bool.or_false, Bool.false_eq_true, if_false]
  refine wpAny_bind (pyIter_zipS st1 rfl ?_)
  refine wpAny_bind (wpAny_holding (Q := _) ?_)
  unfold Builtin.List.listLengthHint
  refine wpAny_bind (wpAny_specialOf ty zip_no_len ?_)
  show wpAny _ A.in1 (specialOf (Value.ref zp) (Str.ofString "__length_hint__") >>= _) _ _ _
  refine wpAny_bind (wpAny_specialOf ty zip_no_hint ?_)
  refine wpAny_pure ?_
  show wpAny _ A.in1 (rule "list.extend.makes-room" >>= fun _ => Builtin.List.listTouch (.ref S) >>= fun _ => again (.builtin "list.extend.loop" ⟨[.ref S, .ref zp, .none], []⟩)) _ _ _
  refine wpAny_bind (wpAny_rule ?_)
  refine wpAny_bind ?_
  show wpAny _ A.in1 (updateSeq S (·.push .none) >>= fun _ => updateSeq S (·.pop)) _ _ _
  obtain ⟨_, its, n, hv, _, le⟩ := I1.lstM (l := S) upd_same
  cases hv
  refine wpAny_bind (wpAny_updateSeq le rfl ?_)
  have q2 := Heap.get?_update_self (Obj.mapSeq (·.push Value.none)) le rfl
  refine wpAny_updateSeq (hz := by seq_fits) q2 rfl ?_
  have q3 := Heap.get?_update_self (Obj.mapSeq (·.pop)) q2 rfl
  have up : ∀ c o, c ≠ S → s1.heap.get? c = some o → ((s1.heap.update S (Obj.mapSeq (·.push Value.none))).update S (Obj.mapSeq (·.pop))).get? c = some o :=
    fun c o hc e => (Heap.get?_update_other _ _ (Ne.symm hc)).trans ((Heap.get?_update_other _ _ (Ne.symm hc)).trans e)
  have I2 : Inv X pins σ (upd (upd H S (.lst [])) S (.lst [])) { s1 with heap := (s1.heap.update S (Obj.mapSeq (·.push Value.none))).update S (Obj.mapSeq (·.pop)) } :=
    I1.write (t' := s1.toks) (x := S) (e := S) (by rw [upd_same]; exact trivial) (.inl rfl) up ⟨_, q3⟩ ⟨Nat.zero_le _, [], _, .nil, q3⟩
  rw [upd_twice] at I2
  exact wpAny_pure ⟨plainId_quiet PySem.F.plain_extend_loop _, zip_loop hh ap lx nS H _ rfl _ 0 _ H [] rfl (Nat.zero_le _) .nil rfl hS qa qb I2 (zst_up st1 up nS) fp fin⟩
end
end My

namespace My
open PySem PySem.Spec PyProof.Rows L2
open LamX (CodeO TabS ExtN)
open RZ
section
variable {X : Cx} {pins : List (Addr × Obj)} {σ : L2.St}
theorem call_lst_zip {A : Around} {a b zp ti to_ j1 j2 : Addr} {xs ys : List V} {Q E : Value → Shared → Prop} {s : Shared} {H : Hp} (hh : A.handled = none) (ap : ZipApart zp ti to_ j1 j2 a b) (lx : xs.length ≤ 1000)
    (lt : zp < s.heap.objs.size ∧ ti < s.heap.objs.size ∧ to_ < s.heap.objs.size ∧ j1 < s.heap.objs.size ∧ j2 < s.heap.objs.size) (qa : SqT X.K H a xs) (qb : SqT X.K H b ys) (I : Inv X pins σ H s)
    (st : ZSt s.heap zp ti to_ j1 j2 a b 0 s.heap.objs.size) (fp : ∀ c ∈ [zp, ti, to_, j1, j2], FpOk X pins H c)
    (fin : ∀ H' zs' s', ZN H (xs.zip ys) H' zs' → H' s.heap.objs.size = none → Inv X pins σ (upd H' s.heap.objs.size (.lst zs')) s' → Q (.ref s.heap.objs.size) s') :
    wpAny (model X.prog X.w) A (call (.type "list") [.ref zp]) Q E s := by
  have hS : H s.heap.objs.size = none := I.hok.fresh (Nat.le_refl _)
  have nS : s.heap.objs.size ≠ zp ∧ s.heap.objs.size ≠ ti ∧ s.heap.objs.size ≠ to_ ∧ s.heap.objs.size ≠ j1 ∧ s.heap.objs.size ≠ j2 :=
    ⟨Nat.ne_of_gt lt.1, Nat.ne_of_gt lt.2.1, Nat.ne_of_gt lt.2.2.1, Nat.ne_of_gt lt.2.2.2.1, Nat.ne_of_gt lt.2.2.2.2⟩
  refine callType_codes (Q₁ := fun obj s1 => obj = .ref s.heap.objs.size ∧ s1 = { s with heap := s.heap.push { cls := .type "list", data := .seq #[] } }) PySem.F.called_list (PySem.F.typeCall_list_1 _) PySem.F.entry_list_init
    (code_list_new _ ⟨rfl, rfl⟩) fun obj s1 he => ?_
  obtain ⟨rfl, rfl⟩ := he
  have gS : (s.heap.push { cls := .type "list", data := .seq #[] }).get? s.heap.objs.size = some { cls := .type "list", data := .seq #[] } := Heap.get?_push_size _ rfl
  have I1 : Inv X pins σ (upd H s.heap.objs.size (.lst [])) { s with heap := s.heap.push { cls := .type "list", data := .seq #[] }, toks := s.toks } := I.lnew (its := []) .nil (Nat.zero_le _)
  refine ⟨⟨_, gS, rfl⟩, PySem.F.args_list_init_2 _ _, init_zip (A := A.in1) hh ap lx nS hS qa qb I1 (zst_up st (fun c o _ e => Heap.get?_push_of_some _ e) nS) (fun c hc => ⟨?_, (fp c hc).2⟩) gS fun H' zs' s' h1 h2 h3 => ⟨rfl, fin H' zs' s' h1 h2 h3⟩⟩
  have cS : c ≠ s.heap.objs.size := fun q => by
    have e' : c = zp ∨ c = ti ∨ c = to_ ∨ c = j1 ∨ c = j2 := by simpa using hc
    rcases e' with z | z | z | z | z
    · exact nS.1 (q.symm.trans z)
    · exact nS.2.1 (q.symm.trans z)
    · exact nS.2.2.1 (q.symm.trans z)
    · exact nS.2.2.2.1 (q.symm.trans z)
    · exact nS.2.2.2.2 (q.symm.trans z)
  rw [upd_ne cS]
  exact (fp c hc).1
/-- list(zip(s, t)) -/
def tLstZip (K : PySem.W.Frag) (ta : TA) : TE := fun σ H Q => ta σ H fun vs H1 => ∃ a b xs ys, vs = [V.ref a, V.ref b] ∧ SqT K H1 a xs ∧ SqT K H1 b ys ∧ xs.length ≤ 1000 ∧ ∀ D H2 zs, ZN H1 (xs.zip ys) H2 zs → H2 D = none → Q (.ref D) (upd H2 D (.lst zs))
theorem pe_lstZip {e e2 : Expr} {ta : TA} {p p2 pos pos2 : Pos} (hc : X.calm = true) (hg : Gl X "list") (hm : X.mg "list" = none) (hg2 : Gl X "zip") (hm2 : X.mg "zip" = none) (ha : PA X [e, e2] ta)
    (hs : starEach [e, e2] X.env = (false, eval e X.env) :: starEach [e2] X.env := by rfl) (hpl : (backTo pos2 (starEach [e2] X.env)).any (·.1) = false := by rfl)
    (na : starEach [.Call (.Name "zip" p2) [e, e2] [] pos2] X.env = (false, eval (.Call (.Name "zip" p2) [e, e2] [] pos2) X.env) :: starEach [] X.env := by rfl) :
    PE X (.Call (.Name "list" p) [.Call (.Name "zip" p2) [e, e2] [] pos2] [] pos) (tLstZip X.K ta) := by
  refine ⟨fun pins s σ H Q I h => ?_⟩
  refine Call_ (ld_blt I hg hm boot_list (PyProof.Rows.callWith_type1 (args_cons ?_ na) na))
  refine Call_ (ld_blt I hg2 hm2 PyProof.Rows.boot_zip (PyProof.Rows.callWith_type1 (thn (ha.run pos2 pins s σ H _ I h) fun us s1 ⟨vs, H1, I1, r1, q1⟩ => ?_) hs hpl))
  obtain ⟨a, b, xs, ys, ex, qa, qb, lx, q1⟩ := q1
  subst ex
  cases r1 with
  | cons r rr =>
    cases rr with
    | cons r' rr =>
      cases rr
      cases r
      cases r'
      obtain ⟨is1, rv1, p1, _⟩ := I1.tuple qa
      obtain ⟨is2, rv2, p2, _⟩ := I1.tuple qb
      obtain ⟨o1, ho1, _⟩ := id p1
      obtain ⟨o2, ho2, _⟩ := id p2
      refine call_zipT (show s1.heap.IsTuple a is1.toArray from p1) (show s1.heap.IsTuple b is2.toArray from p2) fun g gz gI gO t1 t2 gs gk => args_nil ?_
      have I2 : Inv X pins σ H1 { s1 with heap := g } := I1.kept (t' := s1.toks) gk
      have fr : ∀ c, s1.heap.objs.size ≤ c → FpOk X pins H1 c := fun c hc => I1.fpOk hc (I1.hok.fresh hc)
      refine call_lst_zip (s := { s1 with heap := g }) (H := H1) (I1.ok.hd hc) (PySem.W.ktu_apart s1.heap.objs.size a b (Heap.lt_size ho1) (Heap.lt_size ho2)) lx (by show _ < g.objs.size ∧ _ < g.objs.size ∧ _ < g.objs.size ∧ _ < g.objs.size ∧ _ < g.objs.size; rw [gs]; omega) qa qb I2 ⟨.inl ⟨rfl, gz⟩, gI, ⟨_, _, gO⟩, t1, t2⟩ (fun c hc => fr c ?_) fun H' zs' s' h1 h2 h3 => ⟨.ref g.objs.size, _, h3, rfl, q1 _ _ _ h1 h2⟩
      have e' : c = s1.heap.objs.size + 4 ∨ c = s1.heap.objs.size + 2 ∨ c = s1.heap.objs.size + 3 ∨ c = s1.heap.objs.size ∨ c = s1.heap.objs.size + 1 := by simpa using hc
      rcases e' with z | z | z | z | z
      · rw [z]; exact Nat.le_add_right _ _
      · rw [z]; exact Nat.le_add_right _ _
      · rw [z]; exact Nat.le_add_right _ _
      · rw [z]; exact Nat.le_refl _
      · rw [z]; exact Nat.le_add_right _ _
end
/-! at tree level -/
section
variable {x : Fx}
theorem zn_sn {c : Ct} {H H' : Hp} {ps : List (V × V)} {zs : List V} (h : ZN H ps H' zs) : Sn c [] H H' := by
  induction h with
  | nil => exact Sn.refl
  | snoc _ hT ih => exact ih.trans (Sn.new hT)
theorem zn_dk {K : PySem.W.Frag} {M : List Addr} {H H' : Hp} {ps : List (V × V)} {zs : List V} (h : ZN H ps H' zs) (hM : ∀ m ∈ M, H m ≠ none) : ∀ {es : List (PyData × PyData)}, Paired (fun (p : V × V) (e : PyData × PyData) => Dk K M H p.1 e.1 ∧ Dk K M H p.2 e.2) ps es → Dks K M H' zs (es.map fun e => .tuple [e.1, e.2]) := by
  induction h with
  | nil =>
    intro es q
    cases q
    exact .nil
  | snoc zn hT ih =>
    rename_i H' ps zs p T
    intro es q
    obtain ⟨es1, e, rfl, q1, q2⟩ : ∃ es1 e, es = es1 ++ [e] ∧ Paired (fun (p : V × V) (e : PyData × PyData) => Dk K M H p.1 e.1 ∧ Dk K M H p.2 e.2) ps es1 ∧ (Dk K M H p.1 e.1 ∧ Dk K M H p.2 e.2) := by
      clear ih zn hT
      induction ps generalizing es with
      | nil =>
        cases q with
        | cons a r =>
          cases r
          exact ⟨[], _, rfl, .nil, a⟩
      | cons y ps ih =>
        cases q with
        | cons a r =>
          obtain ⟨es1, e, h1, h2, h3⟩ := ih r
          exact ⟨_ :: es1, e, by rw [h1]; rfl, .cons a h2, h3⟩
    have s1 : Sn (⟨[], []⟩ : Ct) [] H H' := zn_sn zn
    have s2 : Sn (⟨[], []⟩ : Ct) [] H (upd H' T (.tup [p.1, p.2])) := s1.trans (Sn.new hT)
    rw [List.map_append]
    refine ((ih q1).sm (c := ⟨[], []⟩) (Sn.new hT)).snoc (.tup (fun z => ?_) upd_same (.cons (q2.1.sm (s2.any)) (.cons (q2.2.sm (s2.any)) .nil)))
    exact s1.st T (hM T z) hT
def zipP : List PyData → List PyData → List PyData
  | d :: ds, e :: es => .tuple [d, e] :: zipP ds es
  | _, _ => []
theorem zipP_map : ∀ ds es : List PyData, (ds.zip es).map (fun e => PyData.tuple [e.1, e.2]) = zipP ds es
  | [], _ => rfl
  | _ :: _, [] => rfl
  | d :: ds, e :: es => by
    rw [List.zip_cons_cons, List.map_cons, zipP_map ds es]
    rfl
theorem dks_zip {K : PySem.W.Frag} {M : List Addr} {H : Hp} : ∀ {xs ys : List V} {ds es : List PyData}, Dks K M H xs ds → Dks K M H ys es → Paired (fun (p : V × V) (e : PyData × PyData) => Dk K M H p.1 e.1 ∧ Dk K M H p.2 e.2) (xs.zip ys) (ds.zip es)
  | _, _, _, _, .nil, _ => by simp only [List.zip_nil_left]; exact .nil
  | _, _, _, _, .cons _ _, .nil => by simp only [List.zip_nil_right]; exact .nil
  | _, _, _, _, .cons a r, .cons b q => by
    rw [List.zip_cons_cons, List.zip_cons_cons]
    exact .cons ⟨a, b⟩ (dks_zip r q)
/-- list(zip(s, t)) of two tuples -/
def dLstZip (da : DA) : DE := fun e Q => da e fun rs e1 => match rs with
  | [.dat (.tuple ds), .dat (.tuple es)] => ds.length ≤ 1000 ∧ ∀ a, Q (.own true a (zipP ds es)) e1
  | _ => False
theorem le_lstZip {ta : TA} {da : DA} (h : LA x ta da) : LE x (tLstZip x.K ta) (dLstZip da) := fun {f L P σ H e Q Qd} hf S hd q =>
  h hf S hd fun ps L1 H1 e1 S1 k1 => by
    subst hf
    split at k1
    · rename_i ds es hj
      match ps, hj with
      | [(u, .dat (.tuple _)), (v, .dat (.tuple _))], rfl =>
        obtain ⟨a, xs, rfl, h1, h2⟩ := (S1.read (v := u) (r := .dat (.tuple ds)) (by simp) rfl).tup
        obtain ⟨b, ys, rfl, h3, h4⟩ := (S1.read (v := v) (r := .dat (.tuple es)) (by simp) rfl).tup
        refine ⟨a, b, xs, ys, rfl, h1, h3, by rw [h2.length]; exact k1.1, fun D H2 zs zn hD => ?_⟩
        have s : Sn f.c [] H1 H2 := zn_sn zn
        have dz := zn_dk zn (M := L1 ++ f.M) S1.all (dks_zip h2 h4)
        rw [zipP_map] at dz
        exact q _ _ _ _ _ ((S1.pop.grow s).fresh hD dz) (k1.2 D)
    · exact k1.elim
end
end My

namespace My
open PySem PySem.Spec PyProof.Rows L2
section
variable {x : Fx}
/-- whether it counts as true -/
def truD : PyData → Option Bool
  | .none => some false
  | .bool b => some b
  | .int i => some (i != 0)
  | .list ds => some (!ds.isEmpty)
  | .tuple ds => some (!ds.isEmpty)
  | _ => none
theorem empty_dk {K : PySem.W.Frag} {M : List Addr} {H : Hp} {xs : List V} {ds : List PyData} (h : Dks K M H xs ds) : xs.isEmpty = ds.isEmpty := by cases h <;> rfl
theorem tru_ck {K : PySem.W.Frag} {M : List Addr} {H : Hp} {v : V} {d : PyData} {b : Bool} (h : Ck K M H v d) (e : truD d = some b) : TruV K v H b := by
  cases d with
  | none => cases (h.dk nofun).none_inv; cases e; rfl
  | bool c => cases h.bool; cases e; rfl
  | int i => cases h.int; cases e; rfl
  | str z => cases e
  | dict z => cases e
  | list ds =>
    obtain ⟨a, xs, rfl, h1, h2⟩ := h.lst
    cases e
    exact .inl ⟨xs, SqL.of h1, by rw [empty_dk h2]⟩
  | tuple ds =>
    obtain ⟨a, xs, rfl, h1, h2⟩ := h.tup
    cases e
    exact .inr (.inl ⟨xs, h1, by rw [empty_dk h2]⟩)
def tTru (K : PySem.W.Frag) (te : TE) : TT := fun σ H Q => te σ H fun v H' => ∃ k, TruV K v H' k ∧ Q k H'
theorem pt_truK {X : Cx} {K : PySem.W.Frag} {a : Expr} {te : TE} (ha : PE X a te) (he : ∀ whole, isTrue a X.env whole = (do let v ← whole; standAt a.pos; holding [v] (truthy v))) (h : X.K = K := by rfl) : PT X a (tTru K te) := h ▸ pt_truth ha he
def dTru (de : DE) : DT := fun e Q => de e fun r e1 => rdK e1 r fun d => ∃ b, truD d = some b ∧ Q b e1
theorem lt_tru {te : TE} {de : DE} (h : LE x te de) : LT x (tTru x.K te) (dTru de) := fun {f L P σ H e Q Qd} hf S hd q =>
  h hf S hd fun v r L1 H1 e1 S1 k1 => by
    subst hf
    obtain ⟨d, hr, b, hb, k1⟩ := rdK_some k1
    have ck := S1.read (v := v) (r := r) (by simp) hr
    exact ⟨b, tru_ck ck hb, q b _ _ _ S1.pop k1⟩
def diEnuL (da : DA) : DI := fun e Q => da e fun rs e1 => match rs with
  | [.dat (.list ds)] => Q (.enu (.dat (.list ds))) e1
  | _ => False
/-- enumerate of a list -/
theorem li_enuL {ta : TA} {da : DA} (h : LA x ta da) : LI x (iEnum x.K ta) (diEnuL da) := fun {f L P σ H e R Qd} hf S hd hq q =>
  h hf S hd fun ps L1 H1 e1 S1 k1 => by
    subst hf
    split at k1
    case h_2 => exact k1.elim
    rename_i ds hj
    match ps, hj with
    | [(v, .dat (.list _))], rfl =>
      have k2 := k1
      have get : ∀ {L R σ H e}, Stn f L (P ++ [(v, .dat (.list ds))] ++ R) σ H e → ∃ a xs, v = .ref a ∧ H a = some (.lst xs) ∧ Dks f.K (L ++ f.M) H xs ds := fun {L R σ H e} S => (S.read (v := v) (r := .dat (.list ds)) (by simp) rfl).lst
      obtain ⟨a, xs, rfl, h1, h2⟩ := get (R := []) (by rw [List.append_nil]; exact S1)
      have get' : ∀ {L R σ H e}, Stn f L (P ++ [(V.ref a, .dat (.list ds))] ++ R) σ H e → ∃ xs, SqL f.K H a xs ∧ Dks f.K (L ++ f.M) H xs ds := fun {L R σ H e} S => by
        obtain ⟨a', xs, e1, e2, e3⟩ := get S
        cases e1
        exact ⟨xs, SqL.of e2, e3⟩
      have len : (enumD ds).length = ds.length := by unfold enumD; rw [List.length_map, List.length_range]
      refine ⟨a, xs, rfl, SqL.of h1, q (Ite f.K a) [(.ref a, .dat (.list ds))] (.enu (.dat (.list ds))) _ _ _ (enumD ds) (fun H => ∃ xs, SqL f.K H a xs ∧ xs.length = ds.length)
        (fun i H v H' => ∃ T x, v = .ref T ∧ H T = none ∧ H' = upd H T (.tup [.int (i : Nat), x]) ∧ ∀ xs, SqL f.K H a xs → xs[i]? = some x) S1 rfl ⟨⟨?_, ?_, ?_⟩, ?_, ?_⟩ k2⟩
      · rintro i H hi ⟨xs, g1, g2⟩
        rw [len] at hi
        exact ⟨xs, xs[i]'(by omega), g1, List.getElem?_eq_getElem (by omega)⟩
      · rintro H ⟨xs, g1, g2⟩
        exact ⟨xs, g1, by omega⟩
      · intro i H x H' hi _ y
        exact y
      · intro L R σ H e S hi
        obtain ⟨xs, g1, g2⟩ := get' S
        exact ⟨xs, g1, g2.length⟩
      · intro L R σ H e i v H' S hi hlt y
        rw [len] at hlt
        obtain ⟨T, w, rfl, hT, rfl, y⟩ := y
        obtain ⟨xs, g1, g2⟩ := get' S
        obtain ⟨d, e1, e2⟩ := g2.getV (y xs g1)
        obtain ⟨o1, o2⟩ := out_tup (c := f.c) S.all hT (.cons (.int (i : Nat)) (.cons e2 .nil))
        exact ⟨_, enumD_get e1, o1, o2⟩
end
end My

namespace My
open PySem PySem.Spec PyProof.Rows L2
theorem mt_indexK {X : Cx} {K : PySem.W.Frag} (h : X.K = K := by rfl) : MtR X "list.index" (rIndex K) := h ▸ mt_index
section
variable {x : Fx}
theorem eqV_eqv {K : PySem.W.Frag} {M : List Addr} {H : Hp} {v w : V} {d e : PyData} (h : Dk K M H v d) (g : Dk K M H w e) (f1 : flatD d = true) (f2 : flatD e = true) : eqV v w = PyData.eqv d e := (flat_v h f1).2 g f2
/-- xs.index(y) of flat things -/
def dIdx (de : DE) (da : DA) : DE := fun e Q => de e fun r e1 => match r with
  | .dat (.list ds) => da e1 fun rs e2 => match rs with
    | [.dat d] => flatD d = true ∧ ds.all flatD = true ∧ ∃ j z, ds[j]? = some z ∧ PyData.eqv z d = true ∧ (∀ m z', m < j → ds[m]? = some z' → PyData.eqv z' d = false) ∧ Q (.dat (.int (j : Nat))) e2
    | _ => False
  | _ => False
theorem le_idx {te : TE} {ta : TA} {de : DE} {da : DA} (h : LE x te de) (h2 : LA x ta da) : LE x (tBM x.K "list" (rIndex x.K) te ta) (dIdx de da) := fun {f L P σ H e Q Qd} hf S hd q =>
  h hf S hd fun v r L1 H1 e1 S1 k1 => by
    subst hf
    split at k1
    · rename_i ds
      obtain ⟨a, xs, rfl, h3, h4⟩ := (S1.read (v := v) (r := .dat (.list ds)) (by simp) rfl).lst
      refine ⟨Or.inl ⟨rfl, _, SqL.of h3⟩, h2 rfl S1 k1 fun ps L2 H2 e2 S2 k2 => ?_⟩
      split at k2
      · rename_i d hps
        match ps, hps with
        | [(w, .dat _)], rfl =>
          obtain ⟨f1, f2, j, z, hj, hz, hm, k2⟩ := k2
          obtain ⟨a', xs', e1, h5, h6⟩ := (S2.read (v := .ref a) (r := .dat (.list ds)) (by simp) rfl).lst
          cases e1
          have dw : Dk f.K (L2 ++ f.M) H2 w d := by
            have z := S2.last
            cases z with
            | dat z => exact z
          obtain ⟨y, hy, dy⟩ := h6.get hj
          have fl : ∀ {i : Nat} {e : PyData}, ds[i]? = some e → flatD e = true := fun he => List.all_eq_true.mp f2 _ (List.mem_of_getElem? he)
          refine ⟨a, xs', w, j, y, rfl, rfl, SqL.of h5, (flat_v dw f1).1, (flat_vs dw f1 h6 f2).1, hy, ?_, fun m z' hm' hz' => ?_, q _ _ _ _ _ (S2.pop.pop.pushD (.int _)) k2⟩
          · rw [eqV_eqv dy dw (fl hj) f1]
            exact hz
          · obtain ⟨e', he', de'⟩ := h6.getV hz'
            rw [eqV_eqv de' dw (fl he') f1]
            exact hm m e' hm' he'
      · exact k2.elim
    · exact k1.elim
/-- xs.pop(i) of one's own list -/
def dPopA (i : Nat) (da : DA) : DE := fun e Q => (∃ k a ds, e[i]? = some (some (.own k a ds))) ∧ da e fun rs e1 => match rs, e1[i]? with
  | [.dat (.int j)], some (some (.own k a ds)) => ∃ n d, 0 ≤ j ∧ j < 2 ^ 62 ∧ j = ((n : Nat) : Int) ∧ ds[n]? = some d ∧ Q (.dat d) (e1.set i (some (.own k a (ds.eraseIdx n))))
  | _, _ => False
theorem Dks.erase {K : PySem.W.Frag} {M : List Addr} {H : Hp} : ∀ {vs : List V} {ds : List PyData} (k : Nat), Dks K M H vs ds → Dks K M H (vs.eraseIdx k) (ds.eraseIdx k)
  | _, _, _, .nil => .nil
  | _, _, 0, .cons _ r => r
  | _, _, k + 1, .cons a r => .cons a (Dks.erase k r)
theorem le_popA {i : Nat} {ta : TA} {da : DA} (h : LA x ta da) : LE x (tBM x.K "list" rPopAt (tVar i) ta) (dPopA i da) := fun {f L P σ H e Q Qd} hf S hd q => by
  subst hf
  obtain ⟨⟨k0, a0, ds0, h0⟩, hd⟩ := hd
  obtain ⟨v0, s0, q0⟩ := S.sl _ _ h0
  cases q0 with
  | own x1 x2 x3 x4 =>
    refine ⟨_, s0, Or.inl ⟨rfl, _, SqL.of x3⟩, h rfl S hd fun ps L1 H1 e1 S1 k1 => ?_⟩
    split at k1
    · rename_i j k a ds hps he
      match ps, hps with
      | [(v, .dat (.int _))], rfl =>
        obtain ⟨n, d, j0, j1, ej, hd, k1⟩ := k1
        obtain ⟨v1, s1, q1⟩ := S1.sl _ _ he
        rw [s0] at s1
        cases s1
        have z := S1.last
        cases z with
        | dat dx =>
          cases dx.int_inv
          cases q1 with
          | own y1 y2 y3 y4 =>
            have e4 := y4.length
            obtain ⟨w, hw, dw⟩ := y4.get hd
            have hlt := (List.getElem?_eq_some_iff.mp hw).1
            have hM : a0 ∈ L1 ++ f.M := by
              cases k with
              | true => exact List.mem_append_left _ (y1 rfl)
              | false => exact List.mem_append_right _ (S1.bm a0 (y2 rfl))
            have dw' : ∀ ys : List V, Dk f.K (L1 ++ f.M) (upd H1 a0 (.lst ys)) w d := fun ys => match (Dks.change (zs := []) (ys := ys) hM (.cons dw .nil) : Dks f.K (L1 ++ f.M) (upd H1 a0 (.lst ys)) [w] [d]) with | .cons h _ => h
            have big : (2 : Int) ^ 62 ≤ 2 ^ 63 := by decide
            refine ⟨_, _, j, n, w, rfl, rfl, y3, by omega, by omega, ?_, hw, q _ _ _ _ _ ((S1.pop.mutate he (y4.erase n)).pushD (dw' _)) k1⟩
            subst ej
            have c : ∀ m : Nat, n < m → (decide (0 ≤ (n : Int)) && decide ((n : Int) < (m : Int))) = true := fun m hm => Bool.and_eq_true_iff.mpr ⟨decide_eq_true (by omega), decide_eq_true (Int.ofNat_lt.mpr hm)⟩
            unfold seqIndex?
            simp only []
            rw [if_neg (show ¬ (n : Int) < 0 by omega), if_pos (c _ hlt), Int.toNat_natCast]
    · exact k1.elim
end
end My

/-! math.comb of small numbers -/
namespace My
open PySem PySem.Spec PySem.Calls PyProof.Rows L2
/-- what the machine tells -/
def combV (n k : Int) : Int :=
  Builtin.Math.fallingProduct n (min k (n - k)).toNat / Builtin.Math.fallingProduct (min k (n - k)) (min k (n - k)).toNat
theorem comb_small : ∀ n < 61, ∀ k < n + 1, (combV (n : Nat) (k : Nat)).natAbs < 2 ^ 62 := by decide +kernel
theorem comb_run {n k : Int} {t u : Tok} (h0 : 0 ≤ n) (h1 : n ≤ 60) (h2 : 0 ≤ k) (h3 : k ≤ n) :
    Gives (Builtin.«math.comb» ⟨[.int n t, .int k u], []⟩) (.int (combV n k)) := by
  have hk : min k (n - k) ≤ 60 := by omega
  have big : ∀ z : Int, 60 ≤ z → decide (min k (n - k) > z) = false := fun z hz => decide_eq_false (by omega)
  have sm : (combV n k).natAbs < 2 ^ 62 := by
    have h := comb_small n.toNat (by omega) k.toNat (by omega)
    rwa [Int.toNat_of_nonneg h0, Int.toNat_of_nonneg h2] at h
  have sz : (combV n k).natAbs.log2 < bitsLine := Nat.lt_of_le_of_lt (PySem.W.mg_log (k := 61) sm) (by decide)
  refine .of_wp fun M A E s Q h => ?_
  obtain ⟨hp, g, d, tk, os⟩ := s
  wp_walk
  refine wpAny_ite_false (big Builtin.Math.maxSsize (by decide)) ?_
  wp_walk
  refine wpAny_ite_false (big Builtin.Math.manyFactors (by decide)) ?_
  wp_walk
  refine wpAny_ite_false (decide_eq_false (Nat.not_le.mpr sz)) ?_
  wp_walk
  exact ⟨_, rfl, h⟩
theorem comb_zero {n k : Int} {t u : Tok} (h0 : 0 ≤ n) (h2 : 0 ≤ k) (h3 : n < k) :
    Gives (Builtin.«math.comb» ⟨[.int n t, .int k u], []⟩) (.int 0) := by
  refine .of_wp fun M A E s Q h => ?_
  obtain ⟨hp, g, d, tk, os⟩ := s
  wp_walk
  all_goals exact ⟨_, rfl, h⟩
namespace CombF
theorem ent : PySem.entryFor table "math.comb" = some Builtin.«math.comb» := entryFor_of_tree (by kernel_rfl)
theorem knd : builtinKind "math.comb" = none := by kernel_rfl
theorem pln : PySem.plainId "math.comb" = true := by decide +kernel
theorem ags (y z : Value) : argsOk "math.comb" ⟨[y, z], []⟩ := by unfold argsOk; kernel_rfl
end CombF
/-- Pascal's numbers -/
def ch : Nat → Nat → Nat
  | _, 0 => 1
  | 0, _ + 1 => 0
  | n + 1, k + 1 => ch n k + ch n (k + 1)
def combC (n k : Int) : Int := if n < k then 0 else combV n k
theorem comb_base : ∀ n < 61, combC (n : Nat) 0 = 1 := by decide +kernel
theorem comb_top : ∀ k < 60, combC 0 ((k + 1 : Nat) : Int) = 0 := by decide +kernel
theorem comb_step : ∀ n < 60, ∀ k < 60, combC ((n + 1 : Nat) : Int) ((k + 1 : Nat) : Int) = combC (n : Nat) (k : Nat) + combC (n : Nat) ((k + 1 : Nat) : Int) := by decide +kernel
theorem comb_ch : ∀ (n k : Nat), n ≤ 60 → k ≤ 60 → combC (n : Nat) (k : Nat) = (ch n k : Nat)
  | n, 0, hn, _ => by
    have h := comb_base n (by omega)
    unfold ch
    exact h
  | 0, k + 1, _, hk => by
    unfold ch
    exact comb_top k (by omega)
  | n + 1, k + 1, hn, hk => by
    rw [comb_step n (by omega) k (by omega), comb_ch n k (by omega) (by omega), comb_ch n (k + 1) (by omega) hk]
    exact (Int.natCast_add (ch n k) (ch n (k + 1))).symm
def rComb : List V → Hp → VK → Prop := fun vs H Q => ∃ n k : Nat, vs = [.int n, .int k] ∧ n ≤ 60 ∧ k ≤ 60 ∧ Q (.int (ch n k : Nat)) H
theorem cr_comb {X : Cx} : CallR X (.builtin "math.comb") rComb := by
  intro pins s σ H vs us Q I r h
  obtain ⟨n, k, rfl, h1, h2, q⟩ := h
  obtain ⟨t, u, rfl⟩ := Vals.int2 r
  have e := comb_ch n k h1 h2
  unfold combC at e
  by_cases c : (n : Int) < (k : Int)
  · rw [if_pos c] at e
    rw [← e] at q
    exact call_function_meets CombF.knd CombF.pln CombF.ent (CombF.ags _ _) (comb_zero (by omega) (by omega) c).meets ⟨.int _, H, I.tok _, ⟨_, rfl⟩, q⟩
  · rw [if_neg c] at e
    rw [← e] at q
    exact call_function_meets CombF.knd CombF.pln CombF.ent (CombF.ags _ _) (comb_run (by omega) (by omega) (by omega) (by omega)).meets ⟨.int _, H, I.tok _, ⟨_, rfl⟩, q⟩
section
variable {x : Fx}
def combW : WN := fun ds k => match ds with
  | [.int i, .int j] => ∃ n m : Nat, i = (n : Int) ∧ j = (m : Int) ∧ n ≤ 60 ∧ m ≤ 60 ∧ k (.dt (.int (ch n m : Nat)))
  | _ => False
theorem on_comb : ON x rComb combW := fun {M H us ds Q k} hM cs w q => by
  unfold combW at w
  split at w
  · obtain ⟨v, u, rfl, c, c2⟩ := par2 cs
    obtain ⟨n, m, rfl, rfl, h1, h2, w⟩ := w
    cases c.int
    cases c2.int
    exact ⟨n, m, rfl, h1, h2, q _ H _ (out_d (.int _)) w⟩
  · exact w.elim
end
end My

/-! lists of one's own within a list of one's own -/
namespace My
open PySem PySem.Spec PyProof.Rows L2
section
variable {x : Fx} {vs : List Nat}
variable {f : Fm} {L : List Addr} {P : List (V × Rv)} {σ : L2.St} {H : Hp} {e : Ev} {a b D : Addr} {rs : List Rv} {r : Rv} {v : V} {xs ys : List V} {ds es : List PyData} {i m : Nat}
theorem cntL_mem {c : Addr} : ∀ {rs : List Rv} {m : Nat} {r : Rv}, rs[m]? = some r → r.cnt c ≤ Rv.cntL c rs
  | r0 :: rs, 0, _, h => by
    cases h
    simp only [Rv.cntL]
    omega
  | r0 :: rs, m + 1, _, h => by
    have := cntL_mem (c := c) (rs := rs) (m := m) (by simpa using h)
    simp only [Rv.cntL]
    omega
theorem cntL_setO {c b : Addr} {k : Bool} {ds es : List PyData} : ∀ {rs : List Rv} {m : Nat}, rs[m]? = some (.own k b ds) → Rv.cntL c (rs.set m (.own k b es)) = Rv.cntL c rs
  | r0 :: rs, 0, h => by
    cases h
    rfl
  | r0 :: rs, m + 1, h => by
    have := cntL_setO (c := c) (es := es) (rs := rs) (m := m) (by simpa using h)
    rw [List.set_cons_succ]
    simp only [Rv.cntL]
    omega
theorem cntL_app (c : Addr) : ∀ rs ss : List Rv, Rv.cntL c (rs ++ ss) = Rv.cntL c rs + Rv.cntL c ss
  | [], ss => by simp [Rv.cntL]
  | r :: rs, ss => by
    simp only [List.cons_append, Rv.cntL]
    rw [cntL_app c rs ss]
    omega
theorem off_nodes (hb : b ∈ L) : ∀ c o, c ∉ L ++ f.M → H c = some o → (∀ ps, o ≠ .tbl ps) → c ∉ L ++ f.M ∧ upd H b (.lst ys) c = some o := fun c o n z _ =>
  ⟨n, by rw [upd_ne fun q => n (by rw [q]; exact List.mem_append_left _ hb)]; exact z⟩
theorem off_hn (h : H b = some (.lst xs)) : ∀ c o, H c = some o → (∀ ps, o ≠ .tbl ps) → Stays o → upd H b (.lst ys) c = some o := fun c o z _ n => by
  rw [upd_ne fun q => by rw [q, h] at z; cases z; exact n]
  exact z
theorem Rqs.off (hb : b ∈ L) (h : H b = some (.lst xs)) {ws : List V} (n : Rv.cntL b rs = 0) (q : Rqs f L H ws rs) : Rqs f L (upd H b (.lst ys)) ws rs :=
  q.map (off_nodes hb) (off_hn h) fun c hc => ⟨fun z => z, upd_ne fun q => by rw [q, n] at hc; omega⟩
theorem Rq.off (hb : b ∈ L) (h : H b = some (.lst xs)) (n : r.cnt b = 0) (q : Rq f L H v r) : Rq f L (upd H b (.lst ys)) v r :=
  q.map (off_nodes hb) (off_hn h) fun c hc => ⟨fun z => z, upd_ne fun q => by rw [q, n] at hc; omega⟩
theorem Rqs.setO (hb : b ∈ L) (h : H b = some (.lst xs)) (x : Dks f.K (L ++ f.M) H ys es) : ∀ {ws : List V} {rs : List Rv} {m : Nat}, Rqs f L H ws rs → Rv.cntL b rs ≤ 1 → rs[m]? = some (.own true b ds) → Rqs f L (upd H b (.lst ys)) ws (rs.set m (.own true b es))
  | _, r0 :: rs, 0, .cons q t, n, hm => by
    cases hm
    have n0 : Rv.cntL b rs = 0 := by
      simp only [Rv.cntL, Rv.cnt, if_pos] at n
      exact Nat.le_zero.mp (by omega)
    cases q with
    | own x1 x2 x3 x4 => exact .cons (.own x1 x2 upd_same (x.change (zs := []) (List.mem_append_left _ hb))) (t.off hb h n0)
  | _, r0 :: rs, m + 1, .cons q t, n, hm => by
    have hm : rs[m]? = some (.own true b ds) := by simpa using hm
    have c := cntL_mem (c := b) hm
    simp only [Rv.cntL] at n
    simp only [Rv.cnt, if_pos] at c
    exact .cons (q.off hb h (by omega)) (Rqs.setO hb h x t (by omega) hm)
/-- an inner list changes -/
theorem Stn.mutN (S : Stn f L P σ H e) (h : e[i]? = some (some (.nst a rs))) (hm : rs[m]? = some (.own true b ds)) (x : Dks f.K (L ++ f.M) H ys es) : Stn f L P σ (upd H b (.lst ys)) (e.set i (some (.nst a (rs.set m (.own true b es))))) := by
  obtain ⟨v, h1, h2⟩ := S.sl _ _ h
  have tk := S.takes h
  cases h2 with
  | nst x1 x2 x3 =>
    obtain ⟨w, hw, q⟩ := x3.get hm
    have c := cntL_mem (c := b) hm
    simp only [Rv.cnt, if_pos] at c
    have tb := tk b
    simp only [Rv.cnt] at tb
    have ab : ¬ b = a := fun z => by
      rw [if_pos z] at tb
      omega
    rw [if_neg ab] at tb
    cases q with
    | own y1 y2 y3 y4 =>
      have S1 := (S.clear (i := i)).change (ys := ys) (by omega) (Or.inl (y1 rfl)) y3
      have S2 := S1.give (i := i) h1 (.nst (a := a) x1 (by rw [upd_ne fun z => ab z.symm]; exact x2) (Rqs.setO (y1 rfl) y3 x x3 (by omega) hm)) fun c => by
        have tc := tk c
        rw [List.set_set]
        simp only [Rv.cnt] at tc ⊢
        rw [cntL_setO hm]
        exact tc
      rwa [List.set_set] at S2
/-- one more within -/
theorem Stn.joinN (S : Stn f L (P ++ [(.ref D, .nst D rs)] ++ [(v, r)]) σ H e) : ∃ xs, H D = some (.lst xs) ∧ xs.length = rs.length ∧ Stn f L (P ++ [(.ref D, .nst D (rs ++ [r]))]) σ (upd H D (.lst (xs ++ [v]))) e := by
  have q2 := S.last
  have q1 := S.pop.last
  have nd := S.nd
  cases q1 with
  | @nst _ xs _ x1 x2 x3 =>
    have nb : ∀ c, cE c e + cP c P + ((if c = D then 1 else 0) + Rv.cntL c rs) + r.cnt c ≤ 1 := fun c => by
      have := nd c
      rw [cP_app, cP_app, cP_one, cP_one] at this
      simp only [Rv.cnt] at this
      omega
    have nD := nb D
    rw [if_pos rfl] at nD
    refine ⟨xs, x2, x3.length, ((S.pop.pop).change (by omega) (Or.inl x1) x2).push (.nst x1 upd_same ((x3.off x1 x2 (by omega)).append (.cons (q2.off x1 x2 (by omega)) .nil))) fun c => ?_⟩
    have := nb c
    simp only [Rv.cnt]
    rw [cntL_app]
    simp only [Rv.cntL]
    omega
theorem Stn.toN (S : Stn f L (P ++ [(.ref D, .own true D [])]) σ H e) : Stn f L (P ++ [(.ref D, .nst D [])]) σ H e := by
  have q := S.last
  have nd := S.nd
  cases q with
  | own x1 x2 x3 x4 =>
    cases x4
    refine S.pop.push (.nst (x1 rfl) x3 .nil) fun c => ?_
    have := nd c
    rw [cP_app, cP_one] at this
    simp only [Rv.cnt, Rv.cntL] at this ⊢
    omega
/-- a name's things, frozen -/
def dFzV (i : Nat) : DE := fun e Q => match e[i]? with
  | some (some r) => match r.fz with
    | some d => Q (.dat d) (e.set i (some (.dat d)))
    | none => False
  | _ => False
theorem le_fzV {i : Nat} : LE x (tVar i) (dFzV i) := fun {f L P σ H e Q Qd} hf S h q => by
  unfold dFzV at h
  split at h
  · rename_i r he
    split at h
    · rename_i d hd
      obtain ⟨v, hs, rq⟩ := S.sl _ _ he
      obtain ⟨L', S1⟩ := (S.clear.push rq (S.takes he)).freeze hd
      have S2 := S1.give (i := i) hs S1.last fun b => by
        have := S1.nd b
        rw [List.set_set]
        simp only [Rv.cnt]
        omega
      rw [List.set_set] at S2
      exact ⟨v, hs, q _ _ _ _ _ S2 h⟩
    · exact h.elim
  · exact h.elim
/-- xs[i][j] = v -/
def dgSub2 (i : Nat) (di dj : DE) : DG := fun r e Q => match r with
  | .dat d => (∃ a rs, e[i]? = some (some (.nst a rs))) ∧ di e fun ri e1 => match ri with
    | .dat (.int m) => ∃ a rs mi b ds, e1[i]? = some (some (.nst a rs)) ∧ ixN rs.length m = some mi ∧ rs[mi]? = some (.own true b ds) ∧ dj e1 fun rj e2 => match rj with
      | .dat (.int n) => ∃ ni, e2[i]? = some (some (.nst a rs)) ∧ ixN ds.length n = some ni ∧ Q (e2.set i (some (.nst a (rs.set mi (.own true b (ds.set ni d))))))
      | _ => False
    | _ => False
  | _ => False
theorem lg_sub2 {i : Nat} {ti tj : TE} {di dj : DE} (h1 : LE x ti di) (h2 : LE x tj dj) : LG x vs (gSub (tOp (rIx x.K) (tVar i) ti) tj rSetL) (dgSub2 i di dj) := fun {f L P σ H e v r Q Qd} hf S hd q => by
  unfold dgSub2 at hd
  split at hd
  · rename_i d
    obtain ⟨⟨a0, rs0, h0⟩, hd⟩ := hd
    obtain ⟨v0, s0, q0⟩ := S.sl _ _ h0
    have ev0 : v0 = .ref a0 := by cases q0; rfl
    subst ev0
    refine ⟨_, s0, h1 hf S hd fun vi ri L1 H1 e1 S1 k1 => ?_⟩
    subst hf
    split at k1
    · rename_i m0
      obtain ⟨a, rs, mi, b, ds, he, hm, hr, k1⟩ := k1
      have z := S1.last
      cases z with
      | dat z =>
        cases z.int_inv
        obtain ⟨v1, s1, q1⟩ := S1.sl _ _ he
        rw [s0] at s1
        cases s1
        cases q1 with
        | nst x1 x2 x3 =>
          obtain ⟨w, hw, qw⟩ := x3.get hr
          have ew : w = .ref b := by cases qw; rfl
          subst ew
          refine Or.inl ⟨_, _, m0, .ref b, rfl, rfl, SqL.of x2, ?_, h2 rfl S1.pop k1 fun vj rj L2 H2 e2 S2 k2 => ?_⟩
          · unfold atI
            rw [x3.length, hm]
            exact hw
          · split at k2
            · rename_i n0
              obtain ⟨ni, he2, hn, k2⟩ := k2
              have z2 := S2.last
              cases z2 with
              | dat z2 =>
                cases z2.int_inv
                have S3 := S2.pop
                have dx : Dk f.K (L2 ++ f.M) H2 v d := by
                  have z := S3.last
                  cases z with
                  | dat z => exact z
                obtain ⟨v2, s2, q2⟩ := S2.sl _ _ he2
                cases q2 with
                | nst y1 y2 y3 =>
                  obtain ⟨w2, hw2, qw2⟩ := y3.get hr
                  cases qw2 with
                  | own t1 t2 t3 t4 =>
                    exact ⟨_, _, _, ni, rfl, rfl, t3, (by rw [t4.length]; exact hn), q _ _ _ _ (S3.pop.mutN he2 hr (t4.set ni dx)) (fun _ _ => rfl) rfl k2⟩
            · exact k2.elim
    · exact k1.elim
  · exact hd.elim
/-! ### comprehensions of one's own things -/
def lcLoopN (src : Src) (all : List PyData) (g : DG) (el : DE) (vs : List Nat) (fin : List Rv → Ev → Prop) : List PyData → List Rv → Ev → Prop
  | [], acc, e => fin acc e
  | d :: ds, acc, e => g (.dat d) (wipeE e vs) fun e2 => el e2 fun r e4 => acc.length < 100000 ∧ items (wipeE e4 vs) src = some all ∧ lcLoopN src all g el vs fin ds (acc ++ [r]) (wipeE e4 vs)
def dLcN (di : DI) (g : DG) (el : DE) (vs : List Nat) : DE := fun e Q => di e fun src e1 => ∃ ds, items e1 src = some ds ∧ items (wipeE e1 vs) src = some ds ∧ lcLoopN src ds g el vs (fun acc e2 => ∀ a, Q (.nst a acc) e2) ds [] (wipeE e1 vs)
theorem le_lcN {wi : TI} {g : TG} {te : TE} {di : DI} {dg : DG} {de : DE} (hi : LI x wi di) (hg : LG x vs g dg) (he : LE x te de) : LE x (tLc wi g tYes te vs) (dLcN di dg de vs) := fun {f L P σ H e Q Qd} hf S hd q => by
  refine hi hf S hd (fun src e1 z => ?_) fun J ps src L1 H1 e1 ds' G Y S1 h1 I k1 D hD => ?_
  · obtain ⟨ds, h, _⟩ := z
    rw [h]
    rfl
  · obtain ⟨ds, h2, h3, lp⟩ := k1
    cases h1.symm.trans h2
    have S0 : Stn f (D :: L1) (P ++ ps ++ [(.ref D, .nst D [])]) σ (upd H1 D (.lst [])) (wipeE e1 vs) := ((S1.wipe rfl fun _ _ => rfl).fresh hD .nil).toN
    refine L2.lc_it I.w (fun i H' => ∃ L' e' acc, Stn f L' (P ++ ps ++ [(.ref D, .nst D acc)]) σ H' e' ∧ items e' src = some ds' ∧ (∃ e0, e' = wipeE e0 vs) ∧ lcLoopN src ds' dg de vs (fun acc e2 => ∀ a, Qd (.nst a acc) e2) (ds'.drop i) acc e')
      ⟨_, _, _, S0, h3, ⟨e1, rfl⟩, by rw [List.drop_zero]; exact lp⟩ (fun i H' hi hW => ?_) (fun i w H' H2 hi hW hY => ?_) (fun H' hW => ?_)
    · obtain ⟨L', e', acc, S2, g1, _, _⟩ := hW
      exact I.g S2 g1
    · obtain ⟨L', e', acc, S2, g1, ⟨e0, rfl⟩, lp⟩ := hW
      obtain ⟨d, hd, s, dk⟩ := I.y S2 g1 hi hY
      have S3 := (S2.grow s)
      have S4 : Stn f L' (P ++ ps ++ [(.ref D, .nst D acc)]) (wipe σ vs) H2 (wipeE (wipeE e0 vs) vs) := S3.wipe (wipe_length _ _) fun j hj => wipe_ne hj
      rw [List.drop_eq_getElem_cons hi] at lp
      have ed : ds'[i] = d := by
        rw [List.getElem?_eq_getElem hi] at hd
        exact Option.some.inj hd
      rw [ed] at lp
      unfold lcLoopN at lp
      refine hg hf (S4.pushD dk) lp fun L5 σ5 H5 e5 S5 j5 l5 k5 => ?_
      have back : ∀ j, j ∉ vs → σ[j]? = σ5[j]? := fun j hj => ((j5 j hj).trans (wipe_ne hj)).symm
      have lb : σ.length = σ5.length := (l5.trans (wipe_length _ _)).symm
      refine ⟨wipe_eq lb.symm fun j hj => (back j hj).symm, ?_⟩
      refine (show tYes σ5 H5 _ from ?_)
      unfold tYes
      dsimp only
      rw [if_pos rfl]
      refine he hf S5 k5 fun y r L7 H7 e7 S7 k7 => ?_
      obtain ⟨hz, g2, lp2⟩ := k7
      have S8 := S7.wipe (σ' := σ) (vs := vs) lb back
      obtain ⟨xs, hx, hl, S9⟩ := S8.joinN
      exact ⟨_, hx, sz_lt (by omega), L7, _, acc ++ [r], S9, g2, ⟨e7, rfl⟩, lp2⟩
    · obtain ⟨L', e', acc, S2, g1, _, lp⟩ := hW
      rw [List.drop_length] at lp
      have S3 : Stn f L' (P ++ [(.ref D, .nst D acc)]) σ H' e' := S2.mid
      exact q _ _ _ _ _ S3 (lp D)
end
end My

/-! comprehensions with two for -/
namespace My
open PySem PySem.Spec PyProof.Rows L2
section
variable {J : It} {n : Nat} {G : Hp → Prop} {Y : Nat → Hp → V → Hp → Prop}
/-- a loop by what holds ahead of each turn; B: what a turn must do -/
theorem loop_W {B : Nat → (Hp → Prop) → V → Hp → Prop} {F : Hp → Prop} {H0 : Hp} (w : Walk J n G Y) (Pv : Nat → Hp → Prop) (h0 : Pv 0 H0) (hG : ∀ i H, i ≤ n → Pv i H → G H)
    (hs : ∀ i u H H', i < n → Pv i H → Y i H u H' → B i (Pv (i + 1)) u H') (hd : ∀ H, Pv n H → F H) :
    ∃ W : Nat → Nat → Hp → Prop, (∃ m, W 0 m H0) ∧ ∀ i m H, W i m H → (J.stop i H ∧ F H) ∨ (J.go i H ∧ ∃ Nx : Hp → Prop, (∀ H', Nx H' → ∃ m', m' < m ∧ W (i + 1) m' H') ∧ ∀ u H', J.yld i H u H' → B i Nx u H') := by
  refine ⟨fun i m H => (m + i = n) ∧ Pv i H, ⟨n, rfl, h0⟩, fun i m H hW => ?_⟩
  obtain ⟨hm, p⟩ := hW
  have g := hG i H (by omega) p
  rcases Nat.lt_or_ge i n with c | c
  · exact Or.inr ⟨w.goes i H c g, Pv (i + 1), fun H' p' => ⟨n - (i + 1), by omega, by omega, p'⟩, fun u H' y => hs i u H H' c p (w.yields i H u H' c g y)⟩
  · have e : i = n := by omega
    subst e
    exact Or.inl ⟨w.stops H g, hd H p⟩
end
section
variable {x : Fx} {vs : List Nat}
variable {f : Fm} {L : List Addr} {P R : List (V × Rv)} {σ : L2.St} {H : Hp} {e : Ev}
theorem Stn.back (S : Stn f L (P ++ R) σ H e) : Stn f L R σ H e :=
  ⟨S.gd, S.sm, S.fr, S.al0, S.bm, S.al, fun a => by have := S.nd a; rw [cP_app] at this; omega, S.ln, S.sl, fun p hp => S.pd p (List.mem_append_right _ hp)⟩
theorem Itm.front {ps : List (V × Rv)} {src : Src} {ds : List PyData} {J : It} {G : Hp → Prop} {Y : Nat → Hp → V → Hp → Prop} (I : Itm f ps src ds J G Y) (P : List (V × Rv)) : Itm f (P ++ ps) src ds J G Y :=
  ⟨I.w, fun {L R σ H e} S => I.g (by rw [List.append_assoc] at S; exact S.back), fun {L R σ H e i v H'} S => I.y (by rw [List.append_assoc] at S; exact S.back)⟩
/-- what is walked, by what it keeps pending alone -/
def LI2 (x : Fx) (wi : TI) (di : DI) : Prop := ∀ {f : Fm} {L : List Addr} {P : List (V × Rv)} {σ : L2.St} {H : Hp} {e : Ev} {R : It → Hp → Prop} {Qd : Src → Ev → Prop}, f.toFx = x → Stn f L P σ H e →
  di e Qd → (∀ src e1, Qd src e1 → (items e1 src).isSome = true) →
  (∀ J ps src L' H' e' ds G Y, Stn f L' (P ++ ps) σ H' e' → items e' src = some ds → Itm f ps src ds J G Y → Qd src e' → R J H') → wi σ H R
theorem li2_rng1 {ta : TA} {da : DA} (h : LA x ta da) : LI2 x (iRng1 ta) (diRng1 da) := fun {f L P σ H e R Qd} hf S hd _ q =>
  h hf S hd fun ps L1 H1 e1 S1 k1 => by
    split at k1
    · rename_i j hj
      match ps, hj with
      | [(v, .dat (.int _))], rfl =>
        have z := S1.last
        cases z with
        | dat z =>
          cases z.int_inv
          exact ⟨_, rfl, k1.1, k1.2.1, q _ [] (.rng 0 1 j.toNat) _ _ _ _ _ _ (by rw [List.append_nil]; exact S1.pop) rfl (itm_rng walk_rng1) k1.2.2⟩
    · exact k1.elim
theorem li2_rng2 {ta : TA} {da : DA} (h : LA x ta da) : LI2 x (iRng2 ta) (diRng2 da) := fun {f L P σ H e R Qd} hf S hd _ q =>
  h hf S hd fun ps L1 H1 e1 S1 k1 => by
    split at k1
    · rename_i i j hj
      match ps, hj with
      | [(v, .dat (.int _)), (u, .dat (.int _))], rfl =>
        have z := S1.pd (u, .dat (.int j)) (by simp)
        have z2 := S1.pd (v, .dat (.int i)) (by simp)
        cases z with
        | dat z =>
          cases z.int_inv
          cases z2 with
          | dat z2 =>
            cases z2.int_inv
            exact ⟨_, _, rfl, k1.1, q _ [] (.rng i 1 (j - i).toNat) _ _ _ _ _ _ (by rw [List.append_nil]; exact S1.pop) rfl (itm_rng walk_rng1) k1.2⟩
    · exact k1.elim
theorem li2_rngV {te : TE} {de : DE} (h : LE x te de) : LI2 x (iRngV te) (diRngV de) := fun {f L P σ H e R Qd} hf S hd _ q =>
  h hf S hd fun v r L1 H1 e1 S1 k1 => by
    split at k1
    · rename_i lo hi
      have z := S1.last
      cases z with
      | rg n hx => exact ⟨_, lo, hi, rfl, hx, k1.1, q _ [] (.rng lo 1 (hi - lo).toNat) _ _ _ _ _ _ (by rw [List.append_nil]; exact S1.pop) rfl (itm_rng L2.walk_rangeC) k1.2⟩
    · exact k1.elim
theorem li2_seq {te : TE} {de : DE} (h : LE x te de) : LI2 x (iSeq x.K te) (diSeq de) := fun {f L P σ H e R Qd} hf S hd hq q =>
  h hf S hd fun v r L1 H1 e1 S1 k1 => by
    subst hf
    have k2 := k1
    obtain ⟨ds, hds⟩ := some_of (hq _ _ k1)
    have hb : (rd e1 r).bind seqOf = some ds := hds
    obtain ⟨a, rfl, lt⟩ := lort (v := v) (r := r) (by simp) (S1.back) hb
    have S1' : Stn f L1 ([(V.ref a, r)] ++ []) σ H1 e1 := by rw [List.append_nil]; exact S1.back
    rcases lt with lt | lt
    · obtain ⟨xs', l1, _⟩ := lt.get S1' hb
      refine ⟨a, rfl, Or.inl ⟨⟨xs', l1⟩, q (Itl f.K a) [(.ref a, r)] (.seq r) _ _ _ ds (fun H => ∃ xs, SqL f.K H a xs ∧ xs.length = ds.length) (fun i H u H' => H' = H ∧ ∀ xs, SqL f.K H a xs → xs[i]? = some u) S1 hds ⟨⟨?_, ?_, ?_⟩, ?_, ?_⟩ k2⟩⟩
      · rintro i H hi ⟨xs, g1, g2⟩
        exact ⟨xs, xs[i]'(by omega), g1, List.getElem?_eq_getElem (by omega)⟩
      · rintro H ⟨xs, g1, g2⟩
        exact ⟨xs, g1, by omega⟩
      · intro i H u H' hi _ y
        exact y
      · intro L R σ H e S hi
        obtain ⟨xs, g1, g2⟩ := lt.get S hi
        exact ⟨xs, g1, g2.length⟩
      · intro L R σ H e i v H' S hi hlt y
        obtain ⟨rfl, y⟩ := y
        obtain ⟨xs, g1, g2⟩ := lt.get S hi
        obtain ⟨d, e1, e2⟩ := g2.getV (y xs g1)
        exact ⟨d, e1, Sn.refl, e2⟩
    · obtain ⟨xs', l1, _⟩ := lt.get S1' hb
      refine ⟨a, rfl, Or.inr ⟨⟨xs', l1⟩, q (Itt f.K a) [(.ref a, r)] (.seq r) _ _ _ ds (fun H => ∃ xs, SqT f.K H a xs ∧ xs.length = ds.length) (fun i H u H' => H' = H ∧ ∀ xs, SqT f.K H a xs → xs[i]? = some u) S1 hds ⟨⟨?_, ?_, ?_⟩, ?_, ?_⟩ k2⟩⟩
      · rintro i H hi ⟨xs, g1, g2⟩
        exact ⟨xs, xs[i]'(by omega), g1, List.getElem?_eq_getElem (by omega)⟩
      · rintro H ⟨xs, g1, g2⟩
        exact ⟨xs, g1, by omega⟩
      · intro i H u H' hi _ y
        exact y
      · intro L R σ H e S hi
        obtain ⟨xs, g1, g2⟩ := lt.get S hi
        exact ⟨xs, g1, g2.length⟩
      · intro L R σ H e i v H' S hi hlt y
        obtain ⟨rfl, y⟩ := y
        obtain ⟨xs, g1, g2⟩ := lt.get S hi
        obtain ⟨d, e1, e2⟩ := g2.getV (y xs g1)
        exact ⟨d, e1, Sn.refl, e2⟩
/-! ### the two loops -/
def lcIn (src1 : Src) (all1 : List PyData) (g1 : DG) (el : DE) (vs1 : List Nat) (nxt : List PyData → Ev → Prop) : List PyData → List PyData → Ev → Prop
  | [], acc, e => nxt acc e
  | d :: ds, acc, e => g1 (.dat d) (wipeE e vs1) fun e2 => el e2 fun r e4 => match r with
      | .dat y => acc.length < 100000 ∧ items (wipeE e4 vs1) src1 = some all1 ∧ lcIn src1 all1 g1 el vs1 nxt ds (acc ++ [y]) (wipeE e4 vs1)
      | _ => False
def lcOut (src : Src) (all : List PyData) (g : DG) (di1 : DI) (g1 : DG) (el : DE) (vs vs1 : List Nat) (fin : List PyData → Ev → Prop) : List PyData → List PyData → Ev → Prop
  | [], acc, e => fin acc e
  | d :: ds, acc, e => g (.dat d) (wipeE e vs) fun e2 => di1 e2 fun src1 e3 => ∃ all1, items e3 src1 = some all1 ∧ items (wipeE e3 vs1) src1 = some all1 ∧
      lcIn src1 all1 g1 el vs1 (fun acc' e5 => items (wipeE e5 vs) src = some all ∧ lcOut src all g di1 g1 el vs vs1 fin ds acc' (wipeE e5 vs)) all1 acc (wipeE e3 vs1)
def dLc2 (di : DI) (g : DG) (di1 : DI) (g1 : DG) (el : DE) (vs vs1 : List Nat) : DE := fun e Q => di e fun src e1 => ∃ ds, items e1 src = some ds ∧ items (wipeE e1 vs) src = some ds ∧ lcOut src ds g di1 g1 el vs vs1 (fun acc e2 => ∀ a, Q (.own true a acc) e2) ds [] (wipeE e1 vs)
theorem le_lc2 {wi wi1 : TI} {g g1 : TG} {te : TE} {vs vs1 : List Nat} {di di1 : DI} {dg dg1 : DG} {de : DE} (hi : LI x wi di) (hg : LG x vs g dg) (hi1 : LI2 x wi1 di1) (hg1 : LG x vs1 g1 dg1) (he : LE x te de) (sub : ∀ j ∈ vs1, j ∈ vs) :
    LE x (tLc2 wi g tYes wi1 g1 tYes te vs vs1) (dLc2 di dg di1 dg1 de vs vs1) := fun {f L P σ H e Q Qd} hf S hd q => by
  refine hi hf S hd (fun src e1 z => ?_) fun J ps src L1 H1 e1 ds' G Y S1 h1 I k1 D hD => ?_
  · obtain ⟨ds, h, _⟩ := z
    rw [h]
    rfl
  obtain ⟨ds, h2, h3, lp⟩ := k1
  cases h1.symm.trans h2
  have S0 : Stn f (D :: L1) (P ++ ps ++ [(.ref D, .own true D [])]) σ (upd H1 D (.lst [])) (wipeE e1 vs) := (S1.wipe rfl fun _ _ => rfl).fresh hD .nil
  refine loop_W I.w (fun i H' => ∃ L' e' acc, Stn f L' (P ++ ps ++ [(.ref D, .own true D acc)]) σ H' e' ∧ items e' src = some ds' ∧ (∃ e0, e' = wipeE e0 vs) ∧ lcOut src ds' dg di1 dg1 de vs vs1 (fun acc e2 => ∀ a, Qd (.own true a acc) e2) (ds'.drop i) acc e')
    ⟨_, _, _, S0, h3, ⟨e1, rfl⟩, by rw [List.drop_zero]; exact lp⟩ (fun i H' hi hW => ?_) (fun i_ w H' H2 hi hW hY => ?_) (fun H' hW => ?_)
  · obtain ⟨L', e', acc, S2, g1, _, _⟩ := hW
    exact I.g S2 g1
  · obtain ⟨L', e', acc, S2, gg, ⟨e0, rfl⟩, lp⟩ := hW
    obtain ⟨d, hd, s, dk⟩ := I.y S2 gg hi hY
    have S3 := (S2.grow s)
    have S4 : Stn f L' (P ++ ps ++ [(.ref D, .own true D acc)]) (wipe σ vs) H2 (wipeE (wipeE e0 vs) vs) := S3.wipe (wipe_length _ _) fun j hj => wipe_ne hj
    rw [List.drop_eq_getElem_cons hi] at lp
    have ed : ds'[i_] = d := by
      rw [List.getElem?_eq_getElem hi] at hd
      exact Option.some.inj hd
    rw [ed] at lp
    unfold lcOut at lp
    refine hg hf (S4.pushD dk) lp fun L5 σ5 H5 e5 S5 j5 l5 k5 => ?_
    have back : ∀ j, j ∉ vs → σ[j]? = σ5[j]? := fun j hj => ((j5 j hj).trans (wipe_ne hj)).symm
    have lb : σ.length = σ5.length := (l5.trans (wipe_length _ _)).symm
    refine ⟨wipe_eq lb.symm fun j hj => (back j hj).symm, ?_⟩
    unfold tYes
    dsimp only
    rw [if_pos rfl]
    refine hi1 hf S5 k5 (fun src1 e6 z => ?_) fun J1 ps1 src1 L6 H6 e6 all1 G1 Y1 S6 g6 I1 k6 => ?_
    · obtain ⟨al, h, _⟩ := z
      rw [h]
      rfl
    obtain ⟨al, h7, h8, lp1⟩ := k6
    cases g6.symm.trans h7
    have S7 : Stn f L6 (P ++ ps ++ ps1 ++ [(.ref D, .own true D acc)]) σ5 H6 (wipeE e6 vs1) := by
      have z : Stn f L6 (P ++ ps ++ (V.ref D, Rv.own true D acc) :: ps1) σ5 H6 e6 := by
        rw [List.append_assoc (P ++ ps)] at S6
        exact S6
      exact z.swap.wipe rfl fun _ _ => rfl
    have I2 := I1.front (P ++ ps)
    refine loop_W I2.w (fun i H' => ∃ L' e' acc, Stn f L' (P ++ ps ++ ps1 ++ [(.ref D, .own true D acc)]) σ5 H' e' ∧ items e' src1 = some all1 ∧ (∃ e0, e' = wipeE e0 vs1) ∧ lcIn src1 all1 dg1 de vs1 (fun acc' e5 => items (wipeE e5 vs) src = some ds' ∧ lcOut src ds' dg di1 dg1 de vs vs1 (fun acc e2 => ∀ a, Qd (.own true a acc) e2) (ds'.drop (i_ + 1)) acc' (wipeE e5 vs)) (all1.drop i) acc e')
      ⟨_, _, _, S7, h8, ⟨e6, rfl⟩, by rw [List.drop_zero]; exact lp1⟩ (fun i H' hi hW => ?_) (fun i w H' H2 hi hW hY => ?_) (fun H' hW => ?_)
    · obtain ⟨L', e', acc, S2, g1, _, _⟩ := hW
      exact I2.g S2 g1
    · obtain ⟨L', e', acc, S2, gg, ⟨e0, rfl⟩, lp⟩ := hW
      obtain ⟨d, hd, s, dk⟩ := I2.y S2 gg hi hY
      have S3 := (S2.grow s)
      have S4 : Stn f L' (P ++ ps ++ ps1 ++ [(.ref D, .own true D acc)]) (wipe σ5 vs1) H2 (wipeE (wipeE e0 vs1) vs1) := S3.wipe (wipe_length _ _) fun j hj => wipe_ne hj
      rw [List.drop_eq_getElem_cons hi] at lp
      have ed : all1[i] = d := by
        rw [List.getElem?_eq_getElem hi] at hd
        exact Option.some.inj hd
      rw [ed] at lp
      unfold lcIn at lp
      refine hg1 hf (S4.pushD dk) lp fun L8 σ8 H8 e8 S8 j8 l8 k8 => ?_
      have back8 : ∀ j, j ∉ vs1 → σ5[j]? = σ8[j]? := fun j hj => ((j8 j hj).trans (wipe_ne hj)).symm
      have lb8 : σ5.length = σ8.length := (l8.trans (wipe_length _ _)).symm
      refine ⟨wipe_eq lb8.symm fun j hj => (back8 j hj).symm, ?_⟩
      rw [if_pos rfl]
      refine he hf S8 k8 fun y r L7 H7 e7 S7 k7 => ?_
      split at k7
      · rename_i dy
        obtain ⟨hz, g2, lp2⟩ := k7
        have dk7 : Dk f.K (L7 ++ f.M) H7 y dy := by
          have z := S7.last
          cases z with
          | dat z => exact z
        have S8 := (S7.pop).wipe (σ' := σ5) (vs := vs1) lb8 back8
        have z := S8.last
        cases z with
        | own _ _ hx dd => exact ⟨_, hx, sz_lt (by have := dd.length; omega), L7, _, acc ++ [dy], S8.mutateP (dd.snoc dk7), g2, ⟨e7, rfl⟩, lp2⟩
      · exact k7.elim
    · obtain ⟨L', e', acc, S2, g1, ⟨e0, rfl⟩, lp⟩ := hW
      rw [List.drop_length] at lp
      unfold lcIn at lp
      have S3 := (S2.mid).wipe (σ' := σ) (vs := vs) lb back
      exact ⟨L', _, acc, S3, lp.1, ⟨_, rfl⟩, lp.2⟩
  · obtain ⟨L', e', acc, S2, g1, _, lp⟩ := hW
    rw [List.drop_length] at lp
    have S3 : Stn f L' (P ++ [(.ref D, .own true D acc)]) σ H' e' := S2.mid
    exact q _ _ _ _ _ S3 (lp D)
end
end My

/-! a dict of the module with text keys; a written dict asked once -/
namespace My
open PySem PySem.Spec PyProof.Rows L2
/-- where it stands, what its keys hold -/
structure KTab (K : PySem.W.Frag) (w : World) (a : Addr) (ds : List (Str × PyData)) : Prop where
  ex : ∃ es n, K.lookup a = some ⟨.type "dict", none, .dict es n, #[]⟩ ∧ PySem.W.KeysLit w.params es.toList
  low : (a == sysModules) = false
  hit : ∀ p ∈ ds, ∃ u v, PySem.W.nsIn K a p.1 = some (some u) ∧ RelV v u ∧ ∀ M H, Dk K M H v p.2
mutual
/-- the module's value u is the data d -/
def ktB (K : PySem.W.Frag) : PyData → Value → Bool
  | .int i, u => match u with
    | .int j _ => decide (i = j)
    | _ => false
  | .tuple ds, u => match u with
    | .ref a => match K.lookup a with
      | some ⟨.type c, _, .seq its _, _⟩ => decide (c = "tuple") && (decide (its.size ≤ 1000) && ktsB K ds its.toList)
      | _ => false
    | _ => false
  | _, _ => false
def ktsB (K : PySem.W.Frag) : List PyData → List Value → Bool
  | [], us => us.isEmpty
  | d :: ds, us => match us with
    | u :: us => ktB K d u && ktsB K ds us
    | [] => false
end
theorem ba2 {a b : Bool} (h : (a && b) = true) : a = true ∧ b = true := by simpa using h
mutual
theorem ktB_ok {K : PySem.W.Frag} : ∀ (d : PyData) (u : Value), ktB K d u = true → ∃ v, RelV v u ∧ ∀ M H, Dk K M H v d
  | .int i, u, h => by
    cases u with
    | int j t =>
      simp only [ktB] at h
      have h := of_decide_eq_true h
      subst h
      exact ⟨.int i, ⟨t, rfl⟩, fun _ _ => .int i⟩
    | _ => simp [ktB] at h
  | .tuple ds, u, h => by
    cases u with
    | ref a =>
      simp only [ktB] at h
      split at h
      · rename_i c od its n sl hl
        obtain ⟨h1, h2⟩ := ba2 h
        obtain ⟨h3, h4⟩ := ba2 h2
        have h1 := of_decide_eq_true h1
        subst h1
        obtain ⟨vs, r, dk⟩ := ktsB_ok ds its.toList h4
        exact ⟨.ref a, rfl, fun M H => .ktup (xs := vs) (fun H' => Or.inr ⟨_, its, n, hl, rfl, rfl, Nat.le_trans (of_decide_eq_true h3) (by decide), r⟩) (dk M H)⟩
      · cases h
    | _ => simp [ktB] at h
  | .none, _, h => by simp [ktB] at h
  | .bool _, _, h => by simp [ktB] at h
  | .str _, _, h => by simp [ktB] at h
  | .list _, _, h => by simp [ktB] at h
  | .dict _, _, h => by simp [ktB] at h
theorem ktsB_ok {K : PySem.W.Frag} : ∀ (ds : List PyData) (us : List Value), ktsB K ds us = true → ∃ vs, Vals vs us ∧ ∀ M H, Dks K M H vs ds
  | [], us, h => by
    cases us with
    | nil => exact ⟨[], .nil, fun _ _ => .nil⟩
    | cons _ _ => simp [ktsB] at h
  | d :: ds, us, h => by
    cases us with
    | nil => simp [ktsB] at h
    | cons u us =>
      simp only [ktsB] at h
      obtain ⟨h1, h2⟩ := ba2 h
      obtain ⟨v, r, dk⟩ := ktB_ok d u h1
      obtain ⟨vs, rs, dks⟩ := ktsB_ok ds us h2
      exact ⟨v :: vs, .cons r rs, fun M H => .cons (dk M H) (dks M H)⟩
end
def kdB (K : PySem.W.Frag) (a : Addr) (ds : List (Str × PyData)) : Bool := ds.all fun p => match PySem.W.nsIn K a p.1 with
  | some (some u) => ktB K p.2 u
  | _ => false
theorem ktab {K : PySem.W.Frag} {w : World} {a : Addr} {ds : List (Str × PyData)} {es : Array DictEntry} {n : Nat} (l : K.lookup a = some ⟨.type "dict", none, .dict es n, #[]⟩) (k : PySem.W.KeysLit w.params es.toList) (low : (a == sysModules) = false) (b : kdB K a ds = true) : KTab K w a ds :=
  ⟨⟨es, n, l, k⟩, low, fun p hp => by
    have h := List.all_eq_true.mp b p hp
    split at h
    · rename_i u e
      obtain ⟨v, r, dk⟩ := ktB_ok p.2 u h
      exact ⟨u, v, e, r, dk⟩
    · cases h⟩
theorem mixOf {K : PySem.W.Frag} {h : Heap} {a : Addr} {es : Array DictEntry} {n : Nat} {prog : Program} {w : World} (X : K.In h) (hl : K.lookup a = some ⟨.type "dict", none, .dict es n, #[]⟩) (hk : PySem.W.KeysLit w.params es.toList) :
    h.MapOf (mixKind prog w) a fun k => findBy keyIs es k :=
  ⟨_, es, n, X _ _ hl, ⟨rfl, rfl, rfl⟩, rfl, fun e he => by
    obtain ⟨y, t, e1, e2⟩ := hk.all e (Array.mem_toList_iff.mpr he)
    exact ⟨.inr y, by rw [e1]; exact mixKind_str prog w y t, e2⟩, fun _ => rfl⟩
theorem mix_none {es : Array DictEntry} {P : Params} (hk : PySem.W.KeysLit P es.toList) (i : Int) : findBy keyIs es (.inl i) = none := by
  unfold findBy
  have : es.find? (fun e => keyIs (.inl i) e.key) = none := by
    rw [Array.find?_eq_none]
    intro e he z
    obtain ⟨y, t, e1, _⟩ := hk.all e (Array.mem_toList_iff.mpr he)
    rw [e1] at z
    simp [keyIs, Value.isInt] at z
  rw [this]
  rfl
theorem mix_some {K : PySem.W.Frag} {a : Addr} {es : Array DictEntry} {n : Nat} {s : Str} {u : Value} (hl : K.lookup a = some ⟨.type "dict", none, .dict es n, #[]⟩) (e : PySem.W.nsIn K a s = some (some u)) : findBy keyIs es (.inr s) = some u :=
  (show findBy keyIs es (.inr s) = findBy Value.isStrOf es s from rfl).trans (PySem.W.find_K hl e)
def rInKD (a : Addr) (ds : List (Str × PyData)) : R2 := fun x y H Q => y = .ref a ∧ ((∃ i, x = .int i ∧ Q (.bl false) H) ∨ ∃ s d, x = .str s ∧ (s, d) ∈ ds ∧ Q (.bl true) H)
def rIxKD (K : PySem.W.Frag) (a : Addr) (ds : List (Str × PyData)) : R2 := fun x y H Q => x = .ref a ∧ ∃ s d, y = .str s ∧ (s, d) ∈ ds ∧ ∀ v, (∀ M H, Dk K M H v d) → Q v H
section
variable {X : Cx} {K : PySem.W.Frag} {w : World} {a : Addr} {ds : List (Str × PyData)}
theorem op_inKD (T : KTab K w a ds) (h : X.K = K := by rfl) (hw : X.w = w := by rfl) : OpR X (compareOp .In) (rInKD a ds) := by
  subst h
  subst hw
  intro pins s σ H x y v u Q I rx ry hh
  obtain ⟨rfl, hh⟩ := hh
  cases (show u = Value.ref a from ry)
  obtain ⟨es, n, hl, hk⟩ := T.ex
  have M := mixOf (prog := X.prog) I.kIn hl hk
  rcases hh with ⟨i, rfl, q⟩ | ⟨z, d0, rfl, hm, q⟩
  · obtain ⟨t, rfl⟩ := (show ∃ t, v = Value.int i t from rx)
    refine wpAny_in_of (mixKind_int X.prog X.w i t) T.low M ?_
    rw [mix_none hk]
    exact ⟨.bl false, H, I.tok _, rfl, q⟩
  · obtain ⟨t, rfl⟩ := (show ∃ t, v = Value.str z t from rx)
    obtain ⟨u0, v0, e, _⟩ := T.hit _ hm
    refine wpAny_in_of (mixKind_str X.prog X.w z t) T.low M ?_
    rw [mix_some hl e]
    exact ⟨.bl true, H, I.tok _, rfl, q⟩
theorem ix_KD (T : KTab K w a ds) (h : X.K = K := by rfl) (hw : X.w = w := by rfl) : IxR X (rIxKD K a ds) := by
  subst h
  subst hw
  intro value slice pins s σ H x y v u Q I rx ry hh hs
  obtain ⟨rfl, z, d0, rfl, hm, q⟩ := hh
  obtain ⟨es, n, hl, hk⟩ := T.ex
  obtain ⟨u0, v0, e, r, dk⟩ := T.hit _ hm
  exact ix_kdict value slice pins s σ H _ _ v u Q I rx ry ⟨a, z, v0, rfl, rfl, ⟨es, n, u0, hl, hk, e, r⟩, q v0 dk⟩ hs
end
section
variable {x : Fx} {a : Addr} {ds : List (Str × PyData)}
def dInKD (ds : List (Str × PyData)) (de : DE) : DE := fun e Q => de e fun r e1 => match r with
  | .dat (.int _) => Q (.dat (.bool false)) e1
  | .dat (.str s) => ∃ d, (s, d) ∈ ds ∧ Q (.dat (.bool true)) e1
  | _ => False
def dIxKD (ds : List (Str × PyData)) (de : DE) : DE := fun e Q => de e fun r e1 => match r with
  | .dat (.str s) => ∃ d, (s, d) ∈ ds ∧ Q (.dat d) e1
  | _ => False
theorem le_inKD {te : TE} {de : DE} (h : LE x te de) : LE x (tOp (rInKD a ds) te (tC (.ref a))) (dInKD ds de) := fun {f L P σ H e Q Qd} hf S hd q =>
  h hf S hd fun v r L1 H1 e1 S1 k1 => by
    subst hf
    split at k1
    · have z := S1.last
      cases z with
      | dat z =>
        cases z.int_inv
        exact ⟨rfl, Or.inl ⟨_, rfl, q _ _ _ _ _ (S1.pop.pushD (.bl false)) k1⟩⟩
    · obtain ⟨d, hm, k1⟩ := k1
      have z := S1.last
      cases z with
      | dat z =>
        cases z.str_inv
        exact ⟨rfl, Or.inr ⟨_, d, rfl, hm, q _ _ _ _ _ (S1.pop.pushD (.bl true)) k1⟩⟩
    · exact k1.elim
theorem le_ixKD {te : TE} {de : DE} (h : LE x te de) : LE x (tOp (rIxKD x.K a ds) (tC (.ref a)) te) (dIxKD ds de) := fun {f L P σ H e Q Qd} hf S hd q =>
  h hf S hd fun v r L1 H1 e1 S1 k1 => by
    subst hf
    split at k1
    · obtain ⟨d, hm, k1⟩ := k1
      have z := S1.last
      cases z with
      | dat z =>
        cases z.str_inv
        exact ⟨rfl, _, d, rfl, hm, fun v dv => q _ _ _ _ _ (S1.pop.pushD (dv _ _)) k1⟩
    · exact k1.elim
end
end My

/-! a tuple once, or not at all; a written dict asked once -/
namespace My
open PySem PySem.Spec PySem.Calls PyProof.Rows L2
theorem tup_once (l : Addr) (items : Array Value) (n : Nat) (dd : Option Addr) (sl : Array (Option Value)) (u : Tok) :
    Meets (Builtin.«tuple.__mul__» ⟨[.ref l, .int 1 u], []⟩) (fun _ R s => s.heap.get? l = some { cls := .type "tuple", dict := dd, data := .seq items n, slots := sl } ∧ R (.ok (.ret (Value.ref l))) s) :=
  .of_wp fun prog w A R s h => by
    obtain ⟨hp, g, d, tk, os⟩ := s
    obtain ⟨hl, h⟩ := h
    have f1 := AutoSeq1.idx_int
    wp_walk using wpAny_loadPart' hl
    exact ⟨_, rfl, h⟩
theorem tup_never (l : Addr) (items : Array Value) (n : Nat) (dd : Option Addr) (sl : Array (Option Value)) (x : Int) (u : Tok) (h0 : x = 0) (h1 : items.isEmpty = false) :
    Meets (Builtin.«tuple.__mul__» ⟨[.ref l, .int x u], []⟩) (fun _ R s => s.heap.get? l = some { cls := .type "tuple", dict := dd, data := .seq items n, slots := sl } ∧ R (.ok (.ret (Value.ref s.heap.objs.size))) { s with heap := s.heap.push { cls := Value.type "tuple", data := Data.seq #[] }, toks := s.toks }) :=
  .of_wp fun prog w A R s h => by
    subst h0
    obtain ⟨hp, g, d, tk, os⟩ := s
    obtain ⟨hl, h⟩ := h
    have f1 := AutoSeq1.idx_int
    wp_walk using wpAny_loadPart' hl
    exact ⟨_, rfl, h⟩
def rRep01 (K : PySem.W.Frag) : R2 := fun x y H Q => ∃ l k xs, x = .ref l ∧ y = .int k ∧ SqT K H l xs ∧ xs ≠ [] ∧ ((k = 1 ∧ Q (.ref l) H) ∨ (k = 0 ∧ ∀ p, H p = none → Q (.ref p) (upd H p (.tup []))))
section
variable {X : Cx} {K : PySem.W.Frag}
theorem op_rep01 : OpR X (binaryOp .Mult) (rRep01 X.K) := by
  intro pins s σ H x y v u Q I rx ry h
  obtain ⟨l, k, xs, rfl, rfl, hT, hne, q⟩ := h
  cases rx
  obtain ⟨t, rfl⟩ := ry
  obtain ⟨its, r, ⟨⟨cls, dd, data, sl⟩, ho, hc, n, hd⟩, hs⟩ := I.tuple hT
  simp only at hc hd
  subst hc hd
  have hi : its.toArray.isEmpty = false := by
    cases its with
    | nil =>
      cases r
      exact absurd rfl hne
    | cons a b => rfl
  refine wpAny_binaryOp_repeat_ref (T := "tuple") (U := "int") (by decide) ⟨_, ho, rfl⟩ (fun s' => typeIs_int s' k t) noFill_tuple_mul F.fills_int_mul F.slot_int_rmul repeat_tuple F.slot_int_index.lookup
    (call_meets F.slot_int_rmul (typeIs_int s k t) F.entry_int_rmul (F.args_int_rmul_2 _ _) (int_rmul_tuple k t l its.toArray n dd sl) ⟨ho, rfl, ⟨_, ho, rfl⟩, ?_⟩)
  rcases q with ⟨rfl, q⟩ | ⟨rfl, q⟩
  · exact call_meets F.slot_tuple_mul ⟨_, ho, rfl⟩ F.entry_tuple_mul (F.args_tuple_mul_2 _ _) (tup_once l its.toArray n dd sl t) ⟨ho, .ref l, H, I.tok _, rfl, q⟩
  · refine call_meets F.slot_tuple_mul ⟨_, ho, rfl⟩ F.entry_tuple_mul (F.args_tuple_mul_2 _ _) (tup_never l its.toArray n dd sl 0 t rfl hi) ⟨ho, ?_⟩
    refine ⟨.ref s.heap.objs.size, _, I.laid (t' := s.toks) (o := .tup []) (fun b ob q => Heap.get?_push_of_some _ q) (Nat.le_refl _) ?_, rfl, q _ (I.hok.fresh (Nat.le_refl _))⟩
    exact ⟨Nat.zero_le _, _, .nil, IsTup.new _ _⟩
def rMulZ (K : PySem.W.Frag) : R2 := fun x y H Q => rMulG K x y H Q ∨ rRep01 K x y H Q
theorem op_mulZK (h : X.K = K := by rfl) : OpR X (binaryOp .Mult) (rMulZ K) := h ▸ OpR.either op_mulG op_rep01
end
section
variable {x : Fx}
def mulZW : W2 := fun du dv k => match du, dv with
  | .tuple a, .int j => ∃ n : Nat, j = (n : Int) ∧ a ≠ [] ∧ n ≤ 1000 ∧ a.length ≤ 1000 ∧ k (.dt (.tuple (List.replicate n a).flatten))
  | _, _ => False
theorem o2_mulZ : O2 x (rMulZ x.K) mulZW := fun {M H u v du dv Q k} hM cu cv w q => by
  unfold mulZW at w
  split at w
  · rename_i a j
    obtain ⟨n, rfl, h1, h2, h3, w⟩ := w
    cases cv.int
    obtain ⟨p, xs, rfl, h4, h5⟩ := id cu.tup
    have ne : xs ≠ [] := fun e => by
      subst e
      cases h5
      exact h1 rfl
    match n, h2, w with
    | 0, h2, w => exact Or.inr ⟨p, _, xs, rfl, rfl, h4, ne, Or.inr ⟨rfl, fun b hb => q _ _ _ (out_tup hM hb .nil) w⟩⟩
    | 1, h2, w =>
      have e : (List.replicate 1 a).flatten = a := by simp
      rw [e] at w
      exact Or.inr ⟨p, _, xs, rfl, rfl, h4, ne, Or.inl ⟨rfl, q _ _ _ (out_d (cu.dk nofun)) w⟩⟩
    | n + 2, h2, w =>
      refine Or.inl (Or.inr (Or.inr ⟨p, _, xs, rfl, rfl, h4, ne, by omega, by omega, by rw [h5.length]; exact h3, fun b hb => q _ _ _ (out_tup hM hb ?_) w⟩))
      exact h5.flat _
  · exact w.elim
/-- {k: n, ..}.get(y, z): numbers by text, both names -/
def kvN (ns : List (Str × Int)) : List (Key × V) := ns.map fun p => (Sum.inr p.1, V.int p.2)
def trN (ns : List (Str × Int)) : List (TE × TE) := ns.map fun p => (tC (.str p.1), tC (.int p.2))
theorem pairsN {σ : L2.St} {H : Hp} : ∀ (ns : List (Str × Int)) {Q : List (V × V) → Hp → Prop}, Q ((kvN ns).map fun kv => (kV kv.1, kv.2)) H → tPairs (trN ns) σ H Q
  | [], _, h => h
  | p :: ns, Q, h => pairsN ns (Q := fun ps H3 => Q ((V.str p.1, V.int p.2) :: ps) H3) h
def dGetS (ns : List (Str × Int)) (i j : Nat) : DE := fun e Q => match e[i]?, e[j]? with
  | some (some (.dat (.str s))), some (some (.dat _)) => ∃ n, valV (mergeK [] (kvN ns)) (Sum.inr s) = some (.int n) ∧ Q (.dat (.int n)) e
  | some (some (.dat (.int m))), some (some (.dat d)) => valV (mergeK [] (kvN ns)) (Sum.inl m) = none ∧ Q (.dat d) e
  | _, _ => False
theorem le_getS {ns : List (Str × Int)} {i j : Nat} (hl : ns.length ≤ 15) : LE x (tDGet2 (tDisp (trN ns)) (tVar i) (tVar j)) (dGetS ns i j) := fun {f L P σ H e Q Qd} hf S hd q => by
  subst hf
  refine fun p hp => pairsN ns ⟨upd_same, kvN ns, rfl, by unfold kvN; rw [List.length_map]; exact hl, p, rfl, Or.inl ⟨_, Or.inl upd_same⟩, ?_⟩
  rw [upd_upd]
  have S1 := S.grow (Sn.new (c := f.c) (M := []) (o := .dK (mergeK [] (kvN ns))) hp)
  have kd : (upd H p (.dK (mergeK [] (kvN ns)))) p = some (.dK (mergeK [] (kvN ns))) := upd_same
  unfold dGetS at hd
  split at hd
  · rename_i s d h1 h2
    obtain ⟨n, e1, hd⟩ := hd
    obtain ⟨v, g1, q1⟩ := S1.sl _ _ h1
    obtain ⟨v2, g2, _⟩ := S1.sl _ _ h2
    cases q1 with
    | dat q1 =>
      cases q1.str_inv
      refine ⟨_, g1, _, g2, _, DGet.k (k := Sum.inr s) kd, ?_⟩
      rw [e1]
      exact q _ _ _ _ _ (S1.pushD (.int n)) hd
  · rename_i m d h1 h2
    obtain ⟨e1, hd⟩ := hd
    obtain ⟨v, g1, q1⟩ := S1.sl _ _ h1
    obtain ⟨v2, g2, q2⟩ := S1.sl _ _ h2
    cases q1 with
    | dat q1 =>
      cases q1.int_inv
      cases q2 with
      | dat q2 =>
        refine ⟨_, g1, _, g2, _, DGet.k (k := Sum.inl m) kd, ?_⟩
        rw [e1]
        exact q _ _ _ _ _ (S1.pushD q2) hd
  · exact hd.elim
end
end My

/-! sorted(a list of numbers) -/
namespace My
open PySem PySem.Spec PyProof.Rows L2
theorem call_srtLK {X : Cx} {K : PySem.W.Frag} (h : X.K = K := by rfl) : CallR X (.builtin "sorted") (rSortedI K) := h ▸ cr_sortedI
section
variable {x : Fx}
def sortL : WN := fun ds k => match ds with
  | [.list es] => ∃ ns : List Int, es = ns.map .int ∧ ∀ ns' : List Int, ns'.Perm ns → ns'.Pairwise (· ≤ ·) → k (.nl (ns'.map .int))
  | _ => False
theorem on_sortL : ON x (rSortedI x.K) sortL := fun {M H us ds Q k} hM cs w q => by
  unfold sortL at w
  split at w
  · obtain ⟨v, rfl, c⟩ := par1 cs
    obtain ⟨ns, rfl, w⟩ := w
    obtain ⟨a, xs, rfl, h1, h2⟩ := id c.lst
    rw [ints_dk h2] at h1
    exact ⟨a, ns, rfl, SqL.of h1, fun ns' p hp hs hn => q _ _ _ (out_lst hn (Dks.ints ns')) (w ns' hp hs)⟩
  · exact w.elim
end
end My

/-! a lambda that takes a name of its def along, handed on -/
namespace My
open PySem PySem.Spec PyProof.Rows L2
open LamX (CodeO TabS ExtN inv_table among_app codeO_ne)
open NdefX (NScope NF CellsAt startF ncx envF inv_startN)
def rem (H : Hp) (c : Addr) : Hp := fun b => if b = c then none else H b
theorem rem_same {H : Hp} {c : Addr} : rem H c c = none := if_pos rfl
theorem rem_ne {H : Hp} {b c : Addr} (h : b ≠ c) : rem H c b = H b := if_neg h
theorem fnO_nl {f : Addr} {o : Obj} (xs : List V) : FnO f o ≠ .lst xs := fun z => by
  unfold FnO at z
  cases z
theorem fnO_nt {f : Addr} {o : Obj} (xs : List V) : FnO f o ≠ .tup xs := fun z => by
  unfold FnO at z
  cases z
theorem fnO_nw {f a : Addr} {o : Obj} : FnO f o ≠ .own a := fun z => by
  unfold FnO at z
  cases z
theorem fnO_nf {f : Addr} {o ob : Obj} {u : HO} : FnO f o ≠ .frz ob u := fun z => by
  unfold FnO at z
  cases z
/-- a cell is no code object -/
theorem fnO_code {c : Addr} {o : Obj} {v : Option Value} {q : Str} (hd : o.data = .cell v) (hh : ∃ h : Heap, h.get? c = some o) : FnO c o ≠ CodeO c q := fun z => by
  unfold FnO CodeO at z
  injection z with z
  obtain ⟨h, e⟩ := hh
  have z2 := congrFun z h
  have z3 : ∃ (oc : Obj) (vs : Array Value) (t : Tok), h.get? c = some oc ∧ oc.data = .fields vs ∧ vs[1]? = some (.str q t) := z2.mp e
  obtain ⟨oc, vs, t, h1, h2, _⟩ := z3
  rw [e] at h1
  cases h1
  rw [hd] at h2
  cases h2
section
variable {P : Program} {w : World} {K : PySem.W.Frag} {mg : Str → Option Value} {base : Heap} {A : Around} {outer : List Env} {s s' : Shared} {H : Hp} {h : Heap} {c : Addr} {o : Obj} {Q : VK} {u : Value}
theorem hok_upd (hok : HOk P w H h) (hc : H c = none) (ho : h.get? c = some o) : HOk P w (upd H c (FnO c o)) h := fun a x e => by
  have nb : ∀ {b y}, H b = some y → b ≠ c := fun {b y} e z => by
    rw [z, hc] at e
    cases e
  by_cases z : a = c
  · subst z
    rw [upd_same] at e
    cases e
    exact fnO_ok ho
  · rw [upd_ne z] at e
    exact (hok a x e).stay (fun _ _ _ q => q) (fun b q => by rw [upd_ne (nb q)]; exact q) fun b xs q => by rw [upd_ne (nb q)]; exact q
theorem hok_rem (hok : HOk P w H h) (hc : H c = some (FnO c o)) : HOk P w (rem H c) h := fun a x e => by
  by_cases z : a = c
  · subst z
    rw [rem_same] at e
    cases e
  · rw [rem_ne z] at e
    refine (hok a x e).stay (fun _ _ _ q => q) (fun b q => ?_) fun b xs q => ?_
    · rw [rem_ne fun y => by rw [y, hc] at q; exact fnO_nw (Option.some.inj q)]
      exact q
    · rw [rem_ne fun y => by rw [y, hc] at q; exact fnO_nt _ (Option.some.inj q)]
      exact q
theorem env0_upd (e0 : Env0 P w K mg base A outer s H) (hc : H c = none) (ho : s.heap.get? c = some o) (nb : base.get? c = none) (nf : c ∉ frs outer) : Env0 P w K mg base A outer s (upd H c (FnO c o)) :=
  ⟨e0.frames, e0.mod, fun b x e => ⟨(e0.bs b x e).1, by rw [upd_ne fun z => by rw [z, nb] at e; cases e]; exact (e0.bs b x e).2⟩, e0.bsz, e0.funs,
    fun b hb => by rw [upd_ne fun z => nf (by rw [← z]; exact hb)]; exact e0.frf b hb, hok_upd e0.hok hc ho, e0.bare⟩
theorem env0_rem (e0 : Env0 P w K mg base A outer s H) (hc : H c = some (FnO c o)) : Env0 P w K mg base A outer s (rem H c) := by
  have k : ∀ {b}, H b = none → rem H c b = none := fun {b} e => by
    by_cases z : b = c
    · subst z
      exact rem_same
    · rw [rem_ne z]
      exact e
  exact ⟨e0.frames, e0.mod, fun b x e => ⟨(e0.bs b x e).1, k (e0.bs b x e).2⟩, e0.bsz, e0.funs, fun b hb => k (e0.frf b hb), hok_rem e0.hok hc, e0.bare⟩
theorem ce_untrack (ho : s.heap.get? c = some o) (hc : H c = none) (h : CE outer P w (upd H c (FnO c o)) s (fun v H' => H' c = some (FnO c o) ∧ Q v (rem H' c)) u s') : CE outer P w H s Q u s' := by
  obtain ⟨v, H', os, bare, un, hok, rv, h1, q⟩ := h
  refine ⟨v, rem H' c, os, bare, ?_, hok_rem hok h1, rv, q⟩
  have g : s'.heap.get? c = some o := (hok c _ h1).1
  have nb : ∀ {b y}, H b = some y → b ≠ c := fun {b y} e z => by
    rw [z, hc] at e
    cases e
  have ht : ∀ {b y}, H' b = some y → y ≠ FnO c o → b ≠ c := fun {b y} e n z => by
    rw [z, h1] at e
    exact n (Option.some.inj e).symm
  refine ⟨fun b ob e n hb hx => ?_, fun b ob e n hb hx => ?_, fun b ob e n hx => ?_, un.there, fun b xs e => ?_, fun b ob xs e => ?_, fun b ps e => ?_⟩
  · by_cases z : b = c
    · subst z
      rw [ho] at e
      cases e
      exact g
    · exact un.keep b ob e (by rw [upd_ne z]; exact n) hb hx
  · by_cases z : b = c
    · subst z
      rw [ho] at e
      cases e
      exact ⟨o.slots, g⟩
    · exact un.slot b ob e (by rw [upd_ne z]; exact n) hb hx
  · by_cases z : b = c
    · subst z
      exact rem_same
    · rw [rem_ne z]
      exact un.free b ob e (by rw [upd_ne z]; exact n) hx
  · have z := nb e
    rw [rem_ne z]
    exact un.tups b xs (by rw [upd_ne z]; exact e)
  · have z := nb e
    rw [rem_ne z]
    exact un.frzs b ob xs (by rw [upd_ne z]; exact e)
  · have z := nb e
    rw [rem_ne z]
    exact un.tbls b ps (by rw [upd_ne z]; exact e)
theorem ce_rem (hc : H c = some (FnO c o)) (ho : s.heap.get? c = some o) (nf : c ∉ frs outer) (h : CE outer P w (rem H c) s (fun v H' => H' c = none → Q v (upd H' c (FnO c o))) u s') : CE outer P w H s Q u s' := by
  obtain ⟨v, H', os, bare, un, hok, rv, q⟩ := h
  have n1 : H' c = none := un.free c o ho rem_same (by simp)
  have g : s'.heap.get? c = some o := un.keep c o ho rem_same nf (by simp)
  refine ⟨v, upd H' c (FnO c o), os, bare, ?_, hok_upd hok n1 g, rv, q n1⟩
  have nn : ∀ {b}, H b = none → b ≠ c := fun {b} e z => by
    rw [z, hc] at e
    cases e
  refine ⟨fun b ob e n hb hx => ?_, fun b ob e n hb hx => ?_, fun b ob e n hx => ?_, un.there, fun b xs e => ?_, fun b ob xs e => ?_, fun b ps e => ?_⟩
  · exact un.keep b ob e (by rw [rem_ne (nn n)]; exact n) hb hx
  · exact un.slot b ob e (by rw [rem_ne (nn n)]; exact n) hb hx
  · rw [upd_ne (nn n)]
    exact un.free b ob e (by rw [rem_ne (nn n)]; exact n) hx
  · have z : b ≠ c := fun y => by rw [y, hc] at e; exact fnO_nt _ (Option.some.inj e)
    rw [upd_ne z]
    exact un.tups b xs (by rw [rem_ne z]; exact e)
  · have z : b ≠ c := fun y => by rw [y, hc] at e; exact fnO_nf (Option.some.inj e)
    rw [upd_ne z]
    exact un.frzs b ob xs (by rw [rem_ne z]; exact e)
  · have z : b ≠ c := fun y => by rw [y, hc] at e; exact fnO_ne _ (Option.some.inj e)
    rw [upd_ne z]
    exact un.tbls b ps (by rw [rem_ne z]; exact e)
end
abbrev lamObjC (q : Str) (params : Arguments) (body : Expr) (scope : Scope) (cl : List (Str × Addr)) (pm : Value) (c' : Addr) (ctv : Value) : Obj :=
  PySem.W.kla_obj "<lambda>" q params body scope cl pm c' ctv
section
variable {X : Cx} {pins : List (Addr × Obj)} {σ : L2.St} {H : Hp} {s : Shared}
theorem lam_mkC {c P : Addr} {params : Arguments} {body : Expr} {scope : Scope} {pos : Pos} {E : Value → Shared → Prop} {Q : Value → Shared → Prop} {cl : List (Str × Addr)}
    (I : Inv X pins σ H s) (TB : LamX.TabB X.base X.mg c P) (hcode : X.env.code = .ref c)
    (hT : TabS H P (X.env.qual ++ "<lambda>")) (hdef : defaultsOf params X.env = ([], [])) (hclos : closureFor scope X.env = pure cl)
    (h : ∀ (f c' : Addr) (pm ctv : Value) (H1 : Hp) (s' : Shared), Inv X pins σ H1 s' → ExtN H H1 → TabS H1 P (X.env.qual ++ "<lambda>") →
      (∀ b, b ≠ P → H b ≠ none → H1 b = H b) → H f = none → H1 f = some (FnO f (lamObjC (X.env.qual ++ "<lambda>") params body scope cl pm c' ctv)) →
      H1 c' = some (CodeO c' (X.env.qual ++ "<lambda>")) → Q (.ref f) s') :
    wpAny (model X.prog X.w) X.A (eval (.Lambda params body scope pos) X.env) Q E s := by
  obtain ⟨ps, hP, ht, ha⟩ := hT
  refine PySem.W.kla_eval hdef ?_
  have bP : s.heap.BuiltinsAt X.mg P := TB.bm.keeps I.bk
  have hP' : s.heap.get? P = some { cls := .none, data := .fields ps } := I.hok P _ hP
  have g0 := I.mod.glob.keeps I.bk
  have cd := TB.code.keeps I.bk
  match hc : codeAmong pos ps.toList with
  | none =>
    refine PySem.W.kla_makeFunction (mg := X.mg) (c := c) (P := P) (ps := ps) hclos I.ok.glob g0 hcode cd hP' ht hc TB.gP bP ?_
    intro c' ctv h' tk hx hge hlt hrec htb
    obtain ⟨c2, oc, vs, t, e2, hoc, hd, hv⟩ := hrec
    cases e2
    have hsz : s.heap.objs.size ≤ h'.objs.size := Nat.le_trans hge (Nat.le_of_lt hlt)
    have nC : H c' = none := I.hok.fresh hge
    have nF : H h'.objs.size = none := I.hok.fresh hsz
    have I1 := inv_table (q := X.env.qual ++ "<lambda>") (t' := tk) (more := #[rawInt pos.line, rawInt pos.col, .ref c']) (h' := h') I hP hx htb hge ⟨oc, vs, t, hoc, hd, hv⟩
    have I2 := I1.laid (a := h'.objs.size) (t' := tk) (h' := h'.push (lamObjC (X.env.qual ++ "<lambda>") params body scope cl ((X.mg "__name__").getD .none) c' ctv))
      (fun b u e => Heap.get?_push_of_some _ e) (Nat.le_refl _) (fnO_ok (Heap.get?_push_size _ rfl))
    have nPF : P ≠ h'.objs.size := ne_of_none hP nF
    have nPC : P ≠ c' := ne_of_none hP nC
    have nCF : c' ≠ h'.objs.size := Nat.ne_of_lt hlt
    have old : ∀ b, b ≠ P → H b ≠ none → upd (upd (upd H P (.tbl (ps ++ #[rawInt pos.line, rawInt pos.col, .ref c']))) c' (CodeO c' (X.env.qual ++ "<lambda>"))) h'.objs.size (FnO h'.objs.size (lamObjC (X.env.qual ++ "<lambda>") params body scope cl ((X.mg "__name__").getD .none) c' ctv)) b = H b := by
      intro b h1 h2
      rw [upd_ne (fun z => h2 (by rw [z]; exact nF)), upd_ne (fun z => h2 (by rw [z]; exact nC)), upd_ne h1]
    have ext : ExtN H _ := fun b o e n => (old b (fun z => n ps (Option.some.inj (e.symm.trans (by rw [z]; exact hP)))) (by rw [e]; nofun)).trans e
    have atC : upd (upd (upd H P (.tbl (ps ++ #[rawInt pos.line, rawInt pos.col, .ref c']))) c' (CodeO c' (X.env.qual ++ "<lambda>"))) h'.objs.size (FnO h'.objs.size (lamObjC (X.env.qual ++ "<lambda>") params body scope cl ((X.mg "__name__").getD .none) c' ctv)) c' = some (CodeO c' (X.env.qual ++ "<lambda>")) := by
      rw [upd_ne nCF, upd_same]
    refine h h'.objs.size c' _ ctv _ _ I2 ext ⟨ps ++ #[rawInt pos.line, rawInt pos.col, .ref c'], ?_, ?_, fun p' cv hcv => ?_⟩ old nF upd_same atC
    · rw [upd_ne nPF, upd_ne nPC, upd_same]
    · rw [Array.toList_append]
      exact PySem.TriplesOk_snoc _ _ _ _ ht
    · rw [Array.toList_append] at hcv
      rcases among_app _ ht hcv with z | z
      · obtain ⟨c0, e1, e2⟩ := ha p' cv z
        exact ⟨c0, e1, ext _ _ e2 codeO_ne⟩
      · exact ⟨c', z, atC⟩
  | some cv =>
    obtain ⟨c', e, hco⟩ := ha pos cv hc
    subst e
    refine PySem.W.kla_makeFunctionHit (mg := X.mg) (c := c) (P := P) (ps := ps) hclos I.ok.glob g0 hcode cd hP' ht hc bP fun ctv h' tk hx hsz => ?_
    have nF : H h'.objs.size = none := I.hok.fresh hsz
    have I1 := I.kept (h' := h') (t' := tk) hx
    have I2 := I1.laid (a := h'.objs.size) (t' := tk) (h' := h'.push (lamObjC (X.env.qual ++ "<lambda>") params body scope cl ((X.mg "__name__").getD .none) c' ctv))
      (fun b u e => Heap.get?_push_of_some _ e) (Nat.le_refl _) (fnO_ok (Heap.get?_push_size _ rfl))
    have old : ∀ b, H b ≠ none → upd H h'.objs.size (FnO h'.objs.size (lamObjC (X.env.qual ++ "<lambda>") params body scope cl ((X.mg "__name__").getD .none) c' ctv)) b = H b := fun b h2 =>
      upd_ne (fun z => h2 (by rw [z]; exact nF))
    have all : ∀ b o, H b = some o → upd H h'.objs.size (FnO h'.objs.size (lamObjC (X.env.qual ++ "<lambda>") params body scope cl ((X.mg "__name__").getD .none) c' ctv)) b = some o := fun b o e => (old b (by rw [e]; nofun)).trans e
    exact h h'.objs.size c' _ ctv _ _ I2 (ExtN.of all) (TabS.ext ⟨ps, hP, ht, ha⟩ all) (fun b _ h2 => old b h2) nF upd_same (all _ _ hco)
/-- the reading of such a lambda -/
def tLamC (P : Addr) (q : Str) (params : Arguments) (body : Expr) (scope : Scope) (cl : List (Str × Addr)) : TE := fun _ H Q => TabS H P q ∧
  ∀ (f c' : Addr) (pm ctv : Value) (H1 : Hp), ExtN H H1 → TabS H1 P q → (∀ b, b ≠ P → H b ≠ none → H1 b = H b) → H f = none →
    H1 f = some (FnO f (lamObjC q params body scope cl pm c' ctv)) → H1 c' = some (CodeO c' q) → Q (.ref f) H1
theorem pe_lamC {c P : Addr} {params : Arguments} {body : Expr} {scope : Scope} {pos : Pos} (TB : LamX.TabB X.base X.mg c P) (hcode : X.env.code = .ref c)
    (hdef : defaultsOf params X.env = ([], [])) (hfree : ∀ y ∈ scope.names, y.2 = .free → X.env.scope.names.lookup y.1 = some .cell ∨ X.env.scope.names.lookup y.1 = some .free) :
    PE X (.Lambda params body scope pos) (tLamC P (X.env.qual ++ "<lambda>") params body scope (cloFrom X.env.cells scope.names [])) := by
  refine PE.mk fun pins s σ H Q I h => ?_
  have hfr : ∀ y ∈ scope.names, y.2 = .free → ∃ c, X.env.cells.lookup y.1 = some c := fun y hy e => (hfree y hy e).elim (fun z => I.ok.has _ (.inl z)) fun z => I.ok.has _ (.inr z)
  refine lam_mkC I TB hcode h.1 hdef (closure_ok hfr) fun f c' pm ctv H1 s' I1 e t o nf' a1 a2 => ?_
  exact ⟨.ref f, H1, I1, rfl, h.2 f c' pm ctv H1 e t o nf' a1 a2⟩
end
section
variable {P : Program} {w : World} {K : PySem.W.Frag} {mg : Str → Option Value} {base : Heap} {k : Nat} {f : Addr} {H : Hp} {sp : Sp}
theorem lam_calC {q : Str} {params : Arguments} {body : Expr} {scope : Scope} {pm ctv : Value} {c' c : Addr} {N ps : List Str} {x : Str} {o : Obj} {u : Value} {v0 : V} {cl : List (Str × Addr)}
    (h1 : H f = some (FnO f (lamObjC q params body scope cl pm c' ctv))) (h2 : H c' = some (CodeO c' q)) (h3 : H c = some (FnO c o)) (hd : o.data = .cell (some u)) (rv0 : RelV v0 u)
    (S : NScope N ps [x] scope) (hcl : cl.lookup x = some c) (hcl1 : ∀ y d, cl.lookup y = some d → y = x) (hls : ∀ vs H Q E, sp vs H Q E → vs.length = ps.length)
    (hb : ∀ us : List Value, us.length = ps.length → bindArgs (PySem.W.kla_fn "<lambda>" q params body scope cl pm (.ref c') ctv) ⟨us, []⟩ = pure (ps.zip us))
    (hbody : ∀ (A : Around) (outer : List Env) (s : Shared) (H' : Hp) (vs : List V) (Q : VK) (E : XK),
      Rm k (A.deeper (envF ⟨"<lambda>", q, params, [], scope, cl, c'⟩ f s.heap.objs.size)) → H' c = some (FnO c o) → ExtN H H' → sp vs H' Q E →
      ∃ t, PE (ncx CX0 P w K mg base N ⟨"<lambda>", q, params, [], scope, cl, c'⟩ f A outer s (rem H' c) E) body t ∧ t (startF N vs [some v0]) (rem H' c) (fun v H2 => H2 c = none → Q v (upd H2 c (FnO c o)))) :
    Cal P w K mg base (k + 1) f H ps.length sp := by
  refine ⟨Or.inr ⟨_, h1, _, _, _, _, rfl⟩, fun A outer s H' us vs Q E hr e0 ext rv hu hs => ?_⟩
  have hl : vs.length = ps.length := rv.length.trans hu
  have o1 : s.heap.get? f = some (lamObjC q params body scope cl pm c' ctv) := (e0.hok f _ (ext _ _ h1 fnO_ne)).1
  have hc' : H' c = some (FnO c o) := ext _ _ h3 fnO_ne
  have ho : s.heap.get? c = some o := (e0.hok c _ hc').1
  obtain ⟨oc, fl, t, hoc, hdc, hvc⟩ := (e0.hok c' _ (ext _ _ h2 codeO_ne)).1
  have lim : s.heap.NoLimit := e0.mod.nolimit.keeps fun b o e => (e0.bs b o e).1
  have nf : c ∉ frs outer := fun z => by
    rw [e0.frf c z] at hc'
    cases hc'
  refine PySem.W.kla_callFunE hr.r.depth o1 rfl S.co S.gen rfl ⟨c', oc, fl, t, rfl, hoc, hdc, hvc⟩ ?_
  rw [hb us hu]
  refine wpAny_pure (wpAny_newFunctionEnv S.nocell (fun ⟨n, _⟩ hy => S.par n (List.of_mem_zip hy).1) (fun h₁ hns hsb => ⟨lim.fresh _ hsb, ?_⟩) S.kind)
  have kp : ∀ b o, s.heap.get? b = some o → h₁.get? b = some o := fun b o e => hsb.extBut b o (Nat.ne_of_lt (Heap.lt_size e)) (Heap.get?_push_of_some _ e)
  show codeAny _ _ (.expr body (envF ⟨"<lambda>", q, params, [], scope, cl, c'⟩ f s.heap.objs.size)) _ _
  refine PySem.W.kla_codeExpr ?_
  obtain ⟨t, ht, hq⟩ := hbody A outer s H' vs Q E (hr.deeper _) hc' ext hs
  have C : CellsAt cl [x] [some v0] s.heap (rem H' c) := by
    refine ⟨rfl, fun y d e => ?_, fun a b d e1 e2 => (hcl1 a d e1).trans (hcl1 b d e2).symm, fun i y e => ?_⟩
    · have z := hcl1 y d e
      subst z
      rw [hcl] at e
      cases e
      exact ⟨rem_same, some u, o, ho, hd⟩
    · match i, e with
      | 0, e =>
        cases e
        refine ⟨c, hcl, fun v ev => ?_⟩
        cases ev
        exact ⟨u, rv0, o, ho, hd⟩
  have I := inv_startN (CX := CX0) (F := ⟨"<lambda>", q, params, [], scope, cl, c'⟩) (f := f) (E := E) (tk := s.toks + (ps.zip us).length) S hr.r.hd (env0_rem e0 hc') hl rv C hns kp
  refine wpAny_mono (ht.run [] _ _ _ _ I hq) (fun v s' hz => ?_) fun e s' hz => hz
  obtain ⟨v', H2, J, r', qq⟩ := hz
  exact ce_rem hc' ho nf ⟨v', H2, J.os, J.bare, J.base, J.hok, r', qq⟩
end
section
variable {X : Cx} {k j i : Nat} {f : Addr} {ps : List Str} {sp : Sp} {x nm : Str} {p pos : Pos} {e : Expr} {es : List Expr} {t : TA}
def tCallC (X : Cx) (nm : Str) (i : Nat) (sp : Sp) (E : XK) (t : TA) : TE := fun σ H Q => ∃ v0, σ[i]? = some (some v0) ∧ t σ H fun vs H1 => ∀ (c : Addr) (o : Obj) (u : Value),
  X.env.cells.lookup nm = some c → H1 c = none → o.data = .cell (some u) → RelV v0 u → (∃ h : Heap, h.get? c = some o) → sp vs (upd H1 c (FnO c o)) (fun v H2 => H2 c = some (FnO c o) ∧ Q v (rem H2 c)) E
theorem pe_dfC (D : Df X.prog X.w X.K X.mg X.base CX0 j x f ps sp) (hr : Rm k X.A) (hj : j ≤ k) (hg : Gl X x)
    (ha : PA X (e :: es) t) (hN : X.N[i]? = some nm) (hk : X.env.scope.names.lookup nm = some .cell) (hf : X.fn nm = true) (hdb : (x == ("__debug__" : Str)) = false := by decide)
    (he : starEach (e :: es) X.env = (false, eval e X.env) :: starEach es X.env := by rfl)
    (hpl : (backTo pos (starEach es X.env)).any (·.1) = false := by rfl) :
    PE X (.Call (.Name x p) (e :: es) [] pos) (tCallC X nm i sp E0 t) := by
  obtain ⟨fd, F, b, _⟩ := D.ex
  refine PE.mk fun pins s σ H Q I h => wpAny_Call_Name_kw (ld_glob I hg D.gl ?_ hdb)
  obtain ⟨v0, s0, h⟩ := h
  refine PySem.W.callWith_K (h₀ := X.base) I.ok.mod.kin D.kp (thn (ha.run pos pins s σ H _ I h) ?_) he hpl
  intro us s1 hz
  obtain ⟨vs, H1, I1, r, q⟩ := hz
  refine ⟨I1.kIn, ?_⟩
  obtain ⟨m, hn, hl⟩ := I1.loc
  obtain ⟨u, ru, lk⟩ := hl i nm v0 hN s0 (Or.inr (Or.inl hk))
  rcases lk with ⟨z, _⟩ | ⟨_, c, hc, o, ho, hd⟩
  · have z' : X.env.scope.names.lookup nm = some .local := z
    rw [hk] at z'
    cases z'
  · have hc1 := I1.freeC nm c hc
    have q := q c o u hc hc1 hd ru ⟨_, ho⟩
    have cab := I1.ok.cab nm c hf hc
    have nb : X.base.get? c = none := Heap.get?_none_of_le (Nat.le_trans I1.ok.bsz cab)
    have nf : c ∉ frs X.stack := fun hb => by
      rcases List.mem_cons.mp (I1.stkSub c hb) with e | hb
      · exact I1.cne nm c hc e
      · obtain ⟨_, o2, ho2, _⟩ := I1.ok.funs.mem hb
        exact absurd (Heap.lt_size ho2) (Nat.not_lt.mpr cab)
    have hl : us.length = ps.length := r.length.symm.trans (F.len _ _ _ _ q)
    have bb := b s1 us I1.kIn (by rw [List.append_nil]; exact hl)
    rw [List.append_nil] at bb
    have cc := F.go X.A X.stack s1 (upd H1 c (FnO c o)) ⟨us, []⟩ us vs _ E0 (hr.mono hj) (env0_upd I1.env0 hc1 ho nb nf) bb r q
    refine wpAny_call (codeAny_mono cc fun r s' hq => ?_)
    match r, hq with
    | .error z, hq => exact hq.elim
    | .ok (.ret u), hq => exact I1.after (ce_untrack ho hc1 hq)
end
/-! ### at tree level -/
mutual
def plainD : PyData → Bool
  | .none => true
  | .bool _ => true
  | .int _ => true
  | .str _ => true
  | .tuple ds => plainL ds
  | .dict [(.none, .tuple ds)] => plainL ds
  | _ => false
def plainL : List PyData → Bool
  | [] => true
  | d :: ds => plainD d && plainL ds
end
section
variable {c : Ct} {K : PySem.W.Frag} {M M' : List Addr} {H H' : Hp}
mutual
theorem Dk.map2 (h : ∀ a o, a ∉ M → H a = some o → (∀ ps, o ≠ .tbl ps) → (∀ φ, o ≠ .ext φ) → a ∉ M' ∧ H' a = some o) : ∀ {v : V} {d : PyData}, Dk K M H v d → Dk K M' H' v d
  | _, _, .non => .non
  | _, _, .bl b => .bl b
  | _, _, .int i => .int i
  | _, _, .str x => .str x
  | _, _, .lst n e r => let z := h _ _ n e nofun nofun; .lst z.1 z.2 (Dks.map2 h r)
  | _, _, .tup n e r => let z := h _ _ n e nofun nofun; .tup z.1 z.2 (Dks.map2 h r)
  | _, _, .bar n ⟨o, e, e2⟩ r => let z := h _ _ n e nofun nofun; .bar z.1 ⟨o, z.2, e2⟩ (Dks.map2 h r)
  | _, _, .ktup e r => .ktup e (Dks.map2 h r)
  | _, _, .dct n e => let z := h _ _ n e nofun nofun; .dct z.1 z.2
  | _, _, .scr n (.inl e) r => let z := h _ _ n e nofun nofun; .scr z.1 (.inl z.2) (Dks.map2 h r)
  | _, _, .scr n (.inr ⟨o, e⟩) r => let z := h _ _ n e nofun nofun; .scr z.1 (.inr ⟨o, z.2⟩) (Dks.map2 h r)
  | _, _, .scrK e r => .scrK e (Dks.map2 h r)
theorem Dks.map2 (h : ∀ a o, a ∉ M → H a = some o → (∀ ps, o ≠ .tbl ps) → (∀ φ, o ≠ .ext φ) → a ∉ M' ∧ H' a = some o) : ∀ {vs : List V} {ds : List PyData}, Dks K M H vs ds → Dks K M' H' vs ds
  | _, _, .nil => .nil
  | _, _, .cons x r => .cons (Dk.map2 h x) (Dks.map2 h r)
end
mutual
theorem Dk.mapP (h : ∀ a o, H a = some o → (∀ ps, o ≠ .tbl ps) → Stays o → H' a = some o) : ∀ {v : V} {d : PyData}, plainD d = true → Dk K M H v d → Dk K [] H' v d
  | _, _, _, .non => .non
  | _, _, _, .bl b => .bl b
  | _, _, _, .int i => .int i
  | _, _, _, .str x => .str x
  | _, _, p, .lst _ _ _ => by simp [plainD] at p
  | _, _, p, .tup n e r => .tup (fun z => nomatch z) (h _ _ e nofun trivial) (Dks.mapP h (by simpa [plainD] using p) r)
  | _, _, p, .bar n ⟨o, e, e2⟩ r => .bar (fun z => nomatch z) ⟨o, h _ _ e nofun trivial, e2⟩ (Dks.mapP h (by simpa [plainD] using p) r)
  | _, _, p, .ktup e r => .ktup e (Dks.mapP h (by simpa [plainD] using p) r)
  | _, _, p, .dct _ _ => by simp [plainD] at p
  | _, _, p, .scr _ _ _ => by simp [plainD] at p
  | _, _, p, .scrK _ _ => by simp [plainD] at p
theorem Dks.mapP (h : ∀ a o, H a = some o → (∀ ps, o ≠ .tbl ps) → Stays o → H' a = some o) : ∀ {vs : List V} {ds : List PyData}, plainL ds = true → Dks K M H vs ds → Dks K [] H' vs ds
  | _, _, _, .nil => .nil
  | _, _, p, .cons x r => by
    simp only [plainL, Bool.and_eq_true] at p
    exact .cons (Dk.mapP h p.1 x) (Dks.mapP h p.2 r)
end
theorem gd_rem {a : Addr} {o : Obj} {v : Option Value} (g : Gd c H) (ha : H a = some (FnO a o)) (hd : o.data = .cell v) (hh : ∃ h : Heap, h.get? a = some o) : Gd c (rem H a) := by
  have nt : ∀ {P ps}, H P = some (.tbl ps) → P ≠ a := fun {P ps} e z => by
    rw [z, ha] at e
    exact fnO_ne _ (Option.some.inj e)
  refine ⟨fun P hP => ?_, fun p hp => ?_⟩
  · obtain ⟨ps, e, t⟩ := g.g P hP
    exact ⟨ps, by rw [rem_ne (nt e)]; exact e, t⟩
  · obtain ⟨ps, e, t, q⟩ := g.t p hp
    refine ⟨ps, by rw [rem_ne (nt e)]; exact e, t, fun pos cv hc => ?_⟩
    obtain ⟨c0, e1, e2⟩ := q pos cv hc
    refine ⟨c0, e1, ?_⟩
    rw [rem_ne fun z => ?_]
    · exact e2
    · rw [z, ha] at e2
      exact fnO_code hd hh (Option.some.inj e2)
end
def lamC (np nN : Nat) (dt : PyData) (de : DE) : FSpec := fun ds k => ds.length = np ∧ de ((ds.map .dat).map some ++ (some (.dat dt) :: List.replicate (nN - np - 1) none)) fun r _ => match r with
  | .dat (.int i) => k (.int i)
  | _ => False
def dCallC (S : TSpec) (i J ar : Nat) (d1 d2 : DE) (F : PyData → FSpec) : DE := fun e Q => (∃ dt, e[i]? = some (some (.dat dt))) ∧ d1 e fun r1 e1 => d2 e1 fun r2 e2 => match r1, r2, e2[i]? with
  | .dat a, .dat b, some (some (.dat dt)) => plainD dt = true ∧ ∀ g, S [.dat a, .dat b, .fn J g ar (F dt)] fun r _ => match r with
    | .own true p ds => Q (.own true p ds) e2
    | _ => False
  | _, _, _ => False
section
variable {x : Fx}
theorem le_callC {X : Cx} {S : TSpec} {nm : Str} {i k : Nat} {t1 t2 : TE} {d1 d2 : DE} {Pt : Addr} {q : Str} {params : Arguments} {body : Expr} {scope : Scope} {cl : List (Str × Addr)} {N ps : List Str} {de : DE} {E : XK}
    (h1 : LE x t1 d1) (h2 : LE x t2 d2) (mT : (Pt, q) ∈ x.c.T) (n1 : ∀ p ∈ x.c.T, p.1 = Pt → p.2 = q) (n2 : ∀ R ∈ x.c.G, R ≠ Pt) (Sc : NScope N ps [nm] scope)
    (hcl : ∀ c, X.env.cells.lookup nm = some c → cl.lookup nm = some c) (hcl1 : ∀ y d, cl.lookup y = some d → y = nm)
    (hb : ∀ (pm ctv : Value) (c' : Addr) (us : List Value), us.length = ps.length → bindArgs (PySem.W.kla_fn "<lambda>" q params body scope cl pm (.ref c') ctv) ⟨us, []⟩ = pure (ps.zip us))
    (hbody : ∀ (f c' : Addr) (A : Around) (outer : List Env) (s : Shared) (H' : Hp) (E : XK), Rm k (A.deeper (envF ⟨"<lambda>", q, params, [], scope, cl, c'⟩ f s.heap.objs.size)) →
      ∃ t, PE (ncx CX0 x.P x.w x.K x.mg x.base N ⟨"<lambda>", q, params, [], scope, cl, c'⟩ f A outer s H' E) body t ∧ LE x t de) :
    LE x (tCallC X nm i (spT x S) E (tCons t1 (tCons t2 (tCons (tLamC Pt q params body scope cl) tNil)))) (dCallC S i (k + 1) ps.length d1 d2 fun dt => lamC ps.length N.length dt de) := fun {f L P σ H e Q Qd} hf S0 hd qq => by
  obtain ⟨⟨dt0, he0⟩, hd⟩ := hd
  obtain ⟨v0, s0, _⟩ := S0.sl _ _ he0
  refine ⟨v0, s0, ?_⟩
  refine h1 hf S0 hd fun v1 r1 L1 H1 e1 S1 k1 => h2 hf S1 k1 fun v2 r2 L2 H2 e2 S2 k2 => ?_
  subst hf
  split at k2
  · rename_i a b dt he
    obtain ⟨pl, k2⟩ := k2
    obtain ⟨v0', s0', kt⟩ := S2.sl _ _ he
    rw [s0] at s0'
    cases s0'
    cases kt with
    | dat kt =>
    have tb := S2.gd.t _ mT
    refine ⟨tb, fun g c' pm ctv H3 ext tab old nf a1 a2 => ?_⟩
    intro c o u hc0 hc hdd rv hh
    have s3 : Sm f.c [] H2 H3 := Sm.lam ext tab tb old (fun y hy e => n1 y hy e) n2
    have S3 := S2.grow (Sn.of s3)
    have kt3 : Dk f.K (L2 ++ f.M) H3 v0 dt := kt.sm (Sn.of s3)
    have sc : Sn f.c [] H3 (upd H3 c (FnO c o)) := Sn.new hc
    have Sc2 := S3.grow sc
    have ktc : Dk f.K (L2 ++ f.M) (upd H3 c (FnO c o)) v0 dt := kt3.sm sc.any
    have neg : g ≠ c := fun z => by rw [z, hc] at a1; cases a1
    have nec : c' ≠ c := fun z => by rw [z, hc] at a2; cases a2
    let Hc := upd H3 c (FnO c o)
    let Hf : Hp := fun b => match Hc b with
      | some (.lst _) => none
      | some (.dT _) => none
      | some (.dK _) => none
      | some (.set _ _) => none
      | some (.ins _ _ _) => none
      | some (.tbl _) => none
      | z => z
    have hHf : ∀ b y, Hc b = some y → (∀ ps, y ≠ .tbl ps) → Stays y → Hf b = some y := fun b y e t l => by
      show (match Hc b with
        | some (.lst _) => none
        | some (.dT _) => none
        | some (.dK _) => none
        | some (.set _ _) => none
        | some (.ins _ _ _) => none
        | some (.tbl _) => none
        | z => z) = some y
      rw [e]
      cases y <;> first | rfl | exact (l : False).elim | exact absurd rfl (t _)
    have hHf2 : ∀ b y, Hf b = some y → Stays y ∧ Hc b = some y := fun b y e => by
      have e' : (match Hc b with
        | some (.lst _) => none
        | some (.dT _) => none
        | some (.dK _) => none
        | some (.set _ _) => none
        | some (.ins _ _ _) => none
        | some (.tbl _) => none
        | z => z) = some y := e
      generalize Hc b = z at e' ⊢
      cases z with
      | none => cases e'
      | some o' => cases o' <;> first | (cases e'; done) | (cases e'; exact ⟨trivial, rfl⟩)
    have cal : Cal f.P f.w f.K f.mg f.base (k + 1) g Hf ps.length (spP f.K f.c (lamC ps.length N.length dt de)) := by
      refine lam_calC (c := c) (o := o) (u := u) (v0 := v0) (cl := cl) (x := nm) (N := N) (ps := ps) (q := q) (params := params) (body := body) (scope := scope) (pm := pm) (ctv := ctv) (c' := c')
        (hHf _ _ ((upd_ne neg).trans a1) fnO_ne trivial) (hHf _ _ ((upd_ne nec).trans a2) codeO_ne trivial) (hHf _ _ upd_same fnO_ne trivial) hdd rv Sc (hcl c hc0) hcl1 (fun vs H Q E h => ?_) (hb pm ctv c') ?_
      · obtain ⟨M, ds, kk, gd, hM, hq, ⟨hl, _⟩, _⟩ := h
        exact hq.length.trans hl
      · intro A outer s H' vs Q' E' hr hc' ext' hs
        obtain ⟨M, ds, kk, gd, hM, hq, ⟨hl, hs⟩, fin⟩ := hs
        obtain ⟨t, ht, hlt⟩ := hbody g c' A outer s (rem H' c) E' hr
        refine ⟨t, ht, ?_⟩
        have gd' : Gd f.c (rem H' c) := gd_rem gd hc' hdd hh
        have lv := hq.length
        have npl : ps.length + 1 ≤ N.length := by
          have z := congrArg List.length Sc.pre
          rw [List.length_take, List.length_append] at z
          simp only [List.length_cons, List.length_nil] at z
          omega
        have hq' : Dks f.K [] (rem H' c) vs ds := (hq.sub (M' := []) (fun _ z => nomatch z)).map2 fun a o' n e t x => ⟨n, by
          rw [rem_ne fun z => ?_]
          · exact e
          · rw [z, hc'] at e
            have e := Option.some.inj e
            exact x _ e.symm⟩
        have kt' : Dk f.K [] (rem H' c) v0 dt := by
          have k1 : Dk f.K [] Hf v0 dt := ktc.mapP (fun a o' e t l => hHf a o' e t l) pl
          have k2 : Dk f.K [] H' v0 dt := k1.map fun a o' n e t => ⟨n, ext' a o' e t⟩
          exact k2.map2 fun a o' n e t x => ⟨n, by
            rw [rem_ne fun z => ?_]
            · exact e
            · rw [z, hc'] at e
              have e := Option.some.inj e
              exact x _ e.symm⟩
        have S0 : Stn (Fm.mk f.toFx [] [] (rem H' c)) [] [] (startF N vs [some v0]) (rem H' c) ((ds.map .dat).map some ++ (some (.dat dt) :: List.replicate (N.length - ps.length - 1) none)) := by
          refine ⟨gd', Sn.refl, (fun _ z => nomatch z), (fun _ z => nomatch z), (fun _ z => nomatch z), (fun _ z => nomatch z), fun a => ?_, ?_, fun i r hr => ?_, fun _ z => nomatch z⟩
          · rw [cE_app, cE_map, cnt_dats]
            show 0 + (0 + cE a (List.replicate (N.length - ps.length - 1) none)) + 0 ≤ 1
            rw [cE_rep]
            omega
          · unfold startF
            simp only [List.length_append, List.length_map, List.length_replicate, List.length_cons, List.length_nil]
            omega
          · unfold startF
            by_cases hi : i < ds.length
            · rw [List.getElem?_append_left (by rw [List.length_map, List.length_map]; exact hi), List.getElem?_map, List.getElem?_map] at hr
              obtain ⟨r', h1, h2⟩ := Option.map_eq_some_iff.mp hr
              obtain ⟨d, h3, h4⟩ := Option.map_eq_some_iff.mp h1
              cases h2
              subst h4
              obtain ⟨v, g1, g2⟩ := hq'.get h3
              refine ⟨v, ?_, .dat g2⟩
              rw [List.getElem?_append_left (by rw [List.length_map]; omega), List.getElem?_map, g1]
              rfl
            · rw [List.getElem?_append_right (by rw [List.length_map, List.length_map]; omega), List.length_map, List.length_map] at hr
              by_cases hi2 : i = ds.length
              · subst hi2
                rw [Nat.sub_self] at hr
                cases hr
                refine ⟨v0, ?_, .dat kt'⟩
                rw [List.getElem?_append_right (by rw [List.length_map]; omega), List.length_map, lv, Nat.sub_self]
                rfl
              · obtain ⟨m, hm⟩ : ∃ m, i - ds.length = m + 1 := ⟨i - ds.length - 1, by omega⟩
                rw [hm, List.getElem?_cons_succ] at hr
                have := List.eq_of_mem_replicate (List.mem_of_getElem? hr)
                cases this
        refine hlt (f := Fm.mk f.toFx [] [] (rem H' c)) rfl S0 hs fun v r L' H2' e' S2' k2' => ?_
        split at k2'
        · rename_i iv
          intro hn
          have z := S2'.last
          cases z with
          | dat z =>
            cases z.int_inv
            refine fin (.int iv) _ (.int iv) ?_ (.int iv) k2'
            have sm2 : Sn f.c (L' ++ []) (rem H' c) H2' := S2'.sm
            have sm3 : Sn f.c [] (rem H' c) H2' := sm2.outs S2'.fr
            refine ⟨fun b o' n e t => ?_, fun b o' e t l => ?_, fun b e => ?_, fun g' => (Sn.new (M := []) hn).gd (sm3.gd gd')⟩
            · by_cases z : b = c
              · subst z
                rw [hc'] at e
                rw [upd_same, e]
              · rw [upd_ne z]
                exact sm3.ex b o' n (by rw [rem_ne z]; exact e) t
            · by_cases z : b = c
              · subst z
                rw [hc'] at e
                rw [upd_same, e]
              · rw [upd_ne z]
                exact sm3.nl b o' (by rw [rem_ne z]; exact e) t l
            · by_cases z : b = c
              · subst z
                rw [upd_same]
                nofun
              · rw [upd_ne z]
                exact sm3.st b (by rw [rem_ne z]; exact e)
        · exact k2'.elim
    have S3' : Stn f L2 (P ++ [(v1, .dat a), (v2, .dat b)]) σ H3 e2 := by
      have z := S3
      rw [List.append_assoc] at z
      exact z
    have p1 : Dk f.K (L2 ++ f.M) H3 v1 (a) := by
      have z := S3'.pd (v1, .dat a) (by simp)
      cases z with
      | dat z => exact z
    have p2 : Dk f.K (L2 ++ f.M) H3 v2 (b) := by
      have z := S3'.pd (v2, .dat b) (by simp)
      cases z with
      | dat z => exact z
    refine ⟨Fm.mk f.toFx [] (L2 ++ f.M) Hc, [.dat a, .dat b, .fn (k + 1) g ps.length (lamC ps.length N.length dt de)], _, rfl, rfl, Sc2.gd, Sc2.all, (fun _ z => nomatch z),
      .cons (.dat (p1.sm sc.any)) (.cons (.dat (p2.sm sc.any)) (.cons (.fn Hf cal fun b y e t => hHf2 b y e) .nil)), fun a => (by simp [Rv.cntL, Rv.cnt]), rfl, k2 g, fun v r outs Lc H' F hk => ?_⟩
    have ncL : c ∉ Lc := fun z => by
      have := F.fr c z
      rw [show (Fm.mk f.toFx [] (L2 ++ f.M) Hc).H0 c = some (FnO c o) from upd_same] at this
      cases this
    have hc' : H' c = some (FnO c o) := F.sm.ex c _ (fun z => by
      rcases List.mem_append.mp z with z | z
      · exact ncL z
      · nomatch z) upd_same fnO_ne
    refine ⟨hc', ?_⟩
    split at hk
    · rename_i p ds
      have fr3 : ∀ l ∈ Lc, H3 l = none := fun l hl => by
        have z : upd H3 c (FnO c o) l = none := F.fr l hl
        rwa [upd_ne fun z => ncL (by rw [← z]; exact hl)] at z
      have h3c : ∀ {b y}, H3 b = some y → b ≠ c := fun {b y} e z => by
        rw [z, hc] at e
        cases e
      have smH : Sn f.c (Lc ++ []) (upd H3 c (FnO c o)) H' := F.sm
      have F' : Fin (Fm.mk f.toFx [] (L2 ++ f.M) H3) Lc (rem H' c) [.dat a, .dat b] v (.own true p ds) outs := by
        refine ⟨⟨fun b y n e t => ?_, fun b y e t l => ?_, fun b e => ?_, fun g' => gd_rem (smH.gd (sc.gd g')) hc' hdd hh⟩, fr3, fun l hl => ?_, ?_, rfl, F.nd, F.ou⟩
        · have z := h3c e
          rw [rem_ne z]
          exact smH.ex b y n (by rw [upd_ne z]; exact e) t
        · have z := h3c e
          rw [rem_ne z]
          exact smH.nl b y (by rw [upd_ne z]; exact e) t l
        · have z : b ≠ c := fun z => e (by rw [z]; exact hc)
          rw [rem_ne z]
          exact smH.st b (by rw [upd_ne z]; exact e)
        · rw [rem_ne fun z => ncL (by rw [← z]; exact hl)]
          exact F.al l hl
        · have z := F.rq
          cases z with
          | own x1 x2 x3 x4 =>
            refine .own x1 x2 ?_ (x4.map2 fun a' o' n e t x => ⟨n, ?_⟩)
            · rw [rem_ne fun z => by rw [z, hc'] at x3; exact fnO_nl _ (Option.some.inj x3)]
              exact x3
            · rw [rem_ne fun z => ?_]
              · exact e
              · rw [z, hc'] at e
                exact x _ (Option.some.inj e).symm
      exact qq v (.own true p ds) _ (rem H' c) _ (S3'.called (ps := [(v1, .dat a), (v2, .dat b)]) (as := [.dat a, .dat b]) .nil rfl F') hk
    · exact hk.elim
  · exact k2.elim
end
end My
namespace My
open PySem PySem.Spec PyProof.Rows L2
open NdefX (NScope NF envF ncx)
theorem le_callC2 {x : Fx} {X : Cx} {S : TSpec} {nm : Str} {i k : Nat} {t1 t2 : TE} {d1 d2 : DE} {Pt : Addr} {q : Str} {params : Arguments} {body : Expr} {scope : Scope} {N ps : List Str} {de : DE} {E : XK}
    (h1 : LE x t1 d1) (h2 : LE x t2 d2) (mT : (Pt, q) ∈ x.c.T) (n1 : ∀ p ∈ x.c.T, p.1 = Pt → p.2 = q) (n2 : ∀ R ∈ x.c.G, R ≠ Pt) (Sc : NScope N ps [nm] scope)
    (hb : ∀ (cl : List (Str × Addr)) (pm ctv : Value) (c' : Addr) (us : List Value), us.length = ps.length → bindArgs (PySem.W.kla_fn "<lambda>" q params body scope cl pm (.ref c') ctv) ⟨us, []⟩ = pure (ps.zip us))
    (hbody : ∀ (cl : List (Str × Addr)) (f c' : Addr) (A : Around) (outer : List Env) (s : Shared) (H' : Hp) (E : XK), Rm k (A.deeper (envF ⟨"<lambda>", q, params, [], scope, cl, c'⟩ f s.heap.objs.size)) →
      ∃ t, PE (ncx CX0 x.P x.w x.K x.mg x.base N ⟨"<lambda>", q, params, [], scope, cl, c'⟩ f A outer s H' E) body t ∧ LE x t de) :
    LE x (tCallC X nm i (spT x S) E (tCons t1 (tCons t2 (tCons (tLamC Pt q params body scope (cloFrom X.env.cells scope.names [])) tNil)))) (dCallC S i (k + 1) ps.length d1 d2 fun dt => lamC ps.length N.length dt de) := by
  have fr : ∀ y ∈ scope.names, y.2 = .free → y.1 = nm := fun y hy e => by simpa using Sc.free y hy e
  refine @le_callC x X S nm i k t1 t2 d1 d2 Pt q params body scope _ N ps de E h1 h2 mT n1 n2 Sc (fun c hc => ?_) (fun y d e => ?_) (hb _) (hbody _)
  · exact NdefX.clo_has (fun y hy e => ⟨c, by rw [fr y hy e]; exact hc⟩) (PySem.mem_of_lookup (Sc.frk nm (by simp))) hc
  · rcases cloFrom_mem (PySem.mem_of_lookup e) with hm | ⟨h1, _⟩
    · cases hm
    · exact fr _ h1 rfl
end My

/-! comprehensions with three for: a clause's code, level by level -/
namespace My
open PySem PySem.Spec PyProof.Rows L2
/-- what a clause's code does, from any slots, ahead of k; vs: the names that it stores -/
def Does (Y : Cx) (vs : List Nat) (c : Sem PySem.Fin → Sem PySem.Fin) (B : L2.St → Hp → (Hp → Prop) → Prop) : Prop :=
  ∀ (pl : List (Addr × Obj)) (s : Shared) (σ : L2.St) (H : Hp) (N : Hp → Prop) (F : Value → Shared → Prop) (k : Sem PySem.Fin) (Q : PySem.Fin → Shared → Prop), Inv Y pl σ H s → B σ H N →
    (∀ t G, Inv Y pl (wipe σ vs) G t → N G → wpAny (model Y.prog Y.w) Y.A k Q F t) → wpAny (model Y.prog Y.w) Y.A (c k) Q F s
/-- the last clause's work -/
def addTo (D : Addr) (elt : Expr) (env : Env) : Sem Unit := do
  let _ ← call (.builtin "list.append") [.ref D, ← eval elt env]
def addK (D : Addr) (elt : Expr) (env : Env) (k : Sem PySem.Fin) : Sem PySem.Fin := do
  addTo D elt env
  k
def bLast (D : Addr) (te : TE) : L2.St → Hp → (Hp → Prop) → Prop := fun σ H N => te σ H fun y G => ∃ a, G D = some (.lst a) ∧ a.length < sizeLine ∧ N (upd G D (.lst (a ++ [y])))
theorem does_last {Y : Cx} {D : Addr} {elt : Expr} {te : TE} (hx : Y.xe = fun _ _ => False) (pe : PE Y elt te) : Does Y [] (addK D elt Y.env) (bLast D te) := by
  intro pl s σ H N F k Q I h hk
  have r := pe.run pl s σ H _ I h
  rw [hx] at r
  unfold addK addTo
  refine wpAny_bind (wpAny_bind (thnF r fun z t q => ?_))
  obtain ⟨y, G, I1, rv, a, hD, hz, n⟩ := q
  exact wpAny_bind (app_ok I1 hD hz rv fun t' I2 => wpAny_pure (hk t' _ I2 n))
/-- the next clause's code: its source, then its own loop -/
def lvlK (e iter : Expr) (j : Nat) (acc : Value) (env : Env) (k : Sem PySem.Fin) : Sem PySem.Fin := do
  let x ← eval iter env
  standAt iter.pos
  let x ← foldedSetIterable iter env x
  let _ ← runOwn (.compStart e j (← holding [x] (pyIter x)) acc env) env
  k
def bLvl (wi : TI) (g : TG) (vs : List Nat) (B : L2.St → Hp → (Hp → Prop) → Prop) : L2.St → Hp → (Hp → Prop) → Prop := fun σ H N => wi σ H fun J G => ∃ W : Nat → Nat → Hp → Prop, (∃ m, W 0 m G) ∧ ∀ i m G, W i m G →
  (J.stop i G ∧ N G) ∨ (J.go i G ∧ ∃ N1 : Hp → Prop, (∀ G', N1 G' → ∃ k, k < m ∧ W (i + 1) k G') ∧ ∀ x G', J.yld i G x G' → g x (wipe σ vs) G' fun τ G2 => wipe τ vs = wipe σ vs ∧ B τ G2 N1)
/-- one turn of a clause's loop -/
def turnOf (e tg iter : Expr) (j : Nat) (it acc : Value) (env : Env) (c : Sem PySem.Fin → Sem PySem.Fin) : Sem PySem.Fin := do
  standAt iter.pos
  match ← pyNext it with
  | none => pure (.done .next)
  | some v =>
    letOwnedTupleGo tg it v
    assign tg env v
    c (again (.compLoop e j it acc env))
section
variable {P : Program} {w : World} {A : Around} {R : Result → Shared → Prop} {s : Shared}
theorem start_ok {elt t0 i0 t1 i1 t2 i2 : Expr} {scope : Scope} {pos : Pos} {it acc : Value} {env : Env} {j : Nat} (hj : j = 1 ∨ j = 2)
    (h0 : codeAny (model P w) A (.compLoop (.ListComp elt [⟨t0, i0, [], 0⟩, ⟨t1, i1, [], 0⟩, ⟨t2, i2, [], 0⟩] scope pos) j it acc env) R s)
    (h : wpAny (model P w) A (pyIter it) (fun v t => codeAny (model P w) A (.compLoop (.ListComp elt [⟨t0, i0, [], 0⟩, ⟨t1, i1, [], 0⟩, ⟨t2, i2, [], 0⟩] scope pos) j v acc env) R t) (notedBy (model P w) A env fun x t => R (.error x) t) s) :
    codeAny (model P w) A (.compStart (.ListComp elt [⟨t0, i0, [], 0⟩, ⟨t1, i1, [], 0⟩, ⟨t2, i2, [], 0⟩] scope pos) j it acc env) R s := by
  refine codeAny_of_tree ?_
  rcases hj with rfl | rfl
  · show wpAny _ _ (Sem.onRaise (compStart _ 1 it acc env) _) _ _ s
    refine wpAny_notedAt ?_
    unfold compStart
    refine wpAny_bind (wpAny_askSetting (wpAny_ite ?_))
    split
    · exact wpAny_pure ⟨rfl, h0⟩
    · exact wpAny_bind (wpAny_rule (wpAny_bind (wpAny_standAt (wpAny_bind (wpAny_mono h (fun _ _ q => wpAny_pure ⟨rfl, q⟩) fun _ _ q => q)))))
  · show wpAny _ _ (Sem.onRaise (compStart _ 2 it acc env) _) _ _ s
    refine wpAny_notedAt ?_
    unfold compStart
    refine wpAny_bind (wpAny_askSetting (wpAny_ite ?_))
    split
    · exact wpAny_pure ⟨rfl, h0⟩
    · exact wpAny_bind (wpAny_rule (wpAny_bind (wpAny_standAt (wpAny_bind (wpAny_mono h (fun _ _ q => wpAny_pure ⟨rfl, q⟩) fun _ _ q => q)))))
end
theorem turn3_0 (elt t0 i0 t1 i1 t2 i2 : Expr) (scope : Scope) (pos : Pos) (it acc : Value) (env : Env) :
    compTurn (.ListComp elt [⟨t0, i0, [], 0⟩, ⟨t1, i1, [], 0⟩, ⟨t2, i2, [], 0⟩] scope pos) 0 it acc env =
    turnOf (.ListComp elt [⟨t0, i0, [], 0⟩, ⟨t1, i1, [], 0⟩, ⟨t2, i2, [], 0⟩] scope pos) t0 i0 0 it acc env (lvlK (.ListComp elt [⟨t0, i0, [], 0⟩, ⟨t1, i1, [], 0⟩, ⟨t2, i2, [], 0⟩] scope pos) i1 1 acc env) := by rfl
theorem turn3_1 (elt t0 i0 t1 i1 t2 i2 : Expr) (scope : Scope) (pos : Pos) (it acc : Value) (env : Env) :
    compTurn (.ListComp elt [⟨t0, i0, [], 0⟩, ⟨t1, i1, [], 0⟩, ⟨t2, i2, [], 0⟩] scope pos) 1 it acc env =
    turnOf (.ListComp elt [⟨t0, i0, [], 0⟩, ⟨t1, i1, [], 0⟩, ⟨t2, i2, [], 0⟩] scope pos) t1 i1 1 it acc env (lvlK (.ListComp elt [⟨t0, i0, [], 0⟩, ⟨t1, i1, [], 0⟩, ⟨t2, i2, [], 0⟩] scope pos) i2 2 acc env) := by rfl
theorem turn3_2 (elt t0 i0 t1 i1 t2 i2 : Expr) (scope : Scope) (pos : Pos) (it : Value) (D : Addr) (env : Env) :
    compTurn (.ListComp elt [⟨t0, i0, [], 0⟩, ⟨t1, i1, [], 0⟩, ⟨t2, i2, [], 0⟩] scope pos) 2 it (.ref D) env =
    turnOf (.ListComp elt [⟨t0, i0, [], 0⟩, ⟨t1, i1, [], 0⟩, ⟨t2, i2, [], 0⟩] scope pos) t2 i2 2 it (.ref D) env (addK D elt env) := by rfl
section
variable {Y : Cx} {elt tg iter : Expr} {gs : List Comprehension} {scope : Scope} {pos : Pos} {j : Nat} {acc : Value} {c : Sem PySem.Fin → Sem PySem.Fin} {g : TG} {B : L2.St → Hp → (Hp → Prop) → Prop} {vs vs' : List Nat}
/-- a clause's loop, its iterator at hand -/
theorem loop_lvl (hx : Y.xe = fun _ _ => False) (hc : Y.calm = true) (pg : PG Y tg g) (ht : ∀ v, compTurn (.ListComp elt gs scope pos) j v acc Y.env = turnOf (.ListComp elt gs scope pos) tg iter j v acc Y.env c) (dc : Does Y vs' c B) (sub : ∀ i ∈ vs', i ∈ vs)
    {pl : List (Addr × Obj)} {σ : L2.St} {H : Hp} {s : Shared} {it : Addr} {fp : List Addr} {tn : Nat → Heap → Prop} {J : It} {N : Hp → Prop} {R : Result → Shared → Prop} {W : Nat → Nat → Hp → Prop} {m : Nat}
    (T : Turn Y.prog Y.w Y.K tg J fp it tn) (I : Inv Y pl (wipe σ vs) H s) (st : tn 0 s.heap) (ok : ∀ t G, Inv Y pl (wipe σ vs) G t → (∀ b ∈ fp, G b = none) → ∀ b ∈ fp, FpOk Y pl G b) (nf : ∀ b ∈ fp, H b = none) (w0 : W 0 m H)
    (hW : ∀ i m G, W i m G → (J.stop i G ∧ N G) ∨ (J.go i G ∧ ∃ N1 : Hp → Prop, (∀ G', N1 G' → ∃ k, k < m ∧ W (i + 1) k G') ∧ ∀ x G', J.yld i G x G' → g x (wipe σ vs) G' fun τ G2 => wipe τ vs = wipe σ vs ∧ B τ G2 N1))
    (hR : ∀ t G, Inv Y pl (wipe σ vs) G t → (∀ b ∈ fp, G b = none) → N G → R (.ok .next) t) : codeAny (model Y.prog Y.w) Y.A (.compLoop (.ListComp elt gs scope pos) j (.ref it) acc Y.env) R s := by
  refine codeAny_loop rfl (fun n t => ∃ i G, Inv Y pl (wipe σ vs) G t ∧ tn i t.heap ∧ (∀ b ∈ fp, G b = none) ∧ W i n G) (fun n t hI => ?_) m ⟨0, H, I, st, nf, w0⟩
  obtain ⟨i, G, I1, st1, nf1, w1⟩ := hI
  show wpAny _ Y.A (Sem.onRaise (compTurn (.ListComp elt gs scope pos) j (.ref it) acc Y.env) _) _ _ t
  refine wpAny_noted ?_
  rw [ht]
  unfold turnOf
  refine wpAny_bind (wpAny_standAt (wpAny_bind ?_))
  rcases hW i n G w1 with ⟨stop, hN⟩ | ⟨go, N1, hN1, step⟩
  · refine thnF (T.done Y rfl rfl rfl hc i pl t _ G (fun _ _ => False) I1 (ok t G I1 nf1) st1 stop) fun r t2 z => ?_
    obtain ⟨rfl, I2⟩ := z
    exact wpAny_pure (hR t2 G I2 nf1 hN)
  · refine thnF (T.item Y rfl rfl rfl hc i pl t _ G (fun _ _ => False) I1 (ok t G I1 nf1) st1 go) fun r t2 z => ?_
    obtain ⟨u, rfl, h2⟩ := z
    refine wpAny_bind (thnF h2 fun _ t3 z => ?_)
    obtain ⟨x, G3, I3, r3, y3, st3, nf3⟩ := z
    have I3' := I3.pinned (ok t3 G3 I3 nf3) (T.obj _ _ st3)
    have as := pg.run _ t3 _ G3 x u _ I3' r3 (step x G3 y3)
    rw [hx] at as
    refine wpAny_bind (thnF as fun _ t4 z => ?_)
    obtain ⟨τ, G4, I4, hw, b4⟩ := z
    refine dc _ t4 τ G4 N1 _ _ _ I4 b4 fun t5 G5 I5 n5 => ?_
    obtain ⟨k, hk, wk⟩ := hN1 G5 n5
    have still : ∀ b ∈ fp, ∀ o, t3.heap.get? b = some o → t5.heap.get? b = some o ∧ G5 b = none := fun b hb o eo => by
      have z := I5.pin (b, o) (List.mem_append_right _ (List.mem_append_right _ (mem_pinsAt hb eo)))
      exact ⟨z.1, z.2.1⟩
    refine wpAny_pure ⟨rfl, k, hk, i + 1, G5, I5.unpinned.weak ?_ (fun q v eq => ?_), T.keep _ _ _ st3 fun b hb o eo => (still b hb o eo).1, fun b hb => ?_, wk⟩
    · rw [← hw, wipe_length, wipe_length]
    · rw [← hw] at eq
      obtain ⟨z1, z2⟩ := wipe_some eq
      rw [wipe_out fun z => z2 (sub q z)]
      exact z1
    · obtain ⟨o, eo, _⟩ := T.obj _ _ st3 b hb
      exact (still b hb o eo).2
/-- a later clause -/
theorem does_lvl {wi : TI} (hx : Y.xe = fun _ _ => False) (hc : Y.calm = true) (pi : PI Y tg iter wi) (hs : ∀ env x, foldedSetIterable iter env x = pure x) (pg : PG Y tg g) (ht : ∀ v, compTurn (.ListComp elt gs scope pos) j v acc Y.env = turnOf (.ListComp elt gs scope pos) tg iter j v acc Y.env c) (dc : Does Y vs' c B) (sub : ∀ i ∈ vs', i ∈ vs)
    (hst : ∀ {s : Shared} {R : Result → Shared → Prop} {it : Value}, codeAny (model Y.prog Y.w) Y.A (.compLoop (.ListComp elt gs scope pos) j it acc Y.env) R s →
      wpAny (model Y.prog Y.w) Y.A (pyIter it) (fun v t => codeAny (model Y.prog Y.w) Y.A (.compLoop (.ListComp elt gs scope pos) j v acc Y.env) R t) (notedBy (model Y.prog Y.w) Y.A Y.env fun x t => R (.error x) t) s → codeAny (model Y.prog Y.w) Y.A (.compStart (.ListComp elt gs scope pos) j it acc Y.env) R s) :
    Does Y vs (lvlK (.ListComp elt gs scope pos) iter j acc Y.env) (bLvl wi g vs B) := by
  intro pl s σ H N F k Q I h hk
  have r := pi.run pl s σ H _ I h
  rw [hx] at r
  unfold lvlK
  refine wpAny_bind (thnF r fun xv s1 hv => wpAny_bind (wpAny_standAt (wpAny_bind (wpAny_of_eq (hs _ xv) (wpAny_bind (wpAny_holding (thnF hv fun itv s2 z => ?_)))))))
  obtain ⟨it, fp, tn, J, H2, rfl, I2, T, st2, f2, W, ⟨m, w0⟩, hW⟩ := z
  refine wpAny_bind (wpAny_runOwn ?_)
  rw [Around.mark_none]
  have loop : codeAny (model Y.prog Y.w) Y.A (.compLoop (.ListComp elt gs scope pos) j (.ref it) acc Y.env) (fun r t => match r with
      | .ok _ => ∃ G, Inv Y pl (wipe σ vs) G t ∧ N G
      | .error _ => False) s2 :=
    loop_lvl hx hc pg ht dc sub T (I2.weak (wipe_length _ _) fun q v eq => (wipe_some eq).1) st2 (fun t G _ n b hb => ⟨n b hb, (f2 b hb).2⟩) (fun b hb => (f2 b hb).1) w0 hW fun t G I' _ n => ⟨G, I', n⟩
  refine codeAny_mono (hst loop (T.self Y.A 0 s2 _ _ st2 loop)) fun r t hr => ?_
  cases r with
  | ok f =>
    obtain ⟨G, I', n⟩ := hr
    exact hk t G I' n
  | error x => exact hr.elim
end
section
variable {X : Cx}
/-- [elt for tg in iter for tg1 in iter1 for tg2 in iter2] -/
def tLc3 (wi : TI) (g : TG) (wi1 : TI) (g1 : TG) (wi2 : TI) (g2 : TG) (te : TE) (vs vs1 vs2 : List Nat) : TE := fun σ H Q => wi σ H fun J H1 => ∀ D, H1 D = none → ∃ W : Nat → Nat → Hp → Prop, (∃ m, W 0 m (upd H1 D (.lst []))) ∧ ∀ i m G, W i m G →
  (J.stop i G ∧ Q (.ref D) G) ∨ (J.go i G ∧ ∃ N1 : Hp → Prop, (∀ G', N1 G' → ∃ k, k < m ∧ W (i + 1) k G') ∧ ∀ x G', J.yld i G x G' → g x (wipe σ vs) G' fun τ G2 => wipe τ vs = wipe σ vs ∧ bLvl wi1 g1 vs1 (bLvl wi2 g2 vs2 (bLast D te)) τ G2 N1)
theorem pe_lc3 {elt tg iter tg1 iter1 tg2 iter2 : Expr} {scope : Scope} {own : List (Str × Nat)} {vs1 vs2 : List Nat} {pos : Pos} {wi wi1 wi2 : TI} {g g1 g2 : TG} {te : TE} (hc : X.calm = true) (hN : X.N.Nodup) (hi : PI X tg iter wi) (ok : BlkOk X.N X.env.scope scope own)
    (hv1 : ∀ i ∈ vs1, i ∈ own.map (·.2)) (hv2 : ∀ i ∈ vs2, i ∈ vs1)
    (hg : ∀ (s : Shared) (H : Hp) (C : Addr) (cl : List (Str × Addr)) (fp : List Addr), PG (X.blk s H scope (compEnvC scope cl C X.env) fp) tg g)
    (hi1 : ∀ (s : Shared) (H : Hp) (C : Addr) (cl : List (Str × Addr)) (fp : List Addr), PI (X.blk s H scope (compEnvC scope cl C X.env) fp) tg1 iter1 wi1)
    (hg1 : ∀ (s : Shared) (H : Hp) (C : Addr) (cl : List (Str × Addr)) (fp : List Addr), PG (X.blk s H scope (compEnvC scope cl C X.env) fp) tg1 g1)
    (hi2 : ∀ (s : Shared) (H : Hp) (C : Addr) (cl : List (Str × Addr)) (fp : List Addr), PI (X.blk s H scope (compEnvC scope cl C X.env) fp) tg2 iter2 wi2)
    (hg2 : ∀ (s : Shared) (H : Hp) (C : Addr) (cl : List (Str × Addr)) (fp : List Addr), PG (X.blk s H scope (compEnvC scope cl C X.env) fp) tg2 g2)
    (he : ∀ (s : Shared) (H : Hp) (C : Addr) (cl : List (Str × Addr)) (fp : List Addr), PE (X.blk s H scope (compEnvC scope cl C X.env) fp) elt te)
    (hs : ∀ x, foldedSetIterable iter X.env x = pure x := by intro _; rfl) (hs1 : ∀ env x, foldedSetIterable iter1 env x = pure x := by intro _ _; rfl) (hs2 : ∀ env x, foldedSetIterable iter2 env x = pure x := by intro _ _; rfl) :
    PE X (.ListComp elt [⟨tg, iter, [], 0⟩, ⟨tg1, iter1, [], 0⟩, ⟨tg2, iter2, [], 0⟩] scope pos) (tLc3 wi g wi1 g1 wi2 g2 te (own.map (·.2)) vs1 vs2) := by
  refine ⟨fun pl s σ H Q I h => ?_⟩
  rw [eval_ListComp]
  have fr : ∀ y ∈ scope.names, y.2 = .free → ∃ c, X.env.cells.lookup y.1 = some c := fun y hy z => (ok.free y hy z).elim (fun a => I.ok.has _ (.inl a)) fun a => I.ok.has _ (.inr a)
  refine wpAny_comprehension_free (use := none) rfl hs (closure_ok fr) ok.kind (fun y hy z => by rw [ok.uniq y hy, z]) (thn (hi.run pl s σ H _ I h) fun xv sa ha => thn ha fun itv sb hb => ?_)
  obtain ⟨it, fp, tn, J, Hb, rfl, Ib, T, stb, fb, q⟩ := hb
  refine wpAny_newObj_type (newEnv_comp ?_) (by show 0 ≤ sizeLine; decide)
  have nD : Hb sb.heap.objs.size = none := Ib.hok.fresh (Nat.le_refl _)
  obtain ⟨W, ⟨m0, w0⟩, hW⟩ := q _ nD
  have small : ∀ b ∈ fp, b < sb.heap.objs.size := fun b hb => by
    obtain ⟨o, e, _⟩ := T.obj _ _ stb b hb
    exact Heap.lt_size e
  have Ic : Inv X pl σ (upd Hb sb.heap.objs.size (.lst [])) { sb with heap := sb.heap.push { cls := .type "list", data := .seq ([] : List Value).toArray } } :=
    Ib.laid (t' := sb.toks) (fun b o e => Heap.get?_push_of_some _ e) (Nat.le_refl _) ⟨Nat.zero_le _, [], 0, .nil, Heap.get?_push_size _ rfl⟩
  have fc : ∀ b ∈ fp, FpOk X pl (upd Hb sb.heap.objs.size (.lst [])) b ∧ b < (sb.heap.push { cls := .type "list", data := .seq ([] : List Value).toArray }).objs.size := fun b hb => by
    have lt := small b hb
    refine ⟨⟨?_, (fb b hb).2⟩, by rw [Heap.size_push]; exact Nat.lt_succ_of_lt lt⟩
    rw [upd_ne (Nat.ne_of_lt lt)]
    exact (fb b hb).1
  have stc : tn 0 (sb.heap.push { cls := .type "list", data := .seq ([] : List Value).toArray }) := T.keep _ _ _ stb fun b _ o e => Heap.get?_push_of_some _ e
  generalize sb.heap.objs.size = D at *
  generalize hsc : ({ sb with heap := sb.heap.push { cls := .type "list", data := .seq ([] : List Value).toArray } } : Shared) = sc at *
  have hh : sc.heap = sb.heap.push { cls := .type "list", data := .seq ([] : List Value).toArray } := by rw [← hsc]
  rw [← hh] at fc stc
  generalize upd Hb D (.lst []) = Hc at *
  have Id := block_start Ic ok hN fc
  have dl := does_last (D := D) rfl (he sc Hc sc.heap.objs.size (cellsFrom (sc.heap.objs.size + 1) scope.names (cloFrom X.env.cells scope.names [])) fp)
  have d2 := does_lvl (Y := X.blk sc Hc scope (compEnvC scope (cellsFrom (sc.heap.objs.size + 1) scope.names (cloFrom X.env.cells scope.names [])) sc.heap.objs.size X.env) fp) (pos := pos) (scope := scope) (elt := elt) (acc := .ref D) (gs := [⟨tg, iter, [], 0⟩, ⟨tg1, iter1, [], 0⟩, ⟨tg2, iter2, [], 0⟩]) (j := 2) (vs := vs2) rfl hc
    (hi2 sc Hc sc.heap.objs.size (cellsFrom (sc.heap.objs.size + 1) scope.names (cloFrom X.env.cells scope.names [])) fp) hs2 (hg2 sc Hc sc.heap.objs.size _ fp) (fun v => turn3_2 _ _ _ _ _ _ _ _ _ _ _ _) dl (fun _ z => nomatch z) fun l a => start_ok (.inr rfl) l a
  have d1 := does_lvl (Y := X.blk sc Hc scope (compEnvC scope (cellsFrom (sc.heap.objs.size + 1) scope.names (cloFrom X.env.cells scope.names [])) sc.heap.objs.size X.env) fp) (pos := pos) (scope := scope) (elt := elt) (acc := .ref D) (gs := [⟨tg, iter, [], 0⟩, ⟨tg1, iter1, [], 0⟩, ⟨tg2, iter2, [], 0⟩]) (j := 1) (vs := vs1) rfl hc
    (hi1 sc Hc sc.heap.objs.size (cellsFrom (sc.heap.objs.size + 1) scope.names (cloFrom X.env.cells scope.names [])) fp) hs1 (hg1 sc Hc sc.heap.objs.size _ fp) (fun v => turn3_1 _ _ _ _ _ _ _ _ _ _ _ _) d2 hv2 fun l a => start_ok (.inl rfl) l a
  have std : tn 0 (pushCells (sc.heap.push { cls := .type "dict", data := .dict #[] }) scope.names) := T.keep _ _ _ stc fun b _ o e => pushCells_keeps _ _ _ _ (Heap.get?_push_of_some _ e)
  have loop := loop_lvl (Y := X.blk sc Hc scope (compEnvC scope (cellsFrom (sc.heap.objs.size + 1) scope.names (cloFrom X.env.cells scope.names [])) sc.heap.objs.size X.env) fp) (pos := pos) (scope := scope) (elt := elt) (acc := .ref D) (gs := [⟨tg, iter, [], 0⟩, ⟨tg1, iter1, [], 0⟩, ⟨tg2, iter2, [], 0⟩]) (j := 0) (vs := own.map (·.2)) (N := Q (.ref D))
    (R := compPost (model X.prog X.w) X.A X.xe none (fun u t => EP X pl σ Q u t) (.ref D) sc.heap.objs.size) rfl hc (hg sc Hc sc.heap.objs.size _ fp) (fun v => turn3_0 _ _ _ _ _ _ _ _ _ _ _ _) d1 hv1 T Id std
    (fun t G IG n b hb => ⟨n b hb, (IG.ok.exf b hb).1, IG.ok.exfs b hb, .inl hb, fun x c z => (IG.ok.exf b hb).2 x c z, fun p hp => absurd (show p ∈ ([] : List (Addr × Obj)) from hp) (by simp)⟩) (fun b hb => (fc b hb).1.1) w0 hW fun t G IG nG qG => ?_
  · exact codeAny_compStart_list loop (T.self X.A 0 _ _ _ std loop)
  · have IX : Inv X pl σ G t := Ic.call' (ch := fp) IG.os IG.base IG.hok IG.bare fun b hb => ⟨(fc b hb).1.2.2.2.1, (fc b hb).1.2.1, (fc b hb).1.2.2.2.2.1, (fc b hb).1.2.2.2.2.2⟩
    have nC : G sc.heap.objs.size = none := IG.free
    obtain ⟨m, hn, _⟩ := IG.loc
    obtain ⟨f0, f1, f2, f3, f4, f5⟩ := Ic.fpOk (Nat.le_refl _) nC
    exact ⟨m, hn, fun h' sb => ⟨.ref D, G, IX.turned (t' := t.toks) (fun b o hb e => (sb.2 b hb).trans e) f0 f1 f3 f4 f5, rfl, qG⟩⟩
end
end My

/-! comprehensions with three for at tree level -/
namespace My
open PySem PySem.Spec PyProof.Rows L2
abbrev DB := (List PyData → Ev → Prop) → List PyData → Ev → Prop
def LB (x : Fx) (D : Addr) (B : L2.St → Hp → (Hp → Prop) → Prop) (Bd : DB) : Prop := ∀ {f : Fm} {L : List Addr} {P : List (V × Rv)} {σ : L2.St} {H : Hp} {e : Ev} {acc : List PyData} {N : Hp → Prop} {nxt : List PyData → Ev → Prop}, f.toFx = x →
  Stn f L (P ++ [(.ref D, .own true D acc)]) σ H e → Bd nxt acc e → (∀ L' H' e' acc', Stn f L' (P ++ [(.ref D, .own true D acc')]) σ H' e' → nxt acc' e' → N H') → B σ H N
def dbLast (el : DE) : DB := fun nxt acc e => el e fun r e4 => match r with
  | .dat y => acc.length < 100000 ∧ nxt (acc ++ [y]) e4
  | _ => False
def lvLoop (src : Src) (all : List PyData) (g : DG) (vs : List Nat) (Bd : DB) (fin : List PyData → Ev → Prop) : List PyData → List PyData → Ev → Prop
  | [], acc, e => fin acc e
  | d :: ds, acc, e => g (.dat d) (wipeE e vs) fun e2 => Bd (fun acc' e5 => items (wipeE e5 vs) src = some all ∧ lvLoop src all g vs Bd fin ds acc' (wipeE e5 vs)) acc e2
def dbLvl (di : DI) (g : DG) (vs : List Nat) (Bd : DB) : DB := fun nxt acc e => di e fun src e1 => ∃ all, items e1 src = some all ∧ items (wipeE e1 vs) src = some all ∧ lvLoop src all g vs Bd nxt all acc (wipeE e1 vs)
def dLc3 (di : DI) (g : DG) (di1 : DI) (g1 : DG) (di2 : DI) (g2 : DG) (el : DE) (vs vs1 vs2 : List Nat) : DE := fun e Q => dbLvl di g vs (dbLvl di1 g1 vs1 (dbLvl di2 g2 vs2 (dbLast el))) (fun acc e2 => ∀ a, Q (.own true a acc) e2) [] e
section
variable {x : Fx} {D : Addr}
theorem lb_last {te : TE} {de : DE} (he : LE x te de) : LB x D (bLast D te) (dbLast de) := fun {f L P σ H e acc N nxt} hf S k q => by
  refine he hf S k fun y r L7 H7 e7 S7 k7 => ?_
  split at k7
  · rename_i dy
    obtain ⟨hz, nx⟩ := k7
    have dk7 : Dk f.K (L7 ++ f.M) H7 y dy := by
      have z := S7.last
      cases z with
      | dat z => exact z
    have S8 := S7.pop
    have z := S8.last
    cases z with
    | own _ _ hx dd => exact ⟨_, hx, sz_lt (by have := dd.length; omega), q L7 _ e7 _ (S8.mutateP (dd.snoc dk7)) nx⟩
  · exact k7.elim
theorem lb_lvl {wi : TI} {g : TG} {vs : List Nat} {di : DI} {dg : DG} {B : L2.St → Hp → (Hp → Prop) → Prop} {Bd : DB} (hi : LI2 x wi di) (hg : LG x vs g dg) (hb : LB x D B Bd) : LB x D (bLvl wi g vs B) (dbLvl di dg vs Bd) := fun {f L P σ H e acc N nxt} hf S k q => by
  refine hi hf S k (fun src e6 z => ?_) fun J ps src L6 H6 e6 all G Y S6 g6 I1 k6 => ?_
  · obtain ⟨al, h, _⟩ := z
    rw [h]
    rfl
  obtain ⟨al, h7, h8, lp⟩ := k6
  cases g6.symm.trans h7
  have S7 : Stn f L6 (P ++ ps ++ [(.ref D, .own true D acc)]) σ H6 (wipeE e6 vs) := by
    have z : Stn f L6 (P ++ (V.ref D, Rv.own true D acc) :: ps) σ H6 e6 := by
      rw [List.append_assoc P] at S6
      exact S6
    exact z.swap.wipe rfl fun _ _ => rfl
  have I2 := I1.front P
  refine loop_W I2.w (fun i H' => ∃ L' e' acc, Stn f L' (P ++ ps ++ [(.ref D, .own true D acc)]) σ H' e' ∧ items e' src = some all ∧ (∃ e0, e' = wipeE e0 vs) ∧ lvLoop src all dg vs Bd nxt (all.drop i) acc e')
    ⟨_, _, _, S7, h8, ⟨e6, rfl⟩, by rw [List.drop_zero]; exact lp⟩ (fun i H' hi hW => ?_) (fun i w H' H2 hi hW hY => ?_) (fun H' hW => ?_)
  · obtain ⟨L', e', acc, S2, g1, _, _⟩ := hW
    exact I2.g S2 g1
  · obtain ⟨L', e', acc, S2, gg, ⟨e0, rfl⟩, lp⟩ := hW
    obtain ⟨d, hd, s, dk⟩ := I2.y S2 gg hi hY
    have S3 := (S2.grow s)
    have S4 : Stn f L' (P ++ ps ++ [(.ref D, .own true D acc)]) (wipe σ vs) H2 (wipeE (wipeE e0 vs) vs) := S3.wipe (wipe_length _ _) fun j hj => wipe_ne hj
    rw [List.drop_eq_getElem_cons hi] at lp
    have ed : all[i] = d := by
      rw [List.getElem?_eq_getElem hi] at hd
      exact Option.some.inj hd
    rw [ed] at lp
    unfold lvLoop at lp
    refine hg hf (S4.pushD dk) lp fun L8 σ8 H8 e8 S8 j8 l8 k8 => ?_
    have back8 : ∀ j, j ∉ vs → σ[j]? = σ8[j]? := fun j hj => ((j8 j hj).trans (wipe_ne hj)).symm
    have lb8 : σ.length = σ8.length := (l8.trans (wipe_length _ _)).symm
    refine ⟨wipe_eq lb8.symm fun j hj => (back8 j hj).symm, hb hf S8 k8 fun L9 H9 e9 acc9 S9 k9 => ?_⟩
    exact ⟨L9, _, acc9, S9.wipe (σ' := σ) (vs := vs) lb8 back8, k9.1, ⟨e9, rfl⟩, k9.2⟩
  · obtain ⟨L', e', acc, S2, g1, _, lp⟩ := hW
    rw [List.drop_length] at lp
    exact q L' H' e' acc S2.mid lp
theorem le_lc3 {wi wi1 wi2 : TI} {g g1 g2 : TG} {te : TE} {vs vs1 vs2 : List Nat} {di di1 di2 : DI} {dg dg1 dg2 : DG} {de : DE} (hi : LI x wi di) (hg : LG x vs g dg) (hi1 : LI2 x wi1 di1) (hg1 : LG x vs1 g1 dg1) (hi2 : LI2 x wi2 di2) (hg2 : LG x vs2 g2 dg2) (he : LE x te de) :
    LE x (tLc3 wi g wi1 g1 wi2 g2 te vs vs1 vs2) (dLc3 di dg di1 dg1 di2 dg2 de vs vs1 vs2) := fun {f L P σ H e Q Qd} hf S hd q => by
  refine hi hf S hd (fun src e1 z => ?_) fun J ps src L1 H1 e1 ds' G Y S1 h1 I k1 D hD => ?_
  · obtain ⟨ds, h, _⟩ := z
    rw [h]
    rfl
  obtain ⟨ds, h2, h3, lp⟩ := k1
  cases h1.symm.trans h2
  have hb0 : LB x D (bLvl wi2 g2 vs2 (bLast D te)) (dbLvl di2 dg2 vs2 (dbLast de)) := lb_lvl hi2 hg2 (lb_last he)
  have hb : LB x D (bLvl wi1 g1 vs1 (bLvl wi2 g2 vs2 (bLast D te))) (dbLvl di1 dg1 vs1 (dbLvl di2 dg2 vs2 (dbLast de))) := lb_lvl hi1 hg1 hb0
  have S0 : Stn f (D :: L1) (P ++ ps ++ [(.ref D, .own true D [])]) σ (upd H1 D (.lst [])) (wipeE e1 vs) := (S1.wipe rfl fun _ _ => rfl).fresh hD .nil
  refine loop_W I.w (fun i H' => ∃ L' e' acc, Stn f L' (P ++ ps ++ [(.ref D, .own true D acc)]) σ H' e' ∧ items e' src = some ds' ∧ (∃ e0, e' = wipeE e0 vs) ∧ lvLoop src ds' dg vs (dbLvl di1 dg1 vs1 (dbLvl di2 dg2 vs2 (dbLast de))) (fun acc e2 => ∀ a, Qd (.own true a acc) e2) (ds'.drop i) acc e')
    ⟨_, _, _, S0, h3, ⟨e1, rfl⟩, by rw [List.drop_zero]; exact lp⟩ (fun i H' hi hW => ?_) (fun i w H' H2 hi hW hY => ?_) (fun H' hW => ?_)
  · obtain ⟨L', e', acc, S2, g1, _, _⟩ := hW
    exact I.g S2 g1
  · obtain ⟨L', e', acc, S2, gg, ⟨e0, rfl⟩, lp⟩ := hW
    obtain ⟨d, hd, s, dk⟩ := I.y S2 gg hi hY
    have S3 := (S2.grow s)
    have S4 : Stn f L' (P ++ ps ++ [(.ref D, .own true D acc)]) (wipe σ vs) H2 (wipeE (wipeE e0 vs) vs) := S3.wipe (wipe_length _ _) fun j hj => wipe_ne hj
    rw [List.drop_eq_getElem_cons hi] at lp
    have ed : ds'[i] = d := by
      rw [List.getElem?_eq_getElem hi] at hd
      exact Option.some.inj hd
    rw [ed] at lp
    unfold lvLoop at lp
    refine hg hf (S4.pushD dk) lp fun L8 σ8 H8 e8 S8 j8 l8 k8 => ?_
    have back8 : ∀ j, j ∉ vs → σ[j]? = σ8[j]? := fun j hj => ((j8 j hj).trans (wipe_ne hj)).symm
    have lb8 : σ.length = σ8.length := (l8.trans (wipe_length _ _)).symm
    refine ⟨wipe_eq lb8.symm fun j hj => (back8 j hj).symm, hb hf S8 k8 fun L9 H9 e9 acc9 S9 k9 => ?_⟩
    exact ⟨L9, _, acc9, S9.wipe (σ' := σ) (vs := vs) lb8 back8, k9.1, ⟨e9, rfl⟩, k9.2⟩
  · obtain ⟨L', e', acc, S2, g1, _, lp⟩ := hW
    rw [List.drop_length] at lp
    have S3 : Stn f L' (P ++ [(.ref D, .own true D acc)]) σ H' e' := S2.mid
    exact q _ _ _ _ _ S3 (lp D)
end
end My

/-! tuples that stay known as bare: tuple(list), t + u, t[lo:hi], t * n -/
namespace My
open PySem PySem.Spec PySem.Calls PyProof.Rows L2
/-- tuple(list), known to be bare; a bare one is itself -/
def rTupleB (K : PySem.W.Frag) : List V → Hp → VK → Prop := fun xs H Q => ∃ p ys, xs = [.ref p] ∧ ((SqL K H p ys ∧ ∀ (l : Addr) (o : Obj), H l = none → o.cls = .type "tuple" → o.dict = none → Q (.ref l) (upd H l (.frz o (.tup ys)))) ∨ (SqT K H p ys ∧ Q (.ref p) H))
/-- t + u, both bare -/
def rCatB (K : PySem.W.Frag) : R2 := fun x y H Q => ∃ a b xs ys, x = .ref a ∧ y = .ref b ∧ SqT K H a xs ∧ SqT K H b ys ∧ xs.length + ys.length ≤ sizeLine ∧
  (xs = [] → Q (.ref b) H) ∧ (xs ≠ [] → ys = [] → Q (.ref a) H) ∧ (xs ≠ [] → ys ≠ [] → ∀ (p : Addr) (o : Obj), H p = none → o.cls = .type "tuple" → o.dict = none → Q (.ref p) (upd H p (.frz o (.tup (xs ++ ys)))))
def rSlB (K : PySem.W.Frag) : V → Option Int → Option Int → Hp → VK → Prop := fun x lo hi H Q => ∃ a xs, x = .ref a ∧ SqT K H a xs ∧
  (HT.sIx xs.length 0 lo = 0 ∧ HT.sIx xs.length xs.length hi = xs.length → Q (.ref a) H) ∧ (¬ (HT.sIx xs.length 0 lo = 0 ∧ HT.sIx xs.length xs.length hi = xs.length) → ∀ (p : Addr) (o : Obj), H p = none → o.cls = .type "tuple" → o.dict = none → Q (.ref p) (upd H p (.frz o (.tup (cutV xs lo hi)))))
def rRepB (K : PySem.W.Frag) : R2 := fun x y H Q => ∃ l k xs, x = .ref l ∧ y = .int k ∧ SqT K H l xs ∧ xs ≠ [] ∧ 2 ≤ k ∧ k ≤ 1000 ∧ xs.length ≤ 1000 ∧ ∀ (p : Addr) (o : Obj), H p = none → o.cls = .type "tuple" → o.dict = none → Q (.ref p) (upd H p (.frz o (.tup (List.replicate k.toNat xs).flatten)))
section
variable {X : Cx} {K : PySem.W.Frag}
theorem call_tupleB0 : CallR X (.type "tuple") (rTupleB X.K) := by
  intro pins s σ H xs us Q I r h
  obtain ⟨p, ys, rfl, h⟩ := h
  obtain ⟨u, rfl, rx⟩ := vals1 r
  cases rx
  rcases h with ⟨hq, q⟩ | ⟨hq, q⟩
  · obtain ⟨its, r', pl, hz⟩ := I.list hq
    have hlen := r'.length
    refine call_tuple_list pl.isList (fun h' kp => ?_) (by simp only [List.size_toArray] <;> omega)
    have I1 : Inv X pins σ H { s with heap := h' } := I.kept (t' := s.toks) kp
    have I2 := I1.laid (t' := s.toks) (o := .frz ({ cls := .type "tuple", data := .seq its.toArray } : Obj) (.tup ys)) (h' := h'.push { cls := .type "tuple", data := .seq its.toArray }) (fun b o e => Heap.get?_push_of_some _ e) (Nat.le_refl _) ⟨Heap.get?_push_size _ rfl, hz, its, r', IsTup.new _ _⟩
    exact ⟨.ref h'.objs.size, _, I2, rfl, q _ _ (I1.hok.fresh (Nat.le_refl _)) rfl rfl⟩
  · obtain ⟨its, r', pl, hz⟩ := I.tuple hq
    exact call_tuple_same pl ⟨.ref p, H, I, rfl, q⟩
theorem op_catB0 : OpR X (binaryOp .Add) (rCatB X.K) := by
  intro pins s σ H x y v u Q I rx ry h
  obtain ⟨a, b, xs, ys, rfl, rfl, ha, hb, hz, q0, q1, q2⟩ := h
  by_cases hx : xs = []
  · exact op_catA pins s σ H _ _ v u Q I rx ry ⟨a, b, xs, ys, rfl, rfl, ha, hb, hz, q0, fun z => absurd hx z, fun z => absurd hx z⟩
  · by_cases hy : ys = []
    · exact op_catA pins s σ H _ _ v u Q I rx ry ⟨a, b, xs, ys, rfl, rfl, ha, hb, hz, q0, q1, fun _ z => absurd hy z⟩
    · exact op_catF pins s σ H _ _ v u Q I rx ry ⟨a, b, xs, ys, rfl, rfl, ha, hb, hx, hy, hz, q2 hx hy⟩
theorem sl_B0 : SlR X (rSlB X.K) := by
  intro pins s σ H x v vl vu lo hi sl Q I rx hs pl pu h
  obtain ⟨a, xs, rfl, hx, q1, q2⟩ := h
  by_cases hw : HT.sIx xs.length 0 lo = 0 ∧ HT.sIx xs.length xs.length hi = xs.length
  · exact sl_tupA pins s σ H _ v vl vu lo hi sl Q I rx hs pl pu ⟨a, xs, rfl, hx, q1, fun z => absurd hw z⟩
  · cases rx
    obtain ⟨its, r, ht, hz⟩ := I.tuple hx
    have hlen : its.toArray.size = xs.length := by rw [List.size_toArray]; exact r.length.symm
    refine ⟨"tuple", _, PyProof.Rows.slot_tuple_getitem.lookup, ht.typeIs, ?_⟩
    refine HT.getItem_tuple_cut ht hs pl pu (by rw [hlen]; exact hw) ?_ (by rw [hlen]; exact hz)
    rw [hlen]
    refine ⟨.ref s.heap.objs.size, _, I.laid (t' := s.toks) (o := .frz _ (.tup (cutV xs lo hi))) (fun b ob q => Heap.get?_push_of_some _ q) (Nat.le_refl _) ⟨Heap.get?_push_size _ rfl, ?_⟩, rfl, q2 hw _ _ (I.hok.fresh (Nat.le_refl _)) rfl rfl⟩
    exact ⟨Nat.le_trans (cutV_length xs lo hi) hz, _, (r.drop (HT.sIx xs.length 0 lo)).take (HT.sIx xs.length xs.length hi - HT.sIx xs.length 0 lo), IsTup.new _ _⟩
theorem op_repB0 : OpR X (binaryOp .Mult) (rRepB X.K) := by
  intro pins s σ H x y v u Q I rx ry h
  obtain ⟨l, k, xs, rfl, rfl, hT, hne, h1, h2, hz, q⟩ := h
  cases rx
  obtain ⟨t, rfl⟩ := ry
  obtain ⟨its, r, ⟨⟨cls, dd, data, sl⟩, ho, hc, n, hd⟩, hs⟩ := I.tuple hT
  simp only at hc hd
  subst hc hd
  have hle : its.length = xs.length := r.length.symm
  have hn : its ≠ [] := fun e => hne (by
    rw [e] at hle
    exact List.eq_nil_of_length_eq_zero hle.symm)
  have hi : its.toArray.isEmpty = false := by
    cases its with
    | nil => exact absurd rfl hn
    | cons a b => rfl
  have hsz0 : its.toArray.size = xs.length := by rw [List.size_toArray, hle]
  have hm : ((its.toArray.size : Nat) : Int) * k ≤ 1000000 := by
    rw [hsz0]
    have a1 : ((xs.length : Nat) : Int) * k ≤ 1000 * k := Int.mul_le_mul_of_nonneg_right (by omega) (by omega)
    omega
  have flen : (List.replicate k.toNat its).flatten.length ≤ sizeLine := by
    rw [PyProof.Rows.lm_len_rep_flat, hle, sizeLine_eq]
    have a1 : k.toNat * xs.length ≤ 1000 * 1000 := Nat.mul_le_mul (by omega) hz
    omega
  have c0 : (decide (k < -(2 ^ 63)) || decide (k ≥ 2 ^ 63)) = false := by
    rw [decide_eq_false (by omega), decide_eq_false (by omega)] <;> rfl
  have c1 : (its.toArray.isEmpty || k == 1) = false := by
    rw [hi, Bool.false_or]
    exact beq_eq_false_iff_ne.mpr (by omega)
  have c2 : (decide (k ≤ 0) || its.toArray.isEmpty) = false := by
    rw [hi, Bool.or_false]
    exact decide_eq_false (by omega)
  have c4 : Builtin.Tuple.tupleTooMany (((its.toArray.size : Nat) : Int) * k) = false := by
    unfold Builtin.Tuple.tupleTooMany
    rw [sizeLine_eq]
    exact decide_eq_false (by omega)
  refine wpAny_binaryOp_repeat_ref (T := "tuple") (U := "int") (by decide) ⟨_, ho, rfl⟩ (fun s' => typeIs_int s' k t) noFill_tuple_mul F.fills_int_mul F.slot_int_rmul repeat_tuple F.slot_int_index.lookup
    (call_meets F.slot_int_rmul (typeIs_int s k t) F.entry_int_rmul (F.args_int_rmul_2 _ _) (int_rmul_tuple k t l its.toArray n dd sl)
      ⟨ho, rfl, ⟨_, ho, rfl⟩, call_meets F.slot_tuple_mul ⟨_, ho, rfl⟩ F.entry_tuple_mul (F.args_tuple_mul_2 _ _) (tuple_mulW l its.toArray n dd sl k t c0 c1 c2 (by omega) c4 (by rw [size_rep, List.size_toArray]; exact flen)) ⟨ho, ?_⟩⟩)
  rw [size_rep]
  refine ⟨.ref s.heap.objs.size, _, I.laid (t' := s.toks) (o := .frz _ (.tup (List.replicate k.toNat xs).flatten)) (fun b ob q => Heap.get?_push_of_some _ q) (Nat.le_refl _) ⟨Heap.get?_push_size _ rfl, ?_⟩, rfl, q _ _ (I.hok.fresh (Nat.le_refl _)) rfl rfl⟩
  exact ⟨by rw [PyProof.Rows.lm_len_rep_flat, sizeLine_eq]; have a1 : k.toNat * xs.length ≤ 1000 * 1000 := Nat.mul_le_mul (by omega) hz; omega, _, r.rep k.toNat, IsTup.new _ _⟩
def rAddB (K : PySem.W.Frag) : R2 := fun x y H Q => rAddG K x y H Q ∨ rCatB K x y H Q
def rMulB (K : PySem.W.Frag) : R2 := fun x y H Q => rMulG K x y H Q ∨ rRepB K x y H Q
def rSlGB (K : PySem.W.Frag) : V → Option Int → Option Int → Hp → VK → Prop := fun x a b H Q => rSlG K x a b H Q ∨ rSlB K x a b H Q
theorem call_tupleB (h : X.K = K := by rfl) : CallR X (.type "tuple") (rTupleB K) := h ▸ call_tupleB0
theorem op_addB (h : X.K = K := by rfl) : OpR X (binaryOp .Add) (rAddB K) := h ▸ OpR.either op_addG op_catB0
theorem op_mulB (h : X.K = K := by rfl) : OpR X (binaryOp .Mult) (rMulB K) := h ▸ OpR.either op_mulG op_repB0
theorem sl_B (h : X.K = K := by rfl) : SlR X (rSlGB K) := h ▸ SlR.either sl_seq sl_B0
end
section
variable {x : Fx}
def addBW : W2 := fun du dv k => match du, dv with
  | .int i, .int j => k (.dt (.int (i + j)))
  | .dict [(.none, .tuple a)], .dict [(.none, .tuple b)] => a.length + b.length ≤ 100000 ∧ k (.dt (bw (a ++ b)))
  | .list a, .list b => a.length + b.length ≤ 100000 ∧ k (.nl (a ++ b))
  | _, _ => False
theorem o2_addB : O2 x (rAddB x.K) addBW := fun {M H u v du dv Q k} hM cu cv w q => by
  unfold addBW at w
  split at w
  · exact Or.inl (o2_add hM cu cv (show addW (.int _) (.int _) k from w) q)
  · obtain ⟨a, xs, rfl, ha, da⟩ := id cu.bar
    obtain ⟨b, ys, rfl, hb, db⟩ := id cv.bar
    have e1 := da.length
    have e2 := db.length
    refine Or.inr ⟨a, b, xs, ys, rfl, rfl, ha.sq, hb.sq, sz_of (by have := w.1; omega), fun z => ?_, fun _ z => ?_, fun _ _ p o hp h1 h2 => q _ _ _ (out_bar hM hp h1 h2 (da.append db)) w.2⟩
    · rw [z] at e1
      rw [List.length_eq_zero_iff.mp e1.symm, List.nil_append] at w
      exact q _ H _ (out_d (cv.dk nofun)) w.2
    · rw [z] at e2
      rw [List.length_eq_zero_iff.mp e2.symm, List.append_nil] at w
      exact q _ H _ (out_d (cu.dk nofun)) w.2
  · exact Or.inl (o2_add hM cu cv (show addW (.list _) (.list _) k from w) q)
  · exact w.elim
def mulBW : W2 := fun du dv k => match du, dv with
  | .int i, .int j => CMul i j ∧ k (.dt (.int (i * j)))
  | .dict [(.none, .tuple a)], .int j => a ≠ [] ∧ 2 ≤ j ∧ j ≤ 1000 ∧ a.length ≤ 1000 ∧ k (.dt (bw (List.replicate j.toNat a).flatten))
  | _, _ => False
theorem o2_mulB : O2 x (rMulB x.K) mulBW := fun {M H u v du dv Q k} hM cu cv w q => by
  unfold mulBW at w
  split at w
  · exact Or.inl (o2_mul hM cu cv (show mulW (.int _) (.int _) k from w) q)
  · obtain ⟨a, xs, rfl, ha, da⟩ := id cu.bar
    cases cv.int
    have e1 := da.length
    refine Or.inr ⟨a, _, xs, rfl, rfl, ha.sq, fun z => w.1 ?_, w.2.1, w.2.2.1, by have := w.2.2.2.1; omega, fun p o hp h1 h2 => q _ _ _ (out_bar hM hp h1 h2 (da.flat _)) w.2.2.2.2⟩
    rw [z] at e1
    exact List.length_eq_zero_iff.mp e1.symm
  · exact w.elim
def tupleBW : WN := fun ds k => match ds with
  | [.list es] => k (.dt (bw es))
  | [.dict [(.none, .tuple es)]] => k (.dt (bw es))
  | _ => False
theorem on_tupleB : ON x (rTupleB x.K) tupleBW := fun {M H us ds Q k} hM cs w q => by
  unfold tupleBW at w
  split at w
  · obtain ⟨v, rfl, c⟩ := par1 cs
    obtain ⟨a, xs, rfl, h1, h2⟩ := c.lst
    exact ⟨a, xs, rfl, Or.inl ⟨SqL.of h1, fun p o hp g1 g2 => q _ _ _ (out_bar hM hp g1 g2 h2) w⟩⟩
  · obtain ⟨v, rfl, c⟩ := par1 cs
    obtain ⟨a, xs, rfl, h1, h2⟩ := id c.bar
    exact ⟨a, xs, rfl, Or.inr ⟨h1.sq, q _ H _ (out_d (c.dk nofun)) w⟩⟩
  · exact w.elim
def dSlB (de : DE) (dl dh : DO) : DE := fun e Q => de e fun r e1 => dl e1 fun lo e2 => dh e2 fun hi e3 => rdK e3 r fun d => match d with
  | .dict [(.none, .tuple ds)] => Q (.dat (bw (cutD ds lo hi))) e3
  | _ => False
theorem le_slB {te : TE} {tl th : TO} {de : DE} {dl dh : DO} (h1 : LE x te de) (h2 : LO x tl dl) (h3 : LO x th dh) : LE x (tSl (rSlGB x.K) te tl th) (dSlB de dl dh) := fun {f L P σ H e Q Qd} hf S hd q =>
  h1 hf S hd fun v r L1 H1 e1 S1 k1 => h2 hf S1 k1 fun lo L2 H2 e2 S2 k2 => h3 hf S2 k2 fun hi L3 H3 e3 S3 k3 => by
    subst hf
    obtain ⟨d, hr, k3⟩ := rdK_some k3
    split at k3
    · rename_i ds
      have ck := S3.read (v := v) (r := r) (by simp) hr
      obtain ⟨a, xs, rfl, ha, da⟩ := id ck.bar
      refine Or.inr ⟨a, xs, rfl, ha.sq, fun z => ?_, fun _ p o hp g1 g2 => ?_⟩
      · refine q _ _ _ _ _ (S3.pop.pushD (d := bw (cutD ds lo hi)) ?_) k3
        have e : cutD ds lo hi = ds := by
          unfold cutD
          rw [da.length] at z
          rw [z.1, z.2, List.drop_zero, Nat.sub_zero, List.take_length]
        rw [e]
        exact ck.dk nofun
      · obtain ⟨o1, o2⟩ := out_bar (c := f.c) S3.all hp g1 g2 (cut_dk da lo hi)
        exact q _ _ _ _ _ (S3.pop.newD o1 o2) k3
    · exact k3.elim
end
end My

/-! x | y of numbers, xs.insert(i, y) -/
namespace My
open PySem PySem.Spec PySem.Calls PyProof.Rows L2
def rIns : V → List V → Hp → VK → Prop := fun x vs H Q => ∃ (l : Addr) (xs : List V) (i : Int) (y : V), x = .ref l ∧ vs = [.int i, y] ∧ H l = some (.lst xs) ∧ xs.length < sizeLine ∧ 0 ≤ i ∧ i < 2 ^ 63 ∧
    Q .non (upd H l (.lst (xs.take i.toNat ++ [y] ++ xs.drop i.toNat)))
theorem mt_ins {X : Cx} : MtR X "list.insert" rIns := mt_insert
theorem pe_bmK {X : Cx} {K : PySem.W.Frag} {o e : Expr} {es : List Expr} {to : TE} {t : TA} {T name id : String} {r : V → List V → Hp → VK → Prop} {apos cpos : Pos} (pa : PlainAttrs T) (slot : Slot T name id) (hty : typeOf (.builtin id) = pure (.type "method_descriptor")) (hm : MtR X id r) (ho : PE X o to) (ha : PA X (e :: es) t)
    (hbase : attributeBase o name X.env (eval o X.env) = eval o X.env := by rfl)
    (hfew : ((backTo cpos (starEach (e :: es) X.env)).all (fun x => !x.1) && (backToKw cpos (keywordEach [] X.env)).all (fun x => x.1.isSome)
      && decide ((e :: es).length + ([] : List Keyword).length + (if ([] : List Keyword).isEmpty then 0 else 1) < 30)) = true := by rfl)
    (hline : (apos.endLine == cpos.line) = true := by rfl) (hs : starEach (e :: es) X.env = (false, eval e X.env) :: starEach es X.env := by rfl) (hplain : (backTo cpos (starEach es X.env)).any (·.1) = false := by rfl) (h : X.K = K := by rfl) :
    PE X (.Call (.Attribute o name apos) (e :: es) [] cpos) (tBM K T r to t) := h ▸ pe_bm pa slot hty hm ho ha hbase hfew hline hs hplain
section
variable {x : Fx}
abbrev orW : W2 := ii0 fun i j => .int (Builtin.bitOr i j)
theorem o2_or : O2 x (rI0 fun i j => V.int (Builtin.bitOr i j)) orW := o2_rI0 fun _ _ _ _ => .int _
def dIns (i : Nat) (da : DA) : DE := fun e Q => (∃ k a ds, e[i]? = some (some (.own k a ds))) ∧ da e fun rs e1 => match rs, e1[i]? with
  | [.dat (.int j), .dat d], some (some (.own k a ds)) => ds.length < 100000 ∧ 0 ≤ j ∧ j < 2 ^ 63 ∧ Q (.dat .none) (e1.set i (some (.own k a (ds.take j.toNat ++ [d] ++ ds.drop j.toNat))))
  | _, _ => False
theorem le_ins {i : Nat} {ta : TA} {da : DA} (h : LA x ta da) : LE x (tBM x.K "list" rIns (tVar i) ta) (dIns i da) := fun {f L P σ H e Q Qd} hf S hd q => by
  subst hf
  obtain ⟨⟨k0, a0, ds0, h0⟩, hd⟩ := hd
  obtain ⟨v0, s0, q0⟩ := S.sl _ _ h0
  cases q0 with
  | own x1 x2 x3 x4 =>
    refine ⟨_, s0, Or.inl ⟨rfl, _, SqL.of x3⟩, h rfl S hd fun ps L1 H1 e1 S1 k1 => ?_⟩
    split at k1
    · rename_i j d k a ds hps he
      match ps, hps with
      | [(v, .dat _), (u, .dat _)], rfl =>
        obtain ⟨v1, s1, q1⟩ := S1.sl _ _ he
        rw [s0] at s1
        cases s1
        have z := S1.rqs [(v, .dat (.int j)), (u, .dat d)] fun p hp => List.mem_append_right _ hp
        cases z with
        | cons z1 z2 =>
          cases z1 with
          | dat d1 =>
            cases z2 with
            | cons z3 _ =>
              cases z3 with
              | dat d2 =>
                cases d1.int_inv
                cases q1 with
                | own y1 y2 y3 y4 =>
                  have e4 := y4.length
                  exact ⟨_, _, j, u, rfl, rfl, y3, sz_lt (by omega), k1.2.1, k1.2.2.1, q _ _ _ _ _ ((S1.pop.mutate he (((y4.take j.toNat).append (.cons d2 .nil)).append (y4.drop j.toNat))).pushD .non) k1.2.2.2⟩
    · exact k1.elim
end
end My

/-! a state: a list of a number, a list, a dict of pairs and a thing -/
namespace My
open PySem PySem.Spec PySem.Calls PyProof.Rows L2
open LamX (CodeO TabS ExtN)
abbrev Mp := List ((Int × Int) × Int)
def mget (mp : Mp) (k : Int × Int) : Option Int := (mp.find? fun kv => decide (kv.1 = k)).map (·.2)
def mput (mp : Mp) (k : Int × Int) (w : Int) : Mp := if (mp.any fun kv => decide (kv.1 = k)) = true then mp.map (fun kv => if kv.1 = k then (kv.1, w) else kv) else mp ++ [(k, w)]
def kM (k : Int × Int) : List Key := [.inl k.1, .inl k.2]
def kvM (p : (Int × Int) × Int) : List Key × V := (kM p.1, .int p.2)
theorem kM_inj {a b : Int × Int} : kM a = kM b ↔ a = b := by
  constructor
  · intro h
    obtain ⟨a1, a2⟩ := a
    obtain ⟨b1, b2⟩ := b
    injection h with h1 h2
    injection h2 with h2 _
    cases h1
    cases h2
    rfl
  · rintro rfl
    rfl
theorem valV_M (k : Int × Int) : ∀ mp : Mp, valV (mp.map kvM) (kM k) = (mget mp k).map V.int
  | [] => rfl
  | p :: mp => by
    rw [List.map_cons]
    by_cases h : p.1 = k
    · rw [valV_pos (show (kvM p).1 = kM k by rw [← h]; rfl)]
      unfold mget
      rw [List.find?_cons, decide_eq_true h]
      rfl
    · rw [valV_neg (show ¬ (kvM p).1 = kM k from fun z => h (kM_inj.mp z)), valV_M k mp]
      unfold mget
      rw [List.find?_cons, decide_eq_false h]
theorem any_M (k : Int × Int) : ∀ mp : Mp, ((mp.map kvM).any fun kv => decide (kv.1 = kM k)) = mp.any fun kv => decide (kv.1 = k)
  | [] => rfl
  | p :: mp => by
    rw [List.map_cons, List.any_cons, List.any_cons, any_M k mp]
    congr 1
    by_cases h : p.1 = k
    · rw [decide_eq_true h]
      exact decide_eq_true (kM_inj.mpr h)
    · rw [decide_eq_false h]
      exact decide_eq_false fun z => h (kM_inj.mp z)
theorem putK_M (mp : Mp) (k : Int × Int) (w : Int) : putK (mp.map kvM) (kM k) (.int w) = (mput mp k w).map kvM := by
  unfold putK mput
  rw [any_M]
  by_cases h : (mp.any fun kv => decide (kv.1 = k)) = true
  · rw [if_pos h, if_pos h, List.map_map, List.map_map]
    refine List.map_congr_left fun p _ => ?_
    show (if (kvM p).1 = kM k then ((kvM p).1, V.int w) else kvM p) = kvM (if p.1 = k then (p.1, w) else p)
    by_cases c : p.1 = k
    · rw [if_pos c]
      exact if_pos (kM_inj.mpr c)
    · rw [if_neg c]
      exact if_neg fun z => c (kM_inj.mp z)
  · rw [if_neg h, if_neg h, List.map_append]
    rfl
def encM (p : (Int × Int) × Int) : PyData × PyData := (.tuple [.int p.1.1, .int p.1.2], .int p.2)
theorem encM_inj {p q : (Int × Int) × Int} (h : encM p = encM q) : p = q := by
  obtain ⟨⟨a, b⟩, c⟩ := p
  obtain ⟨⟨a', b'⟩, c'⟩ := q
  injection h with h1 h2
  injection h1 with h1
  injection h1 with h3 h4
  injection h4 with h4 _
  cases h2
  cases h3
  cases h4
  rfl
def stD (n : Int) (bs : List PyData) (mp : Mp) (sd : PyData) : List PyData := [.int n, .list bs, .dict (mp.map encM), sd]
theorem stD_inj {n n' : Int} {bs bs' : List PyData} {mp mp' : Mp} {sd sd' : PyData} (h : stD n bs mp sd = stD n' bs' mp' sd') : n = n' ∧ bs = bs' ∧ mp = mp' ∧ sd = sd' := by
  injection h with h1 h
  injection h with h2 h
  injection h with h3 h
  injection h with h4 _
  cases h1
  cases h2
  cases h4
  injection h3 with h3
  exact ⟨rfl, rfl, List.map_inj_right (fun _ _ => encM_inj) |>.mp h3, rfl⟩
structure StH (K : PySem.W.Frag) (M : List Addr) (H : Hp) (a b m : Addr) (n : Int) (bs : List PyData) (mp : Mp) (sd : PyData) (xs : List V) (sv : V) : Prop where
  ha : H a = some (.lst [.int n, .ref b, .ref m, sv])
  hb : H b = some (.lst xs)
  hm : H m = some (.dT (mp.map kvM))
  db : Dks K M H xs bs
  ds : Dk K M H sv sd
def StP (K : PySem.W.Frag) (M : List Addr) (H : Hp) (as : List Addr) (ds : List PyData) : Prop := ∃ a b m n bs mp sd xs sv, as = [a, b, m] ∧ ds = stD n bs mp sd ∧ StH K M H a b m n bs mp sd xs sv
def RS : Rep where
  P := StP
  ob := fun {K M H as ds} h a ha => by
    obtain ⟨a', b, m, n, bs, mp, sd, xs, sv, rfl, rfl, x⟩ := h
    simp only [List.mem_cons, List.not_mem_nil, or_false] at ha
    rcases ha with rfl | rfl | rfl
    · exact ⟨_, x.ha, nofun⟩
    · exact ⟨_, x.hb, nofun⟩
    · exact ⟨_, x.hm, nofun⟩
  map := fun {K M M' H H' as ds} h g hn => by
    obtain ⟨a, b, m, n, bs, mp, sd, xs, sv, rfl, rfl, x⟩ := h
    exact ⟨a, b, m, n, bs, mp, sd, xs, sv, rfl, rfl, (g a (by simp)).trans x.ha, (g b (by simp)).trans x.hb, (g m (by simp)).trans x.hm, x.db.map hn, x.ds.map hn⟩
/-- an empty dict of one's own -/
def RD : Rep where
  P := fun _ _ H as _ => ∃ m, as = [m] ∧ H m = some (.dT [])
  ob := fun {K M H as ds} h a ha => by
    obtain ⟨m, rfl, x⟩ := h
    rw [List.mem_singleton.mp ha]
    exact ⟨_, x, nofun⟩
  map := fun {K M M' H H' as ds} h g hn => by
    obtain ⟨m, rfl, x⟩ := h
    exact ⟨m, rfl, (g m (by simp)).trans x⟩
theorem Sm.putO {c : Ct} {M : List Addr} {H : Hp} {l : Addr} {o o' : HO} (hl : l ∈ M) (h : H l = some o) (ht : ∀ ps, o ≠ .tbl ps) (hs : ¬ Stays o) : Sm c M H (upd H l o') := by
  have off : ∀ b u, H b = some u → u ≠ o → upd H l o' b = some u := fun b u e n => by
    rw [upd_ne (fun z => n (by rw [z, h] at e; exact (Option.some.inj e).symm))]
    exact e
  refine ⟨fun b u n e _ => by rw [upd_ne (fun z => n (by rw [z]; exact hl))]; exact e, fun b e z => ?_, fun g => ⟨fun P hP => ?_, fun q hq => ?_⟩⟩
  · by_cases hb : b = l
    · rw [hb, upd_same] at z
      cases z
    · rw [upd_ne hb] at z
      exact e z
  · obtain ⟨ps, e, t⟩ := g.g P hP
    exact ⟨ps, off _ _ e fun z => ht ps z.symm, t⟩
  · obtain ⟨ps, e, t, a⟩ := g.t q hq
    refine ⟨ps, off _ _ e (fun z => ht ps z.symm), t, fun pos cv hc => ?_⟩
    obtain ⟨c0, e1, e2⟩ := a pos cv hc
    exact ⟨c0, e1, off _ _ e2 (fun z => hs (by rw [← z]; exact trivial))⟩
theorem Sn.putO {c : Ct} {M : List Addr} {H : Hp} {l : Addr} {o o' : HO} (hl : l ∈ M) (h : H l = some o) (ht : ∀ ps, o ≠ .tbl ps) (hs : ¬ Stays o) : Sn c M H (upd H l o') :=
  ⟨(Sm.putO (c := c) (o' := o') hl h ht hs).ex, fun b u e _ n => by rw [upd_ne (fun z => hs (by rw [z, h] at e; cases e; exact n))]; exact e, (Sm.putO (c := c) hl h ht hs).st, (Sm.putO hl h ht hs).gd⟩
section
variable {f : Fm} {L : List Addr} {P : List (V × Rv)} {σ : L2.St} {H : Hp} {e : Ev} {i : Nat} {k : Bool} {a : Addr} {as : List Addr} {n : Int} {bs : List PyData} {mp : Mp} {sd : PyData} {x : Fx}
theorem inA_one {a b : Addr} {r : List Addr} (h : ∀ c, inA c (a :: r) ≤ 1) (hb : b ∈ r) : b ≠ a := fun e => by
  have := h a
  have z : 0 < inA a r := inA_pos.mpr (by rw [← e]; exact hb)
  unfold inA at this
  rw [if_pos rfl] at this
  omega
theorem inA_tail {a : Addr} {r : List Addr} (h : ∀ c, inA c (a :: r) ≤ 1) : ∀ c, inA c r ≤ 1 := fun c => by
  have := h c
  unfold inA at this
  omega
/-- a state of a slot, as it lies -/
theorem Stn.state (S : Stn f L P σ H e) (he : e[i]? = some (some (.st k RS a as (stD n bs mp sd)))) : ∃ b m xs sv, as = [b, m] ∧ σ[i]? = some (some (.ref a)) ∧ StH f.K (L ++ f.M) H a b m n bs mp sd xs sv ∧ b ≠ a ∧ m ≠ a ∧ m ≠ b := by
  obtain ⟨v, h1, h2⟩ := S.sl _ _ he
  have nd : ∀ c, inA c (a :: as) ≤ 1 := fun c => by
    have := S.nd c
    have h3 := cE_get (a := c) he
    simp only [Rv.cnt] at h3
    omega
  cases h2 with
  | st x1 x2 x3 =>
    obtain ⟨a', b, m, n', bs', mp', sd', xs, sv, e1, e2, y⟩ := x3
    obtain ⟨rfl, rfl, rfl, rfl⟩ := stD_inj e2
    injection e1 with e1 e3
    subst e1 e3
    exact ⟨b, m, xs, sv, rfl, h1, y, inA_one nd (by simp), inA_one nd (by simp), inA_one (inA_tail nd) (by simp)⟩
/-- a part of a state changes -/
theorem Stn.mutS {o o' : HO} {c : Addr} {ds ds' : List PyData} {R : Rep} (S : Stn f L P σ H e) (he : e[i]? = some (some (.st k R a as ds))) (hc : c ∈ a :: as) (h : H c = some o) (hs : ¬ Stays o) (ht : ∀ ps, o ≠ .tbl ps) (x : R.P f.K (L ++ f.M) (upd H c o') (a :: as) ds') :
    Stn f L P σ (upd H c o') (e.set i (some (.st k R a as ds'))) := by
  obtain ⟨v, h1, h2⟩ := S.sl _ _ he
  have tk := S.takes he
  have n0 : cE c (e.set i none) + cP c P = 0 := by
    have := tk c
    have z := inA_pos.mpr hc
    simp only [Rv.cnt] at this
    omega
  cases h2 with
  | st x1 x2 x3 =>
    have ha : c ∈ L ∨ c ∈ f.B := by
      cases k with
      | true => exact Or.inl (x1 rfl c hc)
      | false => exact Or.inr (x2 rfl c hc)
    have hm : c ∈ L ++ f.B := List.mem_append.mpr ha
    have hM : c ∈ L ++ f.M := ha.elim (fun z => List.mem_append_left _ z) fun z => List.mem_append_right _ (S.bm c z)
    have s : Sn f.c (L ++ f.B) H (upd H c o') := Sn.putO hm h ht hs
    have S0 := S.clear (i := i)
    have S1 : Stn f L P σ (upd H c o') (e.set i none) := by
      refine S0.to (fun b u nb z _ => ⟨nb, ?_⟩) s.nl (fun b hb => ⟨fun z => z, ?_⟩) (s.gd S0.gd) (S0.sm.trans s) S0.fr fun m hm => s.st m (S0.al m hm)
      · rw [upd_ne (fun q => nb (by rw [q]; exact hM))]
        exact z
      · exact upd_ne fun q => by
          rw [q] at hb
          omega
    have S2 := S1.give (r := .st k R a as ds') h1 (.st x1 x2 x) fun b => by
      rw [List.set_set]
      have := tk b
      simp only [Rv.cnt] at this ⊢
      omega
    rw [List.set_set] at S2
    exact S2
def dStN (i : Nat) : DE := fun e Q => ∃ k a as n bs mp sd, e[i]? = some (some (.st k RS a as (stD n bs mp sd))) ∧ Q (.dat (.int n)) e
def dStS (i : Nat) : DE := fun e Q => ∃ k a as n bs mp sd, e[i]? = some (some (.st k RS a as (stD n bs mp sd))) ∧ Q (.dat sd) e
theorem le_stN {i : Nat} : LE x (tOp (rIx x.K) (tVar i) (tC (.int 0))) (dStN i) := fun {f L P σ H e Q Qd} hf S hd q => by
  subst hf
  obtain ⟨k, a, as, n, bs, mp, sd, he, hd⟩ := hd
  obtain ⟨b, m, xs, sv, rfl, h1, y, _⟩ := S.state he
  exact ⟨_, h1, Or.inl ⟨a, _, 0, .int n, rfl, rfl, SqL.of y.ha, rfl, q _ _ _ _ _ (S.pushD (.int n)) hd⟩⟩
theorem le_stS {i : Nat} : LE x (tOp (rIx x.K) (tVar i) (tC (.int 3))) (dStS i) := fun {f L P σ H e Q Qd} hf S hd q => by
  subst hf
  obtain ⟨k, a, as, n, bs, mp, sd, he, hd⟩ := hd
  obtain ⟨b, m, xs, sv, rfl, h1, y, _⟩ := S.state he
  exact ⟨_, h1, Or.inl ⟨a, _, 3, sv, rfl, rfl, SqL.of y.ha, rfl, q _ _ _ _ _ (S.pushD y.ds) hd⟩⟩
/-- a builtin of the state's list -/
def dStCB (w : WN) (i : Nat) : DE := fun e Q => ∃ k a as n bs mp sd, e[i]? = some (some (.st k RS a as (stD n bs mp sd))) ∧ w [.list bs] (dGive e Q)
theorem le_stCB {i : Nat} {r : List V → Hp → VK → Prop} {w : WN} (ho : ON x r w) : LE x (tCB r (tCons (tOp (rIx x.K) (tVar i) (tC (.int 1))) tNil)) (dStCB w i) := fun {f L P σ H e Q Qd} hf S hd q => by
  subst hf
  obtain ⟨k, a, as, n, bs, mp, sd, he, hd⟩ := hd
  obtain ⟨b, m, xs, sv, rfl, h1, y, _⟩ := S.state he
  refine ⟨_, h1, Or.inl ⟨a, _, 1, .ref b, rfl, rfl, SqL.of y.ha, rfl, ?_⟩⟩
  refine ho S.all (.cons (Or.inl ⟨b, xs, bs, rfl, rfl, y.hb, y.db⟩) .nil) hd fun v' H' rx o hk => ?_
  exact S.out o hk fun v2 r2 L3 H3 e3 ev eh S4 h4 => by
    subst ev eh
    exact q _ _ _ _ _ S4 h4
/-- s[1].append(x) -/
def dStApp (i : Nat) (da : DA) : DE := fun e Q => ∃ k a as, (∃ n bs mp sd, e[i]? = some (some (.st k RS a as (stD n bs mp sd)))) ∧ da e fun rs e1 => match rs with
  | [.dat d] => ∃ n bs mp sd, e1[i]? = some (some (.st k RS a as (stD n bs mp sd))) ∧ bs.length < 100000 ∧ Q (.dat .none) (e1.set i (some (.st k RS a as (stD n (bs ++ [d]) mp sd))))
  | _ => False
theorem Dks.put {K : PySem.W.Frag} {M : List Addr} {H : Hp} {c : Addr} {o : HO} {xs : List V} {ds : List PyData} (hM : c ∈ M) (z : Dks K M H xs ds) : Dks K M (upd H c o) xs ds := z.map fun b u n e _ => ⟨n, by rw [upd_ne (fun q => n (by rw [q]; exact hM))]; exact e⟩
theorem Dk.put {K : PySem.W.Frag} {M : List Addr} {H : Hp} {c : Addr} {o : HO} {v : V} {d : PyData} (hM : c ∈ M) (z : Dk K M H v d) : Dk K M (upd H c o) v d := z.map fun b u n e _ => ⟨n, by rw [upd_ne (fun q => n (by rw [q]; exact hM))]; exact e⟩
/-- what a state owns may change -/
theorem Stn.stM (S : Stn f L P σ H e) {R : Rep} {ds : List PyData} (he : e[i]? = some (some (.st k R a as ds))) : ∀ c ∈ a :: as, c ∈ L ++ f.M := fun c hc => by
  obtain ⟨v, _, h2⟩ := S.sl _ _ he
  cases h2 with
  | st x1 x2 x3 =>
    cases k with
    | true => exact List.mem_append_left _ (x1 rfl c hc)
    | false => exact List.mem_append_right _ (S.bm c (x2 rfl c hc))
theorem le_stApp {i : Nat} {ta : TA} {da : DA} (h : LA x ta da) : LE x (tBM x.K "list" rAppend (tOp (rIx x.K) (tVar i) (tC (.int 1))) ta) (dStApp i da) := fun {f L P σ H e Q Qd} hf S hd q => by
  subst hf
  obtain ⟨k, a, as, ⟨n, bs, mp, sd, he⟩, hd⟩ := hd
  obtain ⟨b, m, xs, sv, rfl, h1, y, _⟩ := S.state he
  refine ⟨_, h1, Or.inl ⟨a, _, 1, .ref b, rfl, rfl, SqL.of y.ha, rfl, Or.inl ⟨rfl, _, SqL.of y.hb⟩, h rfl S hd fun ps L1 H1 e1 S1 k1 => ?_⟩⟩
  split at k1
  · rename_i d hps
    match ps, hps with
    | [(v, .dat _)], rfl =>
      obtain ⟨n, bs, mp, sd, he1, hz, k1⟩ := k1
      have z := S1.last
      cases z with
      | dat dx =>
        obtain ⟨b', m', ys, sv', eb, s1, y1, nba, nma, nmb⟩ := S1.pop.state he1
        cases eb
        have e4 := y1.db.length
        have hbM := S1.pop.stM he1 b (by simp)
        refine ⟨_, _, v, rfl, rfl, y1.hb, sz_lt (by omega), q _ _ _ _ _ ((S1.pop.mutS (ds' := stD n (bs ++ [d]) mp sd) he1 (by simp) y1.hb (fun z => z) nofun ?_).pushD .non) k1⟩
        exact ⟨a, b, m, n, bs ++ [d], mp, sd, ys ++ [v], sv', rfl, rfl, by rw [upd_ne nba.symm]; exact y1.ha, upd_same, by rw [upd_ne nmb]; exact y1.hm, (y1.db.snoc dx).put hbM, y1.ds.put hbM⟩
  · exact k1.elim
/-- a key: a pair of numbers -/
theorem key_eval {ta : TA} {da : DA} (h : LA x ta da) {f : Fm} {L : List Addr} {P : List (V × Rv)} {σ : L2.St} {H : Hp} {e : Ev} {Q : VK} {Qd : Int → Int → Ev → Prop} (hf : f.toFx = x) (S : Stn f L P σ H e)
    (hd : da e fun rs e1 => ∃ l r, rs = [.dat (.int l), .dat (.int r)] ∧ Qd l r e1) (q : ∀ p l r L1 H1 e1, Stn f L1 P σ H1 e1 → H1 p = some (.tup ((kM (l, r)).map kV)) → Qd l r e1 → Q (.ref p) H1) : tTup ta σ H Q :=
  h hf S hd fun ps L1 H1 e1 S1 ⟨l, r, e2, k⟩ => by
    match ps, e2 with
    | [(v, .dat _), (u, .dat _)], rfl =>
      have z := S1.rqs [(v, .dat (.int l)), (u, .dat (.int r))] fun p hp => List.mem_append_right _ hp
      cases z with
      | cons z1 z2 =>
        cases z1 with
        | dat d1 =>
          cases z2 with
          | cons z3 _ =>
            cases z3 with
            | dat d2 =>
              cases d1.int_inv
              cases d2.int_inv
              exact ⟨sz_of (n := 2) (by decide), fun p hp => q p l r L1 _ e1 (S1.pop.grow (Sn.new hp)) upd_same k⟩
def dStIn (i : Nat) (da : DA) : DE := fun e Q => da e fun rs e1 => ∃ l r, rs = [.dat (.int l), .dat (.int r)] ∧ ∃ k a as n bs mp sd, e1[i]? = some (some (.st k RS a as (stD n bs mp sd))) ∧ Q (.dat (.bool (mget mp (l, r)).isSome)) e1
theorem le_stIn {i : Nat} {ta : TA} {da : DA} (h : LA x ta da) : LE x (tDIn (tTup ta) (tOp (rIx x.K) (tVar i) (tC (.int 2)))) (dStIn i da) := fun {f L P σ H e Q Qd} hf S hd q => by
  refine key_eval h hf S hd fun p l r L1 H1 e1 S1 hp ⟨k, a, as, n, bs, mp, sd, he, k1⟩ => ?_
  subst hf
  obtain ⟨b, m, xs, sv, rfl, h1, y, _⟩ := S1.state he
  refine ⟨_, h1, Or.inl ⟨a, _, 2, .ref m, rfl, rfl, SqL.of y.ha, rfl, m, _, rfl, DGet.t y.hm hp, ?_⟩⟩
  rw [valV_M, Option.isSome_map]
  exact q _ _ _ _ _ (S1.pushD (.bl _)) k1
def dStGet (i : Nat) (da : DA) : DE := fun e Q => ∃ k a as, (∃ n bs mp sd, e[i]? = some (some (.st k RS a as (stD n bs mp sd)))) ∧ da e fun rs e1 => ∃ l r, rs = [.dat (.int l), .dat (.int r)] ∧ ∃ n bs mp sd w, e1[i]? = some (some (.st k RS a as (stD n bs mp sd))) ∧ mget mp (l, r) = some w ∧ Q (.dat (.int w)) e1
theorem le_stGet {i : Nat} {ta : TA} {da : DA} (h : LA x ta da) : LE x (tDGet (tOp (rIx x.K) (tVar i) (tC (.int 2))) (tTup ta)) (dStGet i da) := fun {f L P σ H e Q Qd} hf S hd q => by
  subst hf
  obtain ⟨k, a, as, ⟨n, bs, mp, sd, he⟩, hd⟩ := hd
  obtain ⟨b, m, xs, sv, rfl, h1, y, _⟩ := S.state he
  refine ⟨_, h1, Or.inl ⟨a, _, 2, .ref m, rfl, rfl, SqL.of y.ha, rfl, ?_⟩⟩
  refine key_eval h rfl S hd fun p l r L1 H1 e1 S1 hp ⟨n, bs, mp, sd, w, he1, hw, k1⟩ => ?_
  obtain ⟨b', m', ys, sv', eb, s1, y1, _⟩ := S1.state he1
  cases eb
  have g := DGet.t y1.hm hp
  rw [valV_M, hw] at g
  exact ⟨m, .int w, rfl, g, q _ _ _ _ _ (S1.pushD (.int w)) k1⟩
def dgStPut (i : Nat) (da : DA) : DG := fun r e Q => ∃ w, r = .dat (.int w) ∧ ∃ k a as, (∃ n bs mp sd, e[i]? = some (some (.st k RS a as (stD n bs mp sd)))) ∧ da e fun rs e1 => ∃ l r, rs = [.dat (.int l), .dat (.int r)] ∧ ∃ n bs mp sd, e1[i]? = some (some (.st k RS a as (stD n bs mp sd))) ∧ mp.length < 100000 ∧ Q (e1.set i (some (.st k RS a as (stD n bs (mput mp (l, r) w) sd))))
theorem lg_stPut {vs : List Nat} {i : Nat} {ta : TA} {da : DA} (h : LA x ta da) : LG x vs (gSub (tOp (rIx x.K) (tVar i) (tC (.int 2))) (tTup ta) rSetD) (dgStPut i da) := fun {f L P σ H e v r Q Qd} hf S hd q => by
  subst hf
  obtain ⟨w, rfl, k, a, as, ⟨n, bs, mp, sd, he⟩, hd⟩ := hd
  have z := S.last
  cases z with
  | dat z =>
    cases z.int_inv
    have S := S.pop
    obtain ⟨b, m, xs, sv, rfl, h1, y, _⟩ := S.state he
    refine ⟨_, h1, Or.inl ⟨a, _, 2, .ref m, rfl, rfl, SqL.of y.ha, rfl, ?_⟩⟩
    refine key_eval h rfl S hd fun p l r L1 H1 e1 S1 hp ⟨n, bs, mp, sd, he1, hz, k1⟩ => ?_
    obtain ⟨b', m', ys, sv', eb, s1, y1, nba, nma, nmb⟩ := S1.state he1
    cases eb
    have hmM := S1.stM he1 m (by simp)
    refine ⟨m, _, rfl, DPut.t y1.hm hp (sz_lt (by rw [List.length_map]; exact hz)), ?_⟩
    rw [putK_M]
    refine q _ _ _ _ (S1.mutS (ds' := stD n bs (mput mp (l, r) w) sd) he1 (by simp) y1.hm (fun z => z) nofun ?_) (fun _ _ => rfl) rfl k1
    exact ⟨a, b, m, n, bs, _, sd, ys, sv', rfl, rfl, by rw [upd_ne nma.symm]; exact y1.ha, by rw [upd_ne nmb.symm]; exact y1.hb, upd_same, y1.db.put hmM, y1.ds.put hmM⟩
/-- something new of one's own -/
theorem Stn.freshS {p : Addr} {o : HO} {R : Rep} {ds : List PyData} (S : Stn f L P σ H e) (hp : H p = none) (x : R.P f.K ((p :: L) ++ f.M) (upd H p o) [p] ds) : Stn f (p :: L) (P ++ [(.ref p, .st true R p [] ds)]) σ (upd H p o) e := by
  have off : ∀ {b u}, H b = some u → upd H p o b = some u := fun {b u} z => by rw [upd_ne (ne_of_none z hp)]; exact z
  have s : Sn f.c (L ++ f.B) H (upd H p o) := Sn.new hp
  have nodes : ∀ b u, b ∉ L ++ f.M → H b = some u → (∀ ps, u ≠ .tbl ps) → b ∉ (p :: L) ++ f.M ∧ upd H p o b = some u := fun b u n z _ => ⟨fun q => by
    rcases List.mem_cons.mp q with q | q
    · rw [q, hp] at z
      cases z
    · exact n q, off z⟩
  have S1 : Stn f (p :: L) P σ (upd H p o) e := by
    refine S.to nodes s.nl (fun a ha => ⟨fun z => List.mem_cons_of_mem _ z, ?_⟩) ((Sn.new (c := f.c) (M := []) hp).gd S.gd) ((S.sm.trans s).sub fun x hx => List.mem_cons_of_mem _ hx) (fun l hl => ?_) fun m hm => ?_
    · obtain ⟨⟨ys, h, _⟩, _⟩ := S.owned ha
      rw [off h, h]
    · rcases List.mem_cons.mp hl with z | z
      · rw [z]
        exact S.sm.fresh hp
      · exact S.fr l z
    · rcases List.mem_cons.mp hm with z | z
      · rw [z, upd_same]
        nofun
      · exact s.st m (S.al m z)
  refine S1.push (.st (fun _ b hb => by rw [List.mem_singleton.mp hb]; exact List.mem_cons_self) nofun x) fun a => ?_
  have := S.nd a
  simp only [Rv.cnt, inA]
  by_cases z : a = p
  · subst z
    rw [if_pos rfl]
    have : ¬ 0 < cE a e + cP a P := fun z => by
      obtain ⟨⟨ys, h, _⟩, _⟩ := S.owned z
      rw [hp] at h
      cases h
    omega
  · rw [if_neg z]
    omega
def dDNT : DE := fun e Q => ∀ m, Q (.st true RD m [] []) e
theorem le_dnt : LE x tDNewT dDNT := fun {f L P σ H e Q Qd} hf S hd q => fun p hp => q _ _ _ _ _ (S.freshS (R := RD) (ds := []) hp ⟨p, rfl, upd_same⟩) (hd p)
/-- [n, xs, {}, d] -/
def dStPack (da : DA) : DE := fun e Q => da e fun rs e1 => ∃ n b bs m sd, rs = [.dat (.int n), .own true b bs, .st true RD m [] [], .dat sd] ∧ ∀ a, Q (.st true RS a [b, m] (stD n bs [] sd)) e1
theorem le_stPack {ta : TA} {da : DA} (h : LA x ta da) : LE x (tLst ta) (dStPack da) := fun {f L P σ H e Q Qd} hf S hd q =>
  h hf S hd fun ps L1 H1 e1 S1 ⟨n, b, bs, m, sd, e2, k⟩ => by
    subst hf
    match ps, e2 with
    | [(v1, .dat _), (v2, .own _ _ _), (v3, .st _ _ _ _ _), (v4, .dat _)], rfl =>
      refine ⟨sz_of (n := 4) (by decide), fun p hp => ?_⟩
      have z := S1.rqs [(v1, .dat (.int n)), (v2, .own true b bs), (v3, .st true RD m [] []), (v4, .dat sd)] fun p hp => List.mem_append_right _ hp
      cases z with
      | cons z1 z =>
        cases z with
        | cons z2 z =>
          cases z with
          | cons z3 z =>
            cases z with
            | cons z4 _ =>
              cases z1 with
              | dat d1 =>
                cases d1.int_inv
                cases z4 with
                | dat d4 =>
                  cases z2 with
                  | own x1 _ hb db =>
                    cases z3 with
                    | st y1 _ y3 =>
                      obtain ⟨m', em, hm⟩ := y3
                      injection em with em _
                      subst em
                      have s : Sn f.c [] H1 (upd H1 p (.lst [.int n, .ref b, .ref m, v4])) := Sn.new hp
                      have npb : b ≠ p := ne_of_none hb hp
                      have npm : m ≠ p := ne_of_none hm hp
                      have off : ∀ {b u}, H1 b = some u → upd H1 p (.lst [.int n, .ref b, .ref m, v4]) b = some u := fun {b u} z => by rw [upd_ne (ne_of_none z hp)]; exact z
                      have S2 := S1.freshS (R := RD) (ds := []) (o := .dT []) hp ⟨p, rfl, upd_same⟩
                      have S3 : Stn f (p :: L1) P σ (upd H1 p (.lst [.int n, .ref b, .ref m, v4])) e1 := by
                        refine S1.pop.to (L' := p :: L1) (fun b u n z _ => ⟨fun q => ?_, by rw [upd_ne (ne_of_none z hp)]; exact z⟩) (s.any (M := [])).nl (fun a ha => ⟨fun z => List.mem_cons_of_mem _ z, ?_⟩) (s.gd S1.gd) ((S1.sm.trans (s.any)).sub fun x hx => List.mem_cons_of_mem _ hx) (fun l hl => ?_) fun m hm => ?_
                        · rcases List.mem_cons.mp q with q | q
                          · rw [q, hp] at z
                            cases z
                          · exact n q
                        · obtain ⟨⟨ys, h, _⟩, _⟩ := S1.pop.owned ha
                          rw [upd_ne (ne_of_none h hp)]
                        · rcases List.mem_cons.mp hl with z | z
                          · rw [z]
                            exact S1.sm.fresh hp
                          · exact S1.fr l z
                        · rcases List.mem_cons.mp hm with z | z
                          · rw [z, upd_same]
                            nofun
                          · exact s.st m (S1.al m z)
                      have nodes : ∀ c u, c ∉ L1 ++ f.M → H1 c = some u → (∀ ps, u ≠ .tbl ps) → c ∉ (p :: L1) ++ f.M ∧ upd H1 p (.lst [.int n, .ref b, .ref m, v4]) c = some u := fun c u n z _ => ⟨fun q => by
                        rcases List.mem_cons.mp q with q | q
                        · rw [q, hp] at z
                          cases z
                        · exact n q, by rw [upd_ne (ne_of_none z hp)]; exact z⟩
                      refine q _ _ _ _ _ (S3.push (r := .st true RS p [b, m] (stD n bs [] sd)) (.st (fun _ c hc => ?_) nofun ⟨p, b, m, n, bs, [], sd, _, v4, rfl, rfl, upd_same, by rw [upd_ne npb]; exact hb, by rw [upd_ne npm]; exact hm, db.map nodes, d4.map nodes⟩) fun c => ?_) (k p)
                      · simp only [List.mem_cons, List.not_mem_nil, or_false] at hc
                        rcases hc with rfl | rfl | rfl
                        · exact List.mem_cons_self
                        · exact List.mem_cons_of_mem _ (x1 rfl)
                        · exact List.mem_cons_of_mem _ (y1 rfl _ (by simp))
                      · have nd := S1.nd c
                        rw [cP_app] at nd
                        simp only [cP, Rv.cnt, inA] at nd ⊢
                        by_cases z : c = p
                        · subst z
                          rw [if_pos rfl, if_neg npb.symm, if_neg npm.symm]
                          have : ¬ 0 < cE c e1 + cP c P := fun z => by
                            obtain ⟨⟨ys, h, _⟩, _⟩ := S1.pop.owned z
                            rw [hp] at h
                            cases h
                          omega
                        · rw [if_neg z]
                          omega
end
end My

/-! a list of one's own lists: its length, its truth, a list within turned round, replaced -/
namespace My
open PySem PySem.Spec PySem.Calls PyProof.Rows L2
open LamX (CodeO TabS ExtN)
section
variable {x : Fx} {vs : List Nat}
variable {f : Fm} {L : List Addr} {P : List (V × Rv)} {σ : L2.St} {H : Hp} {e : Ev} {a : Addr} {rs : List Rv} {r : Rv} {v : V} {xs : List V} {ds es : List PyData} {i m : Nat}
def dNLen (i : Nat) : DE := fun e Q => ∃ a rs, e[i]? = some (some (.nst a rs)) ∧ Q (.dat (.int (rs.length : Nat))) e
theorem le_nLen {i : Nat} : LE x (tCB (rLenK x.K) (tCons (tVar i) tNil)) (dNLen i) := fun {f L P σ H e Q Qd} hf S hd q => by
  subst hf
  obtain ⟨a, rs, he, hd⟩ := hd
  obtain ⟨v, h1, h2⟩ := S.sl _ _ he
  cases h2 with
  | nst x1 x2 x3 =>
    refine ⟨_, h1, a, _, rfl, Or.inl (SqL.of x2), ?_⟩
    rw [x3.length]
    exact q _ _ _ _ _ (S.pushD (.int _)) hd
/-- xs != [] of such a list -/
def dNNe (i : Nat) : DE := fun e Q => ∃ a rs ds, e[i]? = some (some (.nst a rs)) ∧ Rv.fzL rs = some ds ∧ neW (.list ds) (.list []) fun rx => ∃ b, rx = .dt (.bool b) ∧ Q (.dat (.bool b)) e
theorem le_nNe {i : Nat} {r : R2} (ho : O2 x r neW) : LE x (tOp r (tVar i) (tLst tNil)) (dNNe i) := fun {f L P σ H e Q Qd} hf S hd q => by
  subst hf
  obtain ⟨a, rs, ds, he, hz, hd⟩ := hd
  obtain ⟨v, h1, h2⟩ := S.sl _ _ he
  refine ⟨v, h1, Nat.zero_le _, fun p hp => ?_⟩
  have s : Sn f.c [] H (upd H p (.lst [])) := Sn.new hp
  have hz' : (Rv.nst a rs).fz = some (.list ds) := by
    show (Rv.fzL rs).map PyData.list = _
    rw [hz]
    rfl
  have dk : Dk f.K ([] ++ f.M) H v (.list ds) := fz_dk (L' := []) (fun _ h => nomatch h) h2 _ hz' fun b hb z => S.al0 b z (S.fr b (fz_loc h2 _ hz' b hb))
  have all : ∀ m ∈ [] ++ f.M, upd H p (.lst []) m ≠ none := fun m hm => s.st m (S.sm.st m (S.al0 m hm))
  refine ho all (Or.inr (dk.sm s.any)) (Or.inl ⟨p, [], [], rfl, rfl, upd_same, .nil⟩) hd fun v' H' rx o hk => ?_
  obtain ⟨b, rfl, hk⟩ := hk
  obtain ⟨o1, o2⟩ := o
  cases o2.bool_inv
  exact q _ _ _ _ _ (((S.grow s).grow o1).pushD (.bl b)) hk
/-- xs[i][::-1] -/
def dNRev (i : Nat) (di : DE) : DE := fun e Q => (∃ a rs, e[i]? = some (some (.nst a rs))) ∧ di e fun ri e1 => ∃ m a rs mi b ds, ri = .dat (.int m) ∧ e1[i]? = some (some (.nst a rs)) ∧ ixN rs.length m = some mi ∧ rs[mi]? = some (.own true b ds) ∧ ∀ p, Q (.own true p ds.reverse) e1
theorem le_nRev {i : Nat} {ti : TE} {di : DE} (h : LE x ti di) : LE x (tRevL x.K (tOp (rIx x.K) (tVar i) ti)) (dNRev i di) := fun {f L P σ H e Q Qd} hf S hd q => by
  obtain ⟨⟨a0, rs0, h0⟩, hd⟩ := hd
  obtain ⟨v0, s0, q0⟩ := S.sl _ _ h0
  have ev0 : v0 = .ref a0 := by cases q0; rfl
  subst ev0
  refine ⟨_, s0, h hf S hd fun vi ri L1 H1 e1 S1 k1 => ?_⟩
  subst hf
  obtain ⟨m, a, rs, mi, b, ds, rfl, he, hm, hr, k1⟩ := k1
  have z := S1.last
  cases z with
  | dat z =>
    cases z.int_inv
    obtain ⟨v1, s1, q1⟩ := S1.sl _ _ he
    rw [s0] at s1
    cases s1
    cases q1 with
    | nst x1 x2 x3 =>
      obtain ⟨w, hw, qw⟩ := x3.get hr
      cases qw with
      | own y1 y2 y3 y4 =>
        refine Or.inl ⟨_, _, m, .ref b, rfl, rfl, SqL.of x2, ?_, b, _, rfl, SqL.of y3, fun p hp => q _ _ _ _ _ (S1.pop.fresh hp y4.rev) (k1 p)⟩
        unfold atI
        rw [x3.length, hm]
        exact hw
theorem Rqs.setR {H' : Hp} : ∀ {ws : List V} {rs : List Rv} {n : Nat} {v : V} {r : Rv}, Rqs f L H ws rs → Rq f L H v r → Rqs f L H (ws.set n v) (rs.set n r)
  | _, _, _, _, _, .nil, _ => .nil
  | _, _, 0, _, _, .cons _ t, x => .cons x t
  | _, _, n + 1, _, _, .cons q t, x => .cons q (Rqs.setR (H' := H') (n := n) t x)
theorem cntL_setR {c : Addr} {r : Rv} : ∀ {rs : List Rv} {n : Nat}, Rv.cntL c (rs.set n r) ≤ Rv.cntL c rs + r.cnt c
  | [], n => by simp [Rv.cntL]
  | r0 :: rs, 0 => by
    simp only [List.set_cons_zero, Rv.cntL]
    omega
  | r0 :: rs, n + 1 => by
    have := cntL_setR (c := c) (r := r) (rs := rs) (n := n)
    simp only [List.set_cons_succ, Rv.cntL]
    omega
/-- a list within is replaced -/
theorem Stn.setN {p : Addr} (S : Stn f L (P ++ [(.ref p, .own true p es)]) σ H e) (h : e[i]? = some (some (.nst a rs))) (hx : H a = some (.lst xs)) : Stn f L P σ (upd H a (.lst (xs.set m (.ref p)))) (e.set i (some (.nst a (rs.set m (.own true p es))))) := by
  obtain ⟨v, h1, h2⟩ := S.sl _ _ h
  have tk := S.takes h
  have qp := S.last
  cases h2 with
  | nst x1 x2 x3 =>
    rw [hx] at x2
    cases x2
    have ta := tk a
    rw [cP_app, cP_one] at ta
    simp only [Rv.cnt, if_pos] at ta
    have n1 : Rv.cntL a rs = 0 := by omega
    have n2 : ¬ a = p := fun z => by
      rw [if_pos z] at ta
      omega
    have S1 := (S.pop.clear (i := i)).change (a := a) (ys := xs.set m (.ref p)) (by omega) (Or.inl x1) hx
    have S2 := S1.give (i := i) h1 (.nst (a := a) (rs := rs.set m (.own true p es)) x1 upd_same (Rqs.setR (H' := H) (x3.off x1 hx n1) (qp.off x1 hx (by simp only [Rv.cnt]; rw [if_neg n2])))) fun c => by
      have tc := tk c
      rw [List.set_set]
      rw [cP_app, cP_one] at tc
      simp only [Rv.cnt] at tc ⊢
      have := cntL_setR (c := c) (r := .own true p es) (rs := rs) (n := m)
      simp only [Rv.cnt] at this
      omega
    rwa [List.set_set] at S2
def dgSubN (i : Nat) (di : DE) : DG := fun r e Q => ∃ p es, r = .own true p es ∧ (∃ a rs, e[i]? = some (some (.nst a rs))) ∧ di e fun ri e1 => ∃ n a rs ni, ri = .dat (.int n) ∧ e1[i]? = some (some (.nst a rs)) ∧ ixN rs.length n = some ni ∧ Q (e1.set i (some (.nst a (rs.set ni (.own true p es)))))
theorem lg_subN {i : Nat} {ti : TE} {di : DE} (h : LE x ti di) : LG x vs (gSub (tVar i) ti rSetL) (dgSubN i di) := fun {f L P σ H e v r Q Qd} hf S hd q => by
  obtain ⟨p, es, rfl, ⟨a0, rs0, h0⟩, hd⟩ := hd
  obtain ⟨v0, s0, q0⟩ := S.sl _ _ h0
  have ev0 : v0 = .ref a0 := by cases q0; rfl
  subst ev0
  have evp : v = .ref p := by
    have z := S.last
    cases z
    rfl
  subst evp
  refine ⟨_, s0, h hf S hd fun vi ri L1 H1 e1 S1 k1 => ?_⟩
  subst hf
  obtain ⟨n, a, rs, ni, rfl, he, hn, k1⟩ := k1
  have z := S1.last
  cases z with
  | dat z =>
    cases z.int_inv
    obtain ⟨v1, s1, q1⟩ := S1.sl _ _ he
    rw [s0] at s1
    cases s1
    cases q1 with
    | nst x1 x2 x3 =>
      exact ⟨_, _, n, ni, rfl, rfl, x2, (by rw [x3.length]; exact hn), q _ _ _ _ (S1.pop.setN (m := ni) he x2) (fun _ _ => rfl) rfl k1⟩
end
end My

namespace Kx
open PySem PySem.Spec PyProof.Rows L2 My
open LamX (CodeO TabS ExtN)
open GxR (TabG Tabbed)
def topS (i : Nat) : Stmt := PySem.Challenge.pw_runnets_k28_whole_carries_by_own_adding.main.body.getD i (.Pass ⟨0, 0, 0, 0⟩)
abbrev s_is_whole : Stmt := topS 7
theorem sc_is_whole : FnScope ["value", "least", "most"] ["value", "least", "most"] (defScope s_is_whole) :=
  ⟨rfl, rfl, rfl, by decide +kernel, rfl, by decide +kernel, by decide +kernel⟩
abbrev s_is_row : Stmt := topS 8
theorem sc_is_row : FnScope ["value", "least", "most"] ["value", "least", "most"] (defScope s_is_row) :=
  ⟨rfl, rfl, rfl, by decide +kernel, rfl, by decide +kernel, by decide +kernel⟩
abbrev s_run_through : Stmt := topS 10
theorem sc_run_through : FnScope ["net", "worths", "joined", "found", "ahead", "behind"] ["net", "worths", "joined"] (defScope s_run_through) :=
  ⟨rfl, rfl, rfl, by decide +kernel, rfl, by decide +kernel, by decide +kernel⟩
abbrev s_are_wires : Stmt := topS 15
theorem sc_are_wires : FnScope ["values", "many"] ["values", "many"] (defScope s_are_wires) :=
  ⟨rfl, rfl, rfl, by decide +kernel, rfl, by decide +kernel, by decide +kernel⟩
abbrev s_is_net : Stmt := topS 16
theorem sc_is_net : FnScope ["value", "places", "boxes", "ends", "index", "box"] ["value"] (defScope s_is_net) :=
  ⟨rfl, rfl, rfl, by decide +kernel, rfl, by decide +kernel, by decide +kernel⟩
abbrev s_check_net : Stmt := topS 17
theorem sc_check_net : FnScope ["net"] ["net"] (defScope s_check_net) :=
  ⟨rfl, rfl, rfl, by decide +kernel, rfl, by decide +kernel, by decide +kernel⟩
abbrev s_is_kind : Stmt := topS 20
theorem sc_is_kind : FnScope ["value"] ["value"] (defScope s_is_kind) :=
  ⟨rfl, rfl, rfl, by decide +kernel, rfl, by decide +kernel, by decide +kernel⟩
abbrev s_check_kind : Stmt := topS 21
theorem sc_check_kind : FnScope ["kind"] ["kind"] (defScope s_check_kind) :=
  ⟨rfl, rfl, rfl, by decide +kernel, rfl, by decide +kernel, by decide +kernel⟩
abbrev s_end_worths : Stmt := topS 23
theorem sc_end_worths : FnScope ["net", "table", "worths", "found", "end"] ["net", "table", "worths"] (defScope s_end_worths) :=
  ⟨rfl, rfl, rfl, by decide +kernel, rfl, by decide +kernel, by decide +kernel⟩
abbrev s_settling_table : Stmt := topS 26
theorem sc_settling_table : FnScope ["kind", "x", "y"] ["kind"] (defScope s_settling_table) :=
  ⟨rfl, rfl, rfl, by decide +kernel, rfl, by decide +kernel, by decide +kernel⟩
abbrev s_check_digits : Stmt := topS 31
theorem sc_check_digits : FnScope ["net", "digits", "index", "digit"] ["net", "digits"] (defScope s_check_digits) :=
  ⟨rfl, rfl, rfl, by decide +kernel, rfl, by decide +kernel, by decide +kernel⟩
abbrev s_check_running : Stmt := topS 32
theorem sc_check_running : FnScope ["net"] ["net"] (defScope s_check_running) :=
  ⟨rfl, rfl, rfl, by decide +kernel, rfl, by decide +kernel, by decide +kernel⟩
abbrev s_deed_of : Stmt := topS 33
theorem sc_deed_of : FnScope ["here", "there"] ["here", "there"] (defScope s_deed_of) :=
  ⟨rfl, rfl, rfl, by decide +kernel, rfl, by decide +kernel, by decide +kernel⟩
abbrev s_told_carries : Stmt := topS 34
theorem sc_told_carries : FnScope ["net", "one", "two", "deeds", "here", "there", "deed"] ["net", "one", "two"] (defScope s_told_carries) :=
  ⟨rfl, rfl, rfl, by decide +kernel, rfl, by decide +kernel, by decide +kernel⟩
abbrev s_carries : Stmt := topS 35
theorem sc_carries : FnScope ["net", "one", "two"] ["net", "one", "two"] (defScope s_carries) :=
  ⟨rfl, rfl, rfl, by decide +kernel, rfl, by decide +kernel, by decide +kernel⟩
abbrev s_jar : Stmt := topS 37
theorem sc_jar : FnScope ["script", "turn", "own", "mixed", "cell"] ["script", "turn"] (defScope s_jar) :=
  ⟨rfl, rfl, rfl, by decide +kernel, rfl, by decide +kernel, by decide +kernel⟩
abbrev s_draw : Stmt := topS 38
theorem sc_draw : FnScope ["jar", "top", "digit", "mixed"] ["jar", "top"] (defScope s_draw) :=
  ⟨rfl, rfl, rfl, by decide +kernel, rfl, by decide +kernel, by decide +kernel⟩
abbrev s_pick : Stmt := topS 39
theorem sc_pick : FnScope ["jar", "some"] ["jar", "some"] (defScope s_pick) :=
  ⟨rfl, rfl, rfl, by decide +kernel, rfl, by decide +kernel, by decide +kernel⟩
abbrev s_words : Stmt := topS 40
theorem sc_words : FnScope ["web", "found", "spot", "pair"] ["web"] (defScope s_words) :=
  ⟨rfl, rfl, rfl, by decide +kernel, rfl, by decide +kernel, by decide +kernel⟩
abbrev s_form : Stmt := topS 41
theorem sc_form : FnScope ["word", "many", "sort", "found", "spot", "counts", "count"] ["word", "many", "sort"] (defScope s_form) :=
  ⟨rfl, rfl, rfl, by decide +kernel, rfl, by decide +kernel, by decide +kernel⟩
abbrev s_fits : Stmt := topS 42
theorem sc_fits : FnScope ["word", "many", "pair", "sort"] ["word", "many", "pair", "sort"] (defScope s_fits) :=
  ⟨rfl, rfl, rfl, by decide +kernel, rfl, by decide +kernel, by decide +kernel⟩
abbrev s_laid : Stmt := topS 43
theorem sc_laid : FnScope ["jar", "state", "low", "high", "cut", "sort", "start", "ahead", "behind"] ["jar", "state", "low", "high"] (defScope s_laid) :=
  ⟨rfl, rfl, rfl, by decide +kernel, rfl, by decide +kernel, by decide +kernel⟩
abbrev s_web : Stmt := topS 44
theorem sc_web : FnScope ["jar", "many", "pairs", "sort", "state", "tips", "pair"] ["jar", "many", "pairs", "sort"] (defScope s_web) :=
  ⟨rfl, rfl, rfl, by decide +kernel, rfl, by decide +kernel, by decide +kernel⟩
abbrev s_bent : Stmt := topS 45
theorem sc_bent : FnScope ["jar", "web", "boxes", "tips", "pair", "spot", "side"] ["jar", "web"] (defScope s_bent) :=
  ⟨rfl, rfl, rfl, by decide +kernel, rfl, by decide +kernel, by decide +kernel⟩
abbrev s_added : Stmt := topS 46
theorem sc_added : FnScope ["first", "second", "found", "carry", "k"] ["first", "second"] (defScope s_added) :=
  ⟨rfl, rfl, rfl, by decide +kernel, rfl, by decide +kernel, by decide +kernel⟩
abbrev s_carried : Stmt := topS 47
theorem sc_carried : FnScope ["web", "first", "second", "deeds", "k", "found", "pair", "tip"] ["web", "first", "second"] (defScope s_carried) :=
  ⟨rfl, rfl, rfl, by decide +kernel, rfl, by decide +kernel, by decide +kernel⟩
abbrev s_runner : Stmt := topS 48
theorem sc_runner : FnScope ["jar", "most", "many", "pairs", "k", "web"] ["jar", "most"] (defScope s_runner) :=
  ⟨rfl, rfl, rfl, by decide +kernel, rfl, by decide +kernel, by decide +kernel⟩
abbrev s_row : Stmt := topS 49
theorem sc_row : FnScope ["jar", "many", "size", "found", "turn"] ["jar", "many", "size"] (defScope s_row) :=
  ⟨rfl, rfl, rfl, by decide +kernel, rfl, by decide +kernel, by decide +kernel⟩
abbrev s_summands : Stmt := topS 50
theorem sc_summands : FnScope ["jar", "many", "first", "second", "spot", "turned", "digit"] ["jar", "many"] (defScope s_summands) :=
  ⟨rfl, rfl, rfl, by decide +kernel, rfl, by decide +kernel, by decide +kernel⟩
abbrev s_right : Stmt := topS 51
theorem sc_right : FnScope ["jar", "web", "words", "many", "good", "k", "turn", "first", "second", "told", "sums"] ["jar"] (defScope s_right) :=
  ⟨rfl, rfl, rfl, by decide +kernel, rfl, by decide +kernel, by decide +kernel⟩
abbrev s_law : Stmt := topS 52
theorem sc_law : FnScope ["script", "turn"] ["script"] (defScope s_law) :=
  ⟨rfl, rfl, rfl, by decide +kernel, rfl, by decide +kernel, by decide +kernel⟩
structure Ads where
  a_is_whole : Addr
  a_is_row : Addr
  a_run_through : Addr
  a_are_wires : Addr
  a_is_net : Addr
  a_check_net : Addr
  a_is_kind : Addr
  a_check_kind : Addr
  a_end_worths : Addr
  a_settling_table : Addr
  a_check_digits : Addr
  a_check_running : Addr
  a_deed_of : Addr
  a_told_carries : Addr
  a_carries : Addr
  a_jar : Addr
  a_draw : Addr
  a_pick : Addr
  a_words : Addr
  a_form : Addr
  a_fits : Addr
  a_laid : Addr
  a_web : Addr
  a_bent : Addr
  a_added : Addr
  a_carried : Addr
  a_runner : Addr
  a_row : Addr
  a_summands : Addr
  a_right : Addr
  a_law : Addr
  c_are_wires : Addr
  p_are_wires : Addr
  c_end_worths : Addr
  p_end_worths : Addr
  n_KINDS : Addr
  n_SETTLING : Addr
def dat_SETTLING : List (Str × PyData) := [("any", .tuple [(.tuple [(.int 0), (.int 1), (.int 2), (.int 3), (.int 4)]), (.tuple [(.int 1), (.int 4), (.int 3), (.int 4), (.int 4)]), (.tuple [(.int 2), (.int 4), (.int 4), (.int 4), (.int 4)]), (.tuple [(.int 3), (.int 4), (.int 4), (.int 4), (.int 4)]), (.tuple [(.int 4), (.int 4), (.int 4), (.int 4), (.int 4)])]), ("even", .tuple [(.tuple [(.int 0), (.int 1), (.int 2)]), (.tuple [(.int 1), (.int 2), (.int 2)]), (.tuple [(.int 2), (.int 2), (.int 2)])]), ("first", .tuple [(.tuple [(.int 0), (.int 1), (.int 2)]), (.tuple [(.int 1), (.int 1), (.int 1)]), (.tuple [(.int 2), (.int 2), (.int 2)])]), ("last", .tuple [(.tuple [(.int 0), (.int 1), (.int 2)]), (.tuple [(.int 1), (.int 1), (.int 2)]), (.tuple [(.int 2), (.int 1), (.int 2)])]), ("sets", .tuple [(.tuple [(.int 0), (.int 1)]), (.tuple [(.int 1), (.int 1)])]), ("ends", .tuple [(.tuple [(.int 0), (.int 1), (.int 0), (.int 1)]), (.tuple [(.int 0), (.int 1), (.int 0), (.int 1)]), (.tuple [(.int 2), (.int 3), (.int 2), (.int 3)]), (.tuple [(.int 2), (.int 3), (.int 2), (.int 3)])])]
structure Txt (w : World) (K : PySem.W.Frag) (mg : Str → Option Value) (A : Ads) : Prop where
  f_is_whole : ∃ fd, Fun K "is_whole" "is_whole" s_is_whole A.a_is_whole fd ∧ Binds K fd ["value", "least", "most"] []
  g_is_whole : mg "is_whole" = some (.ref A.a_is_whole)
  f_is_row : ∃ fd, Fun K "is_row" "is_row" s_is_row A.a_is_row fd ∧ Binds K fd ["value", "least", "most"] []
  g_is_row : mg "is_row" = some (.ref A.a_is_row)
  f_run_through : ∃ fd, Fun K "run_through" "run_through" s_run_through A.a_run_through fd ∧ Binds K fd ["net", "worths", "joined"] []
  g_run_through : mg "run_through" = some (.ref A.a_run_through)
  f_are_wires : ∃ fd, Fun K "are_wires" "are_wires" s_are_wires A.a_are_wires fd ∧ Binds K fd ["values", "many"] []
  g_are_wires : mg "are_wires" = some (.ref A.a_are_wires)
  f_is_net : ∃ fd, Fun K "is_net" "is_net" s_is_net A.a_is_net fd ∧ Binds K fd ["value"] []
  g_is_net : mg "is_net" = some (.ref A.a_is_net)
  f_check_net : ∃ fd, Fun K "check_net" "check_net" s_check_net A.a_check_net fd ∧ Binds K fd ["net"] []
  g_check_net : mg "check_net" = some (.ref A.a_check_net)
  f_is_kind : ∃ fd, Fun K "is_kind" "is_kind" s_is_kind A.a_is_kind fd ∧ Binds K fd ["value"] []
  g_is_kind : mg "is_kind" = some (.ref A.a_is_kind)
  f_check_kind : ∃ fd, Fun K "check_kind" "check_kind" s_check_kind A.a_check_kind fd ∧ Binds K fd ["kind"] []
  g_check_kind : mg "check_kind" = some (.ref A.a_check_kind)
  f_end_worths : ∃ fd, Fun K "end_worths" "end_worths" s_end_worths A.a_end_worths fd ∧ Binds K fd ["net", "table", "worths"] []
  g_end_worths : mg "end_worths" = some (.ref A.a_end_worths)
  f_settling_table : ∃ fd, Fun K "settling_table" "settling_table" s_settling_table A.a_settling_table fd ∧ Binds K fd ["kind"] []
  g_settling_table : mg "settling_table" = some (.ref A.a_settling_table)
  f_check_digits : ∃ fd, Fun K "check_digits" "check_digits" s_check_digits A.a_check_digits fd ∧ Binds K fd ["net", "digits"] []
  g_check_digits : mg "check_digits" = some (.ref A.a_check_digits)
  f_check_running : ∃ fd, Fun K "check_running" "check_running" s_check_running A.a_check_running fd ∧ Binds K fd ["net"] []
  g_check_running : mg "check_running" = some (.ref A.a_check_running)
  f_deed_of : ∃ fd, Fun K "deed_of" "deed_of" s_deed_of A.a_deed_of fd ∧ Binds K fd ["here", "there"] []
  g_deed_of : mg "deed_of" = some (.ref A.a_deed_of)
  f_told_carries : ∃ fd, Fun K "told_carries" "told_carries" s_told_carries A.a_told_carries fd ∧ Binds K fd ["net", "one", "two"] []
  g_told_carries : mg "told_carries" = some (.ref A.a_told_carries)
  f_carries : ∃ fd, Fun K "carries" "carries" s_carries A.a_carries fd ∧ Binds K fd ["net", "one", "two"] []
  g_carries : mg "carries" = some (.ref A.a_carries)
  f_jar : ∃ fd, Fun K "_law_jar" "_law_jar" s_jar A.a_jar fd ∧ Binds K fd ["script", "turn"] []
  g_jar : mg "_law_jar" = some (.ref A.a_jar)
  f_draw : ∃ fd, Fun K "_law_draw" "_law_draw" s_draw A.a_draw fd ∧ Binds K fd ["jar", "top"] []
  g_draw : mg "_law_draw" = some (.ref A.a_draw)
  f_pick : ∃ fd, Fun K "_law_pick" "_law_pick" s_pick A.a_pick fd ∧ Binds K fd ["jar", "some"] []
  g_pick : mg "_law_pick" = some (.ref A.a_pick)
  f_words : ∃ fd, Fun K "_law_words" "_law_words" s_words A.a_words fd ∧ Binds K fd ["web"] []
  g_words : mg "_law_words" = some (.ref A.a_words)
  f_form : ∃ fd, Fun K "_law_form" "_law_form" s_form A.a_form fd ∧ Binds K fd ["word", "many", "sort"] []
  g_form : mg "_law_form" = some (.ref A.a_form)
  f_fits : ∃ fd, Fun K "_law_fits" "_law_fits" s_fits A.a_fits fd ∧ Binds K fd ["word", "many", "pair", "sort"] []
  g_fits : mg "_law_fits" = some (.ref A.a_fits)
  f_laid : ∃ fd, Fun K "_law_laid" "_law_laid" s_laid A.a_laid fd ∧ Binds K fd ["jar", "state", "low", "high"] []
  g_laid : mg "_law_laid" = some (.ref A.a_laid)
  f_web : ∃ fd, Fun K "_law_web" "_law_web" s_web A.a_web fd ∧ Binds K fd ["jar", "many", "pairs", "sort"] []
  g_web : mg "_law_web" = some (.ref A.a_web)
  f_bent : ∃ fd, Fun K "_law_bent" "_law_bent" s_bent A.a_bent fd ∧ Binds K fd ["jar", "web"] []
  g_bent : mg "_law_bent" = some (.ref A.a_bent)
  f_added : ∃ fd, Fun K "_law_added" "_law_added" s_added A.a_added fd ∧ Binds K fd ["first", "second"] []
  g_added : mg "_law_added" = some (.ref A.a_added)
  f_carried : ∃ fd, Fun K "_law_carried" "_law_carried" s_carried A.a_carried fd ∧ Binds K fd ["web", "first", "second"] []
  g_carried : mg "_law_carried" = some (.ref A.a_carried)
  f_runner : ∃ fd, Fun K "_law_runner" "_law_runner" s_runner A.a_runner fd ∧ Binds K fd ["jar", "most"] []
  g_runner : mg "_law_runner" = some (.ref A.a_runner)
  f_row : ∃ fd, Fun K "_law_row" "_law_row" s_row A.a_row fd ∧ Binds K fd ["jar", "many", "size"] []
  g_row : mg "_law_row" = some (.ref A.a_row)
  f_summands : ∃ fd, Fun K "_law_summands" "_law_summands" s_summands A.a_summands fd ∧ Binds K fd ["jar", "many"] []
  g_summands : mg "_law_summands" = some (.ref A.a_summands)
  f_right : ∃ fd, Fun K "_law_right" "_law_right" s_right A.a_right fd ∧ Binds K fd ["jar"] []
  g_right : mg "_law_right" = some (.ref A.a_right)
  f_law : ∃ fd, Fun K "law" "law" s_law A.a_law fd ∧ Binds K fd ["script"] []
  g_law : mg "law" = some (.ref A.a_law)
  c_MOST_PLACES : Con1 mg "MOST_PLACES" (.int 12)
  c_MOST_BOXES : Con1 mg "MOST_BOXES" (.int 60)
  c_MOST_ENDS : Con1 mg "MOST_ENDS" (.int 24)
  c_KEEP : Con1 mg "KEEP" (.int 0)
  c_MAKE : Con1 mg "MAKE" (.int 1)
  c_STOP : Con1 mg "STOP" (.int 2)
  c_KINDS : Con1 mg "KINDS" (.ref A.n_KINDS)
  q_KINDS : ∀ H : Hp, SqT K H A.n_KINDS [.str "any", .str "even", .int 2, .int 3, .int 4, .int 5, .int 6, .int 7, .int 8, .str "first", .str "last", .str "sets", .str "ends"]
  c_SETTLING : Con1 mg "SETTLING" (.ref A.n_SETTLING)
  q_SETTLING : KTab K w A.n_SETTLING dat_SETTLING
  t_are_wires : ∃ fd, At K A.a_are_wires fd ∧ fd.code = .ref A.c_are_wires
  t_end_worths : ∃ fd, At K A.a_end_worths fd ∧ fd.code = .ref A.c_end_worths
  k_carries_two_one_net : Kwb K A.a_carries ["net", "one", "two"] ["two", "one", "net"] (fun ws : List Value => [ws.getD 2 .none, ws.getD 1 .none, ws.getD 0 .none]) (fun ws : List V => [ws.getD 2 .non, ws.getD 1 .non, ws.getD 0 .non])
  z_len : mg "len" = none
  z_abs : mg "abs" = none
  z_repr : mg "repr" = none
  z_int : mg "int" = none
  z_tuple : mg "tuple" = none
  z_list : mg "list" = none
  z_type : mg "type" = none
  z_max : mg "max" = none
  z_min : mg "min" = none
  z_all : mg "all" = none
  z_range : mg "range" = none
  z_enumerate : mg "enumerate" = none
  z_zip : mg "zip" = none
  z_str : mg "str" = none
  z_divmod : mg "divmod" = none
def ct (A : Ads) : Ct := ⟨[A.p_are_wires], [(A.p_end_worths, "end_worths" ++ ".<locals>." ++ "<lambda>")]⟩
structure TabsB (base : Heap) (mg : Str → Option Value) (A : Ads) : Prop where
  b_are_wires : LamX.TabB base mg A.c_are_wires A.p_are_wires
  b_end_worths : LamX.TabB base mg A.c_end_worths A.p_end_worths
  ne : ∀ q ∈ (ct A).T, ∀ P ∈ (ct A).G, q.1 ≠ P
  nt : ∀ p ∈ (ct A).T, ∀ q ∈ (ct A).T, p.1 = q.1 → p = q
abbrev xF (P : Program) (w : World) (K : PySem.W.Frag) (mg : Str → Option Value) (base : Heap) (A : Ads) : Fx := ⟨P, w, K, mg, base, ct A⟩
section
variable {P : Program} {w : World} {K : PySem.W.Frag} {mg : Str → Option Value} {base : Heap} {A : Ads}
theorem w_is_whole (T : Txt w K mg A) : ∃ fd, WholeD K mg A.a_is_whole fd s_is_whole := by
  obtain ⟨fd, F, b⟩ := T.f_is_whole
  exact ⟨fd, F, sc_is_whole, b, T.z_type, T.z_int, rfl, rfl, rfl, rfl, rfl, ⟨_, _, _, _, _, _, _, _, _, _, _, rfl⟩⟩
def d_is_whole (A : Ads) : DS := (dRet (dAndV (dTyIs (dVar 0) "int") (dChain leW leW (dVar 1) (dVar 0) (dVar 2))))
abbrev S_is_whole (A : Ads) : TSpec := specOf 3 3 (d_is_whole A)
theorem ok_is_whole (T : Txt w K mg A) (B : TabsB base mg A) : Df P w K mg base CX0 1 "is_whole" A.a_is_whole ["value", "least", "most"] (spT (xF P w K mg base A) (S_is_whole A)) := by
  obtain ⟨fd, F, b⟩ := T.f_is_whole
  refine ⟨⟨fd, fnG_of F sc_is_whole spT_len fun cdv A0 outer s H vs Q E hcd hr h => ?_, b, At.of F⟩, F.kp, T.g_is_whole⟩
  refine ⟨_, PSs.nox (pss_one (ps_ret (pe_and (pe_cmpR op_isG (pe_callTy (call_typeK (K := K)) (by rfl) T.z_type (by decide +kernel) (pa_cons (pv 0) pa_nil)) (pe_bltn (v := .ty "int") (u := .type "int") rfl T.z_int (by decide +kernel) rfl) (nomark _)) (pe_one (pe_chain op_le op_le (pv 1) (pv 0) (pv 2)))))), ?_⟩
  refine def_run (x := xF P w K mg base A) (N := ["value", "least", "most"]) (np := 3) (ds := d_is_whole A) ?_ h
  unfold d_is_whole
  exact (ls_ret (le_andV (le_tyIs le_var) (le_chain o2_le o2_le le_var le_var le_var)))
def d_is_row (A : Ads) : DS := (dRet (dAndV (dTyIs (dVar 0) "tuple") (dChain leW leW (dVar 1) (dCB lenW (dCons (dVar 0) dNil)) (dVar 2))))
abbrev S_is_row (A : Ads) : TSpec := specOf 3 3 (d_is_row A)
theorem ok_is_row (T : Txt w K mg A) (B : TabsB base mg A) : Df P w K mg base CX0 1 "is_row" A.a_is_row ["value", "least", "most"] (spT (xF P w K mg base A) (S_is_row A)) := by
  obtain ⟨fd, F, b⟩ := T.f_is_row
  refine ⟨⟨fd, fnG_of F sc_is_row spT_len fun cdv A0 outer s H vs Q E hcd hr h => ?_, b, At.of F⟩, F.kp, T.g_is_row⟩
  refine ⟨_, PSs.nox (pss_one (ps_ret (pe_and (pe_cmpR op_isG (pe_callTy (call_typeK (K := K)) (by rfl) T.z_type (by decide +kernel) (pa_cons (pv 0) pa_nil)) (pe_bltn (v := .ty "tuple") (u := .type "tuple") rfl T.z_tuple (by decide +kernel) rfl) (nomark _)) (pe_one (pe_chain op_le op_le (pv 1) (pe_callB (call_lenK (K := K)) (by rfl) T.z_len PySem.boot_len (pa_cons (pv 0) pa_nil)) (pv 2)))))), ?_⟩
  refine def_run (x := xF P w K mg base A) (N := ["value", "least", "most"]) (np := 3) (ds := d_is_row A) ?_ h
  unfold d_is_row
  exact (ls_ret (le_andV (le_tyIs le_var) (le_chain o2_le o2_le le_var (le_cb on_len (la_cons le_var la_nil)) le_var)))
def d_run_through_b1 (A : Ads) : DS := (dDrop (dApp 3 (dCons (dFrz (dCalP 1 2 2 (dCons (dOp ixW (dVar 3) (dVar 4)) (dCons (dOp ixW (dVar 3) (dVar 5)) dNil)))) dNil)))
def d_run_through (A : Ads) : DS := (dSeq (dAsg (dCB listW (dCons (dVar 1) dNil)) (dgName 3))
    (dSeq (dFor (diSeq (dOp ixW (dVar 0) (dC (.int 1)))) (dgTup 2 (dgCons (dgName 4) (dgCons (dgName 5) dgNil))) (d_run_through_b1 A))
    (dRet (dMv (dVar 3)))))
abbrev S_run_through (A : Ads) : TSpec := specOf 3 6 (d_run_through A)
theorem ok_run_through (T : Txt w K mg A) (B : TabsB base mg A) : Df P w K mg base CX0 2 "run_through" A.a_run_through ["net", "worths", "joined"] (spT (xF P w K mg base A) (S_run_through A)) := by
  obtain ⟨fd, F, b⟩ := T.f_run_through
  refine ⟨⟨fd, fnG_of F sc_run_through spT_len fun cdv A0 outer s H vs Q E hcd hr h => ?_, b, At.of F⟩, F.kp, T.g_run_through⟩
  refine ⟨_, PSs.nox (pss_cons (ps_set (i := 3) sc_run_through.nd rfl (Or.inl rfl) (pe_callTy (call_listK (K := K)) (by rfl) T.z_list (by decide +kernel) (pa_cons (pv 1) pa_nil)))
        (pss_cons (ps_for PassesOwn.never rfl (pi_K (K := K) (pe_ix (ix_K (K := K)) (pv 0) pe_int (fun _ _ => rfl))) (pg_tup rfl (pgs_cons (pg_name (i := 4) sc_run_through.nd rfl (Or.inl rfl)) (pgs_cons (pg_name (i := 5) sc_run_through.nd rfl (Or.inl rfl)) pgs_nil)))
        (pss_one (ps_expr (pe_bm PySem.F.plainAttrs_list PySem.F.slot_list_append PySem.F.type_list_append mt_append (pv 3) (pa_cons (pe_cal (j := 1) (ar := 2) (i := 2) hr (by decide) rfl (Or.inl rfl) (pa_cons (pe_ix (ix_K (K := K)) (pv 3) (pv 4) (fun _ _ => rfl)) (pa_cons (pe_ix (ix_K (K := K)) (pv 3) (pv 5) (fun _ _ => rfl)) pa_nil))) pa_nil)))))
        (pss_one (ps_ret (pv 3))))), ?_⟩
  refine def_run (x := xF P w K mg base A) (N := ["net", "worths", "joined", "found", "ahead", "behind"]) (np := 3) (ds := d_run_through A) ?_ h
  unfold d_run_through
  exact (ls_seq (ls_asg (vs := [3]) (le_cb on_list (la_cons le_var la_nil)) (lg_name (by simp)))
        (ls_seq (ls_for (vs := [4, 5]) (li_seq (le_op o2_ix le_var le_int)) (lg_tup (lgs_cons (lg_name (by simp)) (lgs_cons (lg_name (by simp)) lgs_nil))) (ls_drop (le_app (la_cons (le_frz (le_cal (lap_cons (lep_ix lep_var lep_var) (lap_cons (lep_ix lep_var lep_var) lap_nil)) id)) la_nil))))
        (ls_ret (le_mv le_var))))
def d_are_wires (A : Ads) : DS := (dRet (dAllW (dVar 0) 1))
abbrev S_are_wires (A : Ads) : TSpec := specOf 2 2 (d_are_wires A)
theorem ok_are_wires (T : Txt w K mg A) (B : TabsB base mg A) : Df P w K mg base CX0 2 "are_wires" A.a_are_wires ["values", "many"] (spT (xF P w K mg base A) (S_are_wires A)) := by
  obtain ⟨fd, F, b⟩ := T.f_are_wires
  refine ⟨⟨fd, fnG_of F sc_are_wires spT_len fun cdv A0 outer s H vs Q E hcd hr h => ?_, b, At.of F⟩, F.kp, T.g_are_wires⟩
  have d_is_whole := ok_is_whole (P := P) (w := w) (base := base) T B
  obtain ⟨fdt, at1, ec⟩ := T.t_are_wires
  have hcode : cdv = .ref A.c_are_wires := by rw [← hcd fdt at1]; exact ec
  subst hcode
  have TBG : GxR.TabB base mg A.c_are_wires A.p_are_wires := ⟨B.b_are_wires.code, B.b_are_wires.bm, B.b_are_wires.gP⟩
  obtain ⟨fdw, WD⟩ := w_is_whole T
  refine ⟨_, PSs.nox (pss_one (ps_ret (pe_allT (W := wholeW K A.p_are_wires 1) hr.r (by rfl) T.z_all TBG rfl (genS_by (by decide +kernel)) (pv 0) (fun pins σ s1 H1 xs its q I rv h => elt_whole hr.r ⟨rfl, rfl, rfl, rfl, rfl, rfl, by decide, by decide, by decide, by decide⟩ WD T.g_is_whole pins σ s1 H1 xs its q I rv h) (fun _ => rfl)))), ?_⟩
  refine def_run (x := xF P w K mg base A) (N := ["values", "many"]) (np := 2) (ds := d_are_wires A) ?_ h
  unfold d_are_wires
  exact (ls_ret (le_allW le_var List.mem_cons_self fun q hq => B.ne q hq _ List.mem_cons_self))
def d_is_net_b1 (A : Ads) : DS := (dIfS (dOr (dNot (dTest (dCall (S_is_row A) (dCons (dVar 5) (dCons (dC (.int 2)) (dCons (dC (.int 2)) dNil)))))) (dNot (dTest (dCall (S_are_wires A) (dCons (dVar 5) (dCons (dFrz (dOp addW (dVar 1) (dVar 4))) dNil)))))) (dRet (dC (.bool false))) dNext)
def d_is_net (A : Ads) : DS := (dSeq (dIfS (dNot (dTest (dCall (S_is_row A) (dCons (dVar 0) (dCons (dC (.int 3)) (dCons (dC (.int 3)) dNil)))))) (dRet (dC (.bool false))) dNext)
    (dSeq (dAsg (dVar 0) (dgTup 3 (dgCons (dgName 1) (dgCons (dgName 2) (dgCons (dgName 3) dgNil)))))
    (dSeq (dIfS (dNot (dTest (dCall (S_is_whole A) (dCons (dFrz (dVar 1)) (dCons (dC (.int 1)) (dCons (dC (.int 12)) dNil)))))) (dRet (dC (.bool false))) dNext)
    (dSeq (dIfS (dOr (dNot (dTest (dCall (S_is_row A) (dCons (dFrz (dVar 2)) (dCons (dC (.int 0)) (dCons (dC (.int 60)) dNil)))))) (dNot (dTest (dCall (S_is_row A) (dCons (dFrz (dVar 3)) (dCons (dC (.int 1)) (dCons (dC (.int 24)) dNil))))))) (dRet (dC (.bool false))) dNext)
    (dSeq (dFor (diEnu (dFrz (dVar 2))) (dgTup 2 (dgCons (dgName 4) (dgCons (dgName 5) dgNil))) (d_is_net_b1 A))
    (dRet (dCall (S_are_wires A) (dCons (dFrz (dVar 3)) (dCons (dFrz (dOp addW (dVar 1) (dCB lenW (dCons (dVar 2) dNil)))) dNil)))))))))
abbrev S_is_net (A : Ads) : TSpec := specOf 1 6 (d_is_net A)
theorem ok_is_net (T : Txt w K mg A) (B : TabsB base mg A) : Df P w K mg base CX0 3 "is_net" A.a_is_net ["value"] (spT (xF P w K mg base A) (S_is_net A)) := by
  obtain ⟨fd, F, b⟩ := T.f_is_net
  refine ⟨⟨fd, fnG_of F sc_is_net spT_len fun cdv A0 outer s H vs Q E hcd hr h => ?_, b, At.of F⟩, F.kp, T.g_is_net⟩
  have d_are_wires := ok_are_wires (P := P) (w := w) (base := base) T B
  have d_is_row := ok_is_row (P := P) (w := w) (base := base) T B
  have d_is_whole := ok_is_whole (P := P) (w := w) (base := base) T B
  refine ⟨_, PSs.nox (pss_cons (ps_if (pt_not (pt_val (pe_df d_is_row hr (by decide) rfl pass0 (pa_cons (pv 0) (pa_cons pe_int (pa_cons pe_int pa_nil))))))
        (pss_one (ps_ret pe_bl))
        pss_nil)
        (pss_cons (ps_asg (pv 0) (pg_tup rfl (pgs_cons (pg_name (i := 1) sc_is_net.nd rfl (Or.inl rfl)) (pgs_cons (pg_name (i := 2) sc_is_net.nd rfl (Or.inl rfl)) (pgs_cons (pg_name (i := 3) sc_is_net.nd rfl (Or.inl rfl)) pgs_nil)))))
        (pss_cons (ps_if (pt_not (pt_val (pe_df d_is_whole hr (by decide) rfl pass0 (pa_cons (pv 1) (pa_cons pe_int (pa_cons (pe_gcon T.c_MOST_PLACES (by rfl)) pa_nil))))))
        (pss_one (ps_ret pe_bl))
        pss_nil)
        (pss_cons (ps_if (PW.pt (pw_or (pt_not (pt_val (pe_df d_is_row hr (by decide) rfl pass0 (pa_cons (pv 2) (pa_cons pe_int (pa_cons (pe_gcon T.c_MOST_BOXES (by rfl)) pa_nil)))))) (pw_or1 (pt_not (pt_val (pe_df d_is_row hr (by decide) rfl pass0 (pa_cons (pv 3) (pa_cons pe_int (pa_cons (pe_gcon T.c_MOST_ENDS (by rfl)) pa_nil)))))))))
        (pss_one (ps_ret pe_bl))
        pss_nil)
        (pss_cons (ps_for PassesOwn.never rfl (pi_enK (K := K) (by rfl) T.z_enumerate (pv 2)) (pg_tup rfl (pgs_cons (pg_name (i := 4) sc_is_net.nd rfl (Or.inl rfl)) (pgs_cons (pg_name (i := 5) sc_is_net.nd rfl (Or.inl rfl)) pgs_nil)))
        (pss_one (ps_if (PW.pt (pw_or (pt_not (pt_val (pe_df d_is_row hr (by decide) rfl pass0 (pa_cons (pv 5) (pa_cons pe_int (pa_cons pe_int pa_nil)))))) (pw_or1 (pt_not (pt_val (pe_df d_are_wires hr (by decide) rfl pass0 (pa_cons (pv 5) (pa_cons (pe_op (op_addK (K := K)) (pv 1) (pv 4)) pa_nil))))))))
          (pss_one (ps_ret pe_bl))
          pss_nil)))
        (pss_one (ps_ret (pe_df d_are_wires hr (by decide) rfl pass0 (pa_cons (pv 3) (pa_cons (pe_op (op_addK (K := K)) (pv 1) (pe_callB (call_lenK (K := K)) (by rfl) T.z_len PySem.boot_len (pa_cons (pv 2) pa_nil))) pa_nil)))))))))), ?_⟩
  refine def_run (x := xF P w K mg base A) (N := ["value", "places", "boxes", "ends", "index", "box"]) (np := 1) (ds := d_is_net A) ?_ h
  unfold d_is_net
  exact (ls_seq (ls_if (lt_not (lt_b (le_call (x := xF P w K mg base A) (S := S_is_row A) (la_cons le_var (la_cons le_int (la_cons le_int la_nil)))))) (ls_ret le_bl) ls_next)
        (ls_seq (ls_asg (vs := [1, 2, 3]) le_var (lg_tup (lgs_cons (lg_name (by simp)) (lgs_cons (lg_name (by simp)) (lgs_cons (lg_name (by simp)) lgs_nil)))))
        (ls_seq (ls_if (lt_not (lt_b (le_call (x := xF P w K mg base A) (S := S_is_whole A) (la_cons (le_frz le_var) (la_cons le_int (la_cons le_int la_nil)))))) (ls_ret le_bl) ls_next)
        (ls_seq (ls_if (lt_or (lt_not (lt_b (le_call (x := xF P w K mg base A) (S := S_is_row A) (la_cons (le_frz le_var) (la_cons le_int (la_cons le_int la_nil)))))) (lt_not (lt_b (le_call (x := xF P w K mg base A) (S := S_is_row A) (la_cons (le_frz le_var) (la_cons le_int (la_cons le_int la_nil))))))) (ls_ret le_bl) ls_next)
        (ls_seq (ls_for (vs := [4, 5]) (li_enuT (le_frz le_var)) (lg_tup (lgs_cons (lg_name (by simp)) (lgs_cons (lg_name (by simp)) lgs_nil))) (ls_if (lt_or (lt_not (lt_b (le_call (x := xF P w K mg base A) (S := S_is_row A) (la_cons le_var (la_cons le_int (la_cons le_int la_nil)))))) (lt_not (lt_b (le_call (x := xF P w K mg base A) (S := S_are_wires A) (la_cons le_var (la_cons (le_frz (le_op o2_add le_var le_var)) la_nil)))))) (ls_ret le_bl) ls_next))
        (ls_ret (le_call (x := xF P w K mg base A) (S := S_are_wires A) (la_cons (le_frz le_var) (la_cons (le_frz (le_op o2_add le_var (le_cb on_len (la_cons le_var la_nil)))) la_nil)))))))))
def d_check_net (A : Ads) : DS := (dIfS (dNot (dTest (dCall (S_is_net A) (dCons (dVar 0) dNil)))) dNever dNext)
abbrev S_check_net (A : Ads) : TSpec := specOf 1 1 (d_check_net A)
theorem ok_check_net (T : Txt w K mg A) (B : TabsB base mg A) : Df P w K mg base CX0 4 "check_net" A.a_check_net ["net"] (spT (xF P w K mg base A) (S_check_net A)) := by
  obtain ⟨fd, F, b⟩ := T.f_check_net
  refine ⟨⟨fd, fnG_of F sc_check_net spT_len fun cdv A0 outer s H vs Q E hcd hr h => ?_, b, At.of F⟩, F.kp, T.g_check_net⟩
  have d_is_net := ok_is_net (P := P) (w := w) (base := base) T B
  refine ⟨_, PSs.nox (pss_one (ps_if (pt_not (pt_val (pe_df d_is_net hr (by decide) rfl pass0 (pa_cons (pv 0) pa_nil))))
        (pss_one ps_never)
        pss_nil)), ?_⟩
  refine def_run (x := xF P w K mg base A) (N := ["net"]) (np := 1) (ds := d_check_net A) ?_ h
  unfold d_check_net
  exact (ls_if (lt_not (lt_b (le_call (x := xF P w K mg base A) (S := S_is_net A) (la_cons le_var la_nil)))) ls_never ls_next)
def d_is_kind (A : Ads) : DS := (dRet (dAndV (dTyIn (dVar 0) ["int", "str"]) (dOp (inW false) (dVar 0) (dC (.tuple [.str "any", .str "even", .int 2, .int 3, .int 4, .int 5, .int 6, .int 7, .int 8, .str "first", .str "last", .str "sets", .str "ends"])))))
abbrev S_is_kind (A : Ads) : TSpec := specOf 1 1 (d_is_kind A)
theorem ok_is_kind (T : Txt w K mg A) (B : TabsB base mg A) : Df P w K mg base CX0 1 "is_kind" A.a_is_kind ["value"] (spT (xF P w K mg base A) (S_is_kind A)) := by
  obtain ⟨fd, F, b⟩ := T.f_is_kind
  refine ⟨⟨fd, fnG_of F sc_is_kind spT_len fun cdv A0 outer s H vs Q E hcd hr h => ?_, b, At.of F⟩, F.kp, T.g_is_kind⟩
  refine ⟨_, PSs.nox (pss_one (ps_ret (pe_and (pe_cmpR (op_inTyK (K := K)) (pe_callTy (call_typeK (K := K)) (by rfl) T.z_type (by decide +kernel) (pa_cons (pv 0) pa_nil)) (pe_tup (pa_cons (pe_bltn (v := .ty "int") (u := .type "int") rfl T.z_int (by decide +kernel) rfl) (pa_cons (pe_bltn (v := .ty "str") (u := .type "str") rfl T.z_str (by decide +kernel) rfl) pa_nil))) (by rfl)) (pe_one (pe_cmpR (op_inK (K := K)) (pv 0) (pe_gcon T.c_KINDS (by rfl)) (by rfl)))))), ?_⟩
  refine def_run (x := xF P w K mg base A) (N := ["value"]) (np := 1) (ds := d_is_kind A) ?_ h
  unfold d_is_kind
  exact (ls_ret (le_andV (le_tyIn2 le_var) (le_op o2_in le_var (le_kt T.q_KINDS fun _ _ => (.cons (.str _) (.cons (.str _) (.cons (.int _) (.cons (.int _) (.cons (.int _) (.cons (.int _) (.cons (.int _) (.cons (.int _) (.cons (.int _) (.cons (.str _) (.cons (.str _) (.cons (.str _) (.cons (.str _) .nil)))))))))))))))))
def d_check_kind (A : Ads) : DS := (dIfS (dNot (dTest (dCall (S_is_kind A) (dCons (dVar 0) dNil)))) dNever dNext)
abbrev S_check_kind (A : Ads) : TSpec := specOf 1 1 (d_check_kind A)
theorem ok_check_kind (T : Txt w K mg A) (B : TabsB base mg A) : Df P w K mg base CX0 2 "check_kind" A.a_check_kind ["kind"] (spT (xF P w K mg base A) (S_check_kind A)) := by
  obtain ⟨fd, F, b⟩ := T.f_check_kind
  refine ⟨⟨fd, fnG_of F sc_check_kind spT_len fun cdv A0 outer s H vs Q E hcd hr h => ?_, b, At.of F⟩, F.kp, T.g_check_kind⟩
  have d_is_kind := ok_is_kind (P := P) (w := w) (base := base) T B
  refine ⟨_, PSs.nox (pss_one (ps_if (pt_not (pt_val (pe_df d_is_kind hr (by decide) rfl pass0 (pa_cons (pv 0) pa_nil))))
        (pss_one ps_never)
        pss_nil)), ?_⟩
  refine def_run (x := xF P w K mg base A) (N := ["kind"]) (np := 1) (ds := d_check_kind A) ?_ h
  unfold d_check_kind
  exact (ls_if (lt_not (lt_b (le_call (x := xF P w K mg base A) (S := S_is_kind A) (la_cons le_var la_nil)))) ls_never ls_next)
def d_end_worths (A : Ads) : DS := (dSeq (dAsg (dFrz (dCallC (S_run_through A) 1 1 2 (dVar 0) (dVar 2) (fun dt => lamC 2 3 dt (dOp ixW (dOp ixW (dVar 2) (dVar 0)) (dVar 1))))) (dgName 3))
    (dRet (dCB tupleW (dCons (dLc (diSeq (dOp ixW (dVar 0) (dC (.int 2)))) (dgName 4) dYes (dOp ixW (dVar 3) (dVar 4)) [4]) dNil))))
abbrev S_end_worths (A : Ads) : TSpec := specOf 3 5 (d_end_worths A)
theorem ok_end_worths (T : Txt w K mg A) (B : TabsB base mg A) : Df P w K mg base CX0 3 "end_worths" A.a_end_worths ["net", "table", "worths"] (spT (xF P w K mg base A) (S_end_worths A)) := by
  obtain ⟨fd, F, b⟩ := T.f_end_worths
  refine ⟨⟨fd, fnG_of F sc_end_worths spT_len fun cdv A0 outer s H vs Q E hcd hr h => ?_, b, At.of F⟩, F.kp, T.g_end_worths⟩
  have d_run_through := ok_run_through (P := P) (w := w) (base := base) T B
  obtain ⟨fdt, at1, ec⟩ := T.t_end_worths
  have hcode : cdv = .ref A.c_end_worths := by rw [← hcd fdt at1]; exact ec
  subst hcode
  have TBL := B.b_end_worths
  refine ⟨_, PSs.nox (pss_cons (ps_set (i := 3) sc_end_worths.nd rfl (Or.inr rfl) (pe_dfC (i := 1) (nm := "table") d_run_through hr (by decide) rfl (pa_cons (pv 0) (pa_cons (pv 2) (pa_cons (pe_lamC TBL rfl rfl (NdefX.ndef_free (sc := defScope s_end_worths) (fr := ["table"]) (by decide +kernel))) pa_nil))) rfl rfl rfl))
        (pss_one (ps_ret (pe_callTy (call_tupleK (K := K)) (by rfl) T.z_tuple (by decide +kernel) (pa_cons (pe_lc (own := [("end", 4)]) (g := gName 4) (tt := tYes) rfl sc_end_worths.nd (pi_K (K := K) (pe_ix (ix_K (K := K)) (pv 0) pe_int (fun _ _ => rfl))) (blkOk_by (own := [("end", 4)]) (N := ["net", "table", "worths", "found", "end"]) (sc := defScope s_end_worths) (by decide +kernel)) (fun _ _ _ _ _ => pg_name (i := 4) sc_end_worths.nd rfl (Or.inl rfl)) (fun _ _ _ _ _ => pts_nil) (fun _ _ _ _ _ => (pe_ix (ix_K (K := K)) (pv 3) (pv 4) (fun _ _ => rfl)))) pa_nil))))), ?_⟩
  refine def_run (x := xF P w K mg base A) (N := ["net", "table", "worths", "found", "end"]) (np := 3) (ds := d_end_worths A) ?_ h
  unfold d_end_worths
  exact (ls_seq (ls_asg (vs := [3]) (le_frz (le_callC2 (x := xF P w K mg base A) (S := S_run_through A) (nm := "table") (i := 1) (k := 0) (N := ["ahead", "behind", "table"]) (ps := ["ahead", "behind"]) le_var le_var (by simp [ct] : (A.p_end_worths, ("end_worths" ++ ".<locals>." ++ "<lambda>" : Str)) ∈ (ct A).T) (fun p hp e => by rw [B.nt p hp _ (by simp [ct] : (A.p_end_worths, ("end_worths" ++ ".<locals>." ++ "<lambda>" : Str)) ∈ (ct A).T) e] <;> rfl) (fun R hR z => B.ne _ (by simp [ct] : (A.p_end_worths, ("end_worths" ++ ".<locals>." ++ "<lambda>" : Str)) ∈ (ct A).T) R hR z.symm) (NdefX.nscope_by (by decide +kernel)) (fun _ _ _ _ us hl => match us, hl with | [_, _], _ => rfl) fun _ _ _ _ _ _ _ _ hr => ⟨_, (pe_ix (ix_K (K := K)) (pe_ix (ix_K (K := K)) (pv 2) (pv 0) (fun _ _ => rfl)) (pv 1) (fun _ _ => rfl)), (le_op o2_ix (le_op o2_ix le_var le_var) le_var)⟩)) (lg_name (by simp)))
        (ls_ret (le_cb on_tuple (la_cons (le_lc (vs := [4]) (li_seq (le_op o2_ix le_var le_int)) (lg_name (by simp)) lt_yes (le_op o2_ix le_var le_var)) la_nil))))
def d_settling_table (A : Ads) : DS := (dSeq (dDrop (dCall (S_check_kind A) (dCons (dVar 0) dNil)))
    (dSeq (dIfS (dTest (dInKD dat_SETTLING (dVar 0))) (dRet (dIxKD dat_SETTLING (dVar 0))) dNext)
    (dRet (dCB tupleW (dCons (dLc (diRng1 (dCons (dVar 0) dNil)) (dgName 1) dYes (dCB tupleW (dCons (dLc (diRng1 (dCons (dVar 0) dNil)) (dgName 2) dYes (dOp modW (dOp addW (dVar 1) (dVar 2)) (dVar 0)) [2]) dNil)) [1]) dNil)))))
abbrev S_settling_table (A : Ads) : TSpec := specOf 1 3 (d_settling_table A)
theorem ok_settling_table (T : Txt w K mg A) (B : TabsB base mg A) : Df P w K mg base CX0 3 "settling_table" A.a_settling_table ["kind"] (spT (xF P w K mg base A) (S_settling_table A)) := by
  obtain ⟨fd, F, b⟩ := T.f_settling_table
  refine ⟨⟨fd, fnG_of F sc_settling_table spT_len fun cdv A0 outer s H vs Q E hcd hr h => ?_, b, At.of F⟩, F.kp, T.g_settling_table⟩
  have d_check_kind := ok_check_kind (P := P) (w := w) (base := base) T B
  refine ⟨_, PSs.nox (pss_cons (ps_expr (pe_df d_check_kind hr (by decide) rfl pass0 (pa_cons (pv 0) pa_nil)))
        (pss_cons (ps_if (pt_cmpR (op_inKD T.q_SETTLING) (pv 0) (pe_gcon T.c_SETTLING (by rfl)) (by rfl))
        (pss_one (ps_ret (pe_ix (ix_KD T.q_SETTLING) (pe_gcon T.c_SETTLING (by rfl)) (pv 0) (fun _ _ => rfl))))
        pss_nil)
        (pss_one (ps_ret (pe_callTy (call_tupleK (K := K)) (by rfl) T.z_tuple (by decide +kernel) (pa_cons (pe_lc (own := [("x", 1)]) (g := gName 1) (tt := tYes) rfl sc_settling_table.nd (pi_range1 (by rfl) T.z_range (pa_cons (pv 0) pa_nil)) (blkOk_by (own := [("x", 1)]) (N := ["kind", "x", "y"]) (sc := defScope s_settling_table) (by decide +kernel)) (fun _ _ _ _ _ => pg_name (i := 1) sc_settling_table.nd rfl (Or.inr rfl)) (fun _ _ _ _ _ => pts_nil) (fun _ _ _ _ _ => (pe_callTy (call_tupleK (K := K)) (by rfl) T.z_tuple (by decide +kernel) (pa_cons (pe_lc (own := [("y", 2)]) (g := gName 2) (tt := tYes) rfl sc_settling_table.nd (pi_range1 (by rfl) T.z_range (pa_cons (pv 0) pa_nil)) (blkOk_by (own := [("y", 2)]) (N := ["kind", "x", "y"]) (sc := ({ kind := .function, names := [(".0", .local), ("x", .cell), ("tuple", .globalImplicit), ("range", .globalImplicit), ("kind", .cell)], isGenerator := false, isCoroutine := false } : Scope)) (by decide +kernel)) (fun _ _ _ _ _ => pg_name (i := 2) sc_settling_table.nd rfl (Or.inl rfl)) (fun _ _ _ _ _ => pts_nil) (fun _ _ _ _ _ => (pe_op op_mod (pe_op (op_addK (K := K)) (pv 1) (pv 2)) (pv 0)))) pa_nil)))) pa_nil)))))), ?_⟩
  refine def_run (x := xF P w K mg base A) (N := ["kind", "x", "y"]) (np := 1) (ds := d_settling_table A) ?_ h
  unfold d_settling_table
  exact (ls_seq (ls_drop (le_call (x := xF P w K mg base A) (S := S_check_kind A) (la_cons le_var la_nil)))
        (ls_seq (ls_if (lt_test (le_inKD le_var)) (ls_ret (le_ixKD le_var)) ls_next)
        (ls_ret (le_cb on_tuple (la_cons (le_lc (vs := [1]) (li_rng1 (la_cons le_var la_nil)) (lg_name (by simp)) lt_yes (le_cb on_tuple (la_cons (le_lc (vs := [2]) (li_rng1 (la_cons le_var la_nil)) (lg_name (by simp)) lt_yes (le_op o2_mod (le_op o2_add le_var le_var) le_var)) la_nil))) la_nil)))))
def d_check_digits_b1 (A : Ads) : DS := (dIfS (dNot (dTest (dCall (S_is_whole A) (dCons (dVar 3) (dCons (dC (.int 0)) (dCons (dC (.int 1)) dNil)))))) dNever dNext)
def d_check_digits (A : Ads) : DS := (dSeq (dIfS (dNot (dTest (dCall (S_is_row A) (dCons (dVar 1) (dCons (dOp ixW (dVar 0) (dC (.int 0))) (dCons (dOp ixW (dVar 0) (dC (.int 0))) dNil)))))) dNever dNext)
    (dFor (diEnu (dVar 1)) (dgTup 2 (dgCons (dgName 2) (dgCons (dgName 3) dgNil))) (d_check_digits_b1 A)))
abbrev S_check_digits (A : Ads) : TSpec := specOf 2 4 (d_check_digits A)
theorem ok_check_digits (T : Txt w K mg A) (B : TabsB base mg A) : Df P w K mg base CX0 2 "check_digits" A.a_check_digits ["net", "digits"] (spT (xF P w K mg base A) (S_check_digits A)) := by
  obtain ⟨fd, F, b⟩ := T.f_check_digits
  refine ⟨⟨fd, fnG_of F sc_check_digits spT_len fun cdv A0 outer s H vs Q E hcd hr h => ?_, b, At.of F⟩, F.kp, T.g_check_digits⟩
  have d_is_row := ok_is_row (P := P) (w := w) (base := base) T B
  have d_is_whole := ok_is_whole (P := P) (w := w) (base := base) T B
  refine ⟨_, PSs.nox (pss_cons (ps_if (pt_not (pt_val (pe_df d_is_row hr (by decide) rfl pass0 (pa_cons (pv 1) (pa_cons (pe_ix (ix_K (K := K)) (pv 0) pe_int (fun _ _ => rfl)) (pa_cons (pe_ix (ix_K (K := K)) (pv 0) pe_int (fun _ _ => rfl)) pa_nil))))))
        (pss_one ps_never)
        pss_nil)
        (pss_one (ps_for PassesOwn.never rfl (pi_enK (K := K) (by rfl) T.z_enumerate (pv 1)) (pg_tup rfl (pgs_cons (pg_name (i := 2) sc_check_digits.nd rfl (Or.inl rfl)) (pgs_cons (pg_name (i := 3) sc_check_digits.nd rfl (Or.inl rfl)) pgs_nil)))
        (pss_one (ps_if (pt_not (pt_val (pe_df d_is_whole hr (by decide) rfl pass0 (pa_cons (pv 3) (pa_cons pe_int (pa_cons pe_int pa_nil))))))
          (pss_one ps_never)
          pss_nil))))), ?_⟩
  refine def_run (x := xF P w K mg base A) (N := ["net", "digits", "index", "digit"]) (np := 2) (ds := d_check_digits A) ?_ h
  unfold d_check_digits
  exact (ls_seq (ls_if (lt_not (lt_b (le_call (x := xF P w K mg base A) (S := S_is_row A) (la_cons le_var (la_cons (le_op o2_ix le_var le_int) (la_cons (le_op o2_ix le_var le_int) la_nil)))))) ls_never ls_next)
        (ls_for (vs := [2, 3]) (li_enuT le_var) (lg_tup (lgs_cons (lg_name (by simp)) (lgs_cons (lg_name (by simp)) lgs_nil))) (ls_if (lt_not (lt_b (le_call (x := xF P w K mg base A) (S := S_is_whole A) (la_cons le_var (la_cons le_int (la_cons le_int la_nil)))))) ls_never ls_next)))
def d_check_running (A : Ads) : DS := (dIfS (dTest (dOp neW (dCB lenW (dCons (dOp ixW (dVar 0) (dC (.int 2))) dNil)) (dOp ixW (dVar 0) (dC (.int 0))))) dNever dNext)
abbrev S_check_running (A : Ads) : TSpec := specOf 1 1 (d_check_running A)
theorem ok_check_running (T : Txt w K mg A) (B : TabsB base mg A) : Df P w K mg base CX0 1 "check_running" A.a_check_running ["net"] (spT (xF P w K mg base A) (S_check_running A)) := by
  obtain ⟨fd, F, b⟩ := T.f_check_running
  refine ⟨⟨fd, fnG_of F sc_check_running spT_len fun cdv A0 outer s H vs Q E hcd hr h => ?_, b, At.of F⟩, F.kp, T.g_check_running⟩
  refine ⟨_, PSs.nox (pss_one (ps_if (pt_cmpR (op_neK (K := K) hr) (pe_callB (call_lenK (K := K)) (by rfl) T.z_len PySem.boot_len (pa_cons (pe_ix (ix_K (K := K)) (pv 0) pe_int (fun _ _ => rfl)) pa_nil)) (pe_ix (ix_K (K := K)) (pv 0) pe_int (fun _ _ => rfl)) (nomark _))
        (pss_one ps_never)
        pss_nil)), ?_⟩
  refine def_run (x := xF P w K mg base A) (N := ["net"]) (np := 1) (ds := d_check_running A) ?_ h
  unfold d_check_running
  exact (ls_if (lt_test (le_op o2_ne (le_cb on_len (la_cons (le_op o2_ix le_var le_int) la_nil)) (le_op o2_ix le_var le_int))) ls_never ls_next)
def d_deed_of (A : Ads) : DS := (dSeq (dIfS (dTest (dOp neW (dVar 0) (dVar 1))) (dRet (dC (.int 0))) dNext)
    (dRet (dIf (dTest (dOp eqW (dVar 0) (dC (.int 1)))) (dC (.int 1)) (dC (.int 2)))))
abbrev S_deed_of (A : Ads) : TSpec := specOf 2 2 (d_deed_of A)
theorem ok_deed_of (T : Txt w K mg A) (B : TabsB base mg A) : Df P w K mg base CX0 1 "deed_of" A.a_deed_of ["here", "there"] (spT (xF P w K mg base A) (S_deed_of A)) := by
  obtain ⟨fd, F, b⟩ := T.f_deed_of
  refine ⟨⟨fd, fnG_of F sc_deed_of spT_len fun cdv A0 outer s H vs Q E hcd hr h => ?_, b, At.of F⟩, F.kp, T.g_deed_of⟩
  refine ⟨_, PSs.nox (pss_cons (ps_if (pt_cmpR (op_neK (K := K) hr) (pv 0) (pv 1) (nomark _))
        (pss_one (ps_ret (pe_gcon T.c_KEEP (by rfl))))
        pss_nil)
        (pss_one (ps_ret (pe_ifExp (pt_cmpR (op_eqK (K := K) hr) (pv 0) pe_int (nomark _)) (pe_gcon T.c_MAKE (by rfl)) (pe_gcon T.c_STOP (by rfl)))))), ?_⟩
  refine def_run (x := xF P w K mg base A) (N := ["here", "there"]) (np := 2) (ds := d_deed_of A) ?_ h
  unfold d_deed_of
  exact (ls_seq (ls_if (lt_test (le_op o2_ne le_var le_var)) (ls_ret le_int) ls_next)
        (ls_ret (le_if (lt_test (le_op o2_eq le_var le_int)) le_int le_int)))
def d_told_carries (A : Ads) : DS := (dSeq (dAsg (dFrz (dLc (diZip (dCons (dVar 1) (dCons (dVar 2) dNil))) (dgTup 2 (dgCons (dgName 4) (dgCons (dgName 5) dgNil))) dYes (dFrz (dCall (S_deed_of A) (dCons (dVar 4) (dCons (dVar 5) dNil)))) [4, 5])) (dgName 3))
    (dRet (dCB tupleW (dCons (dLc (diSeq (dFrz (dCall (S_end_worths A) (dCons (dVar 0) (dCons (dFrz (dCall (S_settling_table A) (dCons (dC (.str "last")) dNil))) (dCons (dVar 3) dNil)))))) (dgName 6) dYes (dCB intW (dCons (dOp eqW (dVar 6) (dC (.int 1))) dNil)) [6]) dNil))))
abbrev S_told_carries (A : Ads) : TSpec := specOf 3 7 (d_told_carries A)
theorem ok_told_carries (T : Txt w K mg A) (B : TabsB base mg A) : Df P w K mg base CX0 4 "told_carries" A.a_told_carries ["net", "one", "two"] (spT (xF P w K mg base A) (S_told_carries A)) := by
  obtain ⟨fd, F, b⟩ := T.f_told_carries
  refine ⟨⟨fd, fnG_of F sc_told_carries spT_len fun cdv A0 outer s H vs Q E hcd hr h => ?_, b, At.of F⟩, F.kp, T.g_told_carries⟩
  have d_deed_of := ok_deed_of (P := P) (w := w) (base := base) T B
  have d_end_worths := ok_end_worths (P := P) (w := w) (base := base) T B
  have d_settling_table := ok_settling_table (P := P) (w := w) (base := base) T B
  refine ⟨_, PSs.nox (pss_cons (ps_setLc (i := 3) (own := [("here", 4), ("there", 5)]) (g := (gTup K 2 (gCons (gName 4) (gCons (gName 5) gNil)))) (tt := tYes) rfl sc_told_carries.nd rfl rfl (sw_true rfl rfl rfl (by decide +kernel)) (pi_zipAK (K := K) (by rfl) T.z_zip (pa_cons (pv 1) (pa_cons (pv 2) pa_nil))) (blkOk_by (own := [("here", 4), ("there", 5)]) (N := ["net", "one", "two", "deeds", "here", "there", "deed"]) (sc := defScope s_told_carries) (by decide +kernel)) (fun _ _ _ _ _ => (pg_tup rfl (pgs_cons (pg_name (i := 4) sc_told_carries.nd rfl (Or.inl rfl)) (pgs_cons (pg_name (i := 5) sc_told_carries.nd rfl (Or.inl rfl)) pgs_nil)))) (fun _ _ _ _ _ => pts_nil) (fun _ _ _ _ _ => (pe_df d_deed_of hr (by decide) rfl pass0 (pa_cons (pv 4) (pa_cons (pv 5) pa_nil)))))
        (pss_one (ps_ret (pe_callTy (call_tupleK (K := K)) (by rfl) T.z_tuple (by decide +kernel) (pa_cons (pe_lc (own := [("deed", 6)]) (g := gName 6) (tt := tYes) rfl sc_told_carries.nd (pi_K (K := K) (pe_df d_end_worths hr (by decide) rfl pass0 (pa_cons (pv 0) (pa_cons (pe_df d_settling_table hr (by decide) rfl pass0 (pa_cons pe_str pa_nil)) (pa_cons (pv 3) pa_nil))))) (blkOk_by (own := [("deed", 6)]) (N := ["net", "one", "two", "deeds", "here", "there", "deed"]) (sc := defScope s_told_carries) (by decide +kernel)) (fun _ _ _ _ _ => pg_name (i := 6) sc_told_carries.nd rfl (Or.inl rfl)) (fun _ _ _ _ _ => pts_nil) (fun _ _ _ _ _ => (pe_callTy call_int1 (by rfl) T.z_int (by decide +kernel) (pa_cons (pe_cmpR (op_eqK (K := K) hr) (pv 6) (pe_gcon T.c_MAKE (by rfl)) (nomark _)) pa_nil)))) pa_nil))))), ?_⟩
  refine def_run (x := xF P w K mg base A) (N := ["net", "one", "two", "deeds", "here", "there", "deed"]) (np := 3) (ds := d_told_carries A) ?_ h
  unfold d_told_carries
  exact (ls_seq (ls_asg (vs := [3]) (le_frz (le_lc (vs := [4, 5]) (li_zip (la_cons le_var (la_cons le_var la_nil))) (lg_tup (lgs_cons (lg_name (by simp)) (lgs_cons (lg_name (by simp)) lgs_nil))) lt_yes (le_frz (le_call (x := xF P w K mg base A) (S := S_deed_of A) (la_cons le_var (la_cons le_var la_nil)))))) (lg_name (by simp)))
        (ls_ret (le_cb on_tuple (la_cons (le_lc (vs := [6]) (li_seq (le_frz (le_call (x := xF P w K mg base A) (S := S_end_worths A) (la_cons le_var (la_cons (le_frz (le_call (x := xF P w K mg base A) (S := S_settling_table A) (la_cons le_str la_nil))) (la_cons le_var la_nil)))))) (lg_name (by simp)) lt_yes (le_cb on_int (la_cons (le_op o2_eq le_var le_int) la_nil))) la_nil))))
def d_carries (A : Ads) : DS := (dSeq (dDrop (dCall (S_check_net A) (dCons (dVar 0) dNil)))
    (dSeq (dDrop (dCall (S_check_digits A) (dCons (dVar 0) (dCons (dVar 1) dNil))))
    (dSeq (dDrop (dCall (S_check_digits A) (dCons (dVar 0) (dCons (dVar 2) dNil))))
    (dSeq (dDrop (dCall (S_check_running A) (dCons (dVar 0) dNil)))
    (dRet (dCall (S_told_carries A) (dCons (dVar 0) (dCons (dVar 1) (dCons (dVar 2) dNil)))))))))
abbrev S_carries (A : Ads) : TSpec := specOf 3 3 (d_carries A)
theorem ok_carries (T : Txt w K mg A) (B : TabsB base mg A) : Df P w K mg base CX0 5 "carries" A.a_carries ["net", "one", "two"] (spT (xF P w K mg base A) (S_carries A)) := by
  obtain ⟨fd, F, b⟩ := T.f_carries
  refine ⟨⟨fd, fnG_of F sc_carries spT_len fun cdv A0 outer s H vs Q E hcd hr h => ?_, b, At.of F⟩, F.kp, T.g_carries⟩
  have d_check_digits := ok_check_digits (P := P) (w := w) (base := base) T B
  have d_check_net := ok_check_net (P := P) (w := w) (base := base) T B
  have d_check_running := ok_check_running (P := P) (w := w) (base := base) T B
  have d_told_carries := ok_told_carries (P := P) (w := w) (base := base) T B
  refine ⟨_, PSs.nox (pss_cons (ps_expr (pe_df d_check_net hr (by decide) rfl pass0 (pa_cons (pv 0) pa_nil)))
        (pss_cons (ps_expr (pe_df d_check_digits hr (by decide) rfl pass0 (pa_cons (pv 0) (pa_cons (pv 1) pa_nil))))
        (pss_cons (ps_expr (pe_df d_check_digits hr (by decide) rfl pass0 (pa_cons (pv 0) (pa_cons (pv 2) pa_nil))))
        (pss_cons (ps_expr (pe_df d_check_running hr (by decide) rfl pass0 (pa_cons (pv 0) pa_nil)))
        (pss_one (ps_ret (pe_df d_told_carries hr (by decide) rfl pass0 (pa_cons (pv 0) (pa_cons (pv 1) (pa_cons (pv 2) pa_nil)))))))))), ?_⟩
  refine def_run (x := xF P w K mg base A) (N := ["net", "one", "two"]) (np := 3) (ds := d_carries A) ?_ h
  unfold d_carries
  exact (ls_seq (ls_drop (le_call (x := xF P w K mg base A) (S := S_check_net A) (la_cons le_var la_nil)))
        (ls_seq (ls_drop (le_call (x := xF P w K mg base A) (S := S_check_digits A) (la_cons le_var (la_cons le_var la_nil))))
        (ls_seq (ls_drop (le_call (x := xF P w K mg base A) (S := S_check_digits A) (la_cons le_var (la_cons le_var la_nil))))
        (ls_seq (ls_drop (le_call (x := xF P w K mg base A) (S := S_check_running A) (la_cons le_var la_nil)))
        (ls_ret (le_call (x := xF P w K mg base A) (S := S_told_carries A) (la_cons le_var (la_cons le_var (la_cons le_var la_nil)))))))))
def d_jar_b1 (A : Ads) : DS := (dAsg (dOp modW (dCB intW (dCons (dOp addW (dOp addW (dOp mulW (dVar 3) (dC (.int 48673))) (dOp modW (dCB intW (dCons (dVar 4) dNil)) (dC (.int 2147483423)))) (dC (.int 29))) dNil)) (dC (.int 2147483489))) (dgName 3))
def d_jar_r2 (A : Ads) : DS := (dSeq (dAsg (dFrz (dOp addW (dC (.int 70001)) (dOp mulW (dC (.int 911)) (dVar 1)))) (dgName 3))
    (dSeq (dFor (diSeq (dSl (dVar 0) dNoP (dPart (dC (.int 9))))) (dgName 4) (d_jar_b1 A))
    (dSeq (dAsg (dOp modW (dCB intW (dCons (dOp addW (dVar 3) (dOp mulW (dOp modW (dCB intW (dCons (dVar 2) dNil)) (dC (.int 2147483423))) (dC (.int 51437)))) dNil)) (dC (.int 2147483489))) (dgName 3))
    (dRet (dLst (dCons (dIf (dOr (dTest (dOp ltW (dVar 2) (dC (.int 0)))) (dTest (dOp geW (dVar 2) (dOp powW (dC (.int 10)) (dC (.int 15)))))) (dCB absW (dCons (dVar 2) dNil)) (dC (.int 0))) (dCons (dVar 3) (dCons (dC (.int 0)) dNil))))))))
def d_jar (A : Ads) : DS := (dSeq (dAsg (dIf (dTest (dOp ltW (dVar 1) (dCB lenW (dCons (dVar 0) dNil)))) (dCB intW (dCons (dOp ixW (dVar 0) (dVar 1)) dNil)) (dC (.int 0))) (dgName 2))
    (d_jar_r2 A))
abbrev S_jar (A : Ads) : TSpec := specOf 2 5 (d_jar A)
theorem ok_jar (T : Txt w K mg A) (B : TabsB base mg A) : Df P w K mg base CX0 1 "_law_jar" A.a_jar ["script", "turn"] (spT (xF P w K mg base A) (S_jar A)) := by
  obtain ⟨fd, F, b⟩ := T.f_jar
  refine ⟨⟨fd, fnG_of F sc_jar spT_len fun cdv A0 outer s H vs Q E hcd hr h => ?_, b, At.of F⟩, F.kp, T.g_jar⟩
  refine ⟨_, PSs.nox (pss_cons (ps_set (i := 2) sc_jar.nd rfl (Or.inl rfl) (pe_ifExp (pt_cmpR op_lt (pv 1) (pe_callB (call_lenK (K := K)) (by rfl) T.z_len PySem.boot_len (pa_cons (pv 0) pa_nil)) (nomark _)) (pe_callTy call_int1 (by rfl) T.z_int (by decide +kernel) (pa_cons (pe_ix (ix_K (K := K)) (pv 0) (pv 1) (fun _ _ => rfl)) pa_nil)) pe_int))
        (pss_cons (ps_set (i := 3) sc_jar.nd rfl (Or.inl rfl) (pe_op (op_addK (K := K)) pe_int (pe_op (op_mulK (K := K)) pe_int (pv 1))))
        (pss_cons (ps_for PassesOwn.never rfl (pi_K (K := K) (pe_slice (sl_K (K := K)) (pv 0) po_none (po_some pe_int))) (pg_name (i := 4) sc_jar.nd rfl (Or.inl rfl))
        (pss_one (ps_set (i := 3) sc_jar.nd rfl (Or.inl rfl) (pe_op op_mod (pe_callTy call_int1 (by rfl) T.z_int (by decide +kernel) (pa_cons (pe_op (op_addK (K := K)) (pe_op (op_addK (K := K)) (pe_op (op_mulK (K := K)) (pv 3) pe_int) (pe_op op_mod (pe_callTy call_int1 (by rfl) T.z_int (by decide +kernel) (pa_cons (pv 4) pa_nil)) pe_int)) pe_int) pa_nil)) pe_int))))
        (pss_cons (ps_set (i := 3) sc_jar.nd rfl (Or.inl rfl) (pe_op op_mod (pe_callTy call_int1 (by rfl) T.z_int (by decide +kernel) (pa_cons (pe_op (op_addK (K := K)) (pv 3) (pe_op (op_mulK (K := K)) (pe_op op_mod (pe_callTy call_int1 (by rfl) T.z_int (by decide +kernel) (pa_cons (pv 2) pa_nil)) pe_int) pe_int)) pa_nil)) pe_int))
        (pss_one (ps_ret (pe_lst (pa_cons (pe_ifExp (PW.pt (pw_or (pt_cmpR op_lt (pv 2) pe_int (nomark _)) (pw_or1 (pt_cmpR op_ge (pv 2) (pe_op op_pow pe_int pe_int) (nomark _))))) (pe_callB call_abs (by rfl) T.z_abs (by decide +kernel) (pa_cons (pv 2) pa_nil)) pe_int) (pa_cons (pv 3) (pa_cons pe_int pa_nil)))))))))), ?_⟩
  refine def_run (x := xF P w K mg base A) (N := ["script", "turn", "own", "mixed", "cell"]) (np := 2) (ds := d_jar A) ?_ h
  unfold d_jar
  exact (ls_seq (ls_asg (vs := [2]) (le_if (lt_test (le_op o2_lt le_var (le_cb on_len (la_cons le_var la_nil)))) (le_cb on_int (la_cons (le_op o2_ix le_var le_var) la_nil)) le_int) (lg_name (by simp)))
        (ls_seq (ls_asg (vs := [3]) (le_frz (le_op o2_add le_int (le_op o2_mul le_int le_var))) (lg_name (by simp)))
        (ls_seq (ls_for (vs := [4]) (li_seq (le_sl le_var lo_none (lo_some le_int))) (lg_name (by simp)) (ls_asg (vs := [3]) (le_op o2_mod (le_cb on_int (la_cons (le_op o2_add (le_op o2_add (le_op o2_mul le_var le_int) (le_op o2_mod (le_cb on_int (la_cons le_var la_nil)) le_int)) le_int) la_nil)) le_int) (lg_name (by simp))))
        (ls_seq (ls_asg (vs := [3]) (le_op o2_mod (le_cb on_int (la_cons (le_op o2_add le_var (le_op o2_mul (le_op o2_mod (le_cb on_int (la_cons le_var la_nil)) le_int) le_int)) la_nil)) le_int) (lg_name (by simp)))
        (ls_ret (le_lst (la_cons (le_if (lt_or (lt_test (le_op o2_lt le_var le_int)) (lt_test (le_op o2_ge le_var (le_op o2_pow le_int le_int)))) (le_cb on_abs (la_cons le_var la_nil)) le_int) (la_cons le_var (la_cons le_int la_nil)))))))))
def d_draw (A : Ads) : DS := (dSeq (dIfS (dTest (dOp gtW (dOp ixW (dVar 0) (dC (.int 0))) (dC (.int 0)))) (dSeq (dAsg (dCB divmodW (dCons (dOp ixW (dVar 0) (dC (.int 0))) (dCons (dVar 1) dNil))) (dgTup 2 (dgCons (dgSub 0 (dC (.int 0))) (dgCons (dgName 2) dgNil))))
    (dRet (dMv (dVar 2)))) dNext)
    (dSeq (dAsg (dFrz (dOp addW (dOp ixW (dVar 0) (dC (.int 2))) (dC (.int 1)))) (dgSub 0 (dC (.int 2))))
    (dSeq (dAsg (dOp modW (dCB intW (dCons (dOp addW (dOp addW (dOp mulW (dOp ixW (dVar 0) (dC (.int 1))) (dC (.int 44497))) (dOp mulW (dOp ixW (dVar 0) (dC (.int 2))) (dC (.int 30011)))) (dC (.int 7))) dNil)) (dC (.int 2147483489))) (dgName 3))
    (dSeq (dAsg (dOp modW (dCB intW (dCons (dOp addW (dOp mulW (dVar 3) (dOp addW (dOp modW (dCB intW (dCons (dVar 3) dNil)) (dC (.int 6007))) (dC (.int 40009)))) (dOp mulW (dC (.int 13)) (dOp ixW (dVar 0) (dC (.int 2))))) dNil)) (dC (.int 2147483489))) (dgSub 0 (dC (.int 1))))
    (dRet (dOp modW (dCB intW (dCons (dOp fdivW (dOp ixW (dVar 0) (dC (.int 1))) (dC (.int 509))) dNil)) (dVar 1)))))))
abbrev S_draw (A : Ads) : TSpec := specOf 2 4 (d_draw A)
theorem ok_draw (T : Txt w K mg A) (B : TabsB base mg A) : Df P w K mg base CX0 1 "_law_draw" A.a_draw ["jar", "top"] (spT (xF P w K mg base A) (S_draw A)) := by
  obtain ⟨fd, F, b⟩ := T.f_draw
  refine ⟨⟨fd, fnG_of F sc_draw spT_len fun cdv A0 outer s H vs Q E hcd hr h => ?_, b, At.of F⟩, F.kp, T.g_draw⟩
  refine ⟨_, PSs.nox (pss_cons (ps_if (pt_cmpR op_gt (pe_ix (ix_K (K := K)) (pv 0) pe_int (fun _ _ => rfl)) pe_int (nomark _))
        (pss_cons (ps_asg (pe_callB call_divmod (by rfl) T.z_divmod (by decide +kernel) (pa_cons (pe_ix (ix_K (K := K)) (pv 0) pe_int (fun _ _ => rfl)) (pa_cons (pv 1) pa_nil))) (pg_tup rfl (pgs_cons (pg_sub (pv 0) pe_int set_list) (pgs_cons (pg_name (i := 2) sc_draw.nd rfl (Or.inl rfl)) pgs_nil))))
          (pss_one (ps_ret (pv 2))))
        pss_nil)
        (pss_cons (ps_asg (pe_op (op_addK (K := K)) (pe_ix (ix_K (K := K)) (pv 0) pe_int (fun _ _ => rfl)) pe_int) (pg_sub (pv 0) pe_int set_list))
        (pss_cons (ps_set (i := 3) sc_draw.nd rfl (Or.inl rfl) (pe_op op_mod (pe_callTy call_int1 (by rfl) T.z_int (by decide +kernel) (pa_cons (pe_op (op_addK (K := K)) (pe_op (op_addK (K := K)) (pe_op (op_mulK (K := K)) (pe_ix (ix_K (K := K)) (pv 0) pe_int (fun _ _ => rfl)) pe_int) (pe_op (op_mulK (K := K)) (pe_ix (ix_K (K := K)) (pv 0) pe_int (fun _ _ => rfl)) pe_int)) pe_int) pa_nil)) pe_int))
        (pss_cons (ps_asg (pe_op op_mod (pe_callTy call_int1 (by rfl) T.z_int (by decide +kernel) (pa_cons (pe_op (op_addK (K := K)) (pe_op (op_mulK (K := K)) (pv 3) (pe_op (op_addK (K := K)) (pe_op op_mod (pe_callTy call_int1 (by rfl) T.z_int (by decide +kernel) (pa_cons (pv 3) pa_nil)) pe_int) pe_int)) (pe_op (op_mulK (K := K)) pe_int (pe_ix (ix_K (K := K)) (pv 0) pe_int (fun _ _ => rfl)))) pa_nil)) pe_int) (pg_sub (pv 0) pe_int set_list))
        (pss_one (ps_ret (pe_op op_mod (pe_callTy call_int1 (by rfl) T.z_int (by decide +kernel) (pa_cons (pe_op op_fdiv (pe_ix (ix_K (K := K)) (pv 0) pe_int (fun _ _ => rfl)) pe_int) pa_nil)) (pv 1)))))))), ?_⟩
  refine def_run (x := xF P w K mg base A) (N := ["jar", "top", "digit", "mixed"]) (np := 2) (ds := d_draw A) ?_ h
  unfold d_draw
  exact (ls_seq (ls_if (lt_test (le_op o2_gt (le_op o2_ix le_var le_int) le_int)) (ls_seq (ls_asg (vs := [2]) (le_cb on_divmod (la_cons (le_op o2_ix le_var le_int) (la_cons le_var la_nil))) (lg_tup (lgs_cons (lg_sub le_int) (lgs_cons (lg_name (by simp)) lgs_nil))))
        (ls_ret (le_mv le_var))) ls_next)
        (ls_seq (ls_asg (vs := []) (le_frz (le_op o2_add (le_op o2_ix le_var le_int) le_int)) (lg_sub le_int))
        (ls_seq (ls_asg (vs := [3]) (le_op o2_mod (le_cb on_int (la_cons (le_op o2_add (le_op o2_add (le_op o2_mul (le_op o2_ix le_var le_int) le_int) (le_op o2_mul (le_op o2_ix le_var le_int) le_int)) le_int) la_nil)) le_int) (lg_name (by simp)))
        (ls_seq (ls_asg (vs := []) (le_op o2_mod (le_cb on_int (la_cons (le_op o2_add (le_op o2_mul le_var (le_op o2_add (le_op o2_mod (le_cb on_int (la_cons le_var la_nil)) le_int) le_int)) (le_op o2_mul le_int (le_op o2_ix le_var le_int))) la_nil)) le_int) (lg_sub le_int))
        (ls_ret (le_op o2_mod (le_cb on_int (la_cons (le_op o2_fdiv (le_op o2_ix le_var le_int) le_int) la_nil)) le_var))))))
def d_pick (A : Ads) : DS := (dRet (dOp ixW (dVar 1) (dCall (S_draw A) (dCons (dVar 0) (dCons (dCB lenW (dCons (dVar 1) dNil)) dNil)))))
abbrev S_pick (A : Ads) : TSpec := specOf 2 2 (d_pick A)
theorem ok_pick (T : Txt w K mg A) (B : TabsB base mg A) : Df P w K mg base CX0 2 "_law_pick" A.a_pick ["jar", "some"] (spT (xF P w K mg base A) (S_pick A)) := by
  obtain ⟨fd, F, b⟩ := T.f_pick
  refine ⟨⟨fd, fnG_of F sc_pick spT_len fun cdv A0 outer s H vs Q E hcd hr h => ?_, b, At.of F⟩, F.kp, T.g_pick⟩
  have d_draw := ok_draw (P := P) (w := w) (base := base) T B
  refine ⟨_, PSs.nox (pss_one (ps_ret (pe_ix (ix_K (K := K)) (pv 1) (pe_df d_draw hr (by decide) rfl pass0 (pa_cons (pv 0) (pa_cons (pe_callB (call_lenK (K := K)) (by rfl) T.z_len PySem.boot_len (pa_cons (pv 1) pa_nil)) pa_nil))) (fun _ _ => rfl)))), ?_⟩
  refine def_run (x := xF P w K mg base A) (N := ["jar", "some"]) (np := 2) (ds := d_pick A) ?_ h
  unfold d_pick
  exact (ls_ret (le_op o2_ix le_var (le_call (x := xF P w K mg base A) (S := S_draw A) (la_cons le_var (la_cons (le_cb on_len (la_cons le_var la_nil)) la_nil)))))
def d_words_b1 (A : Ads) : DS := (dDrop (dApp 1 (dCons (dFrz (dOp addFW (dOp ixW (dVar 1) (dOp ixW (dVar 3) (dC (.int 0)))) (dOp ixW (dVar 1) (dOp ixW (dVar 3) (dC (.int 1)))))) dNil)))
def d_words (A : Ads) : DS := (dSeq (dAsg (dLc (diRng1 (dCons (dOp ixW (dVar 0) (dC (.int 0))) dNil)) (dgName 2) dYes (dTupF (dCons (dVar 2) dNil)) [2]) (dgName 1))
    (dSeq (dFor (diSeq (dOp ixW (dVar 0) (dC (.int 1)))) (dgName 3) (d_words_b1 A))
    (dRet (dMv (dVar 1)))))
abbrev S_words (A : Ads) : TSpec := specOf 1 4 (d_words A)
theorem ok_words (T : Txt w K mg A) (B : TabsB base mg A) : Df P w K mg base CX0 1 "_law_words" A.a_words ["web"] (spT (xF P w K mg base A) (S_words A)) := by
  obtain ⟨fd, F, b⟩ := T.f_words
  refine ⟨⟨fd, fnG_of F sc_words spT_len fun cdv A0 outer s H vs Q E hcd hr h => ?_, b, At.of F⟩, F.kp, T.g_words⟩
  refine ⟨_, PSs.nox (pss_cons (ps_setLc (i := 1) (own := [("spot", 2)]) (g := gName 2) (tt := tYes) rfl sc_words.nd rfl rfl (sw_true rfl rfl rfl (by decide +kernel)) (pi_range1 (by rfl) T.z_range (pa_cons (pe_ix (ix_K (K := K)) (pv 0) pe_int (fun _ _ => rfl)) pa_nil)) (blkOk_by (own := [("spot", 2)]) (N := ["web", "found", "spot", "pair"]) (sc := defScope s_words) (by decide +kernel)) (fun _ _ _ _ _ => pg_name (i := 2) sc_words.nd rfl (Or.inl rfl)) (fun _ _ _ _ _ => pts_nil) (fun _ _ _ _ _ => (pe_tupF (pa_cons (pv 2) pa_nil))))
        (pss_cons (ps_for PassesOwn.never rfl (pi_K (K := K) (pe_ix (ix_K (K := K)) (pv 0) pe_int (fun _ _ => rfl))) (pg_name (i := 3) sc_words.nd rfl (Or.inl rfl))
        (pss_one (ps_expr (pe_bm PySem.F.plainAttrs_list PySem.F.slot_list_append PySem.F.type_list_append mt_append (pv 1) (pa_cons (pe_op (op_addF (K := K)) (pe_ix (ix_K (K := K)) (pv 1) (pe_ix (ix_K (K := K)) (pv 3) pe_int (fun _ _ => rfl)) (fun _ _ => rfl)) (pe_ix (ix_K (K := K)) (pv 1) (pe_ix (ix_K (K := K)) (pv 3) pe_int (fun _ _ => rfl)) (fun _ _ => rfl))) pa_nil)))))
        (pss_one (ps_ret (pv 1))))), ?_⟩
  refine def_run (x := xF P w K mg base A) (N := ["web", "found", "spot", "pair"]) (np := 1) (ds := d_words A) ?_ h
  unfold d_words
  exact (ls_seq (ls_asg (vs := [1]) (le_lc (vs := [2]) (li_rng1 (la_cons (le_op o2_ix le_var le_int) la_nil)) (lg_name (by simp)) lt_yes (le_tupF (la_cons le_var la_nil))) (lg_name (by simp)))
        (ls_seq (ls_for (vs := [3]) (li_seq (le_op o2_ix le_var le_int)) (lg_name (by simp)) (ls_drop (le_app (la_cons (le_frz (le_op o2_addF (le_op o2_ix le_var (le_op o2_ix le_var le_int)) (le_op o2_ix le_var (le_op o2_ix le_var le_int)))) la_nil))))
        (ls_ret (le_mv le_var))))
def d_form_b1 (A : Ads) : DS := (dIfS (dTest (dOp (inW true) (dVar 4) (dVar 3))) (dDrop (dApp 3 (dCons (dVar 4) dNil))) dNext)
def d_form (A : Ads) : DS := (dSeq (dIfS (dTest (dOp eqW (dVar 2) (dC (.str "any")))) (dRet (dVar 0)) dNext)
    (dSeq (dIfS (dTest (dOp eqW (dVar 2) (dC (.str "ends")))) (dRet (dTup (dCons (dOp ixW (dVar 0) (dC (.int 0))) (dCons (dOp ixW (dVar 0) (dUn negW (dC (.int 1)))) dNil)))) dNext)
    (dSeq (dIfS (dTest (dOp (inW false) (dVar 2) (dTup (dCons (dC (.str "first")) (dCons (dC (.str "last")) dNil))))) (dSeq (dAsg (dLst dNil) (dgName 3))
    (dSeq (dFor (diSeq (dIf (dTest (dOp eqW (dVar 2) (dC (.str "first")))) (dVar 0) (dRevT (dVar 0)))) (dgName 4) (d_form_b1 A))
    (dRet (dCB tupleW (dCons (dIf (dTest (dOp eqW (dVar 2) (dC (.str "first")))) (dVar 3) (dRevL (dVar 3))) dNil))))) dNext)
    (dSeq (dAsg (dFrz (dLc (diRng1 (dCons (dVar 1) dNil)) (dgName 4) dYes (dCnt (dVar 0) (dCons (dVar 4) dNil)) [4])) (dgName 5))
    (dSeq (dIfS (dTest (dOp eqW (dVar 2) (dC (.str "even")))) (dRet (dCB tupleW (dCons (dVar 5) dNil))) dNext)
    (dSeq (dIfS (dTest (dOp eqW (dVar 2) (dC (.str "sets")))) (dRet (dCB tupleW (dCons (dLc (diRng1 (dCons (dVar 1) dNil)) (dgName 4) (dTest (dOp gtW (dOp ixW (dVar 5) (dVar 4)) (dC (.int 0)))) (dVar 4) [4]) dNil))) dNext)
    (dRet (dCB tupleW (dCons (dLc (diSeq (dVar 5)) (dgName 6) dYes (dOp modW (dCB intW (dCons (dVar 6) dNil)) (dVar 2)) [6]) dNil)))))))))
abbrev S_form (A : Ads) : TSpec := specOf 3 7 (d_form A)
theorem ok_form (T : Txt w K mg A) (B : TabsB base mg A) : Df P w K mg base CX0 1 "_law_form" A.a_form ["word", "many", "sort"] (spT (xF P w K mg base A) (S_form A)) := by
  obtain ⟨fd, F, b⟩ := T.f_form
  refine ⟨⟨fd, fnG_of F sc_form spT_len fun cdv A0 outer s H vs Q E hcd hr h => ?_, b, At.of F⟩, F.kp, T.g_form⟩
  refine ⟨_, PSs.nox (pss_cons (ps_if (pt_cmpR (op_eqK (K := K) hr) (pv 2) pe_str (nomark _))
        (pss_one (ps_ret (pv 0)))
        pss_nil)
        (pss_cons (ps_if (pt_cmpR (op_eqK (K := K) hr) (pv 2) pe_str (nomark _))
        (pss_one (ps_ret (pe_tup (pa_cons (pe_ix (ix_K (K := K)) (pv 0) pe_int (fun _ _ => rfl)) (pa_cons (pe_ix (ix_K (K := K)) (pv 0) (pe_un un_neg pe_int) (fun _ _ => rfl)) pa_nil)))))
        pss_nil)
        (pss_cons (ps_if (pt_cmpR (op_inK (K := K)) (pv 2) (pe_tup (pa_cons pe_str (pa_cons pe_str pa_nil))) (by rfl))
        (pss_cons (ps_set (i := 3) sc_form.nd rfl (Or.inl rfl) (pe_lst pa_nil))
          (pss_cons (ps_for PassesOwn.never rfl (pi_K (K := K) (pe_ifExp (pt_cmpR (op_eqK (K := K) hr) (pv 2) pe_str (nomark _)) (pv 0) (pe_revTK (K := K) (pv 0)))) (pg_name (i := 4) sc_form.nd rfl (Or.inl rfl))
          (pss_one (ps_if (pt_cmpR (op_notInK (K := K)) (pv 4) (pv 3) (by rfl))
            (pss_one (ps_expr (pe_bm PySem.F.plainAttrs_list PySem.F.slot_list_append PySem.F.type_list_append mt_append (pv 3) (pa_cons (pv 4) pa_nil))))
            pss_nil)))
          (pss_one (ps_ret (pe_callTy (call_tupleK (K := K)) (by rfl) T.z_tuple (by decide +kernel) (pa_cons (pe_ifExp (pt_cmpR (op_eqK (K := K) hr) (pv 2) pe_str (nomark _)) (pv 3) (pe_revLK (K := K) (pv 3))) pa_nil))))))
        pss_nil)
        (pss_cons (ps_set (i := 5) sc_form.nd rfl (Or.inr rfl) (pe_lc (own := [("spot", 4)]) (g := gName 4) (tt := tYes) rfl sc_form.nd (pi_range1 (by rfl) T.z_range (pa_cons (pv 1) pa_nil)) (blkOk_by (own := [("spot", 4)]) (N := ["word", "many", "sort", "found", "spot", "counts", "count"]) (sc := defScope s_form) (by decide +kernel)) (fun _ _ _ _ _ => pg_name (i := 4) sc_form.nd rfl (Or.inl rfl)) (fun _ _ _ _ _ => pts_nil) (fun _ _ _ _ _ => (pe_cntK (K := K) (pv 0) (pa_cons (pv 4) pa_nil)))))
        (pss_cons (ps_if (pt_cmpR (op_eqK (K := K) hr) (pv 2) pe_str (nomark _))
        (pss_one (ps_ret (pe_callTy (call_tupleK (K := K)) (by rfl) T.z_tuple (by decide +kernel) (pa_cons (pv 5) pa_nil))))
        pss_nil)
        (pss_cons (ps_if (pt_cmpR (op_eqK (K := K) hr) (pv 2) pe_str (nomark _))
        (pss_one (ps_ret (pe_callTy (call_tupleK (K := K)) (by rfl) T.z_tuple (by decide +kernel) (pa_cons (pe_lc (own := [("spot", 4)]) (g := gName 4) (tt := _) rfl sc_form.nd (pi_range1 (by rfl) T.z_range (pa_cons (pv 1) pa_nil)) (blkOk_by (own := [("spot", 4)]) (N := ["word", "many", "sort", "found", "spot", "counts", "count"]) (sc := defScope s_form) (by decide +kernel)) (fun _ _ _ _ _ => pg_name (i := 4) sc_form.nd rfl (Or.inl rfl)) (fun _ _ _ _ _ => pts_one (pt_cmpR op_gt (pe_ix (ix_K (K := K)) (pv 5) (pv 4) (fun _ _ => rfl)) pe_int (nomark _))) (fun _ _ _ _ _ => (pv 4))) pa_nil))))
        pss_nil)
        (pss_one (ps_ret (pe_callTy (call_tupleK (K := K)) (by rfl) T.z_tuple (by decide +kernel) (pa_cons (pe_lc (own := [("count", 6)]) (g := gName 6) (tt := tYes) rfl sc_form.nd (pi_K (K := K) (pv 5)) (blkOk_by (own := [("count", 6)]) (N := ["word", "many", "sort", "found", "spot", "counts", "count"]) (sc := defScope s_form) (by decide +kernel)) (fun _ _ _ _ _ => pg_name (i := 6) sc_form.nd rfl (Or.inl rfl)) (fun _ _ _ _ _ => pts_nil) (fun _ _ _ _ _ => (pe_op op_mod (pe_callTy call_int1 (by rfl) T.z_int (by decide +kernel) (pa_cons (pv 6) pa_nil)) (pv 2)))) pa_nil)))))))))), ?_⟩
  refine def_run (x := xF P w K mg base A) (N := ["word", "many", "sort", "found", "spot", "counts", "count"]) (np := 3) (ds := d_form A) ?_ h
  unfold d_form
  exact (ls_seq (ls_if (lt_test (le_op o2_eq le_var le_str)) (ls_ret le_var) ls_next)
        (ls_seq (ls_if (lt_test (le_op o2_eq le_var le_str)) (ls_ret (le_tup (la_cons (le_op o2_ix le_var le_int) (la_cons (le_op o2_ix le_var (le_un o1_neg le_int)) la_nil)))) ls_next)
        (ls_seq (ls_if (lt_test (le_op o2_in le_var (le_tup (la_cons le_str (la_cons le_str la_nil))))) (ls_seq (ls_asg (vs := [3]) (le_lst la_nil) (lg_name (by simp)))
        (ls_seq (ls_for (vs := [4]) (li_seq (le_if (lt_test (le_op o2_eq le_var le_str)) le_var (le_revT le_var))) (lg_name (by simp)) (ls_if (lt_test (le_op o2_in le_var le_var)) (ls_drop (le_app (la_cons le_var la_nil))) ls_next))
        (ls_ret (le_cb on_tuple (la_cons (le_if (lt_test (le_op o2_eq le_var le_str)) le_var (le_revL le_var)) la_nil))))) ls_next)
        (ls_seq (ls_asg (vs := [5]) (le_frz (le_lc (vs := [4]) (li_rng1 (la_cons le_var la_nil)) (lg_name (by simp)) lt_yes (le_cnt le_var (la_cons le_var la_nil)))) (lg_name (by simp)))
        (ls_seq (ls_if (lt_test (le_op o2_eq le_var le_str)) (ls_ret (le_cb on_tuple (la_cons le_var la_nil))) ls_next)
        (ls_seq (ls_if (lt_test (le_op o2_eq le_var le_str)) (ls_ret (le_cb on_tuple (la_cons (le_lc (vs := [4]) (li_rng1 (la_cons le_var la_nil)) (lg_name (by simp)) (lt_test (le_op o2_gt (le_op o2_ix le_var le_var) le_int)) le_var) la_nil))) ls_next)
        (ls_ret (le_cb on_tuple (la_cons (le_lc (vs := [6]) (li_seq le_var) (lg_name (by simp)) lt_yes (le_op o2_mod (le_cb on_int (la_cons le_var la_nil)) le_var)) la_nil)))))))))
def d_fits (A : Ads) : DS := (dRet (dOp eqW (dCall (S_form A) (dCons (dVar 0) (dCons (dVar 1) (dCons (dVar 3) dNil)))) (dCall (S_form A) (dCons (dTupRgF (dRg2 (dOp ixW (dVar 2) (dC (.int 0))) (dOp addW (dOp ixW (dVar 2) (dC (.int 1))) (dC (.int 1))))) (dCons (dVar 1) (dCons (dVar 3) dNil))))))
abbrev S_fits (A : Ads) : TSpec := specOf 4 4 (d_fits A)
theorem ok_fits (T : Txt w K mg A) (B : TabsB base mg A) : Df P w K mg base CX0 2 "_law_fits" A.a_fits ["word", "many", "pair", "sort"] (spT (xF P w K mg base A) (S_fits A)) := by
  obtain ⟨fd, F, b⟩ := T.f_fits
  refine ⟨⟨fd, fnG_of F sc_fits spT_len fun cdv A0 outer s H vs Q E hcd hr h => ?_, b, At.of F⟩, F.kp, T.g_fits⟩
  have d_form := ok_form (P := P) (w := w) (base := base) T B
  refine ⟨_, PSs.nox (pss_one (ps_ret (pe_cmpR (op_eqK (K := K) hr) (pe_df d_form hr (by decide) rfl pass0 (pa_cons (pv 0) (pa_cons (pv 1) (pa_cons (pv 3) pa_nil)))) (pe_df d_form hr (by decide) rfl pass0 (pa_cons (pe_tupRgF rfl (by rfl) T.z_tuple (prg_2 (by rfl) T.z_range (pe_ix (ix_K (K := K)) (pv 2) pe_int (fun _ _ => rfl)) (pe_op (op_addK (K := K)) (pe_ix (ix_K (K := K)) (pv 2) pe_int (fun _ _ => rfl)) pe_int))) (pa_cons (pv 1) (pa_cons (pv 3) pa_nil)))) (nomark _)))), ?_⟩
  refine def_run (x := xF P w K mg base A) (N := ["word", "many", "pair", "sort"]) (np := 4) (ds := d_fits A) ?_ h
  unfold d_fits
  exact (ls_ret (le_op o2_eq (le_call (x := xF P w K mg base A) (S := S_form A) (la_cons le_var (la_cons le_var (la_cons le_var la_nil)))) (le_call (x := xF P w K mg base A) (S := S_form A) (la_cons (le_tupRgF (lr_2 (le_op o2_ix le_var le_int) (le_op o2_add (le_op o2_ix le_var le_int) le_int))) (la_cons le_var (la_cons le_var la_nil))))))
def d_laid_r1 (A : Ads) (SL : TSpec) : DS := (dSeq (dDrop (dStApp 1 (dCons (dTup (dCons (dVar 7) (dCons (dVar 8) dNil))) dNil)))
    (dSeq (dAsg (dOp subW (dOp addW (dStN 1) (dStCB lenW 1)) (dC (.int 1))) (dgStPut 1 (dCons (dVar 2) (dCons (dVar 3) dNil))))
    (dRet (dStGet 1 (dCons (dVar 2) (dCons (dVar 3) dNil))))))
def d_laid_r2 (A : Ads) (SL : TSpec) : DS := (dSeq (dAsg (dFrz (dCall (SL) (dCons (dVar 0) (dCons (dVar 1) (dCons (dVar 2) (dCons (dVar 4) dNil)))))) (dgName 7))
    (dSeq (dAsg (dFrz (dCall (SL) (dCons (dVar 0) (dCons (dVar 1) (dCons (dVar 6) (dCons (dVar 3) dNil)))))) (dgName 8))
    (dSeq (dIfS (dAnd (dTest (dOp (inW true) (dVar 5) (dTup (dCons (dC (.str "any")) (dCons (dC (.str "first")) (dCons (dC (.str "last")) (dCons (dC (.str "ends")) dNil))))))) (dTest (dOp eqW (dCall (S_draw A) (dCons (dVar 0) (dCons (dC (.int 2)) dNil))) (dC (.int 0))))) (dPar 7 8 (dCons (dVar 8) (dCons (dVar 7) dNil))) dNext)
    (d_laid_r1 A SL))))
def d_laid (A : Ads) (SL : TSpec) : DS := (dSeq (dIfS (dTest (dOp eqW (dVar 2) (dVar 3))) (dRet (dVar 2)) dNext)
    (dSeq (dIfS (dTest (dStIn 1 (dCons (dVar 2) (dCons (dVar 3) dNil)))) (dRet (dStGet 1 (dCons (dVar 2) (dCons (dVar 3) dNil)))) dNext)
    (dSeq (dPar 4 5 (dCons (dFrz (dOp addW (dVar 2) (dCall (S_draw A) (dCons (dVar 0) (dCons (dOp subW (dVar 3) (dVar 2)) dNil))))) (dCons (dStS 1) dNil)))
    (dSeq (dAsg (dFrz (dOp addW (dVar 4) (dC (.int 1)))) (dgName 6))
    (dSeq (dIfS (dAnd (dTest (dOp (inW false) (dVar 5) (dTup (dCons (dC (.str "first")) (dCons (dC (.str "last")) (dCons (dC (.str "sets")) (dCons (dC (.str "ends")) dNil))))))) (dTest (dOp eqW (dCall (S_draw A) (dCons (dVar 0) (dCons (dC (.int 2)) dNil))) (dC (.int 0))))) (dAsg (dFrz (dOp addW (dOp addW (dVar 2) (dC (.int 1))) (dCall (S_draw A) (dCons (dVar 0) (dCons (dIf (dTest (dOp eqW (dVar 5) (dC (.str "ends")))) (dOp subW (dVar 3) (dVar 2)) (dFrz (dOp addW (dOp subW (dVar 4) (dVar 2)) (dC (.int 1))))) dNil))))) (dgName 6)) dNext)
    (d_laid_r2 A SL))))))
def S_laid (A : Ads) : Nat → TSpec
  | 0 => fun _ _ => False
  | n + 1 => specOf 4 9 (d_laid A (S_laid A n))
theorem ok_laid (T : Txt w K mg A) (B : TabsB base mg A) : ∀ n : Nat, Df P w K mg base CX0 (n + 1) "_law_laid" A.a_laid ["jar", "state", "low", "high"] (spT (xF P w K mg base A) (S_laid A n))
  | 0 => by
    obtain ⟨fd, F, b⟩ := T.f_laid
    have no : ∀ vs H Q E, ¬ spT (xF P w K mg base A) (S_laid A 0) vs H Q E := fun vs H Q E h => by
      obtain ⟨_, _, _, _, _, _, _, _, _, _, _, h, _⟩ := h
      exact h
    exact ⟨⟨fd, fnG_of F sc_laid (fun vs H Q E h => (no _ _ _ _ h).elim) fun cdv A0 outer s H vs Q E hcd hr h => (no _ _ _ _ h).elim, b, At.of F⟩, F.kp, T.g_laid⟩
  | n + 1 => by
    have ih_laid := ok_laid T B n
    obtain ⟨fd, F, b⟩ := T.f_laid
    refine ⟨⟨fd, fnG_of F sc_laid spT_len fun cdv A0 outer s H vs Q E hcd hr h => ?_, b, At.of F⟩, F.kp, T.g_laid⟩
    have d_draw := ok_draw (P := P) (w := w) (base := base) T B
    refine ⟨_, PSs.nox (pss_cons (ps_if (pt_cmpR (op_eqK (K := K) hr) (pv 2) (pv 3) (nomark _))
        (pss_one (ps_ret (pv 2)))
        pss_nil)
        (pss_cons (ps_if (pt_cmp (pc_din (un1 hr) (pe_tup (pa_cons (pv 2) (pa_cons (pv 3) pa_nil))) (pe_ix (ix_K (K := K)) (pv 1) pe_int (fun _ _ => rfl))))
        (pss_one (ps_ret (pe_dget (un1 hr) (pe_ix (ix_K (K := K)) (pv 1) pe_int (fun _ _ => rfl)) (pe_tup (pa_cons (pv 2) (pa_cons (pv 3) pa_nil))) (fun _ _ => rfl))))
        pss_nil)
        (pss_cons (ps_par (i := 4) (j := 5) rfl sc_laid.nd rfl rfl (by decide) rfl rfl (pa_cons (pe_op (op_addK (K := K)) (pv 2) (pe_df d_draw hr (by omega) rfl pass0 (pa_cons (pv 0) (pa_cons (pe_op op_sub (pv 3) (pv 2)) pa_nil)))) (pa_cons (pe_ix (ix_K (K := K)) (pv 1) pe_int (fun _ _ => rfl)) pa_nil)) (by rfl))
        (pss_cons (ps_set (i := 6) sc_laid.nd rfl (Or.inl rfl) (pe_op (op_addK (K := K)) (pv 4) pe_int))
        (C8.pss_cut (ps_if (PW.pt (pw_and (pt_cmpR (op_inK (K := K)) (pv 5) (pe_tup (pa_cons pe_str (pa_cons pe_str (pa_cons pe_str (pa_cons pe_str pa_nil))))) (by rfl)) (pw_and1 (pt_cmpR (op_eqK (K := K) hr) (pe_df d_draw hr (by omega) rfl pass0 (pa_cons (pv 0) (pa_cons pe_int pa_nil))) pe_int (nomark _)))))
        (pss_one (ps_set (i := 6) sc_laid.nd rfl (Or.inl rfl) (pe_op (op_addK (K := K)) (pe_op (op_addK (K := K)) (pv 2) pe_int) (pe_df d_draw hr (by omega) rfl pass0 (pa_cons (pv 0) (pa_cons (pe_ifExp (pt_cmpR (op_eqK (K := K) hr) (pv 5) pe_str (nomark _)) (pe_op op_sub (pv 3) (pv 2)) (pe_op (op_addK (K := K)) (pe_op op_sub (pv 4) (pv 2)) pe_int)) pa_nil))))))
        pss_nil)
        (pss_cons (ps_set (i := 7) sc_laid.nd rfl (Or.inl rfl) (pe_df ih_laid hr (by omega) rfl pass0 (pa_cons (pv 0) (pa_cons (pv 1) (pa_cons (pv 2) (pa_cons (pv 4) pa_nil))))))
        (pss_cons (ps_set (i := 8) sc_laid.nd rfl (Or.inl rfl) (pe_df ih_laid hr (by omega) rfl pass0 (pa_cons (pv 0) (pa_cons (pv 1) (pa_cons (pv 6) (pa_cons (pv 3) pa_nil))))))
        (C8.pss_cut (ps_if (PW.pt (pw_and (pt_cmpR (op_notInK (K := K)) (pv 5) (pe_tup (pa_cons pe_str (pa_cons pe_str (pa_cons pe_str (pa_cons pe_str pa_nil))))) (by rfl)) (pw_and1 (pt_cmpR (op_eqK (K := K) hr) (pe_df d_draw hr (by omega) rfl pass0 (pa_cons (pv 0) (pa_cons pe_int pa_nil))) pe_int (nomark _)))))
        (pss_one (ps_par (i := 7) (j := 8) rfl sc_laid.nd rfl rfl (by decide) rfl rfl (pa_cons (pv 8) (pa_cons (pv 7) pa_nil)) (by rfl)))
        pss_nil)
        (pss_cons (ps_expr (pe_bm PySem.F.plainAttrs_list PySem.F.slot_list_append PySem.F.type_list_append mt_append (pe_ix (ix_K (K := K)) (pv 1) pe_int (fun _ _ => rfl)) (pa_cons (pe_tup (pa_cons (pv 7) (pa_cons (pv 8) pa_nil))) pa_nil)))
        (pss_cons (ps_asg (pe_op op_sub (pe_op (op_addK (K := K)) (pe_ix (ix_K (K := K)) (pv 1) pe_int (fun _ _ => rfl)) (pe_callB (call_lenK (K := K)) (by rfl) T.z_len PySem.boot_len (pa_cons (pe_ix (ix_K (K := K)) (pv 1) pe_int (fun _ _ => rfl)) pa_nil))) pe_int) (pg_sub (pe_ix (ix_K (K := K)) (pv 1) pe_int (fun _ _ => rfl)) (pe_tup (pa_cons (pv 2) (pa_cons (pv 3) pa_nil))) (set_dict (un1 hr))))
        (pss_one (ps_ret (pe_dget (un1 hr) (pe_ix (ix_K (K := K)) (pv 1) pe_int (fun _ _ => rfl)) (pe_tup (pa_cons (pv 2) (pa_cons (pv 3) pa_nil))) (fun _ _ => rfl)))))))))))))), ?_⟩
    refine def_run (x := xF P w K mg base A) (N := ["jar", "state", "low", "high", "cut", "sort", "start", "ahead", "behind"]) (np := 4) (ds := d_laid A (S_laid A n)) ?_ h
    unfold d_laid
    exact (ls_seq (ls_if (lt_test (le_op o2_eq le_var le_var)) (ls_ret le_var) ls_next)
        (ls_seq (ls_if (lt_test (le_stIn (la_cons le_var (la_cons le_var la_nil)))) (ls_ret (le_stGet (la_cons le_var (la_cons le_var la_nil)))) ls_next)
        (ls_seq (ls_par (la_cons (le_frz (le_op o2_add le_var (le_call (x := xF P w K mg base A) (S := S_draw A) (la_cons le_var (la_cons (le_op o2_sub le_var le_var) la_nil))))) (la_cons le_stS la_nil)))
        (ls_seq (ls_asg (vs := [6]) (le_frz (le_op o2_add le_var le_int)) (lg_name (by simp)))
        (ls_cut (ls_if (lt_and (lt_test (le_op o2_in le_var (le_tup (la_cons le_str (la_cons le_str (la_cons le_str (la_cons le_str la_nil))))))) (lt_test (le_op o2_eq (le_call (x := xF P w K mg base A) (S := S_draw A) (la_cons le_var (la_cons le_int la_nil))) le_int))) (ls_asg (vs := [6]) (le_frz (le_op o2_add (le_op o2_add le_var le_int) (le_call (x := xF P w K mg base A) (S := S_draw A) (la_cons le_var (la_cons (le_if (lt_test (le_op o2_eq le_var le_str)) (le_op o2_sub le_var le_var) (le_frz (le_op o2_add (le_op o2_sub le_var le_var) le_int))) la_nil))))) (lg_name (by simp))) ls_next)
        (ls_seq (ls_asg (vs := [7]) (le_frz (le_call (x := xF P w K mg base A) (S := S_laid A n) (la_cons le_var (la_cons le_var (la_cons le_var (la_cons le_var la_nil)))))) (lg_name (by simp)))
        (ls_seq (ls_asg (vs := [8]) (le_frz (le_call (x := xF P w K mg base A) (S := S_laid A n) (la_cons le_var (la_cons le_var (la_cons le_var (la_cons le_var la_nil)))))) (lg_name (by simp)))
        (ls_cut (ls_if (lt_and (lt_test (le_op o2_in le_var (le_tup (la_cons le_str (la_cons le_str (la_cons le_str (la_cons le_str la_nil))))))) (lt_test (le_op o2_eq (le_call (x := xF P w K mg base A) (S := S_draw A) (la_cons le_var (la_cons le_int la_nil))) le_int))) (ls_par (la_cons le_var (la_cons le_var la_nil))) ls_next)
        (ls_seq (ls_drop (le_stApp (la_cons (le_tup (la_cons le_var (la_cons le_var la_nil))) la_nil)))
        (ls_seq (ls_asg (vs := []) (le_op o2_sub (le_op o2_add le_stN (le_stCB on_len)) le_int) (lg_stPut (la_cons le_var (la_cons le_var la_nil))))
        (ls_ret (le_stGet (la_cons le_var (la_cons le_var la_nil))))))))))))))
def d_web_b1 (A : Ads) : DS := (dDrop (dApp 5 (dCons (dFrz (dCall (S_laid A 8) (dCons (dVar 0) (dCons (dVar 4) (dCons (dOp ixW (dVar 6) (dC (.int 0))) (dCons (dOp ixW (dVar 6) (dC (.int 1))) dNil)))))) dNil)))
def d_web (A : Ads) : DS := (dSeq (dPar 4 5 (dCons (dStPack (dCons (dVar 1) (dCons (dLst dNil) (dCons dDNT (dCons (dVar 3) dNil))))) (dCons (dLst dNil) dNil)))
    (dSeq (dFor (diSeq (dVar 2)) (dgName 6) (d_web_b1 A))
    (dRet (dTup (dCons (dVar 1) (dCons (dStCB tupleW 4) (dCons (dCB tupleW (dCons (dVar 5) dNil)) dNil)))))))
abbrev S_web (A : Ads) : TSpec := specOf 4 7 (d_web A)
theorem ok_web (T : Txt w K mg A) (B : TabsB base mg A) : Df P w K mg base CX0 10 "_law_web" A.a_web ["jar", "many", "pairs", "sort"] (spT (xF P w K mg base A) (S_web A)) := by
  obtain ⟨fd, F, b⟩ := T.f_web
  refine ⟨⟨fd, fnG_of F sc_web spT_len fun cdv A0 outer s H vs Q E hcd hr h => ?_, b, At.of F⟩, F.kp, T.g_web⟩
  have d_laid := ok_laid (P := P) (w := w) (base := base) T B 8
  refine ⟨_, PSs.nox (pss_cons (ps_par (i := 4) (j := 5) rfl sc_web.nd rfl rfl (by decide) rfl rfl (pa_cons (pe_lst (pa_cons (pv 1) (pa_cons (pe_lst pa_nil) (pa_cons pe_dnewT (pa_cons (pv 3) pa_nil))))) (pa_cons (pe_lst pa_nil) pa_nil)) (by rfl))
        (pss_cons (ps_for PassesOwn.never rfl (pi_K (K := K) (pv 2)) (pg_name (i := 6) sc_web.nd rfl (Or.inl rfl))
        (pss_one (ps_expr (pe_bm PySem.F.plainAttrs_list PySem.F.slot_list_append PySem.F.type_list_append mt_append (pv 5) (pa_cons (pe_df d_laid hr (by decide) rfl pass0 (pa_cons (pv 0) (pa_cons (pv 4) (pa_cons (pe_ix (ix_K (K := K)) (pv 6) pe_int (fun _ _ => rfl)) (pa_cons (pe_ix (ix_K (K := K)) (pv 6) pe_int (fun _ _ => rfl)) pa_nil))))) pa_nil)))))
        (pss_one (ps_ret (pe_tup (pa_cons (pv 1) (pa_cons (pe_callTy (call_tupleK (K := K)) (by rfl) T.z_tuple (by decide +kernel) (pa_cons (pe_ix (ix_K (K := K)) (pv 4) pe_int (fun _ _ => rfl)) pa_nil)) (pa_cons (pe_callTy (call_tupleK (K := K)) (by rfl) T.z_tuple (by decide +kernel) (pa_cons (pv 5) pa_nil)) pa_nil)))))))), ?_⟩
  refine def_run (x := xF P w K mg base A) (N := ["jar", "many", "pairs", "sort", "state", "tips", "pair"]) (np := 4) (ds := d_web A) ?_ h
  unfold d_web
  exact (ls_seq (ls_par (la_cons (le_stPack (la_cons le_var (la_cons (le_lst la_nil) (la_cons le_dnt (la_cons le_var la_nil))))) (la_cons (le_lst la_nil) la_nil)))
        (ls_seq (ls_for (vs := [6]) (li_seq le_var) (lg_name (by simp)) (ls_drop (le_app (la_cons (le_frz (le_call (x := xF P w K mg base A) (S := S_laid A 8) (la_cons le_var (la_cons le_var (la_cons (le_op o2_ix le_var le_int) (la_cons (le_op o2_ix le_var le_int) la_nil)))))) la_nil))))
        (ls_ret (le_tup (la_cons le_var (la_cons (le_stCB on_tuple) (la_cons (le_cb on_tuple (la_cons le_var la_nil)) la_nil)))))))
def d_bent_r1 (A : Ads) : DS := (dRet (dTup (dCons (dOp ixW (dVar 1) (dC (.int 0))) (dCons (dCB tupleW (dCons (dLc (diSeq (dFzV 2)) (dgName 4) dYes (dCB tupleW (dCons (dVar 4) dNil)) [4]) dNil)) (dCons (dCB tupleW (dCons (dVar 3) dNil)) dNil)))))
def d_bent (A : Ads) : DS := (dSeq (dPar 2 3 (dCons (dLcN (diSeq (dOp ixW (dVar 1) (dC (.int 1)))) (dgName 4) (dCB listW (dCons (dVar 4) dNil)) [4]) (dCons (dCB listW (dCons (dOp ixW (dVar 1) (dC (.int 2))) dNil)) dNil)))
    (dSeq (dIfS (dAnd (dTest (dNNe 2)) (dTest (dOp gtW (dCall (S_draw A) (dCons (dVar 0) (dCons (dC (.int 3)) dNil))) (dC (.int 0))))) (dSeq (dAsg (dFrz (dCall (S_draw A) (dCons (dVar 0) (dCons (dNLen 2) dNil)))) (dgName 5))
    (dIfS (dTest (dOp eqW (dCall (S_draw A) (dCons (dVar 0) (dCons (dC (.int 3)) dNil))) (dC (.int 0)))) (dAsg (dNRev 2 (dVar 5)) (dgSubN 2 (dVar 5))) (dSeq (dAsg (dFrz (dCall (S_draw A) (dCons (dVar 0) (dCons (dC (.int 2)) dNil)))) (dgName 6))
    (dAsg (dFrz (dCall (S_draw A) (dCons (dVar 0) (dCons (dFrz (dOp addW (dOp ixW (dVar 1) (dC (.int 0))) (dVar 5))) dNil)))) (dgSub2 2 (dVar 5) (dVar 6)))))) (dSeq (dAsg (dFrz (dCall (S_draw A) (dCons (dVar 0) (dCons (dCB lenW (dCons (dVar 3) dNil)) dNil)))) (dgName 5))
    (dAsg (dFrz (dCall (S_draw A) (dCons (dVar 0) (dCons (dFrz (dOp addW (dOp ixW (dVar 1) (dC (.int 0))) (dNLen 2))) dNil)))) (dgSub 3 (dVar 5)))))
    (d_bent_r1 A)))
abbrev S_bent (A : Ads) : TSpec := specOf 2 7 (d_bent A)
theorem ok_bent (T : Txt w K mg A) (B : TabsB base mg A) : Df P w K mg base CX0 2 "_law_bent" A.a_bent ["jar", "web"] (spT (xF P w K mg base A) (S_bent A)) := by
  obtain ⟨fd, F, b⟩ := T.f_bent
  refine ⟨⟨fd, fnG_of F sc_bent spT_len fun cdv A0 outer s H vs Q E hcd hr h => ?_, b, At.of F⟩, F.kp, T.g_bent⟩
  have d_draw := ok_draw (P := P) (w := w) (base := base) T B
  refine ⟨_, PSs.nox (pss_cons (ps_par (i := 2) (j := 3) rfl sc_bent.nd rfl rfl (by decide) rfl rfl (pa_cons (pe_lc (own := [("pair", 4)]) (g := gName 4) (tt := tYes) rfl sc_bent.nd (pi_K (K := K) (pe_ix (ix_K (K := K)) (pv 1) pe_int (fun _ _ => rfl))) (blkOk_by (own := [("pair", 4)]) (N := ["jar", "web", "boxes", "tips", "pair", "spot", "side"]) (sc := defScope s_bent) (by decide +kernel)) (fun _ _ _ _ _ => pg_name (i := 4) sc_bent.nd rfl (Or.inl rfl)) (fun _ _ _ _ _ => pts_nil) (fun _ _ _ _ _ => (pe_callTy (call_listK (K := K)) (by rfl) T.z_list (by decide +kernel) (pa_cons (pv 4) pa_nil)))) (pa_cons (pe_callTy (call_listK (K := K)) (by rfl) T.z_list (by decide +kernel) (pa_cons (pe_ix (ix_K (K := K)) (pv 1) pe_int (fun _ _ => rfl)) pa_nil)) pa_nil)) (by rfl))
        (C8.pss_cut (ps_if (PW.pt (pw_and (pt_cmpR (op_neK (K := K) hr) (pv 2) (pe_lst pa_nil) (nomark _)) (pw_and1 (pt_cmpR op_gt (pe_df d_draw hr (by decide) rfl pass0 (pa_cons (pv 0) (pa_cons pe_int pa_nil))) pe_int (nomark _)))))
        (pss_cons (ps_set (i := 5) sc_bent.nd rfl (Or.inl rfl) (pe_df d_draw hr (by decide) rfl pass0 (pa_cons (pv 0) (pa_cons (pe_callB (call_lenK (K := K)) (by rfl) T.z_len PySem.boot_len (pa_cons (pv 2) pa_nil)) pa_nil))))
          (pss_one (ps_if (pt_cmpR (op_eqK (K := K) hr) (pe_df d_draw hr (by decide) rfl pass0 (pa_cons (pv 0) (pa_cons pe_int pa_nil))) pe_int (nomark _))
          (pss_one (ps_asg (pe_revLK (K := K) (pe_ix (ix_K (K := K)) (pv 2) (pv 5) (fun _ _ => rfl))) (pg_sub (pv 2) (pv 5) set_list)))
          (pss_cons (ps_set (i := 6) sc_bent.nd rfl (Or.inl rfl) (pe_df d_draw hr (by decide) rfl pass0 (pa_cons (pv 0) (pa_cons pe_int pa_nil))))
            (pss_one (ps_asg (pe_df d_draw hr (by decide) rfl pass0 (pa_cons (pv 0) (pa_cons (pe_op (op_addK (K := K)) (pe_ix (ix_K (K := K)) (pv 1) pe_int (fun _ _ => rfl)) (pv 5)) pa_nil))) (pg_sub (pe_ix (ix_K (K := K)) (pv 2) (pv 5) (fun _ _ => rfl)) (pv 6) set_list)))))))
        (pss_cons (ps_set (i := 5) sc_bent.nd rfl (Or.inl rfl) (pe_df d_draw hr (by decide) rfl pass0 (pa_cons (pv 0) (pa_cons (pe_callB (call_lenK (K := K)) (by rfl) T.z_len PySem.boot_len (pa_cons (pv 3) pa_nil)) pa_nil))))
          (pss_one (ps_asg (pe_df d_draw hr (by decide) rfl pass0 (pa_cons (pv 0) (pa_cons (pe_op (op_addK (K := K)) (pe_ix (ix_K (K := K)) (pv 1) pe_int (fun _ _ => rfl)) (pe_callB (call_lenK (K := K)) (by rfl) T.z_len PySem.boot_len (pa_cons (pv 2) pa_nil))) pa_nil))) (pg_sub (pv 3) (pv 5) set_list)))))
        (pss_one (ps_ret (pe_tup (pa_cons (pe_ix (ix_K (K := K)) (pv 1) pe_int (fun _ _ => rfl)) (pa_cons (pe_callTy (call_tupleK (K := K)) (by rfl) T.z_tuple (by decide +kernel) (pa_cons (pe_lc (own := [("pair", 4)]) (g := gName 4) (tt := tYes) rfl sc_bent.nd (pi_K (K := K) (pv 2)) (blkOk_by (own := [("pair", 4)]) (N := ["jar", "web", "boxes", "tips", "pair", "spot", "side"]) (sc := defScope s_bent) (by decide +kernel)) (fun _ _ _ _ _ => pg_name (i := 4) sc_bent.nd rfl (Or.inl rfl)) (fun _ _ _ _ _ => pts_nil) (fun _ _ _ _ _ => (pe_callTy (call_tupleK (K := K)) (by rfl) T.z_tuple (by decide +kernel) (pa_cons (pv 4) pa_nil)))) pa_nil)) (pa_cons (pe_callTy (call_tupleK (K := K)) (by rfl) T.z_tuple (by decide +kernel) (pa_cons (pv 3) pa_nil)) pa_nil)))))))), ?_⟩
  refine def_run (x := xF P w K mg base A) (N := ["jar", "web", "boxes", "tips", "pair", "spot", "side"]) (np := 2) (ds := d_bent A) ?_ h
  unfold d_bent
  exact (ls_seq (ls_par (la_cons (le_lcN (vs := [4]) (li_seq (le_op o2_ix le_var le_int)) (lg_name (by simp)) (le_cb on_list (la_cons le_var la_nil))) (la_cons (le_cb on_list (la_cons (le_op o2_ix le_var le_int) la_nil)) la_nil)))
        (ls_cut (ls_if (lt_and (lt_test (le_nNe o2_ne)) (lt_test (le_op o2_gt (le_call (x := xF P w K mg base A) (S := S_draw A) (la_cons le_var (la_cons le_int la_nil))) le_int))) (ls_seq (ls_asg (vs := [5]) (le_frz (le_call (x := xF P w K mg base A) (S := S_draw A) (la_cons le_var (la_cons le_nLen la_nil)))) (lg_name (by simp)))
        (ls_if (lt_test (le_op o2_eq (le_call (x := xF P w K mg base A) (S := S_draw A) (la_cons le_var (la_cons le_int la_nil))) le_int)) (ls_asg (vs := []) (le_nRev le_var) (lg_subN le_var)) (ls_seq (ls_asg (vs := [6]) (le_frz (le_call (x := xF P w K mg base A) (S := S_draw A) (la_cons le_var (la_cons le_int la_nil)))) (lg_name (by simp)))
        (ls_asg (vs := []) (le_frz (le_call (x := xF P w K mg base A) (S := S_draw A) (la_cons le_var (la_cons (le_frz (le_op o2_add (le_op o2_ix le_var le_int) le_var)) la_nil)))) (lg_sub2 le_var le_var))))) (ls_seq (ls_asg (vs := [5]) (le_frz (le_call (x := xF P w K mg base A) (S := S_draw A) (la_cons le_var (la_cons (le_cb on_len (la_cons le_var la_nil)) la_nil)))) (lg_name (by simp)))
        (ls_asg (vs := []) (le_frz (le_call (x := xF P w K mg base A) (S := S_draw A) (la_cons le_var (la_cons (le_frz (le_op o2_add (le_op o2_ix le_var le_int) le_nLen)) la_nil)))) (lg_sub le_var))))
        (ls_ret (le_tup (la_cons (le_op o2_ix le_var le_int) (la_cons (le_cb on_tuple (la_cons (le_lc (vs := [4]) (li_seq le_fzV) (lg_name (by simp)) lt_yes (le_cb on_tuple (la_cons le_var la_nil))) la_nil)) (la_cons (le_cb on_tuple (la_cons le_var la_nil)) la_nil)))))))
def d_added_b1 (A : Ads) : DS := (dSeq (dAsg (dOp fdivW (dOp addW (dOp addW (dOp ixW (dVar 0) (dVar 4)) (dOp ixW (dVar 1) (dVar 4))) (dVar 3)) (dC (.int 2))) (dgName 3))
    (dDrop (dApp 2 (dCons (dVar 3) dNil))))
def d_added (A : Ads) : DS := (dSeq (dPar 2 3 (dCons (dLst dNil) (dCons (dC (.int 0)) dNil)))
    (dSeq (dFor (diRng1 (dCons (dCB lenW (dCons (dVar 0) dNil)) dNil)) (dgName 4) (d_added_b1 A))
    (dRet (dCB tupleW (dCons (dVar 2) dNil)))))
abbrev S_added (A : Ads) : TSpec := specOf 2 5 (d_added A)
theorem ok_added (T : Txt w K mg A) (B : TabsB base mg A) : Df P w K mg base CX0 1 "_law_added" A.a_added ["first", "second"] (spT (xF P w K mg base A) (S_added A)) := by
  obtain ⟨fd, F, b⟩ := T.f_added
  refine ⟨⟨fd, fnG_of F sc_added spT_len fun cdv A0 outer s H vs Q E hcd hr h => ?_, b, At.of F⟩, F.kp, T.g_added⟩
  refine ⟨_, PSs.nox (pss_cons (ps_par (i := 2) (j := 3) rfl sc_added.nd rfl rfl (by decide) rfl rfl (pa_cons (pe_lst pa_nil) (pa_cons pe_int pa_nil)) (by rfl))
        (pss_cons (ps_for PassesOwn.never rfl (pi_range1 (by rfl) T.z_range (pa_cons (pe_callB (call_lenK (K := K)) (by rfl) T.z_len PySem.boot_len (pa_cons (pv 0) pa_nil)) pa_nil)) (pg_name (i := 4) sc_added.nd rfl (Or.inl rfl))
        (pss_cons (ps_set (i := 3) sc_added.nd rfl (Or.inl rfl) (pe_op op_fdiv (pe_op (op_addK (K := K)) (pe_op (op_addK (K := K)) (pe_ix (ix_K (K := K)) (pv 0) (pv 4) (fun _ _ => rfl)) (pe_ix (ix_K (K := K)) (pv 1) (pv 4) (fun _ _ => rfl))) (pv 3)) pe_int))
          (pss_one (ps_expr (pe_bm PySem.F.plainAttrs_list PySem.F.slot_list_append PySem.F.type_list_append mt_append (pv 2) (pa_cons (pv 3) pa_nil))))))
        (pss_one (ps_ret (pe_callTy (call_tupleK (K := K)) (by rfl) T.z_tuple (by decide +kernel) (pa_cons (pv 2) pa_nil)))))), ?_⟩
  refine def_run (x := xF P w K mg base A) (N := ["first", "second", "found", "carry", "k"]) (np := 2) (ds := d_added A) ?_ h
  unfold d_added
  exact (ls_seq (ls_par (la_cons (le_lst la_nil) (la_cons le_int la_nil)))
        (ls_seq (ls_for (vs := [4]) (li_rng1 (la_cons (le_cb on_len (la_cons le_var la_nil)) la_nil)) (lg_name (by simp)) (ls_seq (ls_asg (vs := [3]) (le_op o2_fdiv (le_op o2_add (le_op o2_add (le_op o2_ix le_var le_var) (le_op o2_ix le_var le_var)) le_var) le_int) (lg_name (by simp)))
        (ls_drop (le_app (la_cons le_var la_nil)))))
        (ls_ret (le_cb on_tuple (la_cons le_var la_nil)))))
def d_carried_b1 (A : Ads) : DS := (dDrop (dApp 5 (dCons (dIf (dTest (dOp neW (dOp ixW (dVar 5) (dOp ixW (dVar 6) (dC (.int 1)))) (dC (.int 0)))) (dOp ixW (dVar 5) (dOp ixW (dVar 6) (dC (.int 1)))) (dOp ixW (dVar 5) (dOp ixW (dVar 6) (dC (.int 0))))) dNil)))
def d_carried_r2 (A : Ads) : DS := (dSeq (dAsg (dCB listW (dCons (dVar 3) dNil)) (dgName 5))
    (dSeq (dFor (diSeq (dOp ixW (dVar 0) (dC (.int 1)))) (dgName 6) (d_carried_b1 A))
    (dRet (dCB tupleW (dCons (dLc (diSeq (dOp ixW (dVar 0) (dC (.int 2)))) (dgName 7) dYes (dIf (dTest (dOp eqW (dOp ixW (dVar 5) (dVar 7)) (dC (.int 1)))) (dC (.int 1)) (dC (.int 0))) [7]) dNil)))))
def d_carried (A : Ads) : DS := (dSeq (dAsg (dFrz (dLc (diRng1 (dCons (dCB lenW (dCons (dVar 1) dNil)) dNil)) (dgName 4) dYes (dIf (dTest (dOp eqW (dOp addW (dOp ixW (dVar 1) (dVar 4)) (dOp ixW (dVar 2) (dVar 4))) (dC (.int 2)))) (dC (.int 1)) (dIf (dTest (dOp eqW (dOp addW (dOp ixW (dVar 1) (dVar 4)) (dOp ixW (dVar 2) (dVar 4))) (dC (.int 0)))) (dC (.int 2)) (dC (.int 0)))) [4])) (dgName 3))
    (d_carried_r2 A))
abbrev S_carried (A : Ads) : TSpec := specOf 3 8 (d_carried A)
theorem ok_carried (T : Txt w K mg A) (B : TabsB base mg A) : Df P w K mg base CX0 1 "_law_carried" A.a_carried ["web", "first", "second"] (spT (xF P w K mg base A) (S_carried A)) := by
  obtain ⟨fd, F, b⟩ := T.f_carried
  refine ⟨⟨fd, fnG_of F sc_carried spT_len fun cdv A0 outer s H vs Q E hcd hr h => ?_, b, At.of F⟩, F.kp, T.g_carried⟩
  refine ⟨_, PSs.nox (pss_cons (ps_setLc (i := 3) (own := [("k", 4)]) (g := gName 4) (tt := tYes) rfl sc_carried.nd rfl rfl (sw_true rfl rfl rfl (by decide +kernel)) (pi_range1 (by rfl) T.z_range (pa_cons (pe_callB (call_lenK (K := K)) (by rfl) T.z_len PySem.boot_len (pa_cons (pv 1) pa_nil)) pa_nil)) (blkOk_by (own := [("k", 4)]) (N := ["web", "first", "second", "deeds", "k", "found", "pair", "tip"]) (sc := defScope s_carried) (by decide +kernel)) (fun _ _ _ _ _ => pg_name (i := 4) sc_carried.nd rfl (Or.inl rfl)) (fun _ _ _ _ _ => pts_nil) (fun _ _ _ _ _ => (pe_ifExp (pt_cmpR (op_eqK (K := K) hr) (pe_op (op_addK (K := K)) (pe_ix (ix_K (K := K)) (pv 1) (pv 4) (fun _ _ => rfl)) (pe_ix (ix_K (K := K)) (pv 2) (pv 4) (fun _ _ => rfl))) pe_int (nomark _)) pe_int (pe_ifExp (pt_cmpR (op_eqK (K := K) hr) (pe_op (op_addK (K := K)) (pe_ix (ix_K (K := K)) (pv 1) (pv 4) (fun _ _ => rfl)) (pe_ix (ix_K (K := K)) (pv 2) (pv 4) (fun _ _ => rfl))) pe_int (nomark _)) pe_int pe_int))))
        (pss_cons (ps_set (i := 5) sc_carried.nd rfl (Or.inr rfl) (pe_callTy (call_listK (K := K)) (by rfl) T.z_list (by decide +kernel) (pa_cons (pv 3) pa_nil)))
        (pss_cons (ps_for PassesOwn.never rfl (pi_K (K := K) (pe_ix (ix_K (K := K)) (pv 0) pe_int (fun _ _ => rfl))) (pg_name (i := 6) sc_carried.nd rfl (Or.inl rfl))
        (pss_one (ps_expr (pe_bm PySem.F.plainAttrs_list PySem.F.slot_list_append PySem.F.type_list_append mt_append (pv 5) (pa_cons (pe_ifExp (pt_cmpR (op_neK (K := K) hr) (pe_ix (ix_K (K := K)) (pv 5) (pe_ix (ix_K (K := K)) (pv 6) pe_int (fun _ _ => rfl)) (fun _ _ => rfl)) pe_int (nomark _)) (pe_ix (ix_K (K := K)) (pv 5) (pe_ix (ix_K (K := K)) (pv 6) pe_int (fun _ _ => rfl)) (fun _ _ => rfl)) (pe_ix (ix_K (K := K)) (pv 5) (pe_ix (ix_K (K := K)) (pv 6) pe_int (fun _ _ => rfl)) (fun _ _ => rfl))) pa_nil)))))
        (pss_one (ps_ret (pe_callTy (call_tupleK (K := K)) (by rfl) T.z_tuple (by decide +kernel) (pa_cons (pe_lc (own := [("tip", 7)]) (g := gName 7) (tt := tYes) rfl sc_carried.nd (pi_K (K := K) (pe_ix (ix_K (K := K)) (pv 0) pe_int (fun _ _ => rfl))) (blkOk_by (own := [("tip", 7)]) (N := ["web", "first", "second", "deeds", "k", "found", "pair", "tip"]) (sc := defScope s_carried) (by decide +kernel)) (fun _ _ _ _ _ => pg_name (i := 7) sc_carried.nd rfl (Or.inl rfl)) (fun _ _ _ _ _ => pts_nil) (fun _ _ _ _ _ => (pe_ifExp (pt_cmpR (op_eqK (K := K) hr) (pe_ix (ix_K (K := K)) (pv 5) (pv 7) (fun _ _ => rfl)) pe_int (nomark _)) pe_int pe_int))) pa_nil))))))), ?_⟩
  refine def_run (x := xF P w K mg base A) (N := ["web", "first", "second", "deeds", "k", "found", "pair", "tip"]) (np := 3) (ds := d_carried A) ?_ h
  unfold d_carried
  exact (ls_seq (ls_asg (vs := [3]) (le_frz (le_lc (vs := [4]) (li_rng1 (la_cons (le_cb on_len (la_cons le_var la_nil)) la_nil)) (lg_name (by simp)) lt_yes (le_if (lt_test (le_op o2_eq (le_op o2_add (le_op o2_ix le_var le_var) (le_op o2_ix le_var le_var)) le_int)) le_int (le_if (lt_test (le_op o2_eq (le_op o2_add (le_op o2_ix le_var le_var) (le_op o2_ix le_var le_var)) le_int)) le_int le_int)))) (lg_name (by simp)))
        (ls_seq (ls_asg (vs := [5]) (le_cb on_list (la_cons le_var la_nil)) (lg_name (by simp)))
        (ls_seq (ls_for (vs := [6]) (li_seq (le_op o2_ix le_var le_int)) (lg_name (by simp)) (ls_drop (le_app (la_cons (le_if (lt_test (le_op o2_ne (le_op o2_ix le_var (le_op o2_ix le_var le_int)) le_int)) (le_op o2_ix le_var (le_op o2_ix le_var le_int)) (le_op o2_ix le_var (le_op o2_ix le_var le_int))) la_nil))))
        (ls_ret (le_cb on_tuple (la_cons (le_lc (vs := [7]) (li_seq (le_op o2_ix le_var le_int)) (lg_name (by simp)) lt_yes (le_if (lt_test (le_op o2_eq (le_op o2_ix le_var le_var) le_int)) le_int le_int)) la_nil))))))
def d_runner (A : Ads) : DS := (dSeq (dAsg (dFrz (dOp addW (dC (.int 1)) (dCall (S_draw A) (dCons (dVar 0) (dCons (dVar 1) dNil))))) (dgName 2))
    (dSeq (dAsg (dFrz (dLc (diRng1 (dCons (dVar 2) dNil)) (dgName 4) dYes (dTup (dCons (dC (.int 0)) (dCons (dVar 4) dNil))) [4])) (dgName 3))
    (dSeq (dAsg (dFrz (dCall (S_web A) (dCons (dVar 0) (dCons (dVar 2) (dCons (dVar 3) (dCons (dFrz (dCall (S_pick A) (dCons (dVar 0) (dCons (dTup (dCons (dC (.str "last")) (dCons (dC (.str "any")) (dCons (dC (.str "last")) (dCons (dC (.str "last")) (dCons (dC (.str "sets")) (dCons (dC (.str "first")) (dCons (dC (.str "even")) (dCons (dC (.str "ends")) dNil))))))))) dNil)))) dNil)))))) (dgName 5))
    (dRet (dIf (dTest (dOp eqW (dCall (S_draw A) (dCons (dVar 0) (dCons (dC (.int 3)) dNil))) (dC (.int 0)))) (dCall (S_bent A) (dCons (dVar 0) (dCons (dVar 5) dNil))) (dVar 5))))))
abbrev S_runner (A : Ads) : TSpec := specOf 2 6 (d_runner A)
theorem ok_runner (T : Txt w K mg A) (B : TabsB base mg A) : Df P w K mg base CX0 11 "_law_runner" A.a_runner ["jar", "most"] (spT (xF P w K mg base A) (S_runner A)) := by
  obtain ⟨fd, F, b⟩ := T.f_runner
  refine ⟨⟨fd, fnG_of F sc_runner spT_len fun cdv A0 outer s H vs Q E hcd hr h => ?_, b, At.of F⟩, F.kp, T.g_runner⟩
  have d_bent := ok_bent (P := P) (w := w) (base := base) T B
  have d_draw := ok_draw (P := P) (w := w) (base := base) T B
  have d_pick := ok_pick (P := P) (w := w) (base := base) T B
  have d_web := ok_web (P := P) (w := w) (base := base) T B
  refine ⟨_, PSs.nox (pss_cons (ps_set (i := 2) sc_runner.nd rfl (Or.inl rfl) (pe_op (op_addK (K := K)) pe_int (pe_df d_draw hr (by decide) rfl pass0 (pa_cons (pv 0) (pa_cons (pv 1) pa_nil)))))
        (pss_cons (ps_setLc (i := 3) (own := [("k", 4)]) (g := gName 4) (tt := tYes) rfl sc_runner.nd rfl rfl (sw_true rfl rfl rfl (by decide +kernel)) (pi_range1 (by rfl) T.z_range (pa_cons (pv 2) pa_nil)) (blkOk_by (own := [("k", 4)]) (N := ["jar", "most", "many", "pairs", "k", "web"]) (sc := defScope s_runner) (by decide +kernel)) (fun _ _ _ _ _ => pg_name (i := 4) sc_runner.nd rfl (Or.inl rfl)) (fun _ _ _ _ _ => pts_nil) (fun _ _ _ _ _ => (pe_tup (pa_cons pe_int (pa_cons (pv 4) pa_nil)))))
        (pss_cons (ps_set (i := 5) sc_runner.nd rfl (Or.inl rfl) (pe_df d_web hr (by decide) rfl pass0 (pa_cons (pv 0) (pa_cons (pv 2) (pa_cons (pv 3) (pa_cons (pe_df d_pick hr (by decide) rfl pass0 (pa_cons (pv 0) (pa_cons (pe_tup (pa_cons pe_str (pa_cons pe_str (pa_cons pe_str (pa_cons pe_str (pa_cons pe_str (pa_cons pe_str (pa_cons pe_str (pa_cons pe_str pa_nil))))))))) pa_nil))) pa_nil))))))
        (pss_one (ps_ret (pe_ifExp (pt_cmpR (op_eqK (K := K) hr) (pe_df d_draw hr (by decide) rfl pass0 (pa_cons (pv 0) (pa_cons pe_int pa_nil))) pe_int (nomark _)) (pe_df d_bent hr (by decide) rfl pass0 (pa_cons (pv 0) (pa_cons (pv 5) pa_nil))) (pv 5))))))), ?_⟩
  refine def_run (x := xF P w K mg base A) (N := ["jar", "most", "many", "pairs", "k", "web"]) (np := 2) (ds := d_runner A) ?_ h
  unfold d_runner
  exact (ls_seq (ls_asg (vs := [2]) (le_frz (le_op o2_add le_int (le_call (x := xF P w K mg base A) (S := S_draw A) (la_cons le_var (la_cons le_var la_nil))))) (lg_name (by simp)))
        (ls_seq (ls_asg (vs := [3]) (le_frz (le_lc (vs := [4]) (li_rng1 (la_cons le_var la_nil)) (lg_name (by simp)) lt_yes (le_tup (la_cons le_int (la_cons le_var la_nil))))) (lg_name (by simp)))
        (ls_seq (ls_asg (vs := [5]) (le_frz (le_call (x := xF P w K mg base A) (S := S_web A) (la_cons le_var (la_cons le_var (la_cons le_var (la_cons (le_frz (le_call (x := xF P w K mg base A) (S := S_pick A) (la_cons le_var (la_cons (le_tup (la_cons le_str (la_cons le_str (la_cons le_str (la_cons le_str (la_cons le_str (la_cons le_str (la_cons le_str (la_cons le_str la_nil))))))))) la_nil)))) la_nil)))))) (lg_name (by simp)))
        (ls_ret (le_if (lt_test (le_op o2_eq (le_call (x := xF P w K mg base A) (S := S_draw A) (la_cons le_var (la_cons le_int la_nil))) le_int)) (le_call (x := xF P w K mg base A) (S := S_bent A) (la_cons le_var (la_cons le_var la_nil))) le_var)))))
def d_row_b1 (A : Ads) : DS := (dDrop (dApp 3 (dCons (dFrz (dCall (S_draw A) (dCons (dVar 0) (dCons (dVar 2) dNil)))) dNil)))
def d_row (A : Ads) : DS := (dSeq (dAsg (dLst dNil) (dgName 3))
    (dSeq (dFor (diRng1 (dCons (dVar 1) dNil)) (dgName 4) (d_row_b1 A))
    (dRet (dCB tupleW (dCons (dVar 3) dNil)))))
abbrev S_row (A : Ads) : TSpec := specOf 3 5 (d_row A)
theorem ok_row (T : Txt w K mg A) (B : TabsB base mg A) : Df P w K mg base CX0 2 "_law_row" A.a_row ["jar", "many", "size"] (spT (xF P w K mg base A) (S_row A)) := by
  obtain ⟨fd, F, b⟩ := T.f_row
  refine ⟨⟨fd, fnG_of F sc_row spT_len fun cdv A0 outer s H vs Q E hcd hr h => ?_, b, At.of F⟩, F.kp, T.g_row⟩
  have d_draw := ok_draw (P := P) (w := w) (base := base) T B
  refine ⟨_, PSs.nox (pss_cons (ps_set (i := 3) sc_row.nd rfl (Or.inl rfl) (pe_lst pa_nil))
        (pss_cons (ps_for PassesOwn.never rfl (pi_range1 (by rfl) T.z_range (pa_cons (pv 1) pa_nil)) (pg_name (i := 4) sc_row.nd rfl (Or.inl rfl))
        (pss_one (ps_expr (pe_bm PySem.F.plainAttrs_list PySem.F.slot_list_append PySem.F.type_list_append mt_append (pv 3) (pa_cons (pe_df d_draw hr (by decide) rfl pass0 (pa_cons (pv 0) (pa_cons (pv 2) pa_nil))) pa_nil)))))
        (pss_one (ps_ret (pe_callTy (call_tupleK (K := K)) (by rfl) T.z_tuple (by decide +kernel) (pa_cons (pv 3) pa_nil)))))), ?_⟩
  refine def_run (x := xF P w K mg base A) (N := ["jar", "many", "size", "found", "turn"]) (np := 3) (ds := d_row A) ?_ h
  unfold d_row
  exact (ls_seq (ls_asg (vs := [3]) (le_lst la_nil) (lg_name (by simp)))
        (ls_seq (ls_for (vs := [4]) (li_rng1 (la_cons le_var la_nil)) (lg_name (by simp)) (ls_drop (le_app (la_cons (le_frz (le_call (x := xF P w K mg base A) (S := S_draw A) (la_cons le_var (la_cons le_var la_nil)))) la_nil))))
        (ls_ret (le_cb on_tuple (la_cons le_var la_nil)))))
def d_summands (A : Ads) : DS := (dSeq (dPar 2 3 (dCons (dFrz (dCall (S_row A) (dCons (dVar 0) (dCons (dVar 1) (dCons (dC (.int 2)) dNil))))) (dCons (dFrz (dCall (S_row A) (dCons (dVar 0) (dCons (dVar 1) (dCons (dC (.int 2)) dNil))))) dNil)))
    (dSeq (dIfS (dTest (dOp gtW (dCall (S_draw A) (dCons (dVar 0) (dCons (dC (.int 3)) dNil))) (dC (.int 0)))) (dRet (dTup (dCons (dVar 2) (dCons (dVar 3) dNil)))) dNext)
    (dSeq (dPar 4 5 (dCons (dFrz (dCall (S_draw A) (dCons (dVar 0) (dCons (dVar 1) dNil)))) (dCons (dCB tupleW (dCons (dLc (diSeq (dVar 2)) (dgName 6) dYes (dOp subW (dC (.int 1)) (dVar 6)) [6]) dNil)) dNil)))
    (dRet (dTup (dCons (dVar 2) (dCons (dOp addW (dOp addW (dSl (dVar 5) dNoP (dPart (dVar 4))) (dTup (dCons (dOp ixW (dVar 2) (dVar 4)) dNil))) (dSl (dVar 5) (dPart (dOp addW (dVar 4) (dC (.int 1)))) dNoP)) dNil)))))))
abbrev S_summands (A : Ads) : TSpec := specOf 2 7 (d_summands A)
theorem ok_summands (T : Txt w K mg A) (B : TabsB base mg A) : Df P w K mg base CX0 3 "_law_summands" A.a_summands ["jar", "many"] (spT (xF P w K mg base A) (S_summands A)) := by
  obtain ⟨fd, F, b⟩ := T.f_summands
  refine ⟨⟨fd, fnG_of F sc_summands spT_len fun cdv A0 outer s H vs Q E hcd hr h => ?_, b, At.of F⟩, F.kp, T.g_summands⟩
  have d_draw := ok_draw (P := P) (w := w) (base := base) T B
  have d_row := ok_row (P := P) (w := w) (base := base) T B
  refine ⟨_, PSs.nox (pss_cons (ps_par (i := 2) (j := 3) rfl sc_summands.nd rfl rfl (by decide) rfl rfl (pa_cons (pe_df d_row hr (by decide) rfl pass0 (pa_cons (pv 0) (pa_cons (pv 1) (pa_cons pe_int pa_nil)))) (pa_cons (pe_df d_row hr (by decide) rfl pass0 (pa_cons (pv 0) (pa_cons (pv 1) (pa_cons pe_int pa_nil)))) pa_nil)) (by rfl))
        (pss_cons (ps_if (pt_cmpR op_gt (pe_df d_draw hr (by decide) rfl pass0 (pa_cons (pv 0) (pa_cons pe_int pa_nil))) pe_int (nomark _))
        (pss_one (ps_ret (pe_tup (pa_cons (pv 2) (pa_cons (pv 3) pa_nil)))))
        pss_nil)
        (pss_cons (ps_par (i := 4) (j := 5) rfl sc_summands.nd rfl rfl (by decide) rfl rfl (pa_cons (pe_df d_draw hr (by decide) rfl pass0 (pa_cons (pv 0) (pa_cons (pv 1) pa_nil))) (pa_cons (pe_callTy (call_tupleK (K := K)) (by rfl) T.z_tuple (by decide +kernel) (pa_cons (pe_lc (own := [("digit", 6)]) (g := gName 6) (tt := tYes) rfl sc_summands.nd (pi_K (K := K) (pv 2)) (blkOk_by (own := [("digit", 6)]) (N := ["jar", "many", "first", "second", "spot", "turned", "digit"]) (sc := defScope s_summands) (by decide +kernel)) (fun _ _ _ _ _ => pg_name (i := 6) sc_summands.nd rfl (Or.inl rfl)) (fun _ _ _ _ _ => pts_nil) (fun _ _ _ _ _ => (pe_op op_sub pe_int (pv 6)))) pa_nil)) pa_nil)) (by rfl))
        (pss_one (ps_ret (pe_tup (pa_cons (pv 2) (pa_cons (pe_op (op_addK (K := K)) (pe_op (op_addK (K := K)) (pe_slice (sl_K (K := K)) (pv 5) po_none (po_some (pv 4))) (pe_tup (pa_cons (pe_ix (ix_K (K := K)) (pv 2) (pv 4) (fun _ _ => rfl)) pa_nil))) (pe_slice (sl_K (K := K)) (pv 5) (po_some (pe_op (op_addK (K := K)) (pv 4) pe_int)) po_none)) pa_nil)))))))), ?_⟩
  refine def_run (x := xF P w K mg base A) (N := ["jar", "many", "first", "second", "spot", "turned", "digit"]) (np := 2) (ds := d_summands A) ?_ h
  unfold d_summands
  exact (ls_seq (ls_par (la_cons (le_frz (le_call (x := xF P w K mg base A) (S := S_row A) (la_cons le_var (la_cons le_var (la_cons le_int la_nil))))) (la_cons (le_frz (le_call (x := xF P w K mg base A) (S := S_row A) (la_cons le_var (la_cons le_var (la_cons le_int la_nil))))) la_nil)))
        (ls_seq (ls_if (lt_test (le_op o2_gt (le_call (x := xF P w K mg base A) (S := S_draw A) (la_cons le_var (la_cons le_int la_nil))) le_int)) (ls_ret (le_tup (la_cons le_var (la_cons le_var la_nil)))) ls_next)
        (ls_seq (ls_par (la_cons (le_frz (le_call (x := xF P w K mg base A) (S := S_draw A) (la_cons le_var (la_cons le_var la_nil)))) (la_cons (le_cb on_tuple (la_cons (le_lc (vs := [6]) (li_seq le_var) (lg_name (by simp)) lt_yes (le_op o2_sub le_int le_var)) la_nil)) la_nil)))
        (ls_ret (le_tup (la_cons le_var (la_cons (le_op o2_add (le_op o2_add (le_sl le_var lo_none (lo_some le_var)) (le_tup (la_cons (le_op o2_ix le_var le_var) la_nil))) (le_sl le_var (lo_some (le_op o2_add le_var le_int)) lo_none)) la_nil)))))))
def d_right_b1 (A : Ads) : DS := (dSeq (dAsg (dCall (S_summands A) (dCons (dVar 0) (dCons (dVar 3) dNil))) (dgTup 2 (dgCons (dgName 7) (dgCons (dgName 8) dgNil))))
    (dSeq (dAsg (dTup (dCons (dFrz (dCall (S_carries A) (dCons (dVar 1) (dCons (dFrz (dVar 7)) (dCons (dFrz (dVar 8)) dNil))))) (dCons (dFrz (dCall (S_added A) (dCons (dFrz (dVar 7)) (dCons (dFrz (dVar 8)) dNil)))) dNil))) (dgTup 2 (dgCons (dgName 9) (dgCons (dgName 10) dgNil))))
    (dSeq (dIfS (dTest (dOp neSW (dCB reprW (dCons (dVar 9) dNil)) (dCB reprW (dCons (dFrz (dCall (S_carried A) (dCons (dVar 1) (dCons (dFrz (dVar 7)) (dCons (dFrz (dVar 8)) dNil))))) dNil)))) (dRet (dC (.bool false))) dNext)
    (dSeq (dIfS (dTest (dOp neSW (dCB reprW (dCons (dFrz (dCallKw 3 (S_carries A) (fun ws : List Rv => [ws.getD 2 (.dat .none), ws.getD 1 (.dat .none), ws.getD 0 (.dat .none)]) (dCons (dFrz (dVar 8)) (dCons (dFrz (dVar 7)) (dCons (dVar 1) dNil))))) dNil)) (dCB reprW (dCons (dVar 9) dNil)))) (dRet (dC (.bool false))) dNext)
    (dIfS (dNot (dTest (dCB allW (dCons (dLc (diRng1 (dCons (dVar 3) dNil)) (dgName 5) (dTest (dOp ixW (dVar 4) (dVar 5))) (dOp eqSW (dCB reprW (dCons (dOp ixW (dVar 9) (dVar 5)) dNil)) (dCB reprW (dCons (dOp ixW (dVar 10) (dVar 5)) dNil))) [5]) dNil)))) (dRet (dC (.bool false))) dNext)))))
def d_right (A : Ads) : DS := (dSeq (dAsg (dFrz (dCall (S_runner A) (dCons (dVar 0) (dCons (dC (.int 8)) dNil)))) (dgName 1))
    (dSeq (dAsg (dTup (dCons (dFrz (dCall (S_words A) (dCons (dVar 1) dNil))) (dCons (dOp ixW (dVar 1) (dC (.int 0))) dNil))) (dgTup 2 (dgCons (dgName 2) (dgCons (dgName 3) dgNil))))
    (dSeq (dAsg (dFrz (dLc (diRng1 (dCons (dVar 3) dNil)) (dgName 5) dYes (dFrz (dCall (S_fits A) (dCons (dOp ixW (dVar 2) (dOp ixW (dOp ixW (dVar 1) (dC (.int 2))) (dVar 5))) (dCons (dVar 3) (dCons (dTup (dCons (dC (.int 0)) (dCons (dVar 5) dNil))) (dCons (dC (.str "last")) dNil)))))) [5])) (dgName 4))
    (dSeq (dFor (diRng1 (dCons (dC (.int 3)) dNil)) (dgName 6) (d_right_b1 A))
    (dRet (dC (.bool true)))))))
abbrev S_right (A : Ads) : TSpec := specOf 1 11 (d_right A)
theorem ok_right (T : Txt w K mg A) (B : TabsB base mg A) : Df P w K mg base CX0 12 "_law_right" A.a_right ["jar"] (spT (xF P w K mg base A) (S_right A)) := by
  obtain ⟨fd, F, b⟩ := T.f_right
  refine ⟨⟨fd, fnG_of F sc_right spT_len fun cdv A0 outer s H vs Q E hcd hr h => ?_, b, At.of F⟩, F.kp, T.g_right⟩
  have d_added := ok_added (P := P) (w := w) (base := base) T B
  have d_carried := ok_carried (P := P) (w := w) (base := base) T B
  have d_fits := ok_fits (P := P) (w := w) (base := base) T B
  have d_runner := ok_runner (P := P) (w := w) (base := base) T B
  have d_summands := ok_summands (P := P) (w := w) (base := base) T B
  have d_words := ok_words (P := P) (w := w) (base := base) T B
  have d_carries := ok_carries (P := P) (w := w) (base := base) T B
  refine ⟨_, PSs.nox (pss_cons (ps_set (i := 1) sc_right.nd rfl (Or.inr rfl) (pe_df d_runner hr (by decide) rfl pass0 (pa_cons (pv 0) (pa_cons pe_int pa_nil))))
        (pss_cons (ps_asg (pe_tup (pa_cons (pe_df d_words hr (by decide) rfl pass0 (pa_cons (pv 1) pa_nil)) (pa_cons (pe_ix (ix_K (K := K)) (pv 1) pe_int (fun _ _ => rfl)) pa_nil))) (pg_tup rfl (pgs_cons (pg_name (i := 2) sc_right.nd rfl (Or.inr rfl)) (pgs_cons (pg_name (i := 3) sc_right.nd rfl (Or.inr rfl)) pgs_nil))))
        (pss_cons (ps_set (i := 4) sc_right.nd rfl (Or.inr rfl) (pe_lc (own := [("k", 5)]) (g := gName 5) (tt := tYes) rfl sc_right.nd (pi_range1 (by rfl) T.z_range (pa_cons (pv 3) pa_nil)) (blkOk_by (own := [("k", 5)]) (N := ["jar", "web", "words", "many", "good", "k", "turn", "first", "second", "told", "sums"]) (sc := defScope s_right) (by decide +kernel)) (fun _ _ _ _ _ => pg_name (i := 5) sc_right.nd rfl (Or.inl rfl)) (fun _ _ _ _ _ => pts_nil) (fun _ _ _ _ _ => (pe_df d_fits hr (by decide) rfl pass0 (pa_cons (pe_ix (ix_K (K := K)) (pv 2) (pe_ix (ix_K (K := K)) (pe_ix (ix_K (K := K)) (pv 1) pe_int (fun _ _ => rfl)) (pv 5) (fun _ _ => rfl)) (fun _ _ => rfl)) (pa_cons (pv 3) (pa_cons (pe_tup (pa_cons pe_int (pa_cons (pv 5) pa_nil))) (pa_cons pe_str pa_nil))))))))
        (pss_cons (ps_for PassesOwn.never rfl (pi_range1 (by rfl) T.z_range (pa_cons pe_int pa_nil)) (pg_name (i := 6) sc_right.nd rfl (Or.inl rfl))
        (pss_cons (ps_asg (pe_df d_summands hr (by decide) rfl pass0 (pa_cons (pv 0) (pa_cons (pv 3) pa_nil))) (pg_tup rfl (pgs_cons (pg_name (i := 7) sc_right.nd rfl (Or.inl rfl)) (pgs_cons (pg_name (i := 8) sc_right.nd rfl (Or.inl rfl)) pgs_nil))))
          (pss_cons (ps_asg (pe_tup (pa_cons (pe_df d_carries hr (by decide) rfl pass0 (pa_cons (pv 1) (pa_cons (pv 7) (pa_cons (pv 8) pa_nil)))) (pa_cons (pe_df d_added hr (by decide) rfl pass0 (pa_cons (pv 7) (pa_cons (pv 8) pa_nil))) pa_nil))) (pg_tup rfl (pgs_cons (pg_name (i := 9) sc_right.nd rfl (Or.inr rfl)) (pgs_cons (pg_name (i := 10) sc_right.nd rfl (Or.inr rfl)) pgs_nil))))
          (pss_cons (ps_if (pt_cmpR (op_neK (K := K) hr) (pe_callB (call_reprK (K := K) hr) (by rfl) T.z_repr (by decide +kernel) (pa_cons (pv 9) pa_nil)) (pe_callB (call_reprK (K := K) hr) (by rfl) T.z_repr (by decide +kernel) (pa_cons (pe_df d_carried hr (by decide) rfl pass0 (pa_cons (pv 1) (pa_cons (pv 7) (pa_cons (pv 8) pa_nil)))) pa_nil)) (nomark _))
          (pss_one (ps_ret pe_bl))
          pss_nil)
          (pss_cons (ps_if (pt_cmpR (op_neK (K := K) hr) (pe_callB (call_reprK (K := K) hr) (by rfl) T.z_repr (by decide +kernel) (pa_cons (pe_dfk d_carries T.k_carries_two_one_net hr (by decide) rfl pass0 (pk_cons (pv 8) (pk_cons (pv 7) (pk_cons (pv 1) pk_nil)))) pa_nil)) (pe_callB (call_reprK (K := K) hr) (by rfl) T.z_repr (by decide +kernel) (pa_cons (pv 9) pa_nil)) (nomark _))
          (pss_one (ps_ret pe_bl))
          pss_nil)
          (pss_one (ps_if (pt_not (pt_val (pe_callB (call_allK (K := K) rfl) (by rfl) T.z_all (by decide +kernel) (pa_cons (pe_lc (own := [("k", 5)]) (g := gName 5) (tt := _) rfl sc_right.nd (pi_range1 (by rfl) T.z_range (pa_cons (pv 3) pa_nil)) (blkOk_by (own := [("k", 5)]) (N := ["jar", "web", "words", "many", "good", "k", "turn", "first", "second", "told", "sums"]) (sc := defScope s_right) (by decide +kernel)) (fun _ _ _ _ _ => pg_name (i := 5) sc_right.nd rfl (Or.inl rfl)) (fun _ _ _ _ _ => pts_one (pt_val (pe_ix (ix_K (K := K)) (pv 4) (pv 5) (fun _ _ => rfl)))) (fun _ _ _ _ _ => (pe_cmpR (op_eqK (K := K) hr) (pe_callB (call_reprK (K := K) hr) (by rfl) T.z_repr (by decide +kernel) (pa_cons (pe_ix (ix_K (K := K)) (pv 9) (pv 5) (fun _ _ => rfl)) pa_nil)) (pe_callB (call_reprK (K := K) hr) (by rfl) T.z_repr (by decide +kernel) (pa_cons (pe_ix (ix_K (K := K)) (pv 10) (pv 5) (fun _ _ => rfl)) pa_nil)) (nomark _)))) pa_nil))))
          (pss_one (ps_ret pe_bl))
          pss_nil)))))))
        (pss_one (ps_ret pe_bl)))))), ?_⟩
  refine def_run (x := xF P w K mg base A) (N := ["jar", "web", "words", "many", "good", "k", "turn", "first", "second", "told", "sums"]) (np := 1) (ds := d_right A) ?_ h
  unfold d_right
  exact (ls_seq (ls_asg (vs := [1]) (le_frz (le_call (x := xF P w K mg base A) (S := S_runner A) (la_cons le_var (la_cons le_int la_nil)))) (lg_name (by simp)))
        (ls_seq (ls_asg (vs := [2, 3]) (le_tup (la_cons (le_frz (le_call (x := xF P w K mg base A) (S := S_words A) (la_cons le_var la_nil))) (la_cons (le_op o2_ix le_var le_int) la_nil))) (lg_tup (lgs_cons (lg_name (by simp)) (lgs_cons (lg_name (by simp)) lgs_nil))))
        (ls_seq (ls_asg (vs := [4]) (le_frz (le_lc (vs := [5]) (li_rng1 (la_cons le_var la_nil)) (lg_name (by simp)) lt_yes (le_frz (le_call (x := xF P w K mg base A) (S := S_fits A) (la_cons (le_op o2_ix le_var (le_op o2_ix (le_op o2_ix le_var le_int) le_var)) (la_cons le_var (la_cons (le_tup (la_cons le_int (la_cons le_var la_nil))) (la_cons le_str la_nil)))))))) (lg_name (by simp)))
        (ls_seq (ls_for (vs := [6]) (li_rng1 (la_cons le_int la_nil)) (lg_name (by simp)) (ls_seq (ls_asg (vs := [7, 8]) (le_call (x := xF P w K mg base A) (S := S_summands A) (la_cons le_var (la_cons le_var la_nil))) (lg_tup (lgs_cons (lg_name (by simp)) (lgs_cons (lg_name (by simp)) lgs_nil))))
        (ls_seq (ls_asg (vs := [9, 10]) (le_tup (la_cons (le_frz (le_call (x := xF P w K mg base A) (S := S_carries A) (la_cons le_var (la_cons (le_frz le_var) (la_cons (le_frz le_var) la_nil))))) (la_cons (le_frz (le_call (x := xF P w K mg base A) (S := S_added A) (la_cons (le_frz le_var) (la_cons (le_frz le_var) la_nil)))) la_nil))) (lg_tup (lgs_cons (lg_name (by simp)) (lgs_cons (lg_name (by simp)) lgs_nil))))
        (ls_seq (ls_if (lt_test (le_op o2_neS (le_cb on_repr (la_cons le_var la_nil)) (le_cb on_repr (la_cons (le_frz (le_call (x := xF P w K mg base A) (S := S_carried A) (la_cons le_var (la_cons (le_frz le_var) (la_cons (le_frz le_var) la_nil))))) la_nil)))) (ls_ret le_bl) ls_next)
        (ls_seq (ls_if (lt_test (le_op o2_neS (le_cb on_repr (la_cons (le_frz (le_callKw (x := xF P w K mg base A) (ks := ["two", "one", "net"]) (S := S_carries A) (gR := (fun ws : List Rv => [ws.getD 2 (.dat .none), ws.getD 1 (.dat .none), ws.getD 0 (.dat .none)])) (la_cons (le_frz le_var) (la_cons (le_frz le_var) (la_cons le_var la_nil))) (fun ps hl => match ps, hl with | [p0, p1, p2], _ => ⟨[p2, p1, p0], by simp, fun _ => by simp only [cP]; omega, rfl, rfl⟩))) la_nil)) (le_cb on_repr (la_cons le_var la_nil)))) (ls_ret le_bl) ls_next)
        (ls_if (lt_not (lt_b (le_cb on_all (la_cons (le_lc (vs := [5]) (li_rng1 (la_cons le_var la_nil)) (lg_name (by simp)) (lt_b (le_op o2_ix le_var le_var)) (le_op o2_eqS (le_cb on_repr (la_cons (le_op o2_ix le_var le_var) la_nil)) (le_cb on_repr (la_cons (le_op o2_ix le_var le_var) la_nil)))) la_nil)))) (ls_ret le_bl) ls_next))))))
        (ls_ret le_bl)))))
def d_law_b1 (A : Ads) : DS := (dIfS (dNot (dTest (dCall (S_right A) (dCons (dCall (S_jar A) (dCons (dVar 0) (dCons (dVar 1) dNil))) dNil)))) (dRet (dC (.bool false))) dNext)
def d_law (A : Ads) : DS := (dSeq (dFor (diRng1 (dCons (dCB max2W (dCons (dC (.int 2)) (dCons (dCB min2W (dCons (dCB lenW (dCons (dVar 0) dNil)) (dCons (dC (.int 3)) dNil))) dNil))) dNil)) (dgName 1) (d_law_b1 A))
    (dRet (dC (.bool true))))
abbrev S_law (A : Ads) : TSpec := specOf 1 2 (d_law A)
theorem ok_law (T : Txt w K mg A) (B : TabsB base mg A) : Df P w K mg base CX0 13 "law" A.a_law ["script"] (spT (xF P w K mg base A) (S_law A)) := by
  obtain ⟨fd, F, b⟩ := T.f_law
  refine ⟨⟨fd, fnG_of F sc_law spT_len fun cdv A0 outer s H vs Q E hcd hr h => ?_, b, At.of F⟩, F.kp, T.g_law⟩
  have d_jar := ok_jar (P := P) (w := w) (base := base) T B
  have d_right := ok_right (P := P) (w := w) (base := base) T B
  refine ⟨_, PSs.nox (pss_cons (ps_for PassesOwn.never rfl (pi_range1 (by rfl) T.z_range (pa_cons (pe_callB (call_max2 rfl) (by rfl) T.z_max (by decide +kernel) (pa_cons pe_int (pa_cons (pe_callB (call_min2 rfl) (by rfl) T.z_min (by decide +kernel) (pa_cons (pe_callB (call_lenK (K := K)) (by rfl) T.z_len PySem.boot_len (pa_cons (pv 0) pa_nil)) (pa_cons pe_int pa_nil))) pa_nil))) pa_nil)) (pg_name (i := 1) sc_law.nd rfl (Or.inl rfl))
        (pss_one (ps_if (pt_not (pt_val (pe_df d_right hr (by decide) rfl pass0 (pa_cons (pe_df d_jar hr (by decide) rfl pass0 (pa_cons (pv 0) (pa_cons (pv 1) pa_nil))) pa_nil))))
          (pss_one (ps_ret pe_bl))
          pss_nil)))
        (pss_one (ps_ret pe_bl))), ?_⟩
  refine def_run (x := xF P w K mg base A) (N := ["script", "turn"]) (np := 1) (ds := d_law A) ?_ h
  unfold d_law
  exact (ls_seq (ls_for (vs := [1]) (li_rng1 (la_cons (le_cb on_max2 (la_cons le_int (la_cons (le_cb on_min2 (la_cons (le_cb on_len (la_cons le_var la_nil)) (la_cons le_int la_nil))) la_nil))) la_nil)) (lg_name (by simp)) (ls_if (lt_not (lt_b (le_call (x := xF P w K mg base A) (S := S_right A) (la_cons (le_call (x := xF P w K mg base A) (S := S_jar A) (la_cons le_var (la_cons le_var la_nil))) la_nil)))) (ls_ret le_bl) ls_next))
        (ls_ret le_bl))
end
end Kx

namespace Kx
open PySem PySem.Spec PyProof.Rows L2 My
section
variable {P : Program} {w : World} {K : PySem.W.Frag} {mg : Str → Option Value} {base : Heap} {A : Ads}
theorem forLoop_ind {src : Src} {all : List PyData} {g : DG} {body : DS} {D : EndsD} (I : Nat → Ev → Prop) {e : Ev} (h0 : I 0 e)
    (hs : ∀ i d e (Kc : Ev → Prop), all[i]? = some d → I i e → (∀ e', I (i + 1) e' → items e' src = some all ∧ Kc e') →
      g (.dat d) e fun e2 => body { nx := fun e3 => items e3 src = some all ∧ Kc e3, rt := D.rt, bk := D.nx, ct := fun e3 => items e3 src = some all ∧ Kc e3 } e2)
    (hi : ∀ i e, I i e → items e src = some all) (hd : ∀ e, I all.length e → D.nx e) : forLoop src all g body D all e := by
  have key : ∀ (ds : List PyData) (i : Nat) (e : Ev), ds = all.drop i → i + ds.length = all.length → I i e → forLoop src all g body D ds e := by
    intro ds
    induction ds with
    | nil =>
      intro i e h1 h2 h3
      have : i = all.length := by simpa using h2
      subst this
      exact hd e h3
    | cons d ds ih =>
      intro i e h1 h2 h3
      have e1 : all[i]? = some d := by
        have := congrArg (fun l => l[0]?) h1
        simpa using this.symm
      have e2 : ds = all.drop (i + 1) := by
        have := congrArg List.tail h1
        simpa [List.tail_drop] using this
      refine hs i d e (fun e3 => forLoop src all g body D ds e3) e1 h3 fun e' h4 => ⟨hi _ _ h4, ih (i + 1) e' e2 (by simp at h2; omega) h4⟩
  exact key all 0 e (by simp) (by simp) h0
theorem lc_ind {src : Src} {all : List PyData} {g : DG} {t : DT} {el : DE} {vs : List Nat} {fin : List PyData → Ev → Prop} (I : Nat → List PyData → Ev → Prop) {e : Ev} (h0 : I 0 [] e)
    (hs : ∀ i d acc e (Kc : List PyData → Ev → Prop), all[i]? = some d → I i acc e → (∀ acc' e', I (i + 1) acc' e' → items e' src = some all ∧ Kc acc' e') →
      g (.dat d) (wipeE e vs) fun e2 => t e2 fun b e3 => (b = true → el e3 fun r e4 => match r with
      | .dat y => acc.length < 100000 ∧ items (wipeE e4 vs) src = some all ∧ Kc (acc ++ [y]) (wipeE e4 vs)
      | _ => False) ∧ (b = false → items (wipeE e3 vs) src = some all ∧ Kc acc (wipeE e3 vs)))
    (hi : ∀ i acc e, I i acc e → items e src = some all) (hd : ∀ acc e, I all.length acc e → fin acc e) : lcLoop src all g t el vs fin all [] e := by
  have key : ∀ (ds : List PyData) (i : Nat) (acc : List PyData) (e : Ev), ds = all.drop i → i + ds.length = all.length → I i acc e → lcLoop src all g t el vs fin ds acc e := by
    intro ds
    induction ds with
    | nil =>
      intro i acc e h1 h2 h3
      have : i = all.length := by simpa using h2
      subst this
      exact hd acc e h3
    | cons d ds ih =>
      intro i acc e h1 h2 h3
      have e1 : all[i]? = some d := by
        have := congrArg (fun l => l[0]?) h1
        simpa using this.symm
      have e2 : ds = all.drop (i + 1) := by
        have := congrArg List.tail h1
        simpa [List.tail_drop] using this
      exact hs i d acc e (fun a e3 => lcLoop src all g t el vs fin ds a e3) e1 h3 fun acc' e' h4 => ⟨hi _ _ _ h4, ih (i + 1) acc' e' e2 (by simp at h2; omega) h4⟩
  exact key all 0 [] e (by simp) (by simp) h0
theorem le_sz {n : Nat} (h : Nat.ble n 100000 = true) : n ≤ 100000 := Nat.le_of_ble_eq_true h
theorem cut_take (ds : List PyData) (k : Nat) : My.cutD ds none (some (k : Int)) = ds.take k := by
  unfold My.cutD
  rw [HT.sIx_none, HT.sIx_nat, List.drop_zero, Nat.sub_zero]
  by_cases h : k ≤ ds.length
  · rw [Nat.min_eq_left h]
  · rw [Nat.min_eq_right (by omega), List.take_length, List.take_of_length_le (by omega)]
theorem j83 : (0 : Int) < 2147483423 := by decide
theorem j89 : (0 : Int) < 2147483489 := by decide
theorem j07 : (0 : Int) < 6007 := by decide
/-- the three numbers of a jar -/
def Jr (l : List PyData) : Prop := ∃ x y z : Int, l = [.int x, .int y, .int z] ∧ 0 ≤ x ∧ 0 ≤ y ∧ y < 2147483489
theorem mulR (i j : Int) (p : -(2 ^ 64) < j) (q : j < 2 ^ 64) : CMul i j := Or.inr ⟨p, q⟩
theorem mulL (i j : Int) (p : -(2 ^ 64) < i) (q : i < 2 ^ 64) : CMul i j := Or.inl ⟨p, q⟩
theorem m89 (i : Int) : 0 ≤ i % 2147483489 ∧ i % 2147483489 < 2147483489 := ⟨Int.emod_nonneg _ (by decide), Int.emod_lt_of_pos _ (by decide)⟩
theorem draw_spec {a : Addr} {l : List PyData} {n : Int} {k : Rv → List (List PyData) → Prop} (hl : Jr l) (h0 : 0 < n) (h1 : n ≤ 1000000) (h : ∀ j l', 0 ≤ j → j < n → Jr l' → k (.dat (.int j)) [l']) : S_draw A [.own false a l, .dat (.int n)] k := by
  obtain ⟨x, y, z, rfl, hx, hy, hy2⟩ := hl
  refine ⟨rfl, ?_⟩
  unfold d_draw
  have hd : CDiv x n := ⟨h0, by omega⟩
  have n0 : n ≠ 0 := by omega
  have q1 : 0 ≤ x % n := Int.emod_nonneg _ n0
  have q2 : x % n < n := Int.emod_lt_of_pos _ h0
  have q3 : 0 ≤ x / n := Int.ediv_nonneg hx (by omega)
  have yl : -(2 ^ 64) < y := by omega
  have yu : y < 2 ^ 64 := by omega
  refine ⟨rfl, _, rfl, fun hb => ?_, fun hb => ?_⟩
  · refine ⟨rfl, _, rfl, hd, ?_⟩
    refine ⟨rfl, ⟨_, _, _, rfl⟩, _, rfl, ?_⟩
    refine ⟨rfl, ?_⟩
    exact ⟨rfl, rfl, h _ _ q1 q2 ⟨_, _, _, rfl, q3, hy, hy2⟩⟩
  · refine ⟨rfl, _, rfl, ⟨_, _, _, rfl⟩, _, rfl, ?_⟩
    refine ⟨rfl, _, rfl, mulL _ _ yl yu, rfl, _, rfl, mulR _ _ (by decide) (by decide), j89, ?_⟩
    obtain ⟨b1, b2⟩ := m89 (y * 44497 + (z + 1) * 30011 + 7)
    refine ⟨j07, mulL _ _ (Int.lt_of_lt_of_le (by decide) b1) (Int.lt_trans b2 (by decide)), rfl, _, rfl, mulL _ _ (by decide) (by decide), j89, ⟨_, _, _, rfl⟩, _, rfl, ?_⟩
    obtain ⟨b3, b4⟩ := m89 ((y * 44497 + (z + 1) * 30011 + 7) % 2147483489 * ((y * 44497 + (z + 1) * 30011 + 7) % 2147483489 % 6007 + 40009) + 13 * (z + 1))
    refine ⟨rfl, _, rfl, ⟨by decide, by decide⟩, h0, ?_⟩
    exact ⟨rfl, rfl, h _ _ (Int.emod_nonneg _ n0) (Int.emod_lt_of_pos _ h0) ⟨_, _, _, rfl, hx, b3, b4⟩⟩
theorem jar_spec {ns : List Int} {t : Nat} {k : Rv → List (List PyData) → Prop} (ht : t ≤ 100) (h : ∀ a l, Jr l → k (.own true a l) []) : S_jar A [.dat (scr (ns.map .int)), .dat (.int (t : Int))] k := by
  refine ⟨rfl, ?_⟩
  unfold d_jar
  have key : ∀ c : Int, d_jar_r2 A
    { nx := fun e => outK [.dat (scr (ns.map .int)), .dat (.int (t : Int))] k (.dat .none) e, rt := fun r e => outK [.dat (scr (ns.map .int)), .dat (.int (t : Int))] k r e } [some (.dat (scr (ns.map .int))), some (.dat (.int (t : Int))), some (.dat (.int c)), none, none] := fun c => by
    unfold d_jar_r2
    refine ⟨mulL _ _ (by decide) (by decide), ?_⟩
    intro p
    refine ⟨_, rfl, ?_⟩
    rw [show (9 : Int) = ((9 : Nat) : Int) from rfl, cut_take, ← List.map_take]
    generalize ns.take 9 = ms
    refine forLoop_ind (fun _ e => ∃ m o, e = [some (.dat (scr (ns.map .int))), some (.dat (.int (t : Int))), some (.dat (.int c)), some (.dat (.int m)), o]) ⟨_, _, rfl⟩ (fun i d e Kc hd hI hK => ?_) (fun i e hI => ?_) (fun e hI => ?_)
    · obtain ⟨m, o, rfl⟩ := hI
      rw [List.getElem?_map] at hd
      obtain ⟨v, _, rfl⟩ := Option.map_eq_some_iff.mp hd
      refine ⟨mulR _ _ (by decide) (by decide), j83, j89, ?_⟩
      exact hK _ ⟨_, _, rfl⟩
    · rfl
    · obtain ⟨m, o, rfl⟩ := hI
      refine ⟨j83, mulR _ _ (by decide) (by decide), j89, ?_⟩
      obtain ⟨b1, b2⟩ := m89 (m + c % 2147483423 * 51437)
      have ab : 0 ≤ (if c < 0 then -c else c) := by split <;> omega
      refine ⟨fun _ => ⟨fun _ => ?_, fun z => (Bool.noConfusion z)⟩, fun _ => ?_⟩
      · exact ⟨le_sz rfl, fun a => ⟨rfl, h a _ ⟨_, _, _, rfl, ab, b1, b2⟩⟩⟩
      · refine ⟨⟨by decide, by decide, by decide⟩, fun _ => ?_, fun _ => ?_⟩
        · exact ⟨le_sz rfl, fun a => ⟨rfl, h a _ ⟨_, _, _, rfl, ab, b1, b2⟩⟩⟩
        · exact ⟨le_sz rfl, fun a => ⟨rfl, h a _ ⟨_, _, _, rfl, by decide, b1, b2⟩⟩⟩
  refine ⟨fun hb => ?_, fun hb => key _⟩
  have hb : (t : Int) < ((ns.map PyData.int).length : Int) := of_decide_eq_true hb
  have ht : t < ns.length := by rw [List.length_map] at hb; omega
  refine ⟨.int ns[t], ?_, key _⟩
  refine atI_of ?_
  rw [List.getElem?_map, List.getElem?_eq_getElem ht]
  rfl

end
end Kx

namespace Kx
open PySem PySem.Spec PyProof.Rows L2 My
section
variable {P : Program} {w : World} {K : PySem.W.Frag} {mg : Str → Option Value} {base : Heap} {A : Ads}
theorem noF {p : Prop} (h : false = true) : p := (Bool.false_ne_true h).elim
theorem noT {p : Prop} (h : true = false) : p := (Bool.false_ne_true h.symm).elim

theorem v_next {D : EndsD} {e : Ev} (h : D.nx e) : dNext D e := h
theorem rng0 (n : Nat) : ((List.range ((n : Int)).toNat).map fun i : Nat => PyData.int (0 + (i : Int) * 1)) = (List.range n).map nI := by
  rw [Int.toNat_natCast]
  exact List.map_congr_left fun i _ => by show PyData.int _ = PyData.int _; rw [Int.zero_add, Int.mul_one]
/-- a comprehension whose turns leave the names as they stand -/
theorem lc_all {α : Type} (xs : List α) {enc f : α → PyData} {src : Src} {all : List PyData} {g : DG} {el : DE} {vs : List Nat} {fin : List PyData → Ev → Prop} {e : Ev} (ha : all = xs.map enc) (hi : items e src = some all) (hl : xs.length ≤ 90000)
    (h : ∀ (i : Nat) (x : α), xs[i]? = some x → ∀ (Kc : Rv → Ev → Prop) (Kn : Ev → Prop), (∀ e4, wipeE e4 vs = e → Kc (.dat (f x)) e4) → g (.dat (enc x)) (wipeE e vs) fun e2 => dYes e2 fun b e3 => (b = true → el e3 Kc) ∧ (b = false → Kn e3)) (hd : fin (xs.map f) e) : lcLoop src all g dYes el vs fin all [] e := by
  subst ha
  refine lc_ind (fun i acc e' => acc = (xs.take i).map f ∧ e' = e) ⟨rfl, rfl⟩ (fun i d acc e' Kc hd' hI hK => ?_) (fun i acc e' hI => ?_) (fun acc e' hI => ?_)
  · obtain ⟨rfl, rfl⟩ := hI
    rw [List.getElem?_map] at hd'
    obtain ⟨x, hx, rfl⟩ := Option.map_eq_some_iff.mp hd'
    have hlt : i < xs.length := (List.getElem?_eq_some_iff.mp hx).1
    have e5 : (xs.take (i + 1)).map f = (xs.take i).map f ++ [f x] := by
      rw [List.take_add_one, hx, Option.toList_some, List.map_append]
      rfl
    have lt : ((xs.take i).map f).length < 100000 := by
      rw [List.length_map, List.length_take]
      omega
    exact h i x hx (fun r e4 => match r with
      | .dat y => ((xs.take i).map f).length < 100000 ∧ items (wipeE e4 vs) src = some (xs.map enc) ∧ Kc ((xs.take i).map f ++ [y]) (wipeE e4 vs)
      | _ => False) (fun e3 => items (wipeE e3 vs) src = some (xs.map enc) ∧ Kc ((xs.take i).map f) (wipeE e3 vs)) (fun e4 h4 => ⟨lt, by rw [h4]; exact hK _ _ ⟨e5.symm, rfl⟩⟩)
  · rw [hI.2]
    exact hi
  · obtain ⟨rfl, rfl⟩ := hI
    rw [List.length_map, List.take_length]
    exact hd
/-- .. with a test -/
theorem lc_fil {α : Type} (xs : List α) (p : α → Bool) {enc f : α → PyData} {src : Src} {all : List PyData} {g : DG} {t : DT} {el : DE} {vs : List Nat} {fin : List PyData → Ev → Prop} {e : Ev} (ha : all = xs.map enc) (hi : items e src = some all) (hl : xs.length ≤ 90000)
    (h : ∀ (i : Nat) (x : α), xs[i]? = some x → ∀ (Kc : Rv → Ev → Prop) (Kn : Ev → Prop), (p x = true → ∀ e4, wipeE e4 vs = e → Kc (.dat (f x)) e4) → (p x = false → ∀ e4, wipeE e4 vs = e → Kn e4) → g (.dat (enc x)) (wipeE e vs) fun e2 => t e2 fun b e3 => (b = true → el e3 Kc) ∧ (b = false → Kn e3)) (hd : fin ((xs.filter p).map f) e) : lcLoop src all g t el vs fin all [] e := by
  subst ha
  refine lc_ind (fun i acc e' => acc = ((xs.take i).filter p).map f ∧ e' = e) ⟨rfl, rfl⟩ (fun i d acc e' Kc hd' hI hK => ?_) (fun i acc e' hI => ?_) (fun acc e' hI => ?_)
  · obtain ⟨rfl, rfl⟩ := hI
    rw [List.getElem?_map] at hd'
    obtain ⟨x, hx, rfl⟩ := Option.map_eq_some_iff.mp hd'
    have hlt : i < xs.length := (List.getElem?_eq_some_iff.mp hx).1
    have lf := List.length_filter_le p (xs.take i)
    have lt : (((xs.take i).filter p).map f).length < 100000 := by
      rw [List.length_map]
      rw [List.length_take] at lf
      omega
    have e5 : xs.take (i + 1) = xs.take i ++ [x] := by
      rw [List.take_add_one, hx, Option.toList_some]
    refine h i x hx (fun r e4 => match r with
      | .dat y => (((xs.take i).filter p).map f).length < 100000 ∧ items (wipeE e4 vs) src = some (xs.map enc) ∧ Kc (((xs.take i).filter p).map f ++ [y]) (wipeE e4 vs)
      | _ => False) (fun e4 => items (wipeE e4 vs) src = some (xs.map enc) ∧ Kc (((xs.take i).filter p).map f) (wipeE e4 vs)) (fun hp e4 h4 => ?_) (fun hp e4 h4 => ?_)
    · rw [h4]
      refine ⟨lt, hK _ _ ⟨?_, rfl⟩⟩
      rw [e5, List.filter_append, List.map_append, List.filter_cons, if_pos hp]
      rfl
    · rw [h4]
      refine hK _ _ ⟨?_, rfl⟩
      rw [e5, List.filter_append, List.filter_cons, if_neg (by rw [hp]; decide), List.filter_nil, List.append_nil]
  · rw [hI.2]
    exact hi
  · obtain ⟨rfl, rfl⟩ := hI
    rw [List.length_map, List.take_length]
    exact hd
/-- a loop over what is made of xs -/
theorem for_all {α : Type} (xs : List α) {enc : α → PyData} {src : Src} {all : List PyData} {g : DG} {body : DS} {D : EndsD} (ha : all = xs.map enc) (I : Nat → Ev → Prop) {e : Ev} (h0 : I 0 e)
    (hs : ∀ (i : Nat) (x : α) e (Kc : Ev → Prop), xs[i]? = some x → I i e → (∀ e', I (i + 1) e' → items e' src = some all ∧ Kc e') →
      g (.dat (enc x)) e fun e2 => body { nx := fun e3 => items e3 src = some all ∧ Kc e3, rt := D.rt, bk := D.nx, ct := fun e3 => items e3 src = some all ∧ Kc e3 } e2)
    (hi : ∀ i e, I i e → items e src = some all) (hd : ∀ e, I xs.length e → D.nx e) : forLoop src all g body D all e := by
  subst ha
  refine forLoop_ind I h0 (fun i d e Kc hd' hI hK => ?_) hi (fun e hI => hd e (by rwa [List.length_map] at hI))
  rw [List.getElem?_map] at hd'
  obtain ⟨x, hx, rfl⟩ := Option.map_eq_some_iff.mp hd'
  exact hs i x e Kc hx hI hK

/-- a kind -/
def KindOk (x : PyData) : Prop := x = .str "any" ∨ x = .str "even" ∨ x = .str "first" ∨ x = .str "last" ∨ x = .str "sets" ∨ x = .str "ends" ∨ ∃ m : Nat, x = .int (m : Int) ∧ 2 ≤ m ∧ m ≤ 8
theorem KindOk.flat {x : PyData} (h : KindOk x) : flatD x = true := by
  rcases h with rfl | rfl | rfl | rfl | rfl | rfl | ⟨m, rfl, _, _⟩ <;> rfl

theorem shaped_str (s : String) : SeqAt.shaped (.str (Str.ofString s)) = true := by
  show (PyData.strOk _ && decide (PyData.depth _ ≤ 64)) = true
  rw [strOk_of]
  rfl
theorem eqv_ss (a b : Str) : PyData.eqv (.str a) (.str b) = true ↔ PyData.str a = .str b := by simp [PyData.eqv]
theorem eqv_is (i : Int) (b : Str) : PyData.eqv (.int i) (.str b) = true ↔ PyData.int i = .str b := by simp [PyData.eqv]
theorem eqK {x : PyData} (h : KindOk x) (s : String) : um x = x ∧ SeqAt.shaped x = true ∧ (PyData.eqv x (.str (Str.ofString s)) = true ↔ x = .str (Str.ofString s)) := by
  rcases h with rfl | rfl | rfl | rfl | rfl | rfl | ⟨m, rfl, _, _⟩
  all_goals first
    | exact ⟨rfl, shaped_str _, eqv_ss _ _⟩
    | exact ⟨rfl, rfl, eqv_is _ _⟩
/-- x == 'any', as a test -/
theorem eqK_test {x : PyData} (h : KindOk x) {s : String} {k : Rx → Prop} (q : ∀ b : Bool, (b = true → x = .str (Str.ofString s)) → (b = false → x ≠ .str (Str.ofString s)) → k (.dt (.bool b))) : eqW x (.str (Str.ofString s)) k := by
  obtain ⟨h1, h2, h3⟩ := eqK h s
  exact ⟨x, _, h1, rfl, h2, shaped_str s, q _ (fun e => h3.mp e) fun e z => Bool.false_ne_true (e.symm.trans (h3.mpr z))⟩
theorem kind_in {x : PyData} (hx : KindOk x) : ((["int", "str"] : List String).any fun t => decide (t = tyD x)) = true ∧ ([.str "any", .str "even", .int 2, .int 3, .int 4, .int 5, .int 6, .int 7, .int 8, .str "first", .str "last", .str "sets", .str "ends"].any fun y => PyData.eqv y x) = true := by
  rcases hx with rfl | rfl | rfl | rfl | rfl | rfl | ⟨m, rfl, m2, m8⟩
  · exact ⟨rfl, rfl⟩
  · exact ⟨rfl, rfl⟩
  · exact ⟨rfl, rfl⟩
  · exact ⟨rfl, rfl⟩
  · exact ⟨rfl, rfl⟩
  · exact ⟨rfl, rfl⟩
  · refine ⟨rfl, ?_⟩
    obtain rfl | rfl | rfl | rfl | rfl | rfl | rfl : m = 2 ∨ m = 3 ∨ m = 4 ∨ m = 5 ∨ m = 6 ∨ m = 7 ∨ m = 8 := by omega
    all_goals rfl
theorem kind_ok {x : PyData} {k : Rv → List (List PyData) → Prop} (hx : KindOk x) (h : k (.dat (.bool true)) []) : S_is_kind A [.dat x] k := by
  obtain ⟨h1, h2⟩ := kind_in hx
  refine ⟨rfl, ?_⟩
  unfold d_is_kind
  refine ⟨by decide, fun _ => ⟨hx.flat, rfl, rfl, ?_⟩, fun e => absurd h1 (by rw [e]; decide)⟩
  have h' : k (.dat (.bool ([.str "any", .str "even", .int 2, .int 3, .int 4, .int 5, .int 6, .int 7, .int 8, .str "first", .str "last", .str "sets", .str "ends"].any fun y => PyData.eqv y x))) [] := by rw [h2]; exact h
  exact h'
theorem check_kind_ok {x : PyData} {k : Rv → List (List PyData) → Prop} (hx : KindOk x) (h : k (.dat .none) []) : S_check_kind A [.dat x] k := by
  refine ⟨rfl, ?_⟩
  unfold d_check_kind
  exact ⟨rfl, kind_ok hx ⟨noF, fun _ => h⟩⟩

end
end Kx

namespace Kx
open PySem PySem.Spec PyProof.Rows L2 My
section
variable {P : Program} {w : World} {K : PySem.W.Frag} {mg : Str → Option Value} {base : Heap} {A : Ads}
theorem v_dgn {i : Nat} {d : PyData} {e : Ev} {Q : Ev → Prop} (h : Q (e.set i (some (.dat d)))) : dgName i (.dat d) e Q := h
theorem nat_tst {x y : Nat} {k : Rx → Prop} (q1 : x = y → k (.dt (.bool true))) (q2 : x ≠ y → k (.dt (.bool false))) : eqW (nI x) (nI y) k := by
  refine ⟨nI x, nI y, rfl, rfl, rfl, rfl, ?_⟩
  have e : PyData.eqv (nI x) (nI y) = decide (x = y) := by
    show PyData.eqv (.int (x : Int)) (.int (y : Int)) = _
    by_cases h : x = y
    · subst h
      simp [PyData.eqv]
    · rw [decide_eq_false h]
      simp [PyData.eqv]
      omega
  rw [e]
  by_cases h : x = y
  · rw [decide_eq_true h]
    exact q1 h
  · rw [decide_eq_false h]
    exact q2 h
abbrev eBs (bs : List (Nat × Nat)) : List PyData := bs.map encB
theorem nd_len {α : Type} [DecidableEq α] : ∀ {xs ys : List α}, xs.Nodup → (∀ x ∈ xs, x ∈ ys) → xs.length ≤ ys.length
  | [], _, _, _ => Nat.zero_le _
  | x :: xs, ys, nd, h => by
    have hx := h x List.mem_cons_self
    have nd := List.nodup_cons.mp nd
    have := nd_len (xs := xs) (ys := ys.erase x) nd.2 fun y hy => (List.mem_erase_of_ne fun e => nd.1 (by rw [← e]; exact hy)).mpr (h y (List.mem_cons_of_mem _ hy))
    rw [List.length_erase_of_mem hx] at this
    have := List.length_pos_of_mem hx
    rw [List.length_cons]
    omega
theorem mget_mem {mp : Mp} {k : Int × Int} {w : Int} (h : mget mp k = some w) : (k, w) ∈ mp := by
  unfold mget at h
  obtain ⟨p, hp, e⟩ := Option.map_eq_some_iff.mp h
  have h1 := List.mem_of_find?_eq_some hp
  have h2 : p.1 = k := of_decide_eq_true (List.find?_some (p := fun kv : (Int × Int) × Int => decide (kv.1 = k)) hp)
  rw [← h2, ← e]
  exact h1
theorem mget_none {mp : Mp} {k : Int × Int} (h : mget mp k = none) : k ∉ mp.map (·.1) := fun z => by
  obtain ⟨p, hp, e⟩ := List.mem_map.mp z
  have := List.find?_eq_none.mp (Option.map_eq_none_iff.mp h) p hp
  exact this (decide_eq_true e)
theorem mput_new {mp : Mp} {k : Int × Int} {w : Int} (h : k ∉ mp.map (·.1)) : mput mp k w = mp ++ [(k, w)] := by
  unfold mput
  rw [if_neg]
  intro z
  obtain ⟨p, hp, e⟩ := List.any_eq_true.mp z
  exact h (List.mem_map.mpr ⟨p, hp, of_decide_eq_true e⟩)
theorem mget_new {mp : Mp} {k : Int × Int} {w : Int} (h : k ∉ mp.map (·.1)) : mget (mp ++ [(k, w)]) k = some w := by
  unfold mget
  rw [List.find?_append, List.find?_eq_none.mpr fun p hp z => h (List.mem_map.mpr ⟨p, hp, of_decide_eq_true z⟩), Option.none_or, List.find?_cons, decide_eq_true rfl]
  rfl
def rkL (n : Nat) (rl : List Nat) (i : Nat) : Nat := if i < n then 0 else rl.getD (i - n) 0
theorem rkL_app {n i : Nat} {rl mr : List Nat} (h : i < n + rl.length) : rkL n (rl ++ mr) i = rkL n rl i := by
  unfold rkL
  by_cases c : i < n
  · rw [if_pos c, if_pos c]
  · rw [if_neg c, if_neg c, List.getD_eq_getElem?_getD, List.getD_eq_getElem?_getD, List.getElem?_append_left (by omega)]
/-- a state that lays stretches: its boxes, its dict, how deep each box may be -/
structure LSt (n : Nat) (bs : List (Nat × Nat)) (mp : Mp) (rl : List Nat) : Prop where
  bo : boxOk n 0 bs
  ln : rl.length = bs.length
  rk : ∀ t b, bs[t]? = some b → rkL n rl b.1 < rl.getD t 0 ∧ rkL n rl b.2 < rl.getD t 0
  rn : ∀ r ∈ rl, r < n
  ml : bs.length = mp.length
  kd : (mp.map (·.1)).Nodup
  me : ∀ p ∈ mp, ∃ l h w : Nat, p = (((l : Int), (h : Int)), (w : Int)) ∧ l < h ∧ h < n ∧ w < n + bs.length ∧ rkL n rl w ≤ h - l
def prs (n : Nat) : List (Int × Int) := (List.range n).flatMap fun h => (List.range h).map fun (l : Nat) => ((l : Int), (h : Int))
theorem prs_len : ∀ n ≤ 8, (prs n).length ≤ 28 := by decide +kernel
theorem LSt.len {n : Nat} {bs : List (Nat × Nat)} {mp : Mp} {rl : List Nat} (S : LSt n bs mp rl) (n8 : n ≤ 8) : bs.length ≤ 28 := by
  have := nd_len S.kd (ys := prs n) fun x hx => by
    obtain ⟨p, hp, rfl⟩ := List.mem_map.mp hx
    obtain ⟨l, h, w, rfl, h1, h2, _⟩ := S.me p hp
    exact List.mem_flatMap.mpr ⟨h, List.mem_range.mpr h2, List.mem_map.mpr ⟨l, List.mem_range.mpr h1, rfl⟩⟩
  rw [List.length_map] at this
  have := prs_len n n8
  have := S.ml
  omega
theorem LSt.nil (n : Nat) : LSt n [] [] [] := ⟨trivial, rfl, fun t b h => by simp at h, nofun, rfl, .nil, nofun⟩
theorem LSt.more {n lo hi i j : Nat} {bs : List (Nat × Nat)} {mp : Mp} {rl : List Nat} (S : LSt n bs mp rl) (hlh : lo < hi) (hn : hi < n) (hk : ((lo : Int), (hi : Int)) ∉ mp.map (·.1)) (i1 : i < n + bs.length) (j1 : j < n + bs.length) (i2 : rkL n rl i < hi - lo) (j2 : rkL n rl j < hi - lo) :
    LSt n (bs ++ [(i, j)]) (mp ++ [(((lo : Int), (hi : Int)), ((n + bs.length : Nat) : Int))]) (rl ++ [hi - lo]) := by
  have ln := S.ln
  have nw : rkL n (rl ++ [hi - lo]) (n + bs.length) = hi - lo := by
    unfold rkL
    rw [if_neg (by omega), List.getD_eq_getElem?_getD, List.getElem?_append_right (by omega), show n + bs.length - n - rl.length = 0 by omega]
    rfl
  refine ⟨boxOk_snoc S.bo (by simpa using i1) (by simpa using j1), by rw [List.length_append, List.length_append, ln]; rfl, fun t b h => ?_, fun r hr => ?_, by rw [List.length_append, List.length_append, S.ml]; rfl, ?_, fun p hp => ?_⟩
  · by_cases c : t < bs.length
    · rw [List.getElem?_append_left c] at h
      obtain ⟨a1, a2⟩ := boxOk_get (i := t) S.bo h
      obtain ⟨b1, b2⟩ := S.rk t b h
      rw [rkL_app (by omega), rkL_app (by omega), List.getD_eq_getElem?_getD, List.getElem?_append_left (by omega), ← List.getD_eq_getElem?_getD]
      exact ⟨b1, b2⟩
    · rw [List.getElem?_append_right (by omega)] at h
      have z : t - bs.length = 0 := by
        have := (List.getElem?_eq_some_iff.mp h).1
        simp at this
        omega
      rw [z] at h
      cases h
      rw [rkL_app (by omega), rkL_app (by omega), List.getD_eq_getElem?_getD, List.getElem?_append_right (by omega), show t - rl.length = 0 by omega]
      exact ⟨i2, j2⟩
  · rcases List.mem_append.mp hr with hr | hr
    · exact S.rn r hr
    · rw [List.mem_singleton.mp hr]
      omega
  · rw [List.map_append]
    refine List.nodup_append.mpr ⟨S.kd, List.nodup_cons.mpr ⟨nofun, .nil⟩, fun a ha b hb e => hk ?_⟩
    have hb : b = ((lo : Int), (hi : Int)) := List.mem_singleton.mp hb
    rw [← hb, ← e]
    exact ha
  · rcases List.mem_append.mp hp with hp | hp
    · obtain ⟨l, h, w, e, h1, h2, h3, h4⟩ := S.me p hp
      exact ⟨l, h, w, e, h1, h2, by rw [List.length_append]; omega, by rw [rkL_app (by omega)]; exact h4⟩
    · rw [List.mem_singleton.mp hp]
      exact ⟨lo, hi, n + bs.length, rfl, hlh, hn, by rw [List.length_append, List.length_singleton]; omega, Nat.le_of_eq nw⟩
/-- keys that came to it are of stretches so long at most -/
def Keys (mp mp' : Mp) (d : Nat) : Prop := ∀ x ∈ mp'.map (·.1), x ∈ mp.map (·.1) ∨ x.2 - x.1 ≤ (d : Int)
theorem S_laid_succ (n : Nat) : S_laid A (n + 1) = specOf 4 9 (d_laid A (S_laid A n)) := rfl
theorem laid_spec {a s : Addr} {ad : List Addr} {sd : PyData} (hs : KindOk sd) : ∀ (d : Nat) {n lo hi : Nat} {l : List PyData} {bs : List (Nat × Nat)} {mp : Mp} {rl : List Nat} {k : Rv → List (List PyData) → Prop}, Jr l → n ≤ 8 → LSt n bs mp rl → lo ≤ hi → hi < n → hi - lo ≤ d →
    (∀ (w : Nat) l' bs' mp' rl', Jr l' → LSt n bs' mp' rl' → (∃ mb mr, bs' = bs ++ mb ∧ rl' = rl ++ mr) → w < n + bs'.length → rkL n rl' w ≤ hi - lo → Keys mp mp' (hi - lo) → k (.dat (nI w)) [l', stD n (eBs bs') mp' sd]) →
    S_laid A (d + 1) [.own false a l, .st false RS s ad (stD n (eBs bs) mp sd), .dat (nI lo), .dat (nI hi)] k := by
  intro d
  induction d with
  | zero =>
    intro n lo hi l bs mp rl k hl n8 S h1 h2 h3 q
    have e : lo = hi := by omega
    rw [S_laid_succ]
    generalize S_laid A 0 = SL
    refine ⟨rfl, ?_⟩
    unfold d_laid
    refine nat_tst (fun _ => ⟨fun _ => ?_, noT⟩) fun z => absurd e z
    exact ⟨rfl, rfl, ⟨rfl, rfl, rfl⟩, q lo l bs mp rl hl S ⟨[], [], (List.append_nil _).symm, (List.append_nil _).symm⟩ (by omega) (by unfold rkL; rw [if_pos (by omega)]; omega) fun x hx => Or.inl hx⟩
  | succ d ih =>
    intro n lo hi l bs mp rl k hl n8 S h1 h2 h3 q
    rw [S_laid_succ]
    generalize S_laid A (d + 1) = SL at ih ⊢
    refine ⟨rfl, ?_⟩
    unfold d_laid
    refine nat_tst (fun _ => ⟨fun _ => ?_, noT⟩) fun ne => ⟨noF, fun _ => ?_⟩
    · exact ⟨rfl, rfl, ⟨rfl, rfl, rfl⟩, q lo l bs mp rl hl S ⟨[], [], (List.append_nil _).symm, (List.append_nil _).symm⟩ (by omega) (by unfold rkL; rw [if_pos (by omega)]; omega) fun x hx => Or.inl hx⟩
    have lh : lo < hi := by omega
    refine ⟨_, _, rfl, _, _, _, _, _, _, _, rfl, fun e => ?_, fun e => ?_⟩
    · obtain ⟨w, hw⟩ := Option.isSome_iff_exists.mp e
      obtain ⟨l0, h0, w0, ee, c1, c2, c3, c4⟩ := S.me _ (mget_mem hw)
      injection ee with e1 e2
      injection e1 with e3 e4
      have e3 : l0 = lo := by omega
      have e4 : h0 = hi := by omega
      subst e2 e3 e4
      exact ⟨_, _, _, ⟨_, _, _, _, rfl⟩, _, _, rfl, _, _, _, _, _, rfl, hw, rfl, rfl, ⟨rfl, rfl, rfl⟩, q w0 l bs mp rl hl S ⟨[], [], (List.append_nil _).symm, (List.append_nil _).symm⟩ c3 c4 fun x hx => Or.inl hx⟩
    have hk : ((lo : Int), (hi : Int)) ∉ mp.map (·.1) := mget_none (Option.not_isSome_iff_eq_none.mp fun z => by rw [z] at e; cases e)
    clear e
    refine ⟨rfl, rfl, draw_spec hl (by omega) (by omega) fun j l1 j0 j1 s1 => ⟨_, _, _, _, _, _, _, rfl, ?_⟩⟩
    obtain ⟨j, rfl⟩ := Int.eq_ofNat_of_zero_le j0
    have j1 : lo + j < hi := by omega
    have r1 : ∀ (D : EndsD) (w1 w2 : Nat) (l4 : List PyData) (bs2 : List (Nat × Nat)) (mp2 : Mp) (rl2 : List Nat) (z4 z5 z6 : Option Rv), (∀ v e, outK [.own false a l, .st false RS s ad (stD n (eBs bs) mp sd), .dat (nI lo), .dat (nI hi)] k v e → D.rt v e) → Jr l4 → LSt n bs2 mp2 rl2 → (∃ mb mr, bs2 = bs ++ mb ∧ rl2 = rl ++ mr) → w1 < n + bs2.length → w2 < n + bs2.length → rkL n rl2 w1 < hi - lo → rkL n rl2 w2 < hi - lo → Keys mp mp2 (hi - lo - 1) →
        d_laid_r1 A SL D [some (.own false a l4), some (.st false RS s ad (stD n (eBs bs2) mp2 sd)), some (.dat (nI lo)), some (.dat (nI hi)), z4, z5, z6, some (.dat (nI w1)), some (.dat (nI w2))] := fun D w1 w2 l4 bs2 mp2 rl2 z4 z5 z6 hD s4 S2 hx b1 b2 c1 c2 hK => by
      unfold d_laid_r1
      have b28 := S2.len n8
      have lb : (eBs bs2).length = bs2.length := List.length_map _
      have ml := S2.ml
      have hk2 : ((lo : Int), (hi : Int)) ∉ mp2.map (·.1) := fun z => by
        rcases hK _ z with z | z
        · exact hk z
        · have z : (hi : Int) - (lo : Int) ≤ ((hi - lo - 1 : Nat) : Int) := z
          omega
      have S3 := S2.more lh h2 hk2 b1 b2 c1 c2
      refine ⟨_, _, _, ⟨_, _, _, _, rfl⟩, le_sz rfl, _, _, _, _, rfl, by omega, ?_⟩
      have ew : (n : Int) + ((eBs bs2 ++ [PyData.tuple [nI w1, nI w2]]).length : Int) - 1 = ((n + bs2.length : Nat) : Int) := by
        rw [List.length_append, lb]
        show (n : Int) + ((bs2.length + 1 : Nat) : Int) - 1 = _
        omega
      refine ⟨_, _, _, _, _, _, _, rfl, _, _, _, _, _, _, _, rfl, _, rfl, _, _, _, ⟨_, _, _, _, rfl⟩, _, _, rfl, _, _, _, _, rfl, by omega, ?_⟩
      have hw := mget_new (mp := mp2) (k := ((lo : Int), (hi : Int))) (w := ((n + bs2.length : Nat) : Int)) hk2
      have em := mput_new (mp := mp2) (k := ((lo : Int), (hi : Int))) (w := ((n + bs2.length : Nat) : Int)) hk2
      rw [← em] at hw
      have key : mget (mput mp2 ((lo : Int), (hi : Int)) ((n : Int) + ((eBs bs2 ++ [PyData.tuple [nI w1, nI w2]]).length : Int) - 1)) ((lo : Int), (hi : Int)) = some ((n + bs2.length : Nat) : Int) := by
        rw [ew]
        exact hw
      refine ⟨_, _, _, ⟨_, _, _, _, rfl⟩, _, _, rfl, _, _, _, _, _, rfl, key, rfl, hD _ _ ?_⟩
      refine ⟨rfl, ⟨rfl, rfl, rfl⟩, ?_⟩
      obtain ⟨mb, mr, x1, x2⟩ := hx
      have := q (n + bs2.length) l4 (bs2 ++ [(w1, w2)]) (mp2 ++ [(((lo : Int), (hi : Int)), ((n + bs2.length : Nat) : Int))]) (rl2 ++ [hi - lo]) s4 S3 ⟨mb ++ [(w1, w2)], mr ++ [hi - lo], by rw [x1, List.append_assoc], by rw [x2, List.append_assoc]⟩ (by rw [List.length_append, List.length_singleton]; omega) (by
        unfold rkL
        rw [if_neg (by omega), List.getD_eq_getElem?_getD, List.getElem?_append_right (by have := S2.ln; omega), show n + bs2.length - n - rl2.length = 0 by have := S2.ln; omega]
        exact Nat.le_refl _) (fun x hx => by
        rw [List.map_append] at hx
        rcases List.mem_append.mp hx with hx | hx
        · rcases hK x hx with z | z
          · exact Or.inl z
          · exact Or.inr (by omega)
        · have hx : x = ((lo : Int), (hi : Int)) := List.mem_singleton.mp hx
          rw [hx]
          refine Or.inr ?_
          show (hi : Int) - (lo : Int) ≤ ((hi - lo : Nat) : Int)
          omega)
      have e3 : eBs (bs2 ++ [(w1, w2)]) = eBs bs2 ++ [PyData.tuple [nI w1, nI w2]] := by
        unfold eBs
        rw [List.map_append]
        rfl
      rw [← em, e3] at this
      rw [← ew] at this
      have e5 : k (.dat (.int ((n : Int) + ((eBs bs2 ++ [PyData.tuple [nI w1, nI w2]]).length : Int) - 1))) [l4, stD n (eBs bs2 ++ [PyData.tuple [nI w1, nI w2]]) (mput mp2 ((lo : Int), (hi : Int)) ((n : Int) + ((eBs bs2 ++ [PyData.tuple [nI w1, nI w2]]).length : Int) - 1)) sd] := by
        have e6 : nI (n + bs2.length) = .int ((n : Int) + ((eBs bs2 ++ [PyData.tuple [nI w1, nI w2]]).length : Int) - 1) := congrArg PyData.int ew.symm
        rw [← e6]
        exact this
      have e7 : PyData.int ((n : Int) + ((eBs bs2 ++ [PyData.tuple [nI w1, nI w2]]).length : Int) - 1) = .int ((n + bs2.length : Nat) : Int) := congrArg PyData.int ew
      rw [e7] at e5
      exact e5
    generalize hR1 : d_laid_r1 A SL = R1 at r1
    have tail : ∀ (D : EndsD) (st : Nat) (sx : Int) (l2 : List PyData), sx = (st : Int) → (∀ v e, outK [.own false a l, .st false RS s ad (stD n (eBs bs) mp sd), .dat (nI lo), .dat (nI hi)] k v e → D.rt v e) → lo < st → st ≤ hi → Jr l2 → d_laid_r2 A SL D [some (.own false a l2), some (.st false RS s ad (stD n (eBs bs) mp sd)), some (.dat (nI lo)), some (.dat (nI hi)), some (.dat (nI (lo + j))), some (.dat sd), some (.dat (.int sx)), none, none] := fun D st sx l2 esx hD t1 t2 s2 => by
      subst esx
      unfold d_laid_r2
      rw [hR1]
      refine ⟨rfl, rfl, rfl, ih (lo := lo) (hi := lo + j) s2 n8 S (by omega) (by omega) (by omega) fun w1 l3 bs1 mp1 rl1 s3 S1 hx1 b1 c1 k1 => ?_⟩
      obtain ⟨mb1, mr1, x1, x2⟩ := hx1
      refine ⟨rfl, rfl, rfl, ih (lo := st) (hi := hi) s3 n8 S1 (by omega) (by omega) (by omega) fun w2 l4 bs2 mp2 rl2 s4 S2 hx2 b2 c2 k2 => ?_⟩
      obtain ⟨mb2, mr2, y1, y2⟩ := hx2
      have b1' : w1 < n + bs2.length := by rw [y1, List.length_append]; omega
      have c1' : rkL n rl2 w1 ≤ lo + j - lo := by
        rw [y2, rkL_app (by have := S1.ln; omega)]
        exact c1
      have hK : Keys mp mp2 (hi - lo - 1) := fun x hx => by
        rcases k2 x hx with z | z
        · rcases k1 x z with z | z
          · exact Or.inl z
          · exact Or.inr (by omega)
        · exact Or.inr (by omega)
      have hx : ∃ mb mr, bs2 = bs ++ mb ∧ rl2 = rl ++ mr := ⟨mb1 ++ mb2, mr1 ++ mr2, by rw [y1, x1, List.append_assoc], by rw [y2, x2, List.append_assoc]⟩
      refine ⟨le_sz rfl, hs.flat, rfl, fun _ => ?_, fun _ => ⟨noF, fun _ => r1 _ w1 w2 l4 bs2 mp2 rl2 _ _ _ hD s4 S2 hx b1' b2 (by omega) (by omega) hK⟩⟩
      refine ⟨rfl, rfl, draw_spec s4 (by decide) (by decide) fun t l5 t0 t1 s5 => ⟨_, _, rfl, rfl, rfl, rfl, fun _ => ?_, fun _ => ?_⟩⟩
      · exact r1 _ w2 w1 l5 bs2 mp2 rl2 _ _ _ hD s5 S2 hx b2 b1' (by omega) (by omega) hK
      · exact r1 _ w1 w2 l5 bs2 mp2 rl2 _ _ _ hD s5 S2 hx b1' b2 (by omega) (by omega) hK
    have tl : ∀ (D : EndsD) (st : Nat) (sx : Int) (l2 : List PyData), sx = (st : Int) → lo < st → st ≤ hi → Jr l2 → (∀ v e, outK [.own false a l, .st false RS s ad (stD n (eBs bs) mp sd), .dat (nI lo), .dat (nI hi)] k v e → D.rt v e) → d_laid_r2 A SL D [some (.own false a l2), some (.st false RS s ad (stD n (eBs bs) mp sd)), some (.dat (nI lo)), some (.dat (nI hi)), some (.dat (nI (lo + j))), some (.dat sd), some (.dat (.int sx)), none, none] := fun D st sx l2 esx t1 t2 s2 hD => tail D st sx l2 esx hD t1 t2 s2
    generalize d_laid_r2 A SL = R2 at tl ⊢
    as_aux_lemma =>
      have e0 : (lo : Int) + (j : Int) + 1 = ((lo + j + 1 : Nat) : Int) := by omega
      have f1 : lo < lo + j + 1 := by omega
      have f2 : lo + j + 1 ≤ hi := by omega
      refine ⟨le_sz rfl, hs.flat, rfl, fun _ => ?_, fun _ => ⟨noF, fun _ => ?_⟩⟩
      · refine ⟨rfl, rfl, draw_spec s1 (by decide) (by decide) fun t l2 t0 t1 s2 => ⟨_, _, rfl, rfl, rfl, rfl, fun _ => ?_, fun _ => ?_⟩⟩
        · refine eqK_test hs fun b _ _ => ⟨fun _ => ?_, fun _ => ?_⟩
          · refine ⟨rfl, rfl, draw_spec s2 (by omega) (by omega) fun y l3 y0 y1 s3 => ?_⟩
            obtain ⟨y, rfl⟩ := Int.eq_ofNat_of_zero_le y0
            refine tl _ (lo + 1 + y) _ l3 ?_ (by omega) (by omega) s3 (fun _ _ h => h)
            omega
          · refine ⟨rfl, rfl, draw_spec s2 (by omega) (by omega) fun y l3 y0 y1 s3 => ?_⟩
            obtain ⟨y, rfl⟩ := Int.eq_ofNat_of_zero_le y0
            refine tl _ (lo + 1 + y) _ l3 ?_ (by omega) (by omega) s3 (fun _ _ h => h)
            omega
        · exact tl _ (lo + j + 1) _ l2 e0 f1 f2 s2 (fun _ _ h => h)
      · exact tl _ (lo + j + 1) _ l1 e0 f1 f2 s1 (fun _ _ h => h)

end
end Kx

namespace Kx
open PySem PySem.Spec PyProof.Rows L2 My
section
variable {P : Program} {w : World} {K : PySem.W.Frag} {mg : Str → Option Value} {base : Heap} {A : Ads}
theorem lens_rk {n : Nat} {bs : List (Nat × Nat)} {rl : List Nat} (bo : boxOk n 0 bs) (ln : rl.length = bs.length) (rk : ∀ t b, bs[t]? = some b → rkL n rl b.1 < rl.getD t 0 ∧ rkL n rl b.2 < rl.getD t 0) : ∀ i w, (wordsOf n bs)[i]? = some w → 1 ≤ w.length ∧ w.length ≤ 2 ^ rkL n rl i := by
  have key : ∀ m ≤ bs.length, ∀ i w, (wordsOf n (bs.take m))[i]? = some w → 1 ≤ w.length ∧ w.length ≤ 2 ^ rkL n rl i := by
    intro m
    induction m with
    | zero =>
      intro _ i w h
      rw [List.take_zero, wordsOf_nil, List.getElem?_map] at h
      obtain ⟨k, hk, rfl⟩ := Option.map_eq_some_iff.mp h
      exact ⟨Nat.le_refl 1, Nat.one_le_two_pow⟩
    | succ m ih =>
      intro hm i w h
      have ih := ih (by omega)
      have hb : bs[m]? = some bs[m] := List.getElem?_eq_getElem (by omega)
      obtain ⟨g1, g2⟩ := boxOk_get (i := m) bo hb
      obtain ⟨r1, r2⟩ := rk m _ hb
      have lw : (wordsOf n (bs.take m)).length = n + m := by rw [wordsOf_len, List.length_take, Nat.min_eq_left (by omega)]
      have q1 : (wordsOf n (bs.take m))[(bs[m]).1]? = some ((wordsOf n (bs.take m))[(bs[m]).1]'(by omega)) := List.getElem?_eq_getElem (by omega)
      have q2 : (wordsOf n (bs.take m))[(bs[m]).2]? = some ((wordsOf n (bs.take m))[(bs[m]).2]'(by omega)) := List.getElem?_eq_getElem (by omega)
      have e : wordsOf n (bs.take (m + 1)) = wstep (wordsOf n (bs.take m)) bs[m] := by
        rw [List.take_add_one, hb, Option.toList_some, wordsOf_snoc]
      rw [e] at h
      unfold wstep at h
      rw [getD_of q1, getD_of q2] at h
      by_cases c : i < n + m
      · rw [List.getElem?_append_left (by omega)] at h
        exact ih i w h
      · rw [List.getElem?_append_right (by omega)] at h
        have z : i - (wordsOf n (bs.take m)).length = 0 := by
          have := (List.getElem?_eq_some_iff.mp h).1
          simp at this
          omega
        rw [z] at h
        cases h
        obtain ⟨a1, a2⟩ := ih _ _ q1
        obtain ⟨b1, b2⟩ := ih _ _ q2
        have ei : i = n + m := by omega
        have er : rkL n rl i = rl.getD m 0 := by
          unfold rkL
          rw [if_neg (by omega), ei, Nat.add_sub_cancel_left]
        rw [List.length_append, er]
        obtain ⟨r, hr⟩ : ∃ r, rl.getD m 0 = r + 1 := ⟨rl.getD m 0 - 1, by omega⟩
        have c1 : 2 ^ rkL n rl (bs[m]).1 ≤ 2 ^ r := Nat.pow_le_pow_right (by decide) (by omega)
        have c2 : 2 ^ rkL n rl (bs[m]).2 ≤ 2 ^ r := Nat.pow_le_pow_right (by decide) (by omega)
        rw [hr, Nat.pow_succ]
        omega
  have := key bs.length (Nat.le_refl _)
  rw [List.take_length] at this
  exact this
theorem rkL_lt {n i D : Nat} {rl : List Nat} (h : ∀ r ∈ rl, r ≤ D) : rkL n rl i ≤ D := by
  unfold rkL
  split
  · exact Nat.zero_le _
  · rw [List.getD_eq_getElem?_getD]
    cases e : rl[i - n]? with
    | none => exact Nat.zero_le _
    | some r => exact h r (List.mem_of_getElem? e)
/-- ranks of a net's boxes, up to D -/
structure Rks (n : Nat) (bs : List (Nat × Nat)) (rl : List Nat) (D : Nat) : Prop where
  bo : boxOk n 0 bs
  ln : rl.length = bs.length
  rk : ∀ t b, bs[t]? = some b → rkL n rl b.1 < rl.getD t 0 ∧ rkL n rl b.2 < rl.getD t 0
  rn : ∀ r ∈ rl, r ≤ D
theorem Rks.lens {n D : Nat} {bs : List (Nat × Nat)} {rl : List Nat} (h : Rks n bs rl D) : Lens (2 ^ D) (wordsOf n bs) := fun w hw => by
  obtain ⟨i, hi⟩ := List.getElem?_of_mem hw
  obtain ⟨a, b⟩ := lens_rk h.bo h.ln h.rk i w hi
  exact ⟨a, Nat.le_trans b (Nat.pow_le_pow_right (by decide) (rkL_lt h.rn))⟩
theorem boxOk_setJ {n : Nat} {b : Nat × Nat} : ∀ {bs : List (Nat × Nat)} {s t : Nat}, boxOk n s bs → b.1 < n + s + t → b.2 < n + s + t → boxOk n s (bs.set t b)
  | [], _, _, _, _, _ => trivial
  | a :: r, s, 0, ⟨p, q, z⟩, h1, h2 => ⟨by simpa using h1, by simpa using h2, z⟩
  | a :: r, s, t + 1, ⟨p, q, z⟩, h1, h2 => ⟨p, q, boxOk_setJ (t := t) z (by omega) (by omega)⟩
/-- one box is led otherwise -/
theorem Rks.set {n D t : Nat} {bs : List (Nat × Nat)} {rl : List Nat} (h : Rks n bs rl D) {b : Nat × Nat} (ht : t < bs.length) (b1 : b.1 < n + t) (b2 : b.2 < n + t) : Rks n (bs.set t b) (rl.take t ++ (rl.drop t).map (· + (D + 1))) (D + (D + 1)) := by
  have ln := h.ln
  obtain ⟨rl', e⟩ : ∃ r, r = rl.take t ++ (rl.drop t).map (· + (D + 1)) := ⟨_, rfl⟩
  rw [← e]
  have lt : (rl.take t).length = t := by rw [List.length_take]; omega
  have g1 : ∀ j, j < t → rl'.getD j 0 = rl.getD j 0 := fun j hj => by
    rw [e, List.getD_eq_getElem?_getD, List.getD_eq_getElem?_getD, List.getElem?_append_left (by omega), List.getElem?_take, if_pos hj]
  have g2 : ∀ j, t ≤ j → j < bs.length → rl'.getD j 0 = rl.getD j 0 + (D + 1) := fun j hj hl => by
    rw [e, List.getD_eq_getElem?_getD, List.getD_eq_getElem?_getD, List.getElem?_append_right (by omega), lt, List.getElem?_map, List.getElem?_drop, show t + (j - t) = j by omega, List.getElem?_eq_getElem (show j < rl.length by omega)]
    rfl
  have r1 : ∀ i, i < n + t → rkL n rl' i = rkL n rl i := fun i hi => by
    unfold rkL
    by_cases c : i < n
    · rw [if_pos c, if_pos c]
    · rw [if_neg c, if_neg c, g1 _ (by omega)]
  have r2 : ∀ i, i < n + bs.length → rkL n rl' i ≤ rkL n rl i + (D + 1) := fun i hi => by
    by_cases c : i < n + t
    · rw [r1 i c]
      omega
    · unfold rkL
      rw [if_neg (by omega), if_neg (by omega), g2 _ (by omega) (by omega)]
      exact Nat.le_refl _
  refine ⟨boxOk_setJ h.bo (by simpa using b1) (by simpa using b2), by rw [e, List.length_append, List.length_map, List.length_drop, lt, List.length_set]; omega, fun t' c hc => ?_, fun r hr => ?_⟩
  · have ht' := (List.getElem?_eq_some_iff.mp hc).1
    rw [List.length_set] at ht'
    by_cases q : t = t'
    · subst q
      rw [List.getElem?_set_self ht] at hc
      cases hc
      rw [g2 t (Nat.le_refl _) ht, r1 _ b1, r1 _ b2]
      have := rkL_lt (n := n) (i := b.1) h.rn
      have := rkL_lt (n := n) (i := b.2) h.rn
      omega
    · rw [List.getElem?_set_ne q] at hc
      obtain ⟨a1, a2⟩ := h.rk t' c hc
      obtain ⟨x1, x2⟩ := boxOk_get (i := t') h.bo hc
      by_cases c1 : t' < t
      · rw [g1 t' c1, r1 _ (by omega), r1 _ (by omega)]
        exact ⟨a1, a2⟩
      · rw [g2 t' (by omega) ht']
        have := r2 c.1 (by omega)
        have := r2 c.2 (by omega)
        omega
  · rw [e] at hr
    rcases List.mem_append.mp hr with hr | hr
    · have := h.rn r (List.mem_of_mem_take hr)
      omega
    · obtain ⟨r', hr', rfl⟩ := List.mem_map.mp hr
      have := h.rn r' (List.mem_of_mem_drop hr')
      omega
theorem LSt.rks {n : Nat} {bs : List (Nat × Nat)} {mp : Mp} {rl : List Nat} (S : LSt n bs mp rl) (n8 : n ≤ 8) : Rks n bs rl 7 := ⟨S.bo, S.ln, S.rk, fun r hr => by have := S.rn r hr; omega⟩
theorem web_spec {a : Addr} {l : List PyData} {n : Nat} {ws : List (Nat × Nat)} {sd : PyData} {k : Rv → List (List PyData) → Prop} (hl : Jr l) (hs : KindOk sd) (n1 : 1 ≤ n) (n8 : n ≤ 8) (hws : ∀ b ∈ ws, b.1 ≤ b.2 ∧ b.2 < n) (lw : ws.length ≤ 24)
    (q : ∀ bs es rl l', Jr l' → Rks n bs rl 7 → bs.length ≤ 28 → (∀ e ∈ es, e < n + bs.length) → es.length = ws.length → k (.dat (encNet n bs es)) [l']) : S_web A [.own false a l, .dat (nI n), .dat (.list (eBs ws)), .dat sd] k := by
  refine ⟨rfl, ?_⟩
  unfold d_web
  refine ⟨le_sz rfl, fun b m => ⟨_, _, _, _, _, rfl, fun s => ⟨le_sz rfl, fun ta => ?_⟩⟩⟩
  refine ⟨eBs ws, rfl, ?_⟩
  refine for_all ws (enc := encB) rfl (fun i e => ∃ l' bs mp rl es z6, e = [some (.own false a l'), some (.dat (nI n)), some (.dat (.list (eBs ws))), some (.dat sd), some (.st true RS s [b, m] (stD n (eBs bs) mp sd)), some (.own true ta (es.map nI)), z6] ∧ Jr l' ∧ LSt n bs mp rl ∧ (∀ e ∈ es, e < n + bs.length) ∧ es.length = i) ⟨l, [], [], [], [], none, rfl, hl, LSt.nil n, nofun, rfl⟩ (fun i x e Kc hx hI hK => ?_) (fun i e hI => ?_) (fun e hI => ?_)
  · obtain ⟨l', bs, mp, rl, es, z6, rfl, s1, S, he, le⟩ := hI
    obtain ⟨x1, x2⟩ := hws x (List.mem_of_getElem? hx)
    unfold d_web_b1
    have lz : (es.map nI).length < 100000 := by
      have := (List.getElem?_eq_some_iff.mp hx).1
      rw [List.length_map]
      omega
    refine ⟨⟨_, _, _, rfl⟩, _, rfl, _, rfl, rfl, rfl, rfl, laid_spec hs 7 s1 n8 S x1 x2 (by omega) fun w l2 bs' mp' rl' s2 S' hext hw _ _ => ?_⟩
    obtain ⟨mb, mr, e1, _⟩ := hext
    refine ⟨lz, hK _ ⟨l2, bs', mp', rl', es ++ [w], some (.dat (encB x)), ?_, s2, S', fun e he' => ?_, by rw [List.length_append, le]; rfl⟩⟩
    · rw [List.map_append]
      rfl
    · rcases List.mem_append.mp he' with z | z
      · have := he e z
        rw [e1, List.length_append]
        omega
      · rw [List.mem_singleton.mp z]
        exact hw
  · obtain ⟨l', bs, mp, rl, es, z6, rfl, _⟩ := hI
    rfl
  · obtain ⟨l', bs, mp, rl, es, z6, rfl, s1, S, he, le⟩ := hI
    exact ⟨_, _, _, _, _, _, _, rfl, rfl, le_sz rfl, rfl, rfl, q bs es rl l' s1 (S.rks n8) (S.len n8) he le⟩

end
end Kx

namespace Kx
open PySem PySem.Spec PyProof.Rows L2 My
section
variable {P : Program} {w : World} {K : PySem.W.Frag} {mg : Str → Option Value} {base : Heap} {A : Ads}
/-- data without dicts, of bounded depth and size -/
structure Fn (p c : Nat) (d : PyData) : Prop where
  s : d.showable = true
  l : d.canLay0 = true
  n : d.hasDict = false
  dp : d.depth ≤ p
  z : cost d ≤ c
theorem Fn.mono {p c p' c' : Nat} {d : PyData} (h : Fn p c d) (h1 : p ≤ p') (h2 : c ≤ c') : Fn p' c' d := ⟨h.s, h.l, h.n, Nat.le_trans h.dp h1, Nat.le_trans h.z h2⟩
theorem Fn.um {p c : Nat} {d : PyData} (h : Fn p c d) : um d = d := um_same h.n
theorem Fn.shows {p c : Nat} {d : PyData} (h : Fn p c d) (h1 : p ≤ 60) (h2 : c ≤ sizeLine) : Shows d := ⟨h.s, h.n, Nat.le_trans h.dp h1, Nat.le_trans h.z h2⟩
theorem Fn.shaped {p c : Nat} {d : PyData} (h : Fn p c d) (h1 : p ≤ 60) : SeqAt.shaped d = true := by
  unfold SeqAt.shaped
  rw [h.l, decide_eq_true (show d.depth ≤ 64 by have := h.dp; omega)]
  rfl
theorem fn_int {i : Int} (h : i.natAbs < 2 ^ 64) : Fn 0 70 (.int i) := by
  have lg : i.natAbs.log2 < 64 := by
    by_cases z : i.natAbs = 0
    · rw [z]; decide
    · exact (Nat.log2_lt z).mpr h
  refine ⟨?_, rfl, rfl, Nat.le_refl _, ?_⟩
  · simp only [PyData.showable]
    exact decide_eq_true (by omega)
  · simp only [cost]
    omega
theorem fn_nat {k : Nat} (h : k < 2 ^ 64) : Fn 0 70 (nI k) := fn_int (by rw [Int.natAbs_natCast]; exact h)
theorem fn_bl (b : Bool) : Fn 0 5 (.bool b) := by cases b <;> exact ⟨rfl, rfl, rfl, Nat.le_refl _, Nat.le_refl _⟩
theorem fn_none : Fn 0 4 .none := ⟨rfl, rfl, rfl, Nat.le_refl _, Nat.le_refl _⟩
theorem fn_alls {p c : Nat} : ∀ {xs : List PyData}, (∀ x ∈ xs, Fn p c x) → PyData.showableAll xs = true ∧ PyData.canLayAll0 xs = true ∧ PyData.hasDictAll xs = false ∧ PyData.depthAll xs ≤ p ∧ costs xs ≤ (c + 2) * xs.length
  | [], _ => ⟨rfl, rfl, rfl, Nat.zero_le _, Nat.zero_le _⟩
  | x :: xs, h => by
    obtain ⟨a1, a2, a3, a4, a5⟩ := fn_alls fun y hy => h y (List.mem_cons_of_mem _ hy)
    obtain ⟨b1, b2, b3, b4, b5⟩ := h x List.mem_cons_self
    refine ⟨?_, ?_, ?_, ?_, ?_⟩
    · simp only [PyData.showableAll, a1, b1, Bool.and_self]
    · simp only [PyData.canLayAll0, a2, b2, Bool.and_self]
    · simp only [PyData.hasDictAll, a3, b3, Bool.or_self]
    · simp only [PyData.depthAll]
      omega
    · simp only [costs, List.length_cons, Nat.mul_add, Nat.mul_one]
      omega
theorem fn_lst {p c n : Nat} {xs : List PyData} (h : ∀ x ∈ xs, Fn p c x) (hn : xs.length ≤ n) : Fn (p + 1) ((c + 2) * n + 3) (.list xs) := by
  obtain ⟨a1, a2, a3, a4, a5⟩ := fn_alls h
  have := Nat.mul_le_mul_left (c + 2) hn
  exact ⟨a1, a2, a3, by simp only [PyData.depth]; omega, by simp only [cost]; omega⟩
theorem fn_tup {p c n : Nat} {xs : List PyData} (h : ∀ x ∈ xs, Fn p c x) (hn : xs.length ≤ n) : Fn (p + 1) ((c + 2) * n + 3) (.tuple xs) := by
  obtain ⟨a1, a2, a3, a4, a5⟩ := fn_alls h
  have := Nat.mul_le_mul_left (c + 2) hn
  exact ⟨a1, a2, a3, by simp only [PyData.depth]; omega, by simp only [cost]; omega⟩
theorem fn_nats {n : Nat} {ks : List Nat} (h : ∀ k ∈ ks, k < 2 ^ 64) : ∀ x ∈ ks.map nI, Fn 0 70 x := fun x hx => by
  obtain ⟨k, hk, rfl⟩ := List.mem_map.mp hx
  exact fn_nat (h k hk)
theorem fn_encW {n : Nat} {ks : List Nat} (h : ∀ k ∈ ks, k < 2 ^ 64) (hn : ks.length ≤ n) : Fn 1 (72 * n + 3) (encW ks) := fn_tup (fn_nats (n := n) h) (by rw [List.length_map]; exact hn)
/-- the test of a comparison of two data that are alike -/
theorem neS_same {s : Str} {p q : Prop} (h : q) : ((!decide (s = s)) = true → p) ∧ ((!decide (s = s)) = false → q) := ⟨fun e => by simp at e, fun _ => h⟩

/-- a list of one's own lists of numbers -/
def nsR (ps : List (Addr × List Nat)) : List Rv := ps.map fun p => .own true p.1 (p.2.map nI)
theorem nsR_fz : ∀ ps : List (Addr × List Nat), Rv.fzL (nsR ps) = some (ps.map fun p => .list (p.2.map nI))
  | [] => rfl
  | p :: ps => by
    show (match (Rv.own true p.1 (p.2.map nI)).fz, Rv.fzL (nsR ps) with
      | some d, some ds => some (d :: ds)
      | _, _ => none) = _
    rw [nsR_fz ps]
    rfl
theorem lcN_all {α : Type} (xs : List α) {enc : α → PyData} {R : α → List Nat} {src : Src} {all : List PyData} {g : DG} {el : DE} {vs : List Nat} {fin : List Rv → Ev → Prop} {e : Ev} (ha : all = xs.map enc) (hi : items e src = some all) (hl : xs.length ≤ 90000)
    (h : ∀ x ∈ xs, ∀ (Kc : Rv → Ev → Prop), (∀ b e4, wipeE e4 vs = e → Kc (.own true b ((R x).map nI)) e4) → g (.dat (enc x)) (wipeE e vs) fun e2 => el e2 Kc)
    (q : ∀ ps : List (Addr × List Nat), ps.map Prod.snd = xs.map R → fin (nsR ps) e) : lcLoopN src all g el vs fin all [] e := by
  have key : ∀ (ys : List α) (ps : List (Addr × List Nat)), (∀ y ∈ ys, y ∈ xs) → ps.length + ys.length ≤ 90000 → (∀ ps' : List (Addr × List Nat), ps'.map Prod.snd = ps.map Prod.snd ++ ys.map R → fin (nsR ps') e) → lcLoopN src all g el vs fin (ys.map enc) (nsR ps) e := by
    intro ys
    induction ys with
    | nil => exact fun ps _ _ k => k ps (by simp)
    | cons y ys ih =>
      intro ps hy hl k
      rw [List.map_cons]
      unfold lcLoopN
      rw [List.length_cons] at hl
      refine h y (hy y List.mem_cons_self) _ fun b e4 h4 => ?_
      have lz : (nsR ps).length < 100000 := by
        unfold nsR
        rw [List.length_map]
        omega
      rw [h4]
      refine ⟨lz, hi, ?_⟩
      have := ih (ps ++ [(b, R y)]) (fun z hz => hy z (List.mem_cons_of_mem _ hz)) (by rw [List.length_append, List.length_singleton]; omega) fun ps' e' => k ps' (by rw [e', List.map_append, List.map_cons, List.append_assoc]; rfl)
      unfold nsR at this ⊢
      rw [List.map_append] at this
      exact this
  subst ha
  exact key xs [] (fun _ h => h) (by simpa using hl) fun ps' e' => q ps' (by simpa using e')
theorem nsR_get {i : Nat} {ps : List (Addr × List Nat)} (hi : i < ps.length) : (nsR ps)[i]? = some (.own true ps[i].1 (ps[i].2.map nI)) := by
  unfold nsR
  rw [List.getElem?_map, List.getElem?_eq_getElem hi]
  rfl
theorem nsR_len (ps : List (Addr × List Nat)) : (nsR ps).length = ps.length := by
  unfold nsR
  rw [List.length_map]
theorem rng_get {n i x : Nat} (h : (List.range n)[i]? = some x) : x = i ∧ i < n := by
  have hi := (List.getElem?_eq_some_iff.mp h).1
  rw [List.length_range] at hi
  rw [List.getElem?_range hi] at h
  cases h
  exact ⟨rfl, hi⟩

theorem cut_dropN (ds : List PyData) (k : Nat) : My.cutD ds (some (k : Int)) none = ds.drop k := by
  unfold My.cutD
  rw [HT.sIx_none, HT.sIx_nat]
  by_cases h : k ≤ ds.length
  · rw [Nat.min_eq_left h, List.take_of_length_le (by rw [List.length_drop]; omega)]
  · rw [Nat.min_eq_right (by omega), List.drop_length, List.drop_eq_nil_of_le (by omega), List.take_nil]
theorem atI_neg1 {α : Type} {xs : List α} {d : α} (h : xs[xs.length - 1]? = some d) : atI xs (-1) = some d := by
  have hl := (List.getElem?_eq_some_iff.mp h).1
  unfold atI ixN
  rw [if_neg (by decide), if_pos (by omega), show ((-1 : Int) + (xs.length : Int)).toNat = xs.length - 1 by omega]
  exact h
theorem rngN {j : Int} {n : Nat} (h : j = (n : Int)) : ((List.range j.toNat).map fun i : Nat => PyData.int (0 + (i : Int) * 1)) = (List.range n).map nI := by
  subst h
  exact rng0 n
theorem rgD0 (n : Nat) : rgD 0 (n : Int) = (List.range n).map nI := by
  unfold rgD
  rw [show ((n : Int) - 0).toNat = n by omega]
  exact List.map_congr_left fun i _ => by
    show PyData.int _ = PyData.int _
    rw [Int.zero_add]
theorem erase_map {α β : Type} (f : α → β) : ∀ (xs : List α) (j : Nat), (xs.map f).eraseIdx j = (xs.eraseIdx j).map f
  | [], _ => rfl
  | _ :: _, 0 => rfl
  | x :: xs, j + 1 => by
    show f x :: (xs.map f).eraseIdx j = f x :: (xs.eraseIdx j).map f
    rw [erase_map f xs j]
theorem erase_perm {α : Type} : ∀ (xs : List α) (j : Nat) (h : j < xs.length), (xs[j] :: xs.eraseIdx j).Perm xs
  | x :: xs, 0, _ => List.Perm.refl _
  | x :: xs, j + 1, h => by
    show (xs[j]'(by simpa using h) :: x :: xs.eraseIdx j).Perm (x :: xs)
    exact (List.Perm.swap _ _ _).trans (List.Perm.cons x (erase_perm xs j (by simpa using h)))
theorem fzV_of {e : Ev} {Q : Rv → Ev → Prop} {i : Nat} {r : Rv} {d : PyData} (h1 : e[i]? = some (some r)) (h2 : r.fz = some d) (h : Q (.dat d) (e.set i (some (.dat d)))) : dFzV i e Q := by
  unfold dFzV
  rw [h1]
  dsimp only
  rw [h2]
  exact h

end
end Kx

namespace Kx
open PySem PySem.Spec PyProof.Rows L2 My
section
variable {P : Program} {w : World} {K : PySem.W.Frag} {mg : Str → Option Value} {base : Heap} {A : Ads}
theorem gtI {i j : Int} {k : Rx → Prop} (q : ∀ b, k (.dt (.bool b))) : gtW (.int i) (.int j) k := q _
/-- lists of two are boxes -/
def PB (ps : List (Addr × List Nat)) (bs : List (Nat × Nat)) : Prop := ps.map Prod.snd = bs.map fun b => [b.1, b.2]
theorem PB.len {ps : List (Addr × List Nat)} {bs : List (Nat × Nat)} (h : PB ps bs) : ps.length = bs.length := by
  have := congrArg List.length h
  rwa [List.length_map, List.length_map] at this
theorem PB.get {ps : List (Addr × List Nat)} {bs : List (Nat × Nat)} (h : PB ps bs) {i : Nat} (hi : i < ps.length) (hb : i < bs.length) : ps[i].2 = [bs[i].1, bs[i].2] := by
  have := congrArg (fun l => l[i]?) h
  simp only [List.getElem?_map, List.getElem?_eq_getElem hi, List.getElem?_eq_getElem hb, Option.map_some] at this
  exact Option.some.inj this
theorem PB.set {ps : List (Addr × List Nat)} {bs : List (Nat × Nat)} (h : PB ps bs) (i : Nat) (p : Addr) (b : Nat × Nat) : PB (ps.set i (p, [b.1, b.2])) (bs.set i b) := by
  unfold PB
  rw [List.map_set, List.map_set, h]
theorem nsR_setP {i : Nat} {p : Addr} {w : List Nat} (ps : List (Addr × List Nat)) : (nsR ps).set i (.own true p (w.map nI)) = nsR (ps.set i (p, w)) := by
  unfold nsR
  rw [List.map_set]
theorem PB.enc {ps : List (Addr × List Nat)} {bs : List (Nat × Nat)} (h : PB ps bs) : (ps.map fun p => PyData.tuple (p.2.map nI)) = bs.map encB := by
  have : (ps.map Prod.snd).map (fun w => PyData.tuple (w.map nI)) = (bs.map fun b => [b.1, b.2]).map fun w => PyData.tuple (w.map nI) := by rw [h]
  rw [List.map_map, List.map_map] at this
  exact this
theorem bent_spec {a : Addr} {l : List PyData} {n : Nat} {bs : List (Nat × Nat)} {es rl : List Nat} {k : Rv → List (List PyData) → Prop} (hl : Jr l) (n1 : 1 ≤ n) (n8 : n ≤ 12) (R : Rks n bs rl 7) (bl : bs.length ≤ 40) (hes : ∀ e ∈ es, e < n + bs.length) (e1 : 1 ≤ es.length) (e2 : es.length ≤ 24)
    (q : ∀ bs' es' rl' l', Jr l' → Rks n bs' rl' 15 → bs'.length = bs.length → (∀ e ∈ es', e < n + bs'.length) → es'.length = es.length → k (.dat (encNet n bs' es')) [l']) : S_bent A [.own false a l, .dat (encNet n bs es)] k := by
  have up : ∀ {bs' : List (Nat × Nat)} {rl' : List Nat}, Rks n bs' rl' 7 → Rks n bs' rl' 15 := fun h => ⟨h.bo, h.ln, h.rk, fun r hr => by have := h.rn r hr; omega⟩
  refine ⟨rfl, ?_⟩
  unfold d_bent
  refine ⟨_, rfl, bs.map encB, rfl, rfl, ?_⟩
  refine lcN_all bs (enc := encB) (R := fun b => [b.1, b.2]) rfl rfl (by omega) (fun x hx Kc q1 => ?_) fun ps eps => ?_
  · exact fun b => q1 b _ rfl
  have hP : PB ps bs := eps
  intro q0
  refine ⟨_, rfl, fun ea => ?_⟩
  have r1 : ∀ (D : EndsD) l' (bs' : List (Nat × Nat)) (ps' : List (Addr × List Nat)) (es' rl' : List Nat) (z4 z5 z6 : Option Rv), (∀ v e, outK [.own false a l, .dat (encNet n bs es)] k v e → D.rt v e) → Jr l' → PB ps' bs' → Rks n bs' rl' 15 → bs'.length = bs.length → (∀ e ∈ es', e < n + bs.length) → es'.length = es.length →
      d_bent_r1 A D [some (.own false a l'), some (.dat (encNet n bs es)), some (.nst q0 (nsR ps')), some (.own true ea (es'.map nI)), z4, z5, z6] := fun D l' bs' ps' es' rl' z4 z5 z6 hD s hp R' lb he le => by
    unfold d_bent_r1
    have lp := hp.len
    have ez : (Rv.nst q0 (nsR ps')).fz = some (.list (ps'.map fun p => .list (p.2.map nI))) := by
      show (Rv.fzL (nsR ps')).map PyData.list = _
      rw [nsR_fz]
      rfl
    refine ⟨_, rfl, ?_⟩
    unfold dGive
    dsimp only
    unfold dLc diSeq dCons dCB
    dsimp only
    refine fzV_of rfl ez ?_
    refine ⟨_, rfl, rfl, ?_⟩
    refine lc_all ps' (enc := fun p => .list (p.2.map nI)) (f := fun p => .tuple (p.2.map nI)) rfl rfl (by omega) (fun i x hx Kc Kn q1 => ⟨fun _ => ?_, noT⟩) ?_
    · exact q1 _ rfl
    · have e := hp.enc
      rw [e]
      refine fun a0 => ⟨rfl, le_sz rfl, rfl, hD _ _ ⟨rfl, ?_⟩⟩
      exact q bs' es' rl' l' s R' lb (by rw [lb]; exact he) le
  generalize hR1 : d_bent_r1 A = R1 at r1 ⊢
  as_aux_lemma =>
    have lp := hP.len
    have lt : ∀ p ∈ ps, ∀ x ∈ p.2, x < 2 ^ 64 := fun p hp x hx => by
      obtain ⟨i, hi⟩ := List.getElem?_of_mem hp
      obtain ⟨hi, e⟩ := List.getElem?_eq_some_iff.mp hi
      have g := hP.get hi (by omega)
      have g2 := boxOk_get (i := i) R.bo (List.getElem?_eq_getElem (show i < bs.length by omega))
      rw [← e, g] at hx
      simp only [List.mem_cons, List.not_mem_nil, or_false] at hx
      omega
    have F : Fn 2 ((72 * 2 + 3 + 2) * 40 + 3) (.list (ps.map fun p => .list (p.2.map nI))) := fn_lst (p := 1) (c := 72 * 2 + 3) (n := 40) (fun x hx => by
      obtain ⟨p, hp, rfl⟩ := List.mem_map.mp hx
      refine fn_lst (n := 2) (fn_nats (n := 2) (lt p hp)) ?_
      obtain ⟨i, hi⟩ := List.getElem?_of_mem hp
      obtain ⟨hi, e⟩ := List.getElem?_eq_some_iff.mp hi
      have g := hP.get hi (by omega)
      rw [List.length_map, ← e, g]
      exact Nat.le_refl 2) (by rw [List.length_map]; omega)
    have F0 : Fn 2 ((72 * 2 + 3 + 2) * 40 + 3) (.list []) := fn_lst (p := 1) (c := 72 * 2 + 3) (n := 40) (fun _ h => nomatch h) (Nat.zero_le _)
    have b1 : ∀ x : Nat, x < bs.length → 0 < bs.length := fun x hx => by omega
    have le0 : (es.map nI).length = es.length := List.length_map _
    have es_set : ∀ (j v : Nat), (es.map nI).set j (.int (v : Int)) = (es.set j v).map nI := fun j v => (List.map_set ..).symm
    have es_lt : ∀ (j v : Nat), v < n + bs.length → ∀ e ∈ es.set j v, e < n + bs.length := fun j v hv e he => by
      rcases List.mem_or_eq_of_mem_set he with z | z
      · exact hes e z
      · rw [z]
        exact hv
    refine ⟨_, _, _, rfl, nsR_fz ps, _, _, F.um, F0.um, F.shaped (by decide), F0.shaped (by decide), _, rfl, fun e => ?_, fun _ => ⟨noF, fun _ => ?_⟩⟩
    · have ne : 0 < bs.length := by
        cases ps with
        | nil => exact noF e
        | cons p ps =>
          rw [List.length_cons] at lp
          omega
      clear e
      refine ⟨rfl, rfl, draw_spec hl (by decide) (by decide) fun t l1 t0 t1 s1 => ⟨fun _ => ?_, fun _ => ?_⟩⟩
      · refine ⟨_, _, rfl, rfl, rfl, draw_spec s1 (by rw [nsR_len]; omega) (by rw [nsR_len]; omega) fun j l2 j0 j1 s2 => ?_⟩
        obtain ⟨j, rfl⟩ := Int.eq_ofNat_of_zero_le j0
        rw [nsR_len] at j1
        have jp : j < ps.length := by omega
        have jb : j < bs.length := by omega
        have g := hP.get jp jb
        obtain ⟨w1, w2⟩ := boxOk_get (i := j) R.bo (List.getElem?_eq_getElem jb)
        refine ⟨rfl, rfl, draw_spec s2 (by decide) (by decide) fun t2 l3 t3 t4 s3 => ⟨_, _, rfl, rfl, rfl, rfl, fun _ => ?_, fun _ => ?_⟩⟩
        · refine ⟨⟨_, _, rfl⟩, _, _, _, j, _, _, rfl, rfl, ixN_of (by rw [nsR_len]; exact jp), nsR_get jp, fun p => ⟨p, _, rfl, ⟨_, _, rfl⟩, _, _, _, j, rfl, rfl, ixN_of (by rw [nsR_len]; exact jp), ?_⟩⟩
          have e5 : (ps[j].2.map nI).reverse = [bs[j].2, bs[j].1].map nI := by
            rw [g]
            rfl
          rw [e5, nsR_setP]
          exact r1 _ l3 (bs.set j (bs[j].2, bs[j].1)) (ps.set j (p, [bs[j].2, bs[j].1])) es _ none _ none (fun _ _ h => h) s3 (hP.set j p (bs[j].2, bs[j].1)) (R.set jb (by simpa using w2) (by simpa using w1)) (List.length_set ..) hes rfl
        · refine ⟨rfl, rfl, draw_spec s3 (by decide) (by decide) fun sd l4 sd0 sd1 s4 => ⟨_, rfl, rfl, rfl, draw_spec s4 (by omega) (by omega) fun v l5 v0 v1 s5 => ?_⟩⟩
          obtain ⟨sd, rfl⟩ := Int.eq_ofNat_of_zero_le sd0
          obtain ⟨v, rfl⟩ := Int.eq_ofNat_of_zero_le v0
          have vj : v < n + j := by omega
          have sd2 : sd < 2 := by omega
          have l2 : (ps[j].2.map nI).length = 2 := by
            rw [g]
            rfl
          refine ⟨⟨_, _, rfl⟩, _, _, j, _, _, rfl, ixN_of (by rw [nsR_len]; exact jp), nsR_get jp, sd, rfl, ixN_of (by rw [l2]; exact sd2), ?_⟩
          obtain rfl | rfl : sd = 0 ∨ sd = 1 := by omega
          · have eb : (ps[j].2.map nI).set 0 (.int (v : Int)) = [v, bs[j].2].map nI := by
              rw [g]
              rfl
            rw [eb, nsR_setP]
            exact r1 _ l5 (bs.set j (v, bs[j].2)) (ps.set j (ps[j].1, [v, bs[j].2])) es _ none _ _ (fun _ _ h => h) s5 (hP.set j ps[j].1 (v, bs[j].2)) (R.set jb vj (by simpa using w2)) (List.length_set ..) hes rfl
          · have eb : (ps[j].2.map nI).set 1 (.int (v : Int)) = [bs[j].1, v].map nI := by
              rw [g]
              rfl
            rw [eb, nsR_setP]
            exact r1 _ l5 (bs.set j (bs[j].1, v)) (ps.set j (ps[j].1, [bs[j].1, v])) es _ none _ _ (fun _ _ h => h) s5 (hP.set j ps[j].1 (bs[j].1, v)) (R.set jb (by simpa using w1) vj) (List.length_set ..) hes rfl
      · refine ⟨rfl, rfl, rfl, draw_spec s1 (by rw [le0]; omega) (by rw [le0]; omega) fun j l6 j0 j1 s6 => ?_⟩
        obtain ⟨j, rfl⟩ := Int.eq_ofNat_of_zero_le j0
        rw [le0] at j1
        refine ⟨_, rfl, _, _, rfl, rfl, rfl, draw_spec s6 (by rw [nsR_len]; omega) (by rw [nsR_len]; omega) fun v l7 v0 v1 s7 => ⟨⟨_, _, _, rfl⟩, j, ixN_of (by rw [le0]; omega), ?_⟩⟩
        obtain ⟨v, rfl⟩ := Int.eq_ofNat_of_zero_le v0
        rw [nsR_len] at v1
        rw [es_set]
        exact r1 _ l7 bs ps (es.set j v) rl none _ none (fun _ _ h => h) s7 hP (up R) rfl (es_lt j v (by omega)) (List.length_set ..)
    · refine ⟨rfl, rfl, rfl, draw_spec hl (by rw [le0]; omega) (by rw [le0]; omega) fun j l6 j0 j1 s6 => ?_⟩
      obtain ⟨j, rfl⟩ := Int.eq_ofNat_of_zero_le j0
      rw [le0] at j1
      refine ⟨_, rfl, _, _, rfl, rfl, rfl, draw_spec s6 (by rw [nsR_len]; omega) (by rw [nsR_len]; omega) fun v l7 v0 v1 s7 => ⟨⟨_, _, _, rfl⟩, j, ixN_of (by rw [le0]; omega), ?_⟩⟩
      obtain ⟨v, rfl⟩ := Int.eq_ofNat_of_zero_le v0
      rw [nsR_len] at v1
      rw [es_set]
      exact r1 _ l7 bs ps (es.set j v) rl none _ none (fun _ _ h => h) s7 hP (up R) rfl (es_lt j v (by omega)) (List.length_set ..)

end
end Kx

namespace Kx
open PySem PySem.Spec PyProof.Rows L2 My
section
variable {P : Program} {w : World} {K : PySem.W.Frag} {mg : Str → Option Value} {base : Heap} {A : Ads}
theorem lcIn_all {β : Type} {src1 : Src} {all1 : List PyData} {g1 : DG} {el : DE} {vs1 : List Nat} {nxt : List PyData → Ev → Prop} {e : Ev} {enc f : β → PyData} (hi : items e src1 = some all1) : ∀ (ys : List β) (acc : List PyData), acc.length + ys.length ≤ 90000 →
    (∀ y ∈ ys, ∀ Kc : Rv → Ev → Prop, (∀ e4, wipeE e4 vs1 = e → Kc (.dat (f y)) e4) → g1 (.dat (enc y)) (wipeE e vs1) fun e2 => el e2 Kc) → nxt (acc ++ ys.map f) e → lcIn src1 all1 g1 el vs1 nxt (ys.map enc) acc e
  | [], acc, _, _, q => by
    rw [List.map_nil, List.append_nil] at q
    exact q
  | y :: ys, acc, hl, h, q => by
    rw [List.map_cons]
    unfold lcIn
    rw [List.length_cons] at hl
    refine h y List.mem_cons_self _ fun e4 h4 => ?_
    dsimp only
    rw [h4]
    refine ⟨by omega, hi, lcIn_all hi ys (acc ++ [f y]) (by rw [List.length_append, List.length_singleton]; omega) (fun z hz => h z (List.mem_cons_of_mem _ hz)) ?_⟩
    rw [List.map_cons] at q
    rw [List.append_assoc]
    exact q
theorem lcOut_all {α : Type} {src : Src} {all : List PyData} {g : DG} {di1 : DI} {g1 : DG} {el : DE} {vs vs1 : List Nat} {fin : List PyData → Ev → Prop} {e : Ev} {enc : α → PyData} {F : α → List PyData} {m : Nat} (hi : items e src = some all) : ∀ (xs : List α) (acc : List PyData), acc.length + m * xs.length ≤ 80000 → (∀ x ∈ xs, (F x).length ≤ m) →
    (∀ x ∈ xs, ∀ (acc : List PyData) (nxt : List PyData → Ev → Prop), acc.length ≤ 80000 → (∀ e5, wipeE e5 vs = e → nxt (acc ++ F x) e5) → g (.dat (enc x)) (wipeE e vs) fun e2 => di1 e2 fun src1 e3 => ∃ all1, items e3 src1 = some all1 ∧ items (wipeE e3 vs1) src1 = some all1 ∧ lcIn src1 all1 g1 el vs1 nxt all1 acc (wipeE e3 vs1)) →
    fin (acc ++ xs.flatMap F) e → lcOut src all g di1 g1 el vs vs1 fin (xs.map enc) acc e
  | [], acc, _, _, _, q => by
    rw [List.flatMap_nil, List.append_nil] at q
    exact q
  | x :: xs, acc, hl, hm, h, q => by
    rw [List.map_cons]
    unfold lcOut
    rw [List.length_cons, Nat.mul_add, Nat.mul_one] at hl
    refine h x List.mem_cons_self acc _ (by omega) fun e5 h5 => ?_
    rw [h5]
    have := hm x List.mem_cons_self
    refine ⟨hi, lcOut_all hi xs (acc ++ F x) (by rw [List.length_append]; omega) (fun z hz => hm z (List.mem_cons_of_mem _ hz)) (fun z hz => h z (List.mem_cons_of_mem _ hz)) ?_⟩
    rw [List.flatMap_cons] at q
    rw [List.append_assoc]
    exact q

theorem nat_at {w : List Nat} {k : Nat} (h : k < w.length) : atI (w.map nI) (k : Int) = some (nI (w.getD k 0)) := by
  refine atI_of ?_
  rw [List.getElem?_map, List.getD_eq_getElem?_getD, List.getElem?_eq_getElem h]
  rfl
def encT (rows : List (List Nat)) : PyData := .tuple (rows.map encW)
/-- a table of m worths -/
structure TabOk (m : Nat) (T : List (List Nat)) : Prop where
  m1 : 1 ≤ m
  m8 : m ≤ 8
  len : T.length = m
  row : ∀ r ∈ T, r.length = m
  lt : ∀ r ∈ T, ∀ x ∈ r, x < m
def tg (T : List (List Nat)) (x y : Nat) : Nat := (T.getD x []).getD y 0
theorem TabOk.mem {m : Nat} {T : List (List Nat)} (h : TabOk m T) {x : Nat} (hx : x < m) : T.getD x [] ∈ T := by
  rw [List.getD_eq_getElem?_getD, List.getElem?_eq_getElem (by rw [h.len]; exact hx)]
  exact List.getElem_mem _
theorem TabOk.rlen {m : Nat} {T : List (List Nat)} (h : TabOk m T) {x : Nat} (hx : x < m) : (T.getD x []).length = m := h.row _ (h.mem hx)
theorem tg_lt {m : Nat} {T : List (List Nat)} (h : TabOk m T) {x y : Nat} (hx : x < m) (hy : y < m) : tg T x y < m := by
  unfold tg
  have e := h.rlen hx
  have e2 := h.lt _ (h.mem hx)
  generalize T.getD x [] = r at e e2
  rw [List.getD_eq_getElem?_getD, List.getElem?_eq_getElem (by omega)]
  exact e2 _ (List.getElem_mem _)
theorem tab_at {m : Nat} {T : List (List Nat)} (h : TabOk m T) {x : Nat} (hx : x < m) : atI (T.map encW) (x : Int) = some (encW (T.getD x [])) := by
  refine atI_of ?_
  rw [List.getElem?_map, List.getD_eq_getElem?_getD, List.getElem?_eq_getElem (by rw [h.len]; exact hx)]
  rfl
theorem row_at {m : Nat} {T : List (List Nat)} (h : TabOk m T) {x y : Nat} (hx : x < m) (hy : y < m) : atI ((T.getD x []).map nI) (y : Int) = some (nI (tg T x y)) := nat_at (by rw [h.rlen hx]; exact hy)
theorem plain_nats : ∀ w : List Nat, plainL (w.map nI) = true
  | [] => rfl
  | x :: w => plain_nats w
theorem plain_rows : ∀ T : List (List Nat), plainL (T.map encW) = true
  | [] => rfl
  | r :: T => by
    have h1 := plain_nats r
    have h2 := plain_rows T
    show (plainL (r.map nI) && plainL (T.map encW)) = true
    rw [h1, h2]
    rfl
theorem plain_encT (T : List (List Nat)) : plainD (encT T) = true := plain_rows T
/-- what each wire has -/
def stepT (T : List (List Nat)) (acc : List Nat) (b : Nat × Nat) : List Nat := acc ++ [tg T (acc.getD b.1 0) (acc.getD b.2 0)]
def runT (T : List (List Nat)) (r : List Nat) (bs : List (Nat × Nat)) : List Nat := bs.foldl (stepT T) r
theorem runT_take {T : List (List Nat)} {r : List Nat} {bs : List (Nat × Nat)} {i : Nat} {b : Nat × Nat} (h : bs[i]? = some b) : runT T r (bs.take (i + 1)) = stepT T (runT T r (bs.take i)) b := by
  unfold runT
  rw [List.take_add_one, h, Option.toList_some, List.foldl_append]
  rfl
theorem stepT_len (T : List (List Nat)) : ∀ (bs : List (Nat × Nat)) (r : List Nat), (bs.foldl (stepT T) r).length = r.length + bs.length
  | [], r => rfl
  | b :: bs, r => by
    rw [List.foldl_cons, stepT_len T bs]
    unfold stepT
    rw [List.length_append, List.length_singleton, List.length_cons]
    omega
theorem runT_len (T : List (List Nat)) (r : List Nat) (bs : List (Nat × Nat)) : (runT T r bs).length = r.length + bs.length := stepT_len T bs r
theorem getD_lt {m : Nat} {r : List Nat} (m1 : 1 ≤ m) (h : ∀ x ∈ r, x < m) (i : Nat) : r.getD i 0 < m := by
  rw [List.getD_eq_getElem?_getD]
  cases e : r[i]? with
  | none => exact m1
  | some u => exact h u (List.mem_of_getElem? e)
theorem runT_lt {m : Nat} {T : List (List Nat)} (h : TabOk m T) : ∀ (bs : List (Nat × Nat)) (r : List Nat), (∀ x ∈ r, x < m) → ∀ x ∈ runT T r bs, x < m
  | [], r, hr => hr
  | b :: bs, r, hr => runT_lt h bs (stepT T r b) fun x hx => by
    unfold stepT at hx
    rcases List.mem_append.mp hx with hx | hx
    · exact hr x hx
    · rw [List.mem_singleton.mp hx]
      exact tg_lt h (getD_lt h.m1 hr _) (getD_lt h.m1 hr _)
theorem runT_ok {n m J : Nat} {bs : List (Nat × Nat)} {es r : List Nat} {T : List (List Nat)} {g : Addr} {F : FSpec} {k : Rv → List (List PyData) → Prop} (hN : NetOk n bs es) (h : TabOk m T) (hl : r.length = n) (hr : ∀ x ∈ r, x < m) (hj : J ≤ 1)
    (hF : ∀ a b (k' : PyData → Prop), a < m → b < m → k' (nI (tg T a b)) → F [nI a, nI b] k') (q : ∀ a, k (.own true a ((runT T r bs).map nI)) []) : S_run_through A [.dat (encNet n bs es), .dat (encW r), .fn J g 2 F] k := by
  refine ⟨rfl, ?_⟩
  unfold d_run_through
  have n12 := hN.n2
  have b60 := hN.b
  refine fun lf => ⟨_, rfl, ?_⟩
  refine ⟨bs.map encB, rfl, ?_⟩
  refine for_all bs rfl (fun i e => ∃ z4 z5, e = [some (.dat (encNet n bs es)), some (.dat (encW r)), some (.fn J g 2 F), some (.own true lf ((runT T r (bs.take i)).map nI)), z4, z5]) ⟨none, none, rfl⟩ (fun i b e Kc hb hI hK => ?_) (fun i e hI => ?_) (fun e hI => ?_)
  · obtain ⟨z4, z5, rfl⟩ := hI
    have hi : i < bs.length := (List.getElem?_eq_some_iff.mp hb).1
    obtain ⟨g1, g2⟩ := boxOk_get (i := i) hN.bx hb
    have lw := runT_len T r (bs.take i)
    rw [List.length_take, Nat.min_eq_left (by omega)] at lw
    have hlt := runT_lt h (bs.take i) r hr
    have e1 := runT_take (T := T) (r := r) hb
    generalize runT T r (bs.take i) = acc at lw hlt e1
    have x1 : atI (acc.map nI) (b.1 : Int) = some (nI (acc.getD b.1 0)) := nat_at (by omega)
    have x2 : atI (acc.map nI) (b.2 : Int) = some (nI (acc.getD b.2 0)) := nat_at (by omega)
    have lz : (acc.map nI).length < 100000 := by
      rw [List.length_map]
      omega
    refine ⟨rfl, rfl, ⟨_, _, _, rfl⟩, hj, rfl, rfl, _, x1, rfl, _, x2, rfl, hF _ _ _ (getD_lt h.m1 hlt _) (getD_lt h.m1 hlt _) ?_⟩
    refine ⟨lz, hK _ ⟨some (.dat (nI b.1)), some (.dat (nI b.2)), ?_⟩⟩
    rw [e1]
    unfold stepT
    rw [List.map_append]
    rfl
  · obtain ⟨z4, z5, rfl⟩ := hI
    rfl
  · obtain ⟨z4, z5, rfl⟩ := hI
    rw [List.take_length]
    exact ⟨rfl, rfl, q lf⟩
theorem end_worths_ok {n m : Nat} {bs : List (Nat × Nat)} {es r : List Nat} {T : List (List Nat)} {k : Rv → List (List PyData) → Prop} (hN : NetOk n bs es) (h : TabOk m T) (hl : r.length = n) (hr : ∀ x ∈ r, x < m)
    (q : k (.dat (encW (es.map fun e => (runT T r bs).getD e 0))) []) : S_end_worths A [.dat (encNet n bs es), .dat (encT T), .dat (encW r)] k := by
  refine ⟨rfl, ?_⟩
  unfold d_end_worths
  have e24 := hN.e2
  have lw := runT_len T r bs
  refine ⟨⟨_, rfl⟩, plain_encT _, fun g => runT_ok hN h hl hr (Nat.le_refl 1) (fun a b k' ha hb q' => ⟨rfl, ?_⟩) fun a => ?_⟩
  · exact ⟨_, tab_at h ha, _, row_at h ha hb, q'⟩
  · refine ⟨_, rfl, es.map nI, rfl, rfl, ?_⟩
    refine lc_all es (enc := nI) (f := fun e => nI ((runT T r bs).getD e 0)) rfl rfl (by omega) (fun i x hx Kc Kn q1 => ⟨fun _ => ?_, noT⟩) ?_
    · have hm := hN.ew x (List.mem_of_getElem? hx)
      exact ⟨_, nat_at (by omega), q1 _ rfl⟩
    · have q' : k (.dat (.tuple (es.map fun e => nI ((runT T r bs).getD e 0)))) [] := by
        have e : (es.map fun e => nI ((runT T r bs).getD e 0)) = (es.map fun e => (runT T r bs).getD e 0).map nI := by
          rw [List.map_map]
          rfl
        rw [e]
        exact q
      exact fun a => ⟨rfl, q'⟩

end
end Kx

namespace Kx
open PySem PySem.Spec PyProof.Rows L2 My
section
variable {P : Program} {w : World} {K : PySem.W.Frag} {mg : Str → Option Value} {base : Heap} {A : Ads}
theorem whole_ok {i lo hi : Int} {k : Rv → List (List PyData) → Prop} (h1 : lo ≤ i) (h2 : i ≤ hi) (h : k (.dat (.bool true)) []) : S_is_whole A [.dat (.int i), .dat (.int lo), .dat (.int hi)] k := by
  refine ⟨rfl, ?_⟩
  unfold d_is_whole
  have h' : k (.dat (.bool (decide (i ≤ hi)))) [] := by rw [decide_eq_true h2]; exact h
  refine ⟨fun _ => ⟨fun _ => ⟨rfl, h'⟩, fun e => absurd (decide_eq_true h1) (by rw [e]; decide)⟩, noT⟩
theorem row_ok {ds : List PyData} {lo hi : Int} {k : Rv → List (List PyData) → Prop} (h1 : lo ≤ (ds.length : Int)) (h2 : (ds.length : Int) ≤ hi) (h : k (.dat (.bool true)) []) : S_is_row A [.dat (.tuple ds), .dat (.int lo), .dat (.int hi)] k := by
  refine ⟨rfl, ?_⟩
  unfold d_is_row
  have h' : k (.dat (.bool (decide ((ds.length : Int) ≤ hi)))) [] := by rw [decide_eq_true h2]; exact h
  refine ⟨fun _ => ⟨fun _ => ⟨rfl, h'⟩, fun e => absurd (decide_eq_true h1) (by rw [e]; decide)⟩, noT⟩
theorem wires_ok {ds : List PyData} {m : Int} {k : Rv → List (List PyData) → Prop} (h1 : wiresD ds m = true) (h : k (.dat (.bool true)) []) : S_are_wires A [.dat (.tuple ds), .dat (.int m)] k := by
  refine ⟨rfl, ?_⟩
  unfold d_are_wires
  have h' : k (.dat (.bool (wiresD ds m))) [] := by rw [h1]; exact h
  exact ⟨rfl, h'⟩
theorem wiresD_nats {m : Int} : ∀ {es : List Nat}, (∀ e ∈ es, (e : Int) < m) → wiresD (es.map nI) m = true
  | [], _ => rfl
  | e :: r, h => by
    have ih := wiresD_nats (m := m) fun x hx => h x (List.mem_cons_of_mem _ hx)
    unfold wiresD at ih ⊢
    rw [List.map_cons, List.all_cons, wholeD_nI, decide_eq_true (h e List.mem_cons_self), ih]
    rfl
theorem enum_get {ds : List PyData} {i : Nat} {d : PyData} (h : (enumD ds)[i]? = some d) : i < ds.length ∧ d = .tuple [.int (i : Int), ds.getD i .none] := by
  unfold enumD at h
  have h1 := (List.getElem?_eq_some_iff.mp h).1
  have h2 := (List.getElem?_eq_some_iff.mp h).2
  simp only [List.length_map, List.length_range, List.getElem_map, List.getElem_range] at h1 h2
  exact ⟨h1, h2.symm⟩
theorem net_ok {n : Nat} {bs : List (Nat × Nat)} {es : List Nat} {k : Rv → List (List PyData) → Prop} (hN : NetOk n bs es) (h : k (.dat (.bool true)) []) : S_is_net A [.dat (encNet n bs es)] k := by
  refine ⟨rfl, ?_⟩
  unfold d_is_net
  have n1 := hN.n1
  have n2 := hN.n2
  have b60 := hN.b
  have e1 := hN.e1
  have e24 := hN.e2
  have lb : (bs.map encB).length = bs.length := List.length_map _
  have le : (es.map nI).length = es.length := List.length_map _
  refine ⟨rfl, row_ok (Int.le_refl 3) (Int.le_refl 3) ⟨noF, fun _ => ?_⟩⟩
  refine ⟨rfl, rfl, rfl, whole_ok (by omega) (by omega) ⟨noF, fun _ => ?_⟩⟩
  refine ⟨rfl, row_ok (by omega) (by omega) ⟨noF, fun _ => ⟨rfl, row_ok (by omega) (by omega) ⟨noF, fun _ => ?_⟩⟩⟩⟩
  refine ⟨_, rfl, ?_⟩
  refine forLoop_ind (fun i e => ∃ z4 z5, e = [some (.dat (encNet n bs es)), some (.dat (nI n)), some (.dat (.tuple (bs.map encB))), some (.dat (encW es)), z4, z5]) ⟨none, none, rfl⟩ (fun i d e Kc hd hI hK => ?_) (fun i e hI => ?_) (fun e hI => ?_)
  · obtain ⟨z4, z5, rfl⟩ := hI
    obtain ⟨hi, rfl⟩ := enum_get hd
    rw [lb] at hi
    have gb : bs[i]? = some bs[i] := List.getElem?_eq_getElem hi
    have eg : (bs.map encB).getD i .none = encB bs[i] := by
      rw [List.getD_eq_getElem?_getD, List.getElem?_map, gb]
      rfl
    rw [eg]
    obtain ⟨g1, g2⟩ := boxOk_get (i := i) hN.bx gb
    have hw : wiresD [nI bs[i].1, nI bs[i].2] ((n : Int) + (i : Int)) = true := wiresD_nats (es := [bs[i].1, bs[i].2]) fun e he => by
      rcases List.mem_cons.mp he with rfl | he
      · omega
      · rw [List.mem_singleton.mp he]
        omega
    refine ⟨rfl, rfl, rfl, row_ok (Int.le_refl 2) (Int.le_refl 2) ⟨noF, fun _ => ⟨rfl, wires_ok hw ⟨noF, fun _ => ?_⟩⟩⟩⟩
    exact hK _ ⟨_, _, rfl⟩
  · obtain ⟨z4, z5, rfl⟩ := hI
    rfl
  · obtain ⟨z4, z5, rfl⟩ := hI
    have hw : wiresD (es.map nI) ((n : Int) + ((bs.map encB).length : Int)) = true := wiresD_nats fun e he => by
      have := hN.ew e he
      omega
    exact ⟨rfl, wires_ok hw ⟨rfl, h⟩⟩

end
end Kx

namespace Kx
open PySem PySem.Spec PyProof.Rows L2 My
section
variable {P : Program} {w : World} {K : PySem.W.Frag} {mg : Str → Option Value} {base : Heap} {A : Ads}
theorem pick_tup {a : Addr} {l xs : List PyData} {k : Rv → List (List PyData) → Prop} (hl : Jr l) (h0 : 0 < xs.length) (h1 : xs.length ≤ 1000000) (h : ∀ d ∈ xs, ∀ l', Jr l' → k (.dat d) [l']) : S_pick A [.own false a l, .dat (.tuple xs)] k := by
  refine ⟨rfl, ?_⟩
  unfold d_pick
  refine ⟨rfl, rfl, draw_spec hl (by omega) (by omega) fun j l' j0 j1 s => ?_⟩
  obtain ⟨j, rfl⟩ := Int.eq_ofNat_of_zero_le j0
  have hj : j < xs.length := by omega
  exact ⟨xs[j], atI_of (List.getElem?_eq_getElem hj), rfl, rfl, h _ (List.getElem_mem hj) l' s⟩
/-- a pick among numbers -/
theorem pick_nat {a : Addr} {l : List PyData} {xs : List Nat} {k : Rv → List (List PyData) → Prop} (hl : Jr l) (h0 : 0 < xs.length) (h1 : xs.length ≤ 1000000) (h : ∀ x ∈ xs, ∀ l', Jr l' → k (.dat (nI x)) [l']) : S_pick A [.own false a l, .dat (.tuple (xs.map nI))] k :=
  pick_tup hl (by rw [List.length_map]; exact h0) (by rw [List.length_map]; exact h1) fun d hd l' s => by
    obtain ⟨x, hx, rfl⟩ := List.mem_map.mp hd
    exact h x hx l' s

theorem jrow_ok {a : Addr} {l : List PyData} {n m : Nat} {k : Rv → List (List PyData) → Prop} (hl : Jr l) (hn : n ≤ 1000) (m1 : 1 ≤ m) (m8 : m ≤ 1000) (q : ∀ r l', r.length = n → (∀ x ∈ r, x < m) → Jr l' → k (.dat (encW r)) [l']) : S_row A [.own false a l, .dat (nI n), .dat (nI m)] k := by
  refine ⟨rfl, ?_⟩
  unfold d_row
  refine ⟨le_sz rfl, fun fa => ?_⟩
  refine ⟨by omega, by omega, _, rfl, ?_⟩
  refine for_all (List.range n) (rngN (n := n) rfl) (fun i e => ∃ l' r z, e = [some (.own false a l'), some (.dat (nI n)), some (.dat (nI m)), some (.own true fa (r.map nI)), z] ∧ Jr l' ∧ r.length = i ∧ ∀ x ∈ r, x < m) ⟨l, [], none, rfl, hl, rfl, fun _ h => nomatch h⟩ (fun i x e Kc hx hI hK => ?_) (fun i e hI => ?_) (fun e hI => ?_)
  · obtain ⟨l', r, z, rfl, s, hr, hlt⟩ := hI
    obtain ⟨rfl, hx⟩ := rng_get hx
    unfold d_row_b1
    have lz : (r.map nI).length < 100000 := by
      rw [List.length_map]
      omega
    refine ⟨⟨_, _, _, rfl⟩, rfl, rfl, draw_spec s (by omega) (by omega) fun j l2 j0 j1 s2 => ?_⟩
    obtain ⟨j, rfl⟩ := Int.eq_ofNat_of_zero_le j0
    refine ⟨lz, hK _ ⟨l2, r ++ [j], some (.dat (nI x)), ?_, s2, by rw [List.length_append, hr]; rfl, fun y hy => ?_⟩⟩
    · rw [List.map_append]
      rfl
    · rcases List.mem_append.mp hy with hy | hy
      · exact hlt y hy
      · rw [List.mem_singleton.mp hy]
        omega
  · obtain ⟨l', r, z, rfl, _⟩ := hI
    rfl
  · obtain ⟨l', r, z, rfl, s, hr, hlt⟩ := hI
    rw [List.length_range] at hr
    exact ⟨rfl, rfl, rfl, q r l' hr hlt s⟩

end
end Kx

namespace Kx
open PySem PySem.Spec PyProof.Rows L2 My
section
variable {P : Program} {w : World} {K : PySem.W.Frag} {mg : Str → Option Value} {base : Heap} {A : Ads}
abbrev bW (w : List Nat) : PyData := bw (w.map nI)
theorem words_spec {n : Nat} {bs : List (Nat × Nat)} {es : List Nat} {k : Rv → List (List PyData) → Prop} (hN : NetOk n bs es) {L : Nat} (L4 : L ≤ 50000) (hLn : Lens L (wordsOf n bs)) (q : ∀ a, k (.own true a ((wordsOf n bs).map bW)) []) :
    S_words A [.dat (encNet n bs es)] k := by
  refine ⟨rfl, ?_⟩
  unfold d_words
  have n12 := hN.n2
  have b60 := hN.b
  refine ⟨_, rfl, by omega, by omega, _, rfl, rfl, ?_⟩
  refine lc_ind (fun i acc e => acc = ((List.range i).map fun k => [k]).map bW ∧ e = [some (.dat (encNet n bs es)), none, none, none]) ⟨rfl, rfl⟩ (fun i d acc e Kc hd hI hK => ?_) (fun i acc e hI => rfl) (fun acc e hI lw => ?_)
  · obtain ⟨rfl, rfl⟩ := hI
    have hi : i < n := by
      have := (List.getElem?_eq_some_iff.mp hd).1
      simp at this
      omega
    have ed : d = .int (i : Int) := by
      have := (List.getElem?_eq_some_iff.mp hd).2
      rw [← this]
      simp
    subst ed
    refine ⟨fun _ => ⟨le_sz rfl, by rw [List.length_map, List.length_map, List.length_range]; omega, hK _ _ ⟨?_, rfl⟩⟩, noT⟩
    rw [List.range_succ, List.map_append, List.map_append]
    rfl
  obtain ⟨ha, rfl⟩ := hI
  have ea : acc = (wordsOf n (bs.take 0)).map bW := by
    rw [ha, List.length_map, List.length_range, show ((n : Int)).toNat = n from Int.toNat_natCast n]
    rfl
  subst ea
  clear ha
  refine ⟨_, rfl, eBs bs, rfl, ?_⟩
  refine forLoop_ind (fun i e => ∃ z2 z3, e = [some (.dat (encNet n bs es)), some (.own true lw ((wordsOf n (bs.take i)).map bW)), z2, z3]) ⟨none, none, rfl⟩ (fun i d e Kc hd hI hK => ?_) (fun i e hI => rfl) (fun e hI => ?_)
  · obtain ⟨z2, z3, rfl⟩ := hI
    have hi : i < bs.length := by
      have := (List.getElem?_eq_some_iff.mp hd).1
      rw [List.length_map] at this
      exact this
    have ed : d = encB bs[i] := by
      have := (List.getElem?_eq_some_iff.mp hd).2
      rw [← this, List.getElem_map]
    subst ed
    obtain ⟨g1, g2⟩ := boxOk_get (i := i) hN.bx (List.getElem?_eq_getElem hi)
    have lwo := wordsOf_len n (bs.take i)
    rw [List.length_take, Nat.min_eq_left (by omega)] at lwo
    have Li := hLn.take i
    have r1 : (wordsOf n (bs.take i))[(bs[i]).1]? = some ((wordsOf n (bs.take i))[(bs[i]).1]'(by omega)) := List.getElem?_eq_getElem _
    have r2 : (wordsOf n (bs.take i))[(bs[i]).2]? = some ((wordsOf n (bs.take i))[(bs[i]).2]'(by omega)) := List.getElem?_eq_getElem _
    generalize (wordsOf n (bs.take i))[(bs[i]).1]'(by omega) = w1 at r1
    generalize (wordsOf n (bs.take i))[(bs[i]).2]'(by omega) = w2 at r2
    have p1 := lens_get Li r1
    have p2 := lens_get Li r2
    have x1 : atI ((wordsOf n (bs.take i)).map bW) ((bs[i]).1 : Int) = some (bW w1) := atI_of (by rw [List.getElem?_map, r1]; rfl)
    have x2 : atI ((wordsOf n (bs.take i)).map bW) ((bs[i]).2 : Int) = some (bW w2) := atI_of (by rw [List.getElem?_map, r2]; rfl)
    have l1 : (w1.map nI).length = w1.length := List.length_map _
    have l2 : (w2.map nI).length = w2.length := List.length_map _
    have lwm : ((wordsOf n (bs.take i)).map bW).length < 100000 := by rw [List.length_map, lwo]; omega
    refine ⟨⟨_, _, _, rfl⟩, _, rfl, rfl, _, x1, _, rfl, rfl, _, x2, fun z => ?_, fun z => ?_, by rw [l1, l2]; omega, ?_⟩
    · rw [z] at l1
      have := p1.1
      simp at l1
      omega
    · rw [z] at l2
      have := p2.1
      simp at l2
      omega
    refine ⟨lwm, hK _ ⟨z2, some (.dat (encB bs[i])), ?_⟩⟩
    have ew : (wordsOf n (bs.take (i + 1))).map bW = (wordsOf n (bs.take i)).map bW ++ [bw (w1.map nI ++ w2.map nI)] := by
      rw [wordsOf_take (List.getElem?_eq_getElem hi)]
      unfold wstep
      rw [getD_of r1, getD_of r2, ← List.map_append (f := nI), List.map_append]
      rfl
    rw [ew]
    rfl
  · obtain ⟨z2, z3, rfl⟩ := hI
    have := q lw
    rw [← List.take_length (l := bs)] at this
    rw [List.length_map]
    exact ⟨rfl, rfl, this⟩

abbrev eNs (w : List Nat) : List PyData := w.map nI
/-- the form of a word for a kind -/
def formD (n : Nat) (x : PyData) (w : List Nat) : PyData := match x with
  | .str s => if s = "any" then encW w else if s = "first" then encW (firstsOf w) else if s = "last" then encW (lastsOf w) else if s = "sets" then encW (setOf 12 w) else if s = "ends" then encW (endsOf w) else encW (countsOf n w)
  | .int m => encW ((countsOf n w).map fun c => c % m.toNat)
  | _ => .none
theorem ums_nI : ∀ w : List Nat, ums (w.map nI) = w.map nI
  | [] => rfl
  | k :: r => by
    show um (nI k) :: ums (r.map nI) = nI k :: r.map nI
    rw [ums_nI r]
    rfl
theorem um_encW (w : List Nat) : um (encW w) = encW w := by
  show PyData.tuple (ums (w.map nI)) = .tuple (w.map nI)
  rw [ums_nI]
theorem um_bW (w : List Nat) : um (bW w) = encW w := by
  show PyData.tuple (ums (w.map nI)) = .tuple (w.map nI)
  rw [ums_nI]
theorem any_nat (i : Nat) : ∀ w : List Nat, ((w.map nI).any fun y => PyData.eqv y (nI i)) = decide (i ∈ w)
  | [] => rfl
  | k :: r => by
    rw [List.map_cons, List.any_cons, any_nat i r]
    have e : PyData.eqv (nI k) (nI i) = decide (i = k) := by
      show decide ((k : Int) = (i : Int)) = _
      by_cases h : i = k
      · subst h
        simp
      · rw [decide_eq_false h, decide_eq_false (by omega)]
    rw [e]
    by_cases h : i = k
    · simp [h]
    · simp [h]
theorem flat_nats (w : List Nat) : (w.map nI).all flatD = true := by
  rw [List.all_map, List.all_eq_true]
  intro x _
  rfl
theorem firsts_len (zs : List Nat) : (firstsOf zs).length ≤ zs.length := by
  have key : ∀ (zs acc : List Nat), (zs.foldl fstep acc).length ≤ acc.length + zs.length := fun zs => by
    induction zs with
    | nil => intro acc; exact Nat.le_refl _
    | cons z r ih =>
      intro acc
      have h1 := ih (fstep acc z)
      have h2 : (fstep acc z).length ≤ acc.length + 1 := by
        unfold fstep
        split
        · omega
        · simp
      show (r.foldl fstep (fstep acc z)).length ≤ acc.length + (r.length + 1)
      omega
  have := key zs []
  rw [List.length_nil, Nat.zero_add] at this
  exact this
/-- for place in ..: if place not in found: found.append(place) -/
theorem form_for {src : Src} {ys : List Nat} {D : EndsD} {v0 v1 v2 : PyData} {lf : Addr} (hl : ys.length ≤ 90000)
    (hs : ∀ ds z5, items [some (.dat v0), some (.dat v1), some (.dat v2), some (.own true lf ds), z5, none, none] src = some (eNs ys))
    (hD : ∀ z5, D.nx [some (.dat v0), some (.dat v1), some (.dat v2), some (.own true lf (eNs (firstsOf ys))), z5, none, none]) :
    forLoop src (eNs ys) (dgName 4) (d_form_b1 A) D (eNs ys) [some (.dat v0), some (.dat v1), some (.dat v2), some (.own true lf []), none, none, none] := by
  refine forLoop_ind (fun i e => ∃ z5, e = [some (.dat v0), some (.dat v1), some (.dat v2), some (.own true lf (eNs (firstsOf (ys.take i)))), z5, none, none]) ⟨none, rfl⟩ (fun t d e Kc hd hI hK => ?_) (fun i e hI => ?_) (fun e hI => ?_)
  · obtain ⟨z5, rfl⟩ := hI
    unfold d_form_b1
    have ht : t < ys.length := by
      have := (List.getElem?_eq_some_iff.mp hd).1
      rw [List.length_map] at this
      exact this
    have ed : d = nI ys[t] := by
      have := (List.getElem?_eq_some_iff.mp hd).2
      rw [← this, List.getElem_map]
    subst ed
    have ef : firstsOf (ys.take (t + 1)) = if ys[t] ∈ firstsOf (ys.take t) then firstsOf (ys.take t) else firstsOf (ys.take t) ++ [ys[t]] := by
      rw [List.take_add_one, List.getElem?_eq_getElem ht]
      unfold firstsOf
      rw [Option.toList_some, List.foldl_append]
      rfl
    have lz := firsts_len (ys.take t)
    have lt := List.length_take_le t ys
    have le : (eNs (firstsOf (ys.take t))).length < 100000 := by rw [List.length_map]; omega
    refine ⟨rfl, rfl, flat_nats _, fun e => ?_, fun e => ?_⟩
    · have e' : ¬ ys[t] ∈ firstsOf (ys.take t) := fun z => by
        rw [any_nat, decide_eq_true z] at e
        exact absurd e (by decide)
      rw [if_neg e'] at ef
      refine ⟨⟨_, _, _, rfl⟩, le, hK _ ⟨some (.dat (nI ys[t])), ?_⟩⟩
      rw [ef]
      unfold eNs
      rw [List.map_append]
      rfl
    · have e' : ys[t] ∈ firstsOf (ys.take t) := Decidable.byContradiction fun z => by
        rw [any_nat, decide_eq_false z] at e
        exact absurd e (by decide)
      rw [if_pos e'] at ef
      exact hK _ ⟨some (.dat (nI ys[t])), by rw [ef]; rfl⟩
  · obtain ⟨z5, rfl⟩ := hI
    exact hs _ _
  · obtain ⟨z5, rfl⟩ := hI
    rw [List.length_map, List.take_length]
    exact hD z5
theorem count_castE (i : Nat) : ∀ wd : List Nat, (wd.map fun x : Nat => (x : Int)).count (i : Int) = wd.count i
  | [] => rfl
  | k :: r => by
    rw [List.map_cons, List.count_cons, List.count_cons, count_castE i r]
    by_cases h : k = i
    · subst h
      simp
    · have : ((k : Int) == (i : Int)) = false := beq_eq_false_iff_ne.mpr (by omega)
      have h' : (k == i) = false := beq_eq_false_iff_ne.mpr h
      rw [this, h']
theorem nI_ints (w : List Nat) : w.map nI = (w.map fun x : Nat => (x : Int)).map .int := by
  rw [List.map_map]
  rfl
theorem range_get {n i : Nat} {d : PyData} (h : ((List.range ((n : Int)).toNat).map fun i : Nat => PyData.int (0 + (i : Int) * 1))[i]? = some d) : i < n ∧ d = .int (i : Int) := by
  have h1 := (List.getElem?_eq_some_iff.mp h).1
  have h2 := (List.getElem?_eq_some_iff.mp h).2
  simp at h1 h2
  exact ⟨h1, h2.symm⟩
theorem gtI0 {c : Nat} {k : Rx → Prop} (q : ∀ b : Bool, b = decide ((c : Int) > 0) → k (.dt (.bool b))) : gtW (nI c) (.int 0) k := q _ rfl
theorem in_fl {x : PyData} (hx : KindOk x) : (([.str "first", .str "last"].any fun y => PyData.eqv y x) = true → x = .str "first" ∨ x = .str "last") ∧ (([.str "first", .str "last"].any fun y => PyData.eqv y x) = false → x ≠ .str "first" ∧ x ≠ .str "last") := by
  rcases hx with rfl | rfl | rfl | rfl | rfl | rfl | ⟨m, rfl, m2, m8⟩
  · exact ⟨fun h => absurd h (by decide), fun _ => ⟨fun z => absurd (PyData.str.inj z) (by decide), fun z => absurd (PyData.str.inj z) (by decide)⟩⟩
  · exact ⟨fun h => absurd h (by decide), fun _ => ⟨fun z => absurd (PyData.str.inj z) (by decide), fun z => absurd (PyData.str.inj z) (by decide)⟩⟩
  · exact ⟨fun _ => .inl rfl, fun h => absurd h (by decide)⟩
  · exact ⟨fun _ => .inr rfl, fun h => absurd h (by decide)⟩
  · exact ⟨fun h => absurd h (by decide), fun _ => ⟨fun z => absurd (PyData.str.inj z) (by decide), fun z => absurd (PyData.str.inj z) (by decide)⟩⟩
  · exact ⟨fun h => absurd h (by decide), fun _ => ⟨fun z => absurd (PyData.str.inj z) (by decide), fun z => absurd (PyData.str.inj z) (by decide)⟩⟩
  · exact ⟨fun h => absurd (show false = true from h) (by decide), fun _ => ⟨PyData.noConfusion, PyData.noConfusion⟩⟩
theorem form_spec {n : Nat} {w : List Nat} {x : PyData} {k : Rv → List (List PyData) → Prop} (w1 : 1 ≤ w.length) (w4 : w.length ≤ 90000) (n2 : n ≤ 12) (hwn : ∀ k ∈ w, k < n) (hx : KindOk x) (q : ∀ d, um d = formD n x w → k (.dat d) []) :
    S_form A [.dat (bW w), .dat (.int (n : Int)), .dat x] k := by
  refine ⟨rfl, ?_⟩
  unfold d_form
  have lw : (w.map nI).length = w.length := List.length_map _
  have g0 : atI (w.map nI) (0 : Int) = some (nI (w.headD 0)) := by
    refine atI_of (j := 0) ?_
    match w, w1 with
    | k :: r, _ => rfl
  have g1 : atI (w.map nI) (-1) = some (nI (w.getLastD 0)) := by
    refine atI_neg1 ?_
    rw [lw, List.getElem?_map, ← List.getLast?_eq_getElem?]
    match w, w1 with
    | k :: r, _ => rfl
  refine eqK_test hx fun b p1 p2 => ⟨fun e => ⟨rfl, ?_⟩, fun e1 => ?_⟩
  · rw [p1 e] at q
    exact q _ (um_bW w)
  refine eqK_test hx fun b p3 p4 => ⟨fun e => ?_, fun e2 => ?_⟩
  · rw [p3 e] at q
    refine ⟨_, g0, _, g1, le_sz rfl, rfl, q _ ?_⟩
    exact um_encW [w.headD 0, w.getLastD 0]
  have hf : x = .str "first" → k (.dat (.tuple (eNs (firstsOf w)))) [] := fun e => by
    rw [e] at q
    exact q _ (um_encW _)
  have hl : x = .str "last" → k (.dat (.tuple (eNs (firstsOf w.reverse)).reverse)) [] := fun e => by
    rw [e] at q
    refine q _ ?_
    unfold eNs
    rw [← List.map_reverse]
    exact um_encW (firstsOf w.reverse).reverse
  obtain ⟨fl1, fl2⟩ := in_fl hx
  refine ⟨le_sz rfl, hx.flat, rfl, fun e => ?_, fun e => ?_⟩
  · have e5 := fl1 e
    refine ⟨le_sz rfl, fun lf => ?_⟩
    rcases e5 with e5 | e5
    · refine eqK_test hx fun b2 p9 p10 => ⟨fun _ => ?_, fun e6 => absurd e5 (p10 e6)⟩
      refine ⟨eNs w, rfl, ?_⟩
      refine form_for w4 (fun _ _ => rfl) fun z5 => ?_
      refine eqK_test hx fun b3 p11 p12 => ⟨fun _ => ?_, fun e6 => absurd e5 (p12 e6)⟩
      exact ⟨rfl, rfl, hf e5⟩
    · have ne : x ≠ .str "first" := by rw [e5]; exact fun z => absurd (PyData.str.inj z) (by decide)
      refine eqK_test hx fun b2 p11 p12 => ⟨fun e7 => absurd (p11 e7) ne, fun _ => ?_⟩
      have er : (w.map nI).reverse = eNs w.reverse := by
        unfold eNs
        rw [List.map_reverse]
      refine ⟨eNs w.reverse, congrArg some er, ?_⟩
      refine form_for (by rw [List.length_reverse]; omega) (fun _ _ => congrArg some er) fun z5 => ?_
      refine eqK_test hx fun b3 p13 p14 => ⟨fun e7 => absurd (p13 e7) ne, fun _ => ?_⟩
      exact ⟨rfl, fun lr => ⟨rfl, hl e5⟩⟩
  obtain ⟨e4, e5⟩ := fl2 e
  refine ⟨by omega, by omega, _, rfl, rfl, ?_⟩
  refine lc_ind (fun i acc e => acc = eNs (countsOf i w) ∧ e = [some (.dat (bW w)), some (.dat (.int (n : Int))), some (.dat x), none, none, none, none]) ⟨rfl, rfl⟩ (fun i d acc e Kc hd hI hK => ?_) (fun i acc e hI => rfl) (fun acc e hI lw => ?_)
  · obtain ⟨rfl, rfl⟩ := hI
    obtain ⟨hi, rfl⟩ := range_get hd
    have la : (eNs (countsOf i w)).length < 100000 := by
      unfold countsOf eNs
      rw [List.length_map, List.length_map, List.length_range]
      omega
    refine ⟨fun _ => ⟨_, nI_ints w, la, hK _ _ ⟨?_, rfl⟩⟩, noT⟩
    rw [count_castE]
    unfold countsOf eNs
    rw [List.range_succ, List.map_append, List.map_append]
    rfl
  obtain ⟨rfl, rfl⟩ := hI
  rw [List.length_map, List.length_range, Int.toNat_natCast]
  have lc : (countsOf n w).length = n := by
    unfold countsOf
    rw [List.length_map, List.length_range]
  refine eqK_test hx fun b p11 p12 => ⟨fun e => ?_, fun e6 => ?_⟩
  · rw [p11 e] at q
    exact ⟨rfl, q _ (um_encW _)⟩
  refine eqK_test hx fun b p13 p14 => ⟨fun e => ?_, fun e7 => ?_⟩
  · rw [p13 e] at q
    refine ⟨by omega, by omega, _, rfl, rfl, ?_⟩
    refine lc_fil (List.range n) (fun i => decide (i ∈ w)) (enc := nI) (f := nI) (rng0 n) rfl (by rw [List.length_range]; omega) (fun i y hy Kc Kn q1 q2 => ?_) ?_
    · obtain ⟨rfl, hi⟩ := rng_get hy
      have gc : (countsOf n w).getD y 0 = w.count y := by
        unfold countsOf
        rw [List.getD_eq_getElem?_getD, List.getElem?_map, List.getElem?_range hi]
        rfl
      refine ⟨_, nat_at (w := countsOf n w) (by rw [lc]; exact hi), ?_⟩
      rw [gc]
      refine ⟨fun e => q1 ?_ _ rfl, fun e => q2 ?_ _ rfl⟩
      · have : ((w.count y : Nat) : Int) > 0 := of_decide_eq_true e
        exact decide_eq_true (List.count_pos_iff.mp (by omega))
      · have : ¬ ((w.count y : Nat) : Int) > 0 := of_decide_eq_false e
        exact decide_eq_false fun z => this (by have := List.count_pos_iff.mpr z; omega)
    · refine fun a => ⟨rfl, q _ ?_⟩
      show um (encW (setOf n w)) = encW (setOf 12 w)
      rw [um_encW, setOf_le n2 hwn]
  obtain ⟨m, rfl, m2, m8⟩ : ∃ m : Nat, x = .int (m : Int) ∧ 2 ≤ m ∧ m ≤ 8 := by
    rcases hx with h | h | h | h | h | h | h
    · exact absurd h (p2 e1)
    · exact absurd h (p12 e6)
    · exact absurd h e4
    · exact absurd h e5
    · exact absurd h (p14 e7)
    · exact absurd h (p4 e2)
    · exact h
  refine ⟨eNs (countsOf n w), rfl, rfl, ?_⟩
  refine lc_all (countsOf n w) (enc := nI) (f := fun c => nI (c % m)) rfl rfl (by omega) (fun i c hc Kc Kn q1 => ⟨fun _ => ?_, noT⟩) ?_
  · exact ⟨by omega, q1 _ rfl⟩
  · refine fun a => ⟨rfl, q _ ?_⟩
    have e : (countsOf n w).map (fun c => nI (c % m)) = ((countsOf n w).map fun c => c % m).map nI := by
      rw [List.map_map]
      rfl
    rw [e]
    exact um_encW _

end
end Kx

namespace Kx
open PySem PySem.Spec PyProof.Rows L2 My
section
variable {P : Program} {w : World} {K : PySem.W.Frag} {mg : Str → Option Value} {base : Heap} {A : Ads}
theorem nat_eqv (x y : Nat) : PyData.eqv (nI x) (nI y) = decide (x = y) := by
  show PyData.eqv (.int (x : Int)) (.int (y : Int)) = _
  by_cases h : x = y
  · subst h
    simp [PyData.eqv]
  · rw [decide_eq_false h]
    simp [PyData.eqv]
    omega

theorem runTl_ok {n m J : Nat} {bs : List (Nat × Nat)} {es r : List Nat} {T : List (List Nat)} {g : Addr} {F : FSpec} {k : Rv → List (List PyData) → Prop} (hN : NetOk n bs es) (h : TabOk m T) (hl : r.length = n) (hr : ∀ x ∈ r, x < m) (hj : J ≤ 1)
    (hF : ∀ a b (k' : PyData → Prop), a < m → b < m → k' (nI (tg T a b)) → F [nI a, nI b] k') (q : ∀ a, k (.own true a ((runT T r bs).map nI)) []) : S_run_through A [.dat (encNet n bs es), .dat (.list (r.map nI)), .fn J g 2 F] k := by
  refine ⟨rfl, ?_⟩
  unfold d_run_through
  have n12 := hN.n2
  have b60 := hN.b
  refine fun lf => ⟨_, rfl, ?_⟩
  refine ⟨bs.map encB, rfl, ?_⟩
  refine for_all bs rfl (fun i e => ∃ z4 z5, e = [some (.dat (encNet n bs es)), some (.dat (.list (r.map nI))), some (.fn J g 2 F), some (.own true lf ((runT T r (bs.take i)).map nI)), z4, z5]) ⟨none, none, rfl⟩ (fun i b e Kc hb hI hK => ?_) (fun i e hI => ?_) (fun e hI => ?_)
  · obtain ⟨z4, z5, rfl⟩ := hI
    have hi : i < bs.length := (List.getElem?_eq_some_iff.mp hb).1
    obtain ⟨g1, g2⟩ := boxOk_get (i := i) hN.bx hb
    have lw := runT_len T r (bs.take i)
    rw [List.length_take, Nat.min_eq_left (by omega)] at lw
    have hlt := runT_lt h (bs.take i) r hr
    have e1 := runT_take (T := T) (r := r) hb
    generalize runT T r (bs.take i) = acc at lw hlt e1
    have x1 : atI (acc.map nI) (b.1 : Int) = some (nI (acc.getD b.1 0)) := nat_at (by omega)
    have x2 : atI (acc.map nI) (b.2 : Int) = some (nI (acc.getD b.2 0)) := nat_at (by omega)
    have lz : (acc.map nI).length < 100000 := by
      rw [List.length_map]
      omega
    refine ⟨rfl, rfl, ⟨_, _, _, rfl⟩, hj, rfl, rfl, _, x1, rfl, _, x2, rfl, hF _ _ _ (getD_lt h.m1 hlt _) (getD_lt h.m1 hlt _) ?_⟩
    refine ⟨lz, hK _ ⟨some (.dat (nI b.1)), some (.dat (nI b.2)), ?_⟩⟩
    rw [e1]
    unfold stepT
    rw [List.map_append]
    rfl
  · obtain ⟨z4, z5, rfl⟩ := hI
    rfl
  · obtain ⟨z4, z5, rfl⟩ := hI
    rw [List.take_length]
    exact ⟨rfl, rfl, q lf⟩
theorem end_worthsL_ok {n m : Nat} {bs : List (Nat × Nat)} {es r : List Nat} {T : List (List Nat)} {k : Rv → List (List PyData) → Prop} (hN : NetOk n bs es) (h : TabOk m T) (hl : r.length = n) (hr : ∀ x ∈ r, x < m)
    (q : k (.dat (encW (es.map fun e => (runT T r bs).getD e 0))) []) : S_end_worths A [.dat (encNet n bs es), .dat (encT T), .dat (.list (r.map nI))] k := by
  refine ⟨rfl, ?_⟩
  unfold d_end_worths
  have e24 := hN.e2
  have lw := runT_len T r bs
  refine ⟨⟨_, rfl⟩, plain_encT _, fun g => runTl_ok hN h hl hr (Nat.le_refl 1) (fun a b k' ha hb q' => ⟨rfl, ?_⟩) fun a => ?_⟩
  · exact ⟨_, tab_at h ha, _, row_at h ha hb, q'⟩
  · refine ⟨_, rfl, es.map nI, rfl, rfl, ?_⟩
    refine lc_all es (enc := nI) (f := fun e => nI ((runT T r bs).getD e 0)) rfl rfl (by omega) (fun i x hx Kc Kn q1 => ⟨fun _ => ?_, noT⟩) ?_
    · have hm := hN.ew x (List.mem_of_getElem? hx)
      exact ⟨_, nat_at (by omega), q1 _ rfl⟩
    · have q' : k (.dat (.tuple (es.map fun e => nI ((runT T r bs).getD e 0)))) [] := by
        have e : (es.map fun e => nI ((runT T r bs).getD e 0)) = (es.map fun e => (runT T r bs).getD e 0).map nI := by
          rw [List.map_map]
          rfl
        rw [e]
        exact q
      exact fun a => ⟨rfl, q'⟩

theorem nat_neD {a b : Nat} {k : Rx → Prop} (q : k (.dt (.bool (!decide (a = b))))) : neW (nI a) (nI b) k := by
  refine ⟨nI a, nI b, rfl, rfl, rfl, rfl, ?_⟩
  rw [nat_eqv]
  exact q
theorem nat_eqD {a b : Nat} {k : Rx → Prop} (q : k (.dt (.bool (decide (a = b))))) : eqW (nI a) (nI b) k := by
  refine ⟨nI a, nI b, rfl, rfl, rfl, rfl, ?_⟩
  rw [nat_eqv]
  exact q
theorem check_net_ok {n : Nat} {bs : List (Nat × Nat)} {es : List Nat} {k : Rv → List (List PyData) → Prop} (hN : NetOk n bs es) (h : k (.dat .none) []) : S_check_net A [.dat (encNet n bs es)] k := by
  refine ⟨rfl, ?_⟩
  unfold d_check_net
  exact ⟨rfl, net_ok hN ⟨noF, fun _ => h⟩⟩
def lastT : List (List Nat) := [[0, 1, 2], [1, 1, 2], [2, 1, 2]]
theorem lastT_ok : TabOk 3 lastT := ⟨by decide, by decide, rfl, by decide, by decide⟩
theorem last_kind : KindOk (.str "last") := .inr (.inr (.inr (.inl rfl)))
theorem last_tab {k : Rv → List (List PyData) → Prop} (q : k (.dat (encT lastT)) []) : S_settling_table A [.dat (.str "last")] k := by
  refine ⟨rfl, ?_⟩
  unfold d_settling_table
  refine ⟨rfl, check_kind_ok last_kind ?_⟩
  exact ⟨encT lastT, .tail _ (.tail _ (.tail _ (.head _))), fun _ => ⟨encT lastT, .tail _ (.tail _ (.tail _ (.head _))), rfl, q⟩, noT⟩
def deedN (a b : Nat) : Nat := if a = b then (if a = 1 then 1 else 2) else 0
theorem deedN_lt (a b : Nat) : deedN a b < 3 := by
  unfold deedN
  split
  · split <;> decide
  · decide
theorem deed_ok {a b : Nat} {k : Rv → List (List PyData) → Prop} (q : k (.dat (nI (deedN a b))) []) : S_deed_of A [.dat (nI a), .dat (nI b)] k := by
  refine ⟨rfl, ?_⟩
  unfold d_deed_of
  by_cases h : a = b
  · refine nat_neD ?_
    rw [decide_eq_true h]
    refine ⟨noF, fun _ => ?_⟩
    by_cases g : a = 1
    · have e : deedN a b = 1 := by unfold deedN; rw [if_pos h, if_pos g]
      rw [e] at q
      refine nat_eqD (a := a) (b := 1) ?_
      rw [decide_eq_true g]
      exact ⟨fun _ => ⟨rfl, q⟩, noT⟩
    · have e : deedN a b = 2 := by unfold deedN; rw [if_pos h, if_neg g]
      rw [e] at q
      refine nat_eqD (a := a) (b := 1) ?_
      rw [decide_eq_false g]
      exact ⟨noF, fun _ => ⟨rfl, q⟩⟩
  · have e : deedN a b = 0 := by unfold deedN; rw [if_neg h]
    rw [e] at q
    refine nat_neD ?_
    rw [decide_eq_false h]
    exact ⟨fun _ => ⟨rfl, q⟩, noT⟩
def deeds (a b : List Nat) : List Nat := (List.zip a b).map fun p => deedN p.1 p.2
theorem deeds_len {a b : List Nat} (h : a.length = b.length) : (deeds a b).length = a.length := by
  unfold deeds
  rw [List.length_map, List.length_zip, h, Nat.min_self]
theorem deeds_lt (a b : List Nat) : ∀ x ∈ deeds a b, x < 3 := fun x hx => by
  obtain ⟨p, _, rfl⟩ := List.mem_map.mp hx
  exact deedN_lt _ _
theorem zip_enc (a b : List Nat) : zipD (a.map nI) (b.map nI) = (List.zip a b).map fun p => .tuple [nI p.1, nI p.2] := by
  refine List.ext_getElem (by unfold zipD; simp) fun i h1 h2 => ?_
  unfold zipD at h1 ⊢
  simp only [List.length_map, List.length_range, List.length_zip] at h1 h2
  simp only [List.getElem_map, List.getElem_range, List.getElem_zip, List.getD_eq_getElem?_getD, List.getElem?_map]
  rw [List.getElem?_eq_getElem (show i < a.length by omega), List.getElem?_eq_getElem (show i < b.length by omega)]
  rfl
/-- the carries that a net tells -/
def toldL (bs : List (Nat × Nat)) (es a b : List Nat) : List Nat := es.map fun e => if (runT lastT (deeds a b) bs).getD e 0 = 1 then 1 else 0
theorem told_ok {n : Nat} {bs : List (Nat × Nat)} {es a b : List Nat} {k : Rv → List (List PyData) → Prop} (hN : NetOk n bs es) (la : a.length = n) (lb : b.length = n) (q : k (.dat (encW (toldL bs es a b))) []) : S_told_carries A [.dat (encNet n bs es), .dat (encW a), .dat (encW b)] k := by
  refine ⟨rfl, ?_⟩
  unfold d_told_carries
  have n12 := hN.n2
  have e24 := hN.e2
  have ld := deeds_len (a := a) (b := b) (by omega)
  have dl := deeds_lt a b
  refine ⟨_, rfl, rfl, ?_⟩
  refine lc_all (List.zip a b) (enc := fun p => .tuple [nI p.1, nI p.2]) (f := fun p => nI (deedN p.1 p.2)) (zip_enc a b) rfl (by rw [List.length_zip]; omega) (fun i p hp Kc Kn q1 => ⟨rfl, rfl, fun _ => ⟨rfl, deed_ok (q1 _ rfl)⟩, noT⟩) ?_
  have ed : ((List.zip a b).map fun p => nI (deedN p.1 p.2)) = (deeds a b).map nI := by
    unfold deeds
    rw [List.map_map]
    rfl
  rw [ed]
  refine fun a0 => ⟨rfl, last_tab ⟨rfl, end_worthsL_ok hN lastT_ok (by omega) dl ?_⟩⟩
  refine ⟨_, rfl, rfl, ?_⟩
  refine lc_all (es.map fun e => (runT lastT (deeds a b) bs).getD e 0) (enc := nI) (f := fun d => nI (if d = 1 then 1 else 0)) rfl rfl (by rw [List.length_map]; omega) (fun i d hd Kc Kn q1 => ⟨fun _ => nat_eqD (b := 1) ?_, noT⟩) ?_
  · by_cases h : d = 1
    · rw [if_pos h] at q1
      rw [decide_eq_true h]
      exact q1 _ rfl
    · rw [if_neg h] at q1
      rw [decide_eq_false h]
      exact q1 _ rfl
  · have e : ((es.map fun e => (runT lastT (deeds a b) bs).getD e 0).map fun d => nI (if d = 1 then 1 else 0)) = (toldL bs es a b).map nI := by
      unfold toldL
      rw [List.map_map, List.map_map]
      rfl
    rw [e]
    exact fun a1 => ⟨rfl, q⟩
theorem digits_ok {n : Nat} {bs : List (Nat × Nat)} {es a : List Nat} {k : Rv → List (List PyData) → Prop} (la : a.length = n) (h : ∀ x ∈ a, x < 2) (q : k (.dat .none) []) : S_check_digits A [.dat (encNet n bs es), .dat (encW a)] k := by
  refine ⟨rfl, ?_⟩
  unfold d_check_digits
  have lm : (a.map nI).length = a.length := List.length_map _
  refine ⟨_, rfl, _, rfl, rfl, row_ok (by omega) (by omega) ⟨noF, fun _ => ?_⟩⟩
  refine ⟨_, rfl, ?_⟩
  refine forLoop_ind (fun i e => ∃ z3 z4, e = [some (.dat (encNet n bs es)), some (.dat (encW a)), z3, z4]) ⟨none, none, rfl⟩ (fun i d e Kc hd hI hK => ?_) (fun i e hI => ?_) (fun e hI => ?_)
  · obtain ⟨z4, z5, rfl⟩ := hI
    obtain ⟨hi, rfl⟩ := enum_get hd
    rw [lm] at hi
    have eg : (a.map nI).getD i .none = nI a[i] := by
      rw [List.getD_eq_getElem?_getD, List.getElem?_map, List.getElem?_eq_getElem hi]
      rfl
    rw [eg]
    have hx := h _ (List.getElem_mem hi)
    unfold d_check_digits_b1
    refine ⟨rfl, rfl, rfl, whole_ok (by omega) (by omega) ⟨noF, fun _ => ?_⟩⟩
    exact hK _ ⟨_, _, rfl⟩
  · obtain ⟨z4, z5, rfl⟩ := hI
    rfl
  · obtain ⟨z4, z5, rfl⟩ := hI
    exact q
theorem running_ok {n : Nat} {bs : List (Nat × Nat)} {es : List Nat} {k : Rv → List (List PyData) → Prop} (he : es.length = n) (q : k (.dat .none) []) : S_check_running A [.dat (encNet n bs es)] k := by
  refine ⟨rfl, ?_⟩
  unfold d_check_running
  have lm : (es.map nI).length = n := by rw [List.length_map]; exact he
  refine ⟨_, rfl, _, rfl, nat_neD (a := (es.map nI).length) (b := n) ?_⟩
  rw [lm, decide_eq_true rfl]
  exact ⟨noF, fun _ => q⟩
theorem carries_ok {n : Nat} {bs : List (Nat × Nat)} {es a b : List Nat} {k : Rv → List (List PyData) → Prop} (hN : NetOk n bs es) (he : es.length = n) (la : a.length = n) (lb : b.length = n) (ha : ∀ x ∈ a, x < 2) (hb : ∀ x ∈ b, x < 2) (q : k (.dat (encW (toldL bs es a b))) []) : S_carries A [.dat (encNet n bs es), .dat (encW a), .dat (encW b)] k := by
  refine ⟨rfl, ?_⟩
  unfold d_carries
  exact ⟨rfl, check_net_ok hN ⟨rfl, digits_ok la ha ⟨rfl, digits_ok lb hb ⟨rfl, running_ok he ⟨rfl, told_ok hN la lb ⟨rfl, q⟩⟩⟩⟩⟩⟩

end
end Kx

namespace Kx
open PySem PySem.Spec PyProof.Rows L2 My
section
variable {P : Program} {w : World} {K : PySem.W.Frag} {mg : Str → Option Value} {base : Heap} {A : Ads}
/-- own adding -/
def carAt (a b : List Nat) : Nat → Nat
  | 0 => 0
  | k + 1 => (a.getD k 0 + b.getD k 0 + carAt a b k) / 2
def addedL (a b : List Nat) : List Nat := (List.range a.length).map fun k => carAt a b (k + 1)
theorem added_ok {n : Nat} {a b : List Nat} {k : Rv → List (List PyData) → Prop} (n12 : n ≤ 12) (la : a.length = n) (lb : b.length = n) (q : k (.dat (encW (addedL a b))) []) : S_added A [.dat (encW a), .dat (encW b)] k := by
  refine ⟨rfl, ?_⟩
  unfold d_added
  have lm : (a.map nI).length = a.length := List.length_map _
  refine ⟨le_sz rfl, fun fa => ?_⟩
  refine ⟨by omega, by omega, _, rfl, ?_⟩
  refine for_all (List.range a.length) (rngN (n := a.length) (by rw [lm])) (fun i e => ∃ z, e = [some (.dat (encW a)), some (.dat (encW b)), some (.own true fa (((List.range i).map fun k => carAt a b (k + 1)).map nI)), some (.dat (nI (carAt a b i))), z]) ⟨none, rfl⟩ (fun i x e Kc hx hI hK => ?_) (fun i e hI => ?_) (fun e hI => ?_)
  · obtain ⟨z, rfl⟩ := hI
    obtain ⟨rfl, hx⟩ := rng_get hx
    unfold d_added_b1
    have x1 : atI (a.map nI) (x : Int) = some (nI (a.getD x 0)) := nat_at hx
    have x2 : atI (b.map nI) (x : Int) = some (nI (b.getD x 0)) := nat_at (by omega)
    have lz : (((List.range x).map fun k => carAt a b (k + 1)).map nI).length < 100000 := by
      rw [List.length_map, List.length_map, List.length_range]
      omega
    refine ⟨_, x1, _, x2, ⟨by decide, by decide⟩, ⟨_, _, _, rfl⟩, lz, hK _ ⟨some (.dat (nI x)), ?_⟩⟩
    rw [List.range_succ, List.map_append, List.map_append]
    rfl
  · obtain ⟨z, rfl⟩ := hI
    rfl
  · obtain ⟨z, rfl⟩ := hI
    rw [List.length_range]
    exact ⟨rfl, rfl, q⟩
def ownD (a b : Nat) : Nat := if a + b = 2 then 1 else if a + b = 0 then 2 else 0
theorem ownD_eq {a b : Nat} (ha : a < 2) (hb : b < 2) : ownD a b = deedN a b := by
  obtain rfl | rfl : a = 0 ∨ a = 1 := by omega
  all_goals obtain rfl | rfl : b = 0 ∨ b = 1 := by omega
  all_goals rfl
theorem tgL {x y : Nat} (hx : x < 3) (hy : y < 3) : tg lastT x y = if y ≠ 0 then y else x := by
  obtain rfl | rfl | rfl : x = 0 ∨ x = 1 ∨ x = 2 := by omega
  all_goals obtain rfl | rfl | rfl : y = 0 ∨ y = 1 ∨ y = 2 := by omega
  all_goals rfl
theorem carried_ok {n : Nat} {bs : List (Nat × Nat)} {es a b : List Nat} {k : Rv → List (List PyData) → Prop} (hN : NetOk n bs es) (la : a.length = n) (lb : b.length = n) (ha : ∀ x ∈ a, x < 2) (hb : ∀ x ∈ b, x < 2) (q : k (.dat (encW (toldL bs es a b))) []) : S_carried A [.dat (encNet n bs es), .dat (encW a), .dat (encW b)] k := by
  refine ⟨rfl, ?_⟩
  unfold d_carried
  have n12 := hN.n2
  have e24 := hN.e2
  have b60 := hN.b
  have ld := deeds_len (a := a) (b := b) (by omega)
  have dl := deeds_lt a b
  have lm : (a.map nI).length = a.length := List.length_map _
  refine ⟨by omega, by omega, _, rfl, rfl, ?_⟩
  refine lc_all (List.range a.length) (enc := nI) (f := fun i => nI (ownD (a.getD i 0) (b.getD i 0))) (rngN (n := a.length) (by rw [lm])) rfl (by rw [List.length_range]; omega) (fun i x hx Kc Kn q1 => ⟨fun _ => ?_, noT⟩) ?_
  · obtain ⟨rfl, hx⟩ := rng_get hx
    have x1 : atI (a.map nI) (x : Int) = some (nI (a.getD x 0)) := nat_at hx
    have x2 : atI (b.map nI) (x : Int) = some (nI (b.getD x 0)) := nat_at (by omega)
    refine ⟨_, x1, _, x2, nat_eqD (a := a.getD x 0 + b.getD x 0) (b := 2) ?_⟩
    by_cases h : a.getD x 0 + b.getD x 0 = 2
    · have e : ownD (a.getD x 0) (b.getD x 0) = 1 := by unfold ownD; rw [if_pos h]
      rw [e] at q1
      rw [decide_eq_true h]
      exact ⟨fun _ => q1 _ rfl, noT⟩
    · rw [decide_eq_false h]
      refine ⟨noF, fun _ => ⟨_, x1, _, x2, nat_eqD (a := a.getD x 0 + b.getD x 0) (b := 0) ?_⟩⟩
      by_cases g : a.getD x 0 + b.getD x 0 = 0
      · have e : ownD (a.getD x 0) (b.getD x 0) = 2 := by unfold ownD; rw [if_neg h, if_pos g]
        rw [e] at q1
        rw [decide_eq_true g]
        exact ⟨fun _ => q1 _ rfl, noT⟩
      · have e : ownD (a.getD x 0) (b.getD x 0) = 0 := by unfold ownD; rw [if_neg h, if_neg g]
        rw [e] at q1
        rw [decide_eq_false g]
        exact ⟨noF, fun _ => q1 _ rfl⟩
  have ed : ((List.range a.length).map fun i => nI (ownD (a.getD i 0) (b.getD i 0))) = (deeds a b).map nI := by
    unfold deeds at ld ⊢
    rw [List.map_map]
    refine List.ext_getElem (by rw [List.length_map] at ld; rw [List.length_map, List.length_map, List.length_range, ld]) fun i h1 h2 => ?_
    rw [List.length_map, List.length_range] at h1
    simp only [List.getElem_map, List.getElem_range, List.getElem_zip, List.getD_eq_getElem?_getD, Function.comp_apply]
    rw [List.getElem?_eq_getElem h1, List.getElem?_eq_getElem (show i < b.length by omega)]
    simp only [Option.getD_some]
    rw [ownD_eq (ha _ (List.getElem_mem _)) (hb _ (List.getElem_mem _))]
  rw [ed]
  refine fun a0 => ?_
  unfold d_carried_r2
  refine fun lf => ⟨_, rfl, bs.map encB, rfl, ?_⟩
  refine for_all bs rfl (fun i e => ∃ z4 z6, e = [some (.dat (encNet n bs es)), some (.dat (encW a)), some (.dat (encW b)), some (.dat (.list ((deeds a b).map nI))), z4, some (.own true lf ((runT lastT (deeds a b) (bs.take i)).map nI)), z6, none]) ⟨_, none, rfl⟩ (fun i p e Kc hp hI hK => ?_) (fun i e hI => ?_) (fun e hI => ?_)
  · obtain ⟨z4, z6, rfl⟩ := hI
    have hi : i < bs.length := (List.getElem?_eq_some_iff.mp hp).1
    obtain ⟨g1, g2⟩ := boxOk_get (i := i) hN.bx hp
    have lw := runT_len lastT (deeds a b) (bs.take i)
    rw [List.length_take, Nat.min_eq_left (by omega)] at lw
    have hlt := runT_lt lastT_ok (bs.take i) _ dl
    have e1 := runT_take (T := lastT) (r := deeds a b) hp
    generalize runT lastT (deeds a b) (bs.take i) = acc at lw hlt e1
    have x1 : atI (acc.map nI) (p.1 : Int) = some (nI (acc.getD p.1 0)) := nat_at (by omega)
    have x2 : atI (acc.map nI) (p.2 : Int) = some (nI (acc.getD p.2 0)) := nat_at (by omega)
    have y1 := getD_lt (by decide) hlt p.1
    have y2 := getD_lt (by decide) hlt p.2
    have lz : (acc.map nI).length < 100000 := by
      rw [List.length_map]
      omega
    have e2 := tgL y1 y2
    have fin : ∀ v, v = tg lastT (acc.getD p.1 0) (acc.getD p.2 0) → acc.map nI ++ [nI v] = (stepT lastT acc p).map nI := fun v e => by
      rw [e]
      unfold stepT
      rw [List.map_append]
      rfl
    unfold d_carried_b1
    refine ⟨⟨_, _, _, rfl⟩, _, rfl, rfl, _, x2, nat_neD (b := 0) ?_⟩
    by_cases h : acc.getD p.2 0 = 0
    · rw [decide_eq_true h]
      refine ⟨noF, fun _ => ⟨_, rfl, rfl, _, x1, lz, hK _ ⟨z4, some (.dat (encB p)), ?_⟩⟩⟩
      rw [e1, ← fin (acc.getD p.1 0) (by rw [e2, if_neg (by omega)])]
      rfl
    · rw [decide_eq_false h]
      refine ⟨fun _ => ⟨_, rfl, rfl, _, x2, lz, hK _ ⟨z4, some (.dat (encB p)), ?_⟩⟩, noT⟩
      rw [e1, ← fin (acc.getD p.2 0) (by rw [e2, if_pos h])]
      rfl
  · obtain ⟨z4, z6, rfl⟩ := hI
    rfl
  · obtain ⟨z4, z6, rfl⟩ := hI
    rw [List.take_length]
    have lw := runT_len lastT (deeds a b) bs
    refine ⟨_, rfl, es.map nI, rfl, rfl, ?_⟩
    refine lc_all es (enc := nI) (f := fun e => nI (if (runT lastT (deeds a b) bs).getD e 0 = 1 then 1 else 0)) rfl rfl (by omega) (fun i x hx Kc Kn q1 => ⟨fun _ => ?_, noT⟩) ?_
    · have hm := hN.ew x (List.mem_of_getElem? hx)
      refine ⟨rfl, _, nat_at (by omega), nat_eqD (b := 1) ?_⟩
      by_cases h : (runT lastT (deeds a b) bs).getD x 0 = 1
      · rw [if_pos h] at q1
        rw [decide_eq_true h]
        exact ⟨fun _ => q1 _ rfl, noT⟩
      · rw [if_neg h] at q1
        rw [decide_eq_false h]
        exact ⟨noF, fun _ => q1 _ rfl⟩
    · have e : (es.map fun e => nI (if (runT lastT (deeds a b) bs).getD e 0 = 1 then 1 else 0)) = (toldL bs es a b).map nI := by
        unfold toldL
        rw [List.map_map]
        rfl
      rw [e]
      exact fun a1 => ⟨rfl, q⟩

end
end Kx

namespace Kx
open PySem PySem.Spec PyProof.Rows L2 My
section
variable {P : Program} {w : World} {K : PySem.W.Frag} {mg : Str → Option Value} {base : Heap} {A : Ads}
theorem runner_ok {a : Addr} {l : List PyData} {k : Rv → List (List PyData) → Prop} (hl : Jr l) (q : ∀ n bs es rl l', 1 ≤ n → n ≤ 8 → Jr l' → Rks n bs rl 15 → bs.length ≤ 40 → (∀ e ∈ es, e < n + bs.length) → es.length = n → k (.dat (encNet n bs es)) [l']) : S_runner A [.own false a l, .dat (.int 8)] k := by
  refine ⟨rfl, ?_⟩
  unfold d_runner
  refine ⟨rfl, rfl, draw_spec hl (by decide) (by decide) fun j l1 j0 j1 s1 => ?_⟩
  obtain ⟨j, rfl⟩ := Int.eq_ofNat_of_zero_le j0
  have em : PyData.int ((1 : Int) + (j : Int)) = nI (1 + j) := congrArg PyData.int (by omega)
  have n1 : 1 ≤ 1 + j := by omega
  have n8 : 1 + j ≤ 8 := by omega
  dsimp only [rdK, addW, dGive]
  rw [em]
  generalize 1 + j = n at n1 n8
  refine ⟨by omega, by omega, _, rfl, rfl, ?_⟩
  refine lc_all (List.range n) (enc := nI) (f := fun k => encB (0, k)) (rngN (n := n) rfl) rfl (by rw [List.length_range]; omega) (fun i x hx Kc Kn q1 => ⟨fun _ => ⟨le_sz rfl, q1 _ rfl⟩, noT⟩) ?_
  have ep : ((List.range n).map fun k => encB (0, k)) = eBs ((List.range n).map fun k => (0, k)) := by
    unfold eBs
    rw [List.map_map]
    rfl
  rw [ep]
  have hk : ∀ d ∈ [PyData.str "last", .str "any", .str "last", .str "last", .str "sets", .str "first", .str "even", .str "ends"], KindOk d := fun d hd => by
    simp only [List.mem_cons, List.not_mem_nil, or_false] at hd
    rcases hd with rfl | rfl | rfl | rfl | rfl | rfl | rfl | rfl
    · exact .inr (.inr (.inr (.inl rfl)))
    · exact .inl rfl
    · exact .inr (.inr (.inr (.inl rfl)))
    · exact .inr (.inr (.inr (.inl rfl)))
    · exact .inr (.inr (.inr (.inr (.inl rfl))))
    · exact .inr (.inr (.inl rfl))
    · exact .inr (.inl rfl)
    · exact .inr (.inr (.inr (.inr (.inr (.inl rfl)))))
  refine fun a0 => ⟨le_sz rfl, rfl, rfl, pick_tup (xs := [PyData.str "last", .str "any", .str "last", .str "last", .str "sets", .str "first", .str "even", .str "ends"]) s1 (by decide) (by decide) fun sd hsd l2 s2 => ?_⟩
  refine ⟨rfl, rfl, web_spec s2 (hk sd hsd) n1 n8 (fun b hb => ?_) (by rw [List.length_map, List.length_range]; omega) fun bs es rl l3 s3 R lb he le => ?_⟩
  · obtain ⟨x, hx, rfl⟩ := List.mem_map.mp hb
    exact ⟨Nat.zero_le _, List.mem_range.mp hx⟩
  rw [List.length_map, List.length_range] at le
  refine ⟨rfl, rfl, draw_spec s3 (by decide) (by decide) fun t l4 t0 t1 s4 => ⟨_, _, rfl, rfl, rfl, rfl, fun _ => ?_, fun _ => ?_⟩⟩
  · exact ⟨rfl, rfl, bent_spec s4 n1 (by omega) R (by omega) he (by omega) (by omega) fun bs' es' rl' l5 s5 R' lb' he' le' => ⟨rfl, rfl, q n bs' es' rl' l5 n1 n8 s5 R' (by omega) he' (by omega)⟩⟩
  · exact ⟨rfl, rfl, q n bs es rl l4 n1 n8 s4 ⟨R.bo, R.ln, R.rk, fun r hr => by have := R.rn r hr; omega⟩ (by omega) he le⟩

theorem sums_ok {a : Addr} {l : List PyData} {n : Nat} {k : Rv → List (List PyData) → Prop} (hl : Jr l) (n1 : 1 ≤ n) (n8 : n ≤ 12) (q : ∀ r s l', r.length = n → s.length = n → (∀ x ∈ r, x < 2) → (∀ x ∈ s, x < 2) → Jr l' → k (.dat (.tuple [encW r, encW s])) [l']) : S_summands A [.own false a l, .dat (nI n)] k := by
  refine ⟨rfl, ?_⟩
  unfold d_summands
  refine ⟨rfl, rfl, jrow_ok (n := n) (m := 2) hl (by omega) (by decide) (by decide) fun r l1 hr r2 s1 => ?_⟩
  refine ⟨rfl, rfl, jrow_ok (n := n) (m := 2) s1 (by omega) (by decide) (by decide) fun s l2 hs s2' s2 => ?_⟩
  refine ⟨rfl, rfl, draw_spec s2 (by decide) (by decide) fun t l3 t0 t1 s3 => ⟨fun _ => ?_, fun _ => ?_⟩⟩
  · exact ⟨le_sz rfl, rfl, rfl, q r s l3 hr hs r2 s2' s3⟩
  · refine ⟨rfl, rfl, draw_spec s3 (by omega) (by omega) fun j l4 j0 j1 s4 => ?_⟩
    obtain ⟨j, rfl⟩ := Int.eq_ofNat_of_zero_le j0
    have jn : j < n := by omega
    refine ⟨_, rfl, rfl, ?_⟩
    refine lc_all r (enc := nI) (f := fun d => nI (1 - d)) rfl rfl (by omega) (fun i d hd Kc Kn q1 => ⟨fun _ => ?_, noT⟩) ?_
    · have := r2 d (List.mem_of_getElem? hd)
      have e : PyData.int ((1 : Int) - (d : Int)) = nI (1 - d) := congrArg PyData.int (by omega)
      rw [← e] at q1
      exact q1 _ rfl
    have et : (r.map fun d => nI (1 - d)) = (r.map fun d => 1 - d).map nI := by
      rw [List.map_map]
      rfl
    rw [et]
    have lt : (r.map fun d => 1 - d).length = n := by rw [List.length_map]; exact hr
    have t2 : ∀ x ∈ r.map fun d => 1 - d, x < 2 := fun x hx => by
      obtain ⟨d, _, rfl⟩ := List.mem_map.mp hx
      omega
    generalize (r.map fun d => 1 - d) = tr at lt t2
    refine fun a0 => ⟨_, nat_at (w := r) (by omega), le_sz rfl, ?_⟩
    have c1 : My.cutD (tr.map nI) none (some (j : Int)) = (tr.take j).map nI := by
      rw [List.map_take]
      exact cut_take _ j
    have c2 : My.cutD (tr.map nI) (some ((j : Int) + 1)) none = (tr.drop (j + 1)).map nI := by
      rw [List.map_drop]
      exact cut_dropN _ (j + 1)
    have L1 : (My.cutD (tr.map nI) none (some (j : Int))).length + [nI (r.getD j 0)].length ≤ 100000 := by
      rw [c1, List.length_map, List.length_take]
      show _ + 1 ≤ _
      omega
    have L2 : (My.cutD (tr.map nI) none (some (j : Int)) ++ [nI (r.getD j 0)]).length + (My.cutD (tr.map nI) (some ((j : Int) + 1)) none).length ≤ 100000 := by
      rw [c1, c2, List.length_append, List.length_map, List.length_map, List.length_take, List.length_drop]
      show _ + 1 + _ ≤ _
      omega
    refine ⟨L1, L2, le_sz rfl, rfl, rfl, ?_⟩
    have e : (tr.take j).map nI ++ [nI (r.getD j 0)] ++ (tr.drop (j + 1)).map nI = (tr.take j ++ [r.getD j 0] ++ tr.drop (j + 1)).map nI := by
      rw [List.map_append, List.map_append]
      rfl
    rw [c1, c2]
    show k (.dat (.tuple [encW r, .tuple ((tr.take j).map nI ++ [nI (r.getD j 0)] ++ (tr.drop (j + 1)).map nI)])) [l4]
    rw [e]
    refine q r _ l4 hr ?_ r2 (fun x hx => ?_) s4
    · simp only [List.length_append, List.length_take, List.length_drop, List.length_singleton]
      omega
    · rcases List.mem_append.mp hx with hx | hx
      · rcases List.mem_append.mp hx with hx | hx
        · exact t2 x (List.mem_of_mem_take hx)
        · rw [List.mem_singleton.mp hx]
          exact getD_lt (by decide) r2 j
      · exact t2 x (List.mem_of_mem_drop hx)

end
end Kx

namespace Kx
open PySem PySem.Spec PyProof.Rows L2 My
section
variable {P : Program} {w : World} {K : PySem.W.Frag} {mg : Str → Option Value} {base : Heap} {A : Ads}
/-- a list joined from its beginning -/
def fo (op : Nat → Nat → Nat) : List Nat → Nat
  | [] => 0
  | x :: xs => xs.foldl op x
theorem fo_snoc {op : Nat → Nat → Nat} {l : List Nat} (z : Nat) (h : l ≠ []) : fo op (l ++ [z]) = op (fo op l) z := by
  cases l with
  | nil => exact absurd rfl h
  | cons x xs =>
    show (xs ++ [z]).foldl op x = op (xs.foldl op x) z
    rw [List.foldl_append]
    rfl
/-- joining below m -/
structure Jn (m : Nat) (op : Nat → Nat → Nat) : Prop where
  lt : ∀ x y, x < m → y < m → op x y < m
  as : ∀ x y z, x < m → y < m → z < m → op (op x y) z = op x (op y z)
theorem snoc_ind {p : List Nat → Prop} (h0 : p []) (hs : ∀ l z, p l → p (l ++ [z])) : ∀ l, p l := fun l => by
  have : ∀ k : List Nat, p k.reverse := fun k => by
    induction k with
    | nil => exact h0
    | cons x k ih =>
      rw [List.reverse_cons]
      exact hs _ _ ih
  have := this l.reverse
  rwa [List.reverse_reverse] at this
theorem Jn.fo_lt {m : Nat} {op : Nat → Nat → Nat} (J : Jn m op) : ∀ l : List Nat, l ≠ [] → (∀ x ∈ l, x < m) → fo op l < m := by
  refine snoc_ind (fun h => absurd rfl h) fun l z ih _ hl => ?_
  have hz := hl z (List.mem_append_right _ (List.mem_singleton_self z))
  cases l with
  | nil => exact hz
  | cons x xs =>
    rw [fo_snoc z (by simp)]
    exact J.lt _ _ (ih (by simp) fun y hy => hl y (List.mem_append_left _ hy)) hz
theorem Jn.absorb {m : Nat} {op : Nat → Nat → Nat} (J : Jn m op) (id : ∀ x, x < m → op x x = x) (fs : ∀ x y, x < m → y < m → op (op x y) x = op x y) : ∀ l : List Nat, l ≠ [] → (∀ x ∈ l, x < m) → ∀ y ∈ l, op (fo op l) y = fo op l := by
  refine snoc_ind (fun h => absurd rfl h) fun l z ih _ hl y hy => ?_
  have hz := hl z (List.mem_append_right _ (List.mem_singleton_self z))
  have hy' := hl y hy
  cases l with
  | nil =>
    rw [List.nil_append, List.mem_singleton] at hy
    rw [hy]
    exact id z hz
  | cons x xs =>
    have hx : ∀ u ∈ x :: xs, u < m := fun u hu => hl u (List.mem_append_left _ hu)
    have ha := J.fo_lt (x :: xs) (by simp) hx
    rw [fo_snoc z (by simp)]
    generalize ea : fo op (x :: xs) = a at ha ih
    by_cases e : y = z
    · rw [e, J.as a z z ha hz hz, id z hz]
    · have hy2 : y ∈ x :: xs := by
        rcases List.mem_append.mp hy with h | h
        · exact h
        · exact absurd (List.mem_singleton.mp h) e
      have ay : op a y = a := ih (by simp) hx y hy2
      have h1 : op (op a z) y = op (op (op a y) z) y := by rw [ay]
      rw [h1, J.as a y z ha hy' hz, J.as a (op y z) y ha (J.lt y z hy' hz) hy', fs y z hy' hz, ← J.as a y z ha hy' hz, ay]
theorem fstep_ne {acc : List Nat} {z : Nat} (h : acc ≠ []) : fstep acc z ≠ [] := by
  unfold fstep
  split
  · exact h
  · simp
theorem firsts_snoc (w : List Nat) (z : Nat) : firstsOf (w ++ [z]) = fstep (firstsOf w) z := by
  unfold firstsOf
  rw [List.foldl_append]
  rfl
/-- what is joined is joined by what comes first -/
theorem fo_firsts {m : Nat} {op : Nat → Nat → Nat} (J : Jn m op) (id : ∀ x, x < m → op x x = x) (fs : ∀ x y, x < m → y < m → op (op x y) x = op x y) (g : Nat → Nat) (hg : ∀ k, g k < m) : ∀ w : List Nat, w ≠ [] → (∀ k, k ∈ firstsOf w ↔ k ∈ w) ∧ firstsOf w ≠ [] ∧ fo op ((firstsOf w).map g) = fo op (w.map g) := by
  refine snoc_ind (fun h => absurd rfl h) fun w z ih _ => ?_
  rw [firsts_snoc]
  cases w with
  | nil => exact ⟨fun k => Iff.rfl, by simp [firstsOf, fstep], rfl⟩
  | cons x xs =>
    obtain ⟨i1, i2, i3⟩ := ih (by simp)
    generalize x :: xs = w at i1 i2 i3 ih
    have wne : w ≠ [] := fun e => by
      rw [e] at i2
      exact i2 rfl
    have hm : ∀ u ∈ w.map g, u < m := fun u hu => by
      obtain ⟨k, _, rfl⟩ := List.mem_map.mp hu
      exact hg k
    have mne : w.map g ≠ [] := fun e => wne (List.map_eq_nil_iff.mp e)
    have fne : (firstsOf w).map g ≠ [] := fun e => i2 (List.map_eq_nil_iff.mp e)
    rw [List.map_append, List.map_singleton, fo_snoc (g z) mne]
    unfold fstep
    by_cases c : z ∈ firstsOf w
    · rw [if_pos c]
      refine ⟨fun k => ?_, i2, ?_⟩
      · rw [i1 k, List.mem_append, List.mem_singleton]
        exact ⟨Or.inl, fun h => h.elim (fun h => h) fun h => by rw [h]; exact (i1 z).mp c⟩
      · rw [i3, J.absorb id fs (w.map g) mne hm (g z) (List.mem_map_of_mem ((i1 z).mp c))]
    · rw [if_neg c]
      refine ⟨fun k => ?_, by simp, ?_⟩
      · rw [List.mem_append, List.mem_append, i1 k]
      · rw [List.map_append, List.map_singleton, fo_snoc (g z) fne, i3]
theorem Jn.fo_cons {m : Nat} {op : Nat → Nat → Nat} (J : Jn m op) (z : Nat) (hz : z < m) : ∀ k : List Nat, k ≠ [] → (∀ x ∈ k, x < m) → fo op (z :: k) = op z (fo op k) := by
  refine snoc_ind (fun h => absurd rfl h) fun k y ih _ hk => ?_
  have hy := hk y (List.mem_append_right _ (List.mem_singleton_self y))
  cases k with
  | nil => rfl
  | cons x xs =>
    have hx : ∀ u ∈ x :: xs, u < m := fun u hu => hk u (List.mem_append_left _ hu)
    have i := ih (by simp) hx
    have hf := J.fo_lt (x :: xs) (by simp) hx
    rw [← List.cons_append, fo_snoc y (by simp), fo_snoc y (by simp), i, J.as z _ y hz hf hy]
theorem Jn.flip {m : Nat} {op : Nat → Nat → Nat} (J : Jn m op) : Jn m fun x y => op y x :=
  ⟨fun x y hx hy => J.lt y x hy hx, fun x y z hx hy hz => (J.as z y x hz hy hx).symm⟩
theorem Jn.fo_rev {m : Nat} {op : Nat → Nat → Nat} (J : Jn m op) : ∀ l : List Nat, l ≠ [] → (∀ x ∈ l, x < m) → fo (fun x y => op y x) l.reverse = fo op l := by
  refine snoc_ind (fun h => absurd rfl h) fun l z ih _ hl => ?_
  have hz := hl z (List.mem_append_right _ (List.mem_singleton_self z))
  cases l with
  | nil => rfl
  | cons x xs =>
    have hx : ∀ u ∈ x :: xs, u < m := fun u hu => hl u (List.mem_append_left _ hu)
    rw [fo_snoc z (by simp), List.reverse_append, List.reverse_singleton, List.singleton_append, J.flip.fo_cons z hz _ (by simp) (fun u hu => hx u (List.mem_reverse.mp hu)), ih (by simp) hx]
theorem fo_lasts {m : Nat} {op : Nat → Nat → Nat} (J : Jn m op) (id : ∀ x, x < m → op x x = x) (fs : ∀ x y, x < m → y < m → op (op x y) x = op y x) (g : Nat → Nat) (hg : ∀ k, g k < m) (w : List Nat) (hw : w ≠ []) : fo op ((lastsOf w).map g) = fo op (w.map g) := by
  have hr : w.reverse ≠ [] := fun e => hw (List.reverse_eq_nil_iff.mp e)
  have hm : ∀ (v : List Nat), ∀ u ∈ v.map g, u < m := fun v u hu => by
    obtain ⟨k, _, rfl⟩ := List.mem_map.mp hu
    exact hg k
  have fs' : ∀ x y, x < m → y < m → op x (op y x) = op y x := fun x y hx hy => by rw [← J.as x y x hx hy hx, fs x y hx hy]
  obtain ⟨_, h2, h3⟩ := fo_firsts J.flip id fs' g hg w.reverse hr
  have e1 : fo op (w.map g) = fo (fun x y => op y x) (w.reverse.map g) := by
    rw [List.map_reverse, J.fo_rev _ (fun e => hw (List.map_eq_nil_iff.mp e)) (hm w)]
  have e2 : fo op ((lastsOf w).map g) = fo (fun x y => op y x) ((firstsOf w.reverse).map g) := by
    rw [← J.fo_rev ((lastsOf w).map g) (fun e => h2 (List.reverse_eq_nil_iff.mp (List.map_eq_nil_iff.mp e))) (hm _), ← List.map_reverse]
    unfold lastsOf
    rw [List.reverse_reverse]
  rw [e1, e2, h3]
theorem fo_ends {m : Nat} {op : Nat → Nat → Nat} (J : Jn m op) (id : ∀ x, x < m → op x x = x) (fs : ∀ x y z, x < m → y < m → z < m → op (op x y) z = op x z) (a : Nat) (ha : a < m) : ∀ l : List Nat, l ≠ [] → (∀ x ∈ l, x < m) → fo op (a :: l) = op a (l.getLastD 0) := by
  refine snoc_ind (fun h => absurd rfl h) fun l z ih _ hl => ?_
  have hz := hl z (List.mem_append_right _ (List.mem_singleton_self z))
  have eg : (l ++ [z]).getLastD 0 = z := by simp
  rw [eg]
  cases l with
  | nil => rfl
  | cons x xs =>
    have hx : ∀ u ∈ x :: xs, u < m := fun u hu => hl u (List.mem_append_left _ hu)
    have h1 : (x :: xs).getLastD 0 < m := by
      rw [List.getLastD_cons]
      exact hx _ (by rw [← List.getLast_eq_getLastD (a := x) (l := xs) (by simp)]; exact List.getLast_mem _)
    rw [← List.cons_append, fo_snoc z (by simp), ih (by simp) hx, fs a _ z ha h1 hz]
theorem fo_perm {m : Nat} {op : Nat → Nat → Nat} (J : Jn m op) (co : ∀ x y, x < m → y < m → op x y = op y x) {l k : List Nat} (p : l.Perm k) : (∀ x ∈ l, x < m) → fo op l = fo op k := by
  induction p with
  | nil => exact fun _ => rfl
  | cons x p ih =>
    rename_i l1 l2
    intro h
    have hx := h x List.mem_cons_self
    have h1 : ∀ u ∈ l1, u < m := fun u hu => h u (List.mem_cons_of_mem _ hu)
    have h2 : ∀ u ∈ l2, u < m := fun u hu => h1 u (p.mem_iff.mpr hu)
    by_cases e : l1 = []
    · subst e
      rw [List.nil_perm.mp p]
    · have e2 : l2 ≠ [] := fun z => e (by rw [z] at p; exact List.perm_nil.mp p)
      rw [J.fo_cons x hx _ e h1, J.fo_cons x hx _ e2 h2, ih h1]
  | swap x y l =>
    intro h
    have hy := h y List.mem_cons_self
    have hx := h x (List.mem_cons_of_mem _ List.mem_cons_self)
    have hl : ∀ u ∈ l, u < m := fun u hu => h u (List.mem_cons_of_mem _ (List.mem_cons_of_mem _ hu))
    by_cases e : l = []
    · subst e
      exact co y x hy hx
    · have hf := J.fo_lt l e hl
      have a1 : ∀ u ∈ x :: l, u < m := fun u hu => (List.mem_cons.mp hu).elim (fun z => by rw [z]; exact hx) (hl u)
      have a2 : ∀ u ∈ y :: l, u < m := fun u hu => (List.mem_cons.mp hu).elim (fun z => by rw [z]; exact hy) (hl u)
      rw [J.fo_cons y hy _ (by simp) a1, J.fo_cons x hx _ (by simp) a2, J.fo_cons x hx _ e hl, J.fo_cons y hy _ e hl, ← J.as y x _ hy hx hf, co y x hy hx, J.as x y _ hx hy hf]
  | trans p1 p2 ih1 ih2 =>
    exact fun h => (ih1 h).trans (ih2 fun x hx => h x (p1.mem_iff.mpr hx))
theorem fo_sets {m : Nat} {op : Nat → Nat → Nat} (J : Jn m op) (co : ∀ x y, x < m → y < m → op x y = op y x) (id : ∀ x, x < m → op x x = x) (g : Nat → Nat) (hg : ∀ k, g k < m) {w v : List Nat} (hw : w ≠ []) (hv : v ≠ []) (nw : (firstsOf w).Nodup) (nv : (firstsOf v).Nodup) (h : ∀ k, k ∈ w ↔ k ∈ v) : fo op (w.map g) = fo op (v.map g) := by
  have fs : ∀ x y, x < m → y < m → op (op x y) x = op x y := fun x y hx hy => by
    rw [co (op x y) x (J.lt x y hx hy) hx, ← J.as x x y hx hx hy, id x hx]
  obtain ⟨w1, w2, w3⟩ := fo_firsts J id fs g hg w hw
  obtain ⟨v1, v2, v3⟩ := fo_firsts J id fs g hg v hv
  have p : (firstsOf w).Perm (firstsOf v) := (List.perm_ext_iff_of_nodup nw nv).mpr fun k => by rw [w1, v1, h]
  rw [← w3, ← v3]
  exact fo_perm J co (p.map g) fun x hx => by
    obtain ⟨k, _, rfl⟩ := List.mem_map.mp hx
    exact hg k
theorem fo_even {m : Nat} {op : Nat → Nat → Nat} (J : Jn m op) (co : ∀ x y, x < m → y < m → op x y = op y x) (g : Nat → Nat) (hg : ∀ k, g k < m) {w v : List Nat} (h : ∀ k, w.count k = v.count k) : fo op (w.map g) = fo op (v.map g) :=
  fo_perm J co ((List.perm_iff_count.mpr h).map g) fun x hx => by
    obtain ⟨k, _, rfl⟩ := List.mem_map.mp hx
    exact hg k
theorem sum_indF {g : Nat → Nat} {x : Nat} : ∀ n : Nat, ((List.range n).map fun k => if k = x then g k else 0).sum = if x < n then g x else 0
  | 0 => rfl
  | n + 1 => by
    rw [List.range_succ, List.map_append, List.sum_append, sum_indF n, List.map_singleton, List.sum_singleton]
    by_cases h : n = x
    · subst h
      rw [if_neg (Nat.lt_irrefl n), if_pos rfl, if_pos (Nat.lt_succ_self n), Nat.zero_add]
    · rw [if_neg h, Nat.add_zero]
      by_cases h2 : x < n
      · rw [if_pos h2, if_pos (by omega)]
      · rw [if_neg h2, if_neg (by omega)]
def Wc (c : Nat → Nat) (n : Nat) : List Nat := (List.range n).flatMap fun p => List.replicate (c p) p
theorem perm_Wc {w : List Nat} {n : Nat} (h : ∀ x ∈ w, x < n) : w.Perm (Wc (fun p => w.count p) n) := by
  refine List.perm_iff_count.mpr fun q => ?_
  unfold Wc
  rw [List.count_flatMap]
  have e : (List.range n).map (List.count q ∘ fun p => List.replicate (w.count p) p) = (List.range n).map fun p => if p = q then w.count p else 0 := by
    refine List.map_congr_left fun p _ => ?_
    show List.count q (List.replicate (w.count p) p) = _
    rw [List.count_replicate]
    by_cases c : p = q
    · rw [if_pos c, if_pos (by simp [c])]
    · rw [if_neg c, if_neg (by simp [c])]
  rw [e, sum_indF]
  by_cases c : q < n
  · rw [if_pos c]
  · rw [if_neg c]
    exact List.count_eq_zero.mpr fun z => c (h q z)
theorem fo_mod {m k : Nat} {op : Nat → Nat → Nat} (J : Jn m op) (co : ∀ x y, x < m → y < m → op x y = op y x) (k1 : 1 ≤ k) (idle : ∀ x y, x < m → y < m → op (fo op (List.replicate k x)) y = y) (g : Nat → Nat) (hg : ∀ k, g k < m) {w v : List Nat} {n : Nat} (hw : w ≠ []) (hv : v ≠ []) (wn : ∀ x ∈ w, x < n) (vn : ∀ x ∈ v, x < n) (h : ∀ p, w.count p % k = v.count p % k) : fo op (w.map g) = fo op (v.map g) := by
  have rep : ∀ x, x < m → ∀ c, ∀ y ∈ List.replicate c x, y < m := fun x hx c y hy => by rw [(List.mem_replicate.mp hy).2]; exact hx
  have rne : ∀ x : Nat, List.replicate k x ≠ [] := fun x e => by
    have := congrArg List.length e
    rw [List.length_replicate, List.length_nil] at this
    omega
  -- the idle worth
  obtain ⟨u, eu⟩ : ∃ u, u = fo op (List.replicate k (g 0)) := ⟨_, rfl⟩
  have um : u < m := by rw [eu]; exact J.fo_lt _ (rne _) (rep _ (hg 0) k)
  have uy : ∀ y, y < m → op u y = y := fun y hy => by rw [eu]; exact idle _ _ (hg 0) hy
  have pu : ∀ x, x < m → fo op (List.replicate k x) = u := fun x hx => by
    have pm : fo op (List.replicate k x) < m := J.fo_lt _ (rne _) (rep _ hx k)
    rw [← uy _ pm, co u _ um pm, idle x u hx um]
  have Flt : ∀ (l : List Nat) (a : Nat), a < m → (∀ x ∈ l, x < m) → l.foldl op a < m := fun l => by
    induction l with
    | nil => exact fun a ha _ => ha
    | cons x l ih => exact fun a ha hl => ih _ (J.lt a x ha (hl x List.mem_cons_self)) fun y hy => hl y (List.mem_cons_of_mem _ hy)
  have Fop : ∀ (l : List Nat) (a : Nat), a < m → (∀ x ∈ l, x < m) → l.foldl op a = op a (l.foldl op u) := fun l => by
    induction l with
    | nil =>
      intro a ha _
      show a = op a u
      rw [co a u ha um, uy a ha]
    | cons x l ih =>
      intro a ha hl
      have hx := hl x List.mem_cons_self
      have hl' : ∀ y ∈ l, y < m := fun y hy => hl y (List.mem_cons_of_mem _ hy)
      show l.foldl op (op a x) = op a (l.foldl op (op u x))
      rw [uy x hx, ih _ (J.lt a x ha hx) hl', ih x hx hl', J.as a x _ ha hx (Flt l u um hl')]
  have Fapp : ∀ a b : List Nat, (∀ x ∈ a, x < m) → (∀ x ∈ b, x < m) → (a ++ b).foldl op u = op (a.foldl op u) (b.foldl op u) := fun a b ha hb => by
    rw [List.foldl_append, Fop b _ (Flt a u um ha) hb]
  have Ffo : ∀ l : List Nat, l ≠ [] → (∀ x ∈ l, x < m) → l.foldl op u = fo op l := fun l hl hx => by
    cases l with
    | nil => exact absurd rfl hl
    | cons x xs =>
      show xs.foldl op (op u x) = xs.foldl op x
      rw [uy x (hx x List.mem_cons_self)]
  have Fk : ∀ x, x < m → (List.replicate k x).foldl op u = u := fun x hx => by rw [Ffo _ (rne x) (rep x hx k), pu x hx]
  have Frep : ∀ x, x < m → ∀ q r, (List.replicate (k * q + r) x).foldl op u = (List.replicate r x).foldl op u := fun x hx q r => by
    induction q with
    | zero => rw [Nat.mul_zero, Nat.zero_add]
    | succ q ih =>
      rw [show k * (q + 1) + r = k + (k * q + r) by rw [Nat.mul_succ]; omega, ← List.replicate_append_replicate, Fapp _ _ (rep x hx _) (rep x hx _), Fk x hx, ih, uy _ (Flt _ u um (rep x hx r))]
  have Fmod : ∀ x, x < m → ∀ c, (List.replicate c x).foldl op u = (List.replicate (c % k) x).foldl op u := fun x hx c => by
    have := Frep x hx (c / k) (c % k)
    rw [Nat.div_add_mod] at this
    exact this
  have mm : ∀ l : List Nat, ∀ x ∈ l.map g, x < m := fun l x hx => by
    obtain ⟨z, _, rfl⟩ := List.mem_map.mp hx
    exact hg z
  have FW : ∀ (c d : Nat → Nat), (∀ p, c p % k = d p % k) → ∀ n, ((Wc c n).map g).foldl op u = ((Wc d n).map g).foldl op u := fun c d e n => by
    induction n with
    | zero => rfl
    | succ n ih =>
      have s : ∀ c : Nat → Nat, Wc c (n + 1) = Wc c n ++ List.replicate (c n) n := fun c => by
        unfold Wc
        rw [List.range_succ, List.flatMap_append]
        simp
      rw [s c, s d, List.map_append, List.map_append, Fapp _ _ (mm _) (mm _), Fapp _ _ (mm _) (mm _), ih, List.map_replicate, List.map_replicate, Fmod (g n) (hg n) (c n), Fmod (g n) (hg n) (d n), e n]
  have one : ∀ l : List Nat, l ≠ [] → (∀ x ∈ l, x < n) → fo op (l.map g) = ((Wc (fun p => l.count p) n).map g).foldl op u := fun l hl hn => by
    have p := (perm_Wc hn).map g
    have ne : (Wc (fun p => l.count p) n).map g ≠ [] := fun e => by
      rw [e] at p
      exact hl (List.map_eq_nil_iff.mp (List.perm_nil.mp p))
    rw [fo_perm J co p (mm l), Ffo _ ne (mm _)]
  rw [one w hw wn, one v hv vn]
  exact FW _ _ h n

theorem Jn.fo_app {m : Nat} {op : Nat → Nat → Nat} (J : Jn m op) (a : List Nat) (ha : a ≠ []) (am : ∀ x ∈ a, x < m) : ∀ b : List Nat, b ≠ [] → (∀ x ∈ b, x < m) → fo op (a ++ b) = op (fo op a) (fo op b) := by
  have al := J.fo_lt a ha am
  refine snoc_ind (fun h => absurd rfl h) fun b z ih _ hb => ?_
  have hz := hb z (List.mem_append_right _ (List.mem_singleton_self z))
  cases b with
  | nil => exact fo_snoc z ha
  | cons x xs =>
    have hx : ∀ u ∈ x :: xs, u < m := fun u hu => hb u (List.mem_append_left _ hu)
    have i := ih (by simp) hx
    rw [← List.append_assoc, fo_snoc z (by simp), fo_snoc z (by simp), i, J.as _ _ z al (J.fo_lt _ (by simp) hx) hz]
/-- what a wire has is what its word comes to -/
theorem run_word {m n : Nat} {T : List (List Nat)} {r : List Nat} (J : Jn m (tg T)) (m1 : 1 ≤ m) (hl : r.length = n) (hr : ∀ x ∈ r, x < m) : ∀ (bs : List (Nat × Nat)), boxOk n 0 bs → ∀ j w, (wordsOf n bs)[j]? = some w → (runT T r bs).getD j 0 = fo (tg T) (w.map fun k => r.getD k 0) ∧ w ≠ [] ∧ ∀ p ∈ w, p < n := by
  intro bs bo
  have key : ∀ i ≤ bs.length, ∀ j w, (wordsOf n (bs.take i))[j]? = some w → (runT T r (bs.take i)).getD j 0 = fo (tg T) (w.map fun k => r.getD k 0) ∧ w ≠ [] ∧ ∀ p ∈ w, p < n := by
    intro i
    induction i with
    | zero =>
      intro _ j w h
      rw [List.take_zero, wordsOf_nil, List.getElem?_map] at h
      obtain ⟨k, hk, rfl⟩ := Option.map_eq_some_iff.mp h
      obtain ⟨rfl, hk⟩ := rng_get hk
      rw [List.take_zero]
      exact ⟨rfl, by simp, fun p hp => by rw [List.mem_singleton.mp hp]; exact hk⟩
    | succ i ih =>
      intro hi j w h
      have ih := ih (by omega)
      have hb : bs[i]? = some bs[i] := List.getElem?_eq_getElem (by omega)
      obtain ⟨g1, g2⟩ := boxOk_get (i := i) bo hb
      have lw : (wordsOf n (bs.take i)).length = n + i := by rw [wordsOf_len, List.length_take, Nat.min_eq_left (by omega)]
      have lr : (runT T r (bs.take i)).length = n + i := by rw [runT_len, List.length_take, Nat.min_eq_left (by omega), hl]
      have q1 : (wordsOf n (bs.take i))[(bs[i]).1]? = some ((wordsOf n (bs.take i))[(bs[i]).1]'(by omega)) := List.getElem?_eq_getElem (by omega)
      have q2 : (wordsOf n (bs.take i))[(bs[i]).2]? = some ((wordsOf n (bs.take i))[(bs[i]).2]'(by omega)) := List.getElem?_eq_getElem (by omega)
      have e : wordsOf n (bs.take (i + 1)) = wstep (wordsOf n (bs.take i)) bs[i] := by
        rw [List.take_add_one, hb, Option.toList_some, wordsOf_snoc]
      rw [e] at h
      unfold wstep at h
      rw [runT_take hb]
      unfold stepT
      rw [getD_of q1, getD_of q2] at h
      by_cases c : j < n + i
      · rw [List.getElem?_append_left (by omega)] at h
        have := ih j w h
        rw [List.getD_eq_getElem?_getD, List.getElem?_append_left (by omega), ← List.getD_eq_getElem?_getD]
        exact this
      · rw [List.getElem?_append_right (by omega)] at h
        have z : j - (wordsOf n (bs.take i)).length = 0 := by
          have := (List.getElem?_eq_some_iff.mp h).1
          simp at this
          omega
        rw [z] at h
        cases h
        obtain ⟨a1, a2, a3⟩ := ih _ _ q1
        obtain ⟨b1, b2, b3⟩ := ih _ _ q2
        refine ⟨?_, by simp [a2], fun p hp => (List.mem_append.mp hp).elim (a3 p) (b3 p)⟩
        have vm : ∀ w : List Nat, ∀ x ∈ w.map (fun k => r.getD k 0), x < m := fun w x hx => by
          obtain ⟨k, _, rfl⟩ := List.mem_map.mp hx
          exact getD_lt m1 hr k
        rw [List.getD_eq_getElem?_getD, List.getElem?_append_right (by omega), show j - (runT T r (bs.take i)).length = 0 by omega, a1, b1, List.map_append, J.fo_app _ (fun z => a2 (List.map_eq_nil_iff.mp z)) (vm _) _ (fun z => b2 (List.map_eq_nil_iff.mp z)) (vm _)]
        rfl
  have := key bs.length (Nat.le_refl _)
  rw [List.take_length] at this
  exact this

end
end Kx

namespace Kx
open PySem PySem.Spec PyProof.Rows L2 My
section
variable {P : Program} {w : World} {K : PySem.W.Frag} {mg : Str → Option Value} {base : Heap} {A : Ads}
theorem shaped_encW (w : List Nat) : SeqAt.shaped (encW w) = true := by
  have key : ∀ w : List Nat, PyData.canLayAll0 (w.map nI) = true ∧ PyData.depthAll (w.map nI) = 0 := fun w => by
    induction w with
    | nil => exact ⟨rfl, rfl⟩
    | cons x w ih =>
      refine ⟨?_, ?_⟩
      · show (true && PyData.canLayAll0 (w.map nI)) = true
        rw [ih.1]
        rfl
      · show max 0 (PyData.depthAll (w.map nI)) = 0
        rw [ih.2]
        rfl
  obtain ⟨h1, h2⟩ := key w
  unfold SeqAt.shaped
  have e1 : (encW w).canLay0 = true := h1
  have e2 : (encW w).depth = 1 := by
    simp only [encW, PyData.depth, h2]
  rw [e1, e2]
  rfl
theorem formD_enc {x : PyData} (hx : KindOk x) (n : Nat) (w : List Nat) : ∃ v, formD n x w = encW v := by
  rcases hx with rfl | rfl | rfl | rfl | rfl | rfl | ⟨m, rfl, m2, m8⟩
  · exact ⟨_, rfl⟩
  · exact ⟨_, rfl⟩
  · exact ⟨_, rfl⟩
  · exact ⟨_, rfl⟩
  · exact ⟨_, rfl⟩
  · exact ⟨_, rfl⟩
  · exact ⟨_, rfl⟩
theorem nat_eqvs : ∀ a b : List Nat, PyData.eqvAll (a.map nI) (b.map nI) = decide (a = b)
  | [], [] => rfl
  | [], _ :: _ => rfl
  | _ :: _, [] => rfl
  | x :: a, y :: b => by
    show (PyData.eqv (nI x) (nI y) && PyData.eqvAll (a.map nI) (b.map nI)) = _
    rw [nat_eqv, nat_eqvs a b]
    by_cases h : x = y <;> by_cases g : a = b <;> simp [h, g]
theorem encW_eqv (a b : List Nat) : PyData.eqv (encW a) (encW b) = decide (a = b) := nat_eqvs a b
/-- the places of a stretch -/
def stL (b : Nat × Nat) : List Nat := (List.range (b.2 + 1 - b.1)).map fun t => b.1 + t
theorem rgD_from {a b : Nat} (h : a ≤ b) : rgD (a : Int) (b : Int) = ((List.range (b - a)).map fun t => a + t).map nI := by
  unfold rgD
  rw [List.map_map, show ((b : Int) - (a : Int)).toNat = b - a by omega]
  refine List.map_congr_left fun t _ => ?_
  show PyData.int ((a : Int) + (t : Int)) = PyData.int (((a + t : Nat)) : Int)
  rw [Int.natCast_add]
theorem fits_ok {n : Nat} {w : List Nat} {b : Nat × Nat} {x : PyData} {k : Rv → List (List PyData) → Prop} (w1 : 1 ≤ w.length) (w4 : w.length ≤ 90000) (n12 : n ≤ 12) (hwn : ∀ k ∈ w, k < n) (h1 : b.1 ≤ b.2) (h2 : b.2 < n) (hx : KindOk x)
    (q : k (.dat (.bool (PyData.eqv (formD n x w) (formD n x (stL b))))) []) : S_fits A [.dat (bW w), .dat (nI n), .dat (encB b), .dat x] k := by
  refine ⟨rfl, ?_⟩
  unfold d_fits
  have er : rgD (b.1 : Int) ((b.2 : Int) + 1) = (stL b).map nI := rgD_from (b := b.2 + 1) (by omega)
  have ls : (stL b).length = b.2 + 1 - b.1 := by
    unfold stL
    rw [List.length_map, List.length_range]
  have sl : ∀ k ∈ stL b, k < n := fun k hk => by
    obtain ⟨t, ht, rfl⟩ := List.mem_map.mp hk
    have := List.mem_range.mp ht
    omega
  obtain ⟨v1, f1⟩ := formD_enc hx n w
  obtain ⟨v2, f2⟩ := formD_enc hx n (stL b)
  refine ⟨rfl, form_spec w1 w4 n12 hwn hx fun d1 u1 => ?_⟩
  refine ⟨_, rfl, _, rfl, ⟨by omega, by omega⟩, ?_⟩
  rw [er]
  refine ⟨rfl, form_spec (by omega) (by omega) n12 sl hx fun d2 u2 => ?_⟩
  refine ⟨_, _, u1, u2, by rw [f1]; exact shaped_encW _, by rw [f2]; exact shaped_encW _, ?_⟩
  exact ⟨rfl, q⟩

end
end Kx

namespace Kx
open PySem PySem.Spec PyProof.Rows L2 My
section
variable {P : Program} {w : World} {K : PySem.W.Frag} {mg : Str → Option Value} {base : Heap} {A : Ads}
theorem lastJ : Jn 3 (tg lastT) := ⟨fun x y hx hy => tg_lt lastT_ok hx hy, fun x y z hx hy hz => by
  rw [tgL (tg_lt lastT_ok hx hy) hz, tgL hx hy, tgL hx (tg_lt lastT_ok hy hz), tgL hy hz]
  by_cases h : z = 0 <;> by_cases g : y = 0 <;> simp [h, g]⟩
theorem last_id : ∀ x, x < 3 → tg lastT x x = x := fun x hx => by
  rw [tgL hx hx]
  split <;> rfl
theorem last_fs : ∀ x y, x < 3 → y < 3 → tg lastT (tg lastT x y) x = tg lastT y x := fun x y hx hy => by
  rw [tgL (tg_lt lastT_ok hx hy) hx, tgL hx hy, tgL hy hx]
  by_cases h : x = 0 <;> by_cases g : y = 0 <;> simp [h, g]
theorem deeds_at {a b : List Nat} {i : Nat} (h1 : i < a.length) (h2 : i < b.length) : (deeds a b).getD i 0 = deedN (a.getD i 0) (b.getD i 0) := by
  unfold deeds
  simp only [List.getD_eq_getElem?_getD, List.getElem?_map]
  rw [List.getElem?_eq_getElem (show i < (List.zip a b).length by rw [List.length_zip]; omega), List.getElem?_eq_getElem h1, List.getElem?_eq_getElem h2, List.getElem_zip]
  rfl
theorem step_last {s a b c : Nat} (hs : s < 3) (ha : a < 2) (hb : b < 2) (hc : c = if s = 1 then 1 else 0) : (a + b + c) / 2 = if tg lastT s (deedN a b) = 1 then 1 else 0 := by
  subst hc
  obtain rfl | rfl | rfl : s = 0 ∨ s = 1 ∨ s = 2 := by omega
  all_goals obtain rfl | rfl : a = 0 ∨ a = 1 := by omega
  all_goals obtain rfl | rfl : b = 0 ∨ b = 1 := by omega
  all_goals rfl
theorem car_fo {n : Nat} {a b : List Nat} (la : a.length = n) (lb : b.length = n) (ha : ∀ x ∈ a, x < 2) (hb : ∀ x ∈ b, x < 2) : ∀ k, k < n → carAt a b (k + 1) = if fo (tg lastT) ((List.range (k + 1)).map fun t => (deeds a b).getD t 0) = 1 then 1 else 0 := fun k => by
  have dlt : ∀ t, (deeds a b).getD t 0 < 3 := getD_lt (by decide) (deeds_lt a b)
  induction k with
  | zero =>
    intro h
    show (a.getD 0 0 + b.getD 0 0 + 0) / 2 = if (deeds a b).getD 0 0 = 1 then 1 else 0
    have := step_last (s := 0) (c := 0) (by decide) (getD_lt (by decide) ha 0) (getD_lt (by decide) hb 0) rfl
    rw [this, deeds_at (by omega) (by omega), tgL (by decide) (deedN_lt _ _)]
    generalize deedN (a.getD 0 0) (b.getD 0 0) = d
    by_cases g : d = 0
    · subst g
      rfl
    · rw [if_pos g]
  | succ k ih =>
    intro h
    have ih := ih (by omega)
    have fl : fo (tg lastT) ((List.range (k + 1)).map fun t => (deeds a b).getD t 0) < 3 := lastJ.fo_lt _ (by simp) fun x hx => by
      obtain ⟨t, _, rfl⟩ := List.mem_map.mp hx
      exact dlt t
    have st := step_last (c := carAt a b (k + 1)) fl (getD_lt (by decide) ha (k + 1)) (getD_lt (by decide) hb (k + 1)) ih
    rw [List.range_succ, List.map_append, List.map_singleton, fo_snoc _ (by simp), deeds_at (i := k + 1) (by omega) (by omega)]
    exact st
theorem told_car {n k : Nat} {bs : List (Nat × Nat)} {es a b w : List Nat} (bo : boxOk n 0 bs) (la : a.length = n) (lb : b.length = n) (ha : ∀ x ∈ a, x < 2) (hb : ∀ x ∈ b, x < 2) (hk : k < n) (he : k < es.length) (hw : (wordsOf n bs)[es.getD k 0]? = some w) (g : lastsOf w = lastsOf (stL (0, k))) :
    (toldL bs es a b).getD k 0 = (addedL a b).getD k 0 := by
  have dl := deeds_len (a := a) (b := b) (by omega)
  have dlt := deeds_lt a b
  obtain ⟨r1, r2, r3⟩ := run_word lastJ (by decide) (n := n) (by omega) dlt bs bo _ _ hw
  have e1 := fo_lasts lastJ last_id last_fs (fun t => (deeds a b).getD t 0) (getD_lt (by decide) dlt) w r2
  have sn : stL (0, k) ≠ [] := fun z => by
    have := congrArg List.length z
    unfold stL at this
    rw [List.length_map, List.length_range] at this
    exact absurd this (by simp)
  have e2 := fo_lasts lastJ last_id last_fs (fun t => (deeds a b).getD t 0) (getD_lt (by decide) dlt) (stL (0, k)) sn
  have es0 : stL (0, k) = List.range (k + 1) := by
    unfold stL
    simp
  rw [g, e2, es0] at e1
  have c := car_fo la lb ha hb k hk
  unfold toldL addedL
  simp only [List.getD_eq_getElem?_getD, List.getElem?_map]
  rw [List.getElem?_eq_getElem he, List.getElem?_range (by omega)]
  simp only [Option.map_some, Option.getD_some]
  rw [c, e1, ← r1]
  simp only [List.getD_eq_getElem?_getD, List.getElem?_eq_getElem he, Option.getD_some]

end
end Kx

namespace Kx
open PySem PySem.Spec PyProof.Rows L2 My
section
variable {P : Program} {w : World} {K : PySem.W.Frag} {mg : Str → Option Value} {base : Heap} {A : Ads}
theorem trues_all {α : Type} (xs : List α) : ((xs.map fun _ => true).all id) = true := by
  induction xs with
  | nil => rfl
  | cons x xs ih => exact ih
theorem trues_bl {α : Type} (xs : List α) : (xs.map fun _ => PyData.bool true) = (xs.map fun _ => true).map .bool := by
  rw [List.map_map]
  rfl
theorem shows_bits {ws : List Nat} (h : ∀ x ∈ ws, x < 2) (hl : ws.length ≤ 24) : Fn 1 (72 * 24 + 3) (encW ws) := fn_encW (fun x hx => Nat.lt_of_lt_of_le (h x hx) (by decide)) hl
theorem toldL_lt (bs : List (Nat × Nat)) (es a b : List Nat) : ∀ x ∈ toldL bs es a b, x < 2 := fun x hx => by
  obtain ⟨e, _, rfl⟩ := List.mem_map.mp hx
  split <;> decide
theorem right_ok {a : Addr} {l : List PyData} {k : Rv → List (List PyData) → Prop} (hl : Jr l) (q : ∀ l', k (.dat (.bool true)) [l']) : S_right A [.own false a l] k := by
  refine ⟨rfl, ?_⟩
  unfold d_right
  refine ⟨rfl, rfl, runner_ok hl fun n bs es rl l1 n1 n8 s1 R lb he le => ?_⟩
  have hN : NetOk n bs es := ⟨n1, by omega, by omega, by omega, by omega, R.bo, he⟩
  have LW := R.lens
  have lw : (wordsOf n bs).length = n + bs.length := wordsOf_len n bs
  have En := wordsOf_ent n bs
  refine ⟨rfl, words_spec (L := 2 ^ 15) hN (by decide) LW fun wa => ?_⟩
  have gw : ∀ k, k < n → ∃ w, (wordsOf n bs)[es.getD k 0]? = some w ∧ 1 ≤ w.length ∧ w.length ≤ 2 ^ 15 ∧ ∀ x ∈ w, x < n := fun k hk => by
    have h := he (es.getD k 0) (by
      rw [List.getD_eq_getElem?_getD, List.getElem?_eq_getElem (by omega)]
      exact List.getElem_mem _)
    have hm : (wordsOf n bs)[es.getD k 0]? = some ((wordsOf n bs)[es.getD k 0]'(by omega)) := List.getElem?_eq_getElem _
    exact ⟨_, hm, (lens_get LW hm).1, (lens_get LW hm).2, En _ (List.mem_of_getElem? hm)⟩
  let wd : Nat → List Nat := fun k => (wordsOf n bs).getD (es.getD k 0) []
  have wdE : ∀ k, k < n → (wordsOf n bs)[es.getD k 0]? = some (wd k) := fun k hk => by
    obtain ⟨w, h, _⟩ := gw k hk
    exact h.trans (congrArg some (getD_of h).symm)
  let gB : Nat → Bool := fun k => PyData.eqv (formD n (.str "last") (wd k)) (formD n (.str "last") (stL (0, k)))
  have gE : ∀ k, gB k = true → lastsOf (wd k) = lastsOf (stL (0, k)) := fun k h => by
    have h : PyData.eqv (encW (lastsOf (wd k))) (encW (lastsOf (stL (0, k)))) = true := h
    rw [encW_eqv] at h
    exact of_decide_eq_true h
  refine ⟨_, rfl, le_sz rfl, rfl, ?_⟩
  dsimp only [putA, setC, List.map, List.cons_append, List.nil_append, Nat.reduceSub, Nat.sub_self, List.replicate, List.set, dgName, dgTup]
  refine ⟨rfl, by omega, by omega, _, rfl, rfl, ?_⟩
  refine lc_all (List.range n) (enc := nI) (f := fun k => .bool (gB k)) (rngN (n := n) rfl) rfl (by rw [List.length_range]; omega) (fun i x hx Kc Kn q1 => ⟨fun _ => ?_, noT⟩) ?_
  · obtain ⟨rfl, hx⟩ := rng_get hx
    obtain ⟨w, hw, w1, w2, w3⟩ := gw x hx
    have ew : w = wd x := by
      have := wdE x hx
      rw [hw] at this
      exact Option.some.inj this
    subst ew
    have x1 : atI (es.map nI) (x : Int) = some (nI (es.getD x 0)) := nat_at (by omega)
    have x2 : atI ((wordsOf n bs).map bW) ((es.getD x 0 : Nat) : Int) = some (bW (wd x)) := atI_of (by rw [List.getElem?_map, hw]; rfl)
    refine ⟨_, rfl, _, x1, _, x2, le_sz rfl, rfl, fits_ok (b := (0, x)) w1 (Nat.le_trans w2 (by decide)) (by omega) w3 (Nat.zero_le _) hx last_kind ?_⟩
    exact q1 _ rfl
  refine fun ga => ⟨by decide, by decide, _, rfl, ?_⟩
  refine for_all (List.range 3) (rngN (n := 3) rfl) (fun i e => ∃ l' z6 z7 z8 z9 z10, e = [some (.own false a l'), some (.dat (encNet n bs es)), some (.dat (.list ((wordsOf n bs).map bW))), some (.dat (nI n)), some (.dat (.list ((List.range n).map fun k => .bool (gB k)))), none, z6, z7, z8, z9, z10] ∧ Jr l') ⟨l1, none, none, none, none, none, rfl, s1⟩ (fun i x e Kc hx hI hK => ?_) (fun i e hI => ?_) (fun e hI => ?_)
  · obtain ⟨l', z6, z7, z8, z9, z10, rfl, sj⟩ := hI
    unfold d_right_b1
    refine ⟨rfl, rfl, sums_ok sj n1 (by omega) fun r s l2 hr hs r2 s2 sj2 => ?_⟩
    have lt := toldL_lt bs es r s
    have l24 : (toldL bs es r s).length ≤ 24 := by
      unfold toldL
      rw [List.length_map]
      omega
    have tl : (toldL bs es r s).length = n := by
      unfold toldL
      rw [List.length_map, le]
    have al : (addedL r s).length = n := by
      unfold addedL
      rw [List.length_map, List.length_range, hr]
    have FT := shows_bits lt l24
    refine ⟨rfl, rfl, ?_⟩
    dsimp only [putA, setC, List.map, List.cons_append, List.nil_append, Nat.reduceSub, Nat.sub_self, List.replicate, List.set, dgName, dgTup]
    refine ⟨rfl, carries_ok hN le hr hs r2 s2 ⟨rfl, added_ok (by omega) hr hs ⟨le_sz rfl, rfl, rfl, ?_⟩⟩⟩
    dsimp only [putA, setC, List.map, List.cons_append, List.nil_append, Nat.reduceSub, Nat.sub_self, List.replicate, List.set, dgName, dgTup]
    refine ⟨_, FT.um, FT.shows (by decide) (by size_fits), rfl, carried_ok hN hr hs r2 s2 ⟨_, FT.um, FT.shows (by decide) (by size_fits), neS_same ?_⟩⟩
    refine ⟨rfl, rfl, carries_ok hN le hr hs r2 s2 ⟨_, FT.um, FT.shows (by decide) (by size_fits), _, FT.um, FT.shows (by decide) (by size_fits), neS_same ?_⟩⟩
    refine ⟨by omega, by omega, _, rfl, rfl, ?_⟩
    refine lc_fil (List.range n) gB (enc := nI) (f := fun k => .bool (decide ((nI ((addedL r s).getD k 0)).shown = (nI ((addedL r s).getD k 0)).shown))) (rngN (n := n) rfl) rfl (by rw [List.length_range]; omega) (fun i x hx Kc Kn q1 q2 => ?_) ?_
    · obtain ⟨rfl, hx⟩ := rng_get hx
      have x0 : atI ((List.range n).map fun k => PyData.bool (gB k)) (x : Int) = some (.bool (gB x)) := atI_of (by rw [List.getElem?_map, List.getElem?_range hx]; rfl)
      refine ⟨_, x0, fun e => ?_, fun e => q2 e _ rfl⟩
      have et := told_car R.bo hr hs r2 s2 hx (by omega) (wdE x hx) (gE x e)
      have x1 : atI ((toldL bs es r s).map nI) (x : Int) = some (nI ((addedL r s).getD x 0)) := by
        rw [← et]
        exact nat_at (by omega)
      have x2 : atI ((addedL r s).map nI) (x : Int) = some (nI ((addedL r s).getD x 0)) := nat_at (by omega)
      have vl : (addedL r s).getD x 0 < 2 ^ 64 := by
        rw [← et]
        exact Nat.lt_of_lt_of_le (getD_lt (by decide) lt x) (by decide)
      have FV := fn_nat vl
      exact ⟨_, x1, _, FV.um, FV.shows (by decide) (by size_fits), _, x2, _, FV.um, FV.shows (by decide) (by size_fits), q1 e _ rfl⟩
    · have eb : (((List.range n).filter gB).map fun k => PyData.bool (decide ((nI ((addedL r s).getD k 0)).shown = (nI ((addedL r s).getD k 0)).shown))) = (((List.range n).filter gB).map fun _ => true).map .bool := by
        rw [List.map_map]
        exact List.map_congr_left fun k _ => congrArg PyData.bool (decide_eq_true rfl)
      refine fun ba => ⟨_, eb, ?_⟩
      rw [trues_all]
      refine ⟨noF, fun _ => ?_⟩
      exact hK _ ⟨l2, _, _, _, _, _, rfl, sj2⟩
  · obtain ⟨l', z6, z7, z8, z9, z10, rfl, sj⟩ := hI
    rfl
  · obtain ⟨l', z6, z7, z8, z9, z10, rfl, sj⟩ := hI
    exact ⟨rfl, rfl, q l'⟩

end
end Kx

namespace Kx
open PySem PySem.Spec PyProof.Rows L2 My
section
variable {P : Program} {w : World} {K : PySem.W.Frag} {mg : Str → Option Value} {base : Heap} {A : Ads}
theorem law_spec (ns : List Int) : S_law A [.dat (scr (ns.map .int))] fun r _ => r = .dat (.bool true) := by
  refine ⟨rfl, ?_⟩
  unfold d_law
  have hJ : ∀ L : Int, 0 ≤ (if (if 3 < L then 3 else L) > 2 then (if 3 < L then 3 else L) else 2) ∧ (if (if 3 < L then 3 else L) > 2 then (if 3 < L then 3 else L) else 2) ≤ 3 := fun L => by
    by_cases h : 3 < L
    · rw [if_pos h]
      decide
    · rw [if_neg h]
      by_cases h2 : L > 2
      · rw [if_pos h2]
        omega
      · rw [if_neg h2]
        decide
  obtain ⟨j0, j1⟩ := hJ ((ns.map PyData.int).length : Nat)
  refine ⟨Int.le_trans (by decide) j0, Int.lt_of_le_of_lt j1 (by decide), _, rfl, ?_⟩
  obtain ⟨J, hJ⟩ := Int.eq_ofNat_of_zero_le j0
  have hJ3 : J ≤ 3 := by omega
  refine for_all (List.range J) (rngN (n := J) hJ) (fun i e => ∃ z, e = [some (.dat (scr (ns.map .int))), z]) ⟨none, rfl⟩ (fun i x e Kc hx hI hK => ?_) (fun i e hI => ?_) (fun e hI => ?_)
  · have hm := List.mem_range.mp (List.mem_of_getElem? hx)
    obtain ⟨z, rfl⟩ := hI
    unfold d_law_b1
    exact ⟨rfl, jar_spec (by omega) fun a l s => ⟨rfl, right_ok s fun l' => ⟨noF, fun _ => hK _ ⟨_, rfl⟩⟩⟩⟩
  · obtain ⟨z, rfl⟩ := hI
    rfl
  · obtain ⟨z, rfl⟩ := hI
    exact ⟨rfl, rfl⟩

end
end Kx

namespace Kx
open PySem PySem.Spec PyProof.Rows L2 My
section
variable {P : Program} {w : World} {K : PySem.W.Frag} {mg : Str → Option Value} {base : Heap} {A : Ads}
/-- what the law's def does, whatever the base -/
def spL (P : Program) (w : World) (K : PySem.W.Frag) (mg : Str → Option Value) (A : Ads) : Sp := fun vs H Q E => ∀ base : Heap, spT (xF P w K mg base A) (S_law A) vs H Q E
theorem law_fn (T : Txt w K mg A) (B : TabsB base mg A) : FnG P w K mg base CX0 13 A.a_law (Classical.choose T.f_law) ["script"] (spL P w K mg A) := by
  obtain ⟨⟨fd, G, b, at_⟩, _, _⟩ := ok_law (P := P) (w := w) (base := base) T B
  have F := (Classical.choose_spec T.f_law).1
  have e := (At.of F).inj at_
  rw [e]
  exact ⟨fun vs H Q E h => G.len vs H Q E (h base), fun A0 outer s H args us vs Q E r e0 bd hv h => G.go A0 outer s H args us vs Q E r e0 bd hv (h base)⟩
theorem ints_dk {M : List Addr} {H : Hp} : ∀ ns : List Int, Dks K M H (ns.map V.int) (ns.map .int)
  | [] => .nil
  | n :: r => .cons (.int n) (ints_dk r)
theorem spL_of {a : Addr} {ns : List Int} {H : Hp} (gd : Gd (ct A) H) (hS : SqL K H a (ns.map V.int)) : spL P w K mg A [.ref a] H (fun v _ => v = .bl true) fun _ _ _ => False := fun base => by
  refine ⟨⟨xF P w K mg base A, [], [], H⟩, [.dat (scr (ns.map .int))], fun r _ => r = .dat (.bool true), rfl, rfl, gd, nofun, nofun, .cons (.dat ?_) .nil, fun a => ?_, rfl, law_spec ns, fun v r outs L H' fin hr => ?_⟩
  · rcases hS with h | h
    · exact .scr nofun h (ints_dk ns)
    · exact .scrK (fun H' => Or.inr h) (ints_dk ns)
  · simp [Rv.cntL, Rv.cnt]
  · subst hr
    have h := fin.rq
    cases h with
    | dat h =>
      cases h
      rfl

end
end Kx

namespace Kx
open PySem PySem.Spec PyProof.Rows L2 My
open LamX (CodeO TabS ExtN)
open GxR (TabG Tabbed)
theorem txt_of {w : World} {K : PySem.W.Frag} {h : Heap} {mg : Str → Option Value} (X : K.In h) (G : h.Ns mainGlobals mg) {f_is_whole f_is_row f_run_through f_are_wires f_is_net f_check_net f_is_kind f_check_kind f_end_worths f_settling_table f_check_digits f_check_running f_deed_of f_told_carries f_carries f_jar f_draw f_pick f_words f_form f_fits f_laid f_web f_bent f_added f_carried f_runner f_row f_summands f_right f_law c_are_wires p_are_wires c_end_worths p_end_worths n_KINDS n_SETTLING : Addr}
    (h_is_whole : HasFn K "is_whole" "is_whole" s_is_whole f_is_whole)
    (h_is_row : HasFn K "is_row" "is_row" s_is_row f_is_row)
    (h_run_through : HasFn K "run_through" "run_through" s_run_through f_run_through)
    (h_are_wires : HasFn K "are_wires" "are_wires" s_are_wires f_are_wires)
    (h_is_net : HasFn K "is_net" "is_net" s_is_net f_is_net)
    (h_check_net : HasFn K "check_net" "check_net" s_check_net f_check_net)
    (h_is_kind : HasFn K "is_kind" "is_kind" s_is_kind f_is_kind)
    (h_check_kind : HasFn K "check_kind" "check_kind" s_check_kind f_check_kind)
    (h_end_worths : HasFn K "end_worths" "end_worths" s_end_worths f_end_worths)
    (h_settling_table : HasFn K "settling_table" "settling_table" s_settling_table f_settling_table)
    (h_check_digits : HasFn K "check_digits" "check_digits" s_check_digits f_check_digits)
    (h_check_running : HasFn K "check_running" "check_running" s_check_running f_check_running)
    (h_deed_of : HasFn K "deed_of" "deed_of" s_deed_of f_deed_of)
    (h_told_carries : HasFn K "told_carries" "told_carries" s_told_carries f_told_carries)
    (h_carries : HasFn K "carries" "carries" s_carries f_carries)
    (h_jar : HasFn K "_law_jar" "_law_jar" s_jar f_jar)
    (h_draw : HasFn K "_law_draw" "_law_draw" s_draw f_draw)
    (h_pick : HasFn K "_law_pick" "_law_pick" s_pick f_pick)
    (h_words : HasFn K "_law_words" "_law_words" s_words f_words)
    (h_form : HasFn K "_law_form" "_law_form" s_form f_form)
    (h_fits : HasFn K "_law_fits" "_law_fits" s_fits f_fits)
    (h_laid : HasFn K "_law_laid" "_law_laid" s_laid f_laid)
    (h_web : HasFn K "_law_web" "_law_web" s_web f_web)
    (h_bent : HasFn K "_law_bent" "_law_bent" s_bent f_bent)
    (h_added : HasFn K "_law_added" "_law_added" s_added f_added)
    (h_carried : HasFn K "_law_carried" "_law_carried" s_carried f_carried)
    (h_runner : HasFn K "_law_runner" "_law_runner" s_runner f_runner)
    (h_row : HasFn K "_law_row" "_law_row" s_row f_row)
    (h_summands : HasFn K "_law_summands" "_law_summands" s_summands f_summands)
    (h_right : HasFn K "_law_right" "_law_right" s_right f_right)
    (h_law : HasFn K "law" "law" s_law f_law)
    (t_are_wires : PySem.W.tabIn K "are_wires" = some (c_are_wires, p_are_wires))
    (t_end_worths : PySem.W.tabIn K "end_worths" = some (c_end_worths, p_end_worths))
    (k_MOST_PLACES : ∃ t, PySem.W.nsIn K mainGlobals "MOST_PLACES" = some (some (.int 12 t)))
    (k_MOST_BOXES : ∃ t, PySem.W.nsIn K mainGlobals "MOST_BOXES" = some (some (.int 60 t)))
    (k_MOST_ENDS : ∃ t, PySem.W.nsIn K mainGlobals "MOST_ENDS" = some (some (.int 24 t)))
    (k_KEEP : ∃ t, PySem.W.nsIn K mainGlobals "KEEP" = some (some (.int 0 t)))
    (k_MAKE : ∃ t, PySem.W.nsIn K mainGlobals "MAKE" = some (some (.int 1 t)))
    (k_STOP : ∃ t, PySem.W.nsIn K mainGlobals "STOP" = some (some (.int 2 t)))
    (k_KINDS : My.TupC K "KINDS" n_KINDS [.str "any", .str "even", .int 2, .int 3, .int 4, .int 5, .int 6, .int 7, .int 8, .str "first", .str "last", .str "sets", .str "ends"])
    (k_SETTLING : PySem.W.nsIn K mainGlobals "SETTLING" = some (some (.ref n_SETTLING)))
    (q_SETTLING : KTab K w n_SETTLING dat_SETTLING)
    (z_len : PySem.W.nsIn K mainGlobals "len" = some none)
    (z_abs : PySem.W.nsIn K mainGlobals "abs" = some none)
    (z_repr : PySem.W.nsIn K mainGlobals "repr" = some none)
    (z_int : PySem.W.nsIn K mainGlobals "int" = some none)
    (z_tuple : PySem.W.nsIn K mainGlobals "tuple" = some none)
    (z_list : PySem.W.nsIn K mainGlobals "list" = some none)
    (z_type : PySem.W.nsIn K mainGlobals "type" = some none)
    (z_max : PySem.W.nsIn K mainGlobals "max" = some none)
    (z_min : PySem.W.nsIn K mainGlobals "min" = some none)
    (z_all : PySem.W.nsIn K mainGlobals "all" = some none)
    (z_range : PySem.W.nsIn K mainGlobals "range" = some none)
    (z_enumerate : PySem.W.nsIn K mainGlobals "enumerate" = some none)
    (z_zip : PySem.W.nsIn K mainGlobals "zip" = some none)
    (z_str : PySem.W.nsIn K mainGlobals "str" = some none)
    (z_divmod : PySem.W.nsIn K mainGlobals "divmod" = some none) : Txt w K mg ⟨f_is_whole, f_is_row, f_run_through, f_are_wires, f_is_net, f_check_net, f_is_kind, f_check_kind, f_end_worths, f_settling_table, f_check_digits, f_check_running, f_deed_of, f_told_carries, f_carries, f_jar, f_draw, f_pick, f_words, f_form, f_fits, f_laid, f_web, f_bent, f_added, f_carried, f_runner, f_row, f_summands, f_right, f_law, c_are_wires, p_are_wires, c_end_worths, p_end_worths, n_KINDS, n_SETTLING⟩ where
  f_is_whole := h_is_whole.fn fun _ _ _ _ _ _ us hl => match us, hl with | [_, _, _], _ => rfl
  g_is_whole := h_is_whole.gl X G
  f_is_row := h_is_row.fn fun _ _ _ _ _ _ us hl => match us, hl with | [_, _, _], _ => rfl
  g_is_row := h_is_row.gl X G
  f_run_through := h_run_through.fn fun _ _ _ _ _ _ us hl => match us, hl with | [_, _, _], _ => rfl
  g_run_through := h_run_through.gl X G
  f_are_wires := h_are_wires.fn fun _ _ _ _ _ _ us hl => match us, hl with | [_, _], _ => rfl
  g_are_wires := h_are_wires.gl X G
  f_is_net := h_is_net.fn fun _ _ _ _ _ _ us hl => match us, hl with | [_], _ => rfl
  g_is_net := h_is_net.gl X G
  f_check_net := h_check_net.fn fun _ _ _ _ _ _ us hl => match us, hl with | [_], _ => rfl
  g_check_net := h_check_net.gl X G
  f_is_kind := h_is_kind.fn fun _ _ _ _ _ _ us hl => match us, hl with | [_], _ => rfl
  g_is_kind := h_is_kind.gl X G
  f_check_kind := h_check_kind.fn fun _ _ _ _ _ _ us hl => match us, hl with | [_], _ => rfl
  g_check_kind := h_check_kind.gl X G
  f_end_worths := h_end_worths.fn fun _ _ _ _ _ _ us hl => match us, hl with | [_, _, _], _ => rfl
  g_end_worths := h_end_worths.gl X G
  f_settling_table := h_settling_table.fn fun _ _ _ _ _ _ us hl => match us, hl with | [_], _ => rfl
  g_settling_table := h_settling_table.gl X G
  f_check_digits := h_check_digits.fn fun _ _ _ _ _ _ us hl => match us, hl with | [_, _], _ => rfl
  g_check_digits := h_check_digits.gl X G
  f_check_running := h_check_running.fn fun _ _ _ _ _ _ us hl => match us, hl with | [_], _ => rfl
  g_check_running := h_check_running.gl X G
  f_deed_of := h_deed_of.fn fun _ _ _ _ _ _ us hl => match us, hl with | [_, _], _ => rfl
  g_deed_of := h_deed_of.gl X G
  f_told_carries := h_told_carries.fn fun _ _ _ _ _ _ us hl => match us, hl with | [_, _, _], _ => rfl
  g_told_carries := h_told_carries.gl X G
  f_carries := h_carries.fn fun _ _ _ _ _ _ us hl => match us, hl with | [_, _, _], _ => rfl
  g_carries := h_carries.gl X G
  f_jar := h_jar.fn fun _ _ _ _ _ _ us hl => match us, hl with | [_, _], _ => rfl
  g_jar := h_jar.gl X G
  f_draw := h_draw.fn fun _ _ _ _ _ _ us hl => match us, hl with | [_, _], _ => rfl
  g_draw := h_draw.gl X G
  f_pick := h_pick.fn fun _ _ _ _ _ _ us hl => match us, hl with | [_, _], _ => rfl
  g_pick := h_pick.gl X G
  f_words := h_words.fn fun _ _ _ _ _ _ us hl => match us, hl with | [_], _ => rfl
  g_words := h_words.gl X G
  f_form := h_form.fn fun _ _ _ _ _ _ us hl => match us, hl with | [_, _, _], _ => rfl
  g_form := h_form.gl X G
  f_fits := h_fits.fn fun _ _ _ _ _ _ us hl => match us, hl with | [_, _, _, _], _ => rfl
  g_fits := h_fits.gl X G
  f_laid := h_laid.fn fun _ _ _ _ _ _ us hl => match us, hl with | [_, _, _, _], _ => rfl
  g_laid := h_laid.gl X G
  f_web := h_web.fn fun _ _ _ _ _ _ us hl => match us, hl with | [_, _, _, _], _ => rfl
  g_web := h_web.gl X G
  f_bent := h_bent.fn fun _ _ _ _ _ _ us hl => match us, hl with | [_, _], _ => rfl
  g_bent := h_bent.gl X G
  f_added := h_added.fn fun _ _ _ _ _ _ us hl => match us, hl with | [_, _], _ => rfl
  g_added := h_added.gl X G
  f_carried := h_carried.fn fun _ _ _ _ _ _ us hl => match us, hl with | [_, _, _], _ => rfl
  g_carried := h_carried.gl X G
  f_runner := h_runner.fn fun _ _ _ _ _ _ us hl => match us, hl with | [_, _], _ => rfl
  g_runner := h_runner.gl X G
  f_row := h_row.fn fun _ _ _ _ _ _ us hl => match us, hl with | [_, _, _], _ => rfl
  g_row := h_row.gl X G
  f_summands := h_summands.fn fun _ _ _ _ _ _ us hl => match us, hl with | [_, _], _ => rfl
  g_summands := h_summands.gl X G
  f_right := h_right.fn fun _ _ _ _ _ _ us hl => match us, hl with | [_], _ => rfl
  g_right := h_right.gl X G
  f_law := h_law.fn fun _ _ _ _ _ _ us hl => match us, hl with | [_], _ => rfl
  g_law := h_law.gl X G
  c_MOST_PLACES := con1_int X G k_MOST_PLACES
  c_MOST_BOXES := con1_int X G k_MOST_BOXES
  c_MOST_ENDS := con1_int X G k_MOST_ENDS
  c_KEEP := con1_int X G k_KEEP
  c_MAKE := con1_int X G k_MAKE
  c_STOP := con1_int X G k_STOP
  c_KINDS := k_KINDS.con X G
  q_KINDS := k_KINDS.sq
  c_SETTLING := ⟨_, PySem.W.mg_of X G k_SETTLING, rfl⟩
  q_SETTLING := q_SETTLING
  t_are_wires := h_are_wires.tab X G t_are_wires
  t_end_worths := h_end_worths.tab X G t_end_worths
  k_carries_two_one_net := h_carries.kw (fun s _ _ _ _ _ _ ws hl => match ws, hl with | [_, _, _], _ => .of_eq rfl) fun r => (.cons (vals_getD r 2) (.cons (vals_getD r 1) (.cons (vals_getD r 0) .nil)))
  z_len := PySem.W.mg_none_of X G z_len
  z_abs := PySem.W.mg_none_of X G z_abs
  z_repr := PySem.W.mg_none_of X G z_repr
  z_int := PySem.W.mg_none_of X G z_int
  z_tuple := PySem.W.mg_none_of X G z_tuple
  z_list := PySem.W.mg_none_of X G z_list
  z_type := PySem.W.mg_none_of X G z_type
  z_max := PySem.W.mg_none_of X G z_max
  z_min := PySem.W.mg_none_of X G z_min
  z_all := PySem.W.mg_none_of X G z_all
  z_range := PySem.W.mg_none_of X G z_range
  z_enumerate := PySem.W.mg_none_of X G z_enumerate
  z_zip := PySem.W.mg_none_of X G z_zip
  z_str := PySem.W.mg_none_of X G z_str
  z_divmod := PySem.W.mg_none_of X G z_divmod
theorem all_mk {l : PySem.W.OpenLaw} {w : World} {K : PySem.W.Frag} {h : Heap} {mg : Str → Option Value} {fa : Addr} (X : K.In h) (G : h.Ns mainGlobals mg) (hfa : mg "law" = some (.ref fa)) {f_is_whole f_is_row f_run_through f_are_wires f_is_net f_check_net f_is_kind f_check_kind f_end_worths f_settling_table f_check_digits f_check_running f_deed_of f_told_carries f_carries f_jar f_draw f_pick f_words f_form f_fits f_laid f_web f_bent f_added f_carried f_runner f_row f_summands f_right f_law c_are_wires p_are_wires c_end_worths p_end_worths n_KINDS n_SETTLING : Addr} (T : Txt w K mg ⟨f_is_whole, f_is_row, f_run_through, f_are_wires, f_is_net, f_check_net, f_is_kind, f_check_kind, f_end_worths, f_settling_table, f_check_digits, f_check_running, f_deed_of, f_told_carries, f_carries, f_jar, f_draw, f_pick, f_words, f_form, f_fits, f_laid, f_web, f_bent, f_added, f_carried, f_runner, f_row, f_summands, f_right, f_law, c_are_wires, p_are_wires, c_end_worths, p_end_worths, n_KINDS, n_SETTLING⟩) (hlaw : HasFn K "law" "law" s_law f_law)
    (hT : PySem.W.TabsAt [(c_are_wires, p_are_wires), (c_end_worths, p_end_worths)] h) (nT : ∀ p ∈ [(c_are_wires, p_are_wires), (c_end_worths, p_end_worths)], K.lookup p.2 = none) (ne : ∀ q ∈ (ct ⟨f_is_whole, f_is_row, f_run_through, f_are_wires, f_is_net, f_check_net, f_is_kind, f_check_kind, f_end_worths, f_settling_table, f_check_digits, f_check_running, f_deed_of, f_told_carries, f_carries, f_jar, f_draw, f_pick, f_words, f_form, f_fits, f_laid, f_web, f_bent, f_added, f_carried, f_runner, f_row, f_summands, f_right, f_law, c_are_wires, p_are_wires, c_end_worths, p_end_worths, n_KINDS, n_SETTLING⟩).T, ∀ P ∈ (ct ⟨f_is_whole, f_is_row, f_run_through, f_are_wires, f_is_net, f_check_net, f_is_kind, f_check_kind, f_end_worths, f_settling_table, f_check_digits, f_check_running, f_deed_of, f_told_carries, f_carries, f_jar, f_draw, f_pick, f_words, f_form, f_fits, f_laid, f_web, f_bent, f_added, f_carried, f_runner, f_row, f_summands, f_right, f_law, c_are_wires, p_are_wires, c_end_worths, p_end_worths, n_KINDS, n_SETTLING⟩).G, q.1 ≠ P) (nt : ∀ p ∈ (ct ⟨f_is_whole, f_is_row, f_run_through, f_are_wires, f_is_net, f_check_net, f_is_kind, f_check_kind, f_end_worths, f_settling_table, f_check_digits, f_check_running, f_deed_of, f_told_carries, f_carries, f_jar, f_draw, f_pick, f_words, f_form, f_fits, f_laid, f_web, f_bent, f_added, f_carried, f_runner, f_row, f_summands, f_right, f_law, c_are_wires, p_are_wires, c_end_worths, p_end_worths, n_KINDS, n_SETTLING⟩).T, ∀ q ∈ (ct ⟨f_is_whole, f_is_row, f_run_through, f_are_wires, f_is_net, f_check_net, f_is_kind, f_check_kind, f_end_worths, f_settling_table, f_check_digits, f_check_running, f_deed_of, f_told_carries, f_carries, f_jar, f_draw, f_pick, f_words, f_form, f_fits, f_laid, f_web, f_bent, f_added, f_carried, f_runner, f_row, f_summands, f_right, f_law, c_are_wires, p_are_wires, c_end_worths, p_end_worths, n_KINDS, n_SETTLING⟩).T, p.1 = q.1 → p = q) :
    ∃ (fd : FuncData) (ts : List (Addr × Addr)) (sp : Sp), PySem.W.TabsAt ts h ∧ (∀ p ∈ ts, K.lookup p.2 = none) ∧ (∀ (s : Shared) (u : Value), BindsTo s fd ⟨[u], []⟩ [("script", u)]) ∧
      (∀ (H : Hp) (a : Addr) (ns : List Int), ns.length ≤ 63 → (∀ p ∈ ts, H p.2 = some (.tbl #[])) → SqL K H a (ns.map V.int) → sp [.ref a] H (fun v _ => v = .bl true) fun _ _ _ => False) ∧
      ∀ base : Heap, K.In base → base.Ns mainGlobals mg → (∀ p ∈ ts, LamX.TabB base mg p.1 p.2) → FnG l.prog w K mg base CX0 13 fa fd ["script"] sp := by
  have e := hfa.symm.trans T.g_law
  cases e
  obtain ⟨F, b⟩ := Classical.choose_spec T.f_law
  refine ⟨Classical.choose T.f_law, [(c_are_wires, p_are_wires), (c_end_worths, p_end_worths)], spL l.prog w K mg ⟨f_is_whole, f_is_row, f_run_through, f_are_wires, f_is_net, f_check_net, f_is_kind, f_check_kind, f_end_worths, f_settling_table, f_check_digits, f_check_running, f_deed_of, f_told_carries, f_carries, f_jar, f_draw, f_pick, f_words, f_form, f_fits, f_laid, f_web, f_bent, f_added, f_carried, f_runner, f_row, f_summands, f_right, f_law, c_are_wires, p_are_wires, c_end_worths, p_end_worths, n_KINDS, n_SETTLING⟩, hT, nT, hlaw.one (At.of F) (fun _ _ _ _ _ _ _ _ => .of_eq rfl), fun H a ns hl ht hS => spL_of ⟨fun P hP => ?_, fun p hp => ?_⟩ hS, fun base _ _ hB => ?_⟩
  · have tb : ∀ q ∈ [(c_are_wires, p_are_wires), (c_end_worths, p_end_worths)], H q.2 = some (.tbl #[]) := ht
    simp only [ct, List.mem_cons, List.not_mem_nil, or_false] at hP
    have e := hP
    · rw [e]
      exact tabG0 (tb (c_are_wires, p_are_wires) (by simp))
  · have tb : ∀ q ∈ [(c_are_wires, p_are_wires), (c_end_worths, p_end_worths)], H q.2 = some (.tbl #[]) := ht
    simp only [ct, List.mem_cons, List.not_mem_nil, or_false] at hp
    have e := hp
    · rw [e]
      exact tabS0 (tb (c_end_worths, p_end_worths) (by simp))
  · exact law_fn T ⟨hB (c_are_wires, p_are_wires) (by simp), hB (c_end_worths, p_end_worths) (by simp), ne, nt⟩
end Kx

open PySem PySem.W PyProof.Rows in
set_option maxRecDepth 100000 in
set_option maxHeartbeats 0 in
theorem PySem.Challenge.cw_runnets_k28_whole_carries_by_own_adding_holds : PySem.Challenge.rw_runnets_k28_whole_carries_by_own_adding.Holds := by
  w_on; o_law; k_head; (case hw => w_witness2)
  k_fill
  refine My.walkT (l := PySem.Challenge.rw_runnets_k28_whole_carries_by_own_adding) (n := 63) (k := 13) (x := "script") (CX := fun _ => L2.CX0) rfl (by decide) rfl ⟨⟨rfl, by decide, by decide⟩, rfl⟩ (fun w h Y => by first | exact PySem.W.kIn_of Y | exact PySem.W.km_in_of Y) ?F (fun _ _ _ _ _ z => z)
  case F =>
    intro w mg fa h KX G hmg htab
    refine' Kx.all_mk KX G hmg (Kx.txt_of KX G ?h_is_whole ?h_is_row ?h_run_through ?h_are_wires ?h_is_net ?h_check_net ?h_is_kind ?h_check_kind ?h_end_worths ?h_settling_table ?h_check_digits ?h_check_running ?h_deed_of ?h_told_carries ?h_carries ?h_jar ?h_draw ?h_pick ?h_words ?h_form ?h_fits ?h_laid ?h_web ?h_bent ?h_added ?h_carried ?h_runner ?h_row ?h_summands ?h_right ?h_law ?t_are_wires ?t_end_worths ?k_MOST_PLACES ?k_MOST_BOXES ?k_MOST_ENDS ?k_KEEP ?k_MAKE ?k_STOP ?k_KINDS ?k_SETTLING ?q_SETTLING ?z_len ?z_abs ?z_repr ?z_int ?z_tuple ?z_list ?z_type ?z_max ?z_min ?z_all ?z_range ?z_enumerate ?z_zip ?z_str ?z_divmod) ?h_law ?hT ?nT ?ne ?nt
    (case h_is_whole => (refine' My.hasFn ?a ?l ?c ?k; (case a => k_is); (case l => k_is); (case c => k_is); (case k => k_is)))
    (case h_is_row => (refine' My.hasFn ?a ?l ?c ?k; (case a => k_is); (case l => k_is); (case c => k_is); (case k => k_is)))
    (case h_run_through => (refine' My.hasFn ?a ?l ?c ?k; (case a => k_is); (case l => k_is); (case c => k_is); (case k => k_is)))
    (case h_are_wires => (refine' My.hasFn ?a ?l ?c ?k; (case a => k_is); (case l => k_is); (case c => k_is); (case k => k_is)))
    (case h_is_net => (refine' My.hasFn ?a ?l ?c ?k; (case a => k_is); (case l => k_is); (case c => k_is); (case k => k_is)))
    (case h_check_net => (refine' My.hasFn ?a ?l ?c ?k; (case a => k_is); (case l => k_is); (case c => k_is); (case k => k_is)))
    (case h_is_kind => (refine' My.hasFn ?a ?l ?c ?k; (case a => k_is); (case l => k_is); (case c => k_is); (case k => k_is)))
    (case h_check_kind => (refine' My.hasFn ?a ?l ?c ?k; (case a => k_is); (case l => k_is); (case c => k_is); (case k => k_is)))
    (case h_end_worths => (refine' My.hasFn ?a ?l ?c ?k; (case a => k_is); (case l => k_is); (case c => k_is); (case k => k_is)))
    (case h_settling_table => (refine' My.hasFn ?a ?l ?c ?k; (case a => k_is); (case l => k_is); (case c => k_is); (case k => k_is)))
    (case h_check_digits => (refine' My.hasFn ?a ?l ?c ?k; (case a => k_is); (case l => k_is); (case c => k_is); (case k => k_is)))
    (case h_check_running => (refine' My.hasFn ?a ?l ?c ?k; (case a => k_is); (case l => k_is); (case c => k_is); (case k => k_is)))
    (case h_deed_of => (refine' My.hasFn ?a ?l ?c ?k; (case a => k_is); (case l => k_is); (case c => k_is); (case k => k_is)))
    (case h_told_carries => (refine' My.hasFn ?a ?l ?c ?k; (case a => k_is); (case l => k_is); (case c => k_is); (case k => k_is)))
    (case h_carries => (refine' My.hasFn ?a ?l ?c ?k; (case a => k_is); (case l => k_is); (case c => k_is); (case k => k_is)))
    (case h_jar => (refine' My.hasFn ?a ?l ?c ?k; (case a => k_is); (case l => k_is); (case c => k_is); (case k => k_is)))
    (case h_draw => (refine' My.hasFn ?a ?l ?c ?k; (case a => k_is); (case l => k_is); (case c => k_is); (case k => k_is)))
    (case h_pick => (refine' My.hasFn ?a ?l ?c ?k; (case a => k_is); (case l => k_is); (case c => k_is); (case k => k_is)))
    (case h_words => (refine' My.hasFn ?a ?l ?c ?k; (case a => k_is); (case l => k_is); (case c => k_is); (case k => k_is)))
    (case h_form => (refine' My.hasFn ?a ?l ?c ?k; (case a => k_is); (case l => k_is); (case c => k_is); (case k => k_is)))
    (case h_fits => (refine' My.hasFn ?a ?l ?c ?k; (case a => k_is); (case l => k_is); (case c => k_is); (case k => k_is)))
    (case h_laid => (refine' My.hasFn ?a ?l ?c ?k; (case a => k_is); (case l => k_is); (case c => k_is); (case k => k_is)))
    (case h_web => (refine' My.hasFn ?a ?l ?c ?k; (case a => k_is); (case l => k_is); (case c => k_is); (case k => k_is)))
    (case h_bent => (refine' My.hasFn ?a ?l ?c ?k; (case a => k_is); (case l => k_is); (case c => k_is); (case k => k_is)))
    (case h_added => (refine' My.hasFn ?a ?l ?c ?k; (case a => k_is); (case l => k_is); (case c => k_is); (case k => k_is)))
    (case h_carried => (refine' My.hasFn ?a ?l ?c ?k; (case a => k_is); (case l => k_is); (case c => k_is); (case k => k_is)))
    (case h_runner => (refine' My.hasFn ?a ?l ?c ?k; (case a => k_is); (case l => k_is); (case c => k_is); (case k => k_is)))
    (case h_row => (refine' My.hasFn ?a ?l ?c ?k; (case a => k_is); (case l => k_is); (case c => k_is); (case k => k_is)))
    (case h_summands => (refine' My.hasFn ?a ?l ?c ?k; (case a => k_is); (case l => k_is); (case c => k_is); (case k => k_is)))
    (case h_right => (refine' My.hasFn ?a ?l ?c ?k; (case a => k_is); (case l => k_is); (case c => k_is); (case k => k_is)))
    (case h_law => (refine' My.hasFn ?a ?l ?c ?k; (case a => k_is); (case l => k_is); (case c => k_is); (case k => k_is)))
    (case t_are_wires => (refine' My.tabOf ?ta ?tl ?th ?tc ?tv; (case ta => k_is); (case tl => k_is); (case th => exact rfl); (case tc => k_is); (case tv => exact rfl)))
    (case t_end_worths => (refine' My.tabOf ?ta ?tl ?th ?tc ?tv; (case ta => k_is); (case tl => k_is); (case th => exact rfl); (case tc => k_is); (case tv => exact rfl)))
    (case k_MOST_PLACES => exact ⟨_, by k_is⟩)
    (case k_MOST_BOXES => exact ⟨_, by k_is⟩)
    (case k_MOST_ENDS => exact ⟨_, by k_is⟩)
    (case k_KEEP => exact ⟨_, by k_is⟩)
    (case k_MAKE => exact ⟨_, by k_is⟩)
    (case k_STOP => exact ⟨_, by k_is⟩)
    (case k_KINDS => (refine' My.tupC ?ta ?tl ?tz ?tv; (case ta => k_is); (case tl => k_is); (case tz => decide); (case tv => exact (.cons ⟨_, rfl⟩ (.cons ⟨_, rfl⟩ (.cons ⟨_, rfl⟩ (.cons ⟨_, rfl⟩ (.cons ⟨_, rfl⟩ (.cons ⟨_, rfl⟩ (.cons ⟨_, rfl⟩ (.cons ⟨_, rfl⟩ (.cons ⟨_, rfl⟩ (.cons ⟨_, rfl⟩ (.cons ⟨_, rfl⟩ (.cons ⟨_, rfl⟩ (.cons ⟨_, rfl⟩ .nil))))))))))))))))
    (case k_SETTLING => k_is)
    (case q_SETTLING => (refine' My.ktab ?dl ?dk ?dw ?db; (case dl => k_is); (case dk => exact ⟨⟨_, _, rfl, rfl⟩, ⟨_, _, rfl, rfl⟩, ⟨_, _, rfl, rfl⟩, ⟨_, _, rfl, rfl⟩, ⟨_, _, rfl, rfl⟩, ⟨_, _, rfl, rfl⟩, trivial⟩); (case dw => decide); (case db => kernel_rfl)))
    (case z_len => k_is)
    (case z_abs => k_is)
    (case z_repr => k_is)
    (case z_int => k_is)
    (case z_tuple => k_is)
    (case z_list => k_is)
    (case z_type => k_is)
    (case z_max => k_is)
    (case z_min => k_is)
    (case z_all => k_is)
    (case z_range => k_is)
    (case z_enumerate => k_is)
    (case z_zip => k_is)
    (case z_str => k_is)
    (case z_divmod => k_is)
    case hT =>
      intro p hp
      simp only [List.mem_cons, List.not_mem_nil, or_false] at hp
      rcases hp with rfl | rfl
      · (refine' htab "are_wires" _ _ _ rfl (My.tabOf ?ta ?tl ?th ?tc ?tv); (case ta => k_is); (case tl => k_is); (case th => exact rfl); (case tc => k_is); (case tv => exact rfl))
      · (refine' htab "end_worths" _ _ _ rfl (My.tabOf ?ta ?tl ?th ?tc ?tv); (case ta => k_is); (case tl => k_is); (case th => exact rfl); (case tc => k_is); (case tv => exact rfl))
    case nT =>
      intro p hp
      simp only [List.mem_cons, List.not_mem_nil, or_false] at hp
      rcases hp with rfl | rfl
      · kernel_rfl
      · kernel_rfl
    (case ne => (intro q hq P hP; first | (exfalso; simp [Kx.ct] at hq; done) | (exfalso; simp [Kx.ct] at hP; done) | (simp only [Kx.ct, List.mem_cons, List.not_mem_nil, or_false] at hq hP; (try subst hq); (try subst hP); first | decide | (rcases hq with rfl | rfl <;> (try rcases hP with rfl | rfl) <;> decide))))
    (case nt => (intro p hp q hq e; first | (exfalso; simp [Kx.ct] at hp; done) | (simp only [Kx.ct, List.mem_cons, List.not_mem_nil, or_false] at hp hq; first | (subst hp; subst hq; rfl) | (rcases hp with rfl | rfl <;> rcases hq with rfl | rfl <;> first | rfl | exact absurd e (by decide)))))

