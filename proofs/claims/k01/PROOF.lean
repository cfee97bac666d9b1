import PyProof.Rows.All
import Wide.All
import OpenK.AllK
import Wide.FinOn
import PyProof.EqAt
import PyProof.EqKinds
import PyProof.TupleCall
import HandS.ForMost
import HandS.ForExc
import HandS.Wide
import HandS.Gcd
import HandS.ExcIs
import HandS.ExcBuiltin
import HandS.RaiseMore
import HandS.Codes
import PySem.Challenge.RW_everystart_k01_whole_fractions_in_lowest
set_option Elab.async false
set_option linter.all false
set_option maxRecDepth 100000
set_option exponentiation.threshold 3000
namespace Ev
open PySem PySem.Spec PyProof.Rows L2

/-! ### promises of defs that run where nothing is being shown (the list of guards is known to be empty) -/
structure FnG (P : Program) (w : World) (K : PySem.W.Frag) (mg : Str → Option Value) (base : Heap) (CX : CXT) (k : Nat)
    (f : Addr) (fd : FuncData) (ps : List Str) (sp : Sp) : Prop where
  len : ∀ vs H Q E, sp vs H Q E → vs.length = ps.length
  run : ∀ (A : Around), A.guards = some [] → ∀ (outer : List Env) (s : Shared) (H : Hp) (args : Args) (us : List Value) (vs : List V)
    (Q : VK) (E : XK), Room k A → Env0 P w K mg base A outer s H → BindsTo s fd args (ps.zip us) → Vals vs us → sp vs H Q E →
    codeAny (model P w) A (.call (.ref f) args) (CR CX outer P w H s Q E) s

theorem FnG.of {P : Program} {w : World} {K : PySem.W.Frag} {mg : Str → Option Value} {base : Heap} {CX : CXT} {k : Nat}
    {f : Addr} {fd : FuncData} {ps : List Str} {sp : Sp} (F : FnOk P w K mg base CX k f fd ps sp) : FnG P w K mg base CX k f fd ps sp :=
  ⟨F.len, fun A _ outer s H args us vs Q E hr he hb hv hs => F.run A outer s H args us vs Q E hr he hb hv hs⟩

section
variable {P : Program} {w : World} {K : PySem.W.Frag} {mg : Str → Option Value} {base : Heap}
theorem okG {x qual : Str} {st : Stmt} {f : Addr} {fd : FuncData} {N ps : List Str} {k : Nat} {sp : Sp}
    (F : Fun K x qual st f fd) (S : FnScope N ps (defScope st)) (len : ∀ vs H Q E, sp vs H Q E → vs.length = ps.length)
    (hbody : ∀ (cdv : Value) (A : Around) (outer : List Env) (s : Shared) (H : Hp) (vs : List V) (Q : VK) (E : XK), A.guards = some [] →
      Room k (A.deeper (envOfC qual (defScope st) s.heap.objs.size f cdv)) → sp vs H Q E →
      ∃ t, PSs (cxOf CX0 P w K mg base N qual (defScope st) f cdv A outer s H E).nox (defBody st) t ∧
        t { nx := fun _ H' => Q .non H', rt := Q } (start N vs) H) : FnG P w K mg base CX0 (k + 1) f fd ps sp := by
  obtain ⟨c1, c2, c3, c4, c5, c6, c7, c8, c9, rfl, lk, hcd⟩ := F.ex
  refine ⟨len, fun A hA outer s H args us vs Q E hr e0 hb r hsp => ?_⟩
  have long := len _ _ _ _ hsp
  have stays := e0.mod.kin.keeps (h' := s.heap) fun b o e => And.left (e0.bs b o e)
  have free := e0.mod.nolimit.keeps (h' := s.heap) fun b o e => And.left (e0.bs b o e)
  refine codeAny_call_function hr.depth (stays _ _ lk) rfl S.co S.gen rfl (PySem.W.codeRec_of stays hcd) (hb _ _ _ _ ?_)
  refine wpAny_newFunctionEnv_cells S.kind (fun y hy => ?_) fun env he s1 x => ?_
  · obtain ⟨n, v⟩ := y
    exact (S.par n (List.of_mem_zip hy).1).elim .inl fun q => .inr ⟨q, PySem.W.cellsFrom_some _ _ _ (.inl q)⟩
  cases he
  refine ⟨free.keeps x.toInCall.keep, codeAny_func ?_⟩
  obtain ⟨t, ht, hq⟩ := hbody c7 A outer s H vs Q E hA (hr.deeper _) hsp
  have J := inv_start (CX := CX0) (E := E) S hr.hd e0 long r x
  refine wpAny_mono (ht.nox.run [] s1 (start N vs) H _ J hq) (fun fl s' hs => ?_) (fun _ _ z => z)
  match fl, hs with
  | .ret u, ⟨v, σ', H', J', rv, q⟩ => exact ⟨v, H', J'.os, J'.bare, J'.base, J'.hok, rv, q⟩
  | .next, ⟨σ', H', J', q⟩ => exact ⟨V.non, H', J'.os, J'.bare, J'.base, J'.hok, rfl, q⟩
  | .brk, ⟨_, _, _, q⟩ => exact q.elim
  | .cont, ⟨_, _, _, q⟩ => exact q.elim
end

section
variable {X : Cx} {CX : CXT} {k : Nat} {f : Addr} {fd : FuncData} {ps : List Str} {ds : List Value} {dvs : List V} {sp : Sp} {E : XK}
  {x : Str} {p pos : Pos} {e : Expr} {es : List Expr} {t : TA}
theorem runG {pins : List (Addr × Obj)} {σ : L2.St} {H : Hp} {s : Shared} {Q : VK} {us : List Value} {vs : List V}
    (F : FnG X.prog X.w X.K X.mg X.base CX k f fd ps sp) (hG : X.A.guards = some []) (hr : Room k X.A) (hb : Binds X.K fd ps [])
    (hx : Passes CX X E) (I : Inv X pins σ H s) (r : Vals vs us) (h : sp vs H Q E) :
    wpAny (model X.prog X.w) X.A (call (.ref f) us) (EP X pins σ Q) X.xe s := by
  have hl : us.length = ps.length := r.length.symm.trans (F.len _ _ _ _ h)
  have b := hb s us I.kIn (by rw [List.append_nil]; exact hl)
  rw [List.append_nil] at b
  have z := F.run X.A hG X.stack s H ⟨us, []⟩ us vs Q E hr I.env0 b r h
  refine wpAny_call (codeAny_mono z fun o s' hq => ?_)
  match o, hq with
  | .error e, hq => exact hx pins σ H s e s' I hq
  | .ok (.ret u), hq => exact I.after hq
  | .ok .next, hq => exact hq.elim
  | .ok .brk, hq => exact hq.elim
  | .ok .cont, hq => exact hq.elim
theorem pe_callG (F : FnG X.prog X.w X.K X.mg X.base CX k f fd ps sp) (hG : X.A.guards = some []) (hr : Room k X.A) (hg : Gl X x)
    (hm : X.mg x = some (.ref f)) (hk : PySem.W.keepIn X.K (.ref f) = true) (hb : Binds X.K fd ps []) (hx : Passes CX X E)
    (ha : PA X (e :: es) t) (hdb : (x == ("__debug__" : Str)) = false := by decide)
    (he : starEach (e :: es) X.env = (false, eval e X.env) :: starEach es X.env := by rfl)
    (hpl : (backTo pos (starEach es X.env)).any (·.1) = false := by rfl) :
    PE X (.Call (.Name x p) (e :: es) [] pos) (fun σ H Q => t σ H fun vs H1 => sp vs H1 Q E) := by
  refine ⟨fun pins s σ H Q I h => wpAny_Call_Name_kw (ld_glob I hg hm ?_ hdb)⟩
  refine PySem.W.callWith_K (h₀ := X.base) I.ok.mod.kin hk (thn (ha.run pos pins s σ H _ I h) ?_) he hpl
  exact fun us s1 ⟨vs, H1, I1, r, q⟩ => ⟨I1.kIn, runG F hG hr hb hx I1 r q⟩
/-- how a call by keywords alone binds: the i-th parameter gets the keyword's value at place pm[i] -/
structure KB0 (K : PySem.W.Frag) (fd : FuncData) (ps ks : List Str) (pm : List Nat) : Prop where
  to : ∀ (s : Shared) (ws : List Value), K.In s.heap → ws.length = ks.length →
    BindsTo s fd ⟨[], ks.zip ws⟩ (ps.zip (pm.map fun i => ws.getD i Value.none))
def putV (pm : List Nat) (zs : List V) : List V := pm.map fun i => zs.getD i V.non
theorem relPut {zs : List V} {ws : List Value} (r : Vals zs ws) : ∀ pm : List Nat, Vals (putV pm zs) (pm.map fun i => ws.getD i Value.none)
  | [] => .nil
  | i :: pm => by
    refine .cons ?_ (relPut r pm)
    show L2.RelV (zs.getD i V.non) (ws.getD i Value.none)
    cases e : zs[i]? with
    | none =>
      have e2 := r.none_of e
      rw [List.getD_eq_getElem?_getD, List.getD_eq_getElem?_getD, e, e2]
      rfl
    | some z =>
      obtain ⟨u, e2, q⟩ := r.get e
      rw [List.getD_eq_getElem?_getD, List.getD_eq_getElem?_getD, e, e2]
      exact q
/-- f(k = v, ..), keywords alone; what is raised is wished for at the slots -/
theorem pe_callK0S {ks : List Str} {kws : List Keyword} {tk : TA} {pm : List Nat} {ES : L2.St → XK}
    (F : FnOk X.prog X.w X.K X.mg X.base CX k f fd ps sp) (hr : Room k X.A) (hg : Gl X x) (hm : X.mg x = some (.ref f))
    (hk : PySem.W.keepIn X.K (.ref f) = true) (hb : KB0 X.K fd ps ks pm) (hx : ∀ σ, PassesAt CX X σ (ES σ)) (hkw : PK X kws tk)
    (hall : (backToKw pos (keywordEach kws X.env)).all (·.1.isSome) = true := by rfl)
    (hks : (backToKw pos (keywordEach kws X.env)).filterMap (·.1) = ks := by rfl) (hdb : (x == ("__debug__" : Str)) = false := by decide)
    (hpl : ((backTo pos (starEach [] X.env)).any (·.1) || (backToKw pos (keywordEach kws X.env)).any (·.1.isNone)) = false := by rfl) :
    PE X (.Call (.Name x p) [] kws pos) (fun σ H Q => tk σ H fun zs H1 => zs.length = ks.length ∧ sp (putV pm zs) H1 Q (ES σ)) := by
  refine ⟨fun pins s σ H Q I h => wpAny_Call_Name_kw (ld_glob I hg hm ?_ hdb)⟩
  refine PySem.W.callWith_KW0 (h₀ := X.base) I.ok.mod.kin hk hall (thn (hkw.run pos pins s σ H _ I h) ?_) hpl
  intro ws s2 ⟨zs, H2, I2, rz, l2, q2⟩
  refine ⟨I2.kIn, ?_⟩
  rw [hks]
  have z := F.run X.A X.stack s2 H2 ⟨[], ks.zip ws⟩ _ (putV pm zs) Q (ES σ) hr I2.env0 (hb.to s2 ws I2.kIn (rz.length.symm.trans l2)) (relPut rz pm) q2
  refine wpAny_call (codeAny_mono z fun o s' hq => ?_)
  match o, hq with
  | .error e, hq => exact hx σ pins H2 s2 e s' I2 hq
  | .ok (.ret u), hq => exact I2.after hq
  | .ok .next, hq => exact hq.elim
  | .ok .brk, hq => exact hq.elim
  | .ok .cont, hq => exact hq.elim
theorem passC (hx : Passes CX X E) (σ : L2.St) : PassesAt CX X σ E := fun pins H s e s' I c => hx pins σ H s e s' I c
/-- f(k = v, ..), keywords alone -/
theorem pe_callK0 {ks : List Str} {kws : List Keyword} {tk : TA} {pm : List Nat}
    (F : FnOk X.prog X.w X.K X.mg X.base CX k f fd ps sp) (hr : Room k X.A) (hg : Gl X x) (hm : X.mg x = some (.ref f))
    (hk : PySem.W.keepIn X.K (.ref f) = true) (hb : KB0 X.K fd ps ks pm) (hx : Passes CX X E) (hkw : PK X kws tk)
    (hall : (backToKw pos (keywordEach kws X.env)).all (·.1.isSome) = true := by rfl)
    (hks : (backToKw pos (keywordEach kws X.env)).filterMap (·.1) = ks := by rfl) (hdb : (x == ("__debug__" : Str)) = false := by decide)
    (hpl : ((backTo pos (starEach [] X.env)).any (·.1) || (backToKw pos (keywordEach kws X.env)).any (·.1.isNone)) = false := by rfl) :
    PE X (.Call (.Name x p) [] kws pos) (fun σ H Q => tk σ H fun zs H1 => zs.length = ks.length ∧ sp (putV pm zs) H1 Q E) :=
  pe_callK0S (ES := fun _ => E) F hr hg hm hk hb (passC hx) hkw hall hks hdb hpl
/-- X(), an own class of exceptions without __init__ -/
theorem pmk_own0 {C : Addr} {bmB : List Value} {B newId initId : String} (F : ExcBaseFacts B newId initId bmB)
    (q : PySem.W.excIn X.K C bmB newId = true) (gC : X.mg x = some (.ref C)) (kC : PySem.W.keepIn X.K (.ref C) = true)
    (r : Raises X (.ref C)) (hg : Gl X x) (hdb : (x == ("__debug__" : Str)) = false := by decide) :
    PMk X (.Call (.Name x p) [] [] pos) (fun _ H Q => Q (.ref C) none H) := by
  intro pins s σ H Q I h
  refine wpAny_Call_Name_kw (ld_glob I hg gC ?_ hdb)
  refine PySem.W.callWith_K0 I.kIn kC ?_
  show wpAny _ _ (call (.ref C) []) _ _ _
  obtain ⟨bm, N, nm, qn, bs, hdct, sn, sub, ab, col, dd, k0, k1, k2, k3, k5, mN, hC, hN, hni, T⟩ := exc_obj I.kIn q
  exact wpAny_call_exc_subT F T hC hN hni (fun h' e hm => mk_of I hm r h (I.hok.gone hm.new)) (Nat.zero_le _)
end

/-- // by a divisor of either sign, below 2 ^ 9000 in size -/
def CDivZ (_ j : Int) : Prop := j ≠ 0 ∧ j.natAbs.log2 < 9000
theorem op_fdivZ {X : Cx} : OpR X (binaryOp .FloorDiv) (rI CDivZ fun i j => .int (i.fdiv j)) :=
  opI fun _ _ _ _ _ _ _ hc q => floordiv_int hc.1 q (.inl (PyProof.noPylong_of_log2 hc.2))
/-- isinstance(e, c) where the class of what the suite holds is told by the reading -/
theorem call_isE2 {X : Cx} {a D : Addr} {oe : Obj} {pn : List (Addr × Obj)} {cls : Value} {d : Option Addr} (C : ExcC X.K D) (hz : Zc cls d oe)
    (hf : ∃ vs, oe.data = .fields vs) : CallR (X.suite a ((a, oe) :: pn)) (.builtin "isinstance")
      (fun xs H Q => cls = .ref D ∧ d = none ∧ rIsE X.K D a xs H Q) := by
  intro pins s σ H xs us Q I r h
  obtain ⟨h1, h2, q⟩ := h
  subst h1; subst h2
  exact call_isE C hz hf pins s σ H xs us Q I r q

/-! ### the end of a law, by such a promise -/
theorem law_callG {P : Program} {w : World} {K : PySem.W.Frag} {mg mb : Str → Option Value} {k : Nat} {fa a : Addr} {fd : FuncData}
    {x : Str} {sp : Sp} {s₁ : Shared} {vs : List Value} {ns : List Int} (KX : K.In s₁.heap) (hns : s₁.heap.Ns mainGlobals mg)
    (hb : s₁.heap.Ns builtinsNs mb) (hbb : ∀ x : Str, x ≠ "__name__" → mb x = bootBuiltins x) (hlim : s₁.heap.NoLimit) (hg : s₁.gens = #[])
    (ha : s₁.heap.get? a = some { cls := .type "list", data := .seq vs.toArray }) (hi : IntsAre vs ns) (hl : ns.length ≤ sizeLine)
    (hr : Room k callerA) (F : ∀ base : Heap, K.In base → base.Ns mainGlobals mg → FnG P w K mg base CX0 k fa fd [x] sp)
    (hbind : ∀ (s : Shared) (u : Value), BindsTo s fd ⟨[u], []⟩ [(x, u)])
    (hsp : ∀ H : Hp, Only H → SqL K H a (ns.map V.int) → sp [.ref a] H (fun v _ => v = .bl true) fun _ _ _ => False) :
    codeAny (model P w) callerA (.call (.ref fa) ⟨[.ref a], []⟩)
      (fun r s' => r = .ok (.ret (.bool true)) ∧ OldK s₁.heap s'.heap ∧ s'.os = s₁.os ∧ AllBare s'.gens) s₁ := by
  have rv := vals_ints hi
  have lenV := hi.length
  have core : ∀ H : Hp, Only H → SqL K H a (ns.map V.int) → HOk P w H s₁.heap → (∀ b, H b ≠ none → b = a) →
      (H a ≠ none → K.lookup a = none) → codeAny (model P w) callerA (.call (.ref fa) ⟨[.ref a], []⟩)
      (fun r s' => r = .ok (.ret (.bool true)) ∧ OldK s₁.heap s'.heap ∧ s'.os = s₁.os ∧ AllBare s'.gens) s₁ := by
    intro H hO hS hok hA hK
    have away : ∀ {b : Addr} {o : Obj} {es : Array DictEntry} {ep : Nat}, s₁.heap.get? b = some o → o.data = .dict es ep → H b = none := by
      intro b o es ep e d
      cases q : H b with
      | none => rfl
      | some u =>
        have e' : b = a := hA b (fun z => by rw [q] at z; cases z)
        rw [e', ha] at e
        cases e
        exact nomatch (show Data.seq vs.toArray _ = Data.dict es ep from d)
    have nsK : ∀ {b : Addr} {m : Str → Option Value}, s₁.heap.Ns b m → (hidT s₁.heap H).Ns b m := by
      intro b m z
      obtain ⟨o, es, ep, e, d, r⟩ := z
      exact ⟨o, es, ep, hidT_get e (away e d), d, r⟩
    have hKb : K.In (hidT s₁.heap H) := by
      intro b o e
      refine hidT_get (KX b o e) ?_
      cases q : H b with
      | none => rfl
      | some u =>
        have e' : b = a := hA b (fun z => by rw [q] at z; cases z)
        subst e'
        rw [hK (fun z => by rw [q] at z; cases z)] at e
        cases e
    obtain ⟨mc, l1, l2⟩ := hlim
    have hM : Mod K mg (hidT s₁.heap H) := ⟨hKb, nsK hns, ⟨mb, nsK hb, hbb⟩, mc, nsK l1, l2⟩
    have e0 : Env0 P w K mg (hidT s₁.heap H) callerA [] s₁ H :=
      ⟨rfl, hM, fun b o e => of_hidT e, Nat.le_of_eq (hidT_size _ _), trivial, fun b hb => (nomatch hb), hok, .of_eq hg⟩
    have main := (F _ hKb (nsK hns)).run callerA rfl [] s₁ H ⟨[.ref a], []⟩ [.ref a] [.ref a] _ _ hr e0 (hbind s₁ (.ref a)) (.cons rfl .nil) (hsp H hO hS)
    refine codeAny_mono main fun r s' h => ?_
    match r, h with
    | .error e, h => exact h.elim
    | .ok .next, h => exact h.elim
    | .ok .brk, h => exact h.elim
    | .ok .cont, h => exact h.elim
    | .ok (.ret u), ⟨v, H', os, bare, un, hok', r', q⟩ =>
      have q' : v = .bl true := q
      subst q'
      have eu : u = Value.bool true := r'
      subst eu
      refine ⟨rfl, OldK.of_keep fun b o e => ?_, os, bare⟩
      cases q : H b with
      | none => exact un.keep b o e q (fun z => nomatch z) (fun z => nomatch z)
      | some u =>
        rcases hO b with z | ⟨ob, xs, z⟩
        · rw [q] at z; cases z
        · have e1 := (hok b _ z).1
          have e2 := (hok' b _ (un.frzs b ob _ z)).1
          rw [e] at e1; cases e1
          exact e2
  cases hk : K.lookup a with
  | some o =>
    have e := KX a o hk
    rw [ha] at e
    cases e
    refine core (fun _ => none) (fun _ => .inl rfl) ?_ (fun b u z => nomatch z) (fun b z => absurd rfl z) fun z => absurd rfl z
    exact .inr ⟨_, vs.toArray, _, hk, rfl, rfl, rfl, by rw [List.size_toArray, lenV]; exact hl, by simpa using rv⟩
  | none =>
    have yes : (if a = a then some (HO.frz { cls := .type "list", data := .seq vs.toArray } (.lst (ns.map V.int))) else none) =
        some (HO.frz { cls := .type "list", data := .seq vs.toArray } (.lst (ns.map V.int))) := if_pos rfl
    refine core (fun b => if b = a then some (.frz { cls := .type "list", data := .seq vs.toArray } (.lst (ns.map V.int))) else none)
      (fun b => ?_) (.inl (.inr ⟨_, yes⟩)) (fun b u z => ?_) (fun b z => ?_) fun _ => hk
    · by_cases hb : b = a
      · exact .inr ⟨_, _, if_pos hb⟩
      · exact .inl (if_neg hb)
    · by_cases hb : b = a
      · cases (if_pos hb).symm.trans z
        subst hb
        exact ⟨ha, by rw [List.length_map]; exact hl, vs, _, rv, ha⟩
      · cases (if_neg hb).symm.trans z
    · by_cases hb : b = a
      · exact hb
      · exact absurd (if_neg hb) z

theorem walk_ofG {l : PySem.W.OpenLaw} {n k : Nat} {q : Program} {loose : List Str} {XP : (Str → Option Value) → Heap → Prop}
    {YP : World → Heap → Prop} {d : DefRec} {K : Params → PySem.W.Frag} {sp : World → Sp} {x : Str}
    (hn : l.most = some n) (hn2 : n ≤ sizeLine) (hdf : d.params.defaults = []) (hr : Room k callerA)
    (hY : ∀ (w : World) (h : Heap), YP w h → (K w.params).In h)
    (F : ∀ (w : World) (mg : Str → Option Value) (fa : Addr) (h : Heap), (K w.params).In h → h.Ns mainGlobals mg → mg d.name = some (.ref fa) →
      ∃ fd : FuncData, (∀ (s : Shared) (u : Value), BindsTo s fd ⟨[u], []⟩ [(x, u)]) ∧
        ∀ base : Heap, (K w.params).In base → base.Ns mainGlobals mg → FnG l.prog w (K w.params) mg base CX0 k fa fd [x] (sp w))
    (hsp : ∀ (w : World) (H : Hp) (a : Addr) (ns : List Int), ns.length ≤ n → Only H → SqL (K w.params) H a (ns.map V.int) →
      sp w [.ref a] H (fun v _ => v = .bl true) fun _ _ _ => False) :
    PySem.W.WalkO q loose XP YP l.row.toRowW d [] (fun f vs => PySem.call f vs) := by
  refine Att.attach_call hn hdf fun w s₀ s₁ mg mb fa o pm cd doc a vs ns G Y ho hd hcd hmg hobj hints hlen hg => ?_
  obtain ⟨fd, hb, hF⟩ := F w mg fa _ (hY w _ Y) G.T.g hmg
  exact law_callG (hY w _ Y) G.T.g G.T.b G.T.builtins G.T.nolimit hg hobj hints (Nat.le_trans hlen hn2) hr hF hb fun H hO hS => hsp w H a ns hlen hO hS

/-! ### repr of what is nested -/
mutual
/-- shown by repr within the line, no dicts -/
def fits : PyData → Bool
  | .none => true
  | .bool _ => true
  | .int i => decide (i.natAbs.log2 < 1920)
  | .str x => x.cps.toList.all fun c => decide (c < 16 ^ 8)
  | .list xs => fitsAll xs
  | .tuple xs => fitsAll xs
  | .dict _ => false
def fitsAll : List PyData → Bool
  | [] => true
  | x :: xs => fits x && fitsAll xs
end
mutual
theorem fits_to : ∀ d : PyData, fits d = true → d.showable = true ∧ d.hasDict = false ∧ d.leavesShort 1921 = true
  | .none, _ => ⟨rfl, rfl, rfl⟩
  | .bool _, _ => ⟨rfl, rfl, rfl⟩
  | .int i, h => by
    have h' : i.natAbs.log2 < 1920 := by simpa only [fits, decide_eq_true_eq] using h
    refine ⟨by simpa only [PyData.showable, decide_eq_true_eq] using h', rfl, ?_⟩
    have e := int_text_length_le (k := 1920) (by decide) h'
    simp only [PyData.leavesShort, decide_eq_true_eq]
    show (Str.ofString (toString i)).length ≤ 1921
    rw [PySem.ofString_length]
    exact e
  | .str x, h => ⟨rfl, rfl, by simpa only [fits, PyData.leavesShort] using h⟩
  | .list xs, h => by
    have z := fitsAll_to xs (by simpa only [fits] using h)
    exact ⟨by simpa only [PyData.showable] using z.1, by simpa only [PyData.hasDict] using z.2.1, by simpa only [PyData.leavesShort] using z.2.2⟩
  | .tuple xs, h => by
    have z := fitsAll_to xs (by simpa only [fits] using h)
    exact ⟨by simpa only [PyData.showable] using z.1, by simpa only [PyData.hasDict] using z.2.1, by simpa only [PyData.leavesShort] using z.2.2⟩
  | .dict _, h => by simp [fits] at h
theorem fitsAll_to : ∀ xs : List PyData, fitsAll xs = true → PyData.showableAll xs = true ∧ PyData.hasDictAll xs = false ∧ PyData.leavesShortAll 1921 xs = true
  | [], _ => ⟨rfl, rfl, rfl⟩
  | x :: xs, h => by
    have h' : fits x = true ∧ fitsAll xs = true := by simpa only [fitsAll, Bool.and_eq_true] using h
    have a := fits_to x h'.1
    have b := fitsAll_to xs h'.2
    refine ⟨?_, ?_, ?_⟩
    · simp only [PyData.showableAll, a.1, b.1, Bool.and_self]
    · simp only [PyData.hasDictAll, a.2.1, b.2.1, Bool.or_self]
    · simp only [PyData.leavesShortAll, a.2.2, b.2.2, Bool.and_self]
end
mutual
/-- how many leaves and displays (a text: one more than its signs) -/
def sz : PyData → Nat
  | .none => 1
  | .bool _ => 1
  | .int _ => 1
  | .str x => x.length + 1
  | .list xs => szAll xs + 1
  | .tuple xs => szAll xs + 1
  | .dict _ => 1
def szAll : List PyData → Nat
  | [] => 0
  | x :: xs => sz x + szAll xs
end
mutual
theorem shown_sz : ∀ d : PyData, fits d = true → d.shown.length + 2 ≤ 1930 * sz d
  | .none, _ => by
    have e : (PyData.shown .none).length = 4 := rfl
    simp only [sz]
    omega
  | .bool b, _ => by
    have e : (PyData.shown (.bool b)).length ≤ 5 := by cases b <;> decide
    simp only [sz]
    omega
  | .int i, h => by
    have h' : i.natAbs.log2 < 1920 := by simpa only [fits, decide_eq_true_eq] using h
    have e := int_text_length_le (k := 1920) (by decide) h'
    have e2 : (PyData.shown (.int i)).length ≤ 1921 := by
      show (Str.ofString (toString i)).length ≤ 1921
      rw [PySem.ofString_length]
      exact e
    simp only [sz]
    omega
  | .str x, h => by
    have hx : ∀ c ∈ x.cps.toList, c < 16 ^ 8 := by simpa only [fits, List.all_eq_true, decide_eq_true_eq] using h
    have e := StrLaws.reprText_len x hx
    have e2 : (PyData.shown (.str x)).length = (reprText x).length := rfl
    simp only [sz]
    omega
  | .list xs, h => by
    have h1 := shownAll_sz xs (by simpa only [fits] using h)
    have h2 := listText_len_le (PyData.shownAll xs)
    have h3 := PyData.shownAll_length xs
    simp only [PyData.shown, sz]
    omega
  | .tuple xs, h => by
    have h1 := shownAll_sz xs (by simpa only [fits] using h)
    have h2 := tupleText_len_le (PyData.shownAll xs)
    have h3 := PyData.shownAll_length xs
    simp only [PyData.shown, sz]
    omega
  | .dict _, h => by simp [fits] at h
theorem shownAll_sz : ∀ xs : List PyData, fitsAll xs = true → ((PyData.shownAll xs).map (·.length)).sum + 2 * xs.length ≤ 1930 * szAll xs
  | [], _ => by simp [PyData.shownAll, szAll]
  | x :: xs, h => by
    have h' : fits x = true ∧ fitsAll xs = true := by simpa only [fitsAll, Bool.and_eq_true] using h
    have h1 := shown_sz x h'.1
    have h2 := shownAll_sz xs h'.2
    simp only [PyData.shownAll, szAll, List.map_cons, List.sum_cons, List.length_cons]
    omega
end
theorem fits_len {d : PyData} (h : fits d = true) (hw : sz d ≤ 8000) : d.shown.length ≤ sizeLine := by
  have e := shown_sz d h
  rw [sizeLine_eq]
  omega
section
variable {X : Cx}
/-- repr(x), x a list or a tuple of plain data -/
def rRepr (K : PySem.W.Frag) : List V → Hp → VK → Prop := fun vs H Q =>
  ∃ (a : Addr) (d : PyData), vs = [.ref a] ∧ Dp K H (.ref a) d ∧ fits d = true ∧ sz d ≤ 8000 ∧ d.depth ≤ 60 ∧ Q (.str d.shown) H
theorem call_repr (hG : X.A.guards = some []) (hu : X.A.units + 64 < cLine) : CallR X (.builtin "repr") (rRepr X.K) := by
  intro pins s σ H vs us Q I r h
  obtain ⟨a, d, rfl, hd, hf, hw, hdep, q⟩ := h
  obtain ⟨u, rfl, ru⟩ := vals1 r
  cases ru
  obtain ⟨as, rd⟩ := Dp.reads I d _ _ hd rfl
  have f := fits_to d hf
  refine repr_of_reads' rd f.1 (PyData.noDict_hsm f.2.1) hG (by omega) (fun _ _ e => e) (fun h' u tk hk => ?_) (fits_len hf hw)
  exact ⟨.str d.shown, H, I.kept hk, ⟨_, rfl⟩, q⟩
end
/-! ### data of ints -/
theorem dpAll_ints {K : PySem.W.Frag} {H : Hp} : ∀ fs : List Int, DpAll K H (fs.map V.int) (fs.map PyData.int)
  | [] => .nil
  | f :: fs => .cons (.int f) (dpAll_ints fs)
theorem canLay_ints : ∀ fs : List Int, PyData.canLayAll0 (fs.map PyData.int) = true
  | [] => rfl
  | f :: fs => by
    simp only [List.map_cons, PyData.canLayAll0, PyData.canLay0, canLay_ints fs, Bool.and_self]
theorem depth_ints : ∀ fs : List Int, PyData.depthAll (fs.map PyData.int) = 0
  | [] => rfl
  | f :: fs => by
    simp only [List.map_cons, PyData.depthAll, PyData.depth, depth_ints fs, Nat.max_self]
theorem shaped_ints (fs : List Int) : SeqAt.shaped (.list (fs.map PyData.int)) = true := by
  simp only [SeqAt.shaped, PyData.canLay0, canLay_ints, PyData.depth, depth_ints]
  decide
theorem shaped_intsT (fs : List Int) : SeqAt.shaped (.tuple (fs.map PyData.int)) = true := by
  simp only [SeqAt.shaped, PyData.canLay0, canLay_ints, PyData.depth, depth_ints]
  decide
theorem eqv_ints_nil : ∀ fs : List Int, PyData.eqv (.list (fs.map PyData.int)) (.list []) = fs.isEmpty
  | [] => rfl
  | f :: fs => by
    simp [PyData.eqv, PyData.eqvAll]
theorem snoc_cases {α : Type} (l : List α) : l = [] ∨ ∃ r a, l = r ++ [a] := by
  rcases List.eq_nil_or_concat l with h | ⟨r, a, h⟩
  · exact .inl h
  · exact .inr ⟨r, a, by rw [h, List.concat_eq_append]⟩
theorem vne {a b : V} (e : (!decide (a = b)) = true) : a ≠ b := fun z => by
  rw [decide_eq_true z] at e
  exact absurd e (by decide)
theorem veq {a b : V} (e : ¬ (!decide (a = b)) = true) : a = b := by
  by_cases h : a = b
  · exact h
  · rw [decide_eq_false h] at e
    exact absurd rfl e
theorem vneF {a b : V} (e : ¬ decide (a = b) = true) : a ≠ b := fun z => e (decide_eq_true z)
/-! ### data stay under what is new -/
theorem Same.seqT {K : PySem.W.Frag} {H H' : Hp} {a : Addr} {xs : List V} (e : Same H H') (h : SqT K H a xs) : SqT K H' a xs := by
  rcases h with (h | ⟨o, h⟩) | h
  · exact .inl (.inl (e _ _ h))
  · exact .inl (.inr ⟨o, e _ _ h⟩)
  · exact .inr h
mutual
theorem dp_same {K : PySem.W.Frag} {H H' : Hp} (s : Same H H') : ∀ (d : PyData) (v : V), Dp K H v d → Dp K H' v d
  | .none, _, h => by cases h; exact .non
  | .bool _, _, h => by cases h; exact .bl _
  | .int _, _, h => by cases h; exact .int _
  | .str _, _, h => by cases h; exact .str _
  | .list ds, _, h => by
    cases h with
    | lst a b => exact .lst (s.seq a) (dpAll_same s ds _ b)
  | .tuple ds, _, h => by
    cases h with
    | tup a b => exact .tup (Ev.Same.seqT s a) (dpAll_same s ds _ b)
  | .dict _, _, h => by cases h
theorem dpAll_same {K : PySem.W.Frag} {H H' : Hp} (s : Same H H') : ∀ (ds : List PyData) (vs : List V), DpAll K H vs ds → DpAll K H' vs ds
  | [], _, h => by cases h; exact .nil
  | d :: ds, _, h => by
    cases h with
    | cons a b => exact .cons (dp_same s d _ a) (dpAll_same s ds _ b)
end
theorem nn {c : Prop} [Decidable c] {M N : Prop} (hc : c) (h : N) : if (!decide c) = true then M else N := by
  rw [decide_eq_true hc]
  exact iteF h
end Ev

/-! fractions -/
namespace Ev
def gc (a b : Int) : Nat := Nat.gcd a.natAbs b.natAbs
def dv (a b : Int) : Int := if 0 < b then (gc a b : Int) else -(gc a b : Int)
def fA (a b : Int) : Int := a.fdiv (dv a b)
def fB (a b : Int) : Int := b.fdiv (dv a b)
def Low (x y : Int) : Prop := 0 < y ∧ Nat.gcd x.natAbs y.natAbs = 1
theorem gc_pos {a b : Int} (h : b ≠ 0) : 0 < gc a b := Nat.gcd_pos_of_pos_right _ (by omega)
theorem dv_abs (a b : Int) : (dv a b).natAbs = gc a b := by
  unfold dv
  split <;> omega
theorem dv_ne {a b : Int} (h : b ≠ 0) : dv a b ≠ 0 := by
  have := gc_pos (a := a) h
  have e := dv_abs a b
  omega
theorem dv_dvd_a (a b : Int) : dv a b ∣ a := by
  rw [← Int.natAbs_dvd_natAbs, dv_abs]
  exact Nat.gcd_dvd_left _ _
theorem dv_dvd_b (a b : Int) : dv a b ∣ b := by
  rw [← Int.natAbs_dvd_natAbs, dv_abs]
  exact Nat.gcd_dvd_right _ _
theorem fA_mul {a b : Int} (h : b ≠ 0) : a = dv a b * fA a b := by
  obtain ⟨c, hc⟩ := dv_dvd_a a b
  have e : fA a b = c := by
    have : fA a b = (dv a b * c).fdiv (dv a b) := by rw [← hc]; rfl
    rw [this, Int.mul_fdiv_cancel_left _ (dv_ne h)]
  rw [e]
  exact hc
theorem fB_mul {a b : Int} (h : b ≠ 0) : b = dv a b * fB a b := by
  obtain ⟨c, hc⟩ := dv_dvd_b a b
  have e : fB a b = c := by
    have : fB a b = (dv a b * c).fdiv (dv a b) := by rw [← hc]; rfl
    rw [this, Int.mul_fdiv_cancel_left _ (dv_ne h)]
  rw [e]
  exact hc
theorem fA_le {a b : Int} (h : b ≠ 0) : (fA a b).natAbs ≤ a.natAbs := by
  have e := congrArg Int.natAbs (fA_mul (a := a) h)
  rw [Int.natAbs_mul, dv_abs] at e
  rw [e]
  exact Nat.le_mul_of_pos_left _ (gc_pos h)
theorem fB_le {a b : Int} (h : b ≠ 0) : (fB a b).natAbs ≤ b.natAbs := by
  have e := congrArg Int.natAbs (fB_mul (a := a) h)
  rw [Int.natAbs_mul, dv_abs] at e
  rw [e]
  exact Nat.le_mul_of_pos_left _ (gc_pos h)
theorem low_f {a b : Int} (h : b ≠ 0) : Low (fA a b) (fB a b) := by
  have hp := gc_pos (a := a) h
  refine ⟨?_, ?_⟩
  · have e := fB_mul (a := a) h
    rcases Int.lt_trichotomy 0 b with hb | hb | hb
    · have d : dv a b = (gc a b : Int) := if_pos hb
      rw [d] at e
      rcases Int.lt_trichotomy 0 (fB a b) with z | z | z
      · exact z
      · rw [← z, Int.mul_zero] at e
        exact absurd e h
      · have : (gc a b : Int) * fB a b < 0 := Int.mul_neg_of_pos_of_neg (by omega) z
        omega
    · exact absurd hb.symm h
    · have d : dv a b = -(gc a b : Int) := if_neg (by omega)
      rw [d] at e
      rcases Int.lt_trichotomy 0 (fB a b) with z | z | z
      · exact z
      · rw [← z, Int.mul_zero] at e
        exact absurd e h
      · have : 0 < -(gc a b : Int) * fB a b := Int.mul_pos_of_neg_of_neg (by omega) z
        omega
  · have ea := congrArg Int.natAbs (fA_mul (a := a) h)
    have eb := congrArg Int.natAbs (fB_mul (a := a) h)
    rw [Int.natAbs_mul, dv_abs] at ea eb
    have g : gc a b = Nat.gcd (gc a b * (fA a b).natAbs) (gc a b * (fB a b).natAbs) := by
      conv => lhs; unfold gc; rw [ea, eb]
    rw [Nat.gcd_mul_left] at g
    have : gc a b * 1 = gc a b * Nat.gcd (fA a b).natAbs (fB a b).natAbs := by rw [Nat.mul_one]; exact g
    exact (Nat.eq_of_mul_eq_mul_left hp this).symm
theorem low_inj {x y z u : Int} (h1 : Low x y) (h2 : Low z u) (e : x * u = z * y) : x = z ∧ y = u := by
  obtain ⟨p1, c1⟩ := h1
  obtain ⟨p2, c2⟩ := h2
  have en := congrArg Int.natAbs e
  rw [Int.natAbs_mul, Int.natAbs_mul] at en
  have d1 : y.natAbs ∣ u.natAbs := by
    have : y.natAbs ∣ x.natAbs * u.natAbs := ⟨z.natAbs, by rw [en, Nat.mul_comm]⟩
    exact Nat.Coprime.dvd_of_dvd_mul_left (show Nat.Coprime y.natAbs x.natAbs by rw [Nat.coprime_comm]; exact c1) this
  have d2 : u.natAbs ∣ y.natAbs := by
    have : u.natAbs ∣ z.natAbs * y.natAbs := ⟨x.natAbs, by rw [← en, Nat.mul_comm]⟩
    exact Nat.Coprime.dvd_of_dvd_mul_left (show Nat.Coprime u.natAbs z.natAbs by rw [Nat.coprime_comm]; exact c2) this
  have ey : y = u := by
    have := Nat.dvd_antisymm d1 d2
    omega
  subst ey
  exact ⟨Int.eq_of_mul_eq_mul_right (by omega) e, rfl⟩
end Ev

namespace Ev
open PySem PySem.Spec PyProof.Rows L2
def topS (i : Nat) : Stmt := PySem.Challenge.pw_everystart_k01_whole_fractions_in_lowest.main.body.getD i (.Pass ⟨0, 0, 0, 0⟩)
abbrev s_lowest : Stmt := topS 5
theorem sc_lowest : FnScope ["a", "b", "divisor"] ["a", "b"] (defScope s_lowest) := ⟨rfl, rfl, rfl, by decide +kernel, rfl, by decide +kernel, by decide +kernel⟩
abbrev s_compared : Stmt := topS 6
theorem sc_compared : FnScope ["one", "other", "left", "right"] ["one", "other"] (defScope s_compared) := ⟨rfl, rfl, rfl, by decide +kernel, rfl, by decide +kernel, by decide +kernel⟩
abbrev s_loom : Stmt := topS 8
theorem sc_loom : FnScope ["script", "cell", "cells", "stirred"] ["script"] (defScope s_loom) := ⟨rfl, rfl, rfl, by decide +kernel, rfl, by decide +kernel, by decide +kernel⟩
abbrev s_draw : Stmt := topS 9
theorem sc_draw : FnScope ["loom", "many", "cell", "one"] ["loom", "many"] (defScope s_draw) := ⟨rfl, rfl, rfl, by decide +kernel, rfl, by decide +kernel, by decide +kernel⟩
abbrev s_pick : Stmt := topS 10
theorem sc_pick : FnScope ["loom", "things"] ["loom", "things"] (defScope s_pick) := ⟨rfl, rfl, rfl, by decide +kernel, rfl, by decide +kernel, by decide +kernel⟩
abbrev s_gcd : Stmt := topS 11
theorem sc_gcd : FnScope ["a", "b"] ["a", "b"] (defScope s_gcd) := ⟨rfl, rfl, rfl, by decide +kernel, rfl, by decide +kernel, by decide +kernel⟩
abbrev s_frac : Stmt := topS 12
theorem sc_frac : FnScope ["a", "b", "d"] ["a", "b"] (defScope s_frac) := ⟨rfl, rfl, rfl, by decide +kernel, rfl, by decide +kernel, by decide +kernel⟩
abbrev s_far : Stmt := topS 13
theorem sc_far : FnScope ["loom", "many", "found", "turn"] ["loom", "many"] (defScope s_far) := ⟨rfl, rfl, rfl, by decide +kernel, rfl, by decide +kernel, by decide +kernel⟩
abbrev s_number : Stmt := topS 14
theorem sc_number : FnScope ["loom", "size", "found"] ["loom"] (defScope s_number) := ⟨rfl, rfl, rfl, by decide +kernel, rfl, by decide +kernel, by decide +kernel⟩
abbrev s_told : Stmt := topS 15
theorem sc_told : FnScope ["a", "b", "is_named", "slip"] ["a", "b", "is_named"] (defScope s_told) := ⟨rfl, rfl, rfl, by decide +kernel, rfl, by decide +kernel, by decide +kernel⟩
abbrev s_near : Stmt := topS 16
theorem sc_near : FnScope ["loom", "one", "side"] ["loom", "one"] (defScope s_near) := ⟨rfl, rfl, rfl, by decide +kernel, rfl, by decide +kernel, by decide +kernel⟩
abbrev s_is_compared : Stmt := topS 17
theorem sc_is_compared : FnScope ["one", "other", "is_named", "left", "right", "due", "told"] ["one", "other", "is_named"] (defScope s_is_compared) := ⟨rfl, rfl, rfl, by decide +kernel, rfl, by decide +kernel, by decide +kernel⟩
abbrev s_law : Stmt := topS 18
theorem sc_law : FnScope ["script", "loom", "some", "turn", "a", "b", "shared", "due", "one", "other"] ["script"] (defScope s_law) := ⟨rfl, rfl, rfl, by decide +kernel, rfl, by decide +kernel, by decide +kernel⟩
/-! ### what the loom is: a dict of a list of ints and two ints -/
def ld (F : Addr) (s t : Int) : List (Key × V) := [(Sum.inr "far", .ref F), (Sum.inr "stirred", .int s), (Sum.inr "times", .int t)]
def Lm (H : Hp) (L F : Addr) : Prop := ∃ (fs : List Int) (s t : Int), H L = some (.dK (ld F s t)) ∧ H F = some (.lst (fs.map V.int)) ∧ fs.length ≤ 63
theorem ld_far {F : Addr} {s t : Int} : valV (ld F s t) (Sum.inr "far") = some (.ref F) := rfl
theorem ld_stirred {F : Addr} {s t : Int} : valV (ld F s t) (Sum.inr "stirred") = some (.int s) := rfl
theorem ld_times {F : Addr} {s t : Int} : valV (ld F s t) (Sum.inr "times") = some (.int t) := rfl
theorem ld_len {F : Addr} {s t : Int} : (ld F s t).length < sizeLine := by
  show 3 < sizeLine
  decide
theorem ld_put {F : Addr} {s t u : Int} : putK (ld F s t) (Sum.inr "times") (.int u) = ld F s u := rfl
/-- all but the loom's two objects is as it was -/
def Kp (L F : Addr) (H H' : Hp) : Prop := ∀ b o, b ≠ L → b ≠ F → H b = some o → H' b = some o
theorem Kp.refl {L F : Addr} (H : Hp) : Kp L F H H := fun _ _ _ _ h => h
theorem Kp.trans {L F : Addr} {H H1 H2 : Hp} (a : Kp L F H H1) (b : Kp L F H1 H2) : Kp L F H H2 := fun c o h1 h2 h => b c o h1 h2 (a c o h1 h2 h)
theorem Kp.new {L F p : Addr} {H : Hp} {o : HO} (h : H p = none) : Kp L F H (upd H p o) := fun b u _ _ e => by
  rw [upd_ne (ne_of_none e h)]
  exact e
theorem Kp.updL {L F : Addr} {H : Hp} {o : HO} : Kp L F H (upd H L o) := fun b u h1 _ e => by
  rw [upd_ne h1]
  exact e
theorem Kp.updF {L F : Addr} {H : Hp} {o : HO} : Kp L F H (upd H F o) := fun b u _ h2 e => by
  rw [upd_ne h2]
  exact e
theorem Lm.new {H : Hp} {L F p : Addr} {o : HO} (h : Lm H L F) (hp : H p = none) : Lm (upd H p o) L F := by
  obtain ⟨fs, s, t, h1, h2, h3⟩ := h
  exact ⟨fs, s, t, by rw [upd_ne (ne_of_none h1 hp)]; exact h1, by rw [upd_ne (ne_of_none h2 hp)]; exact h2, h3⟩
structure Txt (K : PySem.W.Frag) (mg : Str → Option Value) (A : Nat → Addr) (D : Nat → FuncData) : Prop where
  z_int : mg "int" = none
  z_len : mg "len" = none
  z_abs : mg "abs" = none
  z_max : mg "max" = none
  z_repr : mg "repr" = none
  range : mg "range" = none
  z_isinstance : mg "isinstance" = none
  z_gcd : mg "gcd" = some (.builtin "math.gcd")
  F_lowest : Fun K "lowest" "lowest" s_lowest (A 0) (D 0)
  g_lowest : mg "lowest" = some (.ref (A 0))
  F_compared : Fun K "compared" "compared" s_compared (A 1) (D 1)
  g_compared : mg "compared" = some (.ref (A 1))
  F_loom : Fun K "_law_loom" "_law_loom" s_loom (A 2) (D 2)
  g_loom : mg "_law_loom" = some (.ref (A 2))
  F_draw : Fun K "_law_draw" "_law_draw" s_draw (A 3) (D 3)
  g_draw : mg "_law_draw" = some (.ref (A 3))
  F_pick : Fun K "_law_pick" "_law_pick" s_pick (A 4) (D 4)
  g_pick : mg "_law_pick" = some (.ref (A 4))
  F_gcd : Fun K "_law_gcd" "_law_gcd" s_gcd (A 5) (D 5)
  g_gcd : mg "_law_gcd" = some (.ref (A 5))
  F_frac : Fun K "_law_frac" "_law_frac" s_frac (A 6) (D 6)
  g_frac : mg "_law_frac" = some (.ref (A 6))
  F_far : Fun K "_law_far" "_law_far" s_far (A 7) (D 7)
  g_far : mg "_law_far" = some (.ref (A 7))
  F_number : Fun K "_law_number" "_law_number" s_number (A 8) (D 8)
  g_number : mg "_law_number" = some (.ref (A 8))
  F_told : Fun K "_law_told" "_law_told" s_told (A 9) (D 9)
  g_told : mg "_law_told" = some (.ref (A 9))
  F_near : Fun K "_law_near" "_law_near" s_near (A 10) (D 10)
  g_near : mg "_law_near" = some (.ref (A 10))
  F_is_compared : Fun K "_law_is_compared" "_law_is_compared" s_is_compared (A 11) (D 11)
  g_is_compared : mg "_law_is_compared" = some (.ref (A 11))
  F_law : Fun K "law" "law" s_law (A 12) (D 12)
  g_law : mg "law" = some (.ref (A 12))
  g_Unfit : mg "Unfit" = some (.ref (A 13))
  g_ThrowError : mg "ThrowError" = some (.ref (A 14))
  xU : PySem.W.excIn K (A 13) [.type "ValueError", .type "Exception", .type "BaseException", .type "object"] "ValueError.__new__" = true
  kU : PySem.W.keepIn K (.ref (A 13)) = true
  bU : PySem.W.subIn K (.ref (A 13)) (.type "BaseException") = some true
  tU : PySem.W.typeIn K (.ref (A 13)) = some (.type "type")
  sU : PySem.W.subIn K (.ref (A 13)) (.ref (A 13)) = some true
  cU : ExcC K (A 13)
  oU : PySem.W.kitOne K (.ref (A 13)) (.ref (A 14)) = some true
section
variable {P : Program} {w : World} {K : PySem.W.Frag} {mg : Str → Option Value} {base : Heap} {A : Nat → Addr} {D : Nat → FuncData}
theorem Txt.k_lowest (T : Txt K mg A D) : PySem.W.keepIn K (.ref (A 0)) = true := T.F_lowest.kp
theorem Txt.b_lowest (T : Txt K mg A D) : Binds K (D 0) ["a", "b"] [] := T.F_lowest.binds fun _ _ _ _ _ _ us hl => match us, hl with | [_, _], _ => rfl
theorem Txt.k_compared (T : Txt K mg A D) : PySem.W.keepIn K (.ref (A 1)) = true := T.F_compared.kp
theorem Txt.b_compared (T : Txt K mg A D) : Binds K (D 1) ["one", "other"] [] := T.F_compared.binds fun _ _ _ _ _ _ us hl => match us, hl with | [_, _], _ => rfl
theorem Txt.k_loom (T : Txt K mg A D) : PySem.W.keepIn K (.ref (A 2)) = true := T.F_loom.kp
theorem Txt.b_loom (T : Txt K mg A D) : Binds K (D 2) ["script"] [] := T.F_loom.binds fun _ _ _ _ _ _ us hl => match us, hl with | [_], _ => rfl
theorem Txt.k_draw (T : Txt K mg A D) : PySem.W.keepIn K (.ref (A 3)) = true := T.F_draw.kp
theorem Txt.b_draw (T : Txt K mg A D) : Binds K (D 3) ["loom", "many"] [] := T.F_draw.binds fun _ _ _ _ _ _ us hl => match us, hl with | [_, _], _ => rfl
theorem Txt.k_pick (T : Txt K mg A D) : PySem.W.keepIn K (.ref (A 4)) = true := T.F_pick.kp
theorem Txt.b_pick (T : Txt K mg A D) : Binds K (D 4) ["loom", "things"] [] := T.F_pick.binds fun _ _ _ _ _ _ us hl => match us, hl with | [_, _], _ => rfl
theorem Txt.k_gcd (T : Txt K mg A D) : PySem.W.keepIn K (.ref (A 5)) = true := T.F_gcd.kp
theorem Txt.b_gcd (T : Txt K mg A D) : Binds K (D 5) ["a", "b"] [] := T.F_gcd.binds fun _ _ _ _ _ _ us hl => match us, hl with | [_, _], _ => rfl
theorem Txt.k_frac (T : Txt K mg A D) : PySem.W.keepIn K (.ref (A 6)) = true := T.F_frac.kp
theorem Txt.b_frac (T : Txt K mg A D) : Binds K (D 6) ["a", "b"] [] := T.F_frac.binds fun _ _ _ _ _ _ us hl => match us, hl with | [_, _], _ => rfl
theorem Txt.k_far (T : Txt K mg A D) : PySem.W.keepIn K (.ref (A 7)) = true := T.F_far.kp
theorem Txt.b_far (T : Txt K mg A D) : Binds K (D 7) ["loom", "many"] [] := T.F_far.binds fun _ _ _ _ _ _ us hl => match us, hl with | [_, _], _ => rfl
theorem Txt.k_number (T : Txt K mg A D) : PySem.W.keepIn K (.ref (A 8)) = true := T.F_number.kp
theorem Txt.b_number (T : Txt K mg A D) : Binds K (D 8) ["loom"] [] := T.F_number.binds fun _ _ _ _ _ _ us hl => match us, hl with | [_], _ => rfl
theorem Txt.k_told (T : Txt K mg A D) : PySem.W.keepIn K (.ref (A 9)) = true := T.F_told.kp
theorem Txt.b_told (T : Txt K mg A D) : Binds K (D 9) ["a", "b", "is_named"] [] := T.F_told.binds fun _ _ _ _ _ _ us hl => match us, hl with | [_, _, _], _ => rfl
theorem Txt.k_near (T : Txt K mg A D) : PySem.W.keepIn K (.ref (A 10)) = true := T.F_near.kp
theorem Txt.b_near (T : Txt K mg A D) : Binds K (D 10) ["loom", "one"] [] := T.F_near.binds fun _ _ _ _ _ _ us hl => match us, hl with | [_, _], _ => rfl
theorem Txt.k_is_compared (T : Txt K mg A D) : PySem.W.keepIn K (.ref (A 11)) = true := T.F_is_compared.kp
theorem Txt.b_is_compared (T : Txt K mg A D) : Binds K (D 11) ["one", "other", "is_named"] [] := T.F_is_compared.binds fun _ _ _ _ _ _ us hl => match us, hl with | [_, _, _], _ => rfl
theorem Txt.k_law (T : Txt K mg A D) : PySem.W.keepIn K (.ref (A 12)) = true := T.F_law.kp
theorem Txt.b_law (T : Txt K mg A D) : Binds K (D 12) ["script"] [] := T.F_law.binds fun _ _ _ _ _ _ us hl => match us, hl with | [_], _ => rfl

/-! ### draw -/
def sp_draw : Sp := fun vs H Q _ => ∃ (L F : Addr) (many : Int), vs = [.ref L, .int many] ∧ Lm H L F ∧ many < 1073741824 ∧
  ∀ (H' : Hp) (k : Int), Kp L F H H' → Lm H' L F → 0 ≤ k → (k < many ∨ k = 0) → Q (.int k) H'
theorem Txt.ok_draw (T : Txt K mg A D) : FnOk P w K mg base CX0 1 (A 3) (D 3) ["loom", "many"] sp_draw := by
  refine T.F_draw.ok sc_draw (fun vs H Q E h => ?_) (fun cdv Ar outer s H vs Q E hr h => ?_)
  · obtain ⟨L, F, many, rfl, _⟩ := h
    rfl
  · obtain ⟨L, F, many, rfl, ⟨fs, s0, t0, hL, hF, hlen⟩, hmany, q⟩ := h
    have hu := hu_of hr
    refine ⟨_, (pss_cons (ps_if (pt_cmpR op_lt (pv 1) pe_int (nomark _)) (pss_one (ps_ret pe_int)) pss_nil)
    (pss_cons (ps_if (pt_cmpR (op_neD hr.units) (pe_dget hu (pv 0) pe_str (fun _ _ => rfl)) (pe_lst pa_nil) (nomark _)) (pss_cons (ps_set (i := 2) sc_draw.nd rfl (Or.inl rfl) (pe_bm0 PySem.F.plainAttrs_list PySem.F.slot_list_pop PySem.F.type_list_pop mt_pop (pe_dget hu (pv 0) pe_str (fun _ _ => rfl))))
    (pss_cons (ps_if (pt_cmpR op_ge (pv 2) (pv 1) (nomark _)) (pss_one (ps_expr (pe_bm PySem.F.plainAttrs_list PySem.F.slot_list_append PySem.F.type_list_append mt_append (pe_dget hu (pv 0) pe_str (fun _ _ => rfl)) (pa_cons (pe_op op_fdivN (pv 2) (pv 1)) pa_nil)))) pss_nil)
    (pss_one (ps_ret (pe_op op_mod (pe_callTy call_int1 (by rfl) T.z_int (by decide +kernel) (pa_cons (pv 2) pa_nil)) (pv 1)))))) pss_nil)
    (pss_cons (ps_dput hu (pv 0) pe_str (pe_op op_add (pe_dget hu (pv 0) pe_str (fun _ _ => rfl)) pe_int) rfl)
    (pss_cons (ps_set (i := 3) sc_draw.nd rfl (Or.inl rfl) (pe_op op_mod (pe_callTy call_int1 (by rfl) T.z_int (by decide +kernel) (pa_cons (pe_op op_add (pe_dget hu (pv 0) pe_str (fun _ _ => rfl)) (pe_op op_mul pe_int (pe_dget hu (pv 0) pe_str (fun _ _ => rfl)))) pa_nil)) pe_int))
    (pss_cons (ps_set (i := 3) sc_draw.nd rfl (Or.inl rfl) (pe_op op_mod (pe_callTy call_int1 (by rfl) T.z_int (by decide +kernel) (pa_cons (pe_op op_add (pe_op op_add (pe_op op_mul (pv 3) (pv 3)) (pe_op op_mul pe_int (pe_dget hu (pv 0) pe_str (fun _ _ => rfl)))) pe_int) pa_nil)) pe_int))
    (pss_cons (ps_set (i := 3) sc_draw.nd rfl (Or.inl rfl) (pe_op op_mod (pe_callTy call_int1 (by rfl) T.z_int (by decide +kernel) (pa_cons (pe_op op_add (pe_op op_mul (pv 3) (pv 3)) (pe_dget hu (pv 0) pe_str (fun _ _ => rfl))) pa_nil)) pe_int))
    (pss_one (ps_ret (pe_op op_mod (pe_callTy call_int1 (by rfl) T.z_int (by decide +kernel) (pa_cons (pe_op op_fdivN (pv 3) pe_int) pa_nil)) (pv 1)))))))))), ?_⟩
    -- if many < 2
    refine ⟨_, rfl, _, _, rfl, rfl, _, rfl, ite2 (fun e => ?_) (fun e => ?_)⟩
    · exact q H 0 (Kp.refl H) ⟨fs, s0, t0, hL, hF, hlen⟩ (Int.le_refl 0) (.inr rfl)
    · have h2 : 2 ≤ many := Int.not_lt.mp fun z => e (decide_eq_true z)
      refine ⟨_, rfl, L, _, rfl, DGet.k (k := Sum.inr "far") hL, ⟨Nat.zero_le _, fun p hp => ?_⟩⟩
      have hFp : (upd H p (.lst [])) F = some (.lst (fs.map V.int)) := by
        rw [upd_ne (ne_of_none hF hp)]
        exact hF
      refine ⟨_, _, .lst (.inl (.inl hFp)) (dpAll_ints fs), .lst (xs := []) (.inl (.inl upd_same)) .nil, shaped_ints fs, by decide, _, rfl, ite2 (fun e1 => ?_) (fun e1 => ?_)⟩
      · rw [eqv_ints_nil] at e1
        rcases snoc_cases fs with rfl | ⟨gs, c, rfl⟩
        · exact absurd e1 (by decide)
        · have hL1 : (upd H p (.lst [])) L = some (.dK (ld F s0 t0)) := by
            rw [upd_ne (ne_of_none hL hp)]
            exact hL
          have nLF : L ≠ F := ne_of hL hF (by intro z; cases z)
          have last : ((gs ++ [c]).map V.int)[((gs ++ [c]).map V.int).length - 1]? = some (.int c) := by simp
          have drop : ((gs ++ [c]).map V.int).dropLast = gs.map V.int := by simp
          have hg : gs.length ≤ 62 := by
            rw [List.length_append, List.length_singleton] at hlen
            omega
          have km : 0 ≤ c % many ∧ c % many < many := ⟨Int.emod_nonneg _ (by omega), Int.emod_lt_of_pos _ (by omega)⟩
          refine ⟨_, rfl, L, _, rfl, DGet.k (k := Sum.inr "far") hL1, .inl ⟨rfl, _, SqL.of hFp⟩, F, _, _, rfl, rfl, hFp, last, ?_⟩
          rw [drop]
          -- if cell >= many
          refine ⟨_, rfl, _, rfl, _, _, rfl, rfl, _, rfl, ite2 (fun e2 => ?_) (fun e2 => ?_)⟩
          · have hL2 : (upd (upd H p (.lst [])) F (.lst (gs.map V.int))) L = some (.dK (ld F s0 t0)) := by
              rw [upd_ne nLF]
              exact hL1
            refine ⟨_, rfl, L, _, rfl, DGet.k (k := Sum.inr "far") hL2, .inl ⟨rfl, _, SqL.of upd_same⟩, _, rfl, _, rfl, _, _, rfl, rfl, ⟨by omega, by omega⟩, F, _, _, rfl, rfl, upd_same, small1000 (by rw [List.length_map]; omega), ?_⟩
            refine ⟨_, rfl, .inl ⟨_, rfl, _, rfl, _, _, rfl, rfl, by show 0 < many; omega, ?_⟩⟩
            refine q _ _ ?_ ?_ km.1 (.inl km.2)
            · exact ((Kp.new hp).trans Kp.updF).trans Kp.updF
            · exact ⟨gs ++ [c.fdiv many], s0, t0, by rw [upd_ne nLF]; exact hL2, by rw [upd_same, List.map_append]; rfl, by rw [List.length_append, List.length_singleton]; omega⟩
          · refine ⟨_, rfl, .inl ⟨_, rfl, _, rfl, _, _, rfl, rfl, by show 0 < many; omega, ?_⟩⟩
            refine q _ _ ?_ ?_ km.1 (.inl km.2)
            · exact (Kp.new hp).trans Kp.updF
            · exact ⟨gs, s0, t0, by rw [upd_ne nLF]; exact hL1, upd_same, by omega⟩
      · have hL1 : (upd H p (.lst [])) L = some (.dK (ld F s0 t0)) := by
          rw [upd_ne (ne_of_none hL hp)]
          exact hL
        have nLF : L ≠ F := ne_of hL hF (by intro z; cases z)
        refine ⟨_, rfl, L, _, rfl, DGet.k (k := Sum.inr "times") hL1, _, _, rfl, rfl, _, rfl, L, _, rfl, DPut.k (k := Sum.inr "times") hL1 ld_len, ?_⟩
        rw [ld_put]
        have hL2 : (upd (upd H p (.lst [])) L (.dK (ld F s0 (t0 + 1)))) L = some (.dK (ld F s0 (t0 + 1))) := upd_same
        refine ⟨_, rfl, L, _, rfl, DGet.k (k := Sum.inr "stirred") hL2, _, rfl, L, _, rfl, DGet.k (k := Sum.inr "times") hL2, _, _, rfl, rfl, .inl (by decide), _, _, rfl, rfl, .inl ⟨_, rfl, _, _, rfl, rfl, by show (0 : Int) < 4294967279; decide, ?_⟩⟩
        have b1 : 0 ≤ (s0 + 2654435761 * (t0 + 1)) % 4294967279 ∧ (s0 + 2654435761 * (t0 + 1)) % 4294967279 < 4294967279 := ⟨Int.emod_nonneg _ (by decide), Int.emod_lt_of_pos _ (by decide)⟩
        revert b1
        generalize (s0 + 2654435761 * (t0 + 1)) % 4294967279 = u1
        intro b1
        refine ⟨_, rfl, _, rfl, _, _, rfl, rfl, .inl ⟨by omega, by omega⟩, _, rfl, L, _, rfl, DGet.k (k := Sum.inr "times") hL2, _, _, rfl, rfl, .inl (by decide), _, _, rfl, rfl, _, _, rfl, rfl, .inl ⟨_, rfl, _, _, rfl, rfl, by show (0 : Int) < 4294967231; decide, ?_⟩⟩
        have b2 : 0 ≤ (u1 * u1 + 40503 * (t0 + 1) + 17) % 4294967231 ∧ (u1 * u1 + 40503 * (t0 + 1) + 17) % 4294967231 < 4294967231 := ⟨Int.emod_nonneg _ (by decide), Int.emod_lt_of_pos _ (by decide)⟩
        revert b2
        generalize (u1 * u1 + 40503 * (t0 + 1) + 17) % 4294967231 = u2
        intro b2
        refine ⟨_, rfl, _, rfl, _, _, rfl, rfl, .inl ⟨by omega, by omega⟩, _, rfl, L, _, rfl, DGet.k (k := Sum.inr "stirred") hL2, _, _, rfl, rfl, .inl ⟨_, rfl, _, _, rfl, rfl, by show (0 : Int) < 4294967197; decide, ?_⟩⟩
        generalize (u2 * u2 + s0) % 4294967197 = u3
        refine ⟨_, rfl, _, _, rfl, rfl, ⟨by decide, by decide⟩, .inl ⟨_, rfl, _, rfl, _, _, rfl, rfl, by show 0 < many; omega, ?_⟩⟩
        refine q _ _ ((Kp.new hp).trans Kp.updL) ?_ (Int.emod_nonneg _ (by omega)) (.inl (Int.emod_lt_of_pos _ (by omega)))
        exact ⟨fs, s0, t0 + 1, hL2, by rw [upd_ne nLF.symm]; exact hFp, hlen⟩
/-! ### pick -/
def sp_pick (K : PySem.W.Frag) : Sp := fun vs H Q _ => ∃ (L F a : Addr) (xs : List V), vs = [.ref L, .ref a] ∧ Lm H L F ∧ SqL K H a xs ∧ a ≠ L ∧ a ≠ F ∧ 0 < xs.length ∧ xs.length < 1073741824 ∧
  ∀ (H' : Hp) (i : Nat) (x : V), Kp L F H H' → Lm H' L F → xs[i]? = some x → Q x H'
theorem Kp.seq {K : PySem.W.Frag} {L F a : Addr} {H H' : Hp} {xs : List V} (k : Kp L F H H') (h1 : a ≠ L) (h2 : a ≠ F) (h : SqL K H a xs) : SqL K H' a xs := by
  rcases h with (h | ⟨o, h⟩) | h
  · exact .inl (.inl (k _ _ h1 h2 h))
  · exact .inl (.inr ⟨o, k _ _ h1 h2 h⟩)
  · exact .inr h
theorem Txt.ok_pick (T : Txt K mg A D) : FnOk P w K mg base CX0 2 (A 4) (D 4) ["loom", "things"] (sp_pick K) := by
  refine T.F_pick.ok sc_pick (fun vs H Q E h => ?_) (fun cdv Ar outer s H vs Q E hr h => ?_)
  · obtain ⟨L, F, a, xs, rfl, _⟩ := h
    rfl
  · obtain ⟨L, F, a, xs, rfl, hM, hS, n1, n2, hpos, hlen, q⟩ := h
    have hu := hu_of hr
    refine ⟨_, (pss_one (ps_ret (pe_ix ix_list (pv 1) (pe_call (T.ok_draw) hr (by rfl) T.g_draw T.k_draw T.b_draw .nil pass0 (pa_cons (pv 0) (pa_cons (pe_callB call_len_seq (by rfl) T.z_len (by decide +kernel) (pa_cons (pv 1) pa_nil)) pa_nil))) (fun _ _ => rfl)))), ?_⟩
    refine ⟨_, rfl, _, rfl, _, rfl, a, xs, rfl, .inl hS, L, F, _, rfl, hM, by omega, fun H' k kp hM' k0 kl => ?_⟩
    have kn : k.toNat < xs.length := by omega
    exact ⟨a, xs, k, xs[k.toNat], rfl, rfl, kp.seq n1 n2 hS, at_of (j := k.toNat) (by omega) (List.getElem?_eq_getElem kn), q H' k.toNat _ kp hM' (List.getElem?_eq_getElem kn)⟩
/-! ### the loom's making -/
theorem cut_ints (ns : List Int) (lo hi : Option Int) : ∃ ms : List Int, cutV (ns.map V.int) lo hi = ms.map V.int ∧ ms.length ≤ ns.length := by
  refine ⟨(ns.drop (HT.sIx ns.length 0 lo)).take (HT.sIx ns.length ns.length hi - HT.sIx ns.length 0 lo), ?_, ?_⟩
  · unfold cutV
    rw [List.length_map, List.map_take, List.map_drop]
  · rw [List.length_take, List.length_drop]
    omega
theorem int_at {ms : List Int} {i : Nat} {x : V} (h : (ms.map V.int)[i]? = some x) : ∃ m, ms[i]? = some m ∧ x = .int m := by
  rw [List.getElem?_map] at h
  cases e : ms[i]? with
  | none => rw [e] at h; cases h
  | some m => rw [e] at h; exact ⟨m, rfl, (Option.some.inj h).symm⟩
theorem same_new {H : Hp} {p : Addr} {o : HO} (h : H p = none) : Same H (upd H p o) := fun b x e => by
  rw [upd_ne (ne_of_none e h)]
  exact e
/-- a new object's own later states leave the rest -/
theorem same_put {H H1 : Hp} {p : Addr} {o : HO} (s : Same H H1) (h : H p = none) : Same H (upd H1 p o) := fun b x e => by
  rw [upd_ne (ne_of_none e h)]
  exact s _ _ e
theorem yes_of {σ : L2.St} {H : Hp} {M N : Hp → Prop} (h : M H) : tYes σ H (fun b H3 => if b = true then M H3 else N H3) := by
  unfold tYes
  show if true = true then M H else N H
  rw [if_pos rfl]
  exact h
def sp_loom (K : PySem.W.Frag) : Sp := fun vs H Q _ => ∃ (a : Addr) (ns : List Int), vs = [.ref a] ∧ SqL K H a (ns.map V.int) ∧ ns.length ≤ 63 ∧
  ∀ (H' : Hp) (L F : Addr), Same H H' → Lm H' L F → H L = none → H F = none → Q (.ref L) H'
theorem Txt.ok_loom (T : Txt K mg A D) : FnOk P w K mg base CX0 1 (A 2) (D 2) ["script"] (sp_loom K) := by
  refine T.F_loom.ok sc_loom (fun vs H Q E h => ?_) (fun cdv Ar outer s H vs Q E hr h => ?_)
  · obtain ⟨a, ns, rfl, _⟩ := h
    rfl
  · obtain ⟨a, ns, rfl, hS, hlen, q⟩ := h
    have hu := hu_of hr
    refine ⟨_, (pss_cons (ps_par (i := 2) (j := 3) rfl sc_loom.nd rfl rfl (by decide) rfl rfl (pa_cons (pe_lc (own := [("cell", 1)]) (g := gName 1) (tt := tYes) rfl sc_loom.nd (pi_list (pe_slice sl_list (pv 0) po_none (po_some pe_int))) (blkOk_by (N := ["script", "cell", "cells", "stirred"]) (sc := defScope s_loom) (by decide +kernel)) (fun _ _ _ _ _ => pg_name (i := 1) sc_loom.nd rfl (Or.inl rfl)) (fun _ _ _ _ _ => pts_nil) (fun _ _ _ _ _ => (pe_op op_add (pe_op op_mul pe_int (pe_callB call_abs (by rfl) T.z_abs (by decide +kernel) (pa_cons (pv 1) pa_nil))) (pe_callTy call_int1 (by rfl) T.z_int (by decide +kernel) (pa_cons (pe_cmpR op_lt (pv 1) pe_int (nomark _)) pa_nil))))) (pa_cons (pe_op op_add pe_int (pe_op op_mul pe_int (pe_callB call_len_seq (by rfl) T.z_len (by decide +kernel) (pa_cons (pv 0) pa_nil)))) pa_nil)) (by rfl))
    (pss_cons (ps_for PassesOwn.never rfl (pi_list (pv 2)) (pg_name (i := 1) sc_loom.nd rfl (Or.inl rfl)) (pss_one (ps_set (i := 3) sc_loom.nd rfl (Or.inl rfl) (pe_op op_mod (pe_callTy call_int1 (by rfl) T.z_int (by decide +kernel) (pa_cons (pe_op op_add (pe_op op_add (pe_op op_mul (pv 3) pe_int) (pv 1)) pe_int) pa_nil)) pe_int))))
    (pss_one (ps_ret (pe_disp (pps_cons pe_str (pe_lc (own := [("cell", 1)]) (g := gName 1) (tt := _) rfl sc_loom.nd (pi_list (pv 2)) (blkOk_by (N := ["script", "cell", "cells", "stirred"]) (sc := defScope s_loom) (by decide +kernel)) (fun _ _ _ _ _ => pg_name (i := 1) sc_loom.nd rfl (Or.inl rfl)) (fun _ _ _ _ _ => (pts_one (pt_cmpR op_ge (pv 1) (pe_op op_pow pe_int pe_int) (nomark _)))) (fun _ _ _ _ _ => (pv 1))) (pps_cons pe_str (pv 3) (pps_cons pe_str pe_int pps_nil))) (by rfl) (by rfl) (fun z => by cases z) (by decide)))))), ?_⟩
    refine ⟨_, rfl, _, rfl, a, _, rfl, hS, fun p hp => ?_⟩
    obtain ⟨ms, em, hm⟩ := cut_ints ns none (some 63)
    rw [em]
    have sp : Same H (upd H p (.lst (ms.map V.int))) := same_new hp
    refine ⟨p, rfl, ⟨_, SqL.of upd_same⟩, fun D1 hD1 => ?_⟩
    have hDp : H D1 = none := sp.free hD1
    refine lc_list (K := K) (a := p) (xs := ms.map V.int) (fun i H' => Same (upd H p (.lst (ms.map V.int))) H' ∧ ∃ acc : List Int, H' D1 = some (.lst (acc.map V.int)) ∧ acc.length = i)
      ⟨same_new hD1, [], upd_same, rfl⟩ (fun i H' _ z => z.1.seq (SqL.of upd_same)) ?_ ?_
    · intro i x H' hx hP
      obtain ⟨m, hm1, rfl⟩ := int_at hx
      obtain ⟨s1, acc, hA, la⟩ := hP
      have hi : i < ms.length := (List.getElem?_eq_some_iff.mp hm1).1
      refine ⟨rfl, yes_of ?_⟩
      refine ⟨_, rfl, _, rfl, _, _, rfl, rfl, .inl ⟨by decide, by decide⟩, _, rfl, _, _, rfl, rfl, .inr ⟨_, rfl, _, _, rfl, rfl, _, hA, small1000 (by rw [List.length_map]; omega), same_put s1 hD1, acc ++ [2 * (if m < 0 then -m else m) + (if decide (m < 0) = true then 1 else 0)], ?_, ?_⟩⟩
      · rw [upd_same, List.map_append]
        rfl
      · rw [List.length_append, List.length_singleton, la]
    · intro H1 hP
      obtain ⟨s1, acc, hA, la⟩ := hP
      have sH : Same H H1 := sp.trans s1
      have sS := sH.seq hS
      refine ⟨_, rfl, a, _, rfl, .inl sS, _, _, rfl, rfl, .inl ⟨by decide, by decide⟩, _, _, rfl, rfl, _, _, rfl, ?_⟩
      -- the loop
      refine ⟨.ref D1, rfl, D1, rfl, ⟨_, SqL.of hA⟩, for_list (K := K) (a := D1) (xs := acc.map V.int) (fun i σ H' => H' = H1 ∧ ∃ (y : Option V) (z : Int), σ = [some (.ref a), y, some (.ref D1), some (.int z)])
        ⟨rfl, none, _, rfl⟩ (fun i σ H' _ z => by rw [z.1]; exact SqL.of hA) ?_ ?_⟩
      · rintro i x σ H' hx ⟨rfl, y, z, rfl⟩
        obtain ⟨m, hm1, rfl⟩ := int_at hx
        exact ⟨_, rfl, _, _, rfl, rfl, .inr ⟨by decide, by decide⟩, _, rfl, _, _, rfl, rfl, _, _, rfl, rfl, .inl ⟨_, rfl, _, _, rfl, rfl, by show (0 : Int) < 4294967291; decide, rfl, _, _, rfl⟩⟩
      · rintro σ H' ⟨rfl, y, z, rfl⟩
        -- the dict
        intro L hL
        have sL : Same H' (upd H' L (.dK [])) := same_new hL
        have hLH : H L = none := sH.free hL
        refine ⟨_, rfl, D1, rfl, ⟨_, (sL.seq (SqL.of hA))⟩, fun F hF => ?_⟩
        have hF' : H' F = none := sL.free hF
        refine lc_list (K := K) (a := D1) (xs := acc.map V.int) (fun i H2 => Same (upd H' L (.dK [])) H2 ∧ ∃ gs : List Int, H2 F = some (.lst (gs.map V.int)) ∧ gs.length ≤ i)
          ⟨same_new hF, [], upd_same, Nat.le_refl _⟩ (fun i H2 _ z => z.1.seq (sL.seq (SqL.of hA))) ?_ ?_
        · intro i x H2 hx hP
          obtain ⟨m, hm1, rfl⟩ := int_at hx
          obtain ⟨s2, gs, hG, lg⟩ := hP
          have hi : i < acc.length := (List.getElem?_eq_some_iff.mp hm1).1
          rw [List.length_map] at la
          refine ⟨rfl, _, rfl, _, _, rfl, rfl, ⟨by decide, by decide, by decide⟩, _, _, rfl, rfl, _, rfl, ite2 (fun e => ?_) (fun e => ?_)⟩
          · exact ⟨_, rfl, _, hG, small1000 (by rw [List.length_map]; omega), same_put s2 hF, gs ++ [m], by rw [upd_same, List.map_append]; rfl, by rw [List.length_append, List.length_singleton]; omega⟩
          · exact ⟨s2, gs, hG, by omega⟩
        · intro H2 hP
          obtain ⟨s2, gs, hG, lg⟩ := hP
          rw [List.length_map] at la lg
          have hL2 : H2 L = some (.dK []) := s2 _ _ upd_same
          refine ⟨_, rfl, hL2, ld F z 0, rfl, (by show 3 ≤ 15; decide), ?_⟩
          have nFL : F ≠ L := fun e => by
            rw [e, hL2] at hG
            cases hG
          refine q _ L F ?_ ⟨gs, z, 0, upd_same, by rw [upd_ne nFL]; exact hG, by omega⟩ hLH (sH.free hF')
          intro b o e
          have e1 := sH _ _ e
          rw [upd_ne (ne_of_none e1 hL)]
          exact s2 _ _ (sL _ _ e1)
end
end Ev

namespace Ev
open PySem PySem.Spec PyProof.Rows L2
section
variable {P : Program} {w : World} {K : PySem.W.Frag} {mg : Str → Option Value} {base : Heap} {A : Nat → Addr} {D : Nat → FuncData}
/-! ### gcd, frac -/
theorem absI (a : Int) : (if a < 0 then -a else a) = (a.natAbs : Int) := by
  split <;> omega
def sp_gcd : Sp := fun vs H Q _ => ∃ a b : Int, vs = [.int a, .int b] ∧ Q (.int (gc a b)) H
theorem Txt.ok_gcd (T : Txt K mg A D) : FnOk P w K mg base CX0 1 (A 5) (D 5) ["a", "b"] sp_gcd := by
  refine T.F_gcd.ok sc_gcd (fun vs H Q E h => ?_) (fun cdv Ar outer s H vs Q E hr h => ?_)
  · obtain ⟨a, b, rfl, _⟩ := h
    rfl
  · obtain ⟨a, b, rfl, q⟩ := h
    refine ⟨_, (pss_cons (ps_par (i := 0) (j := 1) rfl sc_gcd.nd rfl rfl (by decide) rfl rfl (pa_cons (pe_callB call_abs (by rfl) T.z_abs (by decide +kernel) (pa_cons (pv 0) pa_nil)) (pa_cons (pe_callB call_abs (by rfl) T.z_abs (by decide +kernel) (pa_cons (pv 1) pa_nil)) pa_nil)) (by rfl))
    (pss_cons (ps_while PassesOwn.never (pt_cmpR op_ne (pv 1) pe_int (nomark _)) (pss_one (ps_par (i := 0) (j := 1) rfl sc_gcd.nd rfl rfl (by decide) rfl rfl (pa_cons (pv 1) (pa_cons (pe_op op_modN (pe_callTy call_int1 (by rfl) T.z_int (by decide +kernel) (pa_cons (pv 0) pa_nil)) (pv 1)) pa_nil)) (by rfl))))
    (pss_one (ps_ret (pv 0))))), ?_⟩
    refine ⟨_, rfl, _, rfl, _, rfl, _, rfl, _, _, rfl, ?_⟩
    rw [absI, absI]
    refine while_by (fun σ H' => H' = H ∧ ∃ x y : Nat, σ = [some (.int x), some (.int y)] ∧ Nat.gcd x y = gc a b) (fun σ _ => match σ with | [_, some (.int y)] => y.toNat | _ => 0) ⟨rfl, _, _, rfl, rfl⟩ ?_ ?_
    · rintro σ H' ⟨rfl, x, y, rfl, g⟩
      refine ⟨_, rfl, rfl, _, rfl, ite2 (fun e => ?_) (fun e => ?_)⟩
      · have hy : (y : Int) ≠ 0 := fun z => vne e (congrArg V.int z)
        refine ⟨_, rfl, _, rfl, .inl ⟨_, rfl, _, rfl, _, _, rfl, rfl, hy, _, _, rfl, ⟨rfl, y, x % y, ?_, ?_⟩, ?_⟩⟩
        · have z : (x : Int).fmod (y : Int) = ((x % y : Nat) : Int) := by
            rw [Int.fmod_eq_emod_of_nonneg _ (by omega)]
            rfl
          show [some (V.int (y : Int)), some (V.int ((x : Int).fmod (y : Int)))] = _
          rw [z]
        · rw [← g, Nat.gcd_comm x y, Nat.gcd_rec y x, Nat.gcd_comm]
        · show ((x : Int).fmod (y : Int)).toNat < (y : Int).toNat
          rw [Int.fmod_eq_emod_of_nonneg _ (by omega)]
          have h1 := Int.emod_lt_of_pos (x : Int) (show (0 : Int) < y by omega)
          omega
      · have hy : (y : Int) = 0 := V.int.inj (veq e)
        have hy' : y = 0 := by omega
        subst hy'
        rw [Nat.gcd_zero_right] at g
        refine ⟨_, rfl, ?_⟩
        rw [g]
        exact q
    · intro σ H' Q1 Q2 k h
      obtain ⟨v, h1, h2, c, h3, h4⟩ := h
      exact ⟨v, h1, h2, c, h3, k _ _ h4⟩
/-! ### fractions in lowest terms -/
def Sm (x : Int) : Prop := x.natAbs < 2 ^ 1400
theorem Sm.le {x y : Int} (h : Sm y) (l : x.natAbs ≤ y.natAbs) : Sm x := Nat.lt_of_le_of_lt l h
theorem Sm.log {x : Int} (h : Sm x) : x.natAbs.log2 < 1400 := PySem.Flt.log2_lt_of (by decide) h
theorem dv_ok {a b : Int} (h : b ≠ 0) (hb : Sm b) : CDivZ a (dv a b) := by
  refine ⟨dv_ne h, ?_⟩
  have l : (dv a b).natAbs ≤ b.natAbs := by
    rw [dv_abs]
    exact Nat.gcd_le_right _ (by omega)
  exact Nat.lt_trans (Sm.log (hb.le l)) (by decide)
theorem dv_ok2 {a b c : Int} (h : b ≠ 0) (hb : Sm b) : CDivZ c (dv a b) := ⟨(dv_ok (a := a) h hb).1, (dv_ok (a := a) h hb).2⟩
def sp_frac : Sp := fun vs H Q _ => ∃ a b : Int, vs = [.int a, .int b] ∧ b ≠ 0 ∧ Sm b ∧
  ∀ (H' : Hp) (p : Addr), Same H H' → H p = none → H' p = some (.tup [.int (fA a b), .int (fB a b)]) → Q (.ref p) H'
theorem Txt.ok_frac (T : Txt K mg A D) : FnOk P w K mg base CX0 2 (A 6) (D 6) ["a", "b"] sp_frac := by
  refine T.F_frac.ok sc_frac (fun vs H Q E h => ?_) (fun cdv Ar outer s H vs Q E hr h => ?_)
  · obtain ⟨a, b, rfl, _⟩ := h
    rfl
  · obtain ⟨a, b, rfl, hb, sb, q⟩ := h
    refine ⟨_, (pss_cons (ps_set (i := 2) sc_frac.nd rfl (Or.inl rfl) (pe_call (T.ok_gcd) hr (by rfl) T.g_gcd T.k_gcd T.b_gcd .nil pass0 (pa_cons (pv 0) (pa_cons (pv 1) pa_nil))))
    (pss_cons (ps_set (i := 2) sc_frac.nd rfl (Or.inl rfl) (pe_ifExp (pt_cmpR op_gt (pv 1) pe_int (nomark _)) (pv 2) (pe_un un_neg (pv 2))))
    (pss_one (ps_ret (pe_tup (pa_cons (pe_op op_fdivZ (pv 0) (pv 2)) (pa_cons (pe_op op_fdivZ (pv 1) (pv 2)) pa_nil))))))), ?_⟩
    refine ⟨_, rfl, _, rfl, _, _, rfl, _, rfl, _, _, rfl, rfl, _, rfl, ite2 (fun e => ?_) (fun e => ?_)⟩
    · have d : dv a b = (gc a b : Int) := if_pos (of_decide_eq_true e)
      refine ⟨_, rfl, _, rfl, _, rfl, _, _, rfl, rfl, by rw [← d]; exact dv_ok2 hb sb, _, rfl, _, rfl, _, _, rfl, rfl, by rw [← d]; exact dv_ok2 hb sb, (by show 2 ≤ sizeLine; decide), fun p hp => q _ p (same_new hp) hp ?_⟩
      rw [upd_same]
      show some (HO.tup [V.int (a.fdiv (gc a b : Int)), V.int (b.fdiv (gc a b : Int))]) = _
      rw [← d]
      rfl
    · have d : dv a b = -(gc a b : Int) := if_neg (fun z => e (decide_eq_true z))
      refine ⟨_, rfl, _, rfl, _, rfl, _, rfl, _, _, rfl, rfl, by rw [← d]; exact dv_ok2 hb sb, _, rfl, _, rfl, _, _, rfl, rfl, by rw [← d]; exact dv_ok2 hb sb, (by show 2 ≤ sizeLine; decide), fun p hp => q _ p (same_new hp) hp ?_⟩
      rw [upd_same]
      show some (HO.tup [V.int (a.fdiv (-(gc a b : Int))), V.int (b.fdiv (-(gc a b : Int)))]) = _
      rw [← d]
      rfl
/-! ### the program's two defs -/
def sp_lowest (CU : Addr) : Sp := fun vs H Q E => ∃ a b : Int, vs = [.int a, .int b] ∧ Sm b ∧ (b = 0 → E (.ref CU) none H) ∧
  (b ≠ 0 → ∀ (H' : Hp) (p : Addr), Same H H' → H p = none → H' p = some (.tup [.int (fA a b), .int (fB a b)]) → Q (.ref p) H')
theorem Txt.ok_lowest (T : Txt K mg A D) : FnOk P w K mg base (L2.CX P w) 1 (A 0) (D 0) ["a", "b"] (sp_lowest (A 13)) := by
  refine T.F_lowest.okX sc_lowest (fun vs H Q E h => ?_) (fun cdv Ar outer s H vs Q E hr h => ?_)
  · obtain ⟨a, b, rfl, _⟩ := h
    rfl
  · obtain ⟨a, b, rfl, sb, q0, q⟩ := h
    refine ⟨_, (pss_cons (ps_if (pt_cmpR op_eq (pv 1) pe_int (nomark _)) (pss_one (ps_raise rfl (takes_of rfl rfl rfl rfl) (pmk_own0 PySem.F.excBase_ValueError T.xU T.g_Unfit T.kU (raises_own T.bU T.tU) rfl))) pss_nil)
    (pss_cons (ps_set (i := 2) sc_lowest.nd rfl (Or.inl rfl) (pe_callBfun cr_gcd (by rfl) T.z_gcd (pa_cons (pv 0) (pa_cons (pv 1) pa_nil))))
    (pss_cons (ps_if (pt_cmpR op_lt (pv 1) pe_int (nomark _)) (pss_one (ps_set (i := 2) sc_lowest.nd rfl (Or.inl rfl) (pe_un un_neg (pv 2)))) pss_nil)
    (pss_one (ps_ret (pe_tup (pa_cons (pe_op op_fdivZ (pv 0) (pv 2)) (pa_cons (pe_op op_fdivZ (pv 1) (pv 2)) pa_nil)))))))), ?_⟩
    refine ⟨_, rfl, rfl, _, rfl, ite2 (fun e => ?_) (fun e => ?_)⟩
    · exact q0 (V.int.inj (of_decide_eq_true e))
    · have hb : b ≠ 0 := fun z => vneF e (congrArg V.int z)
      refine ⟨_, rfl, _, rfl, _, _, rfl, _, rfl, _, _, rfl, rfl, _, rfl, ite2 (fun e1 => ?_) (fun e1 => ?_)⟩
      · have d : dv a b = -(gc a b : Int) := if_neg (by have := of_decide_eq_true e1; omega)
        refine ⟨_, rfl, _, rfl, _, rfl, _, rfl, _, _, rfl, rfl, by show CDivZ a (-(gc a b : Int)); rw [← d]; exact dv_ok2 hb sb, _, rfl, _, rfl, _, _, rfl, rfl, by show CDivZ b (-(gc a b : Int)); rw [← d]; exact dv_ok2 hb sb, (by show 2 ≤ sizeLine; decide), fun p hp => q hb _ p (same_new hp) hp ?_⟩
        rw [upd_same]
        show some (HO.tup [V.int (a.fdiv (-(gc a b : Int))), V.int (b.fdiv (-(gc a b : Int)))]) = _
        rw [← d]
        rfl
      · have d : dv a b = (gc a b : Int) := if_pos (by have := Int.not_lt.mp (fun z => e1 (decide_eq_true z)); omega)
        refine ⟨_, rfl, _, rfl, _, _, rfl, rfl, by show CDivZ a (gc a b : Int); rw [← d]; exact dv_ok2 hb sb, _, rfl, _, rfl, _, _, rfl, rfl, by show CDivZ b (gc a b : Int); rw [← d]; exact dv_ok2 hb sb, (by show 2 ≤ sizeLine; decide), fun p hp => q hb _ p (same_new hp) hp ?_⟩
        rw [upd_same]
        show some (HO.tup [V.int (a.fdiv (gc a b : Int)), V.int (b.fdiv (gc a b : Int))]) = _
        rw [← d]
        rfl
def cmpI (l r : Int) : Int := if l < r then -1 else if l > r then 1 else 0
def sp_compared : Sp := fun vs H Q _ => ∃ (s t : Addr) (a b c d : Int), vs = [.ref s, .ref t] ∧ H s = some (.tup [.int a, .int b]) ∧ H t = some (.tup [.int c, .int d]) ∧
  Sm a ∧ Sm b ∧ Sm c ∧ Sm d ∧ Q (.int (cmpI (a * d) (c * b))) H
theorem Sm.mul {a b : Int} (ha : Sm a) (hb : Sm b) : CMulW a b := wide_mul ha hb (by decide) (by decide) (by decide)
theorem at0 {x : V} {xs : List V} : atI (x :: xs) 0 = some x := atI_nat (j := 0) rfl
theorem at1 {x y : V} {xs : List V} : atI (x :: y :: xs) 1 = some y := atI_nat (j := 1) rfl
theorem Txt.ok_compared (T : Txt K mg A D) : FnOk P w K mg base CX0 1 (A 1) (D 1) ["one", "other"] sp_compared := by
  refine T.F_compared.ok sc_compared (fun vs H Q E h => ?_) (fun cdv Ar outer s H vs Q E hr h => ?_)
  · obtain ⟨s, t, a, b, c, d, rfl, _⟩ := h
    rfl
  · obtain ⟨s1, t1, a, b, c, d, rfl, h1, h2, sa, sb, sc, sd, q⟩ := h
    refine ⟨_, (pss_cons (ps_set (i := 2) sc_compared.nd rfl (Or.inl rfl) (pe_op op_mulW (pe_ix ix_tup (pv 0) pe_int (fun _ _ => rfl)) (pe_ix ix_tup (pv 1) pe_int (fun _ _ => rfl))))
    (pss_cons (ps_set (i := 3) sc_compared.nd rfl (Or.inl rfl) (pe_op op_mulW (pe_ix ix_tup (pv 1) pe_int (fun _ _ => rfl)) (pe_ix ix_tup (pv 0) pe_int (fun _ _ => rfl))))
    (pss_cons (ps_if (pt_cmpR op_lt (pv 2) (pv 3) (nomark _)) (pss_one (ps_ret (pe_un un_neg pe_int))) pss_nil)
    (pss_cons (ps_if (pt_cmpR op_gt (pv 2) (pv 3) (nomark _)) (pss_one (ps_ret pe_int)) pss_nil)
    (pss_one (ps_ret pe_int)))))), ?_⟩
    refine ⟨_, rfl, s1, _, _, _, rfl, rfl, SqT.of h1, at0, _, rfl, t1, _, _, _, rfl, rfl, SqT.of h2, at1, _, _, rfl, rfl, sa.mul sd, ?_⟩
    refine ⟨_, rfl, t1, _, _, _, rfl, rfl, SqT.of h2, at0, _, rfl, s1, _, _, _, rfl, rfl, SqT.of h1, at1, _, _, rfl, rfl, sc.mul sb, ?_⟩
    refine ⟨_, rfl, _, rfl, _, _, rfl, rfl, _, rfl, ite2 (fun e => ?_) (fun e => ?_)⟩
    · refine ⟨_, rfl, ?_⟩
      have z : cmpI (a * d) (c * b) = -1 := if_pos (of_decide_eq_true e)
      rw [z] at q
      exact q
    · refine ⟨_, rfl, _, rfl, _, _, rfl, rfl, _, rfl, ite2 (fun e1 => ?_) (fun e1 => ?_)⟩
      · have z : cmpI (a * d) (c * b) = 1 := by
          unfold cmpI
          rw [if_neg (fun y => e (decide_eq_true y)), if_pos (of_decide_eq_true e1)]
        rw [z] at q
        exact q
      · have z : cmpI (a * d) (c * b) = 0 := by
          unfold cmpI
          rw [if_neg (fun y => e (decide_eq_true y)), if_neg (fun y => e1 (decide_eq_true y))]
        rw [z] at q
        exact q
end
end Ev

namespace Ev
open PySem PySem.Spec PyProof.Rows L2
section
variable {P : Program} {w : World} {K : PySem.W.Frag} {mg : Str → Option Value} {base : Heap} {A : Nat → Addr} {D : Nat → FuncData}
theorem Lm.ne {H : Hp} {L F p : Addr} (h : Lm H L F) (hp : H p = none) : p ≠ L ∧ p ≠ F := by
  obtain ⟨fs, s, t, h1, h2, h3⟩ := h
  refine ⟨fun e => ?_, fun e => ?_⟩
  · rw [e, h1] at hp
    cases hp
  · rw [e, h2] at hp
    cases hp
/-! ### far, number -/
def sp_far : Sp := fun vs H Q _ => ∃ (L F : Addr) (many : Nat), vs = [.ref L, .int many] ∧ Lm H L F ∧ 1 ≤ many ∧ many ≤ 400 ∧
  ∀ (H' : Hp) (n : Nat), Kp L F H H' → Lm H' L F → n < 10 ^ many → Q (.int n) H'
theorem Txt.ok_far (T : Txt K mg A D) : FnOk P w K mg base CX0 2 (A 7) (D 7) ["loom", "many"] sp_far := by
  refine T.F_far.ok sc_far (fun vs H Q E h => ?_) (fun cdv Ar outer s H vs Q E hr h => ?_)
  · obtain ⟨L, F, many, rfl, _⟩ := h
    rfl
  · obtain ⟨L, F, many, rfl, hM, m1, m4, q⟩ := h
    refine ⟨_, (pss_cons (ps_set (i := 2) sc_far.nd rfl (Or.inl rfl) (pe_op op_add pe_int (pe_call (T.ok_draw) hr (by rfl) T.g_draw T.k_draw T.b_draw .nil pass0 (pa_cons (pv 0) (pa_cons pe_int pa_nil)))))
    (pss_cons (ps_for PassesOwn.never rfl (pi_range1 rfl T.range (pa_cons (pe_op op_sub (pv 1) pe_int) pa_nil)) (pg_name (i := 3) sc_far.nd rfl (Or.inl rfl)) (pss_one (ps_set (i := 2) sc_far.nd rfl (Or.inl rfl) (pe_op op_add (pe_op op_mul (pv 2) pe_int) (pe_call (T.ok_draw) hr (by rfl) T.g_draw T.k_draw T.b_draw .nil pass0 (pa_cons (pv 0) (pa_cons pe_int pa_nil)))))))
    (pss_one (ps_ret (pv 2))))), ?_⟩
    refine ⟨_, rfl, L, F, 9, rfl, hM, by decide, fun H1 k kp1 hM1 k0 kl => ⟨_, _, rfl, rfl, ?_⟩⟩
    refine ⟨_, rfl, _, _, rfl, rfl, _, rfl, by omega, by omega, for_range (lo := 0) (n := ((many : Int) - 1).toNat) (fun i σ H' => Kp L F H H' ∧ Lm H' L F ∧ ∃ (n : Nat) (y : Option V), σ = [some (.ref L), some (.int many), some (.int n), y] ∧ n < 10 ^ (i + 1)) ?_ ?_ ?_⟩
    · refine ⟨kp1, hM1, (1 + k).toNat, none, ?_, by omega⟩
      have e : ((1 + k).toNat : Int) = 1 + k := by omega
      rw [e]
      rfl
    · rintro i σ H2 hi ⟨kp2, hM2, n, y, rfl, hn⟩
      refine ⟨_, rfl, _, _, rfl, rfl, .inr ⟨by decide, by decide⟩, _, rfl, L, F, 10, rfl, hM2, by decide, fun H3 k kp3 hM3 k0 kl => ⟨_, _, rfl, rfl, kp2.trans kp3, hM3, n * 10 + k.toNat, some (.int (0 + (i : Int))), ?_, ?_⟩⟩
      · show [some (V.ref L), some (V.int many), some (V.int ((n : Int) * 10 + k)), some (V.int (0 + (i : Int)))] = _
        have e : ((n * 10 + k.toNat : Nat) : Int) = (n : Int) * 10 + k := by omega
        rw [e]
      · rw [Nat.pow_succ 10 (i + 1)]
        omega
    · rintro σ H2 ⟨kp2, hM2, n, y, rfl, hn⟩
      have e : ((many : Int) - 1).toNat + 1 = many := by omega
      rw [e] at hn
      exact ⟨_, rfl, q H2 n kp2 hM2 hn⟩
def sp_number : Sp := fun vs H Q _ => ∃ (L F : Addr), vs = [.ref L] ∧ Lm H L F ∧ ∀ (H' : Hp) (n : Int), Kp L F H H' → Lm H' L F → n.natAbs < 10 ^ 400 → Q (.int n) H'
theorem p400 : 40 < 10 ^ 400 := by decide +kernel
theorem Txt.ok_number (T : Txt K mg A D) : FnOk P w K mg base CX0 3 (A 8) (D 8) ["loom"] sp_number := by
  refine T.F_number.ok sc_number (fun vs H Q E h => ?_) (fun cdv Ar outer s H vs Q E hr h => ?_)
  · obtain ⟨L, F, rfl, _⟩ := h
    rfl
  · obtain ⟨L, F, rfl, hM, q⟩ := h
    have big := p400
    refine ⟨_, (pss_cons (ps_set (i := 1) sc_number.nd rfl (Or.inl rfl) (pe_call (T.ok_draw) (hr.mono (by decide)) (by rfl) T.g_draw T.k_draw T.b_draw .nil pass0 (pa_cons (pv 0) (pa_cons pe_int pa_nil))))
    (pss_cons (ps_set (i := 2) sc_number.nd rfl (Or.inl rfl) (pe_ifExp (pt_cmpR op_lt (pv 1) pe_int (nomark _)) (pe_call (T.ok_draw) (hr.mono (by decide)) (by rfl) T.g_draw T.k_draw T.b_draw .nil pass0 (pa_cons (pv 0) (pa_cons pe_int pa_nil))) (pe_call (T.ok_far) hr (by rfl) T.g_far T.k_far T.b_far .nil pass0 (pa_cons (pv 0) (pa_cons (pe_call (T.ok_pick) hr (by rfl) T.g_pick T.k_pick T.b_pick .nil pass0 (pa_cons (pv 0) (pa_cons (pe_lst (pa_cons pe_int (pa_cons pe_int (pa_cons pe_int (pa_cons pe_int (pa_cons pe_int pa_nil)))))) pa_nil))) pa_nil)))))
    (pss_one (ps_ret (pe_ifExp (pt_cmpR op_gt (pe_call (T.ok_draw) (hr.mono (by decide)) (by rfl) T.g_draw T.k_draw T.b_draw .nil pass0 (pa_cons (pv 0) (pa_cons pe_int pa_nil))) pe_int (nomark _)) (pv 2) (pe_un un_neg (pv 2))))))), ?_⟩
    refine ⟨_, rfl, L, F, 9, rfl, hM, by decide, fun H1 k kp1 hM1 k0 kl => ?_⟩
    have fin : ∀ (H2 : Hp) (n : Nat), Kp L F H H2 → Lm H2 L F → n < 10 ^ 400 → (tIf (tTest (tOp (rI0 fun i j => V.bl (decide (j < i))) (tCall sp_draw [] E0 (tCons (tVar 0) (tCons (tC (.int 3)) tNil))) (tC (.int 0)))) (tVar 2) (tUn (rU fun i => .int (-i)) (tVar 2)))
        [some (.ref L), some (.int k), some (.int n)] H2 Q := by
      intro H2 n kp2 hM2 hn
      refine ⟨_, rfl, L, F, 3, rfl, hM2, by decide, fun H3 j kp3 hM3 j0 jl => ⟨_, _, rfl, rfl, _, rfl, ite2 (fun _ => ?_) (fun _ => ?_)⟩⟩
      · exact ⟨_, rfl, q H3 n (kp2.trans kp3) hM3 (by omega)⟩
      · exact ⟨_, rfl, _, rfl, q H3 (-n) (kp2.trans kp3) hM3 (by omega)⟩
    refine ⟨_, rfl, _, _, rfl, rfl, _, rfl, ite2 (fun _ => ?_) (fun _ => ?_)⟩
    · refine ⟨_, rfl, L, F, 40, rfl, hM1, by decide, fun H2 j kp2 hM2 j0 jl => ?_⟩
      have ej : j = ((j.toNat : Nat) : Int) := by omega
      rw [ej]
      exact fin H2 j.toNat (kp1.trans kp2) hM2 (by omega)
    · refine ⟨_, rfl, _, rfl, (by show 5 ≤ sizeLine; decide), fun p hp => ?_⟩
      have n1 := hM1.ne hp
      refine ⟨L, F, p, _, rfl, hM1.new hp, SqL.of upd_same, n1.1, n1.2, (by show 0 < 5; decide), (by show 5 < 1073741824; decide), fun H2 i x kp2 hM2 hx => ?_⟩
      have kp3 := (kp1.trans (Kp.new hp)).trans kp2
      have mm : ∃ m : Nat, x = .int m ∧ 1 ≤ m ∧ m ≤ 400 := by
        have hx' := List.mem_of_getElem? hx
        simp only [List.mem_cons, List.not_mem_nil, or_false] at hx'
        rcases hx' with rfl | rfl | rfl | rfl | rfl
        · exact ⟨3, rfl, by decide, by decide⟩
        · exact ⟨12, rfl, by decide, by decide⟩
        · exact ⟨40, rfl, by decide, by decide⟩
        · exact ⟨200, rfl, by decide, by decide⟩
        · exact ⟨400, rfl, by decide, by decide⟩
      obtain ⟨m, rfl, m1, m4⟩ := mm
      refine ⟨L, F, m, rfl, hM2, m1, m4, fun H3 n kp4 hM3 hn => ?_⟩
      exact fin H3 n (kp3.trans kp4) hM3 (Nat.lt_of_lt_of_le hn (Nat.pow_le_pow_right (by decide) m4))
end
end Ev

namespace Ev
open PySem PySem.Spec PyProof.Rows L2
section
variable {P : Program} {w : World} {K : PySem.W.Frag} {mg : Str → Option Value} {base : Heap} {A : Nat → Addr} {D : Nat → FuncData}
/-! ### told -/
theorem Txt.kb_lowest (T : Txt K mg A D) : KB0 K (D 0) ["a", "b"] ["b", "a"] [1, 0] := by
  obtain ⟨c1, c2, c3, c4, c5, c6, c7, c8, c9, e, lk, hcd⟩ := T.F_lowest.ex
  rw [e]
  refine ⟨fun s ws _ hl => ?_⟩
  match ws, hl with
  | [x, y], _ => exact .of_eq rfl
theorem Txt.kb_compared (T : Txt K mg A D) : KB0 K (D 1) ["one", "other"] ["other", "one"] [1, 0] := by
  obtain ⟨c1, c2, c3, c4, c5, c6, c7, c8, c9, e, lk, hcd⟩ := T.F_compared.ex
  rw [e]
  refine ⟨fun s ws _ hl => ?_⟩
  match ws, hl with
  | [x, y], _ => exact .of_eq rfl
theorem Txt.eU (T : Txt K mg A D) : PySem.W.exmOne K (.ref (A 13)) (.ref (A 13)) = some true := PySem.W.exm_ref T.bU T.cU.hd T.tU T.sU
def toldD (a b : Int) : PyData := if b = 0 then .list [.str "unfit", .bool true] else .list [.str "told", .tuple [.int (fA a b), .int (fB a b)]]
def sp_told (K : PySem.W.Frag) : Sp := fun vs H Q _ => ∃ (a b : Int) (n : Bool), vs = [.int a, .int b, .bl n] ∧ Sm b ∧
  ∀ (H' : Hp) (p : Addr), Same H H' → H p = none → Dp K H' (.ref p) (toldD a b) → Q (.ref p) H'
theorem Txt.ok_told (T : Txt K mg A D) : FnOk P w K mg base CX0 2 (A 9) (D 9) ["a", "b", "is_named"] (sp_told K) := by
  refine T.F_told.ok sc_told (fun vs H Q E h => ?_) (fun cdv Ar outer s H vs Q E hr h => ?_)
  · obtain ⟨a, b, n, rfl, _⟩ := h
    rfl
  · obtain ⟨a, b, n, rfl, sb, q⟩ := h
    have low : FnOk P w K mg base (L2.CX P w) 1 (A 0) (D 0) ["a", "b"] (sp_lowest (A 13)) := T.ok_lowest
    refine ⟨_, (pss_one (ps_try_as (i := 3) rfl rfl sc_told.nd rfl rfl ⟨rfl, by decide, .inl T.g_Unfit⟩ takes0
      (fun W pn xe tk _ => pss_one (ps_ret (pe_lst (pa_cons pe_str (pa_cons (pe_ifExp (pt_val (pv 2))
        (pe_callK0S low hr (by rfl) T.g_lowest T.k_lowest T.kb_lowest (fun σ => passAt tk σ) (pk_cons (pv 1) (pk_cons (pv 0) pk_nil)))
        (pe_callS low hr (by rfl) T.g_lowest T.k_lowest T.b_lowest (fun σ => passAt tk σ) (pa_cons (pv 0) (pa_cons (pv 1) pa_nil)))) pa_nil)))))
      (fun a oe cls d pn hz hf => pss_one (ps_ret (pe_lst (pa_cons pe_str (pa_cons (pe_callB (call_isE2 T.cU hz hf) (by rfl) T.z_isinstance (by decide +kernel)
        (pa_cons (pv 3) (pa_cons (pe_glob (v := .ref (A 14)) (by rfl) T.g_ThrowError rfl) pa_nil))) pa_nil))))))), ?_⟩
    have suite : ∀ (H1 : Hp) (x : Addr), Same H H1 → b = 0 → ∀ (p : Addr), H1 p = none → Q (.ref p) (upd H1 p (.lst [.str "unfit", .bl true])) := by
      intro H1 x sm hb p hp
      refine q _ p (sm.trans (same_new hp)) (sm.free hp) ?_
      unfold toldD
      rw [if_pos hb]
      exact .lst (.inl (.inl upd_same)) (.cons (.str _) (.cons (.bl _) .nil))
    have good : b ≠ 0 → ∀ (H1 : Hp) (t : Addr), Same H H1 → H1 t = some (.tup [.int (fA a b), .int (fB a b)]) → ∀ p : Addr, H1 p = none → Q (.ref p) (upd H1 p (.lst [.str "told", .ref t])) := by
      intro hb H1 t sm ht p hp
      refine q _ p (sm.trans (same_new hp)) (sm.free hp) ?_
      unfold toldD
      rw [if_neg hb]
      refine .lst (.inl (.inl upd_same)) (.cons (.str _) (.cons (.tup (xs := [.int (fA a b), .int (fB a b)]) (SqT.of ?_) (.cons (.int _) (.cons (.int _) .nil))) .nil))
      rw [upd_ne (ne_of_none ht hp)]
      exact ht
    refine ⟨_, rfl, _, rfl, ite2 (fun _ => ?_) (fun _ => ?_)⟩
    · refine ⟨_, rfl, _, rfl, rfl, a, b, rfl, sb, fun hb => ?_, fun hb H1 t sm _ ht => ?_⟩
      · refine ⟨true, T.eU, (fun _ x hx => ?_), (fun z => nomatch z)⟩
        refine ⟨_, rfl, rfl, rfl, _, .ref (A 14), true, rfl, (fun u r => r), T.oU, (by show 2 ≤ sizeLine; decide), fun p hp => ?_⟩
        exact suite _ x (Same.refl _) hb p hp
      · exact ⟨(by show 2 ≤ sizeLine; decide), fun p hp => good hb H1 t sm ht p hp⟩
    · refine ⟨_, rfl, _, rfl, a, b, rfl, sb, fun hb => ?_, fun hb H1 t sm _ ht => ?_⟩
      · refine ⟨true, T.eU, (fun _ x hx => ?_), (fun z => nomatch z)⟩
        refine ⟨_, rfl, rfl, rfl, _, .ref (A 14), true, rfl, (fun u r => r), T.oU, (by show 2 ≤ sizeLine; decide), fun p hp => ?_⟩
        exact suite _ x (Same.refl _) hb p hp
      · exact ⟨(by show 2 ≤ sizeLine; decide), fun p hp => good hb H1 t sm ht p hp⟩
/-! ### near -/
def sp_near : Sp := fun vs H Q _ => ∃ (L F t : Addr) (x y : Int), vs = [.ref L, .ref t] ∧ Lm H L F ∧ H t = some (.tup [.int x, .int y]) ∧ Low x y ∧ x.natAbs < 10 ^ 40 ∧ y.natAbs < 10 ^ 40 ∧
  ∀ (H' : Hp) (p : Addr) (u v : Int), Kp L F H H' → Lm H' L F → H' p = some (.tup [.int u, .int v]) → Low u v → Sm u → Sm v → Q (.ref p) H'
theorem kp_same {L F : Addr} {H H' : Hp} (s : Same H H') : Kp L F H H' := fun b o _ _ e => s b o e
theorem Lm.same {H H' : Hp} {L F : Addr} (h : Lm H L F) (s : Same H H') : Lm H' L F := by
  obtain ⟨fs, a, b, h1, h2, h3⟩ := h
  exact ⟨fs, a, b, s _ _ h1, s _ _ h2, h3⟩
theorem Lm.tup {H : Hp} {L F t : Addr} {xs : List V} (h : Lm H L F) (ht : H t = some (.tup xs)) : t ≠ L ∧ t ≠ F := by
  obtain ⟨fs, a, b, h1, h2, h3⟩ := h
  exact ⟨ne_of ht h1 (by intro z; cases z), ne_of ht h2 (by intro z; cases z)⟩
theorem Kp.tup {L F t : Addr} {H H' : Hp} {xs : List V} (k : Kp L F H H') (h : Lm H L F) (ht : H t = some (.tup xs)) : H' t = some (.tup xs) := k _ _ (h.tup ht).1 (h.tup ht).2 ht
theorem p40 : 10 ^ 40 < 2 ^ 1400 := by decide +kernel
theorem p41 : 10 ^ 40 + 1 < 2 ^ 1400 := by decide +kernel
theorem Sm.of40 {x : Int} (h : x.natAbs ≤ 10 ^ 40) : Sm x := Nat.lt_of_le_of_lt h p40
theorem Txt.ok_near (T : Txt K mg A D) : FnOk P w K mg base CX0 3 (A 10) (D 10) ["loom", "one"] sp_near := by
  refine T.F_near.ok sc_near (fun vs H Q E h => ?_) (fun cdv Ar outer s H vs Q E hr h => ?_)
  · obtain ⟨L, F, t, x, y, rfl, _⟩ := h
    rfl
  · obtain ⟨L, F, t, x, y, rfl, hM, ht, lo, hx, hy, q⟩ := h
    refine ⟨_, (pss_cons (ps_set (i := 2) sc_near.nd rfl (Or.inl rfl) (pe_call (T.ok_draw) (hr.mono (by decide)) (by rfl) T.g_draw T.k_draw T.b_draw .nil pass0 (pa_cons (pv 0) (pa_cons pe_int pa_nil))))
    (pss_cons (ps_if (pt_cmpR op_eq (pv 2) pe_int (nomark _)) (pss_one (ps_ret (pv 1))) pss_nil)
    (pss_cons (ps_if (pt_cmpR op_eq (pv 2) pe_int (nomark _)) (pss_one (ps_ret (pe_call (T.ok_frac) hr (by rfl) T.g_frac T.k_frac T.b_frac .nil pass0 (pa_cons (pe_op op_add (pe_ix ix_tup (pv 1) pe_int (fun _ _ => rfl)) pe_int) (pa_cons (pe_ix ix_tup (pv 1) pe_int (fun _ _ => rfl)) pa_nil))))) pss_nil)
    (pss_one (ps_ret (pe_ifExp (pt_cmpR op_eq (pv 2) pe_int (nomark _)) (pe_call (T.ok_frac) hr (by rfl) T.g_frac T.k_frac T.b_frac .nil pass0 (pa_cons (pe_ix ix_tup (pv 1) pe_int (fun _ _ => rfl)) (pa_cons (pe_op op_add (pe_ix ix_tup (pv 1) pe_int (fun _ _ => rfl)) pe_int) pa_nil))) (pe_tup (pa_cons (pe_un un_neg (pe_ix ix_tup (pv 1) pe_int (fun _ _ => rfl))) (pa_cons (pe_ix ix_tup (pv 1) pe_int (fun _ _ => rfl)) pa_nil))))))))), ?_⟩
    refine ⟨_, rfl, L, F, 4, rfl, hM, by decide, fun H1 k kp1 hM1 k0 kl => ?_⟩
    have ht1 : H1 t = some (.tup [.int x, .int y]) := kp1.tup hM ht
    have ypos : 0 < y := lo.1
    refine ⟨_, rfl, rfl, _, rfl, ite2 (fun _ => ?_) (fun _ => ?_)⟩
    · exact ⟨_, rfl, q H1 t x y kp1 hM1 ht1 lo (Sm.of40 (by omega)) (Sm.of40 (by omega))⟩
    · refine ⟨_, rfl, rfl, _, rfl, ite2 (fun _ => ?_) (fun _ => ?_)⟩
      · refine ⟨_, rfl, t, _, _, _, rfl, rfl, SqT.of ht1, at0, _, _, rfl, rfl, _, rfl, t, _, _, _, rfl, rfl, SqT.of ht1, at1, x + 1, y, rfl, by omega, Sm.of40 (by omega), fun H2 p sm hp hv => ?_⟩
        have hb : y ≠ 0 := by omega
        refine q H2 p _ _ (kp1.trans (kp_same sm)) (hM1.same sm) hv (low_f hb) ?_ ?_
        · exact Nat.lt_of_le_of_lt (fA_le hb) (Nat.lt_of_le_of_lt (by omega) p41)
        · exact Nat.lt_of_le_of_lt (fB_le hb) (Nat.lt_of_le_of_lt (by omega) p41)
      · refine ⟨_, rfl, rfl, _, rfl, ite2 (fun _ => ?_) (fun _ => ?_)⟩
        · refine ⟨_, rfl, t, _, _, _, rfl, rfl, SqT.of ht1, at0, _, rfl, t, _, _, _, rfl, rfl, SqT.of ht1, at1, _, _, rfl, rfl, x, y + 1, rfl, by omega, Sm.of40 (by omega), fun H2 p sm hp hv => ?_⟩
          have hb : y + 1 ≠ 0 := by omega
          refine q H2 p _ _ (kp1.trans (kp_same sm)) (hM1.same sm) hv (low_f hb) ?_ ?_
          · exact Nat.lt_of_le_of_lt (fA_le hb) (Nat.lt_of_le_of_lt (by omega) p41)
          · exact Nat.lt_of_le_of_lt (fB_le hb) (Nat.lt_of_le_of_lt (by omega) p41)
        · refine ⟨_, rfl, t, _, _, _, rfl, rfl, SqT.of ht1, at0, _, rfl, _, rfl, t, _, _, _, rfl, rfl, SqT.of ht1, at1, (by show 2 ≤ sizeLine; decide), fun p hp => ?_⟩
          refine q _ p (-x) y (kp1.trans (Kp.new hp)) (hM1.new hp) upd_same ⟨ypos, ?_⟩ (Sm.of40 (by omega)) (Sm.of40 (by omega))
          rw [Int.natAbs_neg]
          exact lo.2
/-! ### is_compared -/
def due (l r : Int) : Int := if l = r then 0 else if l < r then -1 else 1
theorem cmp_due (l r : Int) : cmpI l r = due l r := by
  unfold cmpI due
  split <;> split <;> (try split) <;> omega
theorem cmp_neg (l r : Int) : cmpI r l = -due l r := by
  unfold cmpI due
  split <;> split <;> (try split) <;> omega
theorem due_small (l r : Int) : (due l r).natAbs ≤ 1 := by
  unfold due
  split
  · decide
  · split <;> decide
theorem due_zero {l r : Int} : due l r = 0 ↔ l = r := by
  unfold due
  split
  · simp [*]
  · split <;> simp [*]
def sp_is_compared : Sp := fun vs H Q _ => ∃ (s t : Addr) (a b c d : Int) (n : Bool), vs = [.ref s, .ref t, .bl n] ∧ H s = some (.tup [.int a, .int b]) ∧ H t = some (.tup [.int c, .int d]) ∧
  Low a b ∧ Low c d ∧ Sm a ∧ Sm b ∧ Sm c ∧ Sm d ∧ ∀ H' : Hp, Same H H' → Q (.bl true) H'
theorem fits_small {i : Int} (h : i.natAbs ≤ 1) : fits (.int i) = true := by
  simp only [fits, decide_eq_true_eq]
  have := PySem.Flt.log2_lt_of (n := i.natAbs) (k := 1) (by decide) (by omega)
  omega
theorem Txt.ok_is_compared (T : Txt K mg A D) : FnG P w K mg base CX0 2 (A 11) (D 11) ["one", "other", "is_named"] sp_is_compared := by
  refine okG T.F_is_compared sc_is_compared (fun vs H Q E h => ?_) (fun cdv Ar outer s H vs Q E hA hr h => ?_)
  · obtain ⟨s, t, a, b, c, d, n, rfl, _⟩ := h
    rfl
  · obtain ⟨s1, t1, a, b, c, d, n, rfl, h1, h2, lo1, lo2, sa, sb, sc, sd, q⟩ := h
    have hG : (Ar.deeper (envOfC (Str.ofString "_law_is_compared") (defScope s_is_compared) s.heap.objs.size (A 11) cdv)).guards = some [] := hA
    refine ⟨_, (pss_cons (ps_par (i := 3) (j := 4) rfl sc_is_compared.nd rfl rfl (by decide) rfl rfl (pa_cons (pe_op op_mulW (pe_ix ix_tup (pv 0) pe_int (fun _ _ => rfl)) (pe_ix ix_tup (pv 1) pe_int (fun _ _ => rfl))) (pa_cons (pe_op op_mulW (pe_ix ix_tup (pv 1) pe_int (fun _ _ => rfl)) (pe_ix ix_tup (pv 0) pe_int (fun _ _ => rfl))) pa_nil)) (by rfl))
    (C8.pss_cut (ps_set (i := 5) sc_is_compared.nd rfl (Or.inl rfl) (pe_ifExp (pt_cmpR op_eq (pv 3) (pv 4) (nomark _)) pe_int (pe_ifExp (pt_cmpR op_lt (pv 3) (pv 4) (nomark _)) (pe_un un_neg pe_int) pe_int)))
    (C8.pss_cut (ps_set (i := 6) sc_is_compared.nd rfl (Or.inl rfl) (pe_ifExp (pt_val (pv 2)) (pe_callK0 T.ok_compared hr (by rfl) T.g_compared T.k_compared T.kb_compared pass0 (pk_cons (pv 1) (pk_cons (pv 0) pk_nil))) (pe_call (T.ok_compared) hr (by rfl) T.g_compared T.k_compared T.b_compared .nil pass0 (pa_cons (pv 0) (pa_cons (pv 1) pa_nil)))))
    (pss_one (ps_ret (pe_and (pe_cmpR op_eq (pe_callB (call_repr hG hr.units) (by rfl) T.z_repr (by decide +kernel) (pa_cons (pe_lst (pa_cons (pv 6) (pa_cons (pe_call (T.ok_compared) hr (by rfl) T.g_compared T.k_compared T.b_compared .nil pass0 (pa_cons (pv 1) (pa_cons (pv 0) pa_nil))) pa_nil))) pa_nil)) (pe_callB (call_repr hG hr.units) (by rfl) T.z_repr (by decide +kernel) (pa_cons (pe_lst (pa_cons (pv 5) (pa_cons (pe_un un_neg (pv 5)) pa_nil))) pa_nil)) (nomark _)) (pe_one (pe_cmpR op_eq (pe_cmpR op_eq (pv 5) pe_int (nomark _)) (pe_cmpR (op_eqD hr.units) (pv 0) (pv 1) (nomark _)) (nomark _))))))))), ?_⟩
    refine ⟨_, rfl, s1, _, _, _, rfl, rfl, SqT.of h1, at0, _, rfl, t1, _, _, _, rfl, rfl, SqT.of h2, at1, _, _, rfl, rfl, sa.mul sd, ?_⟩
    refine ⟨_, rfl, t1, _, _, _, rfl, rfl, SqT.of h2, at0, _, rfl, s1, _, _, _, rfl, rfl, SqT.of h1, at1, _, _, rfl, rfl, sc.mul sb, _, _, rfl, ?_⟩
    refine ⟨fun σ' H' => H' = H ∧ σ' = [some (.ref s1), some (.ref t1), some (.bl n), some (.int (a * d)), some (.int (c * b)), some (.int (due (a * d) (c * b))), none], ?_, ?_⟩
    · refine ⟨_, rfl, _, rfl, rfl, _, rfl, ite2 (fun e => ?_) (fun e => ?_)⟩
      · have z : due (a * d) (c * b) = 0 := due_zero.mpr (V.int.inj (of_decide_eq_true e))
        rw [z]
        exact ⟨rfl, rfl⟩
      · have z : a * d ≠ c * b := fun y => vneF e (congrArg V.int y)
        refine ⟨_, rfl, _, rfl, _, _, rfl, rfl, _, rfl, ite2 (fun e1 => ?_) (fun e1 => ?_)⟩
        · have z2 : due (a * d) (c * b) = -1 := by
            unfold due
            rw [if_neg z, if_pos (of_decide_eq_true e1)]
          rw [z2]
          exact ⟨_, rfl, rfl, rfl⟩
        · have z2 : due (a * d) (c * b) = 1 := by
            unfold due
            rw [if_neg z, if_neg (fun y => e1 (decide_eq_true y))]
          rw [z2]
          exact ⟨rfl, rfl⟩
    rintro σ' H' ⟨rfl, rfl⟩
    refine ⟨fun σ' H1 => H1 = H' ∧ σ' = [some (.ref s1), some (.ref t1), some (.bl n), some (.int (a * d)), some (.int (c * b)), some (.int (due (a * d) (c * b))), some (.int (due (a * d) (c * b)))], ?_, ?_⟩
    · refine ⟨_, rfl, _, rfl, ite2 (fun _ => ?_) (fun _ => ?_)⟩
      · refine ⟨_, rfl, _, rfl, rfl, s1, t1, a, b, c, d, rfl, h1, h2, sa, sb, sc, sd, rfl, ?_⟩
        rw [cmp_due]
        rfl
      · refine ⟨_, rfl, _, rfl, s1, t1, a, b, c, d, rfl, h1, h2, sa, sb, sc, sd, rfl, ?_⟩
        rw [cmp_due]
        rfl
    rintro σ' H1 ⟨rfl, rfl⟩
    have small := due_small (a * d) (c * b)
    have zero : due (a * d) (c * b) = 0 ↔ a * d = c * b := due_zero
    have neg : cmpI (c * b) (a * d) = -due (a * d) (c * b) := cmp_neg _ _
    revert small zero neg
    generalize due (a * d) (c * b) = u
    intro small zero neg
    refine ⟨_, rfl, _, rfl, _, rfl, t1, s1, c, d, a, b, rfl, h2, h1, sc, sd, sa, sb, (by show 2 ≤ sizeLine; decide), fun p hp => ?_⟩
    have hd : Dp K (upd H1 p (.lst [.int u, .int (cmpI (c * b) (a * d))])) (.ref p) (.list [.int u, .int (-u)]) := by
      rw [neg]
      exact .lst (.inl (.inl upd_same)) (.cons (.int _) (.cons (.int _) .nil))
    have hf : fits (.list [.int u, .int (-u)]) = true := by
      have f1 := fits_small small
      have f2 := fits_small (i := -u) (by rw [Int.natAbs_neg]; exact small)
      simp only [fits] at f1 f2
      simp only [fits, fitsAll, f1, f2, Bool.and_self]
    refine ⟨p, _, rfl, hd, hf, (by show 3 ≤ 8000; decide), (by show 1 ≤ 60; decide), ?_⟩
    refine ⟨_, rfl, _, rfl, _, rfl, (by show 2 ≤ sizeLine; decide), fun p2 hp2 => ?_⟩
    refine ⟨p2, _, rfl, .lst (.inl (.inl upd_same)) (.cons (.int _) (.cons (.int _) .nil)), hf, (by show 3 ≤ 8000; decide), (by show 1 ≤ 60; decide), rfl, _, rfl, ?_⟩
    have sm : Same H1 (upd (upd H1 p (.lst [.int u, .int (cmpI (c * b) (a * d))])) p2 (.lst [.int u, .int (-u)])) := (same_new hp).trans (same_new hp2)
    refine ite2 (fun _ => ?_) (fun z => absurd (decide_eq_true rfl) z)
    refine ⟨_, rfl, rfl, _, rfl, _, rfl, .tuple [.int a, .int b], .tuple [.int c, .int d], .tup (SqT.of (sm _ _ h1)) (.cons (.int _) (.cons (.int _) .nil)), .tup (SqT.of (sm _ _ h2)) (.cons (.int _) (.cons (.int _) .nil)), shaped_intsT [a, b], shaped_intsT [c, d], rfl, ?_⟩
    have key : decide (V.int u = V.int 0) = PyData.eqv (.tuple [.int a, .int b]) (.tuple [.int c, .int d]) := by
      by_cases z : u = 0
      · obtain ⟨e1, e2⟩ := low_inj lo1 lo2 (zero.mp z)
        rw [z, e1, e2, decide_eq_true rfl]
        simp [PyData.eqv, PyData.eqvAll]
      · rw [decide_eq_false (fun y => z (V.int.inj y))]
        cases q2 : PyData.eqv (.tuple [.int a, .int b]) (.tuple [.int c, .int d]) with
        | false => rfl
        | true =>
          simp only [PyData.eqv, PyData.eqvAll, Bool.and_true, Bool.and_eq_true, beq_iff_eq] at q2
          exact absurd (zero.mpr (by rw [q2.1, q2.2])) z
    rw [key, decide_eq_true rfl]
    exact q _ sm
end
end Ev

namespace Ev
open PySem PySem.Spec PyProof.Rows L2
section
variable {P : Program} {w : World} {K : PySem.W.Frag} {mg : Str → Option Value} {base : Heap} {A : Nat → Addr} {D : Nat → FuncData}
/-! ### the law -/
def FrV (H : Hp) (v : V) : Prop := ∃ (t : Addr) (x y : Int), v = .ref t ∧ H t = some (.tup [.int x, .int y]) ∧ Low x y ∧ Sm x ∧ Sm y
theorem FrV.same {H H' : Hp} {v : V} (s : Same H H') (h : FrV H v) : FrV H' v := by
  obtain ⟨t, x, y, e, ht, r⟩ := h
  exact ⟨t, x, y, e, s _ _ ht, r⟩
structure Stt (L F S : Addr) (ps : List V) (H : Hp) : Prop where
  lm : Lm H L F
  at_ : H S = some (.lst ps)
  nL : S ≠ L
  nF : S ≠ F
  all : ∀ v ∈ ps, FrV H v
theorem Stt.kp {L F S : Addr} {ps : List V} {H H' : Hp} (h : Stt L F S ps H) (k : Kp L F H H') (l : Lm H' L F) : Stt L F S ps H' where
  lm := l
  at_ := k _ _ h.nL h.nF h.at_
  nL := h.nL
  nF := h.nF
  all := fun v hv => by
    obtain ⟨t, x, y, e, ht, r⟩ := h.all v hv
    exact ⟨t, x, y, e, k.tup h.lm ht, r⟩
theorem Stt.same {L F S : Addr} {ps : List V} {H H' : Hp} (h : Stt L F S ps H) (s : Same H H') : Stt L F S ps H' := h.kp (kp_same s) (h.lm.same s)
theorem Stt.new {L F S p : Addr} {ps : List V} {H : Hp} {o : HO} (h : Stt L F S ps H) (hp : H p = none) : Stt L F S ps (upd H p o) := h.same (same_new hp)
theorem Stt.put {L F S : Addr} {ps : List V} {H : Hp} {v : V} (h : Stt L F S ps H) (hv : FrV H v) : Stt L F S (ps ++ [v]) (upd H S (.lst (ps ++ [v]))) := by
  have stay : ∀ {t : Addr} {xs : List V}, H t = some (.tup xs) → (upd H S (.lst (ps ++ [v]))) t = some (.tup xs) := fun {t xs} ht => by
    rw [upd_ne (ne_of ht h.at_ (by intro z; cases z))]
    exact ht
  have fr : ∀ u, FrV H u → FrV (upd H S (.lst (ps ++ [v]))) u := fun u ⟨t, x, y, e, ht, r⟩ => ⟨t, x, y, e, stay ht, r⟩
  refine ⟨?_, upd_same, h.nL, h.nF, fun u hu => fr u ?_⟩
  · obtain ⟨fs, a, b, h1, h2, h3⟩ := h.lm
    exact ⟨fs, a, b, by rw [upd_ne h.nL.symm]; exact h1, by rw [upd_ne h.nF.symm]; exact h2, h3⟩
  · rcases List.mem_append.mp hu with z | z
    · exact h.all u z
    · rw [List.mem_singleton.mp z]
      exact hv
theorem p400s : 10 ^ 400 < 2 ^ 1400 := by decide +kernel
theorem p400b : 30000 < 10 ^ 400 := by decide +kernel
theorem sm400 {x : Int} (h : x.natAbs < 10 ^ 400) : Sm x := Nat.lt_trans h p400s
theorem fits_sm {x : Int} (h : Sm x) : decide (x.natAbs.log2 < 1920) = true := decide_eq_true (Nat.lt_trans h.log (by decide))
theorem fits_told {a b : Int} (ha : Sm a) (hb : Sm b) : fits (toldD a b) = true := by
  unfold toldD
  split
  · decide
  · rename_i h
    have f1 := fits_sm (ha.le (fA_le (b := b) h))
    have f2 := fits_sm (hb.le (fB_le (a := a) h))
    have f3 : (("told" : Str).cps.toList.all fun c => decide (c < 16 ^ 8)) = true := by decide
    simp only [fits, fitsAll, f1, f2, Bool.and_self]
    exact f3
theorem sz_told (a b : Int) : sz (toldD a b) ≤ 100 := by
  unfold toldD
  split <;> exact Nat.le_of_ble_eq_true rfl
theorem depth_told (a b : Int) : (toldD a b).depth ≤ 2 := by
  unfold toldD
  split <;> exact Nat.le_of_ble_eq_true rfl
def sp_law (K : PySem.W.Frag) : Sp := fun vs H Q _ => ∃ (a : Addr) (ns : List Int), vs = [.ref a] ∧ SqL K H a (ns.map V.int) ∧ ns.length ≤ 63 ∧ ∀ H', Q (.bl true) H'
theorem Txt.ok_law (T : Txt K mg A D) : FnG P w K mg base CX0 4 (A 12) (D 12) ["script"] (sp_law K) := by
  refine okG T.F_law sc_law (fun vs H Q E h => ?_) (fun cdv Ar outer s H vs Q E hA hr h => ?_)
  · obtain ⟨a, ns, rfl, _⟩ := h
    rfl
  · obtain ⟨a0, ns, rfl, hS, hlen, q⟩ := h
    have hG : (Ar.deeper (envOfC (Str.ofString "law") (defScope s_law) s.heap.objs.size (A 12) cdv)).guards = some [] := hA
    refine ⟨_, (pss_cons (ps_set (i := 1) sc_law.nd rfl (Or.inl rfl) (pe_call (T.ok_loom) (hr.mono (by decide)) (by rfl) T.g_loom T.k_loom T.b_loom .nil pass0 (pa_cons (pv 0) pa_nil)))
    (pss_cons (ps_set (i := 2) sc_law.nd rfl (Or.inl rfl) (pe_lst pa_nil))
    (pss_cons (ps_for PassesOwn.never rfl (pi_range1 rfl T.range (pa_cons pe_int pa_nil)) (pg_name (i := 3) sc_law.nd rfl (Or.inl rfl)) (pss_cons (ps_par (i := 4) (j := 5) rfl sc_law.nd rfl rfl (by decide) rfl rfl (pa_cons (pe_call (T.ok_number) hr (by rfl) T.g_number T.k_number T.b_number .nil pass0 (pa_cons (pv 1) pa_nil)) (pa_cons (pe_call (T.ok_number) hr (by rfl) T.g_number T.k_number T.b_number .nil pass0 (pa_cons (pv 1) pa_nil)) pa_nil)) (by rfl))
    (pss_cons (ps_set (i := 6) sc_law.nd rfl (Or.inl rfl) (pe_call (T.ok_pick) (hr.mono (by decide)) (by rfl) T.g_pick T.k_pick T.b_pick .nil pass0 (pa_cons (pv 1) (pa_cons (pe_lst (pa_cons pe_int (pa_cons pe_int (pa_cons pe_int (pa_cons pe_int (pa_cons pe_int (pa_cons (pe_un un_neg pe_int) pa_nil))))))) pa_nil))))
    (C8.pss_cut (ps_asg (pe_ifExp (PW.pt (pw_and (pt_cmpR op_lt (pe_callB call_abs (by rfl) T.z_abs (by decide +kernel) (pa_cons (pv 4) pa_nil)) pe_int (nomark _)) (pw_and1 (pt_cmpR op_lt (pe_callB call_abs (by rfl) T.z_abs (by decide +kernel) (pa_cons (pv 5) pa_nil)) pe_int (nomark _))))) (pe_tup (pa_cons (pe_op op_mul (pv 4) (pv 6)) (pa_cons (pe_op op_mul (pv 5) (pv 6)) pa_nil))) (pe_tup (pa_cons (pv 4) (pa_cons (pv 5) pa_nil)))) (pg_tup rfl (pgs_cons (pg_name (i := 4) sc_law.nd rfl (Or.inl rfl)) (pgs_cons (pg_name (i := 5) sc_law.nd rfl (Or.inl rfl)) pgs_nil))))
    (C8.pss_cut (ps_set (i := 7) sc_law.nd rfl (Or.inl rfl) (pe_ifExp (pt_cmpR op_eq (pv 5) pe_int (nomark _)) (pe_lst (pa_cons pe_str (pa_cons pe_bl pa_nil))) (pe_lst (pa_cons pe_str (pa_cons (pe_call (T.ok_frac) (hr.mono (by decide)) (by rfl) T.g_frac T.k_frac T.b_frac .nil pass0 (pa_cons (pv 4) (pa_cons (pv 5) pa_nil))) pa_nil)))))
    (pss_cons (ps_if (PW.pt (pw_or (pt_cmpR op_ne (pe_callB (call_repr hG hr.units) (by rfl) T.z_repr (by decide +kernel) (pa_cons (pe_call (T.ok_told) (hr.mono (by decide)) (by rfl) T.g_told T.k_told T.b_told .nil pass0 (pa_cons (pv 4) (pa_cons (pv 5) (pa_cons (pe_cmpR op_eq (pv 3) pe_int (nomark _)) pa_nil)))) pa_nil)) (pe_callB (call_repr hG hr.units) (by rfl) T.z_repr (by decide +kernel) (pa_cons (pv 7) pa_nil)) (nomark _)) (pw_or1 (pt_cmpR op_ne (pe_callB (call_repr hG hr.units) (by rfl) T.z_repr (by decide +kernel) (pa_cons (pe_call (T.ok_told) (hr.mono (by decide)) (by rfl) T.g_told T.k_told T.b_told .nil pass0 (pa_cons (pv 4) (pa_cons (pv 5) (pa_cons pe_bl pa_nil)))) pa_nil)) (pe_callB (call_repr hG hr.units) (by rfl) T.z_repr (by decide +kernel) (pa_cons (pv 7) pa_nil)) (nomark _))))) (pss_one (ps_ret pe_bl)) pss_nil)
    (pss_one (ps_if (pt_cmpR op_ne (pv 5) pe_int (nomark _)) (pss_one (ps_expr (pe_bm PySem.F.plainAttrs_list PySem.F.slot_list_append PySem.F.type_list_append mt_append (pv 2) (pa_cons (pe_call (T.ok_frac) (hr.mono (by decide)) (by rfl) T.g_frac T.k_frac T.b_frac .nil pass0 (pa_cons (pv 4) (pa_cons (pv 5) pa_nil))) pa_nil)))) pss_nil))))))))
    (pss_cons (ps_if (pt_cmpR op_ne (pe_callB (call_repr hG hr.units) (by rfl) T.z_repr (by decide +kernel) (pa_cons (pe_lst (pa_cons (pe_call (T.ok_told) (hr.mono (by decide)) (by rfl) T.g_told T.k_told T.b_told .nil pass0 (pa_cons pe_int (pa_cons pe_int (pa_cons pe_bl pa_nil)))) (pa_cons (pe_call (T.ok_told) (hr.mono (by decide)) (by rfl) T.g_told T.k_told T.b_told .nil pass0 (pa_cons pe_int (pa_cons pe_int (pa_cons pe_bl pa_nil)))) pa_nil))) pa_nil)) (pe_callB (call_repr hG hr.units) (by rfl) T.z_repr (by decide +kernel) (pa_cons (pe_op op_rep (pe_lst (pa_cons (pe_lst (pa_cons pe_str (pa_cons pe_bl pa_nil))) pa_nil)) pe_int) pa_nil)) (nomark _)) (pss_one (ps_ret pe_bl)) pss_nil)
    (pss_cons (ps_set (i := 2) sc_law.nd rfl (Or.inl rfl) (pe_op op_cat (pv 2) (pe_lst (pa_cons (pe_tup (pa_cons pe_int (pa_cons pe_int pa_nil))) (pa_cons (pe_tup (pa_cons pe_int (pa_cons pe_int pa_nil))) (pa_cons (pe_tup (pa_cons (pe_un un_neg pe_int) (pa_cons pe_int pa_nil))) pa_nil))))))
    (pss_cons (ps_for PassesOwn.never rfl (pi_range1 rfl T.range (pa_cons pe_int pa_nil)) (pg_name (i := 3) sc_law.nd rfl (Or.inl rfl)) (pss_cons (ps_set (i := 8) sc_law.nd rfl (Or.inl rfl) (pe_call (T.ok_pick) (hr.mono (by decide)) (by rfl) T.g_pick T.k_pick T.b_pick .nil pass0 (pa_cons (pv 1) (pa_cons (pv 2) pa_nil))))
    (C8.pss_cut (ps_set (i := 9) sc_law.nd rfl (Or.inl rfl) (pe_ifExp (pt_cmpR op_lt (pe_callB (call_max2 rfl) (by rfl) T.z_max (by decide +kernel) (pa_cons (pe_callB call_abs (by rfl) T.z_abs (by decide +kernel) (pa_cons (pe_ix ix_tup (pv 8) pe_int (fun _ _ => rfl)) pa_nil)) (pa_cons (pe_ix ix_tup (pv 8) pe_int (fun _ _ => rfl)) pa_nil))) (pe_op op_pow pe_int pe_int) (nomark _)) (pe_call (T.ok_near) hr (by rfl) T.g_near T.k_near T.b_near .nil pass0 (pa_cons (pv 1) (pa_cons (pv 8) pa_nil))) (pv 8)))
    (C8.pss_cut (ps_set (i := 9) sc_law.nd rfl (Or.inl rfl) (pe_ifExp (pt_cmpR op_eq (pe_call (T.ok_draw) (hr.mono (by decide)) (by rfl) T.g_draw T.k_draw T.b_draw .nil pass0 (pa_cons (pv 1) (pa_cons pe_int pa_nil))) pe_int (nomark _)) (pe_call (T.ok_pick) (hr.mono (by decide)) (by rfl) T.g_pick T.k_pick T.b_pick .nil pass0 (pa_cons (pv 1) (pa_cons (pv 2) pa_nil))) (pv 9)))
    (pss_one (ps_if (pt_not (pt_val (pe_callG (T.ok_is_compared) hG (hr.mono (by decide)) (by rfl) T.g_is_compared T.k_is_compared T.b_is_compared pass0 (pa_cons (pv 8) (pa_cons (pv 9) (pa_cons (pe_cmpR op_eq (pv 3) pe_int (nomark _)) pa_nil)))))) (pss_one (ps_ret pe_bl)) pss_nil))))))
    (pss_one (ps_ret pe_bl)))))))), ?_⟩
    refine ⟨_, rfl, a0, ns, rfl, hS, hlen, fun H1 L F sm1 hM1 _ _ => ?_⟩
    refine ⟨Nat.zero_le _, fun S hSn => ?_⟩
    have nS := hM1.ne hSn
    -- the first loop
    refine ⟨_, rfl, by decide, by decide, for_range (lo := 0) (n := 14) (fun i σ H' => ∃ (ps : List V) (y3 y4 y5 y6 y7 : Option V), σ = [some (.ref a0), some (.ref L), some (.ref S), y3, y4, y5, y6, y7, none, none] ∧ Stt L F S ps H' ∧ ps.length ≤ i) ?_ ?_ ?_⟩
    · exact ⟨[], none, none, none, none, none, rfl, ⟨hM1.new hSn, upd_same, nS.1, nS.2, fun v hv => by cases hv⟩, Nat.le_refl _⟩
    · rintro i σ H2 hi ⟨ps, y3, y4, y5, y6, y7, rfl, st, hl⟩
      -- a, b
      refine ⟨_, rfl, L, F, rfl, st.lm, fun H3 a1 kp3 hM3 ba => ⟨_, rfl, L, F, rfl, hM3, fun H4 b1 kp4 hM4 bb => ⟨_, _, rfl, ?_⟩⟩⟩
      have st4 := (st.kp kp3 hM3).kp kp4 hM4
      -- shared
      refine ⟨_, rfl, _, rfl, (by show 6 ≤ sizeLine; decide), fun p hp => ?_⟩
      have np := hM4.ne hp
      refine ⟨L, F, p, _, rfl, hM4.new hp, SqL.of upd_same, np.1, np.2, (by show 0 < 6; decide), (by show 6 < 1073741824; decide), fun H5 j x kp5 hM5 hx => ?_⟩
      have st5 := (st4.new hp).kp kp5 hM5
      have hsh : ∃ sh : Int, x = .int sh ∧ sh.natAbs ≤ 30 := by
        have hx' := List.mem_of_getElem? hx
        simp only [List.mem_cons, List.not_mem_nil, or_false] at hx'
        rcases hx' with rfl | rfl | rfl | rfl | rfl | rfl
        · exact ⟨1, rfl, by decide⟩
        · exact ⟨1, rfl, by decide⟩
        · exact ⟨2, rfl, by decide⟩
        · exact ⟨6, rfl, by decide⟩
        · exact ⟨30, rfl, by decide⟩
        · exact ⟨-4, rfl, by decide⟩
      obtain ⟨sh, rfl, hsh⟩ := hsh
      refine ⟨fun σ' H' => ∃ a b : Int, σ' = [some (.ref a0), some (.ref L), some (.ref S), some (.int (0 + (i : Int))), some (.int a), some (.int b), some (.int sh), y7, none, none] ∧ Stt L F S ps H' ∧ a.natAbs < 10 ^ 400 ∧ b.natAbs < 10 ^ 400, ?_, ?_⟩
      · refine ⟨_, rfl, _, rfl, _, _, rfl, rfl, _, rfl, ite2 (fun e1 => ?_) (fun e1 => ?_)⟩
        · refine ⟨_, rfl, _, rfl, _, _, rfl, rfl, _, rfl, ite2 (fun e2 => ?_) (fun e2 => ?_)⟩
          · have l1 : a1.natAbs < 1000 := by
              have := of_decide_eq_true e1
              rw [absI] at this
              omega
            have l2 : b1.natAbs < 1000 := by
              have := of_decide_eq_true e2
              rw [absI] at this
              omega
            refine ⟨_, rfl, _, rfl, _, _, rfl, rfl, .inl ⟨by omega, by omega⟩, _, rfl, _, rfl, _, _, rfl, rfl, .inl ⟨by omega, by omega⟩, (by show 2 ≤ sizeLine; decide), fun t ht => ?_⟩
            refine ⟨t, _, rfl, SqT.of upd_same, rfl, _, _, rfl, _, _, rfl, rfl, ?_⟩
            have big := p400b
            have bound : ∀ z : Int, z.natAbs < 1000 → (z * sh).natAbs < 10 ^ 400 := fun z hz => by
              rw [Int.natAbs_mul]
              have : z.natAbs * sh.natAbs ≤ 1000 * 30 := Nat.mul_le_mul (by omega) hsh
              omega
            exact ⟨a1 * sh, b1 * sh, rfl, st5.new ht, bound a1 l1, bound b1 l2⟩
          · refine ⟨_, rfl, _, rfl, (by show 2 ≤ sizeLine; decide), fun t ht => ?_⟩
            refine ⟨t, _, rfl, SqT.of upd_same, rfl, _, _, rfl, _, _, rfl, rfl, ?_⟩
            exact ⟨a1, b1, rfl, st5.new ht, ba, bb⟩
        · refine iteF ?_
          refine ⟨_, rfl, _, rfl, (by show 2 ≤ sizeLine; decide), fun t ht => ?_⟩
          refine ⟨t, _, rfl, SqT.of upd_same, rfl, _, _, rfl, _, _, rfl, rfl, ?_⟩
          exact ⟨a1, b1, rfl, st5.new ht, ba, bb⟩
      rintro σ' H6 ⟨a, b, rfl, st6, ba', bb'⟩
      have sa := sm400 ba'
      have sb := sm400 bb'
      -- due
      refine ⟨fun σ' H' => ∃ dA : Addr, σ' = [some (.ref a0), some (.ref L), some (.ref S), some (.int (0 + (i : Int))), some (.int a), some (.int b), some (.int sh), some (.ref dA), none, none] ∧ Stt L F S ps H' ∧ Dp K H' (.ref dA) (toldD a b), ?_, ?_⟩
      · refine ⟨_, rfl, rfl, _, rfl, ite2 (fun e => ?_) (fun e => ?_)⟩
        · have hb : b = 0 := V.int.inj (of_decide_eq_true e)
          refine ⟨(by show 2 ≤ sizeLine; decide), fun d hd => ⟨d, rfl, st6.new hd, ?_⟩⟩
          unfold toldD
          rw [if_pos hb]
          exact .lst (.inl (.inl upd_same)) (.cons (.str _) (.cons (.bl _) .nil))
        · have hb : b ≠ 0 := fun z => vneF e (congrArg V.int z)
          refine ⟨_, rfl, _, rfl, a, b, rfl, hb, sb, fun H7 t sm7 ht hv => ⟨(by show 2 ≤ sizeLine; decide), fun d hd => ⟨d, rfl, (st6.same sm7).new hd, ?_⟩⟩⟩
          unfold toldD
          rw [if_neg hb]
          refine .lst (.inl (.inl upd_same)) (.cons (.str _) (.cons (.tup (xs := [.int (fA a b), .int (fB a b)]) (SqT.of ?_) (.cons (.int _) (.cons (.int _) .nil))) .nil))
          rw [upd_ne (ne_of_none hv hd)]
          exact hv
      rintro σ' H7 ⟨dA, rfl, st7, hdA⟩
      have ft := fits_told sa sb
      have fz : sz (toldD a b) ≤ 8000 := Nat.le_trans (sz_told a b) (by decide)
      have fd : (toldD a b).depth ≤ 60 := Nat.le_trans (depth_told a b) (by decide)
      refine ⟨_, rfl, _, rfl, _, rfl, rfl, a, b, _, rfl, sb, fun H8 p8 sm8 _ hd8 => ?_⟩
      refine ⟨p8, _, rfl, hd8, ft, fz, fd, _, rfl, dA, _, rfl, dp_same sm8 _ _ hdA, ft, fz, fd, rfl, _, rfl, nn rfl ?_⟩
      refine ⟨_, rfl, _, rfl, a, b, false, rfl, sb, fun H9 p9 sm9 _ hd9 => ?_⟩
      refine ⟨p9, _, rfl, hd9, ft, fz, fd, _, rfl, dA, _, rfl, dp_same (sm8.trans sm9) _ _ hdA, ft, fz, fd, rfl, _, rfl, nn rfl ?_⟩
      have st9 := (st7.same sm8).same sm9
      refine ⟨_, rfl, rfl, _, rfl, ite2 (fun e => ?_) (fun e => ?_)⟩
      · have hb : b ≠ 0 := fun z => vne e (congrArg V.int z)
        refine ⟨_, rfl, .inl ⟨rfl, _, SqL.of st9.at_⟩, _, rfl, _, rfl, a, b, rfl, hb, sb, fun H10 t sm10 ht hv => ?_⟩
        have st10 := st9.same sm10
        refine ⟨S, _, _, rfl, rfl, st10.at_, small1000 (by omega), ?_⟩
        refine ⟨ps ++ [.ref t], _, _, _, _, _, rfl, st10.put ⟨t, _, _, rfl, hv, low_f hb, sa.le (fA_le hb), sb.le (fB_le hb)⟩, ?_⟩
        rw [List.length_append, List.length_singleton]
        omega
      · exact ⟨ps, _, _, _, _, _, rfl, st9, by omega⟩
    · rintro σ H2 ⟨ps, y3, y4, y5, y6, y7, rfl, st, hl⟩
      -- what is told of 0 below
      have s0 : Sm 0 := (by show 0 < 2 ^ 1400; exact Nat.two_pow_pos _)
      refine ⟨0, 0, false, rfl, s0, fun H3 p3 sm3 _ d3 => ?_⟩
      refine ⟨7, 0, true, rfl, s0, fun H4 p4 sm4 _ d4 => ⟨(by show 2 ≤ sizeLine; decide), fun p5 hp5 => ?_⟩⟩
      have d3' : Dp K H3 (.ref p3) (.list [.str "unfit", .bool true]) := d3
      have d4' : Dp K H4 (.ref p4) (.list [.str "unfit", .bool true]) := d4
      have dd : Dp K (upd H4 p5 (.lst [.ref p3, .ref p4])) (.ref p5) (.list [.list [.str "unfit", .bool true], .list [.str "unfit", .bool true]]) :=
        .lst (.inl (.inl upd_same)) (.cons (dp_same (sm4.trans (same_new hp5)) _ _ d3') (.cons (dp_same (same_new hp5) _ _ d4') .nil))
      refine ⟨p5, _, rfl, dd, by decide, Nat.le_of_ble_eq_true rfl, Nat.le_of_ble_eq_true rfl, ?_⟩
      refine ⟨(by show 2 ≤ sizeLine; decide), fun p6 hp6 => ⟨(by show 1 ≤ sizeLine; decide), fun p7 hp7 => ?_⟩⟩
      refine ⟨p7, 2, _, rfl, rfl, upd_same, by decide, by decide, (by show 1 * 2 ≤ sizeLine; decide), fun p8 hp8 => ?_⟩
      have h6 : (upd (upd (upd (upd H4 p5 (.lst [.ref p3, .ref p4])) p6 (.lst [.str "unfit", .bl true])) p7 (.lst [.ref p6])) p8 (.lst (List.replicate (2 : Int).toNat [V.ref p6]).flatten)) p6 = some (.lst [.str "unfit", .bl true]) := by
        have z7 : p6 ≠ p7 := ne_of_none upd_same hp7
        have z8 : p6 ≠ p8 := ne_of_none (by rw [upd_ne z7]; exact upd_same) hp8
        rw [upd_ne z8, upd_ne z7, upd_same]
      have d6 := Dp.lst (K := K) (.inl (.inl h6)) (.cons (.str "unfit") (.cons (.bl true) .nil))
      refine ⟨p8, .list [.list [.str "unfit", .bool true], .list [.str "unfit", .bool true]], rfl, .lst (xs := [.ref p6, .ref p6]) (.inl (.inl upd_same)) (.cons d6 (.cons d6 .nil)), by decide, Nat.le_of_ble_eq_true rfl, Nat.le_of_ble_eq_true rfl, rfl, _, rfl, nn rfl ?_⟩
      have st8 := (((((st.same sm3).same sm4).new hp5).new hp6).new hp7).new (o := .lst (List.replicate (2 : Int).toNat [V.ref p6]).flatten) hp8
      refine ⟨_, rfl, (by show 2 ≤ sizeLine; decide), fun t1 ht1 => ⟨(by show 2 ≤ sizeLine; decide), fun t2 ht2 => ⟨_, rfl, (by show 2 ≤ sizeLine; decide), fun t3 ht3 => ⟨(by show 3 ≤ sizeLine; decide), fun p9 hp9 => ?_⟩⟩⟩⟩
      have n9 := same_new (o := .lst [.ref t1, .ref t2, .ref t3]) hp9
      have st9 := (((st8.new ht1).new ht2).new ht3).same n9
      have one_sm : Sm 1 := Sm.of40 (by decide +kernel)
      have f1 : FrV _ (.ref t1) := ⟨t1, 0, 1, rfl, n9 _ _ (same_new ht3 _ _ (same_new ht2 _ _ upd_same)), ⟨by decide, by decide⟩, s0, one_sm⟩
      have f2 : FrV _ (.ref t2) := ⟨t2, 1, 1, rfl, n9 _ _ (same_new ht3 _ _ upd_same), ⟨by decide, by decide⟩, one_sm, one_sm⟩
      have f3 : FrV _ (.ref t3) := ⟨t3, -1, 1, rfl, n9 _ _ upd_same, ⟨by decide, by decide⟩, Sm.of40 (by decide +kernel), one_sm⟩
      refine ⟨S, p9, ps, _, rfl, rfl, st9.at_, upd_same, Nat.le_of_lt (small1000 (by show ps.length + 3 ≤ 1000; omega)), fun S2 hS2 => ?_⟩
      have nS2 := st9.lm.ne hS2
      have n10 := same_new (o := .lst (ps ++ [.ref t1, .ref t2, .ref t3])) hS2
      have st10 : Stt L F S2 (ps ++ [.ref t1, .ref t2, .ref t3]) _ := ⟨st9.lm.same n10, upd_same, nS2.1, nS2.2, fun v hv => FrV.same n10 (by
        rcases List.mem_append.mp hv with z | z
        · exact st9.all v z
        · simp only [List.mem_cons, List.not_mem_nil, or_false] at z
          rcases z with rfl | rfl | rfl
          · exact f1
          · exact f2
          · exact f3)⟩
      have hq : 0 < (ps ++ [V.ref t1, .ref t2, .ref t3]).length ∧ (ps ++ [V.ref t1, .ref t2, .ref t3]).length < 1073741824 := by
        rw [List.length_append]
        show 0 < ps.length + 3 ∧ ps.length + 3 < 1073741824
        omega
      revert st10 hq
      generalize ps ++ [V.ref t1, .ref t2, .ref t3] = qs
      intro st10 hq
      -- the second loop
      refine ⟨_, rfl, by decide, by decide, for_range (lo := 0) (n := 16) (fun i σ H' => ∃ (y3 y4 y5 y6 y7 y8 y9 : Option V), σ = [some (.ref a0), some (.ref L), some (.ref S2), y3, y4, y5, y6, y7, y8, y9] ∧ Stt L F S2 qs H') ⟨_, _, _, _, _, _, _, rfl, st10⟩ ?_ ?_⟩
      · rintro i σ H11 hi ⟨y3, y4, y5, y6, y7, y8, y9, rfl, st⟩
        refine ⟨_, rfl, _, rfl, L, F, S2, qs, rfl, st.lm, SqL.of st.at_, st.nL, st.nF, hq.1, hq.2, fun H12 j v kp12 hM12 hv => ?_⟩
        have st12 := st.kp kp12 hM12
        obtain ⟨t, x, y, rfl, ht, lo, sx, sy⟩ := st12.all v (List.mem_of_getElem? hv)
        refine ⟨fun σ' H' => ∃ (u : Addr) (z r : Int), σ' = [some (.ref a0), some (.ref L), some (.ref S2), some (.int (0 + (i : Int))), y4, y5, y6, y7, some (.ref t), some (.ref u)] ∧ Stt L F S2 qs H' ∧ H' t = some (.tup [.int x, .int y]) ∧ H' u = some (.tup [.int z, .int r]) ∧ Low z r ∧ Sm z ∧ Sm r, ?_, ?_⟩
        · refine ⟨_, rfl, t, _, _, _, rfl, rfl, SqT.of ht, at0, _, rfl, _, rfl, t, _, _, _, rfl, rfl, SqT.of ht, at1, _, _, rfl, _, _, rfl, rfl, ⟨by decide, by decide, by decide⟩, _, _, rfl, rfl, _, rfl, ite2 (fun e => ?_) (fun e => ?_)⟩
          · have e' := of_decide_eq_true e
            rw [absI] at e'
            have big : ((10 : Int) ^ (40 : Int).toNat) = ((10 ^ 40 : Nat) : Int) := by decide +kernel
            rw [big] at e'
            have ypos : 0 < y := lo.1
            have l1 : x.natAbs < 10 ^ 40 := by
              split at e' <;> omega
            have l2 : y.natAbs < 10 ^ 40 := by
              split at e' <;> omega
            refine ⟨_, rfl, _, rfl, L, F, t, x, y, rfl, hM12, ht, lo, l1, l2, fun H13 u z r kp13 hM13 hu lo2 sz' sr => ?_⟩
            exact ⟨u, z, r, rfl, st12.kp kp13 hM13, kp13.tup hM12 ht, hu, lo2, sz', sr⟩
          · exact ⟨_, rfl, t, x, y, rfl, st12, ht, ht, lo, sx, sy⟩
        rintro σ' H13 ⟨u, z, r, rfl, st13, ht13, hu13, lo2, sz', sr⟩
        refine ⟨fun σ' H' => ∃ (u : Addr) (z r : Int), σ' = [some (.ref a0), some (.ref L), some (.ref S2), some (.int (0 + (i : Int))), y4, y5, y6, y7, some (.ref t), some (.ref u)] ∧ Stt L F S2 qs H' ∧ H' t = some (.tup [.int x, .int y]) ∧ H' u = some (.tup [.int z, .int r]) ∧ Low z r ∧ Sm z ∧ Sm r, ?_, ?_⟩
        · refine ⟨_, rfl, L, F, 3, rfl, st13.lm, by decide, fun H14 k kp14 hM14 k0 kl => ⟨rfl, _, rfl, ite2 (fun e => ?_) (fun e => ?_)⟩⟩
          · have st14 := st13.kp kp14 hM14
            refine ⟨_, rfl, _, rfl, L, F, S2, qs, rfl, hM14, SqL.of st14.at_, st.nL, st.nF, hq.1, hq.2, fun H15 j2 v2 kp15 hM15 hv2 => ?_⟩
            have st15 := st14.kp kp15 hM15
            obtain ⟨t2, x2, y2, rfl, ht2', lo3, sx2, sy2⟩ := st15.all v2 (List.mem_of_getElem? hv2)
            exact ⟨t2, x2, y2, rfl, st15, kp15.tup hM14 (kp14.tup st13.lm ht13), ht2', lo3, sx2, sy2⟩
          · exact ⟨_, rfl, u, z, r, rfl, st13.kp kp14 hM14, kp14.tup st13.lm ht13, kp14.tup st13.lm hu13, lo2, sz', sr⟩
        rintro σ' H14 ⟨u2, z2, r2, rfl, st14, ht14, hu14, lo3, sz2, sr2⟩
        refine ⟨_, rfl, _, rfl, _, rfl, rfl, t, u2, x, y, z2, r2, _, rfl, ht14, hu14, lo, lo3, sx, sy, sz2, sr2, fun H15 sm15 => ⟨_, rfl, iteF ?_⟩⟩
        exact ⟨_, _, _, _, _, _, _, rfl, st14.same sm15⟩
      · rintro σ H11 ⟨y3, y4, y5, y6, y7, y8, y9, rfl, st⟩
        exact q _
end
end Ev

namespace Ev
open PySem PySem.Spec PyProof.Rows L2
theorem all_mk {l : PySem.W.OpenLaw} {w : World} {K : PySem.W.Frag} {h : Heap} {mg : Str → Option Value} {fa : Addr}
    (X : K.In h) (G : h.Ns mainGlobals mg) (hfa : mg "law" = some (.ref fa))
    {f0 : Addr} {od0 an0 : Option Addr} {sl0 : Array (Option Value)} {oc0 kV0 dc0 pm0 cd0 ct0 : Value}
    (a0 : PySem.W.nsIn K mainGlobals "lowest" = some (some (.ref f0)))
    (l0 : K.lookup f0 = some ⟨oc0, od0, .func (PySem.W.fnOf "lowest" "lowest" (defArgs s_lowest) (defBody s_lowest) (defScope s_lowest) .none kV0 dc0 pm0 an0 cd0 ct0), sl0⟩)
    (c0 : PySem.W.codeIn K cd0 "lowest" = true)
    (k0 : PySem.W.keepIn K (.ref f0) = true)
    {f1 : Addr} {od1 an1 : Option Addr} {sl1 : Array (Option Value)} {oc1 kV1 dc1 pm1 cd1 ct1 : Value}
    (a1 : PySem.W.nsIn K mainGlobals "compared" = some (some (.ref f1)))
    (l1 : K.lookup f1 = some ⟨oc1, od1, .func (PySem.W.fnOf "compared" "compared" (defArgs s_compared) (defBody s_compared) (defScope s_compared) .none kV1 dc1 pm1 an1 cd1 ct1), sl1⟩)
    (c1 : PySem.W.codeIn K cd1 "compared" = true)
    (k1 : PySem.W.keepIn K (.ref f1) = true)
    {f2 : Addr} {od2 an2 : Option Addr} {sl2 : Array (Option Value)} {oc2 kV2 dc2 pm2 cd2 ct2 : Value}
    (a2 : PySem.W.nsIn K mainGlobals "_law_loom" = some (some (.ref f2)))
    (l2 : K.lookup f2 = some ⟨oc2, od2, .func (PySem.W.fnOf "_law_loom" "_law_loom" (defArgs s_loom) (defBody s_loom) (defScope s_loom) .none kV2 dc2 pm2 an2 cd2 ct2), sl2⟩)
    (c2 : PySem.W.codeIn K cd2 "_law_loom" = true)
    (k2 : PySem.W.keepIn K (.ref f2) = true)
    {f3 : Addr} {od3 an3 : Option Addr} {sl3 : Array (Option Value)} {oc3 kV3 dc3 pm3 cd3 ct3 : Value}
    (a3 : PySem.W.nsIn K mainGlobals "_law_draw" = some (some (.ref f3)))
    (l3 : K.lookup f3 = some ⟨oc3, od3, .func (PySem.W.fnOf "_law_draw" "_law_draw" (defArgs s_draw) (defBody s_draw) (defScope s_draw) .none kV3 dc3 pm3 an3 cd3 ct3), sl3⟩)
    (c3 : PySem.W.codeIn K cd3 "_law_draw" = true)
    (k3 : PySem.W.keepIn K (.ref f3) = true)
    {f4 : Addr} {od4 an4 : Option Addr} {sl4 : Array (Option Value)} {oc4 kV4 dc4 pm4 cd4 ct4 : Value}
    (a4 : PySem.W.nsIn K mainGlobals "_law_pick" = some (some (.ref f4)))
    (l4 : K.lookup f4 = some ⟨oc4, od4, .func (PySem.W.fnOf "_law_pick" "_law_pick" (defArgs s_pick) (defBody s_pick) (defScope s_pick) .none kV4 dc4 pm4 an4 cd4 ct4), sl4⟩)
    (c4 : PySem.W.codeIn K cd4 "_law_pick" = true)
    (k4 : PySem.W.keepIn K (.ref f4) = true)
    {f5 : Addr} {od5 an5 : Option Addr} {sl5 : Array (Option Value)} {oc5 kV5 dc5 pm5 cd5 ct5 : Value}
    (a5 : PySem.W.nsIn K mainGlobals "_law_gcd" = some (some (.ref f5)))
    (l5 : K.lookup f5 = some ⟨oc5, od5, .func (PySem.W.fnOf "_law_gcd" "_law_gcd" (defArgs s_gcd) (defBody s_gcd) (defScope s_gcd) .none kV5 dc5 pm5 an5 cd5 ct5), sl5⟩)
    (c5 : PySem.W.codeIn K cd5 "_law_gcd" = true)
    (k5 : PySem.W.keepIn K (.ref f5) = true)
    {f6 : Addr} {od6 an6 : Option Addr} {sl6 : Array (Option Value)} {oc6 kV6 dc6 pm6 cd6 ct6 : Value}
    (a6 : PySem.W.nsIn K mainGlobals "_law_frac" = some (some (.ref f6)))
    (l6 : K.lookup f6 = some ⟨oc6, od6, .func (PySem.W.fnOf "_law_frac" "_law_frac" (defArgs s_frac) (defBody s_frac) (defScope s_frac) .none kV6 dc6 pm6 an6 cd6 ct6), sl6⟩)
    (c6 : PySem.W.codeIn K cd6 "_law_frac" = true)
    (k6 : PySem.W.keepIn K (.ref f6) = true)
    {f7 : Addr} {od7 an7 : Option Addr} {sl7 : Array (Option Value)} {oc7 kV7 dc7 pm7 cd7 ct7 : Value}
    (a7 : PySem.W.nsIn K mainGlobals "_law_far" = some (some (.ref f7)))
    (l7 : K.lookup f7 = some ⟨oc7, od7, .func (PySem.W.fnOf "_law_far" "_law_far" (defArgs s_far) (defBody s_far) (defScope s_far) .none kV7 dc7 pm7 an7 cd7 ct7), sl7⟩)
    (c7 : PySem.W.codeIn K cd7 "_law_far" = true)
    (k7 : PySem.W.keepIn K (.ref f7) = true)
    {f8 : Addr} {od8 an8 : Option Addr} {sl8 : Array (Option Value)} {oc8 kV8 dc8 pm8 cd8 ct8 : Value}
    (a8 : PySem.W.nsIn K mainGlobals "_law_number" = some (some (.ref f8)))
    (l8 : K.lookup f8 = some ⟨oc8, od8, .func (PySem.W.fnOf "_law_number" "_law_number" (defArgs s_number) (defBody s_number) (defScope s_number) .none kV8 dc8 pm8 an8 cd8 ct8), sl8⟩)
    (c8 : PySem.W.codeIn K cd8 "_law_number" = true)
    (k8 : PySem.W.keepIn K (.ref f8) = true)
    {f9 : Addr} {od9 an9 : Option Addr} {sl9 : Array (Option Value)} {oc9 kV9 dc9 pm9 cd9 ct9 : Value}
    (a9 : PySem.W.nsIn K mainGlobals "_law_told" = some (some (.ref f9)))
    (l9 : K.lookup f9 = some ⟨oc9, od9, .func (PySem.W.fnOf "_law_told" "_law_told" (defArgs s_told) (defBody s_told) (defScope s_told) .none kV9 dc9 pm9 an9 cd9 ct9), sl9⟩)
    (c9 : PySem.W.codeIn K cd9 "_law_told" = true)
    (k9 : PySem.W.keepIn K (.ref f9) = true)
    {f10 : Addr} {od10 an10 : Option Addr} {sl10 : Array (Option Value)} {oc10 kV10 dc10 pm10 cd10 ct10 : Value}
    (a10 : PySem.W.nsIn K mainGlobals "_law_near" = some (some (.ref f10)))
    (l10 : K.lookup f10 = some ⟨oc10, od10, .func (PySem.W.fnOf "_law_near" "_law_near" (defArgs s_near) (defBody s_near) (defScope s_near) .none kV10 dc10 pm10 an10 cd10 ct10), sl10⟩)
    (c10 : PySem.W.codeIn K cd10 "_law_near" = true)
    (k10 : PySem.W.keepIn K (.ref f10) = true)
    {f11 : Addr} {od11 an11 : Option Addr} {sl11 : Array (Option Value)} {oc11 kV11 dc11 pm11 cd11 ct11 : Value}
    (a11 : PySem.W.nsIn K mainGlobals "_law_is_compared" = some (some (.ref f11)))
    (l11 : K.lookup f11 = some ⟨oc11, od11, .func (PySem.W.fnOf "_law_is_compared" "_law_is_compared" (defArgs s_is_compared) (defBody s_is_compared) (defScope s_is_compared) .none kV11 dc11 pm11 an11 cd11 ct11), sl11⟩)
    (c11 : PySem.W.codeIn K cd11 "_law_is_compared" = true)
    (k11 : PySem.W.keepIn K (.ref f11) = true)
    {f12 : Addr} {od12 an12 : Option Addr} {sl12 : Array (Option Value)} {oc12 kV12 dc12 pm12 cd12 ct12 : Value}
    (a12 : PySem.W.nsIn K mainGlobals "law" = some (some (.ref f12)))
    (l12 : K.lookup f12 = some ⟨oc12, od12, .func (PySem.W.fnOf "law" "law" (defArgs s_law) (defBody s_law) (defScope s_law) .none kV12 dc12 pm12 an12 cd12 ct12), sl12⟩)
    (c12 : PySem.W.codeIn K cd12 "law" = true)
    (k12 : PySem.W.keepIn K (.ref f12) = true)
    {f13 : Addr}
    (a13 : PySem.W.nsIn K mainGlobals "Unfit" = some (some (.ref f13)))
    {f14 : Addr}
    (a14 : PySem.W.nsIn K mainGlobals "ThrowError" = some (some (.ref f14)))
    (n_int : PySem.W.nsIn K mainGlobals "int" = some none)
    (n_len : PySem.W.nsIn K mainGlobals "len" = some none)
    (n_abs : PySem.W.nsIn K mainGlobals "abs" = some none)
    (n_max : PySem.W.nsIn K mainGlobals "max" = some none)
    (n_repr : PySem.W.nsIn K mainGlobals "repr" = some none)
    (n_range : PySem.W.nsIn K mainGlobals "range" = some none)
    (n_isinstance : PySem.W.nsIn K mainGlobals "isinstance" = some none)
    (n_gcd : PySem.W.nsIn K mainGlobals "gcd" = some (some (.builtin "math.gcd")))
    (q_xU : PySem.W.excIn K (f13) [.type "ValueError", .type "Exception", .type "BaseException", .type "object"] "ValueError.__new__" = true)
    (q_kU : PySem.W.keepIn K (.ref (f13)) = true)
    (q_bU : PySem.W.subIn K (.ref (f13)) (.type "BaseException") = some true)
    (q_tU : PySem.W.typeIn K (.ref (f13)) = some (.type "type"))
    (q_sU : PySem.W.subIn K (.ref (f13)) (.ref (f13)) = some true)
    (cU1 : PySem.W.findIn K (.ref f13) "__getattribute__" = some (some (.builtin "BaseException.__getattribute__")))
    (cU2 : PySem.W.findIn K (.ref f13) "__getattr__" = some none)
    (cU3 : PySem.W.subIn K (.ref f13) (.type "BaseException") = some true)
    (cU4 : PySem.W.hasDictIn K f13 = true)
    (cU5 : PySem.W.findIn K (.ref f13) "__class__" = some (some (.builtin "object.__class__")))
    (cU6 : PySem.W.specialIn K (.builtin "object.__class__") "__get__" = some (some (.builtin "getset_descriptor.__get__")))
    (cU7 : PySem.W.takesIn K (.builtin "object.__class__") = some true)
    (cU8 : PySem.W.mroIn K f13 (.type "object") = some true)
    (q_oU : PySem.W.kitOne K (.ref (f13)) (.ref (f14)) = some true)
    : ∃ fd : FuncData, (∀ (s : Shared) (v : Value), BindsTo s fd ⟨[v], []⟩ [("script", v)]) ∧ ∀ base : Heap, K.In base → base.Ns mainGlobals mg →
      FnG l.prog w K mg base CX0 4 fa fd ["script"] (sp_law K) := by
  have e : f12 = fa := by
    cases hfa.symm.trans (PySem.W.mg_of X G a12)
    rfl
  subst e
  have T : Txt K mg (fun i => [f0, f1, f2, f3, f4, f5, f6, f7, f8, f9, f10, f11, f12, f13, f14].getD i 0) (fun i => [(PySem.W.fnOf "lowest" "lowest" (defArgs s_lowest) (defBody s_lowest) (defScope s_lowest) .none kV0 dc0 pm0 an0 cd0 ct0),
      (PySem.W.fnOf "compared" "compared" (defArgs s_compared) (defBody s_compared) (defScope s_compared) .none kV1 dc1 pm1 an1 cd1 ct1),
      (PySem.W.fnOf "_law_loom" "_law_loom" (defArgs s_loom) (defBody s_loom) (defScope s_loom) .none kV2 dc2 pm2 an2 cd2 ct2),
      (PySem.W.fnOf "_law_draw" "_law_draw" (defArgs s_draw) (defBody s_draw) (defScope s_draw) .none kV3 dc3 pm3 an3 cd3 ct3),
      (PySem.W.fnOf "_law_pick" "_law_pick" (defArgs s_pick) (defBody s_pick) (defScope s_pick) .none kV4 dc4 pm4 an4 cd4 ct4),
      (PySem.W.fnOf "_law_gcd" "_law_gcd" (defArgs s_gcd) (defBody s_gcd) (defScope s_gcd) .none kV5 dc5 pm5 an5 cd5 ct5),
      (PySem.W.fnOf "_law_frac" "_law_frac" (defArgs s_frac) (defBody s_frac) (defScope s_frac) .none kV6 dc6 pm6 an6 cd6 ct6),
      (PySem.W.fnOf "_law_far" "_law_far" (defArgs s_far) (defBody s_far) (defScope s_far) .none kV7 dc7 pm7 an7 cd7 ct7),
      (PySem.W.fnOf "_law_number" "_law_number" (defArgs s_number) (defBody s_number) (defScope s_number) .none kV8 dc8 pm8 an8 cd8 ct8),
      (PySem.W.fnOf "_law_told" "_law_told" (defArgs s_told) (defBody s_told) (defScope s_told) .none kV9 dc9 pm9 an9 cd9 ct9),
      (PySem.W.fnOf "_law_near" "_law_near" (defArgs s_near) (defBody s_near) (defScope s_near) .none kV10 dc10 pm10 an10 cd10 ct10),
      (PySem.W.fnOf "_law_is_compared" "_law_is_compared" (defArgs s_is_compared) (defBody s_is_compared) (defScope s_is_compared) .none kV11 dc11 pm11 an11 cd11 ct11),
      (PySem.W.fnOf "law" "law" (defArgs s_law) (defBody s_law) (defScope s_law) .none kV12 dc12 pm12 an12 cd12 ct12)].getD i (PySem.W.fnOf "lowest" "lowest" (defArgs s_lowest) (defBody s_lowest) (defScope s_lowest) .none kV0 dc0 pm0 an0 cd0 ct0)) :=
    { F_lowest := fun_mk (st := s_lowest) l0 c0 k0,
      g_lowest := PySem.W.mg_of X G a0,
      F_compared := fun_mk (st := s_compared) l1 c1 k1,
      g_compared := PySem.W.mg_of X G a1,
      F_loom := fun_mk (st := s_loom) l2 c2 k2,
      g_loom := PySem.W.mg_of X G a2,
      F_draw := fun_mk (st := s_draw) l3 c3 k3,
      g_draw := PySem.W.mg_of X G a3,
      F_pick := fun_mk (st := s_pick) l4 c4 k4,
      g_pick := PySem.W.mg_of X G a4,
      F_gcd := fun_mk (st := s_gcd) l5 c5 k5,
      g_gcd := PySem.W.mg_of X G a5,
      F_frac := fun_mk (st := s_frac) l6 c6 k6,
      g_frac := PySem.W.mg_of X G a6,
      F_far := fun_mk (st := s_far) l7 c7 k7,
      g_far := PySem.W.mg_of X G a7,
      F_number := fun_mk (st := s_number) l8 c8 k8,
      g_number := PySem.W.mg_of X G a8,
      F_told := fun_mk (st := s_told) l9 c9 k9,
      g_told := PySem.W.mg_of X G a9,
      F_near := fun_mk (st := s_near) l10 c10 k10,
      g_near := PySem.W.mg_of X G a10,
      F_is_compared := fun_mk (st := s_is_compared) l11 c11 k11,
      g_is_compared := PySem.W.mg_of X G a11,
      F_law := fun_mk (st := s_law) l12 c12 k12,
      g_law := PySem.W.mg_of X G a12,
      g_Unfit := PySem.W.mg_of X G a13,
      g_ThrowError := PySem.W.mg_of X G a14,
      z_int := PySem.W.mg_none_of X G n_int,
      z_len := PySem.W.mg_none_of X G n_len,
      z_abs := PySem.W.mg_none_of X G n_abs,
      z_max := PySem.W.mg_none_of X G n_max,
      z_repr := PySem.W.mg_none_of X G n_repr,
      range := PySem.W.mg_none_of X G n_range,
      z_isinstance := PySem.W.mg_none_of X G n_isinstance,
      z_gcd := PySem.W.mg_of X G n_gcd,
      xU := q_xU,
      kU := q_kU,
      bU := q_bU,
      tU := q_tU,
      sU := q_sU,
      cU := ⟨cU1, cU2, cU3, cU4, cU5, cU6, cU7, cU8⟩,
      oU := q_oU }
  exact ⟨_, fun s v => .of_eq rfl, fun base _ _ => T.ok_law⟩
end Ev

open PySem PySem.W PyProof.Rows in
set_option maxRecDepth 100000 in
set_option maxHeartbeats 0 in
theorem PySem.Challenge.cw_everystart_k01_whole_fractions_in_lowest_holds : PySem.Challenge.rw_everystart_k01_whole_fractions_in_lowest.Holds := by
  w_on; o_law; k_head; (case hw => w_witness2)
  k_fill
  refine Ev.walk_ofG (l := PySem.Challenge.rw_everystart_k01_whole_fractions_in_lowest) (n := 63) (k := 4) (x := "script") (sp := fun w => Ev.sp_law _) rfl (by decide) rfl ⟨rfl, by decide, by decide⟩ (fun w h Y => PySem.W.kIn_of Y) ?F (fun _ _ a ns hl _ hS => ⟨a, ns, rfl, hS, hl, fun _ => rfl⟩)
  case F =>
    intro w mg fa h KX G hmg
    refine' Ev.all_mk KX G hmg ?a0 ?l0 ?c0 ?k0 ?a1 ?l1 ?c1 ?k1 ?a2 ?l2 ?c2 ?k2 ?a3 ?l3 ?c3 ?k3 ?a4 ?l4 ?c4 ?k4 ?a5 ?l5 ?c5 ?k5 ?a6 ?l6 ?c6 ?k6 ?a7 ?l7 ?c7 ?k7 ?a8 ?l8 ?c8 ?k8 ?a9 ?l9 ?c9 ?k9 ?a10 ?l10 ?c10 ?k10 ?a11 ?l11 ?c11 ?k11 ?a12 ?l12 ?c12 ?k12 ?a13 ?a14 ?n_int ?n_len ?n_abs ?n_max ?n_repr ?n_range ?n_isinstance ?n_gcd ?q_xU ?q_kU ?q_bU ?q_tU ?q_sU ?cU1 ?cU2 ?cU3 ?cU4 ?cU5 ?cU6 ?cU7 ?cU8 ?q_oU
    (case a0 => k_is)
    (case l0 => k_is)
    (case c0 => k_is)
    (case k0 => k_is)
    (case a1 => k_is)
    (case l1 => k_is)
    (case c1 => k_is)
    (case k1 => k_is)
    (case a2 => k_is)
    (case l2 => k_is)
    (case c2 => k_is)
    (case k2 => k_is)
    (case a3 => k_is)
    (case l3 => k_is)
    (case c3 => k_is)
    (case k3 => k_is)
    (case a4 => k_is)
    (case l4 => k_is)
    (case c4 => k_is)
    (case k4 => k_is)
    (case a5 => k_is)
    (case l5 => k_is)
    (case c5 => k_is)
    (case k5 => k_is)
    (case a6 => k_is)
    (case l6 => k_is)
    (case c6 => k_is)
    (case k6 => k_is)
    (case a7 => k_is)
    (case l7 => k_is)
    (case c7 => k_is)
    (case k7 => k_is)
    (case a8 => k_is)
    (case l8 => k_is)
    (case c8 => k_is)
    (case k8 => k_is)
    (case a9 => k_is)
    (case l9 => k_is)
    (case c9 => k_is)
    (case k9 => k_is)
    (case a10 => k_is)
    (case l10 => k_is)
    (case c10 => k_is)
    (case k10 => k_is)
    (case a11 => k_is)
    (case l11 => k_is)
    (case c11 => k_is)
    (case k11 => k_is)
    (case a12 => k_is)
    (case l12 => k_is)
    (case c12 => k_is)
    (case k12 => k_is)
    (case a13 => k_is)
    (case a14 => k_is)
    (case n_int => k_is)
    (case n_len => k_is)
    (case n_abs => k_is)
    (case n_max => k_is)
    (case n_repr => k_is)
    (case n_range => k_is)
    (case n_isinstance => k_is)
    (case n_gcd => k_is)
    (case q_xU => k_exc)
    (case q_kU => k_is)
    (case q_bU => k_is)
    (case q_tU => k_is)
    (case q_sU => k_is)
    (case cU1 => k_is)
    (case cU2 => k_is)
    (case cU3 => k_is)
    (case cU4 => k_is)
    (case cU5 => k_is)
    (case cU6 => k_is)
    (case cU7 => k_is)
    (case cU8 => k_is)
    (case q_oU => kit_is)
