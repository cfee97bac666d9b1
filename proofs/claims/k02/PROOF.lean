import PyProof.Rows.All
import Wide.All
import OpenK.AllK
import Wide.FinOn
import PyProof.EqAt
import PyProof.EqKinds
import PyProof.TupleCall
import HandS.ForMost
import HandS.ForExc
import HandS.Wide
import HandS.Gcd
import HandS.ExcIs
import HandS.ExcBuiltin
import HandS.RaiseMore
import HandS.Codes
import HandS.StrMore
import HandS.IsInst
import HandS.Rev
import HandS.WideBits
import HandS.FStr
import HandS.MapObj
import HandS.Flow
import HandS.Style
import HandS.Walk
import HandS.Text
import KE.KMathGC
import PySem.Challenge.RW_everystart_k02_whole_texts_of_fractions
set_option Elab.async false
set_option linter.all false
set_option maxRecDepth 100000
set_option pp.maxSteps 1500
set_option pp.maxSteps 1200
set_option exponentiation.threshold 256
namespace Ev
open PySem PySem.Spec PyProof.Rows L2

/-! ### promises of defs that run where nothing is being shown (the list of guards is known to be empty) -/
structure FnG (P : Program) (w : World) (K : PySem.W.Frag) (mg : Str → Option Value) (base : Heap) (CX : CXT) (k : Nat)
    (f : Addr) (fd : FuncData) (ps : List Str) (sp : Sp) : Prop where
  len : ∀ vs H Q E, sp vs H Q E → vs.length = ps.length
  run : ∀ (A : Around), A.guards = some [] → ∀ (outer : List Env) (s : Shared) (H : Hp) (args : Args) (us : List Value) (vs : List V)
    (Q : VK) (E : XK), Room k A → Env0 P w K mg base A outer s H → BindsTo s fd args (ps.zip us) → Vals vs us → sp vs H Q E →
    codeAny (model P w) A (.call (.ref f) args) (CR CX outer P w H s Q E) s

theorem FnG.of {P : Program} {w : World} {K : PySem.W.Frag} {mg : Str → Option Value} {base : Heap} {CX : CXT} {k : Nat}
    {f : Addr} {fd : FuncData} {ps : List Str} {sp : Sp} (F : FnOk P w K mg base CX k f fd ps sp) : FnG P w K mg base CX k f fd ps sp :=
  ⟨F.len, fun A _ outer s H args us vs Q E hr he hb hv hs => F.run A outer s H args us vs Q E hr he hb hv hs⟩

section
variable {P : Program} {w : World} {K : PySem.W.Frag} {mg : Str → Option Value} {base : Heap}
theorem okG {x qual : Str} {st : Stmt} {f : Addr} {fd : FuncData} {N ps : List Str} {k : Nat} {sp : Sp}
    (F : Fun K x qual st f fd) (S : FnScope N ps (defScope st)) (len : ∀ vs H Q E, sp vs H Q E → vs.length = ps.length)
    (hbody : ∀ (cdv : Value) (A : Around) (outer : List Env) (s : Shared) (H : Hp) (vs : List V) (Q : VK) (E : XK), A.guards = some [] →
      Room k (A.deeper (envOfC qual (defScope st) s.heap.objs.size f cdv)) → sp vs H Q E →
      ∃ t, PSs (cxOf CX0 P w K mg base N qual (defScope st) f cdv A outer s H E).nox (defBody st) t ∧
        t { nx := fun _ H' => Q .non H', rt := Q } (start N vs) H) : FnG P w K mg base CX0 (k + 1) f fd ps sp := by
  obtain ⟨c1, c2, c3, c4, c5, c6, c7, c8, c9, rfl, lk, hcd⟩ := F.ex
  refine ⟨len, fun A hA outer s H args us vs Q E hr e0 hb r hsp => ?_⟩
  have long := len _ _ _ _ hsp
  have stays := e0.mod.kin.keeps (h' := s.heap) fun b o e => And.left (e0.bs b o e)
  have free := e0.mod.nolimit.keeps (h' := s.heap) fun b o e => And.left (e0.bs b o e)
  refine codeAny_call_function hr.depth (stays _ _ lk) rfl S.co S.gen rfl (PySem.W.codeRec_of stays hcd) (hb _ _ _ _ ?_)
  refine wpAny_newFunctionEnv_cells S.kind (fun y hy => ?_) fun env he s1 x => ?_
  · obtain ⟨n, v⟩ := y
    exact (S.par n (List.of_mem_zip hy).1).elim .inl fun q => .inr ⟨q, PySem.W.cellsFrom_some _ _ _ (.inl q)⟩
  cases he
  refine ⟨free.keeps x.toInCall.keep, codeAny_func ?_⟩
  obtain ⟨t, ht, hq⟩ := hbody c7 A outer s H vs Q E hA (hr.deeper _) hsp
  have J := inv_start (CX := CX0) (E := E) S hr.hd e0 long r x
  refine wpAny_mono (ht.nox.run [] s1 (start N vs) H _ J hq) (fun fl s' hs => ?_) (fun _ _ z => z)
  match fl, hs with
  | .ret u, ⟨v, σ', H', J', rv, q⟩ => exact ⟨v, H', J'.os, J'.bare, J'.base, J'.hok, rv, q⟩
  | .next, ⟨σ', H', J', q⟩ => exact ⟨V.non, H', J'.os, J'.bare, J'.base, J'.hok, rfl, q⟩
  | .brk, ⟨_, _, _, q⟩ => exact q.elim
  | .cont, ⟨_, _, _, q⟩ => exact q.elim
end

section
variable {X : Cx} {CX : CXT} {k : Nat} {f : Addr} {fd : FuncData} {ps : List Str} {ds : List Value} {dvs : List V} {sp : Sp} {E : XK}
  {x : Str} {p pos : Pos} {e : Expr} {es : List Expr} {t : TA}
theorem runG {pins : List (Addr × Obj)} {σ : L2.St} {H : Hp} {s : Shared} {Q : VK} {us : List Value} {vs : List V}
    (F : FnG X.prog X.w X.K X.mg X.base CX k f fd ps sp) (hG : X.A.guards = some []) (hr : Room k X.A) (hb : Binds X.K fd ps [])
    (hx : Passes CX X E) (I : Inv X pins σ H s) (r : Vals vs us) (h : sp vs H Q E) :
    wpAny (model X.prog X.w) X.A (call (.ref f) us) (EP X pins σ Q) X.xe s := by
  have hl : us.length = ps.length := r.length.symm.trans (F.len _ _ _ _ h)
  have b := hb s us I.kIn (by rw [List.append_nil]; exact hl)
  rw [List.append_nil] at b
  have z := F.run X.A hG X.stack s H ⟨us, []⟩ us vs Q E hr I.env0 b r h
  refine wpAny_call (codeAny_mono z fun o s' hq => ?_)
  match o, hq with
  | .error e, hq => exact hx pins σ H s e s' I hq
  | .ok (.ret u), hq => exact I.after hq
  | .ok .next, hq => exact hq.elim
  | .ok .brk, hq => exact hq.elim
  | .ok .cont, hq => exact hq.elim
theorem pe_callG (F : FnG X.prog X.w X.K X.mg X.base CX k f fd ps sp) (hG : X.A.guards = some []) (hr : Room k X.A) (hg : Gl X x)
    (hm : X.mg x = some (.ref f)) (hk : PySem.W.keepIn X.K (.ref f) = true) (hb : Binds X.K fd ps []) (hx : Passes CX X E)
    (ha : PA X (e :: es) t) (hdb : (x == ("__debug__" : Str)) = false := by decide)
    (he : starEach (e :: es) X.env = (false, eval e X.env) :: starEach es X.env := by rfl)
    (hpl : (backTo pos (starEach es X.env)).any (·.1) = false := by rfl) :
    PE X (.Call (.Name x p) (e :: es) [] pos) (fun σ H Q => t σ H fun vs H1 => sp vs H1 Q E) := by
  refine ⟨fun pins s σ H Q I h => wpAny_Call_Name_kw (ld_glob I hg hm ?_ hdb)⟩
  refine PySem.W.callWith_K (h₀ := X.base) I.ok.mod.kin hk (thn (ha.run pos pins s σ H _ I h) ?_) he hpl
  exact fun us s1 ⟨vs, H1, I1, r, q⟩ => ⟨I1.kIn, runG F hG hr hb hx I1 r q⟩
/-- how a call by keywords alone binds: the i-th parameter gets the keyword's value at place pm[i] -/
structure KB0 (K : PySem.W.Frag) (fd : FuncData) (ps ks : List Str) (pm : List Nat) : Prop where
  to : ∀ (s : Shared) (ws : List Value), K.In s.heap → ws.length = ks.length →
    BindsTo s fd ⟨[], ks.zip ws⟩ (ps.zip (pm.map fun i => ws.getD i Value.none))
def putV (pm : List Nat) (zs : List V) : List V := pm.map fun i => zs.getD i V.non
theorem relPut {zs : List V} {ws : List Value} (r : Vals zs ws) : ∀ pm : List Nat, Vals (putV pm zs) (pm.map fun i => ws.getD i Value.none)
  | [] => .nil
  | i :: pm => by
    refine .cons ?_ (relPut r pm)
    show L2.RelV (zs.getD i V.non) (ws.getD i Value.none)
    cases e : zs[i]? with
    | none =>
      have e2 := r.none_of e
      rw [List.getD_eq_getElem?_getD, List.getD_eq_getElem?_getD, e, e2]
      rfl
    | some z =>
      obtain ⟨u, e2, q⟩ := r.get e
      rw [List.getD_eq_getElem?_getD, List.getD_eq_getElem?_getD, e, e2]
      exact q
/-- f(k = v, ..), keywords alone; what is raised is wished for at the slots -/
theorem pe_callK0S {ks : List Str} {kws : List Keyword} {tk : TA} {pm : List Nat} {ES : L2.St → XK}
    (F : FnOk X.prog X.w X.K X.mg X.base CX k f fd ps sp) (hr : Room k X.A) (hg : Gl X x) (hm : X.mg x = some (.ref f))
    (hk : PySem.W.keepIn X.K (.ref f) = true) (hb : KB0 X.K fd ps ks pm) (hx : ∀ σ, PassesAt CX X σ (ES σ)) (hkw : PK X kws tk)
    (hall : (backToKw pos (keywordEach kws X.env)).all (·.1.isSome) = true := by rfl)
    (hks : (backToKw pos (keywordEach kws X.env)).filterMap (·.1) = ks := by rfl) (hdb : (x == ("__debug__" : Str)) = false := by decide)
    (hpl : ((backTo pos (starEach [] X.env)).any (·.1) || (backToKw pos (keywordEach kws X.env)).any (·.1.isNone)) = false := by rfl) :
    PE X (.Call (.Name x p) [] kws pos) (fun σ H Q => tk σ H fun zs H1 => zs.length = ks.length ∧ sp (putV pm zs) H1 Q (ES σ)) := by
  refine ⟨fun pins s σ H Q I h => wpAny_Call_Name_kw (ld_glob I hg hm ?_ hdb)⟩
  refine PySem.W.callWith_KW0 (h₀ := X.base) I.ok.mod.kin hk hall (thn (hkw.run pos pins s σ H _ I h) ?_) hpl
  intro ws s2 ⟨zs, H2, I2, rz, l2, q2⟩
  refine ⟨I2.kIn, ?_⟩
  rw [hks]
  have z := F.run X.A X.stack s2 H2 ⟨[], ks.zip ws⟩ _ (putV pm zs) Q (ES σ) hr I2.env0 (hb.to s2 ws I2.kIn (rz.length.symm.trans l2)) (relPut rz pm) q2
  refine wpAny_call (codeAny_mono z fun o s' hq => ?_)
  match o, hq with
  | .error e, hq => exact hx σ pins H2 s2 e s' I2 hq
  | .ok (.ret u), hq => exact I2.after hq
  | .ok .next, hq => exact hq.elim
  | .ok .brk, hq => exact hq.elim
  | .ok .cont, hq => exact hq.elim
theorem passC (hx : Passes CX X E) (σ : L2.St) : PassesAt CX X σ E := fun pins H s e s' I c => hx pins σ H s e s' I c
/-- f(k = v, ..), keywords alone -/
theorem pe_callK0 {ks : List Str} {kws : List Keyword} {tk : TA} {pm : List Nat}
    (F : FnOk X.prog X.w X.K X.mg X.base CX k f fd ps sp) (hr : Room k X.A) (hg : Gl X x) (hm : X.mg x = some (.ref f))
    (hk : PySem.W.keepIn X.K (.ref f) = true) (hb : KB0 X.K fd ps ks pm) (hx : Passes CX X E) (hkw : PK X kws tk)
    (hall : (backToKw pos (keywordEach kws X.env)).all (·.1.isSome) = true := by rfl)
    (hks : (backToKw pos (keywordEach kws X.env)).filterMap (·.1) = ks := by rfl) (hdb : (x == ("__debug__" : Str)) = false := by decide)
    (hpl : ((backTo pos (starEach [] X.env)).any (·.1) || (backToKw pos (keywordEach kws X.env)).any (·.1.isNone)) = false := by rfl) :
    PE X (.Call (.Name x p) [] kws pos) (fun σ H Q => tk σ H fun zs H1 => zs.length = ks.length ∧ sp (putV pm zs) H1 Q E) :=
  pe_callK0S (ES := fun _ => E) F hr hg hm hk hb (passC hx) hkw hall hks hdb hpl
/-- X(), an own class of exceptions without __init__ -/
theorem pmk_own0 {C : Addr} {bmB : List Value} {B newId initId : String} (F : ExcBaseFacts B newId initId bmB)
    (q : PySem.W.excIn X.K C bmB newId = true) (gC : X.mg x = some (.ref C)) (kC : PySem.W.keepIn X.K (.ref C) = true)
    (r : Raises X (.ref C)) (hg : Gl X x) (hdb : (x == ("__debug__" : Str)) = false := by decide) :
    PMk X (.Call (.Name x p) [] [] pos) (fun _ H Q => Q (.ref C) none H) := by
  intro pins s σ H Q I h
  refine wpAny_Call_Name_kw (ld_glob I hg gC ?_ hdb)
  refine PySem.W.callWith_K0 I.kIn kC ?_
  show wpAny _ _ (call (.ref C) []) _ _ _
  obtain ⟨bm, N, nm, qn, bs, hdct, sn, sub, ab, col, dd, k0, k1, k2, k3, k5, mN, hC, hN, hni, T⟩ := exc_obj I.kIn q
  exact wpAny_call_exc_subT F T hC hN hni (fun h' e hm => mk_of I hm r h (I.hok.gone hm.new)) (Nat.zero_le _)
end

/-- // by a divisor of either sign, below 2 ^ 9000 in size -/
def CDivZ (_ j : Int) : Prop := j ≠ 0 ∧ j.natAbs.log2 < 9000
theorem op_fdivZ {X : Cx} : OpR X (binaryOp .FloorDiv) (rI CDivZ fun i j => .int (i.fdiv j)) :=
  opI fun _ _ _ _ _ _ _ hc q => floordiv_int hc.1 q (.inl (PyProof.noPylong_of_log2 hc.2))
/-- isinstance(e, c) where the class of what the suite holds is told by the reading -/
theorem call_isE2 {X : Cx} {a D : Addr} {oe : Obj} {pn : List (Addr × Obj)} {cls : Value} {d : Option Addr} (C : ExcC X.K D) (hz : Zc cls d oe)
    (hf : ∃ vs, oe.data = .fields vs) : CallR (X.suite a ((a, oe) :: pn)) (.builtin "isinstance")
      (fun xs H Q => cls = .ref D ∧ d = none ∧ rIsE X.K D a xs H Q) := by
  intro pins s σ H xs us Q I r h
  obtain ⟨h1, h2, q⟩ := h
  subst h1; subst h2
  exact call_isE C hz hf pins s σ H xs us Q I r q

/-! ### the end of a law, by such a promise -/
theorem law_callG {P : Program} {w : World} {K : PySem.W.Frag} {mg mb : Str → Option Value} {k : Nat} {fa a : Addr} {fd : FuncData}
    {x : Str} {sp : Sp} {s₁ : Shared} {vs : List Value} {ns : List Int} (KX : K.In s₁.heap) (hns : s₁.heap.Ns mainGlobals mg)
    (hb : s₁.heap.Ns builtinsNs mb) (hbb : ∀ x : Str, x ≠ "__name__" → mb x = bootBuiltins x) (hlim : s₁.heap.NoLimit) (hg : s₁.gens = #[])
    (ha : s₁.heap.get? a = some { cls := .type "list", data := .seq vs.toArray }) (hi : IntsAre vs ns) (hl : ns.length ≤ sizeLine)
    (hr : Room k callerA) (F : ∀ base : Heap, K.In base → base.Ns mainGlobals mg → FnG P w K mg base CX0 k fa fd [x] sp)
    (hbind : ∀ (s : Shared) (u : Value), BindsTo s fd ⟨[u], []⟩ [(x, u)])
    (hsp : ∀ H : Hp, Only H → SqL K H a (ns.map V.int) → sp [.ref a] H (fun v _ => v = .bl true) fun _ _ _ => False) :
    codeAny (model P w) callerA (.call (.ref fa) ⟨[.ref a], []⟩)
      (fun r s' => r = .ok (.ret (.bool true)) ∧ OldK s₁.heap s'.heap ∧ s'.os = s₁.os ∧ AllBare s'.gens) s₁ := by
  have rv := vals_ints hi
  have lenV := hi.length
  have core : ∀ H : Hp, Only H → SqL K H a (ns.map V.int) → HOk P w H s₁.heap → (∀ b, H b ≠ none → b = a) →
      (H a ≠ none → K.lookup a = none) → codeAny (model P w) callerA (.call (.ref fa) ⟨[.ref a], []⟩)
      (fun r s' => r = .ok (.ret (.bool true)) ∧ OldK s₁.heap s'.heap ∧ s'.os = s₁.os ∧ AllBare s'.gens) s₁ := by
    intro H hO hS hok hA hK
    have away : ∀ {b : Addr} {o : Obj} {es : Array DictEntry} {ep : Nat}, s₁.heap.get? b = some o → o.data = .dict es ep → H b = none := by
      intro b o es ep e d
      cases q : H b with
      | none => rfl
      | some u =>
        have e' : b = a := hA b (fun z => by rw [q] at z; cases z)
        rw [e', ha] at e
        cases e
        exact nomatch (show Data.seq vs.toArray _ = Data.dict es ep from d)
    have nsK : ∀ {b : Addr} {m : Str → Option Value}, s₁.heap.Ns b m → (hidT s₁.heap H).Ns b m := by
      intro b m z
      obtain ⟨o, es, ep, e, d, r⟩ := z
      exact ⟨o, es, ep, hidT_get e (away e d), d, r⟩
    have hKb : K.In (hidT s₁.heap H) := by
      intro b o e
      refine hidT_get (KX b o e) ?_
      cases q : H b with
      | none => rfl
      | some u =>
        have e' : b = a := hA b (fun z => by rw [q] at z; cases z)
        subst e'
        rw [hK (fun z => by rw [q] at z; cases z)] at e
        cases e
    obtain ⟨mc, l1, l2⟩ := hlim
    have hM : Mod K mg (hidT s₁.heap H) := ⟨hKb, nsK hns, ⟨mb, nsK hb, hbb⟩, mc, nsK l1, l2⟩
    have e0 : Env0 P w K mg (hidT s₁.heap H) callerA [] s₁ H :=
      ⟨rfl, hM, fun b o e => of_hidT e, Nat.le_of_eq (hidT_size _ _), trivial, fun b hb => (nomatch hb), hok, .of_eq hg⟩
    have main := (F _ hKb (nsK hns)).run callerA rfl [] s₁ H ⟨[.ref a], []⟩ [.ref a] [.ref a] _ _ hr e0 (hbind s₁ (.ref a)) (.cons rfl .nil) (hsp H hO hS)
    refine codeAny_mono main fun r s' h => ?_
    match r, h with
    | .error e, h => exact h.elim
    | .ok .next, h => exact h.elim
    | .ok .brk, h => exact h.elim
    | .ok .cont, h => exact h.elim
    | .ok (.ret u), ⟨v, H', os, bare, un, hok', r', q⟩ =>
      have q' : v = .bl true := q
      subst q'
      have eu : u = Value.bool true := r'
      subst eu
      refine ⟨rfl, OldK.of_keep fun b o e => ?_, os, bare⟩
      cases q : H b with
      | none => exact un.keep b o e q (fun z => nomatch z) (fun z => nomatch z)
      | some u =>
        rcases hO b with z | ⟨ob, xs, z⟩
        · rw [q] at z; cases z
        · have e1 := (hok b _ z).1
          have e2 := (hok' b _ (un.frzs b ob _ z)).1
          rw [e] at e1; cases e1
          exact e2
  cases hk : K.lookup a with
  | some o =>
    have e := KX a o hk
    rw [ha] at e
    cases e
    refine core (fun _ => none) (fun _ => .inl rfl) ?_ (fun b u z => nomatch z) (fun b z => absurd rfl z) fun z => absurd rfl z
    exact .inr ⟨_, vs.toArray, _, hk, rfl, rfl, rfl, by rw [List.size_toArray, lenV]; exact hl, by simpa using rv⟩
  | none =>
    have yes : (if a = a then some (HO.frz { cls := .type "list", data := .seq vs.toArray } (.lst (ns.map V.int))) else none) =
        some (HO.frz { cls := .type "list", data := .seq vs.toArray } (.lst (ns.map V.int))) := if_pos rfl
    refine core (fun b => if b = a then some (.frz { cls := .type "list", data := .seq vs.toArray } (.lst (ns.map V.int))) else none)
      (fun b => ?_) (.inl (.inr ⟨_, yes⟩)) (fun b u z => ?_) (fun b z => ?_) fun _ => hk
    · by_cases hb : b = a
      · exact .inr ⟨_, _, if_pos hb⟩
      · exact .inl (if_neg hb)
    · by_cases hb : b = a
      · cases (if_pos hb).symm.trans z
        subst hb
        exact ⟨ha, by rw [List.length_map]; exact hl, vs, _, rv, ha⟩
      · cases (if_neg hb).symm.trans z
    · by_cases hb : b = a
      · exact hb
      · exact absurd (if_neg hb) z

theorem walk_ofG {l : PySem.W.OpenLaw} {n k : Nat} {q : Program} {loose : List Str} {XP : (Str → Option Value) → Heap → Prop}
    {YP : World → Heap → Prop} {d : DefRec} {K : Params → PySem.W.Frag} {sp : World → Sp} {x : Str}
    (hn : l.most = some n) (hn2 : n ≤ sizeLine) (hdf : d.params.defaults = []) (hr : Room k callerA)
    (hY : ∀ (w : World) (h : Heap), YP w h → (K w.params).In h)
    (F : ∀ (w : World) (mg : Str → Option Value) (fa : Addr) (h : Heap), (K w.params).In h → h.Ns mainGlobals mg → mg d.name = some (.ref fa) →
      ∃ fd : FuncData, (∀ (s : Shared) (u : Value), BindsTo s fd ⟨[u], []⟩ [(x, u)]) ∧
        ∀ base : Heap, (K w.params).In base → base.Ns mainGlobals mg → FnG l.prog w (K w.params) mg base CX0 k fa fd [x] (sp w))
    (hsp : ∀ (w : World) (H : Hp) (a : Addr) (ns : List Int), ns.length ≤ n → Only H → SqL (K w.params) H a (ns.map V.int) →
      sp w [.ref a] H (fun v _ => v = .bl true) fun _ _ _ => False) :
    PySem.W.WalkO q loose XP YP l.row.toRowW d [] (fun f vs => PySem.call f vs) := by
  refine Att.attach_call hn hdf fun w s₀ s₁ mg mb fa o pm cd doc a vs ns G Y ho hd hcd hmg hobj hints hlen hg => ?_
  obtain ⟨fd, hb, hF⟩ := F w mg fa _ (hY w _ Y) G.T.g hmg
  exact law_callG (hY w _ Y) G.T.g G.T.b G.T.builtins G.T.nolimit hg hobj hints (Nat.le_trans hlen hn2) hr hF hb fun H hO hS => hsp w H a ns hlen hO hS

/-! ### repr of what is nested -/
mutual
/-- shown by repr within the line, no dicts -/
def fits : PyData → Bool
  | .none => true
  | .bool _ => true
  | .int i => decide (i.natAbs.log2 < 1920)
  | .str x => x.cps.toList.all fun c => decide (c < 16 ^ 8)
  | .list xs => fitsAll xs
  | .tuple xs => fitsAll xs
  | .dict _ => false
def fitsAll : List PyData → Bool
  | [] => true
  | x :: xs => fits x && fitsAll xs
end
mutual
theorem fits_to : ∀ d : PyData, fits d = true → d.showable = true ∧ d.hasDict = false ∧ d.leavesShort 1921 = true
  | .none, _ => ⟨rfl, rfl, rfl⟩
  | .bool _, _ => ⟨rfl, rfl, rfl⟩
  | .int i, h => by
    have h' : i.natAbs.log2 < 1920 := by simpa only [fits, decide_eq_true_eq] using h
    refine ⟨by simpa only [PyData.showable, decide_eq_true_eq] using h', rfl, ?_⟩
    have e := int_text_length_le (k := 1920) (by decide) h'
    simp only [PyData.leavesShort, decide_eq_true_eq]
    show (Str.ofString (toString i)).length ≤ 1921
    rw [PySem.ofString_length]
    exact e
  | .str x, h => ⟨rfl, rfl, by simpa only [fits, PyData.leavesShort] using h⟩
  | .list xs, h => by
    have z := fitsAll_to xs (by simpa only [fits] using h)
    exact ⟨by simpa only [PyData.showable] using z.1, by simpa only [PyData.hasDict] using z.2.1, by simpa only [PyData.leavesShort] using z.2.2⟩
  | .tuple xs, h => by
    have z := fitsAll_to xs (by simpa only [fits] using h)
    exact ⟨by simpa only [PyData.showable] using z.1, by simpa only [PyData.hasDict] using z.2.1, by simpa only [PyData.leavesShort] using z.2.2⟩
  | .dict _, h => by simp [fits] at h
theorem fitsAll_to : ∀ xs : List PyData, fitsAll xs = true → PyData.showableAll xs = true ∧ PyData.hasDictAll xs = false ∧ PyData.leavesShortAll 1921 xs = true
  | [], _ => ⟨rfl, rfl, rfl⟩
  | x :: xs, h => by
    have h' : fits x = true ∧ fitsAll xs = true := by simpa only [fitsAll, Bool.and_eq_true] using h
    have a := fits_to x h'.1
    have b := fitsAll_to xs h'.2
    refine ⟨?_, ?_, ?_⟩
    · simp only [PyData.showableAll, a.1, b.1, Bool.and_self]
    · simp only [PyData.hasDictAll, a.2.1, b.2.1, Bool.or_self]
    · simp only [PyData.leavesShortAll, a.2.2, b.2.2, Bool.and_self]
end
mutual
/-- how many leaves and displays (a text: one more than its signs) -/
def sz : PyData → Nat
  | .none => 1
  | .bool _ => 1
  | .int _ => 1
  | .str x => x.length + 1
  | .list xs => szAll xs + 1
  | .tuple xs => szAll xs + 1
  | .dict _ => 1
def szAll : List PyData → Nat
  | [] => 0
  | x :: xs => sz x + szAll xs
end
mutual
theorem shown_sz : ∀ d : PyData, fits d = true → d.shown.length + 2 ≤ 1930 * sz d
  | .none, _ => by
    have e : (PyData.shown .none).length = 4 := rfl
    simp only [sz]
    omega
  | .bool b, _ => by
    have e : (PyData.shown (.bool b)).length ≤ 5 := by cases b <;> decide
    simp only [sz]
    omega
  | .int i, h => by
    have h' : i.natAbs.log2 < 1920 := by simpa only [fits, decide_eq_true_eq] using h
    have e := int_text_length_le (k := 1920) (by decide) h'
    have e2 : (PyData.shown (.int i)).length ≤ 1921 := by
      show (Str.ofString (toString i)).length ≤ 1921
      rw [PySem.ofString_length]
      exact e
    simp only [sz]
    omega
  | .str x, h => by
    have hx : ∀ c ∈ x.cps.toList, c < 16 ^ 8 := by simpa only [fits, List.all_eq_true, decide_eq_true_eq] using h
    have e := StrLaws.reprText_len x hx
    have e2 : (PyData.shown (.str x)).length = (reprText x).length := rfl
    simp only [sz]
    omega
  | .list xs, h => by
    have h1 := shownAll_sz xs (by simpa only [fits] using h)
    have h2 := listText_len_le (PyData.shownAll xs)
    have h3 := PyData.shownAll_length xs
    simp only [PyData.shown, sz]
    omega
  | .tuple xs, h => by
    have h1 := shownAll_sz xs (by simpa only [fits] using h)
    have h2 := tupleText_len_le (PyData.shownAll xs)
    have h3 := PyData.shownAll_length xs
    simp only [PyData.shown, sz]
    omega
  | .dict _, h => by simp [fits] at h
theorem shownAll_sz : ∀ xs : List PyData, fitsAll xs = true → ((PyData.shownAll xs).map (·.length)).sum + 2 * xs.length ≤ 1930 * szAll xs
  | [], _ => by simp [PyData.shownAll, szAll]
  | x :: xs, h => by
    have h' : fits x = true ∧ fitsAll xs = true := by simpa only [fitsAll, Bool.and_eq_true] using h
    have h1 := shown_sz x h'.1
    have h2 := shownAll_sz xs h'.2
    simp only [PyData.shownAll, szAll, List.map_cons, List.sum_cons, List.length_cons]
    omega
end
theorem fits_len {d : PyData} (h : fits d = true) (hw : sz d ≤ 8000) : d.shown.length ≤ sizeLine := by
  have e := shown_sz d h
  rw [sizeLine_eq]
  omega
section
variable {X : Cx}
/-- repr(x), x a list or a tuple of plain data -/
def rRepr (K : PySem.W.Frag) : List V → Hp → VK → Prop := fun vs H Q =>
  ∃ (a : Addr) (d : PyData), vs = [.ref a] ∧ Dp K H (.ref a) d ∧ fits d = true ∧ sz d ≤ 8000 ∧ d.depth ≤ 60 ∧ Q (.str d.shown) H
theorem call_repr (hG : X.A.guards = some []) (hu : X.A.units + 64 < cLine) : CallR X (.builtin "repr") (rRepr X.K) := by
  intro pins s σ H vs us Q I r h
  obtain ⟨a, d, rfl, hd, hf, hw, hdep, q⟩ := h
  obtain ⟨u, rfl, ru⟩ := vals1 r
  cases ru
  obtain ⟨as, rd⟩ := Dp.reads I d _ _ hd rfl
  have f := fits_to d hf
  refine repr_of_reads' rd f.1 (PyData.noDict_hsm f.2.1) hG (by omega) (fun _ _ e => e) (fun h' u tk hk => ?_) (fits_len hf hw)
  exact ⟨.str d.shown, H, I.kept hk, ⟨_, rfl⟩, q⟩
end
section
variable {X : Cx}
/-- repr(x), x plain data of any kind without dicts -/
def rReprV (K : PySem.W.Frag) : List V → Hp → VK → Prop := fun vs H Q =>
  ∃ (v : V) (d : PyData), vs = [v] ∧ Dp K H v d ∧ fits d = true ∧ sz d ≤ 8000 ∧ d.depth ≤ 60 ∧ Q (.str d.shown) H
theorem call_reprV (hG : X.A.guards = some []) (hu : X.A.units + 64 < cLine) : CallR X (.builtin "repr") (rReprV X.K) := by
  intro pins s σ H vs us Q I r h
  obtain ⟨v, d, rfl, hd, hf, hw, hdep, q⟩ := h
  have hl := fits_len hf hw
  cases hd with
  | non =>
    obtain ⟨u, rfl, ru⟩ := vals1 r
    cases ru
    exact PySem.P.repr_of_none ⟨.str _, H, I.tok _, ⟨_, rfl⟩, q⟩
  | bl b =>
    obtain ⟨u, rfl, ru⟩ := vals1 r
    cases ru
    refine PySem.P.repr_of_bool ⟨.str (PyData.shown (.bool b)), H, I.tok _, ⟨_, rfl⟩, q⟩
  | int i =>
    obtain ⟨u, rfl, t, rfl⟩ := vals1 r
    exact PySem.P.repr_of_int (of_decide_eq_true hf) ⟨.str _, H, I.tok _, ⟨_, rfl⟩, q⟩
  | str x =>
    obtain ⟨u, rfl, t, rfl⟩ := vals1 r
    exact PySem.P.repr_of_str ⟨.str _, H, I.tok _, ⟨_, rfl⟩, q⟩ hl
  | lst a b => exact call_repr hG hu pins s σ H _ us Q I r ⟨_, _, rfl, .lst a b, hf, hw, hdep, q⟩
  | tup a b => exact call_repr hG hu pins s σ H _ us Q I r ⟨_, _, rfl, .tup a b, hf, hw, hdep, q⟩
end
/-! ### data of ints -/
theorem dpAll_ints {K : PySem.W.Frag} {H : Hp} : ∀ fs : List Int, DpAll K H (fs.map V.int) (fs.map PyData.int)
  | [] => .nil
  | f :: fs => .cons (.int f) (dpAll_ints fs)
theorem canLay_ints : ∀ fs : List Int, PyData.canLayAll0 (fs.map PyData.int) = true
  | [] => rfl
  | f :: fs => by
    simp only [List.map_cons, PyData.canLayAll0, PyData.canLay0, canLay_ints fs, Bool.and_self]
theorem depth_ints : ∀ fs : List Int, PyData.depthAll (fs.map PyData.int) = 0
  | [] => rfl
  | f :: fs => by
    simp only [List.map_cons, PyData.depthAll, PyData.depth, depth_ints fs, Nat.max_self]
theorem shaped_ints (fs : List Int) : SeqAt.shaped (.list (fs.map PyData.int)) = true := by
  simp only [SeqAt.shaped, PyData.canLay0, canLay_ints, PyData.depth, depth_ints]
  decide
theorem shaped_intsT (fs : List Int) : SeqAt.shaped (.tuple (fs.map PyData.int)) = true := by
  simp only [SeqAt.shaped, PyData.canLay0, canLay_ints, PyData.depth, depth_ints]
  decide
theorem eqv_ints_nil : ∀ fs : List Int, PyData.eqv (.list (fs.map PyData.int)) (.list []) = fs.isEmpty
  | [] => rfl
  | f :: fs => by
    simp [PyData.eqv, PyData.eqvAll]
theorem snoc_cases {α : Type} (l : List α) : l = [] ∨ ∃ r a, l = r ++ [a] := by
  rcases List.eq_nil_or_concat l with h | ⟨r, a, h⟩
  · exact .inl h
  · exact .inr ⟨r, a, by rw [h, List.concat_eq_append]⟩
theorem vne {a b : V} (e : (!decide (a = b)) = true) : a ≠ b := fun z => by
  rw [decide_eq_true z] at e
  exact absurd e (by decide)
theorem veq {a b : V} (e : ¬ (!decide (a = b)) = true) : a = b := by
  by_cases h : a = b
  · exact h
  · rw [decide_eq_false h] at e
    exact absurd rfl e
theorem vneF {a b : V} (e : ¬ decide (a = b) = true) : a ≠ b := fun z => e (decide_eq_true z)
/-! ### data stay under what is new -/
theorem Same.seqT {K : PySem.W.Frag} {H H' : Hp} {a : Addr} {xs : List V} (e : Same H H') (h : SqT K H a xs) : SqT K H' a xs := by
  rcases h with (h | ⟨o, h⟩) | h
  · exact .inl (.inl (e _ _ h))
  · exact .inl (.inr ⟨o, e _ _ h⟩)
  · exact .inr h
mutual
theorem dp_same {K : PySem.W.Frag} {H H' : Hp} (s : Same H H') : ∀ (d : PyData) (v : V), Dp K H v d → Dp K H' v d
  | .none, _, h => by cases h; exact .non
  | .bool _, _, h => by cases h; exact .bl _
  | .int _, _, h => by cases h; exact .int _
  | .str _, _, h => by cases h; exact .str _
  | .list ds, _, h => by
    cases h with
    | lst a b => exact .lst (s.seq a) (dpAll_same s ds _ b)
  | .tuple ds, _, h => by
    cases h with
    | tup a b => exact .tup (Ev.Same.seqT s a) (dpAll_same s ds _ b)
  | .dict _, _, h => by cases h
theorem dpAll_same {K : PySem.W.Frag} {H H' : Hp} (s : Same H H') : ∀ (ds : List PyData) (vs : List V), DpAll K H vs ds → DpAll K H' vs ds
  | [], _, h => by cases h; exact .nil
  | d :: ds, _, h => by
    cases h with
    | cons a b => exact .cons (dp_same s d _ a) (dpAll_same s ds _ b)
end
theorem nn {c : Prop} [Decidable c] {M N : Prop} (hc : c) (h : N) : if (!decide c) = true then M else N := by
  rw [decide_eq_true hc]
  exact iteF h
/-! ### what the loom is: a dict of a list of ints and two ints -/
def ld (F : Addr) (s t : Int) : List (Key × V) := [(Sum.inr "far", .ref F), (Sum.inr "stirred", .int s), (Sum.inr "times", .int t)]
def Lm (H : Hp) (L F : Addr) : Prop := ∃ (fs : List Int) (s t : Int), H L = some (.dK (ld F s t)) ∧ H F = some (.lst (fs.map V.int)) ∧ fs.length ≤ 63
theorem ld_far {F : Addr} {s t : Int} : valV (ld F s t) (Sum.inr "far") = some (.ref F) := rfl
theorem ld_stirred {F : Addr} {s t : Int} : valV (ld F s t) (Sum.inr "stirred") = some (.int s) := rfl
theorem ld_times {F : Addr} {s t : Int} : valV (ld F s t) (Sum.inr "times") = some (.int t) := rfl
theorem ld_len {F : Addr} {s t : Int} : (ld F s t).length < sizeLine := by
  show 3 < sizeLine
  decide
theorem ld_put {F : Addr} {s t u : Int} : putK (ld F s t) (Sum.inr "times") (.int u) = ld F s u := rfl
/-- all but the loom's two objects is as it was -/
def Kp (L F : Addr) (H H' : Hp) : Prop := ∀ b o, b ≠ L → b ≠ F → H b = some o → H' b = some o
theorem Kp.refl {L F : Addr} (H : Hp) : Kp L F H H := fun _ _ _ _ h => h
theorem Kp.trans {L F : Addr} {H H1 H2 : Hp} (a : Kp L F H H1) (b : Kp L F H1 H2) : Kp L F H H2 := fun c o h1 h2 h => b c o h1 h2 (a c o h1 h2 h)
theorem Kp.new {L F p : Addr} {H : Hp} {o : HO} (h : H p = none) : Kp L F H (upd H p o) := fun b u _ _ e => by
  rw [upd_ne (ne_of_none e h)]
  exact e
theorem Kp.updL {L F : Addr} {H : Hp} {o : HO} : Kp L F H (upd H L o) := fun b u h1 _ e => by
  rw [upd_ne h1]
  exact e
theorem Kp.updF {L F : Addr} {H : Hp} {o : HO} : Kp L F H (upd H F o) := fun b u _ h2 e => by
  rw [upd_ne h2]
  exact e
theorem Lm.new {H : Hp} {L F p : Addr} {o : HO} (h : Lm H L F) (hp : H p = none) : Lm (upd H p o) L F := by
  obtain ⟨fs, s, t, h1, h2, h3⟩ := h
  exact ⟨fs, s, t, by rw [upd_ne (ne_of_none h1 hp)]; exact h1, by rw [upd_ne (ne_of_none h2 hp)]; exact h2, h3⟩
theorem Lm.ne {H : Hp} {L F p : Addr} (h : Lm H L F) (hp : H p = none) : p ≠ L ∧ p ≠ F := by
  obtain ⟨fs, s, t, h1, h2, h3⟩ := h
  refine ⟨fun e => ?_, fun e => ?_⟩
  · rw [e, h1] at hp
    cases hp
  · rw [e, h2] at hp
    cases hp
theorem kp_same {L F : Addr} {H H' : Hp} (s : Same H H') : Kp L F H H' := fun b o _ _ e => s b o e
theorem Lm.same {H H' : Hp} {L F : Addr} (h : Lm H L F) (s : Same H H') : Lm H' L F := by
  obtain ⟨fs, a, b, h1, h2, h3⟩ := h
  exact ⟨fs, a, b, s _ _ h1, s _ _ h2, h3⟩
theorem Lm.tup {H : Hp} {L F t : Addr} {xs : List V} (h : Lm H L F) (ht : H t = some (.tup xs)) : t ≠ L ∧ t ≠ F := by
  obtain ⟨fs, a, b, h1, h2, h3⟩ := h
  exact ⟨ne_of ht h1 (by intro z; cases z), ne_of ht h2 (by intro z; cases z)⟩
theorem Kp.tup {L F t : Addr} {H H' : Hp} {xs : List V} (k : Kp L F H H') (h : Lm H L F) (ht : H t = some (.tup xs)) : H' t = some (.tup xs) := k _ _ (h.tup ht).1 (h.tup ht).2 ht
theorem Kp.seq {K : PySem.W.Frag} {L F a : Addr} {H H' : Hp} {xs : List V} (k : Kp L F H H') (h1 : a ≠ L) (h2 : a ≠ F) (h : SqL K H a xs) : SqL K H' a xs := by
  rcases h with (h | ⟨o, h⟩) | h
  · exact .inl (.inl (k _ _ h1 h2 h))
  · exact .inl (.inr ⟨o, k _ _ h1 h2 h⟩)
  · exact .inr h
theorem cut_ints (ns : List Int) (lo hi : Option Int) : ∃ ms : List Int, cutV (ns.map V.int) lo hi = ms.map V.int ∧ ms.length ≤ ns.length := by
  refine ⟨(ns.drop (HT.sIx ns.length 0 lo)).take (HT.sIx ns.length ns.length hi - HT.sIx ns.length 0 lo), ?_, ?_⟩
  · unfold cutV
    rw [List.length_map, List.map_take, List.map_drop]
  · rw [List.length_take, List.length_drop]
    omega
theorem int_at {ms : List Int} {i : Nat} {x : V} (h : (ms.map V.int)[i]? = some x) : ∃ m, ms[i]? = some m ∧ x = .int m := by
  rw [List.getElem?_map] at h
  cases e : ms[i]? with
  | none => rw [e] at h; cases h
  | some m => rw [e] at h; exact ⟨m, rfl, (Option.some.inj h).symm⟩
theorem same_new {H : Hp} {p : Addr} {o : HO} (h : H p = none) : Same H (upd H p o) := fun b x e => by
  rw [upd_ne (ne_of_none e h)]
  exact e
/-- a new object's own later states leave the rest -/
theorem same_put {H H1 : Hp} {p : Addr} {o : HO} (s : Same H H1) (h : H p = none) : Same H (upd H1 p o) := fun b x e => by
  rw [upd_ne (ne_of_none e h)]
  exact s _ _ e
theorem yes_of {σ : L2.St} {H : Hp} {M N : Hp → Prop} (h : M H) : tYes σ H (fun b H3 => if b = true then M H3 else N H3) := by
  unfold tYes
  show if true = true then M H else N H
  rw [if_pos rfl]
  exact h
theorem absI (a : Int) : (if a < 0 then -a else a) = (a.natAbs : Int) := by
  split <;> omega
end Ev

set_option exponentiation.threshold 256
/-! fractions -/
namespace Ev
def gc (a b : Int) : Nat := Nat.gcd a.natAbs b.natAbs
def dv (a b : Int) : Int := if 0 < b then (gc a b : Int) else -(gc a b : Int)
def fA (a b : Int) : Int := a.fdiv (dv a b)
def fB (a b : Int) : Int := b.fdiv (dv a b)
def Low (x y : Int) : Prop := 0 < y ∧ Nat.gcd x.natAbs y.natAbs = 1
theorem gc_pos {a b : Int} (h : b ≠ 0) : 0 < gc a b := Nat.gcd_pos_of_pos_right _ (by omega)
theorem dv_abs (a b : Int) : (dv a b).natAbs = gc a b := by
  unfold dv
  split <;> omega
theorem dv_ne {a b : Int} (h : b ≠ 0) : dv a b ≠ 0 := by
  have := gc_pos (a := a) h
  have e := dv_abs a b
  omega
theorem dv_dvd_a (a b : Int) : dv a b ∣ a := by
  rw [← Int.natAbs_dvd_natAbs, dv_abs]
  exact Nat.gcd_dvd_left _ _
theorem dv_dvd_b (a b : Int) : dv a b ∣ b := by
  rw [← Int.natAbs_dvd_natAbs, dv_abs]
  exact Nat.gcd_dvd_right _ _
theorem fA_mul {a b : Int} (h : b ≠ 0) : a = dv a b * fA a b := by
  obtain ⟨c, hc⟩ := dv_dvd_a a b
  have e : fA a b = c := by
    have : fA a b = (dv a b * c).fdiv (dv a b) := by rw [← hc]; rfl
    rw [this, Int.mul_fdiv_cancel_left _ (dv_ne h)]
  rw [e]
  exact hc
theorem fB_mul {a b : Int} (h : b ≠ 0) : b = dv a b * fB a b := by
  obtain ⟨c, hc⟩ := dv_dvd_b a b
  have e : fB a b = c := by
    have : fB a b = (dv a b * c).fdiv (dv a b) := by rw [← hc]; rfl
    rw [this, Int.mul_fdiv_cancel_left _ (dv_ne h)]
  rw [e]
  exact hc
theorem fA_le {a b : Int} (h : b ≠ 0) : (fA a b).natAbs ≤ a.natAbs := by
  have e := congrArg Int.natAbs (fA_mul (a := a) h)
  rw [Int.natAbs_mul, dv_abs] at e
  rw [e]
  exact Nat.le_mul_of_pos_left _ (gc_pos h)
theorem fB_le {a b : Int} (h : b ≠ 0) : (fB a b).natAbs ≤ b.natAbs := by
  have e := congrArg Int.natAbs (fB_mul (a := a) h)
  rw [Int.natAbs_mul, dv_abs] at e
  rw [e]
  exact Nat.le_mul_of_pos_left _ (gc_pos h)
theorem low_f {a b : Int} (h : b ≠ 0) : Low (fA a b) (fB a b) := by
  have hp := gc_pos (a := a) h
  refine ⟨?_, ?_⟩
  · have e := fB_mul (a := a) h
    rcases Int.lt_trichotomy 0 b with hb | hb | hb
    · have d : dv a b = (gc a b : Int) := if_pos hb
      rw [d] at e
      rcases Int.lt_trichotomy 0 (fB a b) with z | z | z
      · exact z
      · rw [← z, Int.mul_zero] at e
        exact absurd e h
      · have : (gc a b : Int) * fB a b < 0 := Int.mul_neg_of_pos_of_neg (by omega) z
        omega
    · exact absurd hb.symm h
    · have d : dv a b = -(gc a b : Int) := if_neg (by omega)
      rw [d] at e
      rcases Int.lt_trichotomy 0 (fB a b) with z | z | z
      · exact z
      · rw [← z, Int.mul_zero] at e
        exact absurd e h
      · have : 0 < -(gc a b : Int) * fB a b := Int.mul_pos_of_neg_of_neg (by omega) z
        omega
  · have ea := congrArg Int.natAbs (fA_mul (a := a) h)
    have eb := congrArg Int.natAbs (fB_mul (a := a) h)
    rw [Int.natAbs_mul, dv_abs] at ea eb
    have g : gc a b = Nat.gcd (gc a b * (fA a b).natAbs) (gc a b * (fB a b).natAbs) := by
      conv => lhs; unfold gc; rw [ea, eb]
    rw [Nat.gcd_mul_left] at g
    have : gc a b * 1 = gc a b * Nat.gcd (fA a b).natAbs (fB a b).natAbs := by rw [Nat.mul_one]; exact g
    exact (Nat.eq_of_mul_eq_mul_left hp this).symm
theorem low_inj {x y z u : Int} (h1 : Low x y) (h2 : Low z u) (e : x * u = z * y) : x = z ∧ y = u := by
  obtain ⟨p1, c1⟩ := h1
  obtain ⟨p2, c2⟩ := h2
  have en := congrArg Int.natAbs e
  rw [Int.natAbs_mul, Int.natAbs_mul] at en
  have d1 : y.natAbs ∣ u.natAbs := by
    have : y.natAbs ∣ x.natAbs * u.natAbs := ⟨z.natAbs, by rw [en, Nat.mul_comm]⟩
    exact Nat.Coprime.dvd_of_dvd_mul_left (show Nat.Coprime y.natAbs x.natAbs by rw [Nat.coprime_comm]; exact c1) this
  have d2 : u.natAbs ∣ y.natAbs := by
    have : u.natAbs ∣ z.natAbs * y.natAbs := ⟨x.natAbs, by rw [← en, Nat.mul_comm]⟩
    exact Nat.Coprime.dvd_of_dvd_mul_left (show Nat.Coprime u.natAbs z.natAbs by rw [Nat.coprime_comm]; exact c2) this
  have ey : y = u := by
    have := Nat.dvd_antisymm d1 d2
    omega
  subst ey
  exact ⟨Int.eq_of_mul_eq_mul_right (by omega) e, rfl⟩
end Ev

set_option exponentiation.threshold 256
namespace Ev
open PySem PySem.Spec PyProof.Rows L2 SX
/-! ### decimal writing -/
open TL (numL numL_lt numL_step numL_digits numL_ne numL_free numL_val numL_inj numL_len)
def intL (i : Int) : List Nat := if i < 0 then 45 :: numL i.natAbs else numL i.natAbs
theorem int_text (i : Int) : Str.ofString (toString i) = S (intL i) := by
  cases i with
  | ofNat m =>
    have e : intL (Int.ofNat m) = numL m := if_neg (by show ¬ ((m : Int) < 0); omega)
    rw [e]
    exact num_S m
  | negSucc m =>
    have e : intL (Int.negSucc m) = 45 :: numL (m + 1) := if_pos (Int.negSucc_lt_zero m)
    rw [e]
    refine TL.ext_tl ?_
    have t : toString (Int.negSucc m) = "-" ++ Nat.repr (m + 1) := rfl
    rw [t, TL.tl_ofString, String.toList_append, List.map_append]
    have h := TL.tl_num (m + 1)
    rw [TL.tl_ofString] at h
    have z : (toString (((m + 1 : Nat)) : Int)) = Nat.repr (m + 1) := rfl
    rw [z] at h
    rw [h]
    rfl
/-- k figures of r, noughts ahead -/
def padL : Nat → Nat → List Nat
  | 0, _ => []
  | k + 1, r => padL k (r / 10) ++ [48 + r % 10]
theorem padL_len : ∀ k r, (padL k r).length = k
  | 0, _ => rfl
  | k + 1, r => by
    show (padL k (r / 10) ++ [48 + r % 10]).length = k + 1
    rw [List.length_append, padL_len k, List.length_singleton]
theorem padL_zero : ∀ k, padL k 0 = List.replicate k 48
  | 0 => rfl
  | k + 1 => by
    show padL k (0 / 10) ++ [48 + 0 % 10] = _
    rw [show 0 / 10 = 0 from rfl, padL_zero k, List.replicate_succ']
theorem pow_mul10 (q k r : Nat) : (q * 10 ^ (k + 1) + r) / 10 = q * 10 ^ k + r / 10 ∧ (q * 10 ^ (k + 1) + r) % 10 = r % 10 := by
  have e : q * 10 ^ (k + 1) = 10 * (q * 10 ^ k) := by rw [Nat.pow_succ, ← Nat.mul_assoc, Nat.mul_comm]
  rw [e]
  constructor <;> omega
theorem numL_cat {q : Nat} (hq : 1 ≤ q) : ∀ k r, r < 10 ^ k → numL (q * 10 ^ k + r) = numL q ++ padL k r
  | 0, r, h => by
    have e : r = 0 := by simpa using h
    subst e
    show numL (q * 10 ^ 0 + 0) = numL q ++ []
    rw [Nat.pow_zero, Nat.mul_one, Nat.add_zero, List.append_nil]
  | k + 1, r, h => by
    obtain ⟨e1, e2⟩ := pow_mul10 q k r
    have big : 10 ≤ q * 10 ^ (k + 1) + r := by
      have : 1 * 10 ^ (k + 1) ≤ q * 10 ^ (k + 1) := Nat.mul_le_mul_right _ hq
      have : 10 ^ (k + 1) = 10 ^ k * 10 := Nat.pow_succ 10 k
      have : 0 < 10 ^ k := Nat.pow_pos (by decide)
      omega
    rw [numL_step big, e1, e2, numL_cat hq k (r / 10) (by rw [Nat.pow_succ] at h; omega), List.append_assoc]
    rfl
theorem padL_eq : ∀ k r, r < 10 ^ (k + 1) → padL (k + 1) r = List.replicate (k + 1 - (numL r).length) 48 ++ numL r
  | 0, r, h => by
    have h' : r < 10 := by simpa using h
    rw [numL_lt h']
    show padL 0 (r / 10) ++ [48 + r % 10] = _
    rw [Nat.mod_eq_of_lt h']
    rfl
  | k + 1, r, h => by
    show padL (k + 1) (r / 10) ++ [48 + r % 10] = _
    by_cases hr : r < 10
    · rw [numL_lt hr, Nat.div_eq_of_lt hr, padL_zero, Nat.mod_eq_of_lt hr]
      rfl
    · have ih := padL_eq k (r / 10) (by rw [Nat.pow_succ] at h; omega)
      rw [ih, numL_step (by omega : 10 ≤ r), List.append_assoc, List.length_append, List.length_singleton]
      congr 2
      omega
theorem zfill_num {k r : Nat} (h : r < 10 ^ (k + 1)) : Txt.zfill (S (numL r)) (((k + 1 : Nat)) : Int) = S (padL (k + 1) r) := by
  have hl := numL_len (by omega) h
  have hz : (S (numL r)).length = (numL r).length := S_len _
  unfold Txt.zfill
  split
  · rename_i z
    rw [hz] at z
    have e : (numL r).length = k + 1 := by omega
    rw [padL_eq k r h, e, Nat.sub_self]
    rfl
  · rw [hz]
    have e1 : (((k + 1 : Nat) : Int)).toNat - (numL r).length = k + 1 - (numL r).length := by omega
    rw [e1, padL_eq k r h]
    unfold zfilled
    have hd : ∀ c, (S (numL r)).cps[0]? = some c → 48 ≤ c ∧ c ≤ 57 := fun c hc => by
      refine numL_digits r c ?_
      have : (numL r)[0]? = some c := by
        have z : (S (numL r)).cps[0]? = (numL r)[0]? := by simp [S]
        rw [← z]; exact hc
      exact List.mem_of_getElem? this
    have body : Builtin.Str.padded (S (numL r)) (k + 1 - (numL r).length) 0 48 = S (List.replicate (k + 1 - (numL r).length) 48 ++ numL r) := by
      refine TL.ext_tl ?_
      show (Array.replicate (k + 1 - (numL r).length) 48 ++ (numL r).toArray ++ Array.replicate 0 48).toList = _
      simp [S]
    split
    · rename_i e
      have := hd _ e
      omega
    · rename_i e
      have := hd _ e
      omega
    · exact body
/-! ### the text of a fraction -/
def fracL (a b : Int) : List Nat := if b = 1 then intL a else intL a ++ 47 :: intL b
/-! ### reading -/
def isDig (c : Nat) : Bool := decide (48 ≤ c) && decide (c ≤ 57)
def unsign (t : List Nat) : List Nat := if t.head? = some 45 then t.drop 1 else t
def rdI (t : List Nat) : Option Int :=
  if 1 ≤ (unsign t).length ∧ (unsign t).length ≤ 400 ∧ (unsign t).all isDig = true ∧ ((unsign t).head? = some 48 → t = [48]) then
    some (if t.head? = some 45 then -(NumText.digitsVal (unsign t) : Int) else (NumText.digitsVal (unsign t) : Int))
  else none
theorem removeprefix_minus (t : List Nat) : Txt.removeprefix (S t) (S [45]) = S (unsign t) := by
  rw [StrLaws.removeprefix_eq]
  have e : Builtin.Str.subAt (S t) (S [45]) 0 = decide (t.head? = some 45) := by
    rw [StrLaws.subAt_eq]
    show ((t.drop 0).take 1 == [45]) = _
    cases t with
    | nil => rfl
    | cons c r =>
      show ([c] == [45]) = decide (some c = some 45)
      by_cases h : c = 45
      · subst h; rfl
      · rw [decide_eq_false (fun z => h (Option.some.inj z))]
        simp [h]
  rw [e, S_len, S_len]
  unfold unsign
  by_cases h : t.head? = some 45
  · have hl : 1 ≤ t.length := by
      cases t with
      | nil => cases h
      | cons c r => simp
    have hl' : 0 + [45].length ≤ t.length := by simpa using hl
    rw [decide_eq_true h, decide_eq_true hl', Bool.and_self, if_pos rfl, if_pos h]
    show S ((t.drop 1).take (t.length - 1)) = S (t.drop 1)
    rw [List.take_of_length_le (by rw [List.length_drop]; omega)]
  · rw [decide_eq_false h, Bool.and_false, if_neg Bool.false_ne_true, if_neg h]
/-! ### sep.join(reversed(a list of texts)) -/
section
variable {prog : Program} {w : World} {A : Around} {E : Value → Shared → Prop} {s : Shared}
theorem join_rev {x : Str} {t : Tok} {it l : Addr} {items : Array Value} {ys : List Str} {Q : Value → Shared → Prop} (hh : A.handled = none)
    (hit : s.heap.IsRevIter it l ((items.size : Int) - 1)) (hl : s.heap.IsList l items) (hne : l ≠ it) (hn : items.size ≤ sizeLine)
    (hP : ∀ acc : Array Value, ItemsOf (fun i v => items[items.size - 1 - i]? = some v) acc items.size → StrsAre acc.toList ys)
    (hok : (ys.map (·.length)).sum + ys.length * x.length ≤ 16777216)
    (hq : ∀ (h' : Heap) (t' : Tok) (k : Nat), (∀ b o, b ≠ it → s.heap.get? b = some o → h'.get? b = some o) → Q (.str (Txt.join x ys) t') { s with heap := h', toks := k }) :
    wpAny (model prog w) A (call (.builtin "str.join") [.str x t, .ref it]) Q E s := by
  refine wpAny_call (codeAny_call_builtin F.slot_str_join.plain F.entry_str_join (F.slot_str_join.check _ _ _ _ _ _ _ _ (typeIs_str _ _ _) (F.args_str_join_2 _ _) ?_))
  rw [join_tree_other]
  have hT : s.TypeIs (.ref it) "list_reverseiterator" := hit.typeIs
  refine wpAny_bind (wpAny_typeOf hT ?_)
  show wpAny _ A.in1 ((pyIter (.ref it)).tryCatch _ >>= fun it => collect it >>= fun items => joinTail x items) _ _ s
  refine wpAny_bind (wpAny_tryCatch (wpAny_pyIter_revIter hit ?_))
  refine wpAny_bind (RT.collect_rev (A := A.in1) hh hit hl hne hn fun h' tk acc hk hacc => ?_)
  obtain ⟨ls, el, ht⟩ := strsAre_values (hP acc hacc)
  subst ht
  rw [el]
  have hok' := joinOk_of hok
  unfold JoinOk at hok'
  rw [Bool.not_eq_true'] at hok'
  have g : Gives (joinTail x (strValues ls)) (joinMade x ls) := by
    have g0 := gives_joinTail x ls hok'
    rcases ls with _ | ⟨p, _ | ⟨q, r⟩⟩ <;> exact g0
  exact g prog w A (wants Q E) _ (post_join ls ⟨joinFit_length hok', fun t' k => hq h' t' k hk⟩)
end
theorem strs_rev {ys : List Str} {its : List Value} (r : Vals (ys.map V.str) its) {acc : Array Value}
    (h : ItemsOf (fun i v => its.toArray[its.toArray.size - 1 - i]? = some v) acc its.toArray.size) : StrsAre acc.toList ys.reverse := by
  have z := RT.vals_rev r h
  rw [← List.map_reverse] at z
  exact strs_of_vals z
section
variable {X : Cx}
theorem pe_joinRev {o e : Expr} {to te : TE} {apos pos p pos2 : Pos} (hc : X.calm = true) (ho : PE X o to) (hg : Gl X "reversed") (hm : X.mg "reversed" = none) (he : PE X e te)
    (hs1 : starEach [.Call (.Name "reversed" p) [e] [] pos2] X.env = [(false, eval (.Call (.Name "reversed" p) [e] [] pos2) X.env)] := by rfl)
    (hs : starEach [e] X.env = (false, eval e X.env) :: starEach [] X.env := by rfl)
    (hbase : attributeBase o "join" X.env (eval o X.env) = eval o X.env := by rfl) (hline : (apos.endLine == pos.line) = true := by rfl) :
    PE X (.Call (.Attribute o "join" apos) [.Call (.Name "reversed" p) [e] [] pos2] [] pos)
      (fun σ H Q => to σ H fun x H1 => (∃ a, x = .str a) ∧ te σ H1 fun v H2 => ∃ (a : Str) (q : Addr) (ys : List Str), x = .str a ∧ v = .ref q ∧ SqL X.K H2 q (ys.map V.str) ∧
        (ys.map (·.length)).sum + ys.length * a.length ≤ 16777216 ∧ Q (.str (Txt.join a ys.reverse)) H2) := by
  refine ⟨fun pins s σ H Q I h => ?_⟩
  refine PySem.Call_method1 hbase hs1 hline (thn (ho.run pins s σ H _ I h) fun v s1 ⟨x, H1, I1, r1, q1⟩ => ?_)
  obtain ⟨⟨a, rfl⟩, q1⟩ := q1
  obtain ⟨t, rfl⟩ := _root_.id r1
  refine ⟨"str", _, F.plainAttrs_str, F.slot_str_join, F.type_str_join, typeIs_str _ _ _, (fun _ e => nomatch e), Calls.callWith_builtin rfl (Calls.evalArgs_plain (Calls.spliced_cons ?_))⟩
  refine Call_ (ld_blt I1 hg hm PyProof.Rows.boot_reversed (PyProof.Rows.callWith_type1 (args_cons (thn (he.run pins s1 σ H1 _ I1 q1) fun u s2 ⟨v, H2, I2, r2, q2⟩ => args_nil ?_) hs) hs rfl))
  obtain ⟨a', q, ys, ea, ev, hq, hz, q2⟩ := q2
  cases ea
  subst ev
  cases r2
  obtain ⟨its, rv, p', hsz⟩ := I2.list hq
  refine call_reversed_list p'.isList (Calls.spliced_nil ?_)
  have k0 : ∀ b o, s2.heap.get? b = some o → (s2.heap.push (revObj q ((its.toArray.size : Int) - 1))).get? b = some o := fun b o e => Heap.get?_push_of_some _ e
  have I3 : Inv X pins σ H2 { s2 with heap := s2.heap.push (revObj q ((its.toArray.size : Int) - 1)) } := I2.kept (t' := s2.toks) k0
  obtain ⟨f0, f1, f2, f3, f4, f5⟩ := I2.fpOk (H' := H2) (b := s2.heap.objs.size) (Nat.le_refl _) (I2.hok.fresh (Nat.le_refl _))
  have hl := p'.isList
  obtain ⟨ol, hol, _⟩ := _root_.id hl
  have hne : q ≠ s2.heap.objs.size := Nat.ne_of_lt (Heap.lt_size hol)
  have hn : its.toArray.size ≤ sizeLine := by rw [List.size_toArray, ← rv.length]; exact hsz
  have hz' : ((ys.reverse).map (·.length)).sum + ys.reverse.length * a.length ≤ 16777216 := by
    rw [List.map_reverse, List.sum_reverse, List.length_reverse]
    exact hz
  refine join_rev (s := { s2 with heap := s2.heap.push (revObj q ((its.toArray.size : Int) - 1)) }) (I2.ok.hd hc) ⟨_, Heap.get?_push_size _ rfl, rfl, rfl⟩ (hl.push _) hne hn (fun acc hacc => strs_rev rv hacc) hz' fun h' t' k hk => ?_
  exact ⟨.str _, H2, I3.turned (t' := k) (fun b o hb e => hk b o hb e) f0 f1 f3 f4 f5, ⟨t', rfl⟩, q2⟩
end
theorem joinL_nil : ∀ l : List (List Nat), TL.joinL [] l = l.flatten
  | [] => rfl
  | [p] => by
    show p = p ++ []
    rw [List.append_nil]
  | p :: q :: r => by
    show p ++ ([] ++ TL.joinL [] (q :: r)) = p ++ (q :: r).flatten
    rw [List.nil_append, joinL_nil (q :: r)]
theorem join_empty (ys : List (List Nat)) : Txt.join "" (ys.map S) = S ys.flatten := by
  have e : ("" : Str) = S [] := rfl
  rw [e, join_S, joinL_nil]
theorem lens_sum : ∀ ys : List (List Nat), ((ys.map S).map (·.length)).sum = ys.flatten.length
  | [] => rfl
  | y :: ys => by
    rw [List.map_cons, List.map_cons, List.sum_cons, lens_sum ys, S_len, List.flatten_cons, List.length_append]
theorem flat_rev_len : ∀ ys : List (List Nat), ys.reverse.flatten.length = ys.flatten.length
  | [] => rfl
  | y :: ys => by
    rw [List.reverse_cons, List.flatten_append, List.length_append, flat_rev_len ys, List.flatten_cons, List.length_append, List.flatten_cons, List.flatten_nil]
    simp only [List.length_append, List.length_nil]
    omega
theorem intL_len {n : Int} {k : Nat} (hk : 0 < k) (h : n.natAbs < 10 ^ k) : (intL n).length ≤ k + 1 := by
  have := numL_len hk h
  unfold intL
  split
  · rw [List.length_cons]; omega
  · omega
theorem figures_in (c : Nat) : decide (c ∈ ("0123456789" : Str).cps.toList) = isDig c := by
  have e : ("0123456789" : Str).cps.toList = [48, 49, 50, 51, 52, 53, 54, 55, 56, 57] := by decide +kernel
  rw [e]
  unfold isDig
  by_cases h : 48 ≤ c ∧ c ≤ 57
  · rw [decide_eq_true h.1, decide_eq_true h.2]
    refine decide_eq_true ?_
    have : c = 48 ∨ c = 49 ∨ c = 50 ∨ c = 51 ∨ c = 52 ∨ c = 53 ∨ c = 54 ∨ c = 55 ∨ c = 56 ∨ c = 57 := by omega
    simpa using this
  · have z : (decide (48 ≤ c) && decide (c ≤ 57)) = false := by
      rw [Bool.and_eq_false_iff, decide_eq_false_iff_not, decide_eq_false_iff_not]
      omega
    rw [z]
    refine decide_eq_false fun hm => h ?_
    simp only [List.mem_cons, List.not_mem_nil, or_false] at hm
    omega
theorem S_at (u : List Nat) (i : Nat) : (S u).cps[i]? = u[i]? := by simp [S]
theorem S_size (u : List Nat) : (S u).cps.size = u.length := by simp [S]
theorem dig_all {u : List Nat} (h : u.all isDig = true) : NumText.AllDigits u := fun c hc => by
  have z := List.all_eq_true.mp h c hc
  unfold isDig at z
  rw [Bool.and_eq_true, decide_eq_true_eq, decide_eq_true_eq] at z
  exact z
/-- int(text) of what rdI takes -/
theorem intText_rd {t : List Nat} {n : Int} (h : rdI t = some n) : intText? (S t) = some n ∧ (S t).length ≤ 640 := by
  unfold rdI at h
  split at h
  · rename_i c
    obtain ⟨c1, c2, c3, c4⟩ := c
    cases h
    have hd := dig_all c3
    unfold unsign at c1 c2 c3 hd ⊢
    by_cases hm : t.head? = some 45
    · rw [if_pos hm] at c1 c2 c3 hd
      rw [if_pos hm, if_pos hm]
      cases t with
      | nil => cases hm
      | cons x r =>
        have ex : x = 45 := Option.some.inj hm
        subst ex
        have e : (45 :: r).drop 1 = r := rfl
        rw [e] at c1 c2 hd ⊢
        refine ⟨intText_neg (x := S (45 :: r)) (cs := r) rfl hd (fun z => by rw [z] at c1; exact absurd c1 (by decide)) ?_, ?_⟩
        · rw [S_len, List.length_cons]; omega
        · rw [S_len, List.length_cons]; omega
    · rw [if_neg hm] at c1 c2 c3 hd
      rw [if_neg hm, if_neg hm]
      refine ⟨intText_digits (x := S t) hd (fun z => ?_) (by rw [S_len]; omega), by rw [S_len]; omega⟩
      have z' : t = [] := z
      rw [z'] at c1
      exact absurd c1 (by decide)
  · cases h
/-! ### reading a fraction -/
def rdF (t : List Nat) : Option (Int × Int) := match TL.par [47] [] t with
  | none => match rdI t with
    | some a => some (a, 1)
    | none => none
  | some (p, q) => match rdI p with
    | none => none
    | some a => match rdI q with
      | none => none
      | some b => if b < 2 ∨ 1 < Nat.gcd a.natAbs b.natAbs then none else some (a, b)
theorem par_len {c : List Nat} : ∀ {l acc p q : List Nat}, TL.par c acc l = some (p, q) → p.length + q.length ≤ acc.length + l.length
  | [], acc, p, q, h => by cases h
  | x :: r, acc, p, q, h => by
    by_cases hp : TL.pre c (x :: r) = true
    · rw [TL.par_hit hp] at h
      cases h
      rw [List.length_drop]
      omega
    · rw [TL.par_miss (by cases z : TL.pre c (x :: r) with | true => exact absurd z hp | false => rfl)] at h
      have := par_len h
      rw [List.length_append, List.length_singleton] at this
      rw [List.length_cons]
      omega
/-! ### more of texts -/
section
variable {X : Cx}
/-- a text so many times -/
theorem op_mulS : OpR X (binaryOp .Mult) (fun x y H Q => ∃ a n, x = .str a ∧ y = .int n ∧ MulOk a n ∧ Q (.str (Txt.mul a n)) H) := by
  intro pins s σ H x y v u Q I rx ry h
  obtain ⟨a, n, rfl, rfl, hz, q⟩ := h
  obtain ⟨t, rfl⟩ := rx
  obtain ⟨t', rfl⟩ := ry
  exact SB.mul hz fun t' tk => ⟨.str (Txt.mul a n), H, I.tok _, ⟨_, rfl⟩, q⟩
end
/-- each text is one of its signs -/
theorem S_of (x : Str) : x = S x.cps.toList := TL.ext_tl (by simp [S])
theorem len_S (x : Str) : x.cps.toList.length = x.length := by
  rw [Array.length_toList]
  rfl
end Ev

set_option exponentiation.threshold 256
namespace Ev
open PySem PySem.Spec PyProof.Rows L2
def topS (i : Nat) : Stmt := PySem.Challenge.pw_everystart_k02_whole_texts_of_fractions.main.body.getD i (.Pass ⟨0, 0, 0, 0⟩)
abbrev s_power : Stmt := topS 7
theorem sc_power : FnScope ["base", "exponent", "result"] ["base", "exponent"] (defScope s_power) := ⟨rfl, rfl, rfl, by decide +kernel, rfl, by decide +kernel, by decide +kernel⟩
abbrev s_lowest : Stmt := topS 10
theorem sc_lowest : FnScope ["a", "b", "divisor"] ["a", "b"] (defScope s_lowest) := ⟨rfl, rfl, rfl, by decide +kernel, rfl, by decide +kernel, by decide +kernel⟩
abbrev s_fraction_text : Stmt := topS 11
theorem sc_fraction_text : FnScope ["fraction", "a", "b"] ["fraction"] (defScope s_fraction_text) := ⟨rfl, rfl, rfl, by decide +kernel, rfl, by decide +kernel, by decide +kernel⟩
abbrev s_read_fraction : Stmt := topS 12
theorem sc_read_fraction : FnScope ["value", "above", "slash", "below", "a", "b"] ["value"] (defScope s_read_fraction) := ⟨rfl, rfl, rfl, by decide +kernel, rfl, by decide +kernel, by decide +kernel⟩
abbrev s_integer_text : Stmt := topS 13
theorem sc_integer_text : FnScope ["number", "piece", "rest", "texts", "low"] ["number"] (defScope s_integer_text) := ⟨rfl, rfl, rfl, by decide +kernel, rfl, by decide +kernel, by decide +kernel⟩
abbrev s_read_integer : Stmt := topS 14
theorem sc_read_integer : FnScope ["text", "figures", "sign"] ["text"] (defScope s_read_integer) := ⟨rfl, rfl, rfl, by decide +kernel, rfl, by decide +kernel, by decide +kernel⟩
abbrev s_side_weights : Stmt := topS 16
theorem sc_side_weights : FnScope ["sides", "whole", "_", "share", "number"] ["sides"] (defScope s_side_weights) := ⟨rfl, rfl, rfl, by decide +kernel, rfl, by decide +kernel, by decide +kernel⟩
abbrev s_sum_share : Stmt := topS 17
theorem sc_sum_share : FnScope ["die", "many", "number", "word", "held", "weights", "whole", "total", "weight"] ["die", "many", "number"] (defScope s_sum_share) := ⟨rfl, rfl, rfl, by decide +kernel, rfl, by decide +kernel, by decide +kernel⟩
abbrev s_misses_share : Stmt := topS 18
theorem sc_misses_share : FnScope ["share", "many", "number", "hit", "whole", "rows"] ["share", "many", "number"] (defScope s_misses_share) := ⟨rfl, rfl, rfl, by decide +kernel, rfl, by decide +kernel, by decide +kernel⟩
abbrev s_throw_weights : Stmt := topS 19
theorem sc_throw_weights : FnScope ["weights", "many", "most", "least", "first", "step", "number", "_", "rest", "steps", "rows", "weight", "at"] ["weights", "many", "most"] (defScope s_throw_weights) := ⟨rfl, rfl, rfl, by decide +kernel, rfl, by decide +kernel, by decide +kernel⟩
abbrev s_power_weights : Stmt := topS 20
theorem sc_power_weights : FnScope ["first", "rest", "many", "steps", "rows", "place", "total", "at", "weight"] ["first", "rest", "many", "steps"] (defScope s_power_weights) := ⟨rfl, rfl, rfl, by decide +kernel, rfl, by decide +kernel, by decide +kernel⟩
abbrev s_loom : Stmt := topS 22
theorem sc_loom : FnScope ["script", "cell", "cells", "stirred"] ["script"] (defScope s_loom) := ⟨rfl, rfl, rfl, by decide +kernel, rfl, by decide +kernel, by decide +kernel⟩
abbrev s_draw : Stmt := topS 23
theorem sc_draw : FnScope ["loom", "many", "cell", "one"] ["loom", "many"] (defScope s_draw) := ⟨rfl, rfl, rfl, by decide +kernel, rfl, by decide +kernel, by decide +kernel⟩
abbrev s_pick : Stmt := topS 24
theorem sc_pick : FnScope ["loom", "things"] ["loom", "things"] (defScope s_pick) := ⟨rfl, rfl, rfl, by decide +kernel, rfl, by decide +kernel, by decide +kernel⟩
abbrev s_gcd : Stmt := topS 25
theorem sc_gcd : FnScope ["a", "b"] ["a", "b"] (defScope s_gcd) := ⟨rfl, rfl, rfl, by decide +kernel, rfl, by decide +kernel, by decide +kernel⟩
abbrev s_frac : Stmt := topS 26
theorem sc_frac : FnScope ["a", "b", "d"] ["a", "b"] (defScope s_frac) := ⟨rfl, rfl, rfl, by decide +kernel, rfl, by decide +kernel, by decide +kernel⟩
abbrev s_ten : Stmt := topS 27
theorem sc_ten : FnScope ["many", "found", "turn"] ["many"] (defScope s_ten) := ⟨rfl, rfl, rfl, by decide +kernel, rfl, by decide +kernel, by decide +kernel⟩
abbrev s_far : Stmt := topS 28
theorem sc_far : FnScope ["loom", "many", "found", "turn"] ["loom", "many"] (defScope s_far) := ⟨rfl, rfl, rfl, by decide +kernel, rfl, by decide +kernel, by decide +kernel⟩
abbrev s_odd : Stmt := topS 29
theorem sc_odd : FnScope ["loom", "some"] ["loom"] (defScope s_odd) := ⟨rfl, rfl, rfl, by decide +kernel, rfl, by decide +kernel, by decide +kernel⟩
abbrev s_fraction : Stmt := topS 30
theorem sc_fraction : FnScope ["loom", "size", "a", "b", "found"] ["loom"] (defScope s_fraction) := ⟨rfl, rfl, rfl, by decide +kernel, rfl, by decide +kernel, by decide +kernel⟩
abbrev s_written : Stmt := topS 31
theorem sc_written : FnScope ["own"] ["own"] (defScope s_written) := ⟨rfl, rfl, rfl, by decide +kernel, rfl, by decide +kernel, by decide +kernel⟩
abbrev s_read : Stmt := topS 32
theorem sc_read : FnScope ["value", "text", "parts", "own", "a", "b", "sign"] ["value"] (defScope s_read) := ⟨rfl, rfl, rfl, by decide +kernel, rfl, by decide +kernel, by decide +kernel⟩
abbrev s_told : Stmt := topS 33
theorem sc_told : FnScope ["value", "is_named", "slip"] ["value", "is_named"] (defScope s_told) := ⟨rfl, rfl, rfl, by decide +kernel, rfl, by decide +kernel, by decide +kernel⟩
abbrev s_bent : Stmt := topS 34
theorem sc_bent : FnScope ["loom", "text", "spot", "side", "sign"] ["loom", "text"] (defScope s_bent) := ⟨rfl, rfl, rfl, by decide +kernel, rfl, by decide +kernel, by decide +kernel⟩
abbrev s_law : Stmt := topS 35
theorem sc_law : FnScope ["script", "loom", "odd", "known", "turn", "own", "text", "again", "value", "due", "tall", "many"] ["script"] (defScope s_law) := ⟨rfl, rfl, rfl, by decide +kernel, rfl, by decide +kernel, by decide +kernel⟩
structure Txt (K : PySem.W.Frag) (mg : Str → Option Value) (A : Nat → Addr) (D : Nat → FuncData) : Prop where
  z_int : mg "int" = none
  z_len : mg "len" = none
  z_abs : mg "abs" = none
  z_repr : mg "repr" = none
  range : mg "range" = none
  z_isinstance : mg "isinstance" = none
  z_str : mg "str" = none
  z_all : mg "all" = none
  z_divmod : mg "divmod" = none
  reversed : mg "reversed" = none
  z_min : mg "min" = none
  enumerate : mg "enumerate" = none
  z_gcd : mg "gcd" = some (.builtin "math.gcd")
  z_lcm : mg "lcm" = some (.builtin "math.lcm")
  z_comb : mg "comb" = some (.builtin "math.comb")
  F_fraction_text : Fun K "fraction_text" "fraction_text" s_fraction_text (A 0) (D 0)
  g_fraction_text : mg "fraction_text" = some (.ref (A 0))
  F_read_fraction : Fun K "read_fraction" "read_fraction" s_read_fraction (A 1) (D 1)
  g_read_fraction : mg "read_fraction" = some (.ref (A 1))
  F_integer_text : Fun K "_integer_text" "_integer_text" s_integer_text (A 2) (D 2)
  g_integer_text : mg "_integer_text" = some (.ref (A 2))
  F_read_integer : Fun K "_read_integer" "_read_integer" s_read_integer (A 3) (D 3)
  g_read_integer : mg "_read_integer" = some (.ref (A 3))
  F_loom : Fun K "_law_loom" "_law_loom" s_loom (A 4) (D 4)
  g_loom : mg "_law_loom" = some (.ref (A 4))
  F_draw : Fun K "_law_draw" "_law_draw" s_draw (A 5) (D 5)
  g_draw : mg "_law_draw" = some (.ref (A 5))
  F_pick : Fun K "_law_pick" "_law_pick" s_pick (A 6) (D 6)
  g_pick : mg "_law_pick" = some (.ref (A 6))
  F_gcd : Fun K "_law_gcd" "_law_gcd" s_gcd (A 7) (D 7)
  g_gcd : mg "_law_gcd" = some (.ref (A 7))
  F_frac : Fun K "_law_frac" "_law_frac" s_frac (A 8) (D 8)
  g_frac : mg "_law_frac" = some (.ref (A 8))
  F_ten : Fun K "_law_ten" "_law_ten" s_ten (A 9) (D 9)
  g_ten : mg "_law_ten" = some (.ref (A 9))
  F_far : Fun K "_law_far" "_law_far" s_far (A 10) (D 10)
  g_far : mg "_law_far" = some (.ref (A 10))
  F_odd : Fun K "_law_odd" "_law_odd" s_odd (A 11) (D 11)
  g_odd : mg "_law_odd" = some (.ref (A 11))
  F_fraction : Fun K "_law_fraction" "_law_fraction" s_fraction (A 12) (D 12)
  g_fraction : mg "_law_fraction" = some (.ref (A 12))
  F_written : Fun K "_law_written" "_law_written" s_written (A 13) (D 13)
  g_written : mg "_law_written" = some (.ref (A 13))
  F_read : Fun K "_law_read" "_law_read" s_read (A 14) (D 14)
  g_read : mg "_law_read" = some (.ref (A 14))
  F_told : Fun K "_law_told" "_law_told" s_told (A 15) (D 15)
  g_told : mg "_law_told" = some (.ref (A 15))
  F_bent : Fun K "_law_bent" "_law_bent" s_bent (A 16) (D 16)
  g_bent : mg "_law_bent" = some (.ref (A 16))
  F_law : Fun K "law" "law" s_law (A 17) (D 17)
  g_law : mg "law" = some (.ref (A 17))
  F_lowest : Fun K "lowest" "lowest" s_lowest (A 18) (D 18)
  g_lowest : mg "lowest" = some (.ref (A 18))
  F_power : Fun K "power" "power" s_power (A 19) (D 19)
  g_power : mg "power" = some (.ref (A 19))
  F_side_weights : Fun K "side_weights" "side_weights" s_side_weights (A 20) (D 20)
  g_side_weights : mg "side_weights" = some (.ref (A 20))
  F_throw_weights : Fun K "throw_weights" "throw_weights" s_throw_weights (A 21) (D 21)
  g_throw_weights : mg "throw_weights" = some (.ref (A 21))
  F_power_weights : Fun K "_power_weights" "_power_weights" s_power_weights (A 22) (D 22)
  g_power_weights : mg "_power_weights" = some (.ref (A 22))
  F_misses_share : Fun K "_misses_share" "_misses_share" s_misses_share (A 23) (D 23)
  g_misses_share : mg "_misses_share" = some (.ref (A 23))
  F_sum_share : Fun K "sum_share" "sum_share" s_sum_share (A 24) (D 24)
  g_sum_share : mg "sum_share" = some (.ref (A 24))
  g_BadText : mg "BadText" = some (.ref (A 25))
  g_ThrowError : mg "ThrowError" = some (.ref (A 26))
  c_MAX_FIGURES : ∃ u, mg "MAX_FIGURES" = some u ∧ RelV (.int 400) u
  c_FIGURES : ∃ u, mg "FIGURES" = some u ∧ RelV (.str "0123456789") u
  xB : PySem.W.excIn K (A 25) [.type "ValueError", .type "Exception", .type "BaseException", .type "object"] "ValueError.__new__" = true
  kB : PySem.W.keepIn K (.ref (A 25)) = true
  bB : PySem.W.subIn K (.ref (A 25)) (.type "BaseException") = some true
  tB : PySem.W.typeIn K (.ref (A 25)) = some (.type "type")
  sB : PySem.W.subIn K (.ref (A 25)) (.ref (A 25)) = some true
  cB : ExcC K (A 25)
  oB : PySem.W.kitOne K (.ref (A 25)) (.ref (A 26)) = some true
section
variable {P : Program} {w : World} {K : PySem.W.Frag} {mg : Str → Option Value} {base : Heap} {A : Nat → Addr} {D : Nat → FuncData}
theorem Txt.k_fraction_text (T : Txt K mg A D) : PySem.W.keepIn K (.ref (A 0)) = true := T.F_fraction_text.kp
theorem Txt.b_fraction_text (T : Txt K mg A D) : Binds K (D 0) ["fraction"] [] := T.F_fraction_text.binds fun _ _ _ _ _ _ us hl => match us, hl with | [_], _ => rfl
theorem Txt.k_read_fraction (T : Txt K mg A D) : PySem.W.keepIn K (.ref (A 1)) = true := T.F_read_fraction.kp
theorem Txt.b_read_fraction (T : Txt K mg A D) : Binds K (D 1) ["value"] [] := T.F_read_fraction.binds fun _ _ _ _ _ _ us hl => match us, hl with | [_], _ => rfl
theorem Txt.k_integer_text (T : Txt K mg A D) : PySem.W.keepIn K (.ref (A 2)) = true := T.F_integer_text.kp
theorem Txt.b_integer_text (T : Txt K mg A D) : Binds K (D 2) ["number"] [] := T.F_integer_text.binds fun _ _ _ _ _ _ us hl => match us, hl with | [_], _ => rfl
theorem Txt.k_read_integer (T : Txt K mg A D) : PySem.W.keepIn K (.ref (A 3)) = true := T.F_read_integer.kp
theorem Txt.b_read_integer (T : Txt K mg A D) : Binds K (D 3) ["text"] [] := T.F_read_integer.binds fun _ _ _ _ _ _ us hl => match us, hl with | [_], _ => rfl
theorem Txt.k_loom (T : Txt K mg A D) : PySem.W.keepIn K (.ref (A 4)) = true := T.F_loom.kp
theorem Txt.b_loom (T : Txt K mg A D) : Binds K (D 4) ["script"] [] := T.F_loom.binds fun _ _ _ _ _ _ us hl => match us, hl with | [_], _ => rfl
theorem Txt.k_draw (T : Txt K mg A D) : PySem.W.keepIn K (.ref (A 5)) = true := T.F_draw.kp
theorem Txt.b_draw (T : Txt K mg A D) : Binds K (D 5) ["loom", "many"] [] := T.F_draw.binds fun _ _ _ _ _ _ us hl => match us, hl with | [_, _], _ => rfl
theorem Txt.k_pick (T : Txt K mg A D) : PySem.W.keepIn K (.ref (A 6)) = true := T.F_pick.kp
theorem Txt.b_pick (T : Txt K mg A D) : Binds K (D 6) ["loom", "things"] [] := T.F_pick.binds fun _ _ _ _ _ _ us hl => match us, hl with | [_, _], _ => rfl
theorem Txt.k_gcd (T : Txt K mg A D) : PySem.W.keepIn K (.ref (A 7)) = true := T.F_gcd.kp
theorem Txt.b_gcd (T : Txt K mg A D) : Binds K (D 7) ["a", "b"] [] := T.F_gcd.binds fun _ _ _ _ _ _ us hl => match us, hl with | [_, _], _ => rfl
theorem Txt.k_frac (T : Txt K mg A D) : PySem.W.keepIn K (.ref (A 8)) = true := T.F_frac.kp
theorem Txt.b_frac (T : Txt K mg A D) : Binds K (D 8) ["a", "b"] [] := T.F_frac.binds fun _ _ _ _ _ _ us hl => match us, hl with | [_, _], _ => rfl
theorem Txt.k_ten (T : Txt K mg A D) : PySem.W.keepIn K (.ref (A 9)) = true := T.F_ten.kp
theorem Txt.b_ten (T : Txt K mg A D) : Binds K (D 9) ["many"] [] := T.F_ten.binds fun _ _ _ _ _ _ us hl => match us, hl with | [_], _ => rfl
theorem Txt.k_far (T : Txt K mg A D) : PySem.W.keepIn K (.ref (A 10)) = true := T.F_far.kp
theorem Txt.b_far (T : Txt K mg A D) : Binds K (D 10) ["loom", "many"] [] := T.F_far.binds fun _ _ _ _ _ _ us hl => match us, hl with | [_, _], _ => rfl
theorem Txt.k_odd (T : Txt K mg A D) : PySem.W.keepIn K (.ref (A 11)) = true := T.F_odd.kp
theorem Txt.b_odd (T : Txt K mg A D) : Binds K (D 11) ["loom"] [] := T.F_odd.binds fun _ _ _ _ _ _ us hl => match us, hl with | [_], _ => rfl
theorem Txt.k_fraction (T : Txt K mg A D) : PySem.W.keepIn K (.ref (A 12)) = true := T.F_fraction.kp
theorem Txt.b_fraction (T : Txt K mg A D) : Binds K (D 12) ["loom"] [] := T.F_fraction.binds fun _ _ _ _ _ _ us hl => match us, hl with | [_], _ => rfl
theorem Txt.k_written (T : Txt K mg A D) : PySem.W.keepIn K (.ref (A 13)) = true := T.F_written.kp
theorem Txt.b_written (T : Txt K mg A D) : Binds K (D 13) ["own"] [] := T.F_written.binds fun _ _ _ _ _ _ us hl => match us, hl with | [_], _ => rfl
theorem Txt.k_read (T : Txt K mg A D) : PySem.W.keepIn K (.ref (A 14)) = true := T.F_read.kp
theorem Txt.b_read (T : Txt K mg A D) : Binds K (D 14) ["value"] [] := T.F_read.binds fun _ _ _ _ _ _ us hl => match us, hl with | [_], _ => rfl
theorem Txt.k_told (T : Txt K mg A D) : PySem.W.keepIn K (.ref (A 15)) = true := T.F_told.kp
theorem Txt.b_told (T : Txt K mg A D) : Binds K (D 15) ["value", "is_named"] [] := T.F_told.binds fun _ _ _ _ _ _ us hl => match us, hl with | [_, _], _ => rfl
theorem Txt.k_bent (T : Txt K mg A D) : PySem.W.keepIn K (.ref (A 16)) = true := T.F_bent.kp
theorem Txt.b_bent (T : Txt K mg A D) : Binds K (D 16) ["loom", "text"] [] := T.F_bent.binds fun _ _ _ _ _ _ us hl => match us, hl with | [_, _], _ => rfl
theorem Txt.k_law (T : Txt K mg A D) : PySem.W.keepIn K (.ref (A 17)) = true := T.F_law.kp
theorem Txt.b_law (T : Txt K mg A D) : Binds K (D 17) ["script"] [] := T.F_law.binds fun _ _ _ _ _ _ us hl => match us, hl with | [_], _ => rfl
theorem Txt.k_lowest (T : Txt K mg A D) : PySem.W.keepIn K (.ref (A 18)) = true := T.F_lowest.kp
theorem Txt.b_lowest (T : Txt K mg A D) : Binds K (D 18) ["a", "b"] [] := T.F_lowest.binds fun _ _ _ _ _ _ us hl => match us, hl with | [_, _], _ => rfl
theorem Txt.k_power (T : Txt K mg A D) : PySem.W.keepIn K (.ref (A 19)) = true := T.F_power.kp
theorem Txt.b_power (T : Txt K mg A D) : Binds K (D 19) ["base", "exponent"] [] := T.F_power.binds fun _ _ _ _ _ _ us hl => match us, hl with | [_, _], _ => rfl
theorem Txt.k_side_weights (T : Txt K mg A D) : PySem.W.keepIn K (.ref (A 20)) = true := T.F_side_weights.kp
theorem Txt.b_side_weights (T : Txt K mg A D) : Binds K (D 20) ["sides"] [] := T.F_side_weights.binds fun _ _ _ _ _ _ us hl => match us, hl with | [_], _ => rfl
theorem Txt.k_throw_weights (T : Txt K mg A D) : PySem.W.keepIn K (.ref (A 21)) = true := T.F_throw_weights.kp
theorem Txt.b_throw_weights (T : Txt K mg A D) : Binds K (D 21) ["weights", "many", "most"] [] := T.F_throw_weights.binds fun _ _ _ _ _ _ us hl => match us, hl with | [_, _, _], _ => rfl
theorem Txt.k_power_weights (T : Txt K mg A D) : PySem.W.keepIn K (.ref (A 22)) = true := T.F_power_weights.kp
theorem Txt.b_power_weights (T : Txt K mg A D) : Binds K (D 22) ["first", "rest", "many", "steps"] [] := T.F_power_weights.binds fun _ _ _ _ _ _ us hl => match us, hl with | [_, _, _, _], _ => rfl
theorem Txt.k_misses_share (T : Txt K mg A D) : PySem.W.keepIn K (.ref (A 23)) = true := T.F_misses_share.kp
theorem Txt.b_misses_share (T : Txt K mg A D) : Binds K (D 23) ["share", "many", "number"] [] := T.F_misses_share.binds fun _ _ _ _ _ _ us hl => match us, hl with | [_, _, _], _ => rfl
theorem Txt.k_sum_share (T : Txt K mg A D) : PySem.W.keepIn K (.ref (A 24)) = true := T.F_sum_share.kp
theorem Txt.b_sum_share (T : Txt K mg A D) : Binds K (D 24) ["die", "many", "number"] [] := T.F_sum_share.binds fun _ _ _ _ _ _ us hl => match us, hl with | [_, _, _], _ => rfl

end
section
variable {X : Cx} {x : Str} {v : V} {pos : Pos}
theorem pe_const (hg : Gl X x) (h : ∃ u, X.mg x = some u ∧ RelV v u) (hd : (x == ("__debug__" : Str)) = false := by decide) : PE X (.Name x pos) (tC v) := by
  obtain ⟨u, e, r⟩ := h
  exact pe_glob hg e r hd
/-- f(e, ..) in a def that may raise: what f raises leaves it, too -/
theorem pe_callX {k : Nat} {f : Addr} {fd : FuncData} {ps : List Str} {sp : Sp} {p : Pos} {e : Expr} {es : List Expr} {t : TA} {W : WX}
    (tk : Takes X W) (F : FnOk X.prog X.w X.K X.mg X.base (L2.CX X.prog X.w) k f fd ps sp) (hr : Room k X.A) (hg : Gl X x) (hm : X.mg x = some (.ref f))
    (hk : PySem.W.keepIn X.K (.ref f) = true) (hb : Binds X.K fd ps []) (ha : PA X (e :: es) t)
    (hdb : (x == ("__debug__" : Str)) = false := by decide) (he : starEach (e :: es) X.env = (false, eval e X.env) :: starEach es X.env := by rfl)
    (hpl : (backTo pos (starEach es X.env)).any (·.1) = false := by rfl) : PE X (.Call (.Name x p) (e :: es) [] pos) (tCallS sp (WE W) t) :=
  pe_callS F hr hg hm hk hb (fun σ => passAt tk σ) ha hdb he hpl
end
end Ev

set_option exponentiation.threshold 256
namespace Ev
open PySem PySem.Spec PyProof.Rows L2 SX
open TL (numL numL_lt numL_step numL_digits numL_ne numL_free numL_val numL_inj numL_len)
section
variable {P : Program} {w : World} {K : PySem.W.Frag} {mg : Str → Option Value} {base : Heap} {A : Nat → Addr} {D : Nat → FuncData}
theorem absJ (a : Int) : (if a < 0 then -a else a) = (a.natAbs : Int) := by
  split <;> omega
/-! ### the text of an integer -/
def sp_integer_text : Sp := fun vs H Q _ => ∃ n : Int, vs = [.int n] ∧ n.natAbs < 10 ^ 100000 ∧ ∀ H', Same H H' → Q (.str (S (intL n))) H'
theorem Txt.ok_integer_text (T : Txt K mg A D) : FnOk P w K mg base CX0 1 (A 2) (D 2) ["number"] sp_integer_text := by
  refine T.F_integer_text.ok sc_integer_text (fun vs H Q E h => ?_) (fun cdv Ar outer s H vs Q E hr h => ?_)
  · obtain ⟨n, rfl, _⟩ := h
    rfl
  · obtain ⟨n, rfl, hn, q⟩ := h
    refine ⟨_, (pss_cons (ps_set (i := 1) sc_integer_text.nd rfl (Or.inl rfl) (pe_op op_pow pe_int pe_int))
    (pss_cons (ps_set (i := 2) sc_integer_text.nd rfl (Or.inl rfl) (pe_callB call_abs (by rfl) T.z_abs (by decide +kernel) (pa_cons (pv 0) pa_nil)))
    (pss_cons (ps_set (i := 3) sc_integer_text.nd rfl (Or.inl rfl) (pe_lst pa_nil))
    (pss_cons (ps_while PassesOwn.never (pt_cmpR op_ge (pv 2) (pv 1) (nomark _)) (pss_cons (ps_asg (pe_callB call_divmodW (by rfl) T.z_divmod (by decide +kernel) (pa_cons (pv 2) (pa_cons (pv 1) pa_nil))) (pg_tup rfl (pgs_cons (pg_name (i := 2) sc_integer_text.nd rfl (Or.inl rfl)) (pgs_cons (pg_name (i := 4) sc_integer_text.nd rfl (Or.inl rfl)) pgs_nil))))
    (pss_one (ps_expr (pe_bm PySem.F.plainAttrs_list PySem.F.slot_list_append PySem.F.type_list_append mt_append (pv 3) (pa_cons (pe_bm PySem.F.plainAttrs_str PySem.F.slot_str_zfill PySem.F.type_str_zfill mt_zfill (pe_callTy call_str_int (by rfl) T.z_str (by decide +kernel) (pa_cons (pv 4) pa_nil)) (pa_cons pe_int pa_nil)) pa_nil))))))
    (pss_cons (ps_expr (pe_bm PySem.F.plainAttrs_list PySem.F.slot_list_append PySem.F.type_list_append mt_append (pv 3) (pa_cons (pe_callTy call_str_int (by rfl) T.z_str (by decide +kernel) (pa_cons (pv 2) pa_nil)) pa_nil)))
    (pss_cons (ps_if (pt_cmpR op_lt (pv 0) pe_int (nomark _)) (pss_one (ps_expr (pe_bm PySem.F.plainAttrs_list PySem.F.slot_list_append PySem.F.type_list_append mt_append (pv 3) (pa_cons pe_str pa_nil)))) pss_nil)
    (pss_one (ps_ret (pe_joinRev rfl pe_str (by rfl) T.reversed (pv 3)))))))))), ?_⟩
    refine ⟨_, _, rfl, rfl, ⟨by decide, by decide, by decide⟩, ?_⟩
    refine ⟨_, rfl, _, rfl, ?_⟩
    rw [absJ]
    refine ⟨Nat.zero_le _, fun p hp => ?_⟩
    have e64 : (10 : Int) ^ (64 : Int).toNat = ((10 ^ 64 : Nat) : Int) := by decide +kernel
    have hlen : (numL n.natAbs).length ≤ 100000 := numL_len (by decide) hn
    refine while_by (fun σ H' => ∃ (r : Nat) (ts : List (List Nat)) (y : Option V), σ = [some (.int n), some (.int ((10 ^ 64 : Nat) : Int)), some (.int (r : Int)), some (.ref p), y] ∧ Same H H' ∧ H' p = some (.lst ((ts.map S).map V.str)) ∧
        numL n.natAbs = numL r ++ ts.reverse.flatten ∧ ts.reverse.flatten.length = 64 * ts.length)
      (fun σ _ => match σ with | [_, _, some (.int r), _, _] => r.toNat | _ => 0) ⟨n.natAbs, [], none, ?_, same_new hp, upd_same, by simp, rfl⟩ ?_ ?_
    · rw [← e64]
      rfl
    · rintro σ H' ⟨r, ts, y, rfl, sm, hl, en, el⟩
      have hts : 64 * ts.length ≤ 100000 := by
        have := congrArg List.length en
        rw [List.length_append, el] at this
        omega
      refine ⟨_, rfl, _, rfl, _, _, rfl, rfl, _, rfl, ite2 (fun e => ?_) (fun e => ?_)⟩
      · have hr64 : 10 ^ 64 ≤ r := by
          have := of_decide_eq_true e
          omega
        have hq : 1 ≤ r / 10 ^ 64 := (Nat.one_le_div_iff (by decide)).mpr hr64
        have hr : r % 10 ^ 64 < 10 ^ 64 := Nat.mod_lt _ (by decide)
        have cut : numL r = numL (r / 10 ^ 64) ++ padL 64 (r % 10 ^ 64) := by
          have := numL_cat hq 64 (r % 10 ^ 64) hr
          rw [Nat.mul_comm, Nat.div_add_mod] at this
          exact this
        refine ⟨_, rfl, _, rfl, _, _, rfl, ⟨by decide, PyProof.noPylong_of_log2 (by decide +kernel)⟩, fun t ht => ?_⟩
        have nt : p ≠ t := ne_of_none hl ht
        refine ⟨t, _, rfl, SqT.of upd_same, rfl, _, _, rfl, _, _, rfl, rfl, ?_⟩
        have sm2 := sm.trans (same_new (o := .tup [.int ((r : Int) / ((10 ^ 64 : Nat) : Int)), .int ((r : Int) % ((10 ^ 64 : Nat) : Int))]) ht)
        have hl2 : (upd H' t (.tup [.int ((r : Int) / ((10 ^ 64 : Nat) : Int)), .int ((r : Int) % ((10 ^ 64 : Nat) : Int))])) p = some (.lst ((ts.map S).map V.str)) := by
          rw [upd_ne nt]
          exact hl
        have lowlog : ((r : Int) % ((10 ^ 64 : Nat) : Int)).natAbs.log2 < 1920 := by
          rw [show ((r : Int) % ((10 ^ 64 : Nat) : Int)).natAbs = r % 10 ^ 64 from rfl]
          exact PySem.Flt.log2_lt_of (by decide) (Nat.lt_trans hr (by decide +kernel))
        have txt : Txt.zfill (Str.ofString (toString ((r : Int) % ((10 ^ 64 : Nat) : Int)))) 64 = S (padL 64 (r % 10 ^ 64)) := by
          have e1 : ((r : Int) % ((10 ^ 64 : Nat) : Int)) = ((r % 10 ^ 64 : Nat) : Int) := rfl
          rw [e1, num_S]
          exact zfill_num (k := 63) hr
        refine ⟨_, rfl, .inl ⟨rfl, _, SqL.of hl2⟩, _, rfl, _, rfl, lowlog, rfl, _, _, rfl, rfl, by decide, ?_⟩
        rw [txt]
        refine ⟨p, _, _, rfl, rfl, hl2, ?_, ?_⟩
        · rw [List.length_map, List.length_map]
          exact Nat.lt_of_le_of_lt (show ts.length ≤ 1563 by omega) (by decide)
        · refine ⟨⟨r / 10 ^ 64, ts ++ [padL 64 (r % 10 ^ 64)], some (.int ((r : Int) % ((10 ^ 64 : Nat) : Int))), rfl, same_put sm2 hp, ?_, ?_, ?_⟩, ?_⟩
          · rw [upd_same, List.map_append, List.map_append]
            rfl
          · rw [en, cut, List.reverse_append, List.append_assoc]
            rfl
          · rw [List.reverse_append, List.flatten_append, List.length_append, el, List.length_append]
            show (padL 64 (r % 10 ^ 64) ++ []).length + 64 * ts.length = 64 * (ts.length + 1)
            rw [List.append_nil, padL_len]
            omega
          · show ((r : Int) / ((10 ^ 64 : Nat) : Int)).toNat < (r : Int).toNat
            have : r / 10 ^ 64 < r := Nat.div_lt_self (by omega) (by decide)
            exact this
      · have hr64 : r < 10 ^ 64 := by
          have := Int.not_le.mp (fun z => e (decide_eq_true z))
          omega
        have lowlog : (r : Int).natAbs.log2 < 1920 := PySem.Flt.log2_lt_of (by decide) (Nat.lt_trans hr64 (by decide +kernel))
        have hln : ∀ k : Nat, k ≤ 2 → ts.length + k < sizeLine := fun k hk => Nat.lt_of_le_of_lt (show ts.length + k ≤ 1565 by omega) (by decide)
        refine ⟨_, rfl, .inl ⟨rfl, _, SqL.of hl⟩, _, rfl, _, rfl, lowlog, ?_⟩
        rw [num_S]
        refine ⟨p, _, _, rfl, rfl, hl, (by rw [List.length_map, List.length_map]; exact hln 0 (by decide)), ?_⟩
        have hl3 : (intL n).length ≤ 100001 := intL_len (by decide) hn
        have sm2 : Same H (upd H' p (.lst ((ts.map S).map V.str ++ [.str (S (numL r))]))) := same_put sm hp
        have hl4 : (ts.map S).map V.str ++ [V.str (S (numL r))] = ((ts ++ [numL r]).map S).map V.str := by
          rw [List.map_append, List.map_append]
          rfl
        have size : ∀ us : List (List Nat), us.reverse.flatten = intL n → (((us.map S).map (·.length)).sum + (us.map S).length * ("" : Str).length ≤ 16777216) := by
          intro us hu
          have z : ("" : Str).length = 0 := rfl
          rw [z, Nat.mul_zero, Nat.add_zero, lens_sum, ← flat_rev_len, hu]
          omega
        refine ⟨_, rfl, _, _, rfl, rfl, _, rfl, ite2 (fun e2 => ?_) (fun e2 => ?_)⟩
        · have neg : intL n = 45 :: numL n.natAbs := if_pos (of_decide_eq_true e2)
          have flat : (ts ++ [numL r] ++ [[45]]).reverse.flatten = intL n := by
            rw [neg, en, List.reverse_append, List.reverse_append]
            rfl
          refine ⟨_, rfl, .inl ⟨rfl, _, SqL.of upd_same⟩, p, _, _, rfl, rfl, upd_same, ?_, ?_⟩
          · rw [List.length_append, List.length_map, List.length_map]
            exact hln 1 (by decide)
          have hl5 : (upd (upd H' p (.lst ((ts.map S).map V.str ++ [.str (S (numL r))]))) p (.lst ((ts.map S).map V.str ++ [.str (S (numL r))] ++ [.str "-"]))) p = some (.lst (((ts ++ [numL r] ++ [[45]]).map S).map V.str)) := by
            have z : ((ts ++ [numL r] ++ [[45]]).map S).map V.str = ((ts ++ [numL r]).map S).map V.str ++ [.str "-"] := by
              rw [List.map_append (l₁ := ts ++ [numL r]), List.map_append (f := V.str)]
              rfl
            rw [upd_same, hl4, z]
          refine ⟨⟨_, rfl⟩, _, rfl, "", p, _, rfl, rfl, SqL.of hl5, size _ flat, ?_⟩
          rw [← List.map_reverse, join_empty, flat]
          exact q _ (same_put sm2 hp)
        · have pos : intL n = numL n.natAbs := if_neg (fun z => e2 (decide_eq_true z))
          have flat : (ts ++ [numL r]).reverse.flatten = intL n := by
            rw [pos, en, List.reverse_append]
            rfl
          have hl5 : (upd H' p (.lst ((ts.map S).map V.str ++ [.str (S (numL r))]))) p = some (.lst (((ts ++ [numL r]).map S).map V.str)) := by
            rw [upd_same, hl4]
          refine ⟨⟨_, rfl⟩, _, rfl, "", p, _, rfl, rfl, SqL.of hl5, size _ flat, ?_⟩
          rw [← List.map_reverse, join_empty, flat]
          exact q _ sm2
    · intro σ H' Q1 Q2 k h
      obtain ⟨v, h1, u, h2, i, j, h3, h4, c, h5, h6⟩ := h
      exact ⟨v, h1, u, h2, i, j, h3, h4, c, h5, k _ _ h6⟩
/-! ### the text of a fraction -/
def sp_fraction_text : Sp := fun vs H Q _ => ∃ (t : Addr) (a b : Int), vs = [.ref t] ∧ SqT K H t [.int a, .int b] ∧ a.natAbs < 10 ^ 100000 ∧ b.natAbs < 10 ^ 100000 ∧
  ∀ H', Same H H' → Q (.str (S (fracL a b))) H'
theorem Txt.ok_fraction_text (T : Txt K mg A D) : FnOk P w K mg base CX0 2 (A 0) (D 0) ["fraction"] (sp_fraction_text (K := K)) := by
  refine T.F_fraction_text.ok sc_fraction_text (fun vs H Q E h => ?_) (fun cdv Ar outer s H vs Q E hr h => ?_)
  · obtain ⟨t, a, b, rfl, _⟩ := h
    rfl
  · obtain ⟨t, a, b, rfl, ht, ha, hb, q⟩ := h
    have la := intL_len (by decide) ha
    have lb := intL_len (by decide) hb
    refine ⟨_, (pss_cons (ps_asg (pv 0) (pg_tup rfl (pgs_cons (pg_name (i := 1) sc_fraction_text.nd rfl (Or.inl rfl)) (pgs_cons (pg_name (i := 2) sc_fraction_text.nd rfl (Or.inl rfl)) pgs_nil))))
    (pss_cons (ps_if (pt_cmpR op_eq (pv 2) pe_int (nomark _)) (pss_one (ps_ret (pe_call (T.ok_integer_text) hr (by rfl) T.g_integer_text T.k_integer_text T.b_integer_text .nil pass0 (pa_cons (pv 1) pa_nil)))) pss_nil)
    (pss_one (ps_ret (pe_op op_add_str (pe_op op_add_str (pe_call (T.ok_integer_text) hr (by rfl) T.g_integer_text T.k_integer_text T.b_integer_text .nil pass0 (pa_cons (pv 1) pa_nil)) pe_str) (pe_call (T.ok_integer_text) hr (by rfl) T.g_integer_text T.k_integer_text T.b_integer_text .nil pass0 (pa_cons (pv 2) pa_nil))))))), ?_⟩
    refine ⟨_, rfl, t, _, rfl, ht, rfl, _, _, rfl, _, _, rfl, rfl, ?_⟩
    refine ⟨_, rfl, rfl, _, rfl, ite2 (fun e => ?_) (fun e => ?_)⟩
    · refine ⟨_, rfl, a, rfl, ha, fun H1 sm => ?_⟩
      have z : fracL a b = intL a := if_pos (V.int.inj (of_decide_eq_true e))
      rw [z] at q
      exact q H1 sm
    · have z : fracL a b = intL a ++ 47 :: intL b := if_neg (fun y => vneF e (congrArg V.int y))
      refine ⟨_, rfl, a, rfl, ha, fun H1 sm1 => ⟨_, _, rfl, rfl, ?_, _, rfl, b, rfl, hb, fun H2 sm2 => ⟨_, _, rfl, rfl, ?_, ?_⟩⟩⟩
      · rw [S_len, sizeLine_eq]
        show (intL a).length + 1 ≤ _
        omega
      · show (S (intL a) ++ S [47]).length + (S (intL b)).length ≤ _
        rw [S_cat (intL a) [47], S_len, S_len, sizeLine_eq, List.length_append, List.length_singleton]
        omega
      · have e2 : S (intL a) ++ ("/" : Str) ++ S (intL b) = S (fracL a b) := by
          show S (intL a) ++ S [47] ++ S (intL b) = _
          rw [S_cat, S_cat, z, List.append_assoc]
          rfl
        show Q (.str (S (intL a) ++ ("/" : Str) ++ S (intL b))) H2
        rw [e2]
        exact q H2 (sm1.trans sm2)
/-! ### reading an integer -/
theorem S_empty_head {c : Nat} {r : List Nat} : (S (c :: r)).length = r.length + 1 := by rw [S_len]; rfl
def sp_read_integer (CB : Addr) : Sp := fun vs H Q E => ∃ t : List Nat, vs = [.str (S t)] ∧ t.length ≤ 16000000 ∧ (rdI t = none → ∀ H', Same H H' → E (.ref CB) none H') ∧
  ∀ n, rdI t = some n → ∀ H', Same H H' → Q (.int n) H'
theorem Txt.ok_read_integer (T : Txt K mg A D) : FnOk P w K mg base (L2.CX P w) 1 (A 3) (D 3) ["text"] (sp_read_integer (A 25)) := by
  refine T.F_read_integer.okX sc_read_integer (fun vs H Q E h => ?_) (fun cdv Ar outer s H vs Q E hr h => ?_)
  · obtain ⟨t, rfl, _⟩ := h
    rfl
  · obtain ⟨t, rfl, hl, q0, q⟩ := h
    refine ⟨_, (pss_cons (ps_set (i := 1) sc_read_integer.nd rfl (Or.inl rfl) (pe_bm PySem.F.plainAttrs_str PySem.F.slot_str_removeprefix PySem.F.type_str_removeprefix mt_removeprefix (pv 0) (pa_cons pe_str pa_nil)))
    (pss_cons (ps_if (pt_not (pt_chain op_le op_le pe_int (pe_callB call_len_str (by rfl) T.z_len (by decide +kernel) (pa_cons (pv 1) pa_nil)) (pe_const (by rfl) T.c_MAX_FIGURES))) (pss_one (ps_raise rfl (takes_of rfl rfl rfl rfl) (pmk_own0 PySem.F.excBase_ValueError T.xB T.g_BadText T.kB (raises_own T.bB T.tB) rfl))) pss_nil)
    (pss_cons (ps_if (pt_not (pt_val (pe_callB (cr_all rfl) (by rfl) T.z_all (by decide +kernel) (pa_cons (pe_lc (own := [("sign", 2)]) (g := gName 2) (tt := tYes) rfl sc_read_integer.nd (pi_str (pv 1)) (blkOk_by (N := ["text", "figures", "sign"]) (sc := defScope s_read_integer) (by decide +kernel)) (fun _ _ _ _ _ => pg_name (i := 2) sc_read_integer.nd rfl (Or.inl rfl)) (fun _ _ _ _ _ => pts_nil) (fun _ _ _ _ _ => (pe_cmpR op_in_sign (pv 2) (pe_const (by rfl) T.c_FIGURES) (by rfl)))) pa_nil)))) (pss_one (ps_raise rfl (takes_of rfl rfl rfl rfl) (pmk_own0 PySem.F.excBase_ValueError T.xB T.g_BadText T.kB (raises_own T.bB T.tB) rfl))) pss_nil)
    (pss_cons (ps_if (PW.pt (pw_and (pt_cmpR op_eq (pe_ix ix_str (pv 1) pe_int (fun _ _ => rfl)) pe_str (nomark _)) (pw_and1 (pt_cmpR op_ne (pv 0) pe_str (nomark _))))) (pss_one (ps_raise rfl (takes_of rfl rfl rfl rfl) (pmk_own0 PySem.F.excBase_ValueError T.xB T.g_BadText T.kB (raises_own T.bB T.tB) rfl))) pss_nil)
    (pss_one (ps_ret (pe_callTy call_int_str (by rfl) T.z_int (by decide +kernel) (pa_cons (pv 0) pa_nil)))))))), ?_⟩
    have hsz : (S t).length ≤ sizeLine := by rw [S_len, sizeLine_eq]; omega
    refine ⟨_, rfl, rfl, _, _, rfl, rfl, hsz, ?_⟩
    have ef : Txt.removeprefix (S t) ("-" : Str) = S (unsign t) := removeprefix_minus t
    rw [ef]
    have hul : (unsign t).length ≤ t.length := by
      unfold unsign
      split
      · rw [List.length_drop]; omega
      · exact Nat.le_refl _
    have usz : (S (unsign t)).length ≤ sizeLine := by rw [S_len, sizeLine_eq]; omega
    -- not 1 <= len(figures) <= 400
    have bad : rdI t = none → (∀ H', Same H H' → E (.ref (A 25)) none H') := q0
    refine ⟨_, rfl, _, rfl, usz, _, _, rfl, rfl, _, rfl, ite2 (fun e => ?_) (fun e => ?_)⟩
    · refine ⟨_, _, rfl, rfl, _, rfl, ite2 (fun e1 => ?_) (fun e1 => ?_)⟩
      · refine bad ?_ H (Same.refl H)
        unfold rdI
        refine if_neg fun z => ?_
        rw [Bool.not_eq_true', decide_eq_false_iff_not, S_len] at e1
        omega
      · have l1 : 1 ≤ (unsign t).length := by
          have := of_decide_eq_true e
          rw [S_len] at this
          omega
        have l2 : (unsign t).length ≤ 400 := by
          rw [Bool.not_eq_true', decide_eq_false_iff_not, S_len] at e1
          omega
        refine ⟨_, rfl, _, rfl, fun p hp => ?_⟩
        refine lc_it walk_str (fun i H' => Same H H' ∧ H' p = some (.lst (((unsign t).take i).map fun c => V.bl (isDig c)))) ⟨same_new hp, upd_same⟩ (fun _ _ _ _ => trivial) ?_ ?_
        · rintro i x H1 H2 hi ⟨sm, hD⟩ ⟨rfl, c, hc, rfl⟩
          rw [S_size] at hi
          rw [S_at] at hc
          refine ⟨rfl, yes_of ?_⟩
          refine ⟨_, rfl, c, _, rfl, rfl, _, hD, ?_, same_put sm hp, ?_⟩
          · rw [List.length_map, List.length_take]
            exact small1000 (by omega)
          · rw [upd_same, List.take_add_one, hc, figures_in]
            simp
        · rintro H1 ⟨sm, hD⟩
          rw [S_size, List.take_length] at hD
          refine ⟨p, (unsign t).map isDig, rfl, SqL.of (by rw [hD, List.map_map]; rfl), _, rfl, ?_⟩
          have eall : ((unsign t).map isDig).all id = (unsign t).all isDig := by
            rw [List.all_map]
            rfl
          rw [eall]
          refine ite2 (fun e2 => ?_) (fun e2 => ?_)
          · refine bad ?_ H1 sm
            unfold rdI
            refine if_neg fun z => ?_
            rw [z.2.2.1] at e2
            exact absurd e2 (by decide)
          · have all1 : (unsign t).all isDig = true := by
              cases z : (unsign t).all isDig with
              | true => rfl
              | false => rw [z] at e2; exact absurd rfl e2
            obtain ⟨c0, r0, eu⟩ : ∃ c r, unsign t = c :: r := by
              cases z : unsign t with
              | nil => rw [z] at l1; exact absurd l1 (by decide)
              | cons c r => exact ⟨c, r, rfl⟩
            have h0 : atI (S (unsign t)).cps.toList 0 = some c0 := by
              show atI (unsign t) 0 = some c0
              rw [eu]
              exact atI_nat (j := 0) rfl
            have good : ((unsign t).head? = some 48 → t = [48]) → ∀ n', (tRet (tCB (fun xs H Q => ∃ a n, xs = [.str a] ∧ PySem.intText? a = some n ∧ a.length ≤ 640 ∧ Q (.int n) H) (tCons (tVar 0) tNil))) { nx := n', rt := Q } [some (.str (S t)), some (.str (S (unsign t))), none] H1 := by
              intro hz n'
              have e3 : rdI t = some (if t.head? = some 45 then -(NumText.digitsVal (unsign t) : Int) else (NumText.digitsVal (unsign t) : Int)) := by
                unfold rdI
                exact if_pos ⟨l1, l2, all1, hz⟩
              obtain ⟨i1, i2⟩ := intText_rd e3
              exact ⟨_, rfl, _, _, rfl, i1, i2, q _ e3 H1 sm⟩
            refine ⟨_, rfl, _, _, _, rfl, rfl, usz, h0, rfl, _, rfl, ite2 (fun e3 => ?_) (fun e3 => ?_)⟩
            · have ec : c0 = 48 := by
                have z : S [c0] = S [48] := V.str.inj (of_decide_eq_true e3)
                have := S_inj z
                injection this
              refine ⟨_, rfl, rfl, _, rfl, ite2 (fun e4 => ?_) (fun e4 => ?_)⟩
              · refine bad ?_ H1 sm
                unfold rdI
                refine if_neg fun z => vne e4 ?_
                have := z.2.2.2 (by rw [eu, ec]; rfl)
                rw [this]
                rfl
              · refine good (fun _ => ?_) _
                have z : S t = S [48] := V.str.inj (veq e4)
                exact S_inj z
            · refine iteF (good (fun z => ?_) _)
              rw [eu] at z
              have ec : c0 = 48 := Option.some.inj z
              rw [ec] at e3
              exact absurd (decide_eq_true rfl) e3
    · refine ⟨_, rfl, ite2 (fun e1 => ?_) (fun e1 => absurd rfl e1)⟩
      refine bad ?_ H (Same.refl H)
      unfold rdI
      refine if_neg fun z => e (decide_eq_true ?_)
      rw [S_len]
      omega
/-! ### reading a fraction -/
def sp_read_fraction (K : PySem.W.Frag) (CB : Addr) : Sp := fun vs H Q E => ∃ v : V, vs = [v] ∧
  ((∃ t : List Nat, v = .str (S t) ∧ t.length ≤ 16000000 ∧ (rdF t = none → ∀ H', Same H H' → E (.ref CB) none H') ∧
      ∀ a b, rdF t = some (a, b) → ∀ (H' : Hp) (p : Addr), Same H H' → H p = none → H' p = some (.tup [.int a, .int b]) → Q (.ref p) H') ∨
    ∃ tn : String, TyX K H v (.type tn) ∧ PySem.W.kitOne K (.type tn) (.type "str") = some false ∧ E (.ref CB) none H)
theorem Txt.ok_read_fraction (T : Txt K mg A D) : FnOk P w K mg base (L2.CX P w) 2 (A 1) (D 1) ["value"] (sp_read_fraction K (A 25)) := by
  refine T.F_read_fraction.okX sc_read_fraction (fun vs H Q E h => ?_) (fun cdv Ar outer s H vs Q E hr h => ?_)
  · obtain ⟨v, rfl, _⟩ := h
    rfl
  · obtain ⟨v, rfl, h⟩ := h
    refine ⟨_, (pss_cons (ps_if (pt_not (pt_val (pe_callB call_isi (by rfl) T.z_isinstance (by decide +kernel) (pa_cons (pv 0) (pa_cons (pe_bltn (v := .ty "str") (by rfl) T.z_str (by decide +kernel) rfl) pa_nil))))) (pss_one (ps_raise rfl (takes_of rfl rfl rfl rfl) (pmk_own0 PySem.F.excBase_ValueError T.xB T.g_BadText T.kB (raises_own T.bB T.tB) rfl))) pss_nil)
    (pss_cons (ps_asg (pe_partition (pv 0) pe_str) (pg_tup rfl (pgs_cons (pg_name (i := 1) sc_read_fraction.nd rfl (Or.inl rfl)) (pgs_cons (pg_name (i := 2) sc_read_fraction.nd rfl (Or.inl rfl)) (pgs_cons (pg_name (i := 3) sc_read_fraction.nd rfl (Or.inl rfl)) pgs_nil)))))
    (pss_cons (ps_set (i := 4) sc_read_fraction.nd rfl (Or.inl rfl) (pe_callX (takes_of rfl rfl rfl rfl) T.ok_read_integer hr (by rfl) T.g_read_integer T.k_read_integer T.b_read_integer (pa_cons (pv 1) pa_nil)))
    (pss_cons (ps_if (pt_cmpR op_eq (pv 2) pe_str (nomark _)) (pss_one (ps_ret (pe_tup (pa_cons (pv 4) (pa_cons pe_int pa_nil))))) pss_nil)
    (pss_cons (ps_set (i := 5) sc_read_fraction.nd rfl (Or.inl rfl) (pe_callX (takes_of rfl rfl rfl rfl) T.ok_read_integer hr (by rfl) T.g_read_integer T.k_read_integer T.b_read_integer (pa_cons (pv 3) pa_nil)))
    (pss_cons (ps_if (PW.pt (pw_or (pt_cmpR op_lt (pv 5) pe_int (nomark _)) (pw_or1 (pt_cmpR op_gt (pe_callBfun cr_gcd (by rfl) T.z_gcd (pa_cons (pv 4) (pa_cons (pv 5) pa_nil))) pe_int (nomark _))))) (pss_one (ps_raise rfl (takes_of rfl rfl rfl rfl) (pmk_own0 PySem.F.excBase_ValueError T.xB T.g_BadText T.kB (raises_own T.bB T.tB) rfl))) pss_nil)
    (pss_one (ps_ret (pe_tup (pa_cons (pv 4) (pa_cons (pv 5) pa_nil))))))))))), ?_⟩
    rcases h with ⟨t, rfl, hl, q0, q⟩ | ⟨tn, ty, kt, q0⟩
    · have hsz : (S t).length ≤ sizeLine := by rw [S_len, sizeLine_eq]; omega
      refine ⟨_, rfl, _, _, _, _, true, rfl, .ty "str", .base (.str _), L2.kit_ty (by decide +kernel), _, rfl, iteF ?_⟩
      refine ⟨_, rfl, ⟨_, rfl⟩, _, _, rfl, rfl, by decide, hsz, fun p hp => ?_⟩
      have sm : ∀ o, Same H (upd H p o) := fun o => same_new hp
      cases hpar : TL.par [47] [] t with
      | none =>
        have e1 := SX.partition_none (a := t) (b := [47]) (by decide) hpar
        have e2 : Txt.partition (S t) ("/" : Str) = (S t, S [], S []) := e1
        rw [e2]
        have ef : rdF t = (match rdI t with | some a => some (a, 1) | none => none) := by
          unfold rdF
          rw [hpar]
          all_goals rfl
        refine ⟨p, _, rfl, SqT.of upd_same, rfl, _, _, rfl, _, _, rfl, _, _, rfl, rfl, ?_⟩
        refine ⟨_, rfl, t, rfl, hl, fun hz H1 sm1 => ?_, fun a ha H1 sm1 => ?_⟩
        · exact q0 (by rw [ef, hz]) H1 ((sm _).trans sm1)
        · refine ⟨_, rfl, rfl, _, rfl, ite2 (fun _ => ?_) (fun z => absurd (decide_eq_true rfl) z)⟩
          refine ⟨_, rfl, (by show 2 ≤ sizeLine; decide), fun p2 hp2 => ?_⟩
          have sm2 := (sm (.tup [.str (S t), .str (S []), .str (S [])])).trans sm1
          exact q a 1 (by rw [ef, ha]) _ p2 (sm2.trans (same_new hp2)) (sm2.free hp2) upd_same
      | some pq =>
        obtain ⟨u, r⟩ := pq
        have e1 := SX.partition_some (a := t) (b := [47]) (by decide) hpar
        have e2 : Txt.partition (S t) ("/" : Str) = (S u, S [47], S r) := e1
        have hln := par_len hpar
        rw [List.length_nil, Nat.zero_add] at hln
        rw [e2]
        have ef : rdF t = (match rdI u with
            | none => none
            | some a => match rdI r with
              | none => none
              | some b => if b < 2 ∨ 1 < Nat.gcd a.natAbs b.natAbs then none else some (a, b)) := by
          unfold rdF
          rw [hpar]
          all_goals rfl
        refine ⟨p, _, rfl, SqT.of upd_same, rfl, _, _, rfl, _, _, rfl, _, _, rfl, rfl, ?_⟩
        refine ⟨_, rfl, u, rfl, by omega, fun hz H1 sm1 => ?_, fun a ha H1 sm1 => ?_⟩
        · exact q0 (by rw [ef, hz]) H1 ((sm _).trans sm1)
        · refine ⟨_, rfl, rfl, _, rfl, ite2 (fun z => ?_) (fun _ => ?_)⟩
          · have z' : S [47] = S [] := V.str.inj (of_decide_eq_true z)
            have := S_inj z'
            cases this
          · have sm2 := (sm (.tup [.str (S u), .str (S [47]), .str (S r)])).trans sm1
            refine ⟨_, rfl, r, rfl, by omega, fun hz H2 sm3 => ?_, fun b hb H2 sm3 => ?_⟩
            · exact q0 (by rw [ef, ha, hz]) H2 (sm2.trans sm3)
            · have ef2 : rdF t = if b < 2 ∨ 1 < Nat.gcd a.natAbs b.natAbs then none else some (a, b) := by rw [ef, ha, hb]
              have sm4 := sm2.trans sm3
              refine ⟨_, rfl, _, _, rfl, rfl, _, rfl, ite2 (fun z => ?_) (fun z => ?_)⟩
              · refine iteT ?_
                exact q0 (by rw [ef2, if_pos (.inl (of_decide_eq_true z))]) H2 sm4
              · refine ⟨_, rfl, _, rfl, _, _, rfl, _, _, rfl, rfl, _, rfl, ite2 (fun z2 => ?_) (fun z2 => ?_)⟩
                · refine q0 ?_ H2 sm4
                  have := of_decide_eq_true z2
                  rw [ef2, if_pos (.inr (by omega))]
                · refine ⟨_, rfl, _, rfl, (by show 2 ≤ sizeLine; decide), fun p2 hp2 => ?_⟩
                  refine q a b ?_ _ p2 (sm4.trans (same_new hp2)) (sm4.free hp2) upd_same
                  rw [ef2, if_neg]
                  rintro (y | y)
                  · exact z (decide_eq_true y)
                  · exact z2 (decide_eq_true (by omega))
    · refine ⟨_, rfl, _, _, _, _, false, rfl, .ty "str", ty, kt, _, rfl, iteT ?_⟩
      exact q0
end
end Ev

set_option exponentiation.threshold 3000
namespace Ev
open PySem PySem.Spec PyProof.Rows L2
section
variable {P : Program} {w : World} {K : PySem.W.Frag} {mg : Str → Option Value} {base : Heap} {A : Nat → Addr} {D : Nat → FuncData}
/-! ### draw -/
def sp_draw : Sp := fun vs H Q _ => ∃ (L F : Addr) (many : Int), vs = [.ref L, .int many] ∧ Lm H L F ∧ many < 1073741824 ∧
  ∀ (H' : Hp) (k : Int), Kp L F H H' → Lm H' L F → 0 ≤ k → (k < many ∨ k = 0) → Q (.int k) H'
theorem Txt.ok_draw (T : Txt K mg A D) : FnOk P w K mg base CX0 1 (A 5) (D 5) ["loom", "many"] sp_draw := by
  refine T.F_draw.ok sc_draw (fun vs H Q E h => ?_) (fun cdv Ar outer s H vs Q E hr h => ?_)
  · obtain ⟨L, F, many, rfl, _⟩ := h
    rfl
  · obtain ⟨L, F, many, rfl, ⟨fs, s0, t0, hL, hF, hlen⟩, hmany, q⟩ := h
    have hu := hu_of hr
    refine ⟨_, (pss_cons (ps_if (pt_cmpR op_lt (pv 1) pe_int (nomark _)) (pss_one (ps_ret pe_int)) pss_nil)
    (pss_cons (ps_if (pt_cmpR (op_neD hr.units) (pe_dget hu (pv 0) pe_str (fun _ _ => rfl)) (pe_lst pa_nil) (nomark _)) (pss_cons (ps_set (i := 2) sc_draw.nd rfl (Or.inl rfl) (pe_bm0 PySem.F.plainAttrs_list PySem.F.slot_list_pop PySem.F.type_list_pop mt_pop (pe_dget hu (pv 0) pe_str (fun _ _ => rfl))))
    (pss_cons (ps_if (pt_cmpR op_ge (pv 2) (pv 1) (nomark _)) (pss_one (ps_expr (pe_bm PySem.F.plainAttrs_list PySem.F.slot_list_append PySem.F.type_list_append mt_append (pe_dget hu (pv 0) pe_str (fun _ _ => rfl)) (pa_cons (pe_op op_fdivN (pv 2) (pv 1)) pa_nil)))) pss_nil)
    (pss_one (ps_ret (pe_op op_mod (pe_callTy call_int1 (by rfl) T.z_int (by decide +kernel) (pa_cons (pv 2) pa_nil)) (pv 1)))))) pss_nil)
    (pss_cons (ps_dput hu (pv 0) pe_str (pe_op op_add (pe_dget hu (pv 0) pe_str (fun _ _ => rfl)) pe_int) rfl)
    (pss_cons (ps_set (i := 3) sc_draw.nd rfl (Or.inl rfl) (pe_op op_mod (pe_callTy call_int1 (by rfl) T.z_int (by decide +kernel) (pa_cons (pe_op op_add (pe_dget hu (pv 0) pe_str (fun _ _ => rfl)) (pe_op op_mul pe_int (pe_dget hu (pv 0) pe_str (fun _ _ => rfl)))) pa_nil)) pe_int))
    (pss_cons (ps_set (i := 3) sc_draw.nd rfl (Or.inl rfl) (pe_op op_mod (pe_callTy call_int1 (by rfl) T.z_int (by decide +kernel) (pa_cons (pe_op op_add (pe_op op_add (pe_op op_mul (pv 3) (pv 3)) (pe_op op_mul pe_int (pe_dget hu (pv 0) pe_str (fun _ _ => rfl)))) pe_int) pa_nil)) pe_int))
    (pss_cons (ps_set (i := 3) sc_draw.nd rfl (Or.inl rfl) (pe_op op_mod (pe_callTy call_int1 (by rfl) T.z_int (by decide +kernel) (pa_cons (pe_op op_add (pe_op op_mul (pv 3) (pv 3)) (pe_dget hu (pv 0) pe_str (fun _ _ => rfl))) pa_nil)) pe_int))
    (pss_one (ps_ret (pe_op op_mod (pe_callTy call_int1 (by rfl) T.z_int (by decide +kernel) (pa_cons (pe_op op_fdivN (pv 3) pe_int) pa_nil)) (pv 1)))))))))), ?_⟩
    -- if many < 2
    refine ⟨_, rfl, _, _, rfl, rfl, _, rfl, ite2 (fun e => ?_) (fun e => ?_)⟩
    · exact q H 0 (Kp.refl H) ⟨fs, s0, t0, hL, hF, hlen⟩ (Int.le_refl 0) (.inr rfl)
    · have h2 : 2 ≤ many := Int.not_lt.mp fun z => e (decide_eq_true z)
      refine ⟨_, rfl, L, _, rfl, DGet.k (k := Sum.inr "far") hL, ⟨Nat.zero_le _, fun p hp => ?_⟩⟩
      have hFp : (upd H p (.lst [])) F = some (.lst (fs.map V.int)) := by
        rw [upd_ne (ne_of_none hF hp)]
        exact hF
      refine ⟨_, _, .lst (.inl (.inl hFp)) (dpAll_ints fs), .lst (xs := []) (.inl (.inl upd_same)) .nil, shaped_ints fs, by decide, _, rfl, ite2 (fun e1 => ?_) (fun e1 => ?_)⟩
      · rw [eqv_ints_nil] at e1
        rcases snoc_cases fs with rfl | ⟨gs, c, rfl⟩
        · exact absurd e1 (by decide)
        · have hL1 : (upd H p (.lst [])) L = some (.dK (ld F s0 t0)) := by
            rw [upd_ne (ne_of_none hL hp)]
            exact hL
          have nLF : L ≠ F := ne_of hL hF (by intro z; cases z)
          have last : ((gs ++ [c]).map V.int)[((gs ++ [c]).map V.int).length - 1]? = some (.int c) := by simp
          have drop : ((gs ++ [c]).map V.int).dropLast = gs.map V.int := by simp
          have hg : gs.length ≤ 62 := by
            rw [List.length_append, List.length_singleton] at hlen
            omega
          have km : 0 ≤ c % many ∧ c % many < many := ⟨Int.emod_nonneg _ (by omega), Int.emod_lt_of_pos _ (by omega)⟩
          refine ⟨_, rfl, L, _, rfl, DGet.k (k := Sum.inr "far") hL1, .inl ⟨rfl, _, SqL.of hFp⟩, F, _, _, rfl, rfl, hFp, last, ?_⟩
          rw [drop]
          -- if cell >= many
          refine ⟨_, rfl, _, rfl, _, _, rfl, rfl, _, rfl, ite2 (fun e2 => ?_) (fun e2 => ?_)⟩
          · have hL2 : (upd (upd H p (.lst [])) F (.lst (gs.map V.int))) L = some (.dK (ld F s0 t0)) := by
              rw [upd_ne nLF]
              exact hL1
            refine ⟨_, rfl, L, _, rfl, DGet.k (k := Sum.inr "far") hL2, .inl ⟨rfl, _, SqL.of upd_same⟩, _, rfl, _, rfl, _, _, rfl, rfl, ⟨by omega, by omega⟩, F, _, _, rfl, rfl, upd_same, small1000 (by rw [List.length_map]; omega), ?_⟩
            refine ⟨_, rfl, .inl ⟨_, rfl, _, rfl, _, _, rfl, rfl, by show 0 < many; omega, ?_⟩⟩
            refine q _ _ ?_ ?_ km.1 (.inl km.2)
            · exact ((Kp.new hp).trans Kp.updF).trans Kp.updF
            · exact ⟨gs ++ [c.fdiv many], s0, t0, by rw [upd_ne nLF]; exact hL2, by rw [upd_same, List.map_append]; rfl, by rw [List.length_append, List.length_singleton]; omega⟩
          · refine ⟨_, rfl, .inl ⟨_, rfl, _, rfl, _, _, rfl, rfl, by show 0 < many; omega, ?_⟩⟩
            refine q _ _ ?_ ?_ km.1 (.inl km.2)
            · exact (Kp.new hp).trans Kp.updF
            · exact ⟨gs, s0, t0, by rw [upd_ne nLF]; exact hL1, upd_same, by omega⟩
      · have hL1 : (upd H p (.lst [])) L = some (.dK (ld F s0 t0)) := by
          rw [upd_ne (ne_of_none hL hp)]
          exact hL
        have nLF : L ≠ F := ne_of hL hF (by intro z; cases z)
        refine ⟨_, rfl, L, _, rfl, DGet.k (k := Sum.inr "times") hL1, _, _, rfl, rfl, _, rfl, L, _, rfl, DPut.k (k := Sum.inr "times") hL1 ld_len, ?_⟩
        rw [ld_put]
        have hL2 : (upd (upd H p (.lst [])) L (.dK (ld F s0 (t0 + 1)))) L = some (.dK (ld F s0 (t0 + 1))) := upd_same
        refine ⟨_, rfl, L, _, rfl, DGet.k (k := Sum.inr "stirred") hL2, _, rfl, L, _, rfl, DGet.k (k := Sum.inr "times") hL2, _, _, rfl, rfl, .inl (by decide), _, _, rfl, rfl, .inl ⟨_, rfl, _, _, rfl, rfl, by show (0 : Int) < 4294967279; decide, ?_⟩⟩
        have b1 : 0 ≤ (s0 + 2654435761 * (t0 + 1)) % 4294967279 ∧ (s0 + 2654435761 * (t0 + 1)) % 4294967279 < 4294967279 := ⟨Int.emod_nonneg _ (by decide), Int.emod_lt_of_pos _ (by decide)⟩
        revert b1
        generalize (s0 + 2654435761 * (t0 + 1)) % 4294967279 = u1
        intro b1
        refine ⟨_, rfl, _, rfl, _, _, rfl, rfl, .inl ⟨by omega, by omega⟩, _, rfl, L, _, rfl, DGet.k (k := Sum.inr "times") hL2, _, _, rfl, rfl, .inl (by decide), _, _, rfl, rfl, _, _, rfl, rfl, .inl ⟨_, rfl, _, _, rfl, rfl, by show (0 : Int) < 4294967231; decide, ?_⟩⟩
        have b2 : 0 ≤ (u1 * u1 + 40503 * (t0 + 1) + 17) % 4294967231 ∧ (u1 * u1 + 40503 * (t0 + 1) + 17) % 4294967231 < 4294967231 := ⟨Int.emod_nonneg _ (by decide), Int.emod_lt_of_pos _ (by decide)⟩
        revert b2
        generalize (u1 * u1 + 40503 * (t0 + 1) + 17) % 4294967231 = u2
        intro b2
        refine ⟨_, rfl, _, rfl, _, _, rfl, rfl, .inl ⟨by omega, by omega⟩, _, rfl, L, _, rfl, DGet.k (k := Sum.inr "stirred") hL2, _, _, rfl, rfl, .inl ⟨_, rfl, _, _, rfl, rfl, by show (0 : Int) < 4294967197; decide, ?_⟩⟩
        generalize (u2 * u2 + s0) % 4294967197 = u3
        refine ⟨_, rfl, _, _, rfl, rfl, ⟨by decide, by decide⟩, .inl ⟨_, rfl, _, rfl, _, _, rfl, rfl, by show 0 < many; omega, ?_⟩⟩
        refine q _ _ ((Kp.new hp).trans Kp.updL) ?_ (Int.emod_nonneg _ (by omega)) (.inl (Int.emod_lt_of_pos _ (by omega)))
        exact ⟨fs, s0, t0 + 1, hL2, by rw [upd_ne nLF.symm]; exact hFp, hlen⟩
/-! ### pick -/
def sp_pick (K : PySem.W.Frag) : Sp := fun vs H Q _ => ∃ (L F a : Addr) (xs : List V), vs = [.ref L, .ref a] ∧ Lm H L F ∧ SqL K H a xs ∧ a ≠ L ∧ a ≠ F ∧ 0 < xs.length ∧ xs.length < 1073741824 ∧
  ∀ (H' : Hp) (i : Nat) (x : V), Kp L F H H' → Lm H' L F → xs[i]? = some x → Q x H'
theorem Txt.ok_pick (T : Txt K mg A D) : FnOk P w K mg base CX0 2 (A 6) (D 6) ["loom", "things"] (sp_pick K) := by
  refine T.F_pick.ok sc_pick (fun vs H Q E h => ?_) (fun cdv Ar outer s H vs Q E hr h => ?_)
  · obtain ⟨L, F, a, xs, rfl, _⟩ := h
    rfl
  · obtain ⟨L, F, a, xs, rfl, hM, hS, n1, n2, hpos, hlen, q⟩ := h
    have hu := hu_of hr
    refine ⟨_, (pss_one (ps_ret (pe_ix ix_list (pv 1) (pe_call (T.ok_draw) hr (by rfl) T.g_draw T.k_draw T.b_draw .nil pass0 (pa_cons (pv 0) (pa_cons (pe_callB call_len_seq (by rfl) T.z_len (by decide +kernel) (pa_cons (pv 1) pa_nil)) pa_nil))) (fun _ _ => rfl)))), ?_⟩
    refine ⟨_, rfl, _, rfl, _, rfl, a, xs, rfl, .inl hS, L, F, _, rfl, hM, by omega, fun H' k kp hM' k0 kl => ?_⟩
    have kn : k.toNat < xs.length := by omega
    exact ⟨a, xs, k, xs[k.toNat], rfl, rfl, kp.seq n1 n2 hS, at_of (j := k.toNat) (by omega) (List.getElem?_eq_getElem kn), q H' k.toNat _ kp hM' (List.getElem?_eq_getElem kn)⟩
/-! ### the loom's making -/
def sp_loom (K : PySem.W.Frag) : Sp := fun vs H Q _ => ∃ (a : Addr) (ns : List Int), vs = [.ref a] ∧ SqL K H a (ns.map V.int) ∧ ns.length ≤ 63 ∧
  ∀ (H' : Hp) (L F : Addr), Same H H' → Lm H' L F → H L = none → H F = none → Q (.ref L) H'
theorem Txt.ok_loom (T : Txt K mg A D) : FnOk P w K mg base CX0 1 (A 4) (D 4) ["script"] (sp_loom K) := by
  refine T.F_loom.ok sc_loom (fun vs H Q E h => ?_) (fun cdv Ar outer s H vs Q E hr h => ?_)
  · obtain ⟨a, ns, rfl, _⟩ := h
    rfl
  · obtain ⟨a, ns, rfl, hS, hlen, q⟩ := h
    have hu := hu_of hr
    refine ⟨_, (pss_cons (ps_par (i := 2) (j := 3) rfl sc_loom.nd rfl rfl (by decide) rfl rfl (pa_cons (pe_lc (own := [("cell", 1)]) (g := gName 1) (tt := tYes) rfl sc_loom.nd (pi_list (pe_slice sl_list (pv 0) po_none (po_some pe_int))) (blkOk_by (N := ["script", "cell", "cells", "stirred"]) (sc := defScope s_loom) (by decide +kernel)) (fun _ _ _ _ _ => pg_name (i := 1) sc_loom.nd rfl (Or.inl rfl)) (fun _ _ _ _ _ => pts_nil) (fun _ _ _ _ _ => (pe_op op_add (pe_op op_mul pe_int (pe_callB call_abs (by rfl) T.z_abs (by decide +kernel) (pa_cons (pv 1) pa_nil))) (pe_callTy call_int1 (by rfl) T.z_int (by decide +kernel) (pa_cons (pe_cmpR op_lt (pv 1) pe_int (nomark _)) pa_nil))))) (pa_cons (pe_op op_add pe_int (pe_op op_mul pe_int (pe_callB call_len_seq (by rfl) T.z_len (by decide +kernel) (pa_cons (pv 0) pa_nil)))) pa_nil)) (by rfl))
    (pss_cons (ps_for PassesOwn.never rfl (pi_list (pv 2)) (pg_name (i := 1) sc_loom.nd rfl (Or.inl rfl)) (pss_one (ps_set (i := 3) sc_loom.nd rfl (Or.inl rfl) (pe_op op_mod (pe_callTy call_int1 (by rfl) T.z_int (by decide +kernel) (pa_cons (pe_op op_add (pe_op op_add (pe_op op_mul (pv 3) pe_int) (pv 1)) pe_int) pa_nil)) pe_int))))
    (pss_one (ps_ret (pe_disp (pps_cons pe_str (pe_lc (own := [("cell", 1)]) (g := gName 1) (tt := _) rfl sc_loom.nd (pi_list (pv 2)) (blkOk_by (N := ["script", "cell", "cells", "stirred"]) (sc := defScope s_loom) (by decide +kernel)) (fun _ _ _ _ _ => pg_name (i := 1) sc_loom.nd rfl (Or.inl rfl)) (fun _ _ _ _ _ => (pts_one (pt_cmpR op_ge (pv 1) (pe_op op_pow pe_int pe_int) (nomark _)))) (fun _ _ _ _ _ => (pv 1))) (pps_cons pe_str (pv 3) (pps_cons pe_str pe_int pps_nil))) (by rfl) (by rfl) (fun z => by cases z) (by decide)))))), ?_⟩
    refine ⟨_, rfl, _, rfl, a, _, rfl, hS, fun p hp => ?_⟩
    obtain ⟨ms, em, hm⟩ := cut_ints ns none (some 63)
    rw [em]
    have sp : Same H (upd H p (.lst (ms.map V.int))) := same_new hp
    refine ⟨p, rfl, ⟨_, SqL.of upd_same⟩, fun D1 hD1 => ?_⟩
    have hDp : H D1 = none := sp.free hD1
    refine lc_list (K := K) (a := p) (xs := ms.map V.int) (fun i H' => Same (upd H p (.lst (ms.map V.int))) H' ∧ ∃ acc : List Int, H' D1 = some (.lst (acc.map V.int)) ∧ acc.length = i)
      ⟨same_new hD1, [], upd_same, rfl⟩ (fun i H' _ z => z.1.seq (SqL.of upd_same)) ?_ ?_
    · intro i x H' hx hP
      obtain ⟨m, hm1, rfl⟩ := int_at hx
      obtain ⟨s1, acc, hA, la⟩ := hP
      have hi : i < ms.length := (List.getElem?_eq_some_iff.mp hm1).1
      refine ⟨rfl, yes_of ?_⟩
      refine ⟨_, rfl, _, rfl, _, _, rfl, rfl, .inl ⟨by decide, by decide⟩, _, rfl, _, _, rfl, rfl, .inr ⟨_, rfl, _, _, rfl, rfl, _, hA, small1000 (by rw [List.length_map]; omega), same_put s1 hD1, acc ++ [2 * (if m < 0 then -m else m) + (if decide (m < 0) = true then 1 else 0)], ?_, ?_⟩⟩
      · rw [upd_same, List.map_append]
        rfl
      · rw [List.length_append, List.length_singleton, la]
    · intro H1 hP
      obtain ⟨s1, acc, hA, la⟩ := hP
      have sH : Same H H1 := sp.trans s1
      have sS := sH.seq hS
      refine ⟨_, rfl, a, _, rfl, .inl sS, _, _, rfl, rfl, .inl ⟨by decide, by decide⟩, _, _, rfl, rfl, _, _, rfl, ?_⟩
      -- the loop
      refine ⟨.ref D1, rfl, D1, rfl, ⟨_, SqL.of hA⟩, for_list (K := K) (a := D1) (xs := acc.map V.int) (fun i σ H' => H' = H1 ∧ ∃ (y : Option V) (z : Int), σ = [some (.ref a), y, some (.ref D1), some (.int z)])
        ⟨rfl, none, _, rfl⟩ (fun i σ H' _ z => by rw [z.1]; exact SqL.of hA) ?_ ?_⟩
      · rintro i x σ H' hx ⟨rfl, y, z, rfl⟩
        obtain ⟨m, hm1, rfl⟩ := int_at hx
        exact ⟨_, rfl, _, _, rfl, rfl, .inr ⟨by decide, by decide⟩, _, rfl, _, _, rfl, rfl, _, _, rfl, rfl, .inl ⟨_, rfl, _, _, rfl, rfl, by show (0 : Int) < 4294967291; decide, rfl, _, _, rfl⟩⟩
      · rintro σ H' ⟨rfl, y, z, rfl⟩
        -- the dict
        intro L hL
        have sL : Same H' (upd H' L (.dK [])) := same_new hL
        have hLH : H L = none := sH.free hL
        refine ⟨_, rfl, D1, rfl, ⟨_, (sL.seq (SqL.of hA))⟩, fun F hF => ?_⟩
        have hF' : H' F = none := sL.free hF
        refine lc_list (K := K) (a := D1) (xs := acc.map V.int) (fun i H2 => Same (upd H' L (.dK [])) H2 ∧ ∃ gs : List Int, H2 F = some (.lst (gs.map V.int)) ∧ gs.length ≤ i)
          ⟨same_new hF, [], upd_same, Nat.le_refl _⟩ (fun i H2 _ z => z.1.seq (sL.seq (SqL.of hA))) ?_ ?_
        · intro i x H2 hx hP
          obtain ⟨m, hm1, rfl⟩ := int_at hx
          obtain ⟨s2, gs, hG, lg⟩ := hP
          have hi : i < acc.length := (List.getElem?_eq_some_iff.mp hm1).1
          rw [List.length_map] at la
          refine ⟨rfl, _, rfl, _, _, rfl, rfl, ⟨by decide, by decide, by decide⟩, _, _, rfl, rfl, _, rfl, ite2 (fun e => ?_) (fun e => ?_)⟩
          · exact ⟨_, rfl, _, hG, small1000 (by rw [List.length_map]; omega), same_put s2 hF, gs ++ [m], by rw [upd_same, List.map_append]; rfl, by rw [List.length_append, List.length_singleton]; omega⟩
          · exact ⟨s2, gs, hG, by omega⟩
        · intro H2 hP
          obtain ⟨s2, gs, hG, lg⟩ := hP
          rw [List.length_map] at la lg
          have hL2 : H2 L = some (.dK []) := s2 _ _ upd_same
          refine ⟨_, rfl, hL2, ld F z 0, rfl, (by show 3 ≤ 15; decide), ?_⟩
          have nFL : F ≠ L := fun e => by
            rw [e, hL2] at hG
            cases hG
          refine q _ L F ?_ ⟨gs, z, 0, upd_same, by rw [upd_ne nFL]; exact hG, by omega⟩ hLH (sH.free hF')
          intro b o e
          have e1 := sH _ _ e
          rw [upd_ne (ne_of_none e1 hL)]
          exact s2 _ _ (sL _ _ e1)
end
end Ev

set_option exponentiation.threshold 3000
namespace Ev
open PySem PySem.Spec PyProof.Rows L2
section
variable {P : Program} {w : World} {K : PySem.W.Frag} {mg : Str → Option Value} {base : Heap} {A : Nat → Addr} {D : Nat → FuncData}
def sp_gcd : Sp := fun vs H Q _ => ∃ a b : Int, vs = [.int a, .int b] ∧ Q (.int (gc a b)) H
theorem Txt.ok_gcd (T : Txt K mg A D) : FnOk P w K mg base CX0 1 (A 7) (D 7) ["a", "b"] sp_gcd := by
  refine T.F_gcd.ok sc_gcd (fun vs H Q E h => ?_) (fun cdv Ar outer s H vs Q E hr h => ?_)
  · obtain ⟨a, b, rfl, _⟩ := h
    rfl
  · obtain ⟨a, b, rfl, q⟩ := h
    refine ⟨_, (pss_cons (ps_par (i := 0) (j := 1) rfl sc_gcd.nd rfl rfl (by decide) rfl rfl (pa_cons (pe_callB call_abs (by rfl) T.z_abs (by decide +kernel) (pa_cons (pv 0) pa_nil)) (pa_cons (pe_callB call_abs (by rfl) T.z_abs (by decide +kernel) (pa_cons (pv 1) pa_nil)) pa_nil)) (by rfl))
    (pss_cons (ps_while PassesOwn.never (pt_cmpR op_ne (pv 1) pe_int (nomark _)) (pss_one (ps_par (i := 0) (j := 1) rfl sc_gcd.nd rfl rfl (by decide) rfl rfl (pa_cons (pv 1) (pa_cons (pe_op op_modN (pe_callTy call_int1 (by rfl) T.z_int (by decide +kernel) (pa_cons (pv 0) pa_nil)) (pv 1)) pa_nil)) (by rfl))))
    (pss_one (ps_ret (pv 0))))), ?_⟩
    refine ⟨_, rfl, _, rfl, _, rfl, _, rfl, _, _, rfl, ?_⟩
    rw [absI, absI]
    refine while_by (fun σ H' => H' = H ∧ ∃ x y : Nat, σ = [some (.int x), some (.int y)] ∧ Nat.gcd x y = gc a b) (fun σ _ => match σ with | [_, some (.int y)] => y.toNat | _ => 0) ⟨rfl, _, _, rfl, rfl⟩ ?_ ?_
    · rintro σ H' ⟨rfl, x, y, rfl, g⟩
      refine ⟨_, rfl, rfl, _, rfl, ite2 (fun e => ?_) (fun e => ?_)⟩
      · have hy : (y : Int) ≠ 0 := fun z => vne e (congrArg V.int z)
        refine ⟨_, rfl, _, rfl, .inl ⟨_, rfl, _, rfl, _, _, rfl, rfl, hy, _, _, rfl, ⟨rfl, y, x % y, ?_, ?_⟩, ?_⟩⟩
        · have z : (x : Int).fmod (y : Int) = ((x % y : Nat) : Int) := by
            rw [Int.fmod_eq_emod_of_nonneg _ (by omega)]
            rfl
          show [some (V.int (y : Int)), some (V.int ((x : Int).fmod (y : Int)))] = _
          rw [z]
        · rw [← g, Nat.gcd_comm x y, Nat.gcd_rec y x, Nat.gcd_comm]
        · show ((x : Int).fmod (y : Int)).toNat < (y : Int).toNat
          rw [Int.fmod_eq_emod_of_nonneg _ (by omega)]
          have h1 := Int.emod_lt_of_pos (x : Int) (show (0 : Int) < y by omega)
          omega
      · have hy : (y : Int) = 0 := V.int.inj (veq e)
        have hy' : y = 0 := by omega
        subst hy'
        rw [Nat.gcd_zero_right] at g
        refine ⟨_, rfl, ?_⟩
        rw [g]
        exact q
    · intro σ H' Q1 Q2 k h
      obtain ⟨v, h1, h2, c, h3, h4⟩ := h
      exact ⟨v, h1, h2, c, h3, k _ _ h4⟩
/-! ### fractions in lowest terms -/
def Sm (x : Int) : Prop := x.natAbs < 2 ^ 1400
theorem Sm.le {x y : Int} (h : Sm y) (l : x.natAbs ≤ y.natAbs) : Sm x := Nat.lt_of_le_of_lt l h
theorem Sm.log {x : Int} (h : Sm x) : x.natAbs.log2 < 1400 := PySem.Flt.log2_lt_of (by decide) h
theorem dv_ok {a b : Int} (h : b ≠ 0) (hb : Sm b) : CDivZ a (dv a b) := by
  refine ⟨dv_ne h, ?_⟩
  have l : (dv a b).natAbs ≤ b.natAbs := by
    rw [dv_abs]
    exact Nat.gcd_le_right _ (by omega)
  exact Nat.lt_trans (Sm.log (hb.le l)) (by decide)
theorem dv_ok2 {a b c : Int} (h : b ≠ 0) (hb : Sm b) : CDivZ c (dv a b) := ⟨(dv_ok (a := a) h hb).1, (dv_ok (a := a) h hb).2⟩
def sp_frac : Sp := fun vs H Q _ => ∃ a b : Int, vs = [.int a, .int b] ∧ b ≠ 0 ∧ Sm b ∧
  ∀ (H' : Hp) (p : Addr), Same H H' → H p = none → H' p = some (.tup [.int (fA a b), .int (fB a b)]) → Q (.ref p) H'
theorem Txt.ok_frac (T : Txt K mg A D) : FnOk P w K mg base CX0 2 (A 8) (D 8) ["a", "b"] sp_frac := by
  refine T.F_frac.ok sc_frac (fun vs H Q E h => ?_) (fun cdv Ar outer s H vs Q E hr h => ?_)
  · obtain ⟨a, b, rfl, _⟩ := h
    rfl
  · obtain ⟨a, b, rfl, hb, sb, q⟩ := h
    refine ⟨_, (pss_cons (ps_set (i := 2) sc_frac.nd rfl (Or.inl rfl) (pe_call (T.ok_gcd) hr (by rfl) T.g_gcd T.k_gcd T.b_gcd .nil pass0 (pa_cons (pv 0) (pa_cons (pv 1) pa_nil))))
    (pss_cons (ps_set (i := 2) sc_frac.nd rfl (Or.inl rfl) (pe_ifExp (pt_cmpR op_gt (pv 1) pe_int (nomark _)) (pv 2) (pe_un un_neg (pv 2))))
    (pss_one (ps_ret (pe_tup (pa_cons (pe_op op_fdivZ (pv 0) (pv 2)) (pa_cons (pe_op op_fdivZ (pv 1) (pv 2)) pa_nil))))))), ?_⟩
    refine ⟨_, rfl, _, rfl, _, _, rfl, _, rfl, _, _, rfl, rfl, _, rfl, ite2 (fun e => ?_) (fun e => ?_)⟩
    · have d : dv a b = (gc a b : Int) := if_pos (of_decide_eq_true e)
      refine ⟨_, rfl, _, rfl, _, rfl, _, _, rfl, rfl, by rw [← d]; exact dv_ok2 hb sb, _, rfl, _, rfl, _, _, rfl, rfl, by rw [← d]; exact dv_ok2 hb sb, (by show 2 ≤ sizeLine; decide), fun p hp => q _ p (same_new hp) hp ?_⟩
      rw [upd_same]
      show some (HO.tup [V.int (a.fdiv (gc a b : Int)), V.int (b.fdiv (gc a b : Int))]) = _
      rw [← d]
      rfl
    · have d : dv a b = -(gc a b : Int) := if_neg (fun z => e (decide_eq_true z))
      refine ⟨_, rfl, _, rfl, _, rfl, _, rfl, _, _, rfl, rfl, by rw [← d]; exact dv_ok2 hb sb, _, rfl, _, rfl, _, _, rfl, rfl, by rw [← d]; exact dv_ok2 hb sb, (by show 2 ≤ sizeLine; decide), fun p hp => q _ p (same_new hp) hp ?_⟩
      rw [upd_same]
      show some (HO.tup [V.int (a.fdiv (-(gc a b : Int))), V.int (b.fdiv (-(gc a b : Int)))]) = _
      rw [← d]
      rfl
end
end Ev

set_option exponentiation.threshold 3000
namespace Ev
open PySem PySem.Spec PyProof.Rows L2
section
variable {P : Program} {w : World} {K : PySem.W.Frag} {mg : Str → Option Value} {base : Heap} {A : Nat → Addr} {D : Nat → FuncData}
/-! ### far, number -/
def sp_far : Sp := fun vs H Q _ => ∃ (L F : Addr) (many : Nat), vs = [.ref L, .int many] ∧ Lm H L F ∧ 1 ≤ many ∧ many ≤ 400 ∧
  ∀ (H' : Hp) (n : Nat), Kp L F H H' → Lm H' L F → 1 ≤ n → n < 10 ^ many → Q (.int n) H'
theorem Txt.ok_far (T : Txt K mg A D) : FnOk P w K mg base CX0 2 (A 10) (D 10) ["loom", "many"] sp_far := by
  refine T.F_far.ok sc_far (fun vs H Q E h => ?_) (fun cdv Ar outer s H vs Q E hr h => ?_)
  · obtain ⟨L, F, many, rfl, _⟩ := h
    rfl
  · obtain ⟨L, F, many, rfl, hM, m1, m4, q⟩ := h
    refine ⟨_, (pss_cons (ps_set (i := 2) sc_far.nd rfl (Or.inl rfl) (pe_op op_add pe_int (pe_call (T.ok_draw) hr (by rfl) T.g_draw T.k_draw T.b_draw .nil pass0 (pa_cons (pv 0) (pa_cons pe_int pa_nil)))))
    (pss_cons (ps_for PassesOwn.never rfl (pi_range1 rfl T.range (pa_cons (pe_op op_sub (pv 1) pe_int) pa_nil)) (pg_name (i := 3) sc_far.nd rfl (Or.inl rfl)) (pss_one (ps_set (i := 2) sc_far.nd rfl (Or.inl rfl) (pe_op op_add (pe_op op_mul (pv 2) pe_int) (pe_call (T.ok_draw) hr (by rfl) T.g_draw T.k_draw T.b_draw .nil pass0 (pa_cons (pv 0) (pa_cons pe_int pa_nil)))))))
    (pss_one (ps_ret (pv 2))))), ?_⟩
    refine ⟨_, rfl, L, F, 9, rfl, hM, by decide, fun H1 k kp1 hM1 k0 kl => ⟨_, _, rfl, rfl, ?_⟩⟩
    refine ⟨_, rfl, _, _, rfl, rfl, _, rfl, by omega, by omega, for_range (lo := 0) (n := ((many : Int) - 1).toNat) (fun i σ H' => Kp L F H H' ∧ Lm H' L F ∧ ∃ (n : Nat) (y : Option V), σ = [some (.ref L), some (.int many), some (.int n), y] ∧ 1 ≤ n ∧ n < 10 ^ (i + 1)) ?_ ?_ ?_⟩
    · refine ⟨kp1, hM1, (1 + k).toNat, none, ?_, by omega, by omega⟩
      have e : ((1 + k).toNat : Int) = 1 + k := by omega
      rw [e]
      rfl
    · rintro i σ H2 hi ⟨kp2, hM2, n, y, rfl, n1, hn⟩
      refine ⟨_, rfl, _, _, rfl, rfl, .inr ⟨by decide, by decide⟩, _, rfl, L, F, 10, rfl, hM2, by decide, fun H3 k kp3 hM3 k0 kl => ⟨_, _, rfl, rfl, kp2.trans kp3, hM3, n * 10 + k.toNat, some (.int (0 + (i : Int))), ?_, by omega, ?_⟩⟩
      · show [some (V.ref L), some (V.int many), some (V.int ((n : Int) * 10 + k)), some (V.int (0 + (i : Int)))] = _
        have e : ((n * 10 + k.toNat : Nat) : Int) = (n : Int) * 10 + k := by omega
        rw [e]
      · rw [Nat.pow_succ 10 (i + 1)]
        omega
    · rintro σ H2 ⟨kp2, hM2, n, y, rfl, n1, hn⟩
      have e : ((many : Int) - 1).toNat + 1 = many := by omega
      rw [e] at hn
      exact ⟨_, rfl, q H2 n kp2 hM2 n1 hn⟩
/-! ### ten -/
def sp_ten : Sp := fun vs H Q _ => ∃ many : Nat, vs = [.int many] ∧ many ≤ 1000 ∧ Q (.int ((10 ^ many : Nat) : Int)) H
theorem Txt.ok_ten (T : Txt K mg A D) : FnOk P w K mg base CX0 1 (A 9) (D 9) ["many"] sp_ten := by
  refine T.F_ten.ok sc_ten (fun vs H Q E h => ?_) (fun cdv Ar outer s H vs Q E hr h => ?_)
  · obtain ⟨many, rfl, _⟩ := h
    rfl
  · obtain ⟨many, rfl, m4, q⟩ := h
    refine ⟨_, (pss_cons (ps_set (i := 1) sc_ten.nd rfl (Or.inl rfl) pe_int)
    (pss_cons (ps_for PassesOwn.never rfl (pi_range1 rfl T.range (pa_cons (pv 0) pa_nil)) (pg_name (i := 2) sc_ten.nd rfl (Or.inl rfl)) (pss_one (ps_set (i := 1) sc_ten.nd rfl (Or.inl rfl) (pe_op op_mul (pv 1) pe_int))))
    (pss_one (ps_ret (pv 1))))), ?_⟩
    refine ⟨_, rfl, _, rfl, by omega, by omega, for_range (lo := 0) (n := (many : Int).toNat) (fun i σ H' => H' = H ∧ ∃ (y : Option V), σ = [some (.int many), some (.int ((10 ^ i : Nat) : Int)), y]) ?_ ?_ ?_⟩
    · exact ⟨rfl, none, rfl⟩
    · rintro i σ H2 hi ⟨rfl, y, rfl⟩
      refine ⟨_, rfl, _, _, rfl, rfl, .inr ⟨by decide, by decide⟩, rfl, some (.int (0 + (i : Int))), ?_⟩
      show [some (V.int many), some (V.int (((10 ^ i : Nat) : Int) * 10)), some (V.int (0 + (i : Int)))] = _
      have e : ((10 ^ (i + 1) : Nat) : Int) = ((10 ^ i : Nat) : Int) * 10 := by rw [Nat.pow_succ]; rfl
      rw [e]
    · rintro σ H2 ⟨rfl, y, rfl⟩
      have e : (many : Int).toNat = many := rfl
      rw [e]
      exact ⟨_, rfl, q⟩
end
end Ev

set_option exponentiation.threshold 3000
namespace Ev
open PySem PySem.Spec PyProof.Rows L2 SX
open TL (numL numL_lt numL_step numL_digits numL_ne numL_free numL_val numL_inj numL_len)
section
variable {P : Program} {w : World} {K : PySem.W.Frag} {mg : Str → Option Value} {base : Heap} {A : Nat → Addr} {D : Nat → FuncData}
/-! ### a drawn fraction -/
def In4 (x : Int) : Prop := x.natAbs < 10 ^ 400
theorem p400_le : 10 ^ 400 < 2 ^ 1400 := by decide +kernel
theorem In4.sm {x : Int} (h : In4 x) : Sm x := Nat.lt_trans h p400_le
theorem In4.log {x : Int} (h : In4 x) : x.natAbs.log2 < 1920 := Nat.lt_trans (Sm.log h.sm) (by decide)
theorem In4.big {x : Int} (h : In4 x) : x.natAbs < 10 ^ 100000 := Nat.lt_of_lt_of_le h (Nat.pow_le_pow_right (by decide) (by decide))
theorem In4.one : In4 1 := by show 1 < 10 ^ 400; decide +kernel
def sp_fraction : Sp := fun vs H Q _ => ∃ (L F : Addr), vs = [.ref L] ∧ Lm H L F ∧
  ∀ (H' : Hp) (p : Addr) (a b : Int), Kp L F H H' → Lm H' L F → H' p = some (.tup [.int a, .int b]) → Low a b → In4 a → In4 b → Q (.ref p) H'
theorem Txt.ok_fraction (T : Txt K mg A D) : FnOk P w K mg base CX0 3 (A 12) (D 12) ["loom"] sp_fraction := by
  refine T.F_fraction.ok sc_fraction (fun vs H Q E h => ?_) (fun cdv Ar outer s H vs Q E hr h => ?_)
  · obtain ⟨L, F, rfl, _⟩ := h
    rfl
  · obtain ⟨L, F, rfl, hM, q⟩ := h
    refine ⟨_, (pss_cons (ps_set (i := 1) sc_fraction.nd rfl (Or.inl rfl) (pe_call (T.ok_pick) hr (by rfl) T.g_pick T.k_pick T.b_pick .nil pass0 (pa_cons (pv 0) (pa_cons (pe_lst (pa_cons pe_int (pa_cons pe_int (pa_cons pe_int (pa_cons pe_int (pa_cons pe_int (pa_cons pe_int (pa_cons pe_int pa_nil)))))))) pa_nil))))
    (pss_cons (ps_par (i := 2) (j := 3) rfl sc_fraction.nd rfl rfl (by decide) rfl rfl (pa_cons (pe_op op_sub (pe_call (T.ok_far) hr (by rfl) T.g_far T.k_far T.b_far .nil pass0 (pa_cons (pv 0) (pa_cons (pv 1) pa_nil))) pe_int) (pa_cons (pe_call (T.ok_far) hr (by rfl) T.g_far T.k_far T.b_far .nil pass0 (pa_cons (pv 0) (pa_cons (pe_call (T.ok_pick) hr (by rfl) T.g_pick T.k_pick T.b_pick .nil pass0 (pa_cons (pv 0) (pa_cons (pe_lst (pa_cons pe_int (pa_cons pe_int (pa_cons (pv 1) pa_nil)))) pa_nil))) pa_nil))) pa_nil)) (by rfl))
    (C8.pss_cut (ps_set (i := 4) sc_fraction.nd rfl (Or.inl rfl) (pe_call (T.ok_frac) hr (by rfl) T.g_frac T.k_frac T.b_frac .nil pass0 (pa_cons (pe_ifExp (pt_cmpR op_gt (pe_call (T.ok_draw) (hr.mono (by decide)) (by rfl) T.g_draw T.k_draw T.b_draw .nil pass0 (pa_cons (pv 0) (pa_cons pe_int pa_nil))) pe_int (nomark _)) (pv 2) (pe_un un_neg (pv 2))) (pa_cons (pv 3) pa_nil))))
    (pss_one (ps_ret (pe_ifExp (pt_cmpR op_gt (pe_call (T.ok_draw) (hr.mono (by decide)) (by rfl) T.g_draw T.k_draw T.b_draw .nil pass0 (pa_cons (pv 0) (pa_cons pe_int pa_nil))) pe_int (nomark _)) (pv 4) (pe_tup (pa_cons (pe_ix ix_tup (pv 4) pe_int (fun _ _ => rfl)) (pa_cons pe_int pa_nil))))))))), ?_⟩
    refine ⟨_, rfl, (by show 7 ≤ sizeLine; decide), fun p hp => ?_⟩
    have n1 := hM.ne hp
    refine ⟨L, F, p, _, rfl, hM.new hp, SqL.of upd_same, n1.1, n1.2, (by show 0 < 7; decide), (by show 7 < 1073741824; decide), fun H2 i x kp2 hM2 hx => ?_⟩
    have kp3 := (Kp.new hp).trans kp2
    have mm : ∃ m : Nat, x = .int m ∧ 1 ≤ m ∧ m ≤ 400 := by
      have hx' := List.mem_of_getElem? hx
      simp only [List.mem_cons, List.not_mem_nil, or_false] at hx'
      rcases hx' with rfl | rfl | rfl | rfl | rfl | rfl | rfl
      · exact ⟨1, rfl, by decide, by decide⟩
      · exact ⟨1, rfl, by decide, by decide⟩
      · exact ⟨2, rfl, by decide, by decide⟩
      · exact ⟨3, rfl, by decide, by decide⟩
      · exact ⟨20, rfl, by decide, by decide⟩
      · exact ⟨399, rfl, by decide, by decide⟩
      · exact ⟨400, rfl, by decide, by decide⟩
    obtain ⟨m, rfl, m1, m4⟩ := mm
    refine ⟨_, rfl, _, rfl, L, F, m, rfl, hM2, m1, m4, fun H3 n kp4 hM3 n1 hn => ⟨_, _, rfl, rfl, ?_⟩⟩
    have kp5 := kp3.trans kp4
    refine ⟨_, rfl, _, rfl, _, rfl, (by show 3 ≤ sizeLine; decide), fun p2 hp2 => ?_⟩
    have n2 := hM3.ne hp2
    refine ⟨L, F, p2, _, rfl, hM3.new hp2, SqL.of upd_same, n2.1, n2.2, (by show 0 < 3; decide), (by show 3 < 1073741824; decide), fun H4 i2 x2 kp6 hM4 hx2 => ?_⟩
    have kp7 := (kp5.trans (Kp.new hp2)).trans kp6
    have mm2 : ∃ m : Nat, x2 = .int m ∧ 1 ≤ m ∧ m ≤ 400 := by
      have hx' := List.mem_of_getElem? hx2
      simp only [List.mem_cons, List.not_mem_nil, or_false] at hx'
      rcases hx' with rfl | rfl | rfl
      · exact ⟨1, rfl, by decide, by decide⟩
      · exact ⟨1, rfl, by decide, by decide⟩
      · exact ⟨m, rfl, m1, m4⟩
    obtain ⟨m', rfl, m1', m4'⟩ := mm2
    refine ⟨L, F, m', rfl, hM4, m1', m4', fun H5 k kp8 hM5 k1 hk => ⟨_, _, rfl, ?_⟩⟩
    have kp9 := kp7.trans kp8
    have hn4 : n < 10 ^ 400 := Nat.lt_of_lt_of_le hn (Nat.pow_le_pow_right (by decide) m4)
    have hk4 : k < 10 ^ 400 := Nat.lt_of_lt_of_le hk (Nat.pow_le_pow_right (by decide) m4')
    have kn : (k : Int) ≠ 0 := by omega
    have sk : Sm (k : Int) := In4.sm (x := (k : Int)) hk4
    refine ⟨fun σ' H' => ∃ (t : Addr) (u v : Int), σ' = [some (.ref L), some (.int m), some (.int (n - 1)), some (.int k), some (.ref t)] ∧ Kp L F H H' ∧ Lm H' L F ∧
      H' t = some (.tup [.int u, .int v]) ∧ Low u v ∧ In4 u ∧ In4 v, ?_, ?_⟩
    · have la : ∀ a : Int, a.natAbs < 10 ^ 400 → In4 (fA a k) := fun a ha => Nat.lt_of_le_of_lt (fA_le kn) ha
      have lb : ∀ a : Int, In4 (fB a k) := fun a => Nat.lt_of_le_of_lt (fB_le kn) hk4
      refine ⟨_, rfl, L, F, 3, rfl, hM5, by decide, fun H6 j kp10 hM6 j0 jl => ⟨_, _, rfl, rfl, _, rfl, ite2 (fun _ => ?_) (fun _ => ?_)⟩⟩
      · refine ⟨_, rfl, _, rfl, (n : Int) - 1, k, rfl, kn, sk, fun H7 t sm ht ht7 => ?_⟩
        exact ⟨t, _, _, rfl, (kp9.trans kp10).trans (kp_same sm), hM6.same sm, ht7, low_f kn, la _ (by omega), lb _⟩
      · refine ⟨_, rfl, _, rfl, _, rfl, -((n : Int) - 1), k, rfl, kn, sk, fun H7 t sm ht ht7 => ?_⟩
        exact ⟨t, _, _, rfl, (kp9.trans kp10).trans (kp_same sm), hM6.same sm, ht7, low_f kn, la _ (by omega), lb _⟩
    · rintro σ' H7 ⟨t, u, v, rfl, kp10, hM7, ht7, low, iu, iv⟩
      refine ⟨_, rfl, L, F, 4, rfl, hM7, by decide, fun H8 j kp11 hM8 j0 jl => ⟨_, _, rfl, rfl, _, rfl, ?_⟩⟩
      have ht8 := kp11.tup hM7 ht7
      have kp12 := kp10.trans kp11
      refine ite2 (fun _ => ?_) (fun _ => ?_)
      · exact ⟨_, rfl, q H8 t _ _ kp12 hM8 ht8 low iu iv⟩
      · refine ⟨_, rfl, t, _, _, _, rfl, rfl, SqT.of ht8, at_of (j := 0) rfl rfl, (by show 2 ≤ sizeLine; decide), fun p3 hp3 => ?_⟩
        exact q _ p3 u 1 (kp12.trans (Kp.new hp3)) (hM8.new hp3) upd_same ⟨by decide, Nat.gcd_one_right _⟩ iu In4.one
/-! ### the text that the law writes -/
theorem int_S (i : Int) : Str.ofString (toString i) = S (intL i) := int_text i
def sp_written (K : PySem.W.Frag) : Sp := fun vs H Q _ => ∃ (t : Addr) (a b : Int), vs = [.ref t] ∧ SqT K H t [.int a, .int b] ∧ In4 a ∧ In4 b ∧ Q (.str (S (fracL a b))) H
theorem Txt.ok_written (T : Txt K mg A D) : FnOk P w K mg base CX0 1 (A 13) (D 13) ["own"] (sp_written K) := by
  refine T.F_written.ok sc_written (fun vs H Q E h => ?_) (fun cdv Ar outer s H vs Q E hr h => ?_)
  · obtain ⟨t, a, b, rfl, _⟩ := h
    rfl
  · obtain ⟨t, a, b, rfl, ht, ha, hb, q⟩ := h
    refine ⟨_, (pss_one (ps_ret (pe_ifExp (pt_cmpR op_eq (pe_ix ix_tup (pv 0) pe_int (fun _ _ => rfl)) pe_int (nomark _)) (pe_callTy call_str_int (by rfl) T.z_str (by decide +kernel) (pa_cons (pe_ix ix_tup (pv 0) pe_int (fun _ _ => rfl)) pa_nil)) (pe_joined (PJ.cons (pe_fmt (pe_ix ix_tup (pv 0) pe_int (fun _ _ => rfl))) (PJ.cons pe_str (PJ.cons (pe_fmt (pe_ix ix_tup (pv 0) pe_int (fun _ _ => rfl))) PJ.nil))))))), ?_⟩
    have la := intL_len (by decide) ha
    have lb := intL_len (by decide) hb
    refine ⟨_, rfl, t, _, _, _, rfl, rfl, ht, (at_of (j := 1) rfl rfl), rfl, _, rfl, ite2 (fun e => ?_) (fun e => ?_)⟩
    · have z : fracL a b = intL a := if_pos (V.int.inj (of_decide_eq_true e))
      rw [z] at q
      refine ⟨_, rfl, t, _, _, _, rfl, rfl, ht, (at_of (j := 0) rfl rfl), _, rfl, ha.log, ?_⟩
      rw [int_S]
      exact q
    · have z : fracL a b = intL a ++ 47 :: intL b := if_neg (fun y => vneF e (congrArg V.int y))
      have e1 : Str.empty ++ Str.ofString (toString a) = S (intL a) := by
        rw [int_S]
        exact S_cat [] (intL a)
      have e2 : Str.empty ++ Str.ofString (toString a) ++ ("/" : Str) = S (intL a ++ [47]) := by
        rw [e1]
        exact S_cat (intL a) [47]
      have e3 : Str.empty ++ Str.ofString (toString a) ++ ("/" : Str) ++ Str.ofString (toString b) = S (fracL a b) := by
        rw [e2, int_S, S_cat, z, List.append_assoc]
        rfl
      have hz : (intL a).length ≤ 16000000 ∧ (intL b).length ≤ 401 := ⟨by omega, by omega⟩
      refine ⟨_, rfl, t, _, _, _, rfl, rfl, ht, (at_of (j := 0) rfl rfl), .inr ⟨_, rfl, ha.log, _, rfl, ?_, _, rfl, ?_, _, rfl, t, _, _, _, rfl, rfl, ht, (at_of (j := 1) rfl rfl), .inr ⟨_, rfl, hb.log, _, rfl, ?_, ?_⟩⟩⟩
      · rw [e1, S_len, sizeLine_eq]
        omega
      · rw [e2, S_len, sizeLine_eq, List.length_append, List.length_singleton]
        omega
      · rw [e3, S_len, z, sizeLine_eq, List.length_append, List.length_cons]
        omega
      · rw [e3]
        exact q
end
end Ev

set_option exponentiation.threshold 256
/-! reading fractions, sign by sign -/
namespace Ev
open PySem PySem.Spec PyProof.Rows L2 SX
open TL (numL numL_lt numL_step numL_digits numL_ne numL_free numL_val numL_inj numL_len)
def vl (u : List Nat) : Nat := NumText.digitsVal u
def okP (u : List Nat) : Bool := decide (1 ≤ u.length) && decide (u.length ≤ 400) && u.all isDig && !(decide (u.head? = some 48) && decide (1 < u.length))
def sg (t : List Nat) (n : Nat) : Int := if t.head? = some 45 then -(n : Int) else n
def rdL (t : List Nat) : Option (Int × Int) :=
  match TL.spl [47] 0 [] (unsign t) with
  | [u] => if okP u = true ∧ ¬ (vl u = 0 ∧ t ≠ [48]) then some (sg t (vl u), 1) else none
  | [u, r] => if okP u = true ∧ okP r = true ∧ vl u ≠ 0 ∧ 2 ≤ vl r ∧ Nat.gcd (vl u) (vl r) = 1 then some (sg t (vl u), vl r) else none
  | _ => none
theorem okP_iff {u : List Nat} : okP u = true ↔ 1 ≤ u.length ∧ u.length ≤ 400 ∧ u.all isDig = true ∧ (u.head? = some 48 → u.length ≤ 1) := by
  unfold okP
  rw [Bool.and_eq_true, Bool.and_eq_true, Bool.and_eq_true, decide_eq_true_eq, decide_eq_true_eq, Bool.not_eq_true', Bool.and_eq_false_iff, decide_eq_false_iff_not, decide_eq_false_iff_not]
  constructor
  · rintro ⟨⟨⟨h1, h2⟩, h3⟩, h4⟩
    exact ⟨h1, h2, h3, fun z => by rcases h4 with h4 | h4; exact absurd z h4; omega⟩
  · rintro ⟨h1, h2, h3, h4⟩
    refine ⟨⟨⟨h1, h2⟩, h3⟩, ?_⟩
    by_cases z : u.head? = some 48
    · exact .inr (by have := h4 z; omega)
    · exact .inl z
theorem one_48 {u : List Nat} (h : okP u = true) (z : u.head? = some 48) : u = [48] := by
  obtain ⟨h1, h2, h3, h4⟩ := okP_iff.mp h
  match u, z, h4 z with
  | [c], z, _ => cases z; rfl
  | c :: d :: r, _, l => exact absurd l (by simp)
theorem rdI_bad {u : List Nat} (h : okP (unsign u) ≠ true) : rdI u = none := by
  unfold rdI
  refine if_neg fun z => h (okP_iff.mpr ⟨z.1, z.2.1, z.2.2.1, fun y => ?_⟩)
  have := z.2.2.2 y
  rw [this]
  decide
theorem vl_pos {u : List Nat} (h : okP u = true) (z : u.head? ≠ some 48) : vl u ≠ 0 := by
  obtain ⟨h1, h2, h3, h4⟩ := okP_iff.mp h
  cases u with
  | nil => exact absurd h1 (by decide)
  | cons c l =>
    have hd := dig_all h3 c (List.mem_cons_self ..)
    have : c ≠ 48 := fun y => z (by rw [y]; rfl)
    have := NumText.digitsVal_pos (c := c) (cs := l) (by omega)
    unfold vl
    omega
theorem spl_ne (S : List Nat) : ∀ (l : List Nat) (k : Nat) (acc : List Nat), ∃ x r, TL.spl S k acc l = x :: r
  | [], k, acc => ⟨acc, [], TL.spl_nil S k acc⟩
  | c :: l, 0, acc => by
    by_cases h : TL.pre S (c :: l) = true
    · exact ⟨_, _, TL.spl_hit h⟩
    · rw [TL.spl_miss (by cases z : TL.pre S (c :: l) with | true => exact absurd z h | false => rfl)]
      exact spl_ne S l 0 _
  | c :: l, k + 1, acc => spl_ne S l k acc
theorem rdI_ok {u : List Nat} (h : okP (unsign u) = true) (z : (unsign u).head? ≠ some 48 ∨ u = [48]) : rdI u = some (sg u (vl (unsign u))) := by
  obtain ⟨h1, h2, h3, h4⟩ := okP_iff.mp h
  unfold rdI
  rw [if_pos ⟨h1, h2, h3, fun y => by rcases z with z | z; exact absurd y z; exact z⟩]
  rfl
theorem rdI_minus0 {u : List Nat} (z : (unsign u).head? = some 48) (n : u ≠ [48]) : rdI u = none := by
  unfold rdI
  exact if_neg fun y => n (y.2.2.2 z)
theorem unsign_app {u r : List Nat} : unsign (u ++ 47 :: r) = unsign u ++ 47 :: r := by
  cases u with
  | nil => rfl
  | cons c l =>
    unfold unsign
    show (if some c = some 45 then _ else _) = (if some c = some 45 then _ else _) ++ _
    split <;> rfl
theorem not_mem_unsign {u : List Nat} {c : Nat} (h : c ∉ u) : c ∉ unsign u := fun m => by
  unfold unsign at m
  split at m
  · exact h (List.mem_of_mem_drop m)
  · exact h m
theorem mem_unsign {u : List Nat} (h : 47 ∈ u) : 47 ∈ unsign u := by
  unfold unsign
  split
  · rename_i z
    cases u with
    | nil => cases z
    | cons c l =>
      have ec : c = 45 := Option.some.inj z
      subst ec
      rcases List.mem_cons.mp h with y | y
      · exact absurd y (by decide)
      · exact y
  · exact h
theorem rdI_mem {u : List Nat} (h : 47 ∈ u) : rdI u = none := by
  refine rdI_bad fun z => ?_
  have := List.all_eq_true.mp (okP_iff.mp z).2.2.1 47 (mem_unsign h)
  exact absurd this (by decide)
theorem sg_app {u r : List Nat} (h : u ≠ []) (n : Nat) : sg (u ++ 47 :: r) n = sg u n := by
  cases u with
  | nil => exact absurd rfl h
  | cons c l => rfl
theorem rdL_eq (t : List Nat) : rdL t = rdF t := by
  by_cases m : 47 ∈ t
  · obtain ⟨u, r, et, hu⟩ := List.eq_append_cons_of_mem m
    have ep : TL.par [47] [] t = some (u, r) := by
      rw [et]
      exact par_head (sep := []) r hu
    have es : TL.spl [47] 0 [] (unsign t) = unsign u :: TL.spl [47] 0 [] r := by
      rw [et, unsign_app]
      exact spl_free (sep := [47]) r (by decide) (free_head (not_mem_unsign hu))
    have eF : rdF t = (match rdI u with
            | none => none
            | some a => match rdI r with
              | none => none
              | some b => if b < 2 ∨ 1 < Nat.gcd a.natAbs b.natAbs then none else some (a, b)) := by
      unfold rdF
      rw [ep]
      all_goals rfl
    by_cases mr : 47 ∈ r
    · obtain ⟨u2, r2, er, hu2⟩ := List.eq_append_cons_of_mem mr
      have es2 : TL.spl [47] 0 [] r = u2 :: TL.spl [47] 0 [] r2 := by
        rw [er]
        exact spl_free (sep := [47]) r2 (by decide) (free_head hu2)
      obtain ⟨x, l, e3⟩ := spl_ne [47] r2 0 []
      have e1 : rdL t = none := by
        unfold rdL
        rw [es, es2, e3]
      rw [e1, eF, rdI_mem mr]
      cases rdI u <;> rfl
    · have es2 : TL.spl [47] 0 [] r = [r] := TL.spl_last1 mr
      have eL : rdL t = if okP (unsign u) = true ∧ okP r = true ∧ vl (unsign u) ≠ 0 ∧ 2 ≤ vl r ∧ Nat.gcd (vl (unsign u)) (vl r) = 1 then some (sg t (vl (unsign u)), (vl r : Int)) else none := by
        unfold rdL
        rw [es, es2]
      rw [eL, eF]
      by_cases o1 : okP (unsign u) = true
      · by_cases z1 : (unsign u).head? = some 48
        · have e48 := one_48 o1 z1
          have v0 : vl (unsign u) = 0 := by rw [e48]; decide
          rw [if_neg (fun y => y.2.2.1 v0)]
          by_cases u48 : u = [48]
          · have eu : rdI u = some 0 := by
              rw [u48]
              decide +kernel
            rw [eu]
            cases rdI r with
            | none => rfl
            | some b =>
              show none = if b < 2 ∨ 1 < Nat.gcd 0 b.natAbs then none else some (0, b)
              rw [if_pos]
              rw [Nat.gcd_zero_left]
              omega
          · rw [rdI_minus0 z1 u48]
        · have eu := rdI_ok o1 (.inl z1)
          have v0 := vl_pos o1 z1
          rw [eu]
          have une : u ≠ [] := fun y => by
            rw [y] at o1
            exact absurd o1 (by decide)
          have esg : sg t (vl (unsign u)) = sg u (vl (unsign u)) := by rw [et]; exact sg_app une _
          have eab : (sg u (vl (unsign u))).natAbs = vl (unsign u) := by
            unfold sg
            split <;> omega
          by_cases s2 : r.head? = some 45
          · have o2 : ¬ okP r = true := fun y => by
              obtain ⟨h1, h2, h3, h4⟩ := okP_iff.mp y
              cases r with
              | nil => cases s2
              | cons c l =>
                have ec : c = 45 := Option.some.inj s2
                have := List.all_eq_true.mp h3 c (List.mem_cons_self ..)
                rw [ec] at this
                exact absurd this (by decide)
            rw [if_neg (fun y => o2 y.2.1)]
            cases er : rdI r with
            | none => rfl
            | some b =>
              have hb : b ≤ 0 := by
                unfold rdI at er
                split at er
                · cases er
                  omega
                · cases er
              show none = if b < 2 ∨ _ then none else _
              rw [if_pos (.inl (by omega))]
          · have un : unsign r = r := if_neg s2
            by_cases o2 : okP r = true
            · have er : rdI r = some (vl r : Int) := by
                have e := rdI_ok (u := r) (by rw [un]; exact o2) (by
                  rw [un]
                  by_cases z : r.head? = some 48
                  · exact .inr (one_48 o2 z)
                  · exact .inl z)
                rw [e, un]
                unfold sg
                rw [if_neg s2]
              rw [er]
              show _ = if (vl r : Int) < 2 ∨ 1 < Nat.gcd (sg u (vl (unsign u))).natAbs ((vl r : Int)).natAbs then none else some (sg u (vl (unsign u)), (vl r : Int))
              rw [eab, esg, Int.natAbs_natCast]
              have gp : 0 < Nat.gcd (vl (unsign u)) (vl r) := Nat.gcd_pos_of_pos_left _ (by omega)
              by_cases c : okP (unsign u) = true ∧ okP r = true ∧ vl (unsign u) ≠ 0 ∧ 2 ≤ vl r ∧ Nat.gcd (vl (unsign u)) (vl r) = 1
              · rw [if_pos c, if_neg]
                omega
              · rw [if_neg c, if_pos]
                by_cases c2 : 2 ≤ vl r
                · refine .inr ?_
                  have : Nat.gcd (vl (unsign u)) (vl r) ≠ 1 := fun y => c ⟨o1, o2, v0, c2, y⟩
                  omega
                · exact .inl (by omega)
            · rw [if_neg (fun y => o2 y.2.1), rdI_bad (by rw [un]; exact o2)]
      · rw [if_neg (fun y => o1 y.1), rdI_bad o1]
  · have ep : TL.par [47] [] t = none := TL.par_none1 m
    have es : TL.spl [47] 0 [] (unsign t) = [unsign t] := TL.spl_last1 (not_mem_unsign m)
    have eF : rdF t = (match rdI t with | some a => some (a, 1) | none => none) := by
      unfold rdF
      rw [ep]
      all_goals rfl
    have eL : rdL t = if okP (unsign t) = true ∧ ¬ (vl (unsign t) = 0 ∧ t ≠ [48]) then some (sg t (vl (unsign t)), 1) else none := by
      unfold rdL
      rw [es]
    rw [eL, eF]
    by_cases o1 : okP (unsign t) = true
    · by_cases z1 : (unsign t).head? = some 48
      · have v0 : vl (unsign t) = 0 := by rw [one_48 o1 z1]; decide
        by_cases u48 : t = [48]
        · rw [if_pos ⟨o1, fun y => y.2 u48⟩, rdI_ok o1 (.inr u48)]
        · rw [if_neg (fun y => y.2 ⟨v0, u48⟩), rdI_minus0 z1 u48]
      · rw [if_pos ⟨o1, fun y => vl_pos o1 z1 y.1⟩, rdI_ok o1 (.inl z1)]
    · rw [if_neg (fun y => o1 y.1), rdI_bad o1]
/-! ### what is written is read back -/
theorem numL_head {n : Nat} (h : (numL n).head? = some 48) : n = 0 := by
  induction n using Nat.strongRecOn with
  | ind n ih =>
    by_cases l : n < 10
    · rw [numL_lt l] at h
      have := Option.some.inj h
      omega
    · have l' : 10 ≤ n := by omega
      rw [numL_step l'] at h
      have h' : (numL (n / 10)).head? = some 48 := by
        cases z : numL (n / 10) with
        | nil => exact absurd z (numL_ne _)
        | cons c r => rw [z] at h; exact h
      have := ih (n / 10) (by omega) h'
      omega
theorem okP_num {n : Nat} (h : n < 10 ^ 400) : okP (numL n) = true := by
  refine okP_iff.mpr ⟨List.length_pos_iff.mpr (numL_ne n), numL_len (by decide) h, List.all_eq_true.mpr fun c hc => ?_, fun z => ?_⟩
  · have d := numL_digits n c hc
    unfold isDig
    rw [decide_eq_true d.1, decide_eq_true d.2]
    rfl
  · have e := numL_head z
    rw [e]
    decide
theorem numL_head45 (n : Nat) : (numL n).head? ≠ some 45 := fun z => by
  have hm : 45 ∈ numL n := List.mem_of_mem_head? z
  have := numL_digits n 45 hm
  omega
theorem unsign_int (a : Int) : unsign (intL a) = numL a.natAbs := by
  unfold intL
  split
  · rfl
  · exact if_neg (numL_head45 _)
theorem sg_int (a : Int) : sg (intL a) a.natAbs = a := by
  unfold intL sg
  split
  · rw [if_pos (show (45 :: numL a.natAbs).head? = some 45 from rfl)]
    omega
  · rw [if_neg (numL_head45 _)]
    omega
theorem slash_int (a : Int) : 47 ∉ intL a := fun m => by
  unfold intL at m
  split at m
  · rcases List.mem_cons.mp m with y | y
    · exact absurd y (by decide)
    · exact numL_free (by omega) y
  · exact numL_free (by omega) m
theorem intL_ne (a : Int) : intL a ≠ [] := fun z => by
  unfold intL at z
  split at z
  · cases z
  · exact numL_ne _ z
theorem vl_num (n : Nat) : vl (numL n) = n := numL_val n
theorem rd_frac {a b : Int} (lo : Low a b) (ha : a.natAbs < 10 ^ 400) (hb : b.natAbs < 10 ^ 400) : rdF (fracL a b) = some (a, b) := by
  rw [← rdL_eq]
  unfold fracL
  by_cases e : b = 1
  · rw [if_pos e, e]
    have es : TL.spl [47] 0 [] (unsign (intL a)) = [numL a.natAbs] := by
      rw [unsign_int]
      exact TL.spl_last1 (numL_free (by omega))
    unfold rdL
    rw [es]
    show (if okP (numL a.natAbs) = true ∧ ¬ (vl (numL a.natAbs) = 0 ∧ intL a ≠ [48]) then some (sg (intL a) (vl (numL a.natAbs)), (1 : Int)) else none) = _
    have hc : okP (numL a.natAbs) = true ∧ ¬ (a.natAbs = 0 ∧ intL a ≠ [48]) := ⟨okP_num ha, fun y => y.2 (by
      have : a = 0 := by omega
      rw [this]
      decide +kernel)⟩
    rw [vl_num, sg_int, if_pos hc]
  · rw [if_neg e]
    obtain ⟨l1, l2⟩ := lo
    have eb : intL b = numL b.natAbs := if_neg (by omega)
    have es : TL.spl [47] 0 [] (unsign (intL a ++ 47 :: intL b)) = [numL a.natAbs, numL b.natAbs] := by
      rw [unsign_app, unsign_int, eb]
      have e1 : TL.spl [47] 0 [] (numL a.natAbs ++ 47 :: numL b.natAbs) = numL a.natAbs :: TL.spl [47] 0 [] (numL b.natAbs) := spl_free (sep := [47]) _ (by decide) (free_head (numL_free (by omega)))
      rw [e1, TL.spl_last1 (numL_free (by omega))]
      rfl
    unfold rdL
    rw [es]
    show (if okP (numL a.natAbs) = true ∧ okP (numL b.natAbs) = true ∧ vl (numL a.natAbs) ≠ 0 ∧ 2 ≤ vl (numL b.natAbs) ∧ Nat.gcd (vl (numL a.natAbs)) (vl (numL b.natAbs)) = 1 then
      some (sg (intL a ++ 47 :: intL b) (vl (numL a.natAbs)), ((vl (numL b.natAbs) : Nat) : Int)) else none) = _
    have hc : okP (numL a.natAbs) = true ∧ okP (numL b.natAbs) = true ∧ a.natAbs ≠ 0 ∧ 2 ≤ b.natAbs ∧ Nat.gcd a.natAbs b.natAbs = 1 := ⟨okP_num ha, okP_num hb, fun z => by
      rw [z, Nat.gcd_zero_left] at l2
      omega, by omega, l2⟩
    have eb2 : ((b.natAbs : Nat) : Int) = b := by omega
    rw [vl_num, vl_num, sg_app (intL_ne a), sg_int, if_pos hc, eb2]
theorem frac_inj {a b c d : Int} (h1 : Low a b) (h2 : Low c d) (a4 : a.natAbs < 10 ^ 400) (b4 : b.natAbs < 10 ^ 400) (c4 : c.natAbs < 10 ^ 400) (d4 : d.natAbs < 10 ^ 400) (e : fracL a b = fracL c d) : a = c ∧ b = d := by
  have e1 := rd_frac h1 a4 b4
  rw [e, rd_frac h2 c4 d4] at e1
  cases e1
  exact ⟨rfl, rfl⟩
end Ev

set_option exponentiation.threshold 3000
namespace Ev
open PySem PySem.Spec PyProof.Rows L2 SX
open TL (numL numL_lt numL_step numL_digits numL_ne numL_free numL_val numL_inj numL_len)
/-! ### cuts of a text -/
theorem cutS_S (t : List Nat) (lo hi : Option Int) : cutS (S t) lo hi = S ((t.drop (HT.sIx t.length 0 lo)).take (HT.sIx t.length t.length hi - HT.sIx t.length 0 lo)) := by
  unfold cutS
  rw [S_len]
theorem cut_head (t : List Nat) : cutS (S t) none (some 1) = S (t.take 1) := by
  rw [cutS_S]
  have e : HT.sIx t.length t.length (some 1) = min 1 t.length := HT.sIx_nat _ _ 1
  rw [e, HT.sIx_none, List.drop_zero]
  congr 1
  rw [Nat.sub_zero]
  cases t with
  | nil => rfl
  | cons c r =>
    have : min 1 (c :: r).length = 1 := by rw [List.length_cons]; omega
    rw [this]
theorem cut_tail (t : List Nat) : cutS (S t) (some 1) none = S (t.drop 1) := by
  rw [cutS_S]
  have e : HT.sIx t.length 0 (some 1) = min 1 t.length := HT.sIx_nat _ _ 1
  rw [e, HT.sIx_none]
  congr 1
  cases t with
  | nil => rfl
  | cons c r =>
    have : min 1 (c :: r).length = 1 := by rw [List.length_cons]; omega
    rw [this, List.take_of_length_le]
    rw [List.length_drop]
    omega
theorem take1_45 {t : List Nat} : t.take 1 = [45] ↔ t.head? = some 45 := by
  cases t with
  | nil => constructor <;> (intro h; cases h)
  | cons c r =>
    show [c] = [45] ↔ some c = some 45
    constructor
    · intro h; injection h with h; rw [h]
    · intro h; rw [Option.some.inj h]
/-- signs as a text may hold them -/
def Ch (t : List Nat) : Prop := ∀ c ∈ t, c < 1114112
def badS (u : List Nat) : List Nat := u.filter fun c => !isDig c
def strD (l : List Nat) : List PyData := l.map fun c => .str (S [c])
theorem dpAll_str {K : PySem.W.Frag} {H : Hp} : ∀ l : List Nat, DpAll K H (l.map fun c => V.str (S [c])) (strD l)
  | [] => .nil
  | c :: l => .cons (.str _) (dpAll_str l)
theorem canLay_str {l : List Nat} (h : Ch l) : PyData.canLayAll0 (strD l) = true := by
  induction l with
  | nil => rfl
  | cons c l ih =>
    have e : PyData.canLayAll0 (strD (c :: l)) = (PyData.canLay0 (.str (S [c])) && PyData.canLayAll0 (strD l)) := by
      simp only [strD, List.map_cons, PyData.canLayAll0]
    rw [e, ih fun x hx => h x (List.mem_cons_of_mem _ hx), Bool.and_true]
    have : c < 1114112 := h c (List.mem_cons_self ..)
    simp only [PyData.canLay0]
    show (S [c]).cps.all (· < 0x110000) = true
    rw [← Array.all_toList]
    show (decide (c < 0x110000) && true) = true
    rw [Bool.and_true]
    exact decide_eq_true this
theorem depth_str (l : List Nat) : PyData.depthAll (strD l) = 0 := by
  induction l with
  | nil => rfl
  | cons c l ih =>
    show max (PyData.depth (.str (S [c]))) (PyData.depthAll (strD l)) = 0
    rw [ih]
    rfl
theorem shaped_str {l : List Nat} (h : Ch l) : SeqAt.shaped (.list (strD l)) = true := by
  simp only [SeqAt.shaped, PyData.canLay0, canLay_str h, PyData.depth, depth_str]
  decide
theorem eqv_str_nil (l : List Nat) : PyData.eqv (.list (strD l)) (.list []) = l.isEmpty := by
  cases l with
  | nil => rfl
  | cons c l => simp [PyData.eqv, PyData.eqvAll, strD]
theorem badS_nil {u : List Nat} : (badS u).isEmpty = true ↔ u.all isDig = true := by
  unfold badS
  rw [List.isEmpty_iff, List.filter_eq_nil_iff, List.all_eq_true]
  constructor
  · intro h c hc
    have := h c hc
    cases z : isDig c with
    | true => rfl
    | false => rw [z] at this; exact absurd rfl this
  · intro h c hc
    rw [h c hc]
    decide
/-- the law's reader refuses where a part is none -/
theorem rdL_bad {t u : List Nat} (h : u ∈ TL.spl [47] 0 [] (unsign t)) (n : okP u ≠ true) : rdL t = none := by
  unfold rdL
  match TL.spl [47] 0 [] (unsign t), h with
  | [x], h =>
    have e : u = x := List.mem_singleton.mp h
    subst e
    exact if_neg fun z => n z.1
  | [x, y], h =>
    rcases List.mem_cons.mp h with e | e
    · subst e
      exact if_neg fun z => n z.1
    · have e := List.mem_singleton.mp e
      subst e
      exact if_neg fun z => n z.2.1
  | x :: y :: z :: r, _ => rfl
theorem spl_part_in (S : List Nat) : ∀ (l : List Nat) (k : Nat) (acc u : List Nat), u ∈ TL.spl S k acc l → u.length ≤ acc.length + l.length ∧ ∀ c ∈ u, c ∈ acc ∨ c ∈ l
  | [], k, acc, u, h => by
    rw [TL.spl_nil] at h
    have e := List.mem_singleton.mp h
    subst e
    exact ⟨Nat.le_add_right _ _, fun c hc => .inl hc⟩
  | c :: l, 0, acc, u, h => by
    by_cases hp : TL.pre S (c :: l) = true
    · rw [TL.spl_hit hp] at h
      rcases List.mem_cons.mp h with e | h
      · subst e
        exact ⟨Nat.le_add_right _ _, fun c hc => .inl hc⟩
      · have z := spl_part_in S l _ [] u h
        refine ⟨by rw [List.length_cons]; have := z.1; rw [List.length_nil] at this; omega, fun d hd => ?_⟩
        rcases z.2 d hd with y | y
        · cases y
        · exact .inr (List.mem_cons_of_mem _ y)
    · rw [TL.spl_miss (by cases z : TL.pre S (c :: l) with | true => exact absurd z hp | false => rfl)] at h
      have z := spl_part_in S l 0 _ u h
      refine ⟨by have := z.1; rw [List.length_append, List.length_singleton] at this; rw [List.length_cons]; omega, fun d hd => ?_⟩
      rcases z.2 d hd with y | y
      · rcases List.mem_append.mp y with y | y
        · exact .inl y
        · exact .inr (by rw [List.mem_singleton.mp y]; exact List.mem_cons_self ..)
      · exact .inr (List.mem_cons_of_mem _ y)
  | c :: l, k + 1, acc, u, h => by
    have z := spl_part_in S l k acc u h
    exact ⟨by rw [List.length_cons]; have := z.1; omega, fun d hd => (z.2 d hd).imp id (List.mem_cons_of_mem _)⟩
theorem two_of {α : Type} {ps : List α} {x : α} {r : List α} (e : ps = x :: r) (l : ps.length ≤ 2) : (∃ u, ps = [u]) ∨ ∃ u r, ps = [u, r] := by
  subst e
  match r, l with
  | [], _ => exact .inl ⟨x, rfl⟩
  | [y], _ => exact .inr ⟨x, y, rfl⟩
theorem rd_three {ps : List (List Nat)} {t : List Nat} (l : 2 < ps.length) : (match ps with
        | [u] => if okP u = true ∧ ¬ (vl u = 0 ∧ t ≠ [48]) then some (sg t (vl u), (1 : Int)) else none
        | [u, r] => if okP u = true ∧ okP r = true ∧ vl u ≠ 0 ∧ 2 ≤ vl r ∧ Nat.gcd (vl u) (vl r) = 1 then some (sg t (vl u), ((vl r : Nat) : Int)) else none
        | _ => none) = none := by
  match ps, l with
  | _ :: _ :: _ :: _, _ => rfl
theorem badS_step {u : List Nat} {i c : Nat} (h : u[i]? = some c) : badS (u.take (i + 1)) = badS (u.take i) ++ (if isDig c = true then [] else [c]) := by
  rw [List.take_add_one, h]
  unfold badS
  rw [List.filter_append]
  congr 1
  show List.filter _ [c] = _
  rw [List.filter_cons]
  cases isDig c <;> rfl
theorem badS_len (u : List Nat) : (badS u).length ≤ u.length := List.length_filter_le _ _
theorem badS_Ch {u : List Nat} (h : Ch u) : Ch (badS u) := fun c hc => h c (List.mem_filter.mp hc).1
theorem ge48 (c : Nat) : (!decide ((S [c]).cps.toList < ("0" : Str).cps.toList)) = decide (48 ≤ c) := by
  have e0 : ("0" : Str).cps.toList = [48] := by decide +kernel
  rw [e0]
  show (!decide ([c] < [48])) = _
  have : ([c] < [48]) ↔ c < 48 := by
    rw [List.cons_lt_cons_iff]
    exact ⟨fun z => z.elim id fun y => (List.not_lt_nil _ y.2).elim, .inl⟩
  by_cases h : c < 48
  · rw [decide_eq_true (this.mpr h), decide_eq_false (by omega)]
    rfl
  · rw [decide_eq_false (fun z => h (this.mp z)), decide_eq_true (by omega)]
    rfl
theorem le57 (c : Nat) : (!decide (("9" : Str).cps.toList < (S [c]).cps.toList)) = decide (c ≤ 57) := by
  have e0 : ("9" : Str).cps.toList = [57] := by decide +kernel
  rw [e0]
  show (!decide ([57] < [c])) = _
  have : ([57] < [c]) ↔ 57 < c := by
    rw [List.cons_lt_cons_iff]
    exact ⟨fun z => z.elim id fun y => (List.not_lt_nil _ y.2).elim, .inl⟩
  by_cases h : 57 < c
  · rw [decide_eq_true (this.mpr h), decide_eq_false (by omega)]
    rfl
  · rw [decide_eq_false (fun z => h (this.mp z)), decide_eq_true (by omega)]
    rfl
section
variable {P : Program} {w : World} {K : PySem.W.Frag} {mg : Str → Option Value} {base : Heap} {A : Nat → Addr} {D : Nat → FuncData}
def sp_read (K : PySem.W.Frag) : Sp := fun vs H Q _ => ∃ v : V, vs = [v] ∧
  ((∃ t : List Nat, v = .str (S t) ∧ t.length ≤ 16000000 ∧ Ch t ∧ (rdL t = none → ∀ H', Same H H' → Q .non H') ∧
      ∀ a b, rdL t = some (a, b) → ∀ (H' : Hp) (p : Addr), Same H H' → H p = none → H' p = some (.tup [.int a, .int b]) → Q (.ref p) H') ∨
    ∃ tn : String, TyX K H v (.type tn) ∧ PySem.W.kitOne K (.type tn) (.type "str") = some false ∧ Q .non H)
theorem Txt.ok_read (T : Txt K mg A D) : FnOk P w K mg base CX0 2 (A 14) (D 14) ["value"] (sp_read K) := by
  refine T.F_read.ok sc_read (fun vs H Q E h => ?_) (fun cdv Ar outer s H vs Q E hr h => ?_)
  · obtain ⟨v, rfl, _⟩ := h
    rfl
  · obtain ⟨v, rfl, h⟩ := h
    refine ⟨_, (pss_cons (ps_if (pt_not (pt_val (pe_callB call_isi (by rfl) T.z_isinstance (by decide +kernel) (pa_cons (pv 0) (pa_cons (pe_bltn (v := .ty "str") (by rfl) T.z_str (by decide +kernel) rfl) pa_nil))))) (pss_one (ps_ret pe_non)) pss_nil)
    (C8.pss_cut (ps_set (i := 1) sc_read.nd rfl (Or.inl rfl) (pe_ifExp (pt_cmpR op_eq (pe_slice sl_str (pv 0) po_none (po_some pe_int)) pe_str (nomark _)) (pe_slice sl_str (pv 0) (po_some pe_int) po_none) (pv 0)))
    (pss_cons (ps_set (i := 2) sc_read.nd rfl (Or.inl rfl) (pe_split (pv 1) pe_str))
    (pss_cons (ps_if (pt_cmpR op_gt (pe_callB call_len_seq (by rfl) T.z_len (by decide +kernel) (pa_cons (pv 2) pa_nil)) pe_int (nomark _)) (pss_one (ps_ret pe_non)) pss_nil)
    (pss_cons (ps_for PassesOwn.never rfl (pi_list (pv 2)) (pg_name (i := 3) sc_read.nd rfl (Or.inl rfl)) (pss_cons (ps_if (PW.pt (pw_or (pt_not (pt_chain op_le op_le pe_int (pe_callB call_len_str (by rfl) T.z_len (by decide +kernel) (pa_cons (pv 3) pa_nil)) pe_int)) (pw_or1 (pt_cmpR (op_neD hr.units) (pe_lc (own := [("sign", 6)]) (g := gName 6) (tt := _) rfl sc_read.nd (pi_str (pv 3)) (blkOk_by (N := ["value", "text", "parts", "own", "a", "b", "sign"]) (sc := defScope s_read) (by decide +kernel)) (fun _ _ _ _ _ => pg_name (i := 6) sc_read.nd rfl (Or.inl rfl)) (fun _ _ _ _ _ => (pts_one (pt_not (pt_chain op_le_str op_le_str pe_str (pv 6) pe_str)))) (fun _ _ _ _ _ => (pv 6))) (pe_lst pa_nil) (nomark _))))) (pss_one (ps_ret pe_non)) pss_nil)
    (pss_one (ps_if (PW.pt (pw_and (pt_cmpR op_eq (pe_ix ix_str (pv 3) pe_int (fun _ _ => rfl)) pe_str (nomark _)) (pw_and1 (pt_cmpR op_gt (pe_callB call_len_str (by rfl) T.z_len (by decide +kernel) (pa_cons (pv 3) pa_nil)) pe_int (nomark _))))) (pss_one (ps_ret pe_non)) pss_nil))))
    (pss_cons (ps_par (i := 4) (j := 5) rfl sc_read.nd rfl rfl (by decide) rfl rfl (pa_cons (pe_callTy call_int_str (by rfl) T.z_int (by decide +kernel) (pa_cons (pe_ix ix_list (pv 2) pe_int (fun _ _ => rfl)) pa_nil)) (pa_cons (pe_ifExp (pt_cmpR op_eq (pe_callB call_len_seq (by rfl) T.z_len (by decide +kernel) (pa_cons (pv 2) pa_nil)) pe_int (nomark _)) (pe_callTy call_int_str (by rfl) T.z_int (by decide +kernel) (pa_cons (pe_ix ix_list (pv 2) pe_int (fun _ _ => rfl)) pa_nil)) pe_int) pa_nil)) (by rfl))
    (pss_cons (ps_if (PW.pt (pw_or (PW.pt (pw_and (pt_cmpR op_eq (pv 4) pe_int (nomark _)) (pw_and1 (PW.pt (pw_or (pt_cmpR op_ne (pv 0) pe_str (nomark _)) (pw_or1 (pt_cmpR op_eq (pe_callB call_len_seq (by rfl) T.z_len (by decide +kernel) (pa_cons (pv 2) pa_nil)) pe_int (nomark _)))))))) (pw_or (PW.pt (pw_and (pt_cmpR op_eq (pe_callB call_len_seq (by rfl) T.z_len (by decide +kernel) (pa_cons (pv 2) pa_nil)) pe_int (nomark _)) (pw_and1 (pt_cmpR op_lt (pv 5) pe_int (nomark _))))) (pw_or1 (pt_cmpR op_ne (pe_call (T.ok_gcd) hr (by rfl) T.g_gcd T.k_gcd T.b_gcd .nil pass0 (pa_cons (pv 4) (pa_cons (pv 5) pa_nil))) pe_int (nomark _)))))) (pss_one (ps_ret pe_non)) pss_nil)
    (pss_one (ps_ret (pe_tup (pa_cons (pe_ifExp (pt_cmpR op_eq (pv 1) (pv 0) (nomark _)) (pv 4) (pe_un un_neg (pv 4))) (pa_cons (pv 5) pa_nil)))))))))))), ?_⟩
    rcases h with ⟨t, rfl, hl, hch, q0, q⟩ | ⟨tn, ty, kt, q0⟩
    · have hsz : (S t).length ≤ sizeLine := by rw [S_len, sizeLine_eq]; omega
      refine ⟨_, rfl, _, _, _, _, true, rfl, .ty "str", .base (.str _), L2.kit_ty (by decide +kernel), _, rfl, iteF ?_⟩
      -- text
      refine ⟨fun σ' H' => H = H' ∧ σ' = [some (.str (S t)), some (.str (S (unsign t))), none, none, none, none, none], ?_, ?_⟩
      · refine ⟨_, rfl, _, rfl, _, rfl, hsz, rfl, _, rfl, ite2 (fun e => ?_) (fun e => ?_)⟩
        · have z : S (t.take 1) = S [45] := by
            have := of_decide_eq_true e
            rw [cut_head] at this
            exact V.str.inj this
          have z' := take1_45.mp (S_inj z)
          refine ⟨_, rfl, _, rfl, _, rfl, hsz, rfl, ?_⟩
          rw [cut_tail, show unsign t = t.drop 1 from if_pos z']
          rfl
        · have z : unsign t = t := if_neg fun y => e (decide_eq_true (by rw [cut_head, take1_45.mpr y]; rfl))
          refine ⟨_, rfl, rfl, ?_⟩
          rw [z]
          rfl
      rintro σ' H' ⟨rfl, rfl⟩
      have hul : (unsign t).length ≤ t.length := by
        unfold unsign
        split
        · rw [List.length_drop]; omega
        · exact Nat.le_refl _
      have uch : Ch (unsign t) := fun c hc => hch c (by
        unfold unsign at hc
        split at hc
        · exact List.mem_of_mem_drop hc
        · exact hc)
      refine ⟨_, rfl, ⟨_, rfl⟩, _, _, rfl, rfl, by decide, (by rw [S_len, sizeLine_eq]; omega), fun p hp => ?_⟩
      have esp : Txt.split (S (unsign t)) ("/" : Str) = (TL.spl [47] 0 [] (unsign t)).map S := split_S (a := unsign t) (b := [47]) (by decide) (by decide)
      rw [esp]
      have sm0 : Same H (upd H p (.lst (((TL.spl [47] 0 [] (unsign t)).map S).map V.str))) := same_new hp
      have hlp : (upd H p (.lst (((TL.spl [47] 0 [] (unsign t)).map S).map V.str))) p = some (.lst (((TL.spl [47] 0 [] (unsign t)).map S).map V.str)) := upd_same
      have hbad : ∀ u ∈ TL.spl [47] 0 [] (unsign t), okP u ≠ true → rdL t = none := fun u hu n => rdL_bad hu n
      have hparts : ∀ u ∈ TL.spl [47] 0 [] (unsign t), u.length ≤ t.length ∧ Ch u := fun u hu => by
        have z := spl_part_in [47] _ 0 [] u hu
        rw [List.length_nil, Nat.zero_add] at z
        refine ⟨Nat.le_trans z.1 hul, fun c hc => ?_⟩
        rcases z.2 c hc with y | y
        · cases y
        · exact uch c y
      have hrd : ∀ ps, TL.spl [47] 0 [] (unsign t) = ps → rdL t = (match ps with
        | [u] => if okP u = true ∧ ¬ (vl u = 0 ∧ t ≠ [48]) then some (sg t (vl u), 1) else none
        | [u, r] => if okP u = true ∧ okP r = true ∧ vl u ≠ 0 ∧ 2 ≤ vl r ∧ Nat.gcd (vl u) (vl r) = 1 then some (sg t (vl u), vl r) else none
        | _ => none) := fun ps e => by rw [← e]; rfl
      obtain ⟨p0, pr, ene⟩ := spl_ne [47] (unsign t) 0 []
      revert sm0 hlp hbad hparts hrd ene
      generalize upd H p (.lst (((TL.spl [47] 0 [] (unsign t)).map S).map V.str)) = H1
      generalize TL.spl [47] 0 [] (unsign t) = ps
      intro sm0 hlp hbad hparts hrd ene
      have hrd := hrd ps rfl
      -- more than two parts
      refine ⟨_, rfl, p, _, rfl, .inl (SqL.of hlp), _, _, rfl, rfl, _, rfl, ite2 (fun e => ?_) (fun e => ?_)⟩
      · refine q0 ?_ H1 sm0
        rw [hrd]
        have l3 : 2 < ps.length := by
          have := of_decide_eq_true e
          rw [List.length_map, List.length_map] at this
          omega
        exact rd_three l3
      have l2 : ps.length ≤ 2 := by
        have := Int.not_lt.mp fun z => e (decide_eq_true z)
        rw [List.length_map, List.length_map] at this
        omega
      -- the parts
      refine ⟨_, rfl, p, rfl, ⟨_, SqL.of hlp⟩, for_list (K := K) (a := p) (xs := (ps.map S).map V.str) (fun i σ H' => Same H1 H' ∧ (∀ j u, j < i → ps[j]? = some u → okP u = true) ∧
        ∃ y z : Option V, σ = [some (.str (S t)), some (.str (S (unsign t))), some (.ref p), y, none, none, z])
        ⟨Same.refl _, fun j u z => absurd z (Nat.not_lt_zero _), none, none, rfl⟩ (fun i σ H' _ z => z.1.seq (SqL.of hlp)) ?_ ?_⟩
      · rintro i x σ H2 hx ⟨sm1, hgood, y, z, rfl⟩
        obtain ⟨u, hu, rfl⟩ : ∃ u, ps[i]? = some u ∧ x = .str (S u) := by
          rw [List.getElem?_map, List.getElem?_map] at hx
          cases e : ps[i]? with
          | none => rw [e] at hx; cases hx
          | some u => rw [e] at hx; exact ⟨u, rfl, (Option.some.inj hx).symm⟩
        have hmem := List.mem_of_getElem? hu
        obtain ⟨lu, cu⟩ := hparts u hmem
        have usz : (S u).length ≤ sizeLine := by rw [S_len, sizeLine_eq]; omega
        have bad : okP u ≠ true → ∀ H', Same H2 H' → Q .non H' := fun n H' sm => q0 (hbad u hmem n) H' ((sm0.trans sm1).trans sm)
        refine ⟨_, rfl, _, rfl, usz, _, _, rfl, rfl, _, rfl, ite2 (fun e => ?_) (fun e => ?_)⟩
        · refine ⟨_, _, rfl, rfl, _, rfl, ite2 (fun e1 => ?_) (fun e1 => ?_)⟩
          · refine iteT (bad (fun z => ?_) H2 (Same.refl _))
            have := (okP_iff.mp z).2.1
            rw [Bool.not_eq_true', decide_eq_false_iff_not, S_len] at e1
            omega
          · have l1 : 1 ≤ u.length := by
              have := of_decide_eq_true e
              rw [S_len] at this
              omega
            have l4 : u.length ≤ 400 := by
              rw [Bool.not_eq_true', decide_eq_false_iff_not, S_len] at e1
              omega
            refine ⟨_, rfl, _, rfl, fun d hd => ?_⟩
            refine lc_it walk_str (fun j H' => Same H2 H' ∧ H' d = some (.lst ((badS (u.take j)).map fun c => V.str (S [c])))) ⟨same_new hd, upd_same⟩ (fun _ _ _ _ => trivial) ?_ ?_
            · rintro j x H3 H4 hj ⟨sm2, hD⟩ ⟨rfl, c, hc, rfl⟩
              rw [S_at] at hc
              rw [S_size] at hj
              have step := badS_step hc
              have hput : isDig c ≠ true → ∃ acc, H4 d = some (HO.lst acc) ∧ acc.length < sizeLine ∧ Same H2 (upd H4 d (HO.lst (acc ++ [V.str (S [c])]))) ∧
                  (upd H4 d (HO.lst (acc ++ [V.str (S [c])]))) d = some (HO.lst ((badS (u.take (j + 1))).map fun c => V.str (S [c]))) := fun n => by
                refine ⟨_, hD, ?_, same_put sm2 hd, ?_⟩
                · rw [List.length_map]
                  have := badS_len (u.take j)
                  rw [List.length_take] at this
                  exact small1000 (by omega)
                · rw [upd_same, step, if_neg n, List.map_append]
                  rfl
              refine ⟨rfl, ⟨_, rfl, _, _, rfl, rfl, _, rfl, ite2 (fun e2 => ?_) (fun e2 => ?_)⟩⟩
              · refine ⟨_, _, rfl, rfl, _, rfl, ite2 (fun e3 => ?_) (fun e3 => ?_)⟩
                · refine ⟨_, rfl, hput fun z => ?_⟩
                  rw [le57] at e3
                  unfold isDig at z
                  rw [Bool.and_eq_true] at z
                  rw [z.2] at e3
                  exact absurd e3 (by decide)
                · refine ⟨sm2, ?_⟩
                  rw [le57] at e3
                  rw [ge48] at e2
                  have z : isDig c = true := by
                    unfold isDig
                    rw [e2, Bool.true_and]
                    cases y : decide (c ≤ 57) with
                    | true => rfl
                    | false => rw [y] at e3; exact absurd rfl e3
                  rw [step, if_pos z, List.append_nil]
                  exact hD
              · refine ⟨_, rfl, ite2 (fun e3 => ?_) (fun e3 => absurd rfl e3)⟩
                refine ⟨_, rfl, hput fun z => ?_⟩
                rw [ge48] at e2
                unfold isDig at z
                rw [Bool.and_eq_true] at z
                exact e2 z.1
            · rintro H3 ⟨sm2, hD⟩
              rw [S_size, List.take_length] at hD
              refine ⟨Nat.zero_le _, fun d2 hd2 => ?_⟩
              have hD2 : (upd H3 d2 (.lst [])) d = some (.lst ((badS u).map fun c => V.str (S [c]))) := by
                rw [upd_ne (ne_of_none hD hd2)]
                exact hD
              have sm3 : Same H2 (upd H3 d2 (.lst [])) := sm2.trans (same_new hd2)
              refine ⟨_, _, .lst (.inl (.inl hD2)) (dpAll_str _), .lst (xs := []) (.inl (.inl upd_same)) .nil, shaped_str (badS_Ch cu), by decide, _, rfl, ite2 (fun e2 => ?_) (fun e2 => ?_)⟩
              · rw [eqv_str_nil] at e2
                refine bad (fun z => ?_) _ sm3
                rw [badS_nil.mpr (okP_iff.mp z).2.2.1] at e2
                exact absurd e2 (by decide)
              · rw [eqv_str_nil] at e2
                have dg : u.all isDig = true := badS_nil.mp (by
                  cases z : (badS u).isEmpty with
                  | true => rfl
                  | false => rw [z] at e2; exact absurd rfl e2)
                obtain ⟨c0, r0, eu⟩ : ∃ c r, u = c :: r := by
                  cases z : u with
                  | nil => rw [z] at l1; exact absurd l1 (by decide)
                  | cons c r => exact ⟨c, r, rfl⟩
                have h0 : atI (S u).cps.toList 0 = some c0 := by
                  show atI u 0 = some c0
                  rw [eu]
                  exact atI_nat (j := 0) rfl
                have good : (u.head? = some 48 → u.length ≤ 1) → Same H1 (upd H3 d2 (.lst [])) ∧ (∀ j v, j < i + 1 → ps[j]? = some v → okP v = true) := fun h => by
                  refine ⟨sm1.trans sm3, fun j v hj hv => ?_⟩
                  by_cases ej : j < i
                  · exact hgood j v ej hv
                  · have ej' : j = i := by omega
                    rw [ej', hu] at hv
                    have ev := Option.some.inj hv
                    rw [← ev]
                    exact okP_iff.mpr ⟨l1, l4, dg, h⟩
                refine ⟨_, rfl, _, _, _, rfl, rfl, usz, h0, rfl, _, rfl, ite2 (fun e3 => ?_) (fun e3 => ?_)⟩
                · have ec : c0 = 48 := by
                    have z : S [c0] = S [48] := V.str.inj (of_decide_eq_true e3)
                    have := S_inj z
                    injection this
                  refine ⟨_, rfl, _, rfl, usz, _, _, rfl, rfl, _, rfl, ite2 (fun e4 => ?_) (fun e4 => ?_)⟩
                  · refine bad (fun z => ?_) _ sm3
                    have := (okP_iff.mp z).2.2.2 (by rw [eu, ec]; rfl)
                    have e4' := of_decide_eq_true e4
                    rw [S_len] at e4'
                    omega
                  · have hgd := good fun _ => by
                      have e4' := Int.not_lt.mp fun z => e4 (decide_eq_true z)
                      rw [S_len] at e4'
                      omega
                    exact ⟨hgd.1, hgd.2, _, _, rfl⟩
                · have hgd := good fun z => by
                    rw [eu] at z
                    have ec : c0 = 48 := Option.some.inj z
                    rw [ec] at e3
                    exact absurd (decide_eq_true rfl) e3
                  exact iteF ⟨hgd.1, hgd.2, _, _, rfl⟩
        · refine ⟨_, rfl, ite2 (fun e1 => iteT ?_) (fun e1 => absurd rfl e1)⟩
          refine bad (fun z => e (decide_eq_true ?_)) H2 (Same.refl _)
          have := (okP_iff.mp z).1
          rw [S_len]
          omega
      · rintro σ H2 ⟨sm1, hgood, y, z, rfl⟩
        have hlp2 : SqL K H2 p ((ps.map S).map V.str) := sm1.seq (SqL.of hlp)
        have smH := sm0.trans sm1
        have it : ∀ u, okP u = true → intText? (S u) = some ((vl u : Nat) : Int) ∧ (S u).length ≤ 640 := fun u hu => by
          obtain ⟨h1, h2, h3, h4⟩ := okP_iff.mp hu
          refine ⟨intText_digits (x := S u) (dig_all h3) (fun z => ?_) (by rw [S_len]; omega), by rw [S_len]; omega⟩
          have z' : u = [] := z
          rw [z'] at h1
          exact absurd h1 (by decide)
        have neq : (!decide (V.str (S t) = V.str ("0" : Str))) = decide (t ≠ [48]) := by
          have e0 : ("0" : Str) = S [48] := rfl
          rw [e0]
          by_cases h : t = [48]
          · rw [h, decide_eq_true rfl, decide_eq_false (fun z => z rfl)]
            rfl
          · rw [decide_eq_false (fun z => h (S_inj (V.str.inj z))), decide_eq_true h]
            rfl
        have fin : ∀ (n : Nat) (b : Int), rdL t = some (sg t n, b) → ∀ p3, H2 p3 = none → ∀ v : Int, v = sg t n → Q (.ref p3) (upd H2 p3 (.tup [.int v, .int b])) := fun n b h p3 hp3 v hv => by
          rw [hv]
          exact q _ _ h _ p3 (smH.trans (same_new hp3)) (smH.free hp3) upd_same
        have sgp : unsign t = t → ∀ n : Nat, (n : Int) = sg t n := fun h n => by
          unfold sg
          refine (if_neg fun z => ?_).symm
          have : unsign t = t.drop 1 := if_pos z
          rw [h] at this
          have e := congrArg List.length this
          rw [List.length_drop] at e
          cases t with
          | nil => cases z
          | cons c l => rw [List.length_cons] at e; omega
        have sgn : unsign t ≠ t → ∀ n : Nat, -(n : Int) = sg t n := fun h n => by
          unfold sg
          refine (if_pos ?_).symm
          by_cases z : t.head? = some 45
          · exact z
          · exact absurd (if_neg z) h
        have two := two_of ene l2
        rcases two with ⟨u, rfl⟩ | ⟨u, r, rfl⟩
        · have ou := hgood 0 u (Nat.zero_lt_succ _) rfl
          obtain ⟨i1, i2⟩ := it u ou
          have a0 : atI (([u].map S).map V.str) 0 = some (.str (S u)) := atI_nat (j := 0) rfl
          have n12 : ¬ decide (V.int ((([u].map S).map V.str).length : Int) = V.int 2) = true := fun z => absurd (V.int.inj (of_decide_eq_true z)) (by show ¬ ((1 : Int) = 2); decide)
          refine ⟨_, rfl, p, _, 0, _, rfl, rfl, hlp2, a0, _, _, rfl, i1, i2, _, rfl, p, _, rfl, .inl hlp2, rfl, _, rfl, ite2 (fun z => absurd z n12) (fun _ => ⟨_, _, rfl, ?_⟩)⟩
          have hu0 : ∀ b : Int, (¬ (vl u = 0 ∧ t ≠ [48]) → rdL t = some (sg t (vl u), 1)) := fun _ h => by rw [hrd]; exact if_pos ⟨ou, h⟩
          have g1 : ¬ (!decide (V.int ((gc (vl u : Int) 1 : Nat) : Int) = V.int 1)) = true := fun z => vne z (by
            have : gc (vl u : Int) 1 = 1 := Nat.gcd_one_right _
            rw [this]
            rfl)
          have tail : ¬ (vl u = 0 ∧ t ≠ [48]) → ∀ p3, H2 p3 = none → ∀ v : Int, v = sg t (vl u) → Q (.ref p3) (upd H2 p3 (.tup [.int v, .int 1])) := fun h => fin _ _ (hu0 0 h)
          refine ⟨_, rfl, rfl, _, rfl, ite2 (fun eA => ?_) (fun eA => ?_)⟩
          · have v0 : vl u = 0 := by
              have := V.int.inj (of_decide_eq_true eA)
              omega
            refine ⟨_, rfl, rfl, _, rfl, ite2 (fun eB => ?_) (fun eB => ?_)⟩
            · refine iteT (iteT (q0 ?_ H2 smH))
              rw [neq] at eB
              rw [hrd]
              exact if_neg fun z => z.2 ⟨v0, of_decide_eq_true eB⟩
            · have nt : ¬ (vl u = 0 ∧ t ≠ [48]) := fun z => eB (by rw [neq]; exact decide_eq_true z.2)
              refine ⟨_, rfl, p, _, rfl, .inl hlp2, rfl, _, rfl, ite2 (fun z => absurd z n12) (fun _ => ?_)⟩
              refine ⟨_, rfl, p, _, rfl, .inl hlp2, rfl, _, rfl, ite2 (fun z => absurd z n12) (fun _ => iteF ?_)⟩
              refine ⟨_, rfl, _, rfl, _, _, rfl, rfl, _, rfl, ite2 (fun z => absurd z g1) (fun _ => ?_)⟩
              refine ⟨_, rfl, _, rfl, rfl, _, rfl, ite2 (fun e => ?_) (fun e => ?_)⟩
              · exact ⟨_, rfl, _, rfl, (by show 2 ≤ sizeLine; decide), fun p3 hp3 => tail nt p3 hp3 _ (sgp (S_inj (V.str.inj (of_decide_eq_true e))) _)⟩
              · exact ⟨_, rfl, _, rfl, _, rfl, (by show 2 ≤ sizeLine; decide), fun p3 hp3 => tail nt p3 hp3 _ (sgn (fun z => e (decide_eq_true (by rw [z]))) _)⟩
          · have nt : ¬ (vl u = 0 ∧ t ≠ [48]) := fun z => eA (decide_eq_true (by rw [z.1]; rfl))
            refine iteF ?_
            refine ⟨_, rfl, p, _, rfl, .inl hlp2, rfl, _, rfl, ite2 (fun z => absurd z n12) (fun _ => iteF ?_)⟩
            refine ⟨_, rfl, _, rfl, _, _, rfl, rfl, _, rfl, ite2 (fun z => absurd z g1) (fun _ => ?_)⟩
            refine ⟨_, rfl, _, rfl, rfl, _, rfl, ite2 (fun e => ?_) (fun e => ?_)⟩
            · exact ⟨_, rfl, _, rfl, (by show 2 ≤ sizeLine; decide), fun p3 hp3 => tail nt p3 hp3 _ (sgp (S_inj (V.str.inj (of_decide_eq_true e))) _)⟩
            · exact ⟨_, rfl, _, rfl, _, rfl, (by show 2 ≤ sizeLine; decide), fun p3 hp3 => tail nt p3 hp3 _ (sgn (fun z => e (decide_eq_true (by rw [z]))) _)⟩
        · have ou := hgood 0 u (Nat.zero_lt_succ _) rfl
          have orr := hgood 1 r (by show 1 < 2; decide) rfl
          obtain ⟨i1, i2⟩ := it u ou
          obtain ⟨j1, j2⟩ := it r orr
          have a0 : atI (([u, r].map S).map V.str) 0 = some (.str (S u)) := atI_nat (j := 0) rfl
          have a1 : atI (([u, r].map S).map V.str) 1 = some (.str (S r)) := atI_nat (j := 1) rfl
          have y12 : decide (V.int ((([u, r].map S).map V.str).length : Int) = V.int 2) = true := decide_eq_true rfl
          have hgo : rdL t = if okP u = true ∧ okP r = true ∧ vl u ≠ 0 ∧ 2 ≤ vl r ∧ Nat.gcd (vl u) (vl r) = 1 then some (sg t (vl u), ((vl r : Nat) : Int)) else none := hrd
          refine ⟨_, rfl, p, _, 0, _, rfl, rfl, hlp2, a0, _, _, rfl, i1, i2, _, rfl, p, _, rfl, .inl hlp2, rfl, _, rfl, ite2 (fun _ => ?_) (fun z => absurd y12 z)⟩
          refine ⟨_, rfl, p, _, 1, _, rfl, rfl, hlp2, a1, _, _, rfl, j1, j2, _, _, rfl, ?_⟩
          refine ⟨_, rfl, rfl, _, rfl, ite2 (fun eA => ?_) (fun eA => ?_)⟩
          · have v0 : vl u = 0 := by
              have := V.int.inj (of_decide_eq_true eA)
              omega
            have no : rdL t = none := by rw [hgo]; exact if_neg fun z => z.2.2.1 v0
            refine ⟨_, rfl, rfl, _, rfl, ite2 (fun eB => iteT (iteT (q0 no H2 smH))) (fun eB => ?_)⟩
            exact ⟨_, rfl, p, _, rfl, .inl hlp2, rfl, _, rfl, ite2 (fun _ => iteT (q0 no H2 smH)) (fun z => absurd y12 z)⟩
          · have v0 : vl u ≠ 0 := fun z => eA (decide_eq_true (by rw [z]; rfl))
            refine iteF ?_
            refine ⟨_, rfl, p, _, rfl, .inl hlp2, rfl, _, rfl, ite2 (fun _ => ?_) (fun z => absurd y12 z)⟩
            refine ⟨_, rfl, _, _, rfl, rfl, _, rfl, ite2 (fun eE => ?_) (fun eE => ?_)⟩
            · have no : rdL t = none := by
                rw [hgo]
                refine if_neg fun z => ?_
                have := of_decide_eq_true eE
                omega
              exact iteT (q0 no H2 smH)
            · have r2 : 2 ≤ vl r := by
                have := Int.not_lt.mp fun z => eE (decide_eq_true z)
                omega
              refine ⟨_, rfl, _, rfl, _, _, rfl, rfl, _, rfl, ite2 (fun eF => ?_) (fun eF => ?_)⟩
              · refine q0 ?_ H2 smH
                rw [hgo]
                refine if_neg fun z => vne eF ?_
                have : gc (vl u : Int) (vl r : Int) = 1 := z.2.2.2.2
                rw [this]
                rfl
              · have gg : Nat.gcd (vl u) (vl r) = 1 := by
                  have := V.int.inj (veq eF)
                  have : gc (vl u : Int) (vl r : Int) = 1 := by omega
                  exact this
                have hok : rdL t = some (sg t (vl u), ((vl r : Nat) : Int)) := by rw [hgo]; exact if_pos ⟨ou, orr, v0, r2, gg⟩
                refine ⟨_, rfl, _, rfl, rfl, _, rfl, ite2 (fun e => ?_) (fun e => ?_)⟩
                · exact ⟨_, rfl, _, rfl, (by show 2 ≤ sizeLine; decide), fun p3 hp3 => fin _ _ hok p3 hp3 _ (sgp (S_inj (V.str.inj (of_decide_eq_true e))) _)⟩
                · exact ⟨_, rfl, _, rfl, _, rfl, (by show 2 ≤ sizeLine; decide), fun p3 hp3 => fin _ _ hok p3 hp3 _ (sgn (fun z => e (decide_eq_true (by rw [z]))) _)⟩
    · refine ⟨_, rfl, _, _, _, _, false, rfl, .ty "str", ty, kt, _, rfl, iteT ?_⟩
      exact q0
end
end Ev

set_option exponentiation.threshold 3000
namespace Ev
open PySem PySem.Spec PyProof.Rows L2 SX
open TL (numL numL_lt numL_step numL_digits numL_ne numL_free numL_val numL_inj numL_len)
section
variable {P : Program} {w : World} {K : PySem.W.Frag} {mg : Str → Option Value} {base : Heap} {A : Nat → Addr} {D : Nat → FuncData}
theorem Txt.kb_read_fraction (T : Txt K mg A D) : KB0 K (D 1) ["value"] ["value"] [0] := by
  obtain ⟨c1, c2, c3, c4, c5, c6, c7, c8, c9, e, lk, hcd⟩ := T.F_read_fraction.ex
  rw [e]
  refine ⟨fun s ws _ hl => ?_⟩
  match ws, hl with
  | [x], _ => exact .of_eq rfl
theorem Txt.kb_fraction_text (T : Txt K mg A D) : KB0 K (D 0) ["fraction"] ["fraction"] [0] := by
  obtain ⟨c1, c2, c3, c4, c5, c6, c7, c8, c9, e, lk, hcd⟩ := T.F_fraction_text.ex
  rw [e]
  refine ⟨fun s ws _ hl => ?_⟩
  match ws, hl with
  | [x], _ => exact .of_eq rfl
theorem Txt.eB (T : Txt K mg A D) : PySem.W.exmOne K (.ref (A 25)) (.ref (A 25)) = some true := PySem.W.exm_ref T.bB T.cB.hd T.tB T.sB
/-- what a value is as a text of a fraction -/
def Vo (K : PySem.W.Frag) (H : Hp) (v : V) (o : Option (Int × Int)) : Prop :=
  (∃ t : List Nat, v = .str (S t) ∧ t.length ≤ 16000000 ∧ Ch t ∧ rdF t = o) ∨ ∃ tn : String, TyX K H v (.type tn) ∧ PySem.W.kitOne K (.type tn) (.type "str") = some false ∧ o = none
def toldR : Option (Int × Int) → PyData
  | none => .list [.str "bad", .bool true]
  | some (a, b) => .list [.str "told", .tuple [.int a, .int b]]
def sp_told (K : PySem.W.Frag) : Sp := fun vs H Q _ => ∃ (v : V) (n : Bool) (o : Option (Int × Int)), vs = [v, .bl n] ∧ Vo K H v o ∧
  ∀ (H' : Hp) (p : Addr), Same H H' → H p = none → Dp K H' (.ref p) (toldR o) → Q (.ref p) H'
theorem Txt.ok_told (T : Txt K mg A D) : FnOk P w K mg base CX0 3 (A 15) (D 15) ["value", "is_named"] (sp_told K) := by
  refine T.F_told.ok sc_told (fun vs H Q E h => ?_) (fun cdv Ar outer s H vs Q E hr h => ?_)
  · obtain ⟨v, n, o, rfl, _⟩ := h
    rfl
  · obtain ⟨v, n, o, rfl, hv, q⟩ := h
    have low : FnOk P w K mg base (L2.CX P w) 2 (A 1) (D 1) ["value"] (sp_read_fraction K (A 25)) := T.ok_read_fraction
    refine ⟨_, (pss_one (ps_try_as (i := 2) rfl rfl sc_told.nd rfl rfl ⟨rfl, by decide, .inl T.g_BadText⟩ takes0
      (fun W pn xe tk _ => pss_one (ps_ret (pe_lst (pa_cons pe_str (pa_cons (pe_ifExp (pt_val (pv 1))
        (pe_callK0S low hr (by rfl) T.g_read_fraction T.k_read_fraction T.kb_read_fraction (fun σ => passAt tk σ) (pk_cons (pv 0) pk_nil))
        (pe_callS low hr (by rfl) T.g_read_fraction T.k_read_fraction T.b_read_fraction (fun σ => passAt tk σ) (pa_cons (pv 0) pa_nil))) pa_nil)))))
      (fun a oe cls d pn hz hf => pss_one (ps_ret (pe_lst (pa_cons pe_str (pa_cons (pe_callB (call_isE2 T.cB hz hf) (by rfl) T.z_isinstance (by decide +kernel)
        (pa_cons (pv 2) (pa_cons (pe_glob (v := .ref (A 26)) (by rfl) T.g_ThrowError rfl) pa_nil))) pa_nil))))))), ?_⟩
    have suite : ∀ (H1 : Hp), Same H H1 → o = none → ∀ (p : Addr), H1 p = none → Q (.ref p) (upd H1 p (.lst [.str "bad", .bl true])) := by
      intro H1 sm ho p hp
      refine q _ p (sm.trans (same_new hp)) (sm.free hp) ?_
      rw [ho]
      exact .lst (.inl (.inl upd_same)) (.cons (.str _) (.cons (.bl _) .nil))
    have good : ∀ a b, o = some (a, b) → ∀ (H1 : Hp) (t : Addr), Same H H1 → H1 t = some (.tup [.int a, .int b]) → ∀ p : Addr, H1 p = none → Q (.ref p) (upd H1 p (.lst [.str "told", .ref t])) := by
      intro a b ho H1 t sm ht p hp
      refine q _ p (sm.trans (same_new hp)) (sm.free hp) ?_
      rw [ho]
      refine .lst (.inl (.inl upd_same)) (.cons (.str _) (.cons (.tup (xs := [.int a, .int b]) (SqT.of ?_) (.cons (.int _) (.cons (.int _) .nil))) .nil))
      rw [upd_ne (ne_of_none ht hp)]
      exact ht
    have main : ∀ (E' : XK) (Q' : VK), (o = none → ∀ H1, Same H H1 → E' (.ref (A 25)) none H1) →
        (∀ a b, o = some (a, b) → ∀ (H1 : Hp) (t : Addr), Same H H1 → H1 t = some (.tup [.int a, .int b]) → Q' (.ref t) H1) → sp_read_fraction K (A 25) [v] H Q' E' := by
      intro E' Q' h0 h1
      rcases hv with ⟨t, rfl, hl, _, ho⟩ | ⟨tn, ty, kt, ho⟩
      · exact ⟨_, rfl, .inl ⟨t, rfl, hl, fun z H1 sm => h0 (by rw [← ho, z]) H1 sm, fun a b z H1 p sm hp ht => h1 a b (by rw [← ho, z]) H1 p sm ht⟩⟩
      · exact ⟨_, rfl, .inr ⟨tn, ty, kt, h0 ho H (Same.refl H)⟩⟩
    refine ⟨_, rfl, _, rfl, ite2 (fun _ => ?_) (fun _ => ?_)⟩
    · refine ⟨_, rfl, rfl, main _ _ (fun ho H1 sm => ?_) (fun a b ho H1 t sm ht => ?_)⟩
      · refine ⟨true, T.eB, (fun _ x hx => ?_), (fun z => nomatch z)⟩
        refine ⟨_, rfl, rfl, rfl, _, .ref (A 26), true, rfl, (fun u r => r), T.oB, (by show 2 ≤ sizeLine; decide), fun p hp => ?_⟩
        exact suite _ sm ho p hp
      · exact ⟨(by show 2 ≤ sizeLine; decide), fun p hp => good a b ho H1 t sm ht p hp⟩
    · refine ⟨_, rfl, ?_⟩
      unfold tNil
      refine main _ _ (fun ho H1 sm => ?_) (fun a b ho H1 t sm ht => ?_)
      · refine ⟨true, T.eB, (fun _ x hx => ?_), (fun z => nomatch z)⟩
        refine ⟨_, rfl, rfl, rfl, _, .ref (A 26), true, rfl, (fun u r => r), T.oB, (by show 2 ≤ sizeLine; decide), fun p hp => ?_⟩
        exact suite _ sm ho p hp
      · exact ⟨(by show 2 ≤ sizeLine; decide), fun p hp => good a b ho H1 t sm ht p hp⟩
end
end Ev

set_option exponentiation.threshold 3000
namespace Ev
open PySem PySem.Spec PyProof.Rows L2 SX
open TL (numL numL_lt numL_step numL_digits numL_ne numL_free numL_val numL_inj numL_len)
theorem Ch.app {u v : List Nat} (a : Ch u) (b : Ch v) : Ch (u ++ v) := fun c hc => (List.mem_append.mp hc).elim (a c) (b c)
theorem cutS_ex {t : List Nat} (h : Ch t) (lo hi : Option Int) : ∃ u, cutS (S t) lo hi = S u ∧ u.length ≤ t.length ∧ Ch u := by
  refine ⟨_, cutS_S t lo hi, ?_, fun c hc => h c (List.mem_of_mem_drop (List.mem_of_mem_take hc))⟩
  rw [List.length_take, List.length_drop]
  omega
theorem mul2_ex {t : List Nat} (h : Ch t) : ∃ u, Txt.mul (S t) 2 = S u ∧ u.length ≤ t.length + t.length ∧ Ch u := by
  unfold Txt.mul
  rw [if_neg (by decide)]
  split
  · exact ⟨t, rfl, by omega, h⟩
  · refine ⟨t ++ t, ?_, Nat.le_of_eq List.length_append, h.app h⟩
    show (⟨(#[] ++ t.toArray) ++ t.toArray⟩ : Str) = S (t ++ t)
    refine TL.ext_tl ?_
    show ((#[] ++ t.toArray) ++ t.toArray).toList = (t ++ t).toArray.toList
    simp
section
variable {P : Program} {w : World} {K : PySem.W.Frag} {mg : Str → Option Value} {base : Heap} {A : Nat → Addr} {D : Nat → FuncData}
def sp_bent : Sp := fun vs H Q _ => ∃ (L F : Addr) (t : List Nat), vs = [.ref L, .str (S t)] ∧ Lm H L F ∧ Ch t ∧ t.length ≤ 10000 ∧
  ∀ (H' : Hp) (u : List Nat), Kp L F H H' → Lm H' L F → Ch u → u.length ≤ 40000 → Q (.str (S u)) H'
theorem Txt.ok_bent (T : Txt K mg A D) : FnOk P w K mg base CX0 3 (A 16) (D 16) ["loom", "text"] sp_bent := by
  refine T.F_bent.ok sc_bent (fun vs H Q E h => ?_) (fun cdv Ar outer s H vs Q E hr h => ?_)
  · obtain ⟨L, F, t, rfl, _⟩ := h
    rfl
  · obtain ⟨L, F, t, rfl, hM, hch, hl, q⟩ := h
    refine ⟨_, (pss_cons (ps_par (i := 2) (j := 3) rfl sc_bent.nd rfl rfl (by decide) rfl rfl (pa_cons (pe_call (T.ok_draw) (hr.mono (by decide)) (by rfl) T.g_draw T.k_draw T.b_draw .nil pass0 (pa_cons (pv 0) (pa_cons (pe_op op_add (pe_callB call_len_str (by rfl) T.z_len (by decide +kernel) (pa_cons (pv 1) pa_nil)) pe_int) pa_nil))) (pa_cons (pe_call (T.ok_draw) (hr.mono (by decide)) (by rfl) T.g_draw T.k_draw T.b_draw .nil pass0 (pa_cons (pv 0) (pa_cons pe_int pa_nil))) pa_nil)) (by rfl))
    (pss_cons (ps_set (i := 4) sc_bent.nd rfl (Or.inl rfl) (pe_call (T.ok_pick) hr (by rfl) T.g_pick T.k_pick T.b_pick .nil pass0 (pa_cons (pv 0) (pa_cons (pe_lst (pa_cons pe_str (pa_cons pe_str (pa_cons pe_str (pa_cons pe_str (pa_cons pe_str (pa_cons pe_str (pa_cons pe_str (pa_cons pe_str (pa_cons pe_str (pa_cons pe_str (pa_cons pe_str pa_nil)))))))))))) pa_nil))))
    (pss_cons (ps_if (pt_cmpR op_eq (pv 3) pe_int (nomark _)) (pss_one (ps_ret (pe_op op_add_str (pe_slice sl_str (pv 1) po_none (po_some (pv 2))) (pe_slice sl_str (pv 1) (po_some (pe_op op_add (pv 2) pe_int)) po_none)))) pss_nil)
    (pss_cons (ps_if (pt_cmpR op_eq (pv 3) pe_int (nomark _)) (pss_one (ps_ret (pe_op op_add_str (pe_op op_add_str (pe_slice sl_str (pv 1) po_none (po_some (pv 2))) (pe_op op_mulS (pe_slice sl_str (pv 1) (po_some (pv 2)) (po_some (pe_op op_add (pv 2) pe_int))) pe_int)) (pe_slice sl_str (pv 1) (po_some (pe_op op_add (pv 2) pe_int)) po_none)))) pss_nil)
    (pss_cons (ps_if (pt_cmpR op_eq (pv 3) pe_int (nomark _)) (pss_one (ps_ret (pe_op op_add_str (pe_op op_add_str (pe_slice sl_str (pv 1) po_none (po_some (pv 2))) (pv 4)) (pe_slice sl_str (pv 1) (po_some (pv 2)) po_none)))) pss_nil)
    (pss_one (ps_ret (pe_ifExp (pt_cmpR op_eq (pv 3) pe_int (nomark _)) (pe_op op_add_str (pe_op op_add_str (pe_slice sl_str (pv 1) po_none (po_some (pv 2))) (pv 4)) (pe_slice sl_str (pv 1) (po_some (pe_op op_add (pv 2) pe_int)) po_none)) (pe_call (T.ok_pick) hr (by rfl) T.g_pick T.k_pick T.b_pick .nil pass0 (pa_cons (pv 0) (pa_cons (pe_lst (pa_cons (pe_op op_add_str (pv 1) pe_str) (pa_cons (pe_op op_add_str pe_str (pv 1)) (pa_cons (pe_op op_add_str (pv 1) pe_str) pa_nil)))) pa_nil))))))))))), ?_⟩
    have hsz : (S t).length ≤ sizeLine := by rw [S_len, sizeLine_eq]; omega
    have fit : ∀ u v : List Nat, u.length ≤ 40000 → v.length ≤ 40000 → (S u).length + (S v).length ≤ sizeLine := fun u v h1 h2 => by
      rw [S_len, S_len, sizeLine_eq]; omega
    refine ⟨_, rfl, _, rfl, _, rfl, hsz, _, _, rfl, rfl, L, F, _, rfl, hM, (by rw [S_len]; omega), fun H1 k kp1 hM1 k0 kl => ?_⟩
    refine ⟨_, rfl, L, F, 5, rfl, hM1, by decide, fun H2 side kp2 hM2 s0 sl => ⟨_, _, rfl, ?_⟩⟩
    -- the sign
    refine ⟨_, rfl, (by show 11 ≤ sizeLine; decide), fun p hp => ?_⟩
    have n1 := hM2.ne hp
    refine ⟨L, F, p, _, rfl, hM2.new hp, SqL.of upd_same, n1.1, n1.2, (by show 0 < 11; decide), (by show 11 < 1073741824; decide), fun H3 i x kp3 hM3 hx => ?_⟩
    have kp4 := ((kp1.trans kp2).trans (Kp.new hp)).trans kp3
    obtain ⟨g, rfl, gl, gc⟩ : ∃ g : List Nat, x = .str (S g) ∧ g.length ≤ 1 ∧ Ch g := by
      have hx' := List.mem_of_getElem? hx
      simp only [List.mem_cons, List.not_mem_nil, or_false] at hx'
      have one : ∀ c : Nat, c < 1114112 → Ch [c] := fun c hc d hd => by rw [List.mem_singleton.mp hd]; exact hc
      rcases hx' with rfl | rfl | rfl | rfl | rfl | rfl | rfl | rfl | rfl | rfl | rfl
      · exact ⟨[48], rfl, Nat.le_refl _, one _ (by decide)⟩
      · exact ⟨[49], rfl, Nat.le_refl _, one _ (by decide)⟩
      · exact ⟨[55], rfl, Nat.le_refl _, one _ (by decide)⟩
      · exact ⟨[47], rfl, Nat.le_refl _, one _ (by decide)⟩
      · exact ⟨[45], rfl, Nat.le_refl _, one _ (by decide)⟩
      · exact ⟨[43], rfl, Nat.le_refl _, one _ (by decide)⟩
      · exact ⟨[32], rfl, Nat.le_refl _, one _ (by decide)⟩
      · exact ⟨[97], rfl, Nat.le_refl _, one _ (by decide)⟩
      · exact ⟨[46], rfl, Nat.le_refl _, one _ (by decide)⟩
      · exact ⟨[10], rfl, Nat.le_refl _, one _ (by decide)⟩
      · exact ⟨[95], rfl, Nat.le_refl _, one _ (by decide)⟩
    obtain ⟨u1, e1, l1, c1⟩ := cutS_ex hch none (some k)
    obtain ⟨u2, e2, l2, c2⟩ := cutS_ex hch (some (k + 1)) none
    obtain ⟨u3, e3, l3, c3⟩ := cutS_ex hch (some k) (some (k + 1))
    obtain ⟨u4, e4, l4, c4⟩ := cutS_ex hch (some k) none
    obtain ⟨u5, e5, l5, c5⟩ := mul2_ex c3
    refine ⟨_, rfl, rfl, _, rfl, ite2 (fun _ => ?_) (fun _ => ?_)⟩
    · refine ⟨_, rfl, _, rfl, _, rfl, _, rfl, hsz, _, rfl, _, rfl, _, _, rfl, rfl, _, rfl, _, rfl, hsz, _, _, rfl, rfl, ?_⟩
      rw [e1, e2]
      refine ⟨fit _ _ (by omega) (by omega), ?_⟩
      rw [S_cat]
      exact q H3 _ kp4 hM3 (c1.app c2) (by rw [List.length_append]; omega)
    refine ⟨_, rfl, rfl, _, rfl, ite2 (fun _ => ?_) (fun _ => ?_)⟩
    · refine ⟨_, rfl, _, rfl, _, rfl, _, rfl, hsz, _, rfl, _, rfl, _, rfl, _, rfl, _, _, rfl, rfl, _, rfl, _, rfl, hsz, _, _, rfl, rfl, ?_⟩
      rw [e3]
      refine ⟨mulOk_of 10000 2 (by rw [S_len]; omega) (by decide) (by decide) (by decide) (by decide), _, _, rfl, rfl, ?_⟩
      rw [e1, e5]
      refine ⟨fit _ _ (by omega) (by omega), ?_⟩
      rw [S_cat]
      refine ⟨_, rfl, _, rfl, _, _, rfl, rfl, _, rfl, _, rfl, hsz, _, _, rfl, rfl, ?_⟩
      rw [e2]
      refine ⟨fit _ _ (by rw [List.length_append]; omega) (by omega), ?_⟩
      rw [S_cat]
      exact q H3 _ kp4 hM3 ((c1.app c5).app c2) (by rw [List.length_append, List.length_append]; omega)
    refine ⟨_, rfl, rfl, _, rfl, ite2 (fun _ => ?_) (fun _ => ?_)⟩
    · refine ⟨_, rfl, _, rfl, _, rfl, _, rfl, hsz, _, rfl, _, _, rfl, rfl, ?_⟩
      rw [e1]
      refine ⟨fit _ _ (by omega) (by omega), ?_⟩
      rw [S_cat]
      refine ⟨_, rfl, _, rfl, _, rfl, _, rfl, hsz, _, _, rfl, rfl, ?_⟩
      rw [e4]
      refine ⟨fit _ _ (by rw [List.length_append]; omega) (by omega), ?_⟩
      rw [S_cat]
      exact q H3 _ kp4 hM3 ((c1.app gc).app c4) (by rw [List.length_append, List.length_append]; omega)
    refine ⟨_, rfl, rfl, _, rfl, ite2 (fun _ => ?_) (fun _ => ?_)⟩
    · refine ⟨_, rfl, _, rfl, _, rfl, _, rfl, hsz, _, rfl, _, _, rfl, rfl, ?_⟩
      rw [e1]
      refine ⟨fit _ _ (by omega) (by omega), ?_⟩
      rw [S_cat]
      refine ⟨_, rfl, _, rfl, _, _, rfl, rfl, _, rfl, _, rfl, hsz, _, _, rfl, rfl, ?_⟩
      rw [e2]
      refine ⟨fit _ _ (by rw [List.length_append]; omega) (by omega), ?_⟩
      rw [S_cat]
      exact q H3 _ kp4 hM3 ((c1.app gc).app c2) (by rw [List.length_append, List.length_append]; omega)
    · have two : Ch [47, 49] := fun d hd => by
        simp only [List.mem_cons, List.not_mem_nil, or_false] at hd
        omega
      have one : Ch [48] := fun d hd => by rw [List.mem_singleton.mp hd]; decide
      refine ⟨_, rfl, _, rfl, _, _, rfl, rfl, fit t [47, 49] (by omega) (by decide), _, rfl, _, _, rfl, rfl, fit [48] t (by decide) (by omega), _, rfl, _, _, rfl, rfl, fit t [48] (by omega) (by decide), (by show 3 ≤ sizeLine; decide), fun p2 hp2 => ?_⟩
      have n2 := hM3.ne hp2
      refine ⟨L, F, p2, _, rfl, hM3.new hp2, SqL.of upd_same, n2.1, n2.2, (by show 0 < 3; decide), (by show 3 < 1073741824; decide), fun H4 i2 x2 kp5 hM4 hx2 => ?_⟩
      have kp6 := (kp4.trans (Kp.new hp2)).trans kp5
      have x1 : S t ++ ("/1" : Str) = S (t ++ [47, 49]) := S_cat t [47, 49]
      have x3 : ("0" : Str) ++ S t = S ([48] ++ t) := S_cat [48] t
      have x4 : S t ++ ("0" : Str) = S (t ++ [48]) := S_cat t [48]
      have hx' := List.mem_of_getElem? hx2
      simp only [List.mem_cons, List.not_mem_nil, or_false] at hx'
      rcases hx' with rfl | rfl | rfl
      · rw [x1]
        exact q H4 _ kp6 hM4 (hch.app two) (by rw [List.length_append, List.length_cons, List.length_singleton]; omega)
      · rw [x3]
        exact q H4 _ kp6 hM4 (one.app hch) (by rw [List.length_append, List.length_singleton]; omega)
      · rw [x4]
        exact q H4 _ kp6 hM4 (hch.app one) (by rw [List.length_append, List.length_singleton]; omega)
end
end Ev

set_option exponentiation.threshold 3000
namespace Ev
open PySem PySem.Spec PyProof.Rows L2 SX
section
variable {P : Program} {w : World} {K : PySem.W.Frag} {mg : Str → Option Value} {base : Heap} {A : Nat → Addr} {D : Nat → FuncData}
/-! ### values of all kinds -/
/-- a value that is no text; an object is none of the loom's -/
inductive Ob (L F : Addr) (H : Hp) : V → Prop where
  | non : Ob L F H .non
  | bl (b : Bool) : Ob L F H (.bl b)
  | int (i : Int) : Ob L F H (.int i)
  | str (t : List Nat) (h : Ch t) (l : t.length ≤ 100) : Ob L F H (.str (S t))
  | tup {a : Addr} {xs : List V} (n1 : a ≠ L) (n2 : a ≠ F) (e : H a = some (.tup xs)) : Ob L F H (.ref a)
  | lst {a : Addr} {xs : List V} (n1 : a ≠ L) (n2 : a ≠ F) (e : H a = some (.lst xs)) : Ob L F H (.ref a)
  | dK {a : Addr} {kvs : List (Key × V)} (n1 : a ≠ L) (n2 : a ≠ F) (e : H a = some (.dK kvs)) : Ob L F H (.ref a)
theorem Ob.kp {L F : Addr} {H H' : Hp} (k : Kp L F H H') {x : V} (o : Ob L F H x) : Ob L F H' x := by
  cases o with
  | non => exact .non
  | bl b => exact .bl b
  | int i => exact .int i
  | str t h l => exact .str t h l
  | tup n1 n2 e => exact .tup n1 n2 (k _ _ n1 n2 e)
  | lst n1 n2 e => exact .lst n1 n2 (k _ _ n1 n2 e)
  | dK n1 n2 e => exact .dK n1 n2 (k _ _ n1 n2 e)
/-- what a value is as a text, whatever it is -/
theorem Ob.vo {L F : Addr} {H : Hp} {x : V} (o : Ob L F H x) : ∃ r, Vo K H x r := by
  cases o with
  | non => exact ⟨none, .inr ⟨_, .base .non, kit_ty (by decide +kernel), rfl⟩⟩
  | bl b => exact ⟨none, .inr ⟨_, .base (.bl b), kit_ty (by decide +kernel), rfl⟩⟩
  | int i => exact ⟨none, .inr ⟨_, .base (.int i), kit_ty (by decide +kernel), rfl⟩⟩
  | str t h l => exact ⟨_, .inl ⟨t, rfl, by omega, h, rfl⟩⟩
  | tup n1 n2 e => exact ⟨none, .inr ⟨_, .base (.tup e), kit_ty (by decide +kernel), rfl⟩⟩
  | lst n1 n2 e => exact ⟨none, .inr ⟨_, .base (.lst e), kit_ty (by decide +kernel), rfl⟩⟩
  | dK n1 n2 e => exact ⟨none, .inr ⟨_, .base (.dK e), kit_ty (by decide +kernel), rfl⟩⟩
def Obs (L F : Addr) (H : Hp) (xs : List V) : Prop := ∀ x ∈ xs, Ob L F H x
theorem Obs.kp {L F : Addr} {H H' : Hp} (k : Kp L F H H') {xs : List V} (o : Obs L F H xs) : Obs L F H' xs := fun x hx => (o x hx).kp k
theorem Obs.cons {L F : Addr} {H : Hp} {x : V} {xs : List V} (a : Ob L F H x) (b : Obs L F H xs) : Obs L F H (x :: xs) := fun y hy => by
  rcases List.mem_cons.mp hy with rfl | h
  · exact a
  · exact b y h
theorem Obs.nil {L F : Addr} {H : Hp} : Obs L F H [] := fun _ h => nomatch h
theorem Obs.app {L F : Addr} {H : Hp} {xs ys : List V} (a : Obs L F H xs) (b : Obs L F H ys) : Obs L F H (xs ++ ys) := fun y hy => (List.mem_append.mp hy).elim (a y) (b y)
theorem upd_two {H : Hp} {p : Addr} {a b : HO} : upd (upd H p a) p b = upd H p b := by
  funext c
  by_cases h : c = p
  · rw [h, upd_same, upd_same]
  · have h' : p ≠ c := fun z => h z.symm
    first
      | rw [upd_ne h, upd_ne h, upd_ne h]
      | rw [upd_ne h', upd_ne h', upd_ne h']
theorem ob_eq {L F p : Addr} {H0 H G : Hp} {xs : List V} {ob : HO} (hG : upd H p ob = G) (hM : Lm H L F) (o : Obs L F H xs) (k : Kp L F H0 H) (hp : H p = none)
    (kind : (∃ ys, ob = .tup ys) ∨ (∃ ys, ob = .lst ys) ∨ ∃ kvs, ob = .dK kvs) :
    Lm G L F ∧ Obs L F G (.ref p :: xs) ∧ Kp L F H0 G ∧ Kp L F H G ∧ G p = some ob ∧ p ≠ L ∧ p ≠ F := by
  subst hG
  have n := hM.ne hp
  have k1 : Kp L F H (upd H p ob) := Kp.new hp
  refine ⟨hM.new hp, Obs.cons ?_ (o.kp k1), k.trans k1, k1, upd_same, n.1, n.2⟩
  rcases kind with ⟨ys, rfl⟩ | ⟨ys, rfl⟩ | ⟨kvs, rfl⟩
  · exact .tup n.1 n.2 upd_same
  · exact .lst n.1 n.2 upd_same
  · exact .dK n.1 n.2 upd_same
def sp_odd : Sp := fun vs H Q _ => ∃ (L F : Addr), vs = [.ref L] ∧ Lm H L F ∧
  ∀ (H' : Hp) (x : V), Kp L F H H' → Lm H' L F → Ob L F H' x → Q x H'
theorem Txt.ok_odd (T : Txt K mg A D) : FnOk P w K mg base CX0 3 (A 11) (D 11) ["loom"] sp_odd := by
  refine T.F_odd.ok sc_odd (fun vs H Q E h => ?_) (fun cdv Ar outer s H vs Q E hr h => ?_)
  · obtain ⟨L, F, rfl, _⟩ := h
    rfl
  · obtain ⟨L, F, rfl, hM, q⟩ := h
    have hu := hu_of hr
    refine ⟨_, (pss_cons (ps_set (i := 1) sc_odd.nd rfl (Or.inl rfl) (pe_lst (pa_cons pe_non (pa_cons pe_bl (pa_cons pe_bl (pa_cons pe_int (pa_cons pe_int (pa_cons (pe_un un_neg pe_int) (pa_cons pe_int (pa_cons (pe_op op_pow pe_int pe_int) (pa_cons pe_str (pa_cons pe_str (pa_cons pe_str (pa_cons pe_str (pa_cons (pe_tup pa_nil) (pa_cons (pe_lst pa_nil) (pa_cons pe_dnewK (pa_cons (pe_tup (pa_cons pe_int pa_nil)) (pa_cons (pe_lst (pa_cons pe_int pa_nil)) (pa_cons (pe_tup (pa_cons pe_int (pa_cons pe_int pa_nil))) (pa_cons (pe_lst (pa_cons (pe_tup (pa_cons pe_int (pa_cons pe_int pa_nil))) pa_nil)) pa_nil)))))))))))))))))))))
    (pss_one (ps_ret (pe_call (T.ok_pick) hr (by rfl) T.g_pick T.k_pick T.b_pick .nil pass0 (pa_cons (pv 0) (pa_cons (pe_op op_cat (pv 1) (pe_lst (pa_cons (pe_disp (pps_cons pe_str pe_int pps_nil) (by rfl) (by rfl) (fun z => by cases z) (by decide)) (pa_cons (pe_tup (pa_cons pe_non (pa_cons pe_non pa_nil))) (pa_cons (pe_tup (pa_cons pe_str pa_nil)) (pa_cons (pe_tup (pa_cons (pe_tup pa_nil) pa_nil)) (pa_cons (pe_tup (pa_cons pe_str (pa_cons (pe_tup pa_nil) pa_nil))) (pa_cons pe_str (pa_cons (pe_tup (pa_cons pe_str (pa_cons pe_int pa_nil))) pa_nil))))))))) pa_nil)))))), ?_⟩
    have z : ∀ n : Nat, n ≤ 100 → n ≤ sizeLine := fun n h => Nat.le_trans h (by decide)
    refine ⟨_, rfl, _, _, rfl, rfl, ⟨by decide, by decide, by decide⟩, ?_⟩
    refine ⟨z 0 (by decide), fun p1 h1 => ?_⟩
    generalize g1 : upd H p1 (HO.tup []) = G1
    obtain ⟨M1, o1, k1, j1, e1, l1, f1⟩ := ob_eq g1 hM Obs.nil (Kp.refl H) h1 (.inl ⟨_, rfl⟩)
    clear g1
    refine ⟨z 0 (by decide), fun p2 h2 => ?_⟩
    generalize g2 : upd G1 p2 (HO.lst []) = G2
    obtain ⟨M2, o2, k2, j2, e2, l2, f2⟩ := ob_eq g2 M1 o1 k1 h2 (.inr (.inl ⟨_, rfl⟩))
    clear g2
    intro p3 h3
    generalize g3 : upd G2 p3 (HO.dK []) = G3
    obtain ⟨M3, o3, k3, j3, e3, l3, f3⟩ := ob_eq g3 M2 o2 k2 h3 (.inr (.inr ⟨_, rfl⟩))
    clear g3
    refine ⟨z 1 (by decide), fun p4 h4 => ?_⟩
    generalize g4 : upd G3 p4 (HO.tup [.int 0]) = G4
    obtain ⟨M4, o4, k4, j4, e4, l4, f4⟩ := ob_eq g4 M3 o3 k3 h4 (.inl ⟨_, rfl⟩)
    clear g4
    refine ⟨z 1 (by decide), fun p5 h5 => ?_⟩
    generalize g5 : upd G4 p5 (HO.lst [.int 1]) = G5
    obtain ⟨M5, o5, k5, j5, e5, l5, f5⟩ := ob_eq g5 M4 o4 k4 h5 (.inr (.inl ⟨_, rfl⟩))
    clear g5
    refine ⟨z 2 (by decide), fun p6 h6 => ?_⟩
    generalize g6 : upd G5 p6 (HO.tup [.int 1, .int 2]) = G6
    obtain ⟨M6, o6, k6, j6, e6, l6, f6⟩ := ob_eq g6 M5 o5 k5 h6 (.inl ⟨_, rfl⟩)
    clear g6
    refine ⟨z 2 (by decide), fun p7 h7 => ?_⟩
    generalize g7 : upd G6 p7 (HO.tup [.int 1, .int 2]) = G7
    obtain ⟨M7, o7, k7, j7, e7, l7, f7⟩ := ob_eq g7 M6 o6 k6 h7 (.inl ⟨_, rfl⟩)
    clear g7
    refine ⟨z 1 (by decide), fun p8 h8 => ?_⟩
    generalize g8 : upd G7 p8 (HO.lst [.ref p7]) = G8
    obtain ⟨M8, o8, k8, j8, e8, l8, f8⟩ := ob_eq g8 M7 o7 k7 h8 (.inr (.inl ⟨_, rfl⟩))
    clear g8
    refine ⟨z 19 (by decide), fun p9 h9 => ?_⟩
    generalize g9 : upd G8 p9 (HO.lst [.non, .bl true, .bl false, .int 0, .int 1, .int (-1), .int 2, .int (10 ^ (40 : Int).toNat), .str "", .str "a", .str "die", .str "till", .ref p1, .ref p2, .ref p3, .ref p4, .ref p5, .ref p6, .ref p8]) = G9
    obtain ⟨M9, o9, k9, j9, e9, l9, f9⟩ := ob_eq g9 M8 o8 k8 h9 (.inr (.inl ⟨_, rfl⟩))
    clear g9
    refine ⟨_, rfl, _, rfl, ?_⟩
    intro p10 h10
    refine ⟨upd_same, [(Sum.inr "a", .int 1)], rfl, (by show 1 ≤ 15; decide), ?_⟩
    rw [upd_two]
    generalize g10 : upd G9 p10 (HO.dK (mergeK [] [(Sum.inr "a", .int 1)])) = G10
    obtain ⟨M10, o10, k10, j10, e10, l10, f10⟩ := ob_eq g10 M9 o9 k9 h10 (.inr (.inr ⟨_, rfl⟩))
    clear g10
    refine ⟨z 2 (by decide), fun p11 h11 => ?_⟩
    generalize g11 : upd G10 p11 (HO.tup [.non, .non]) = G11
    obtain ⟨M11, o11, k11, j11, e11, l11, f11⟩ := ob_eq g11 M10 o10 k10 h11 (.inl ⟨_, rfl⟩)
    clear g11
    refine ⟨z 1 (by decide), fun p12 h12 => ?_⟩
    generalize g12 : upd G11 p12 (HO.tup [.str "die"]) = G12
    obtain ⟨M12, o12, k12, j12, e12, l12, f12⟩ := ob_eq g12 M11 o11 k11 h12 (.inl ⟨_, rfl⟩)
    clear g12
    refine ⟨z 0 (by decide), fun p13 h13 => ?_⟩
    generalize g13 : upd G12 p13 (HO.tup []) = G13
    obtain ⟨M13, o13, k13, j13, e13, l13, f13⟩ := ob_eq g13 M12 o12 k12 h13 (.inl ⟨_, rfl⟩)
    clear g13
    refine ⟨z 1 (by decide), fun p14 h14 => ?_⟩
    generalize g14 : upd G13 p14 (HO.tup [.ref p13]) = G14
    obtain ⟨M14, o14, k14, j14, e14, l14, f14⟩ := ob_eq g14 M13 o13 k13 h14 (.inl ⟨_, rfl⟩)
    clear g14
    refine ⟨z 0 (by decide), fun p15 h15 => ?_⟩
    generalize g15 : upd G14 p15 (HO.tup []) = G15
    obtain ⟨M15, o15, k15, j15, e15, l15, f15⟩ := ob_eq g15 M14 o14 k14 h15 (.inl ⟨_, rfl⟩)
    clear g15
    refine ⟨z 2 (by decide), fun p16 h16 => ?_⟩
    generalize g16 : upd G15 p16 (HO.tup [.str "x", .ref p15]) = G16
    obtain ⟨M16, o16, k16, j16, e16, l16, f16⟩ := ob_eq g16 M15 o15 k15 h16 (.inl ⟨_, rfl⟩)
    clear g16
    refine ⟨z 2 (by decide), fun p17 h17 => ?_⟩
    generalize g17 : upd G16 p17 (HO.tup [.str "less", .int 0]) = G17
    obtain ⟨M17, o17, k17, j17, e17, l17, f17⟩ := ob_eq g17 M16 o16 k16 h17 (.inl ⟨_, rfl⟩)
    clear g17
    refine ⟨z 7 (by decide), fun p18 h18 => ?_⟩
    generalize g18 : upd G17 p18 (HO.lst [.ref p10, .ref p11, .ref p12, .ref p14, .ref p16, .str "x: skip", .ref p17]) = G18
    obtain ⟨M18, o18, k18, j18, e18, l18, f18⟩ := ob_eq g18 M17 o17 k17 h18 (.inr (.inl ⟨_, rfl⟩))
    clear g18
    have e9' := (j10.trans (j11.trans (j12.trans (j13.trans (j14.trans (j15.trans (j16.trans (j17.trans j18)))))))) p9 _ l9 f9 e9
    refine ⟨p9, p18, _, _, rfl, rfl, e9', e18, (by show 26 ≤ sizeLine; decide), fun p19 h19 => ?_⟩
    generalize g19 : upd G18 p19 (HO.lst ([.non, .bl true, .bl false, .int 0, .int 1, .int (-1), .int 2, .int (10 ^ (40 : Int).toNat), .str "", .str "a", .str "die", .str "till", .ref p1, .ref p2, .ref p3, .ref p4, .ref p5, .ref p6, .ref p8] ++ [.ref p10, .ref p11, .ref p12, .ref p14, .ref p16, .str "x: skip", .ref p17])) = G19
    obtain ⟨M19, o19, k19, j19, e19, l19, f19⟩ := ob_eq g19 M18 o18 k18 h19 (.inr (.inl ⟨_, rfl⟩))
    have one : ∀ t : List Nat, (t.all fun c => decide (c < 1114112)) = true → Ch t := fun t h c hc => of_decide_eq_true (List.all_eq_true.mp h c hc)
    refine ⟨L, F, p19, _, rfl, M19, SqL.of e19, l19, f19, (by show 0 < 26; decide), (by show 26 < 1073741824; decide), fun H2 i x kp hM2 hx => ?_⟩
    refine q H2 x (k19.trans kp) hM2 (Ob.kp kp ?_)
    have hx' := List.mem_of_getElem? hx
    have hr : ∀ y, y ∈ [V.ref p19, .ref p18, .ref p17, .ref p16, .ref p15, .ref p14, .ref p13, .ref p12, .ref p11, .ref p10, .ref p9, .ref p8, .ref p7, .ref p6, .ref p5, .ref p4, .ref p3, .ref p2, .ref p1] → Ob L F G19 y := o19
    have hs : ∀ t : List Nat, (t.all fun c => decide (c < 1114112)) = true → t.length ≤ 100 → Ob L F G19 (.str (S t)) := fun t h l => .str t (one t h) l
    simp only [List.cons_append, List.nil_append, List.mem_cons, List.not_mem_nil, or_false] at hx'
    rcases hx' with rfl | rfl | rfl | rfl | rfl | rfl | rfl | rfl | rfl | rfl | rfl | rfl | rfl | rfl | rfl | rfl | rfl | rfl | rfl | rfl | rfl | rfl | rfl | rfl | rfl | rfl
    · exact .non
    · exact .bl _
    · exact .bl _
    · exact .int _
    · exact .int _
    · exact .int _
    · exact .int _
    · exact .int _
    · exact hs [] (by decide) (by decide)
    · exact hs [97] (by decide) (by decide)
    · exact hs [100, 105, 101] (by decide) (by decide)
    · exact hs [116, 105, 108, 108] (by decide) (by decide)
    · exact hr _ (by simp)
    · exact hr _ (by simp)
    · exact hr _ (by simp)
    · exact hr _ (by simp)
    · exact hr _ (by simp)
    · exact hr _ (by simp)
    · exact hr _ (by simp)
    · exact hr _ (by simp)
    · exact hr _ (by simp)
    · exact hr _ (by simp)
    · exact hr _ (by simp)
    · exact hr _ (by simp)
    · exact hs [120, 58, 32, 115, 107, 105, 112] (by decide) (by decide)
    · exact hr _ (by simp)
end
end Ev

set_option exponentiation.threshold 256
/-! data of any kind, dicts too, as the heap holds them -/
namespace Ev
open PySem PySem.Spec PyProof.Rows L2
def kD : Key → PyData
  | .inl i => .int i
  | .inr x => .str x
mutual
/-- v is d; lists and dicts stand at places of which Z tells something -/
inductive Dx (K : PySem.W.Frag) (Z : Addr → Prop) (H : Hp) : V → PyData → Prop
  | non : Dx K Z H .non .none
  | bl (b : Bool) : Dx K Z H (.bl b) (.bool b)
  | int (i : Int) : Dx K Z H (.int i) (.int i)
  | str (x : Str) : Dx K Z H (.str x) (.str x)
  | lst {a : Addr} {xs : List V} {ds : List PyData} (e : H a = some (.lst xs)) (z : Z a) (h : DxAll K Z H xs ds) : Dx K Z H (.ref a) (.list ds)
  | tup {a : Addr} {xs : List V} {ds : List PyData} (e : SqT K H a xs) (h : DxAll K Z H xs ds) : Dx K Z H (.ref a) (.tuple ds)
  | dct {a : Addr} {kvs : List (Key × V)} {ds : List (PyData × PyData)} (e : H a = some (.dK kvs)) (z : Z a) (h : DxKv K Z H kvs ds) : Dx K Z H (.ref a) (.dict ds)
inductive DxAll (K : PySem.W.Frag) (Z : Addr → Prop) (H : Hp) : List V → List PyData → Prop
  | nil : DxAll K Z H [] []
  | cons {v : V} {vs : List V} {d : PyData} {ds : List PyData} (h : Dx K Z H v d) (r : DxAll K Z H vs ds) : DxAll K Z H (v :: vs) (d :: ds)
inductive DxKv (K : PySem.W.Frag) (Z : Addr → Prop) (H : Hp) : List (Key × V) → List (PyData × PyData) → Prop
  | nil : DxKv K Z H [] []
  | cons {k : Key} {v : V} {vs : List (Key × V)} {d : PyData} {ds : List (PyData × PyData)} (h : Dx K Z H v d) (r : DxKv K Z H vs ds) : DxKv K Z H ((k, v) :: vs) ((kD k, d) :: ds)
end
/-! ### they stay where nothing of theirs is changed -/
mutual
theorem dx_keep {K : PySem.W.Frag} {Z : Addr → Prop} {H H' : Hp} (hT : ∀ a xs, SqT K H a xs → SqT K H' a xs) (hZ : ∀ a o, Z a → H a = some o → H' a = some o) : ∀ {v : V} {d : PyData}, Dx K Z H v d → Dx K Z H' v d
  | _, _, .non => .non
  | _, _, .bl b => .bl b
  | _, _, .int i => .int i
  | _, _, .str x => .str x
  | _, _, .lst e z h => .lst (hZ _ _ z e) z (dxAll_keep hT hZ h)
  | _, _, .tup e h => .tup (hT _ _ e) (dxAll_keep hT hZ h)
  | _, _, .dct e z h => .dct (hZ _ _ z e) z (dxKv_keep hT hZ h)
theorem dxAll_keep {K : PySem.W.Frag} {Z : Addr → Prop} {H H' : Hp} (hT : ∀ a xs, SqT K H a xs → SqT K H' a xs) (hZ : ∀ a o, Z a → H a = some o → H' a = some o) : ∀ {vs : List V} {ds : List PyData}, DxAll K Z H vs ds → DxAll K Z H' vs ds
  | _, _, .nil => .nil
  | _, _, .cons h r => .cons (dx_keep hT hZ h) (dxAll_keep hT hZ r)
theorem dxKv_keep {K : PySem.W.Frag} {Z : Addr → Prop} {H H' : Hp} (hT : ∀ a xs, SqT K H a xs → SqT K H' a xs) (hZ : ∀ a o, Z a → H a = some o → H' a = some o) : ∀ {vs : List (Key × V)} {ds : List (PyData × PyData)}, DxKv K Z H vs ds → DxKv K Z H' vs ds
  | _, _, .nil => .nil
  | _, _, .cons h r => .cons (dx_keep hT hZ h) (dxKv_keep hT hZ r)
end
theorem dx_same {K : PySem.W.Frag} {Z : Addr → Prop} {H H' : Hp} (s : Same H H') {v : V} {d : PyData} (h : Dx K Z H v d) : Dx K Z H' v d := dx_keep (fun _ _ e => Ev.Same.seqT s e) (fun _ _ _ e => s _ _ e) h
theorem dxAll_same {K : PySem.W.Frag} {Z : Addr → Prop} {H H' : Hp} (s : Same H H') {v : List V} {d : List PyData} (h : DxAll K Z H v d) : DxAll K Z H' v d := dxAll_keep (fun _ _ e => Ev.Same.seqT s e) (fun _ _ _ e => s _ _ e) h
/-- beside the loom's two -/
def ZL (L F : Addr) : Addr → Prop := fun a => a ≠ L ∧ a ≠ F
theorem Kp.sqT {K : PySem.W.Frag} {L F a : Addr} {H H' : Hp} {xs : List V} (k : Kp L F H H') (hM : Lm H L F) (h : SqT K H a xs) : SqT K H' a xs := by
  obtain ⟨fs, s, t, h1, h2, h3⟩ := hM
  rcases h with (h | ⟨o, h⟩) | h
  · exact .inl (.inl (k _ _ (ne_of h h1 (by intro z; cases z)) (ne_of h h2 (by intro z; cases z)) h))
  · exact .inl (.inr ⟨o, k _ _ (ne_of h h1 (by intro z; cases z)) (ne_of h h2 (by intro z; cases z)) h⟩)
  · exact .inr h
theorem dx_kp {K : PySem.W.Frag} {L F : Addr} {H H' : Hp} (k : Kp L F H H') (hM : Lm H L F) {v : V} {d : PyData} (h : Dx K (ZL L F) H v d) : Dx K (ZL L F) H' v d := dx_keep (fun _ _ e => k.sqT hM e) (fun _ _ z e => k _ _ z.1 z.2 e) h
theorem dxAll_kp {K : PySem.W.Frag} {L F : Addr} {H H' : Hp} (k : Kp L F H H') (hM : Lm H L F) {v : List V} {d : List PyData} (h : DxAll K (ZL L F) H v d) : DxAll K (ZL L F) H' v d := dxAll_keep (fun _ _ e => k.sqT hM e) (fun _ _ z e => k _ _ z.1 z.2 e) h
/-! ### plain data -/
mutual
theorem dp_of_dx {K : PySem.W.Frag} {Z : Addr → Prop} {H : Hp} : ∀ {v : V} {d : PyData}, Dx K Z H v d → d.hasDict = false → Dp K H v d
  | _, _, .non, _ => .non
  | _, _, .bl b, _ => .bl b
  | _, _, .int i, _ => .int i
  | _, _, .str x, _ => .str x
  | _, _, .lst e z h, n => .lst (SqL.of e) (dpAll_of_dx h (by simpa only [PyData.hasDict] using n))
  | _, _, .tup e h, n => .tup e (dpAll_of_dx h (by simpa only [PyData.hasDict] using n))
  | _, _, .dct e z h, n => by simp only [PyData.hasDict] at n; cases n
theorem dpAll_of_dx {K : PySem.W.Frag} {Z : Addr → Prop} {H : Hp} : ∀ {vs : List V} {ds : List PyData}, DxAll K Z H vs ds → PyData.hasDictAll ds = false → DpAll K H vs ds
  | _, _, .nil, _ => .nil
  | _, _, .cons h r, n => by
    simp only [PyData.hasDictAll, Bool.or_eq_false_iff] at n
    exact .cons (dp_of_dx h n.1) (dpAll_of_dx r n.2)
end
/-! ### as the library reads them -/
section
variable {X : Cx} {pins : List (Addr × Obj)} {σ : L2.St} {H : Hp} {s : Shared} {Z : Addr → Prop}
theorem kv_vals : ∀ {kvs : List (Key × V)} {ws : List (Key × Value)}, KV kvs ws → Vals (kvs.map (·.2)) (ws.map (·.2))
  | _, _, .nil => .nil
  | _, _, .cons h r => .cons h.2 (kv_vals r)
theorem key_reads {h : Heap} {k : Key} {u : Value} (e : keyIs k u = true) : Reads h u (kD k) [] := by
  rcases keyIs_shape e with ⟨i, t, rfl, rfl⟩ | ⟨x, t, rfl, rfl⟩
  · exact .int i t
  · exact .str x t
theorem keys_reads {h : Heap} {P : Program} {w : World} : ∀ {kvs : List (Key × V)} {ws : List (Key × Value)} {es : List DictEntry} {ds : List (PyData × PyData)}, KV kvs ws → Pairs (mixKind P w) es ws → DxKv X.K Z H kvs ds →
    ReadsAll h (es.map (·.key)) (ds.map (·.1)) []
  | _, _, _, _, .nil, .nil, .nil => .nil
  | _, _, _, _, .cons hk r, .cons he hv q, .cons hd t => by
    refine .cons (as := []) (bs := []) (key_reads ?_) (keys_reads r q t)
    rw [mixKind_is] at he
    have e1 := hk.1
    show keyIs _ _ = true
    dsimp only at e1 ⊢
    rw [e1]
    exact he
mutual
theorem dx_reads (I : Inv X pins σ H s) : ∀ {v : V} {d : PyData} {u : Value}, Dx X.K Z H v d → RelV v u → ∃ as, Reads s.heap u d as
  | _, _, _, .non, r => by cases r; exact ⟨_, .none⟩
  | _, _, _, .bl b, r => by cases r; exact ⟨_, .bool b⟩
  | _, _, _, .int i, r => by obtain ⟨t, rfl⟩ := r; exact ⟨_, .int i t⟩
  | _, _, _, .str x, r => by obtain ⟨t, rfl⟩ := r; exact ⟨_, .str x t⟩
  | _, _, _, .lst e z h, r => by
    cases r
    obtain ⟨its, rv, ⟨o, n, ho, hc, _, hd⟩, _⟩ := I.list (SqL.of e)
    obtain ⟨as, hr⟩ := dxAll_reads I h rv
    exact ⟨_, .list ho hc hd hr⟩
  | _, _, _, .tup e h, r => by
    cases r
    obtain ⟨its, rv, ⟨o, ho, hc, n, hd⟩, _⟩ := I.tuple e
    obtain ⟨as, hr⟩ := dxAll_reads I h rv
    exact ⟨_, .tuple ho hc hd hr⟩
  | _, _, _, .dct e z h, r => by
    cases r
    obtain ⟨_, _, ws, rk, o, es, ep, ho, hx, hd, _, hp, _⟩ := dk_of I.hok e
    obtain ⟨as, hr⟩ := dxKv_reads I h rk hp
    exact ⟨_, .dict ho hx.1 hd (keys_reads rk hp h) hr⟩
theorem dxAll_reads (I : Inv X pins σ H s) : ∀ {vs : List V} {ds : List PyData} {us : List Value}, DxAll X.K Z H vs ds → Vals vs us → ∃ as, ReadsAll s.heap us ds as
  | _, _, _, .nil, r => by cases r; exact ⟨_, .nil⟩
  | _, _, _, .cons h t, .cons r1 r2 => by
    obtain ⟨as, q1⟩ := dx_reads I h r1
    obtain ⟨bs, q2⟩ := dxAll_reads I t r2
    exact ⟨_, .cons q1 q2⟩
theorem dxKv_reads (I : Inv X pins σ H s) {P : Program} {w : World} : ∀ {kvs : List (Key × V)} {ds : List (PyData × PyData)} {ws : List (Key × Value)} {es : List DictEntry}, DxKv X.K Z H kvs ds → KV kvs ws → Pairs (mixKind P w) es ws →
    ∃ as, ReadsAll s.heap (es.map (·.val)) (ds.map (·.2)) as
  | _, _, _, _, .nil, .nil, .nil => ⟨_, .nil⟩
  | _, _, _, _, .cons h t, .cons hk r, .cons he hv q => by
    obtain ⟨as, q1⟩ := dx_reads I h hk.2
    obtain ⟨bs, q2⟩ := dxKv_reads I t r q
    refine ⟨_, .cons (as := as) (bs := bs) ?_ q2⟩
    dsimp only
    rw [hv]
    exact q1
end
/-! ### as repr shows them -/
/-- what a shown part leaves behind: deeper places than it are not among its own -/
def RK (X : Cx) (s : Shared) (n : Nat) (u : Value) (t : Str) : Prop := ∃ bs, ReadAtMost s.heap n bs ∧ ReprK X.prog X.w bs s.heap n u t
def RKs (X : Cx) (s : Shared) (n : Nat) (us : List Value) (ts : List Str) : Prop := ∃ bs, ReadAtMost s.heap n bs ∧ ReprAllK X.prog X.w bs s.heap n us ts
theorem RKs.cons {n m : Nat} {u : Value} {us : List Value} {t : Str} {ts : List Str} (a : RK X s n u t) (b : RKs X s m us ts) : RKs X s (max n m) (u :: us) (t :: ts) := by
  obtain ⟨p, hp, kp⟩ := a
  obtain ⟨q, hq, kq⟩ := b
  have l1 : n ≤ max n m := Nat.le_max_left n m
  have l2 : m ≤ max n m := Nat.le_max_right n m
  refine ⟨p ++ q, (hp.mono l1).append (hq.mono l2), .cons ((kp.more fun b hb => List.mem_append_left q hb).level_le l1) (kq.more_le (fun b hb => List.mem_append_right p hb) l2)⟩
theorem RKs.nil : RKs X s 0 [] [] := ⟨[], fun _ h => (nomatch h), .nil⟩
theorem key_repr {k : Key} {u : Value} (e : keyIs k u = true) (hs : (kD k).showable = true) (hz : (kD k).shown.length ≤ sizeLine) : RK X s (kD k).depth u (kD k).shown := by
  rcases keyIs_shape e with ⟨i, t, rfl, rfl⟩ | ⟨x, t, rfl, rfl⟩
  · have hs' : i.natAbs.log2 < 1920 := by simpa only [kD, PyData.showable, decide_eq_true_eq] using hs
    simp only [kD, PyData.shown]
    exact ⟨[], fun _ h => (nomatch h), .of_is (ReprIs.int t hs') _ _ _⟩
  · simp only [kD, PyData.shown] at hz ⊢
    exact ⟨[], fun _ h => (nomatch h), .of_is (ReprIs.str x t hz) _ _ _⟩
theorem ents_more {P : Program} {w : World} {h₀ : Heap} {as as' : List Addr} {d d' : Nat} (hsub : ∀ b ∈ as, b ∈ as') (hd : d ≤ d') : ∀ {es : List DictEntry} {ps : List Str}, ReprEntriesK P w as h₀ d es ps → ReprEntriesK P w as' h₀ d' es ps
  | _, _, .nil => .nil
  | _, _, .cons a b r => .cons ((a.more hsub).level_le hd) ((b.more hsub).level_le hd) (ents_more hsub hd r)
mutual
theorem dx_repr (I : Inv X pins σ H s) : ∀ {v : V} {d : PyData} {u : Value}, Dx X.K Z H v d → RelV v u → d.showable = true → d.shown.length ≤ sizeLine → RK X s d.depth u d.shown
  | _, _, _, .non, r, _, _ => by
    cases r
    simp only [PyData.shown]
    exact ⟨[], fun _ h => (nomatch h), .of_is ReprIs.none _ _ _⟩
  | _, _, _, .bl b, r, _, _ => by
    cases r
    simp only [PyData.shown]
    exact ⟨[], fun _ h => (nomatch h), .of_is (ReprIs.bool b) _ _ _⟩
  | _, _, _, .int i, r, hs, _ => by
    obtain ⟨t, rfl⟩ := r
    have hs' : i.natAbs.log2 < 1920 := by simpa only [PyData.showable, decide_eq_true_eq] using hs
    simp only [PyData.shown]
    exact ⟨[], fun _ h => (nomatch h), .of_is (ReprIs.int t hs') _ _ _⟩
  | _, _, _, .str x, r, _, hz => by
    obtain ⟨t, rfl⟩ := r
    simp only [PyData.shown] at hz ⊢
    exact ⟨[], fun _ h => (nomatch h), .of_is (ReprIs.str x t hz) _ _ _⟩
  | _, _, _, .lst (a := a) (ds := ds) e z h, r, hs, hz => by
    cases r
    have rd := dx_reads I (.lst e z h) (u := .ref a) rfl
    obtain ⟨its, rv, ⟨o, n, ho, hc, _, hd⟩, _⟩ := I.list (SqL.of e)
    simp only [PyData.shown] at hz
    obtain ⟨bs, hb, hk⟩ := dxAll_repr I h rv (by simpa only [PyData.showable] using hs) fun t ht => Nat.le_trans (listText_mem_le ht) hz
    obtain ⟨as, rd⟩ := rd
    simp only [PyData.shown, PyData.depth]
    have own : a ∉ bs := not_mem_of_deeper rd (by simp only [PyData.depth]; omega) hb
    refine ⟨a :: bs, ?_, ?_⟩
    · have := ReadAtMost.cons rd (by simp only [PyData.depth]; omega) hb
      simpa only [PyData.depth] using this
    · cases its with
      | nil =>
        cases rv
        cases h
        simp only [PyData.shownAll, listText_nil]
        exact ReprK.listEmpty ho hc hd
      | cons x l => exact ReprK.list ho hc hd own (by simpa using hk.length_eq) fun i y hy => hk.item i y (by simpa using hy)
  | _, _, _, .tup (a := a) e h, r, hs, hz => by
    cases r
    have rd := dx_reads I (.tup e h) (u := .ref a) rfl
    obtain ⟨its, rv, ⟨o, ho, hc, n, hd⟩, _⟩ := I.tuple e
    simp only [PyData.shown] at hz
    obtain ⟨bs, hb, hk⟩ := dxAll_repr I h rv (by simpa only [PyData.showable] using hs) fun t ht => Nat.le_trans (tupleText_mem_le ht) hz
    obtain ⟨as, rd⟩ := rd
    simp only [PyData.shown, PyData.depth]
    have own : a ∉ bs := not_mem_of_deeper rd (by simp only [PyData.depth]; omega) hb
    refine ⟨a :: bs, ?_, ReprK.tuple ho hc hd own hk⟩
    have := ReadAtMost.cons rd (by simp only [PyData.depth]; omega) hb
    simpa only [PyData.depth] using this
  | _, _, _, .dct (a := a) (ds := ds) e z h, r, hs, hz => by
    cases r
    have rd := dx_reads I (.dct e z h) (u := .ref a) rfl
    obtain ⟨_, sys, ws, rk, o, es, ep, ho, hx, hd, _, hp, _⟩ := dk_of I.hok e
    simp only [PyData.shown] at hz
    obtain ⟨bs, hb, hk⟩ := dxKv_repr I h rk hp (by simpa only [PyData.showable] using hs) fun t ht => Nat.le_trans (dictText_mem_le ht) hz
    obtain ⟨as, rd⟩ := rd
    simp only [PyData.shown, PyData.depth]
    have own : a ∉ bs := not_mem_of_deeper rd (by simp only [PyData.depth]; omega) hb
    refine ⟨a :: bs, ?_, ReprK.dict ho hx.1 hd sys own hk⟩
    have := ReadAtMost.cons rd (by simp only [PyData.depth]; omega) hb
    simpa only [PyData.depth] using this
theorem dxAll_repr (I : Inv X pins σ H s) : ∀ {vs : List V} {ds : List PyData} {us : List Value}, DxAll X.K Z H vs ds → Vals vs us → PyData.showableAll ds = true → (∀ t ∈ PyData.shownAll ds, t.length ≤ sizeLine) → RKs X s (PyData.depthAll ds) us (PyData.shownAll ds)
  | _, _, _, .nil, r, _, _ => by
    cases r
    simp only [PyData.shownAll, PyData.depthAll]
    exact RKs.nil
  | _, _, _, .cons h t, .cons r1 r2, hs, hz => by
    simp only [PyData.showableAll, Bool.and_eq_true] at hs
    simp only [PyData.shownAll, PyData.depthAll] at hz ⊢
    exact RKs.cons (dx_repr I h r1 hs.1 (hz _ (List.mem_cons_self ..))) (dxAll_repr I t r2 hs.2 fun t ht => hz t (List.mem_cons_of_mem _ ht))
theorem dxKv_repr (I : Inv X pins σ H s) {P : Program} {w : World} : ∀ {kvs : List (Key × V)} {ds : List (PyData × PyData)} {ws : List (Key × Value)} {es : List DictEntry}, DxKv X.K Z H kvs ds → KV kvs ws → Pairs (mixKind P w) es ws →
    PyData.showableKv ds = true → (∀ t ∈ PyData.shownKv ds, t.length ≤ sizeLine) → ∃ bs, ReadAtMost s.heap (PyData.depthKv ds) bs ∧ ReprEntriesK X.prog X.w bs s.heap (PyData.depthKv ds) es (PyData.shownKv ds)
  | _, _, _, _, .nil, .nil, .nil, _, _ => by
    simp only [PyData.shownKv]
    exact ⟨[], fun _ h => (nomatch h), .nil⟩
  | _, _, _, _, .cons (k := k) (d := d) (ds := ds) h t, .cons hk r, .cons (e := e) he hv q, hs, hz => by
    simp only [PyData.showableKv, Bool.and_eq_true] at hs
    simp only [PyData.shownKv, PyData.depthKv] at hz ⊢
    have lz := hz _ (List.mem_cons_self ..)
    rw [strLen_append, strLen_append] at lz
    have e1 := hk.1
    have e2 := hk.2
    dsimp only at e1 e2
    rw [mixKind_is, ← e1] at he
    obtain ⟨p, hp, kp⟩ := key_repr (X := X) (s := s) he hs.1.1 (by omega)
    obtain ⟨q1, hq, kq⟩ := dx_repr I h e2 hs.1.2 (by omega)
    obtain ⟨q2, hr, kr⟩ := dxKv_repr I t r q hs.2 fun t ht => hz t (List.mem_cons_of_mem _ ht)
    refine ⟨p ++ (q1 ++ q2), ?_, ?_⟩
    · exact (hp.mono (by omega)).append ((hq.mono (by omega)).append (hr.mono (by omega)))
    · rw [← hv] at kq
      refine .cons ((kp.more fun b hb => List.mem_append_left _ hb).level_le (by omega)) ((kq.more fun b hb => List.mem_append_right _ (List.mem_append_left _ hb)).level_le (by omega)) ?_
      exact ents_more (fun b hb => List.mem_append_right _ (List.mem_append_right _ hb)) (by omega) kr
end
end
section
variable {X : Cx}
/-- repr(x), x data of any kind -/
def rReprX (K : PySem.W.Frag) : List V → Hp → VK → Prop := fun vs H Q =>
  ∃ (v : V) (d : PyData) (Z : Addr → Prop), vs = [v] ∧ Dx K Z H v d ∧ d.showable = true ∧ d.shown.length ≤ sizeLine ∧ d.depth ≤ 60 ∧ Q (.str d.shown) H
theorem call_reprX (hG : X.A.guards = some []) (hu : X.A.units + 64 < cLine) : CallR X (.builtin "repr") (rReprX X.K) := by
  intro pins s σ H vs us Q I r h
  obtain ⟨v, d, Z, rfl, hx, hs, hz, hdep, q⟩ := h
  have keep : ∀ (h' : Heap) (u : Tok) (tk : Nat), (∀ b o, s.heap.get? b = some o → h'.get? b = some o) → EP X pins σ Q (.str d.shown u) { s with heap := h', toks := tk } :=
    fun h' u tk hk => ⟨.str d.shown, H, I.kept hk, ⟨_, rfl⟩, q⟩
  cases hx with
  | non =>
    obtain ⟨u, rfl, ru⟩ := vals1 r
    cases ru
    exact PySem.P.repr_of_none ⟨.str _, H, I.tok _, ⟨_, rfl⟩, q⟩
  | bl b =>
    obtain ⟨u, rfl, ru⟩ := vals1 r
    cases ru
    refine PySem.P.repr_of_bool ⟨.str (PyData.shown (.bool b)), H, I.tok _, ⟨_, rfl⟩, q⟩
  | int i =>
    obtain ⟨u, rfl, t, rfl⟩ := vals1 r
    have hs' : i.natAbs.log2 < 1920 := by simpa only [PyData.showable, decide_eq_true_eq] using hs
    exact PySem.P.repr_of_int hs' ⟨.str _, H, I.tok _, ⟨_, rfl⟩, q⟩
  | str x =>
    obtain ⟨u, rfl, t, rfl⟩ := vals1 r
    exact PySem.P.repr_of_str ⟨.str _, H, I.tok _, ⟨_, rfl⟩, q⟩ hz
  | lst e z h =>
    obtain ⟨u, rfl, ru⟩ := vals1 r
    cases ru
    rename_i a xs ds
    obtain ⟨as, rd⟩ := dx_reads I (.lst e z h) (u := .ref a) rfl
    obtain ⟨its, rv, ⟨o, n, ho, hc, _, hd⟩, _⟩ := I.list (SqL.of e)
    simp only [PyData.shown, PyData.depth] at hz hdep keep
    obtain ⟨bs, hb, hk⟩ := dxAll_repr I h rv (by simpa only [PyData.showable] using hs) fun t ht => Nat.le_trans (listText_mem_le ht) hz
    have own : a ∉ bs := not_mem_of_deeper rd (by simp only [PyData.depth]; omega) hb
    refine call_repr_slot (by omega) ⟨o, ho, hc⟩ F.slot_list_repr.toG ?_
    cases its with
    | nil =>
      cases rv
      cases h
      simp only [PyData.shownAll, listText_nil] at keep
      exact call_list_repr_empty ⟨o, ho, hc⟩ ho hd ⟨_, _, rfl, keep s.heap _ _ fun _ _ e => e⟩
    | cons x l =>
      exact call_list_reprK ho hc hd own (by simpa using hk.length_eq) (fun i y hy => hk.item i y (by simpa using hy)) hG (fun b _ => Clear.nil b) (by show X.A.units + 1 + (_ + 1) < cLine; omega) (fun _ _ e => e) (fun h' u tk hk' => ⟨_, _, rfl, keep h' u tk hk'⟩) hz
  | tup e h =>
    obtain ⟨u, rfl, ru⟩ := vals1 r
    cases ru
    rename_i a xs ds
    obtain ⟨as, rd⟩ := dx_reads I (Dx.tup (Z := Z) e h) (u := .ref a) rfl
    obtain ⟨its, rv, ⟨o, ho, hc, n, hd⟩, _⟩ := I.tuple e
    simp only [PyData.shown, PyData.depth] at hz hdep keep
    obtain ⟨bs, hb, hk⟩ := dxAll_repr I h rv (by simpa only [PyData.showable] using hs) fun t ht => Nat.le_trans (tupleText_mem_le ht) hz
    have own : a ∉ bs := not_mem_of_deeper rd (by simp only [PyData.depth]; omega) hb
    refine call_repr_slot (by omega) ⟨o, ho, hc⟩ F.slot_tuple_repr ?_
    exact call_tuple_reprK ho hc hd own hk hG (fun b _ => Clear.nil b) (by show X.A.units + 1 + (_ + 1) < cLine; omega) (fun _ _ e => e) (fun h' u tk hk' => ⟨_, _, rfl, keep h' u tk hk'⟩) hz
  | dct e z h =>
    obtain ⟨u, rfl, ru⟩ := vals1 r
    cases ru
    rename_i a kvs ds
    obtain ⟨as, rd⟩ := dx_reads I (.dct e z h) (u := .ref a) rfl
    obtain ⟨_, sys, ws, rk, o, es, ep, ho, hx, hd, _, hp, _⟩ := dk_of I.hok e
    simp only [PyData.shown, PyData.depth] at hz hdep keep
    obtain ⟨bs, hb, hk⟩ := dxKv_repr I h rk hp (by simpa only [PyData.showable] using hs) fun t ht => Nat.le_trans (dictText_mem_le ht) hz
    have own : a ∉ bs := not_mem_of_deeper rd (by simp only [PyData.depth]; omega) hb
    refine call_repr_slot (by omega) ⟨o, ho, hx.1⟩ F.slot_dict_repr ?_
    exact call_dict_reprK ho hx.1 hd sys own hk hG (fun b _ => Clear.nil b) (by show X.A.units + 1 + (_ + 1) < cLine; omega) (fun _ _ e => e) (fun h' u tk hk' => ⟨_, _, rfl, keep h' u tk hk'⟩) hz
end
end Ev

set_option exponentiation.threshold 256
/-! data of any kind: kinds, parts, how long they are shown -/
namespace Ev
open PySem PySem.Spec PyProof.Rows L2
/-! ### kinds -/
def tyN : PyData → String
  | .none => "NoneType"
  | .bool _ => "bool"
  | .int _ => "int"
  | .str _ => "str"
  | .list _ => "list"
  | .tuple _ => "tuple"
  | .dict _ => "dict"
def isInt : PyData → Bool
  | .int _ => true
  | .bool _ => true
  | _ => false
def isBool : PyData → Bool
  | .bool _ => true
  | _ => false
def isStr : PyData → Bool
  | .str _ => true
  | _ => false
def isTup : PyData → Bool
  | .tuple _ => true
  | _ => false
def isLst : PyData → Bool
  | .list _ => true
  | _ => false
def isDct : PyData → Bool
  | .dict _ => true
  | _ => false
section
variable {K : PySem.W.Frag} {Z : Addr → Prop} {H : Hp}
theorem kit_int : ∀ d : PyData, PySem.W.kitOne K (.type (tyN d)) (.type "int") = some (isInt d)
  | .none => kit_ty (show kitB "NoneType" "int" = some false by decide +kernel)
  | .bool _ => kit_ty (show kitB "bool" "int" = some true by decide +kernel)
  | .int _ => kit_ty (show kitB "int" "int" = some true by decide +kernel)
  | .str _ => kit_ty (show kitB "str" "int" = some false by decide +kernel)
  | .list _ => kit_ty (show kitB "list" "int" = some false by decide +kernel)
  | .tuple _ => kit_ty (show kitB "tuple" "int" = some false by decide +kernel)
  | .dict _ => kit_ty (show kitB "dict" "int" = some false by decide +kernel)
theorem kit_bool : ∀ d : PyData, PySem.W.kitOne K (.type (tyN d)) (.type "bool") = some (isBool d)
  | .none => kit_ty (show kitB "NoneType" "bool" = some false by decide +kernel)
  | .bool _ => kit_ty (show kitB "bool" "bool" = some true by decide +kernel)
  | .int _ => kit_ty (show kitB "int" "bool" = some false by decide +kernel)
  | .str _ => kit_ty (show kitB "str" "bool" = some false by decide +kernel)
  | .list _ => kit_ty (show kitB "list" "bool" = some false by decide +kernel)
  | .tuple _ => kit_ty (show kitB "tuple" "bool" = some false by decide +kernel)
  | .dict _ => kit_ty (show kitB "dict" "bool" = some false by decide +kernel)
theorem kit_str : ∀ d : PyData, PySem.W.kitOne K (.type (tyN d)) (.type "str") = some (isStr d)
  | .none => kit_ty (show kitB "NoneType" "str" = some false by decide +kernel)
  | .bool _ => kit_ty (show kitB "bool" "str" = some false by decide +kernel)
  | .int _ => kit_ty (show kitB "int" "str" = some false by decide +kernel)
  | .str _ => kit_ty (show kitB "str" "str" = some true by decide +kernel)
  | .list _ => kit_ty (show kitB "list" "str" = some false by decide +kernel)
  | .tuple _ => kit_ty (show kitB "tuple" "str" = some false by decide +kernel)
  | .dict _ => kit_ty (show kitB "dict" "str" = some false by decide +kernel)
theorem kit_tup : ∀ d : PyData, PySem.W.kitOne K (.type (tyN d)) (.type "tuple") = some (isTup d)
  | .none => kit_ty (show kitB "NoneType" "tuple" = some false by decide +kernel)
  | .bool _ => kit_ty (show kitB "bool" "tuple" = some false by decide +kernel)
  | .int _ => kit_ty (show kitB "int" "tuple" = some false by decide +kernel)
  | .str _ => kit_ty (show kitB "str" "tuple" = some false by decide +kernel)
  | .list _ => kit_ty (show kitB "list" "tuple" = some false by decide +kernel)
  | .tuple _ => kit_ty (show kitB "tuple" "tuple" = some true by decide +kernel)
  | .dict _ => kit_ty (show kitB "dict" "tuple" = some false by decide +kernel)
theorem kit_lst : ∀ d : PyData, PySem.W.kitOne K (.type (tyN d)) (.type "list") = some (isLst d)
  | .none => kit_ty (show kitB "NoneType" "list" = some false by decide +kernel)
  | .bool _ => kit_ty (show kitB "bool" "list" = some false by decide +kernel)
  | .int _ => kit_ty (show kitB "int" "list" = some false by decide +kernel)
  | .str _ => kit_ty (show kitB "str" "list" = some false by decide +kernel)
  | .list _ => kit_ty (show kitB "list" "list" = some true by decide +kernel)
  | .tuple _ => kit_ty (show kitB "tuple" "list" = some false by decide +kernel)
  | .dict _ => kit_ty (show kitB "dict" "list" = some false by decide +kernel)
theorem kit_dct : ∀ d : PyData, PySem.W.kitOne K (.type (tyN d)) (.type "dict") = some (isDct d)
  | .none => kit_ty (show kitB "NoneType" "dict" = some false by decide +kernel)
  | .bool _ => kit_ty (show kitB "bool" "dict" = some false by decide +kernel)
  | .int _ => kit_ty (show kitB "int" "dict" = some false by decide +kernel)
  | .str _ => kit_ty (show kitB "str" "dict" = some false by decide +kernel)
  | .list _ => kit_ty (show kitB "list" "dict" = some false by decide +kernel)
  | .tuple _ => kit_ty (show kitB "tuple" "dict" = some false by decide +kernel)
  | .dict _ => kit_ty (show kitB "dict" "dict" = some true by decide +kernel)
theorem dx_ty {v : V} {d : PyData} (h : Dx K Z H v d) : TyX K H v (.type (tyN d)) := by
  cases h with
  | non => exact .base .non
  | bl b => exact .base (.bl b)
  | int i => exact .base (.int i)
  | str x => exact .base (.str x)
  | lst e z h => exact .base (.lst e)
  | tup e h =>
    rcases e with (e | ⟨o, e⟩) | ⟨o, its, n, e, c, _⟩
    · exact .base (.tup e)
    · exact .fTuple e
    · exact .kTuple e c
  | dct e z h => exact .base (.dK e)
/-! ### parts -/
theorem dx_tup {v : V} {ds : List PyData} (h : Dx K Z H v (.tuple ds)) : ∃ a xs, v = .ref a ∧ SqT K H a xs ∧ DxAll K Z H xs ds := by
  cases h with
  | tup e h => exact ⟨_, _, rfl, e, h⟩
theorem dx_lst {v : V} {ds : List PyData} (h : Dx K Z H v (.list ds)) : ∃ a xs, v = .ref a ∧ H a = some (.lst xs) ∧ Z a ∧ DxAll K Z H xs ds := by
  cases h with
  | lst e z h => exact ⟨_, _, rfl, e, z, h⟩
theorem dx_int {v : V} {i : Int} (h : Dx K Z H v (.int i)) : v = .int i := by cases h; rfl
theorem dx_str {v : V} {x : Str} (h : Dx K Z H v (.str x)) : v = .str x := by cases h; rfl
theorem dx_bool {v : V} {b : Bool} (h : Dx K Z H v (.bool b)) : v = .bl b := by cases h; rfl
theorem dx_none {v : V} (h : Dx K Z H v .none) : v = .non := by cases h; rfl
theorem dxAll_len : ∀ {vs : List V} {ds : List PyData}, DxAll K Z H vs ds → vs.length = ds.length
  | _, _, .nil => rfl
  | _, _, .cons _ r => congrArg (· + 1) (dxAll_len r)
theorem dxAll_get : ∀ {vs : List V} {ds : List PyData} {i : Nat} {v : V}, DxAll K Z H vs ds → vs[i]? = some v → ∃ d, ds[i]? = some d ∧ Dx K Z H v d
  | _, _, _, _, .nil, e => by simp at e
  | _, _, 0, _, .cons h _, e => by
    simp at e
    subst e
    exact ⟨_, rfl, h⟩
  | _, _, i + 1, _, .cons _ r, e => dxAll_get (i := i) r (by simpa using e)
theorem dxAll_at : ∀ {vs : List V} {ds : List PyData} {i : Nat} {d : PyData}, DxAll K Z H vs ds → ds[i]? = some d → ∃ v, vs[i]? = some v ∧ Dx K Z H v d
  | _, _, _, _, .nil, e => by simp at e
  | _, _, 0, _, .cons h _, e => by
    simp at e
    subst e
    exact ⟨_, rfl, h⟩
  | _, _, i + 1, _, .cons _ r, e => dxAll_at (i := i) r (by simpa using e)
theorem dxAll_app : ∀ {vs ws : List V} {ds es : List PyData}, DxAll K Z H vs ds → DxAll K Z H ws es → DxAll K Z H (vs ++ ws) (ds ++ es)
  | _, _, _, _, .nil, q => q
  | _, _, _, _, .cons h r, q => .cons h (dxAll_app r q)
theorem dxAll_drop : ∀ (n : Nat) {vs : List V} {ds : List PyData}, DxAll K Z H vs ds → DxAll K Z H (vs.drop n) (ds.drop n)
  | 0, _, _, r => r
  | n + 1, _, _, .nil => .nil
  | n + 1, _, _, .cons _ r => dxAll_drop n r
theorem dxAll_take : ∀ (n : Nat) {vs : List V} {ds : List PyData}, DxAll K Z H vs ds → DxAll K Z H (vs.take n) (ds.take n)
  | 0, _, _, _ => .nil
  | n + 1, _, _, .nil => .nil
  | n + 1, _, _, .cons h r => .cons h (dxAll_take n r)
def cutD (ds : List PyData) (lo hi : Option Int) : List PyData :=
  (ds.drop (HT.sIx ds.length 0 lo)).take (HT.sIx ds.length ds.length hi - HT.sIx ds.length 0 lo)
theorem dxAll_cut {vs : List V} {ds : List PyData} (h : DxAll K Z H vs ds) (lo hi : Option Int) : DxAll K Z H (cutV vs lo hi) (cutD ds lo hi) := by
  unfold cutV cutD
  rw [dxAll_len h]
  exact dxAll_take _ (dxAll_drop _ h)
theorem dxAll_rev : ∀ {vs : List V} {ds : List PyData}, DxAll K Z H vs ds → DxAll K Z H vs.reverse ds.reverse
  | _, _, .nil => .nil
  | _, _, .cons h r => by
    rw [List.reverse_cons, List.reverse_cons]
    exact dxAll_app (dxAll_rev r) (.cons h .nil)
theorem dxAll_mem {vs : List V} {ds : List PyData} {v : V} (h : DxAll K Z H vs ds) (m : v ∈ vs) : ∃ d ∈ ds, Dx K Z H v d := by
  obtain ⟨i, e⟩ := List.getElem?_of_mem m
  obtain ⟨d, ed, hd⟩ := dxAll_get h e
  exact ⟨d, List.mem_of_getElem? ed, hd⟩
/-- one and the same place holds one datum: what is shown twice is shown alike -/
theorem dx_tuple_of {a : Addr} {xs : List V} {ds : List PyData} (e : H a = some (.tup xs)) (h : DxAll K Z H xs ds) : Dx K Z H (.ref a) (.tuple ds) := .tup (SqT.of e) h
end
/-! ### how they are shown -/
structure Ft (n k : Nat) (d : PyData) : Prop where
  sh : d.showable = true
  len : d.shown.length ≤ n
  dp : d.depth ≤ k
theorem Ft.le {n k n' k' : Nat} {d : PyData} (h : Ft n k d) (a : n ≤ n') (b : k ≤ k') : Ft n' k' d := ⟨h.sh, Nat.le_trans h.len a, Nat.le_trans h.dp b⟩
theorem ft_none : Ft 4 0 .none := ⟨rfl, by simp only [PyData.shown]; decide, by simp only [PyData.depth]; decide⟩
theorem ft_bool (b : Bool) : Ft 5 0 (.bool b) := ⟨rfl, by simp only [PyData.shown]; cases b <;> decide, by simp only [PyData.depth]; decide⟩
theorem ft_int {i : Int} (h : i.natAbs.log2 < 1920) : Ft 1921 0 (.int i) := by
  refine ⟨by simpa only [PyData.showable, decide_eq_true_eq] using h, ?_, by simp only [PyData.depth]; decide⟩
  have e := int_text_length_le (k := 1920) (by decide) h
  simp only [PyData.shown]
  show (Str.ofString (toString i)).length ≤ 1921
  rw [PySem.ofString_length]
  exact e
theorem ft_str {x : Str} (h : ∀ c ∈ x.cps.toList, c < 16 ^ 8) : Ft (10 * x.length + 2) 0 (.str x) := by
  refine ⟨rfl, ?_, by simp only [PyData.depth]; decide⟩
  simp only [PyData.shown]
  exact StrLaws.reprText_len x h
theorem all_sh {n k : Nat} : ∀ {ds : List PyData}, (∀ d ∈ ds, Ft n k d) → PyData.showableAll ds = true ∧ ((PyData.shownAll ds).map (·.length)).sum ≤ ds.length * n ∧ (PyData.shownAll ds).length = ds.length ∧ PyData.depthAll ds ≤ k
  | [], _ => by simp only [PyData.showableAll, PyData.shownAll, PyData.depthAll]; exact ⟨trivial, Nat.zero_le _, rfl, Nat.zero_le _⟩
  | d :: ds, h => by
    have a := h d (List.mem_cons_self ..)
    obtain ⟨b1, b2, b3, b4⟩ := all_sh (ds := ds) fun e he => h e (List.mem_cons_of_mem _ he)
    simp only [PyData.showableAll, PyData.shownAll, PyData.depthAll, List.map_cons, List.sum_cons, List.length_cons]
    refine ⟨by rw [a.sh, b1]; rfl, ?_, by omega, Nat.max_le.mpr ⟨a.dp, b4⟩⟩
    rw [Nat.succ_mul]
    have := a.len
    omega
theorem ft_tuple {n k m : Nat} {ds : List PyData} (h : ∀ d ∈ ds, Ft n k d) (l : ds.length ≤ m) : Ft (m * (n + 2) + 3) (k + 1) (.tuple ds) := by
  obtain ⟨b1, b2, b3, b4⟩ := all_sh h
  refine ⟨by simpa only [PyData.showable] using b1, ?_, by simp only [PyData.depth]; omega⟩
  simp only [PyData.shown]
  have e := tupleText_len_le (PyData.shownAll ds)
  have : ds.length * (n + 2) ≤ m * (n + 2) := Nat.mul_le_mul_right _ l
  rw [Nat.mul_add] at this
  rw [b3] at e
  omega
theorem ft_list {n k m : Nat} {ds : List PyData} (h : ∀ d ∈ ds, Ft n k d) (l : ds.length ≤ m) : Ft (m * (n + 2) + 3) (k + 1) (.list ds) := by
  obtain ⟨b1, b2, b3, b4⟩ := all_sh h
  refine ⟨by simpa only [PyData.showable] using b1, ?_, by simp only [PyData.depth]; omega⟩
  simp only [PyData.shown]
  have e := listText_len_le (PyData.shownAll ds)
  have : ds.length * (n + 2) ≤ m * (n + 2) := Nat.mul_le_mul_right _ l
  rw [Nat.mul_add] at this
  rw [b3] at e
  omega
end Ev

set_option exponentiation.threshold 256
/-! data of any kind: how great they are -/
namespace Ev
open PySem PySem.Spec PyProof.Rows L2
mutual
/-- ints below 2 ^ 1400 in size, signs as they are -/
def fitx : PyData → Bool
  | .none => true
  | .bool _ => true
  | .int i => decide (i.natAbs < 2 ^ 1400)
  | .str x => x.cps.toList.all fun c => decide (c < 1114112)
  | .list xs => fitxs xs
  | .tuple xs => fitxs xs
  | .dict xs => fitxk xs
def fitxs : List PyData → Bool
  | [] => true
  | x :: xs => fitx x && fitxs xs
def fitxk : List (PyData × PyData) → Bool
  | [] => true
  | (k, v) :: xs => fitx k && fitx v && fitxk xs
end
mutual
/-- how many leaves and displays, a text by its signs -/
def szx : PyData → Nat
  | .none => 1
  | .bool _ => 1
  | .int _ => 1
  | .str x => x.length + 1
  | .list xs => szxs xs + 1
  | .tuple xs => szxs xs + 1
  | .dict xs => szxk xs + 1
def szxs : List PyData → Nat
  | [] => 0
  | x :: xs => szx x + szxs xs
def szxk : List (PyData × PyData) → Nat
  | [] => 0
  | (k, v) :: xs => szx k + szx v + szxk xs
end
theorem fitx_log {i : Int} (h : i.natAbs < 2 ^ 1400) : i.natAbs.log2 < 1920 := Nat.lt_trans (PySem.Flt.log2_lt_of (by decide) h) (by decide)
mutual
theorem fitx_show : ∀ d : PyData, fitx d = true → d.showable = true ∧ d.shown.length + 2 ≤ 1930 * szx d
  | .none, _ => by
    simp only [PyData.showable, PyData.shown, szx]
    exact ⟨trivial, by decide⟩
  | .bool b, _ => by
    have e : (PyData.shown (.bool b)).length ≤ 5 := by cases b <;> decide
    simp only [PyData.showable, szx]
    exact ⟨trivial, by omega⟩
  | .int i, h => by
    simp only [fitx, decide_eq_true_eq] at h
    have f := ft_int (fitx_log h)
    refine ⟨f.sh, ?_⟩
    have := f.len
    simp only [szx]
    omega
  | .str x, h => by
    simp only [fitx, List.all_eq_true, decide_eq_true_eq] at h
    have f := ft_str (x := x) fun c hc => Nat.lt_trans (h c hc) (by decide)
    refine ⟨f.sh, ?_⟩
    have := f.len
    simp only [szx]
    omega
  | .list xs, h => by
    simp only [fitx] at h
    obtain ⟨a, b⟩ := fitxs_show xs h
    have e := listText_len_le (PyData.shownAll xs)
    have l := PyData.shownAll_length xs
    simp only [PyData.showable, PyData.shown, szx]
    exact ⟨a, by omega⟩
  | .tuple xs, h => by
    simp only [fitx] at h
    obtain ⟨a, b⟩ := fitxs_show xs h
    have e := tupleText_len_le (PyData.shownAll xs)
    have l := PyData.shownAll_length xs
    simp only [PyData.showable, PyData.shown, szx]
    exact ⟨a, by omega⟩
  | .dict xs, h => by
    simp only [fitx] at h
    obtain ⟨a, b⟩ := fitxk_show xs h
    have e := dictText_len_le (PyData.shownKv xs)
    simp only [PyData.showable, PyData.shown, szx]
    exact ⟨a, by omega⟩
theorem fitxs_show : ∀ xs : List PyData, fitxs xs = true → PyData.showableAll xs = true ∧ ((PyData.shownAll xs).map (·.length)).sum + 2 * xs.length ≤ 1930 * szxs xs
  | [], _ => by
    simp only [PyData.showableAll, PyData.shownAll, szxs]
    exact ⟨trivial, by decide⟩
  | x :: xs, h => by
    simp only [fitxs, Bool.and_eq_true] at h
    obtain ⟨a, b⟩ := fitx_show x h.1
    obtain ⟨c, d⟩ := fitxs_show xs h.2
    simp only [PyData.showableAll, PyData.shownAll, szxs, List.map_cons, List.sum_cons, List.length_cons]
    exact ⟨by rw [a, c]; rfl, by omega⟩
theorem fitxk_show : ∀ xs : List (PyData × PyData), fitxk xs = true → PyData.showableKv xs = true ∧ ((PyData.shownKv xs).map (·.length)).sum + 2 * (PyData.shownKv xs).length ≤ 1930 * szxk xs
  | [], _ => by
    simp only [PyData.showableKv, PyData.shownKv, szxk]
    exact ⟨trivial, by decide⟩
  | (k, v) :: xs, h => by
    simp only [fitxk, Bool.and_eq_true] at h
    obtain ⟨a, b⟩ := fitx_show k h.1.1
    obtain ⟨a2, b2⟩ := fitx_show v h.1.2
    obtain ⟨c, d⟩ := fitxk_show xs h.2
    simp only [PyData.showableKv, PyData.shownKv, szxk, List.map_cons, List.sum_cons, List.length_cons]
    refine ⟨by rw [a, a2, c]; rfl, ?_⟩
    rw [strLen_append, strLen_append]
    have : (": " : Str).length = 2 := rfl
    omega
end
/-- data so great and so deep at most -/
structure Dt (n k : Nat) (d : PyData) : Prop where
  fx : fitx d = true
  sz : szx d ≤ n
  dp : d.depth ≤ k
theorem Dt.le {n k n' k' : Nat} {d : PyData} (h : Dt n k d) (a : n ≤ n') (b : k ≤ k') : Dt n' k' d := ⟨h.fx, Nat.le_trans h.sz a, Nat.le_trans h.dp b⟩
theorem Dt.show {n k : Nat} {d : PyData} (h : Dt n k d) (hn : n ≤ 8000) (hk : k ≤ 60) : d.showable = true ∧ d.shown.length ≤ sizeLine ∧ d.depth ≤ 60 := by
  obtain ⟨a, b⟩ := fitx_show d h.fx
  refine ⟨a, ?_, Nat.le_trans h.dp hk⟩
  have := h.sz
  rw [sizeLine_eq]
  omega
theorem dt_none : Dt 1 0 .none := ⟨rfl, by simp only [szx]; decide, by simp only [PyData.depth]; decide⟩
theorem dt_bool (b : Bool) : Dt 1 0 (.bool b) := ⟨rfl, by simp only [szx]; exact Nat.le_refl _, by simp only [PyData.depth]; exact Nat.le_refl _⟩
theorem dt_int {i : Int} (h : i.natAbs < 2 ^ 1400) : Dt 1 0 (.int i) := ⟨by simp only [fitx]; exact decide_eq_true h, by simp only [szx]; exact Nat.le_refl _, by simp only [PyData.depth]; exact Nat.le_refl _⟩
theorem dt_small {i : Int} (h : i.natAbs < 1000000) : Dt 1 0 (.int i) := dt_int (Nat.lt_trans h (by decide +kernel))
theorem dt_str {x : Str} (h : ∀ c ∈ x.cps.toList, c < 1114112) : Dt (x.length + 1) 0 (.str x) :=
  ⟨by simp only [fitx, List.all_eq_true, decide_eq_true_eq]; exact h, by simp only [szx]; exact Nat.le_refl _, by simp only [PyData.depth]; exact Nat.le_refl _⟩
/-- of a row: all so deep, all together so great -/
structure Dts (n k : Nat) (ds : List PyData) : Prop where
  fx : fitxs ds = true
  sz : szxs ds ≤ n
  dp : PyData.depthAll ds ≤ k
theorem Dts.nil : Dts 0 0 [] := ⟨rfl, by simp only [szxs]; exact Nat.le_refl _, by simp only [PyData.depthAll]; exact Nat.le_refl _⟩
theorem Dts.cons {n m k l : Nat} {d : PyData} {ds : List PyData} (a : Dt n k d) (b : Dts m l ds) : Dts (n + m) (max k l) (d :: ds) := by
  have h1 := a.sz
  have h2 := b.sz
  have h3 := a.dp
  have h4 := b.dp
  refine ⟨by simp only [fitxs, a.fx, b.fx, Bool.and_self], by simp only [szxs]; omega, by simp only [PyData.depthAll]; omega⟩
theorem Dts.le {n k n' k' : Nat} {d : List PyData} (h : Dts n k d) (a : n ≤ n') (b : k ≤ k') : Dts n' k' d := ⟨h.fx, Nat.le_trans h.sz a, Nat.le_trans h.dp b⟩
theorem Dts.tuple {n k : Nat} {ds : List PyData} (h : Dts n k ds) : Dt (n + 1) (k + 1) (.tuple ds) := by
  have h1 := h.sz
  have h2 := h.dp
  exact ⟨by simp only [fitx]; exact h.fx, by simp only [szx]; omega, by simp only [PyData.depth]; omega⟩
theorem Dts.list {n k : Nat} {ds : List PyData} (h : Dts n k ds) : Dt (n + 1) (k + 1) (.list ds) := by
  have h1 := h.sz
  have h2 := h.dp
  exact ⟨by simp only [fitx]; exact h.fx, by simp only [szx]; omega, by simp only [PyData.depth]; omega⟩
theorem dts_all {n k : Nat} : ∀ {ds : List PyData}, (∀ d ∈ ds, Dt n k d) → Dts (ds.length * n) k ds
  | [], _ => ⟨rfl, by simp only [szxs]; exact Nat.zero_le _, by simp only [PyData.depthAll]; exact Nat.zero_le _⟩
  | d :: ds, h => by
    have a := h d (List.mem_cons_self ..)
    have b := dts_all (ds := ds) fun e he => h e (List.mem_cons_of_mem _ he)
    have c := Dts.cons a b
    rw [List.length_cons, Nat.succ_mul]
    exact c.le (by omega) (by omega)
theorem Dt.of_tuple {n k : Nat} {ds : List PyData} (h : Dt n k (.tuple ds)) : ∀ d ∈ ds, Dt n k d := by
  have go : ∀ (ds : List PyData), fitxs ds = true → ∀ d ∈ ds, fitx d = true ∧ szx d ≤ szxs ds ∧ d.depth ≤ PyData.depthAll ds := by
    intro ds
    induction ds with
    | nil => intro _ d hd; cases hd
    | cons x xs ih =>
      intro hf d hd
      simp only [fitxs, Bool.and_eq_true] at hf
      simp only [szxs, PyData.depthAll]
      rcases List.mem_cons.mp hd with rfl | hd
      · exact ⟨hf.1, by omega, by omega⟩
      · obtain ⟨a, b, c⟩ := ih hf.2 d hd
        exact ⟨a, by omega, by omega⟩
  intro d hd
  have h1 := h.fx
  have h2 := h.sz
  have h3 := h.dp
  simp only [fitx] at h1
  simp only [szx] at h2
  simp only [PyData.depth] at h3
  obtain ⟨a, b, c⟩ := go ds h1 d hd
  exact ⟨a, by omega, by omega⟩
end Ev

set_option exponentiation.threshold 256
/-! sums of throws: powers of a polynomial, by its parts -/
namespace Ev
def opL : List (Nat × Int) → (Nat → Int) → Nat → Int
  | [], _, _ => 0
  | (a, c) :: l, q, n => (if a ≤ n then c * q (n - a) else 0) + opL l q n
def delta (n : Nat) : Int := if n = 0 then 1 else 0
def pw (l : List (Nat × Int)) : Nat → Nat → Int
  | 0 => delta
  | m + 1 => opL l (pw l m)
theorem opL_cong {q r : Nat → Int} : ∀ (l : List (Nat × Int)) (n : Nat), (∀ k, k ≤ n → q k = r k) → opL l q n = opL l r n
  | [], _, _ => rfl
  | (a, c) :: l, n, h => by
    unfold opL
    rw [opL_cong l n h, h (n - a) (Nat.sub_le _ _)]
theorem opL_add (x y : Nat → Int) : ∀ (l : List (Nat × Int)) (n : Nat), opL l (fun k => x k + y k) n = opL l x n + opL l y n
  | [], _ => rfl
  | (a, c) :: l, n => by
    unfold opL
    rw [opL_add x y l n]
    split <;> grind
theorem opL_mul (m : Int) (x : Nat → Int) : ∀ (l : List (Nat × Int)) (n : Nat), opL l (fun k => m * x k) n = m * opL l x n
  | [], _ => by simp [opL]
  | (a, c) :: l, n => by
    unfold opL
    rw [opL_mul m x l n]
    split <;> grind
theorem opL_zero : ∀ (l : List (Nat × Int)) (n : Nat), opL l (fun _ => 0) n = 0
  | [], _ => rfl
  | (a, c) :: l, n => by
    unfold opL
    rw [opL_zero l n]
    split <;> simp
theorem opL_sh (a : Nat) (c : Int) (q : Nat → Int) : ∀ (l : List (Nat × Int)) (n : Nat), opL l (fun k => if a ≤ k then c * q (k - a) else 0) n = if a ≤ n then c * opL l q (n - a) else 0
  | [], n => by
    unfold opL
    split <;> simp
  | (b, d) :: l, n => by
    unfold opL
    rw [opL_sh a c q l n]
    have e : n - b - a = n - a - b := by omega
    show (if b ≤ n then d * (if a ≤ n - b then c * q (n - b - a) else 0) else 0) + (if a ≤ n then c * opL l q (n - a) else 0) = if a ≤ n then c * ((if b ≤ n - a then d * q (n - a - b) else 0) + opL l q (n - a)) else 0
    by_cases h1 : b ≤ n
    · by_cases h2 : a ≤ n
      · by_cases h3 : a ≤ n - b
        · rw [if_pos h1, if_pos h3, if_pos h2, if_pos h2, if_pos (show b ≤ n - a by omega), e]
          grind
        · rw [if_pos h1, if_neg h3, if_pos h2, if_pos h2, if_neg (show ¬ b ≤ n - a by omega)]
          grind
      · rw [if_pos h1, if_neg (show ¬ a ≤ n - b by omega), if_neg h2, if_neg h2]
        grind
    · by_cases h2 : a ≤ n
      · rw [if_neg h1, if_pos h2, if_pos h2, if_neg (show ¬ b ≤ n - a by omega)]
        grind
      · rw [if_neg h1, if_neg h2, if_neg h2]
        grind
theorem opL_comm (k : List (Nat × Int)) (q : Nat → Int) : ∀ (l : List (Nat × Int)) (n : Nat), opL l (opL k q) n = opL k (opL l q) n
  | [], n => by
    have e : opL ([] : List (Nat × Int)) q = fun _ => 0 := rfl
    rw [e, opL_zero]
    rfl
  | (a, c) :: l, n => by
    have e : opL ((a, c) :: l) q = fun n => (if a ≤ n then c * q (n - a) else 0) + opL l q n := by
      funext n
      rfl
    rw [e, opL_add, opL_sh, ← opL_comm k q l n]
    rfl
def dl (l : List (Nat × Int)) : List (Nat × Int) := l.map fun p => (p.1, (p.1 : Int) * p.2)
def th (q : Nat → Int) (n : Nat) : Int := (n : Int) * q n
theorem th_op (q : Nat → Int) : ∀ (l : List (Nat × Int)) (n : Nat), th (opL l q) n = opL l (th q) n + opL (dl l) q n
  | [], n => by simp [th, opL, dl]
  | (a, c) :: l, n => by
    have ih := th_op q l n
    show (n : Int) * ((if a ≤ n then c * q (n - a) else 0) + opL l q n) = ((if a ≤ n then c * th q (n - a) else 0) + opL l (th q) n) + ((if a ≤ n then ((a : Int) * c) * q (n - a) else 0) + opL (dl l) q n)
    have ih' : (n : Int) * opL l q n = opL l (th q) n + opL (dl l) q n := ih
    by_cases h : a ≤ n
    · rw [if_pos h, if_pos h, if_pos h]
      have e : ((n - a : Nat) : Int) = (n : Int) - a := by omega
      unfold th at *
      rw [e]
      grind
    · rw [if_neg h, if_neg h, if_neg h]
      grind
theorem pw_rec (l : List (Nat × Int)) : ∀ (m n : Nat), opL l (th (pw l m)) n = (m : Int) * opL (dl l) (pw l m) n
  | 0, n => by
    have e : th (pw l 0) = fun _ => 0 := by
      funext k
      unfold th pw delta
      by_cases h : k = 0
      · subst h; simp
      · rw [if_neg h]; simp
    rw [e, opL_zero]
    simp
  | m + 1, n => by
    have e : th (pw l (m + 1)) = fun k => (m : Int) * opL (dl l) (pw l m) k + opL (dl l) (pw l m) k := by
      funext k
      show th (opL l (pw l m)) k = _
      rw [th_op, pw_rec l m k]
    rw [e, opL_add, opL_mul]
    have c := opL_comm (dl l) (pw l m) l n
    have c2 : opL (dl l) (pw l (m + 1)) n = opL (dl l) (opL l (pw l m)) n := rfl
    rw [c2, c]
    grind
/-- what the weights ahead tell of the next one -/
def recT (m : Nat) (q : Nat → Int) : List (Nat × Int) → Nat → Int
  | [], _ => 0
  | (a, c) :: l, n => (if a ≤ n then ((m : Int) * a - n + a) * c * q (n - a) else 0) + recT m q l n
theorem recT_eq (m : Nat) (q : Nat → Int) : ∀ (l : List (Nat × Int)) (n : Nat), recT m q l n = (m : Int) * opL (dl l) q n - opL l (th q) n
  | [], n => by simp [recT, opL, dl]
  | (a, c) :: l, n => by
    have ih := recT_eq m q l n
    show (if a ≤ n then ((m : Int) * a - n + a) * c * q (n - a) else 0) + recT m q l n = (m : Int) * ((if a ≤ n then ((a : Int) * c) * q (n - a) else 0) + opL (dl l) q n) - ((if a ≤ n then c * th q (n - a) else 0) + opL l (th q) n)
    by_cases h : a ≤ n
    · rw [if_pos h, if_pos h, if_pos h, ih]
      have e : ((n - a : Nat) : Int) = (n : Int) - a := by omega
      unfold th
      rw [e]
      grind
    · rw [if_neg h, if_neg h, if_neg h, ih]
      grind
theorem pw_next (f : Int) (r : List (Nat × Int)) (m n : Nat) : f * n * pw ((0, f) :: r) m n = recT m (pw ((0, f) :: r) m) r n := by
  have h := pw_rec ((0, f) :: r) m n
  have e1 : opL ((0, f) :: r) (th (pw ((0, f) :: r) m)) n = f * th (pw ((0, f) :: r) m) n + opL r (th (pw ((0, f) :: r) m)) n := by
    show (if 0 ≤ n then f * th _ (n - 0) else 0) + _ = _
    rw [if_pos (Nat.zero_le _), Nat.sub_zero]
  have e2 : opL (dl ((0, f) :: r)) (pw ((0, f) :: r) m) n = opL (dl r) (pw ((0, f) :: r) m) n := by
    show (if 0 ≤ n then ((0 : Nat) : Int) * f * pw _ _ (n - 0) else 0) + _ = _
    rw [if_pos (Nat.zero_le _)]
    simp
    rfl
  rw [e1, e2] at h
  rw [recT_eq]
  have e3 : th (pw ((0, f) :: r) m) n = (n : Int) * pw ((0, f) :: r) m n := rfl
  rw [e3] at h
  grind
theorem pw_zero (f : Int) {r : List (Nat × Int)} (h : ∀ p ∈ r, 1 ≤ p.1) : ∀ m, pw ((0, f) :: r) m 0 = f ^ m
  | 0 => by
    rw [Int.pow_zero]
    rfl
  | m + 1 => by
    have z : ∀ (l : List (Nat × Int)), (∀ p ∈ l, 1 ≤ p.1) → ∀ q : Nat → Int, opL l q 0 = 0 := by
      intro l
      induction l with
      | nil => intros; rfl
      | cons p l ih =>
        intro hl q
        have h1 := hl p (List.mem_cons_self ..)
        show (if p.1 ≤ 0 then p.2 * q (0 - p.1) else 0) + opL l q 0 = 0
        rw [if_neg (by omega), ih (fun x hx => hl x (List.mem_cons_of_mem _ hx)), Int.zero_add]
    show (if 0 ≤ 0 then f * pw ((0, f) :: r) m (0 - 0) else 0) + opL r (pw ((0, f) :: r) m) 0 = _
    rw [if_pos (Nat.le_refl _), z r h, pw_zero f h m, Int.pow_succ]
    grind
theorem opL_nn {q : Nat → Int} (hq : ∀ n, 0 ≤ q n) : ∀ (l : List (Nat × Int)) (n : Nat), (∀ p ∈ l, 0 ≤ p.2) → 0 ≤ opL l q n
  | [], _, _ => Int.le_refl _
  | (a, c) :: l, n, h => by
    have h1 := opL_nn hq l n fun p hp => h p (List.mem_cons_of_mem _ hp)
    have h2 : 0 ≤ c := h (a, c) (List.mem_cons_self ..)
    show 0 ≤ (if a ≤ n then c * q (n - a) else 0) + opL l q n
    by_cases h3 : a ≤ n
    · rw [if_pos h3]
      have := Int.mul_nonneg h2 (hq (n - a))
      omega
    · rw [if_neg h3]
      omega
theorem pw_nn {l : List (Nat × Int)} (h : ∀ p ∈ l, 0 ≤ p.2) : ∀ m n, 0 ≤ pw l m n
  | 0, n => by
    show 0 ≤ (if n = 0 then (1 : Int) else 0)
    split <;> decide
  | m + 1, n => opL_nn (pw_nn h m) l n h
def wsum (l : List (Nat × Int)) : Int := (l.map (·.2)).sum
theorem opL_le {q : Nat → Int} {B : Int} (hq : ∀ n, 0 ≤ q n ∧ q n ≤ B) (hB : 0 ≤ B) : ∀ (l : List (Nat × Int)) (n : Nat), (∀ p ∈ l, 0 ≤ p.2) → opL l q n ≤ wsum l * B
  | [], _, _ => by simp [opL, wsum]
  | (a, c) :: l, n, h => by
    have h1 := opL_le hq hB l n fun p hp => h p (List.mem_cons_of_mem _ hp)
    have h2 : 0 ≤ c := h (a, c) (List.mem_cons_self ..)
    have e : wsum ((a, c) :: l) * B = c * B + wsum l * B := by
      unfold wsum
      rw [List.map_cons, List.sum_cons, Int.add_mul]
    rw [e]
    show (if a ≤ n then c * q (n - a) else 0) + opL l q n ≤ _
    by_cases h3 : a ≤ n
    · rw [if_pos h3]
      have := Int.mul_le_mul_of_nonneg_left (hq (n - a)).2 h2
      omega
    · rw [if_neg h3]
      have := Int.mul_nonneg h2 hB
      omega
theorem wsum_nn {l : List (Nat × Int)} (h : ∀ p ∈ l, 0 ≤ p.2) : 0 ≤ wsum l := by
  induction l with
  | nil => exact Int.le_refl _
  | cons p l ih =>
    unfold wsum at *
    rw [List.map_cons, List.sum_cons]
    have := h p (List.mem_cons_self ..)
    have := ih fun x hx => h x (List.mem_cons_of_mem _ hx)
    omega
theorem pw_le {l : List (Nat × Int)} (h : ∀ p ∈ l, 0 ≤ p.2) : ∀ m n, pw l m n ≤ wsum l ^ m
  | 0, n => by
    show (if n = 0 then (1 : Int) else 0) ≤ _
    rw [Int.pow_zero]
    split <;> decide
  | m + 1, n => by
    have z := opL_le (q := pw l m) (B := wsum l ^ m) (fun k => ⟨pw_nn h m k, pw_le h m k⟩) (Int.pow_nonneg (wsum_nn h)) l n h
    rw [Int.pow_succ, Int.mul_comm]
    exact z
/-- beyond the greatest of all nothing comes -/
theorem pw_top {l : List (Nat × Int)} {t : Nat} (h : ∀ p ∈ l, p.1 ≤ t) : ∀ m n, t * m < n → pw l m n = 0
  | 0, n, hn => by
    show (if n = 0 then (1 : Int) else 0) = 0
    rw [if_neg (by omega)]
  | m + 1, n, hn => by
    have hn' : t * m + t < n := by rw [Nat.mul_succ] at hn; exact hn
    have z : ∀ (k : List (Nat × Int)), (∀ p ∈ k, p.1 ≤ t) → opL k (pw l m) n = 0 := by
      intro k
      induction k with
      | nil => intros; rfl
      | cons p k ih =>
        intro hk
        have h1 := hk p (List.mem_cons_self ..)
        show (if p.1 ≤ n then p.2 * pw l m (n - p.1) else 0) + opL k (pw l m) n = 0
        rw [if_pos (by omega), pw_top h m (n - p.1) (by omega), ih (fun x hx => hk x (List.mem_cons_of_mem _ hx))]
        simp
    exact z l h
/-- numbers counted in steps from the least one -/
def spread (lo st : Nat) (l : List (Nat × Int)) : List (Nat × Int) := l.map fun p => (lo + st * p.1, p.2)
def spreadF (lo st : Nat) (q : Nat → Int) (n : Nat) : Int := if lo ≤ n ∧ st ∣ (n - lo) then q ((n - lo) / st) else 0
theorem op_spread {lo st b : Nat} (hs : 0 < st) (q : Nat → Int) : ∀ (l : List (Nat × Int)) (n : Nat),
    opL (spread lo st l) (spreadF b st q) n = spreadF (b + lo) st (opL l q) n
  | [], n => by
    show 0 = if b + lo ≤ n ∧ st ∣ (n - (b + lo)) then (0 : Int) else 0
    split <;> rfl
  | (a, c) :: l, n => by
    have ih := op_spread (lo := lo) (b := b) hs q l n
    show (if lo + st * a ≤ n then c * spreadF b st q (n - (lo + st * a)) else 0) + opL (spread lo st l) (spreadF b st q) n = _
    rw [ih]
    unfold spreadF
    by_cases h : b + lo ≤ n ∧ st ∣ (n - (b + lo))
    · obtain ⟨h1, k, hk⟩ := h
      have hn : n = b + lo + st * k := by omega
      subst hn
      have ek : (b + lo + st * k - (b + lo)) / st = k := by
        rw [Nat.add_sub_cancel_left, Nat.mul_div_cancel_left _ hs]
      have hd : b + lo ≤ b + lo + st * k ∧ st ∣ b + lo + st * k - (b + lo) := ⟨by omega, ⟨k, by omega⟩⟩
      rw [if_pos hd, if_pos hd, ek]
      show _ = (if a ≤ k then c * q (k - a) else 0) + opL l q k
      congr 1
      by_cases hak : a ≤ k
      · obtain ⟨j, rfl⟩ : ∃ j, k = a + j := ⟨k - a, by omega⟩
        have e : st * (a + j) = st * a + st * j := Nat.mul_add _ _ _
        have e2 : b + lo + st * (a + j) - (lo + st * a) = b + st * j := by omega
        rw [if_pos (by omega), e2, if_pos ⟨by omega, ⟨j, by omega⟩⟩, if_pos hak, show b + st * j - b = st * j by omega, Nat.mul_div_cancel_left _ hs, Nat.add_sub_cancel_left]
      · obtain ⟨j, rfl⟩ : ∃ j, a = k + 1 + j := ⟨a - k - 1, by omega⟩
        have e : st * (k + 1 + j) = st * k + st + st * j := by rw [Nat.mul_add, Nat.mul_add, Nat.mul_one]
        rw [if_neg hak]
        split
        · rename_i h3
          rw [if_neg (by intro z; omega)]
          simp
        · rfl
    · rw [if_neg h, if_neg h, Int.add_zero]
      split
      · rename_i h3
        rw [if_neg]
        · simp
        · rintro ⟨h4, k, hk⟩
          refine h ⟨by omega, a + k, ?_⟩
          rw [Nat.mul_add]
          omega
      · rfl
theorem pw_spread {lo st : Nat} (hs : 0 < st) (l : List (Nat × Int)) : ∀ m, pw (spread lo st l) m = spreadF (lo * m) st (pw l m)
  | 0 => by
    funext n
    show (if n = 0 then (1 : Int) else 0) = if lo * 0 ≤ n ∧ st ∣ (n - lo * 0) then (if (n - lo * 0) / st = 0 then (1 : Int) else 0) else 0
    rw [Nat.mul_zero, Nat.sub_zero]
    by_cases h : n = 0
    · subst h
      rw [if_pos rfl, if_pos ⟨Nat.le_refl _, ⟨0, rfl⟩⟩, if_pos (Nat.zero_div _)]
    · rw [if_neg h]
      split
      · rename_i h2
        obtain ⟨_, k, rfl⟩ := h2
        rw [Nat.mul_div_cancel_left _ hs, if_neg]
        intro z
        subst z
        exact h rfl
      · rfl
  | m + 1 => by
    funext n
    show opL (spread lo st l) (pw (spread lo st l) m) n = _
    rw [pw_spread hs l m, op_spread hs]
    rw [Nat.mul_succ]
    rfl
theorem pw_single (lo : Nat) (f : Int) (m n : Nat) : pw [(lo, f)] m n = if n = lo * m then f ^ m else 0 := by
  have e : [(lo, f)] = spread lo 1 [(0, f)] := rfl
  rw [e, pw_spread (by decide)]
  have z : ∀ m k, pw [(0, f)] m k = if k = 0 then f ^ m else 0 := by
    intro m
    induction m with
    | zero =>
      intro k
      rw [Int.pow_zero]
      rfl
    | succ m ih =>
      intro k
      show (if 0 ≤ k then f * pw [(0, f)] m (k - 0) else 0) + 0 = _
      rw [if_pos (Nat.zero_le _), Nat.sub_zero, ih, Int.pow_succ]
      split <;> grind
  unfold spreadF
  rw [Nat.div_one, z]
  by_cases h : n = lo * m
  · subst h
    rw [if_pos ⟨Nat.le_refl _, ⟨_, (Nat.one_mul _).symm⟩⟩, Nat.sub_self, if_pos rfl, if_pos rfl]
  · rw [if_neg h]
    split
    · rename_i h2
      rw [if_neg (by omega)]
    · rfl
end Ev

set_option exponentiation.threshold 20000
/-! math.lcm and math.comb, by the hand layer; sizes of powers -/
namespace Ev
open PySem PySem.Spec PyProof.Rows L2
def rLcm : List V → Hp → VK → Prop := fun vs H Q => ∃ a b : Int, vs = [.int a, .int b] ∧ a.natAbs < 2 ^ 13000 ∧ b.natAbs < 2 ^ 13000 ∧ Q (.int ((Nat.lcm a.natAbs b.natAbs : Nat) : Int)) H
theorem lcm_small {m n : Nat} (hm : m < 2 ^ 13000) (hn : n < 2 ^ 13000) : (Nat.lcm m n).log2 < 26001 := by
  refine PySem.Flt.log2_lt_of (n := Nat.lcm m n) (by decide) ?_
  have h1 := PySem.W.mc_lcm_le m n
  have h2 : m * n < 2 ^ 13000 * 2 ^ 13000 := Nat.mul_lt_mul'' hm hn
  rw [← Nat.pow_add] at h2
  exact Nat.lt_of_le_of_lt h1 (Nat.lt_trans h2 (Nat.pow_lt_pow_right (by decide) (by decide)))
theorem cr_lcm {X : Cx} : CallR X (.builtin "math.lcm") rLcm := by
  intro pins s σ H vs us Q I r h
  obtain ⟨a, b, rfl, ha, hb, q⟩ := h
  obtain ⟨t, u, rfl⟩ := Vals.int2 r
  have l1 : (max 1 a.natAbs).log2 < 13000 := PySem.Flt.log2_lt_of (by decide) (Nat.max_lt.mpr ⟨Nat.one_lt_pow (by decide) (by decide), ha⟩)
  have l2 : (max a.natAbs b.natAbs).log2 < 13000 := PySem.Flt.log2_lt_of (by decide) (Nat.max_lt.mpr ⟨ha, hb⟩)
  have l3 := lcm_small ha hb
  have e := PySem.W.mc_lcm_one a.natAbs
  have big : 26001 ≤ bitsLine := by decide
  refine call_function_meets PySem.W.MGF.kind_lcm PySem.W.MGF.plain_lcm PySem.W.MGF.entry_lcm (PySem.W.MGF.args_lcm _ _) (PySem.W.mg_run_lcm a t b u (by omega) (by omega) ?_).meets ?_
  · rw [e]
    show (Nat.lcm a.natAbs b.natAbs).log2 < bitsLine
    omega
  · rw [e]
    exact ⟨.int _, H, I.tok _, ⟨_, rfl⟩, q⟩
def rComb : List V → Hp → VK → Prop := fun vs H Q => ∃ a b : Int, vs = [.int a, .int b] ∧ 0 ≤ a ∧ 0 ≤ b ∧ a < 2 ^ 64 ∧ b ≤ 9000 ∧ Q (.int (PySem.W.mcComb a b)) H
theorem cr_comb {X : Cx} : CallR X (.builtin "math.comb") rComb := by
  intro pins s σ H vs us Q I r h
  obtain ⟨a, b, rfl, ha, hb, h1, h2, q⟩ := h
  obtain ⟨t, u, rfl⟩ := Vals.int2 r
  exact PySem.W.mc_comb ha hb h1 (.inl h2) fun _ => ⟨.int _, H, I.tok _, ⟨_, rfl⟩, q⟩
theorem pow_lt {b : Int} {s : Nat} (h : b.natAbs < 2 ^ s) (n : Nat) : (b ^ n).natAbs < 2 ^ (s * n + 1) := by
  rw [Int.natAbs_pow]
  have h1 : b.natAbs ^ n ≤ (2 ^ s) ^ n := Nat.pow_le_pow_left (Nat.le_of_lt h) n
  rw [← Nat.pow_mul] at h1
  exact Nat.lt_of_le_of_lt h1 (Nat.pow_lt_pow_right (by decide) (Nat.lt_succ_self _))
theorem and_one (e : Nat) : Builtin.bitAnd (e : Int) 1 = ((e % 2 : Nat) : Int) := by
  have z : Builtin.bitAnd (e : Int) (2 ^ 1 - 1) = (e : Int) % 2 ^ 1 := Bits.bitAnd_mask 1 (by omega)
  rw [show ((2 : Int) ^ 1 - 1) = 1 by decide, show ((2 : Int) ^ 1) = 2 by decide] at z
  omega
/-! ### rows of pairs -/
abbrev prD (x y : Int) : PyData := .tuple [.int x, .int y]
section
variable {K : PySem.W.Frag} {Z : Addr → Prop} {H : Hp}
theorem dx_prD {v : V} {x y : Int} (h : Dx K Z H v (prD x y)) : ∃ a, v = .ref a ∧ SqT K H a [.int x, .int y] := by
  obtain ⟨a, xs, rfl, hs, hd⟩ := dx_tup h
  cases hd with
  | cons h1 r1 =>
    cases r1 with
    | cons h2 r2 =>
      cases r2
      rw [dx_int h1, dx_int h2] at hs
      exact ⟨a, rfl, hs⟩
theorem dx_word {v : V} {x : Str} {d : PyData} (h : Dx K Z H v (.tuple [.str x, d])) : ∃ a u, v = .ref a ∧ SqT K H a [.str x, u] ∧ Dx K Z H u d := by
  obtain ⟨a, xs, rfl, hs, hd⟩ := dx_tup h
  cases hd with
  | cons h1 r1 =>
    cases r1 with
    | cons h2 r2 =>
      cases r2
      rw [dx_str h1] at hs
      exact ⟨a, _, rfl, hs, h2⟩
theorem prD_dx {a : Addr} {x y : Int} (h : SqT K H a [.int x, .int y]) : Dx K Z H (.ref a) (prD x y) := .tup h (.cons (.int _) (.cons (.int _) .nil))
theorem prs_at {vs : List V} {l : List (Int × Int)} {i : Nat} {v : V} (h : DxAll K Z H vs (l.map fun q => prD q.1 q.2)) (e : vs[i]? = some v) :
    ∃ x y a, l[i]? = some (x, y) ∧ v = .ref a ∧ SqT K H a [.int x, .int y] := by
  obtain ⟨d, h1, h2⟩ := dxAll_get h e
  rw [List.getElem?_map] at h1
  cases q : l[i]? with
  | none => rw [q] at h1; cases h1
  | some p =>
    rw [q] at h1
    cases h1
    obtain ⟨a, ea, hs⟩ := dx_prD h2
    exact ⟨p.1, p.2, a, rfl, ea, hs⟩
theorem prs_to {vs : List V} {l : List (Int × Int)} {i : Nat} {p : Int × Int} (h : DxAll K Z H vs (l.map fun q => prD q.1 q.2)) (e : l[i]? = some p) :
    ∃ a, vs[i]? = some (.ref a) ∧ SqT K H a [.int p.1, .int p.2] := by
  obtain ⟨v, h1, h2⟩ := dxAll_at h (i := i) (d := prD p.1 p.2) (by rw [List.getElem?_map, e]; rfl)
  obtain ⟨a, rfl, hs⟩ := dx_prD h2
  exact ⟨a, h1, hs⟩
theorem ix0 {x : V} {xs : List V} : atI (x :: xs) 0 = some x := atI_nat (j := 0) rfl
theorem ix1 {x y : V} {xs : List V} : atI (x :: y :: xs) 1 = some y := atI_nat (j := 1) rfl
theorem dxAll_new {p : Addr} {o : HO} {vs : List V} {ds : List PyData} (hp : H p = none) (h : DxAll K Z H vs ds) : DxAll K Z (upd H p o) vs ds := dxAll_same (same_new hp) h
end
/-! ### the whole of which weights are parts -/
def wholeN (l : List (Int × Int × Int)) : Nat := l.foldl (fun w q => Nat.lcm w q.2.2.natAbs) 1
def sdD (q : Int × Int × Int) : PyData := .tuple [.int q.1, .tuple [.int q.2.1, .int q.2.2]]
def wts (l : List (Int × Int × Int)) : List (Int × Int) := l.map fun q => (q.1, q.2.1 * ((wholeN l : Int) / q.2.2))
theorem fold_lcm_dvd : ∀ (l : List (Int × Int × Int)) (w : Nat), w ∣ l.foldl (fun w q => Nat.lcm w q.2.2.natAbs) w
  | [], w => Nat.dvd_refl _
  | q :: l, w => Nat.dvd_trans (Nat.dvd_lcm_left _ _) (fold_lcm_dvd l _)
theorem fold_lcm_pos : ∀ (l : List (Int × Int × Int)) (w : Nat), 0 < w → (∀ q ∈ l, 1 ≤ q.2.2) → 0 < l.foldl (fun w q => Nat.lcm w q.2.2.natAbs) w
  | [], w, h, _ => h
  | q :: l, w, h, hl => fold_lcm_pos l _ (Nat.lcm_pos h (by have := hl q (List.mem_cons_self ..); omega)) fun x hx => hl x (List.mem_cons_of_mem _ hx)
theorem fold_lcm_mem : ∀ (l : List (Int × Int × Int)) (w : Nat), ∀ q ∈ l, q.2.2.natAbs ∣ l.foldl (fun w q => Nat.lcm w q.2.2.natAbs) w
  | [], w, q, h => nomatch h
  | p :: l, w, q, h => by
    rcases List.mem_cons.mp h with rfl | h
    · exact Nat.dvd_trans (Nat.dvd_lcm_right _ _) (fold_lcm_dvd l _)
    · exact fold_lcm_mem l _ q h
theorem whole_take {l : List (Int × Int × Int)} {i : Nat} {q : Int × Int × Int} (h : l[i]? = some q) : wholeN (l.take (i + 1)) = Nat.lcm (wholeN (l.take i)) q.2.2.natAbs := by
  unfold wholeN
  rw [List.take_add_one, h, List.foldl_append]
  rfl
theorem whole_part (l : List (Int × Int × Int)) (i : Nat) : wholeN (l.take i) ∣ wholeN l := by
  have e : wholeN l = (l.drop i).foldl (fun w q => Nat.lcm w q.2.2.natAbs) (wholeN (l.take i)) := by
    unfold wholeN
    rw [← List.foldl_append, List.take_append_drop]
  rw [e]
  exact fold_lcm_dvd _ _
theorem whole_pos {l : List (Int × Int × Int)} (h : ∀ q ∈ l, 1 ≤ q.2.2) : 0 < wholeN l := fold_lcm_pos l 1 (by decide) h
theorem whole_mem {l : List (Int × Int × Int)} {q : Int × Int × Int} (h : q ∈ l) : q.2.2.natAbs ∣ wholeN l := fold_lcm_mem l 1 q h
end Ev

set_option exponentiation.threshold 20000
namespace Ev
open PySem PySem.Spec PyProof.Rows L2
section
variable {P : Program} {w : World} {K : PySem.W.Frag} {mg : Str → Option Value} {base : Heap} {A : Nat → Addr} {D : Nat → FuncData}
/-! ### the weights of sides -/
def NoP : Addr → Prop := fun _ => False
def sp_side_weights (K : PySem.W.Frag) : Sp := fun vs H Q _ => ∃ (Z : Addr → Prop) (v : V) (l : List (Int × Int × Int)), vs = [v] ∧ Dx K Z H v (.tuple (l.map sdD)) ∧
  (∀ q ∈ l, 1 ≤ q.2.2 ∧ q.2.1.natAbs < 2 ^ 8900) ∧ wholeN l < 2 ^ 8900 ∧ l.length ≤ 1000 ∧
  ∀ (H' : Hp) (p W : Addr) (ws : List V), Same H H' → H' p = some (.tup [.ref W, .int (wholeN l)]) → H' W = some (.lst ws) → DxAll K NoP H' ws ((wts l).map fun q => prD q.1 q.2) → Q (.ref p) H'
theorem dx_sdD {K : PySem.W.Frag} {Z : Addr → Prop} {H : Hp} {v : V} {q : Int × Int × Int} (h : Dx K Z H v (sdD q)) : ∃ a b, v = .ref a ∧ SqT K H a [.int q.1, .ref b] ∧ SqT K H b [.int q.2.1, .int q.2.2] := by
  obtain ⟨a, xs, rfl, hs, hd⟩ := dx_tup h
  cases hd with
  | cons h1 r1 =>
    cases r1 with
    | cons h2 r2 =>
      cases r2
      obtain ⟨b, rfl, hb⟩ := dx_prD h2
      rw [dx_int h1] at hs
      exact ⟨a, b, rfl, hs, hb⟩
theorem sds_at {K : PySem.W.Frag} {Z : Addr → Prop} {H : Hp} {vs : List V} {l : List (Int × Int × Int)} {i : Nat} {v : V} (h : DxAll K Z H vs (l.map sdD)) (e : vs[i]? = some v) :
    ∃ q a b, l[i]? = some q ∧ v = .ref a ∧ SqT K H a [.int q.1, .ref b] ∧ SqT K H b [.int q.2.1, .int q.2.2] := by
  obtain ⟨d, h1, h2⟩ := dxAll_get h e
  rw [List.getElem?_map] at h1
  cases q : l[i]? with
  | none => rw [q] at h1; cases h1
  | some p =>
    rw [q] at h1
    cases h1
    obtain ⟨a, b, ea, hs, hb⟩ := dx_sdD h2
    exact ⟨p, a, b, rfl, ea, hs, hb⟩
theorem Txt.ok_side_weights (T : Txt K mg A D) : FnOk P w K mg base CX0 1 (A 20) (D 20) ["sides"] (sp_side_weights K) := by
  refine T.F_side_weights.ok sc_side_weights (fun vs H Q E h => ?_) (fun cdv Ar outer s H vs Q E hr h => ?_)
  · obtain ⟨Z, v, l, rfl, _⟩ := h
    rfl
  · obtain ⟨Z, v, l, rfl, hd, hl, hw, hn, q⟩ := h
    obtain ⟨a, xs, rfl, hS, dx⟩ := dx_tup hd
    have lx : xs.length = l.length := by rw [dxAll_len dx, List.length_map]
    have wp := whole_pos (l := l) fun q hq => (hl q hq).1
    have wle : ∀ i, wholeN (l.take i) ≤ wholeN l := fun i => Nat.le_of_dvd wp (whole_part l i)
    refine ⟨_, (pss_cons (ps_set (i := 1) sc_side_weights.nd rfl (Or.inr rfl) pe_int)
    (pss_cons (ps_for PassesOwn.never rfl (pi_tup (pv 0)) (pg_tup rfl (pgs_cons (pg_name (i := 2) sc_side_weights.nd rfl (Or.inl rfl)) (pgs_cons (pg_name (i := 3) sc_side_weights.nd rfl (Or.inl rfl)) pgs_nil))) (pss_one (ps_set (i := 1) sc_side_weights.nd rfl (Or.inr rfl) (pe_callBfun cr_lcm (by rfl) T.z_lcm (pa_cons (pv 1) (pa_cons (pe_ix ix_tup (pv 3) pe_int (fun _ _ => rfl)) pa_nil))))))
    (pss_one (ps_ret (pe_tup (pa_cons (pe_lc (own := [("number", 4), ("share", 3)]) (g := gTup K 2 (gCons (gName 4) (gCons (gName 3) gNil))) (tt := tYes) rfl sc_side_weights.nd (pi_tup (pv 0)) (blkOk_by (N := ["sides", "whole", "_", "share", "number"]) (sc := defScope s_side_weights) (by decide +kernel)) (fun _ _ _ _ _ => (pg_tup rfl (pgs_cons (pg_name (i := 4) sc_side_weights.nd rfl (Or.inl rfl)) (pgs_cons (pg_name (i := 3) sc_side_weights.nd rfl (Or.inl rfl)) pgs_nil)))) (fun _ _ _ _ _ => pts_nil) (fun _ _ _ _ _ => (pe_tup (pa_cons (pv 4) (pa_cons (pe_op op_mulW (pe_ix (show IxR _ (rIxT K) from ix_tup) (pv 3) pe_int (fun _ _ => rfl)) (pe_op op_fdivW (pv 1) (pe_ix (show IxR _ (rIxT K) from ix_tup) (pv 3) pe_int (fun _ _ => rfl)))) pa_nil))))) (pa_cons (pv 1) pa_nil))))))), ?_⟩
    refine ⟨_, rfl, a, rfl, ⟨_, hS⟩, for_it walk_tup (fun i σ H' => H' = H ∧ ∃ y1 y2 : Option V, σ = [some (.ref a), some (.int (wholeN (l.take i))), y1, y2, none]) ⟨rfl, none, none, rfl⟩ (fun i σ H' _ z => by rw [z.1]; exact hS) ?_ ?_⟩
    · rintro i x σ H2 H3 hi ⟨rfl, y1, y2, rfl⟩ ⟨rfl, hx⟩
      obtain ⟨c, t, t2, hc, rfl, ht, ht2⟩ := sds_at dx hx
      have hm := List.mem_of_getElem? hc
      have yl : c.2.2.natAbs ≤ wholeN l := Nat.le_of_dvd wp (whole_mem hm)
      have big : (2 : Nat) ^ 8900 ≤ 2 ^ 13000 := Nat.pow_le_pow_right (by decide) (by decide)
      refine ⟨t, _, rfl, ht, rfl, _, _, rfl, _, _, rfl, rfl, ?_⟩
      refine ⟨_, rfl, _, rfl, t2, _, _, _, rfl, rfl, ht2, ix1, _, _, rfl, ?_, ?_, rfl, some (.int c.1), some (.ref t2), ?_⟩
      · have := wle i
        show wholeN (l.take i) < 2 ^ 13000
        omega
      · omega
      · rw [whole_take hc]
        rfl
    · rintro σ H2 ⟨rfl, y1, y2, rfl⟩
      rw [lx, List.take_length]
      refine ⟨_, rfl, a, rfl, ⟨_, hS⟩, fun D1 hD1 => ?_⟩
      refine lc_it walk_tup (fun i H' => Same H2 H' ∧ ∃ ws : List V, H' D1 = some (.lst ws) ∧ DxAll K NoP H' ws (((wts l).take i).map fun q => prD q.1 q.2)) ⟨same_new hD1, [], upd_same, .nil⟩ (fun i H' _ z => Ev.Same.seqT z.1 hS) ?_ ?_
      · rintro i x H5 H6 hi ⟨sm, ws, hW, dW⟩ ⟨rfl, hx⟩
        obtain ⟨c, t, t2, hc, rfl, ht, ht2⟩ := sds_at dx hx
        have hm := List.mem_of_getElem? hc
        have yl : c.2.2.natAbs ≤ wholeN l := Nat.le_of_dvd wp (whole_mem hm)
        have y1 := (hl c hm).1
        have ql : ((wholeN l : Int) / c.2.2).natAbs < 2 ^ 8900 := by
          have h1 : (wholeN l : Int) / c.2.2 ≤ wholeN l := Int.ediv_le_self _ (by omega)
          have h2 : 0 ≤ (wholeN l : Int) / c.2.2 := Int.ediv_nonneg (by omega) (by omega)
          omega
        refine ⟨t, _, rfl, Ev.Same.seqT sm ht, rfl, _, _, rfl, _, _, rfl, rfl, ?_⟩
        refine ⟨rfl, yes_of ?_⟩
        refine ⟨_, rfl, _, rfl, t2, _, _, _, rfl, rfl, Ev.Same.seqT sm ht2, ix0, _, rfl, _, rfl, t2, _, _, _, rfl, rfl, Ev.Same.seqT sm ht2, ix1, _, _, rfl, rfl, ?_, _, _, rfl, rfl, ?_, (by show 2 ≤ sizeLine; decide), fun p8 hp8 => ?_⟩
        · exact wide_div (b := 8900) (by omega) (by omega) (by decide) (by decide)
        · exact wide_mul (hl c hm).2 ql (by decide) (by decide) (by decide)
        refine ⟨ws, same_new hp8 _ _ hW, ?_, same_put (sm.trans (same_new hp8)) hD1, ws ++ [.ref p8], upd_same, ?_⟩
        · have h1 := dxAll_len dW
          rw [List.length_map, List.length_take] at h1
          exact small1000 (by omega)
        · have hz : (wts l)[i]? = some (c.1, c.2.1 * ((wholeN l : Int) / c.2.2)) := by
            unfold wts
            rw [List.getElem?_map, hc]
            rfl
          rw [List.take_add_one, hz, List.map_append]
          have d1 : DxAll K NoP (upd H6 p8 (.tup [.int c.1, .int (c.2.1 * ((wholeN l : Int) / c.2.2))])) (ws ++ [.ref p8]) _ := dxAll_app (dxAll_new hp8 dW) (.cons (prD_dx (SqT.of upd_same)) .nil)
          refine dxAll_keep (fun a' zs e => ?_) (fun a' o z e => z.elim) d1
          rcases e with (e | ⟨ob, e⟩) | e
          · exact .inl (.inl (by rw [upd_ne (ne_of e (same_new hp8 _ _ hW) (by intro z; cases z))]; exact e))
          · exact .inl (.inr ⟨ob, by rw [upd_ne (ne_of e (same_new hp8 _ _ hW) (by intro z; cases z))]; exact e⟩)
          · exact .inr e
      · rintro H5 ⟨sm, ws, hW, dW⟩
        have full : (wts l).take xs.length = wts l := List.take_of_length_le (by unfold wts; rw [List.length_map]; omega)
        rw [full] at dW
        refine ⟨_, rfl, (by show 2 ≤ sizeLine; decide), fun p9 hp9 => ?_⟩
        exact q _ p9 D1 ws (sm.trans (same_new hp9)) upd_same (same_new hp9 _ _ hW) (dxAll_new hp9 dW)
end
end Ev

set_option exponentiation.threshold 20000
namespace Ev
open PySem PySem.Spec PyProof.Rows L2
section
variable {P : Program} {w : World} {K : PySem.W.Frag} {mg : Str → Option Value} {base : Heap} {A : Nat → Addr} {D : Nat → FuncData}
/-! ### the program's powers, lowest terms, weights of sides -/
def sp_low : Sp := fun vs H Q _ => ∃ a b : Int, vs = [.int a, .int b] ∧ b ≠ 0 ∧ gc a b < 2 ^ 8990 ∧
  ∀ (H' : Hp) (p : Addr), Same H H' → H p = none → H' p = some (.tup [.int (fA a b), .int (fB a b)]) → Q (.ref p) H'
theorem dv_okg {a b c : Int} (h : b ≠ 0) (hb : gc a b < 2 ^ 8990) : CDivZ c (dv a b) := by
  refine ⟨dv_ne h, ?_⟩
  rw [dv_abs]
  have := PySem.Flt.log2_lt_of (by decide) hb
  exact Nat.lt_trans this (by decide)
theorem Txt.ok_lowest (T : Txt K mg A D) : FnOk P w K mg base CX0 1 (A 18) (D 18) ["a", "b"] sp_low := by
  refine T.F_lowest.ok sc_lowest (fun vs H Q E h => ?_) (fun cdv Ar outer s H vs Q E hr h => ?_)
  · obtain ⟨a, b, rfl, _⟩ := h
    rfl
  · obtain ⟨a, b, rfl, hb, sb, q⟩ := h
    refine ⟨_, (pss_cons (ps_if (pt_cmpR op_eq (pv 1) pe_int (nomark _)) (pss_one ps_never) pss_nil)
    (pss_cons (ps_set (i := 2) sc_lowest.nd rfl (Or.inl rfl) (pe_callBfun cr_gcd (by rfl) T.z_gcd (pa_cons (pv 0) (pa_cons (pv 1) pa_nil))))
    (pss_cons (ps_if (pt_cmpR op_lt (pv 1) pe_int (nomark _)) (pss_one (ps_set (i := 2) sc_lowest.nd rfl (Or.inl rfl) (pe_un un_neg (pv 2)))) pss_nil)
    (pss_one (ps_ret (pe_tup (pa_cons (pe_op op_fdivZ (pv 0) (pv 2)) (pa_cons (pe_op op_fdivZ (pv 1) (pv 2)) pa_nil)))))))), ?_⟩
    refine ⟨_, rfl, rfl, _, rfl, ite2 (fun e => absurd (V.int.inj (of_decide_eq_true e)) hb) (fun e => ?_)⟩
    refine ⟨_, rfl, _, rfl, _, _, rfl, _, rfl, _, _, rfl, rfl, _, rfl, ite2 (fun e1 => ?_) (fun e1 => ?_)⟩
    · have d : dv a b = -(gc a b : Int) := if_neg (by have := of_decide_eq_true e1; omega)
      refine ⟨_, rfl, _, rfl, _, rfl, _, rfl, _, _, rfl, rfl, by show CDivZ a (-(gc a b : Int)); rw [← d]; exact dv_okg hb sb, _, rfl, _, rfl, _, _, rfl, rfl, by show CDivZ b (-(gc a b : Int)); rw [← d]; exact dv_okg hb sb, (by show 2 ≤ sizeLine; decide), fun p hp => q _ p (same_new hp) hp ?_⟩
      rw [upd_same]
      show some (HO.tup [V.int (a.fdiv (-(gc a b : Int))), V.int (b.fdiv (-(gc a b : Int)))]) = _
      rw [← d]
      rfl
    · have d : dv a b = (gc a b : Int) := if_pos (by have := Int.not_lt.mp (fun z => e1 (decide_eq_true z)); omega)
      refine ⟨_, rfl, _, rfl, _, _, rfl, rfl, by show CDivZ a (gc a b : Int); rw [← d]; exact dv_okg hb sb, _, rfl, _, rfl, _, _, rfl, rfl, by show CDivZ b (gc a b : Int); rw [← d]; exact dv_okg hb sb, (by show 2 ≤ sizeLine; decide), fun p hp => q _ p (same_new hp) hp ?_⟩
      rw [upd_same]
      show some (HO.tup [V.int (a.fdiv (gc a b : Int)), V.int (b.fdiv (gc a b : Int))]) = _
      rw [← d]
      rfl
def sp_power : Sp := fun vs H Q _ => ∃ (b : Int) (e s : Nat), vs = [.int b, .int e] ∧ b.natAbs < 2 ^ s ∧ 2 * (s * e) + 2 ≤ 900000 ∧ Q (.int (b ^ e)) H
theorem Txt.ok_power (T : Txt K mg A D) : FnOk P w K mg base CX0 1 (A 19) (D 19) ["base", "exponent"] sp_power := by
  refine T.F_power.ok sc_power (fun vs H Q E h => ?_) (fun cdv Ar outer s H vs Q E hr h => ?_)
  · obtain ⟨b, e, s, rfl, _⟩ := h
    rfl
  · obtain ⟨b, e, z, rfl, hb, hs, q⟩ := h
    refine ⟨_, (pss_cons (ps_set (i := 2) sc_power.nd rfl (Or.inl rfl) pe_int)
    (pss_cons (ps_while PassesOwn.never (pt_cmpR op_gt (pv 1) pe_int (nomark _)) (C8.pss_cut (ps_if (pt_cmpR op_eq (pe_op op_and (pv 1) pe_int) pe_int (nomark _)) (pss_one (ps_set (i := 2) sc_power.nd rfl (Or.inl rfl) (pe_op op_mulW (pv 2) (pv 0)))) pss_nil)
    (pss_cons (ps_set (i := 0) sc_power.nd rfl (Or.inl rfl) (pe_op op_mulW (pv 0) (pv 0)))
    (pss_one (ps_set (i := 1) sc_power.nd rfl (Or.inl rfl) (pe_op op_shr (pv 1) pe_int))))))
    (pss_one (ps_ret (pv 2))))), ?_⟩
    refine while_by (fun σ H' => H' = H ∧ ∃ m e' r : Nat, σ = [some (.int (b ^ m)), some (.int (e' : Int)), some (.int (b ^ r))] ∧ r + e' * m = e ∧ 1 ≤ m) (fun σ _ => match σ with | [_, some (.int y), _] => y.toNat | _ => 0) ⟨rfl, 1, e, 0, by rw [Int.pow_succ, Int.pow_zero, Int.one_mul]; rfl, by omega, Nat.le_refl _⟩ ?_ ?_
    · rintro σ H' ⟨rfl, m, e', r, rfl, he, hm⟩
      refine ⟨_, rfl, _, _, rfl, rfl, _, rfl, ite2 (fun e1 => ?_) (fun e1 => ?_)⟩
      · have hp : 1 ≤ e' := by have := of_decide_eq_true e1; omega
        have hme : m ≤ e' * m := Nat.le_mul_of_pos_left _ hp
        have s1 : z * r + z * m ≤ z * e := by
          rw [← Nat.mul_add]
          exact Nat.mul_le_mul_left _ (by omega)
        have pm := pow_lt hb m
        have pr := pow_lt hb r
        have w1 : CMulW (b ^ r) (b ^ m) := wide_mul pr pm (Nat.succ_pos _) (Nat.succ_pos _) (by omega)
        have w2 : CMulW (b ^ m) (b ^ m) := wide_mul pm pm (Nat.succ_pos _) (Nat.succ_pos _) (by omega)
        have e2 : e' = 2 * (e' / 2) + e' % 2 := by omega
        have e3 : e' * m = (e' / 2) * (m + m) + (e' % 2) * m := by
          conv => lhs; rw [e2]
          rw [Nat.add_mul, Nat.mul_assoc, Nat.mul_comm 2, Nat.mul_assoc, Nat.mul_two]
        refine ⟨fun σ' H2 => H2 = H' ∧ σ' = [some (.int (b ^ m)), some (.int (e' : Int)), some (.int (b ^ (r + (e' % 2) * m)))], ?_, ?_⟩
        · refine ⟨_, rfl, _, _, rfl, rfl, rfl, _, rfl, ite2 (fun y => ?_) (fun y => ?_)⟩
          · have h1 : e' % 2 = 1 := by
              have := V.int.inj (of_decide_eq_true y)
              rw [and_one] at this
              omega
            refine ⟨_, rfl, _, rfl, _, _, rfl, rfl, w1, rfl, ?_⟩
            rw [h1, Nat.one_mul, Int.pow_add]
            rfl
          · have h1 : e' % 2 = 0 := by
              have : Builtin.bitAnd (e' : Int) 1 ≠ 1 := fun y2 => y (decide_eq_true (congrArg V.int y2))
              rw [and_one] at this
              omega
            refine ⟨rfl, ?_⟩
            rw [h1, Nat.zero_mul, Nat.add_zero]
        · rintro σ' H2 ⟨rfl, rfl⟩
          have pe : b ^ m * b ^ m = b ^ (m + m) := (Int.pow_add ..).symm
          have pd : (e' : Int) / 2 ^ (1 : Int).toNat = ((e' / 2 : Nat) : Int) := by
            show (e' : Int) / 2 = _
            omega
          refine ⟨_, rfl, _, rfl, _, _, rfl, rfl, w2, _, rfl, _, _, rfl, rfl, (by show (0 : Int) ≤ 1; decide), ⟨rfl, m + m, e' / 2, r + (e' % 2) * m, ?_, ?_, by omega⟩, ?_⟩
          · show [some (V.int (b ^ m * b ^ m)), some (V.int ((e' : Int) / 2 ^ (1 : Int).toNat)), some (V.int (b ^ (r + e' % 2 * m)))] = _
            rw [pe, pd]
          · omega
          · show ((e' : Int) / 2 ^ (1 : Int).toNat).toNat < (e' : Int).toNat
            show ((e' : Int) / 2).toNat < (e' : Int).toNat
            omega
      · have h0 : e' = 0 := by
          have : ¬ (0 : Int) < e' := fun y => e1 (decide_eq_true y)
          omega
        subst h0
        refine ⟨_, rfl, ?_⟩
        have : r = e := by omega
        rw [this]
        exact q
    · intro σ H' Q1 Q2 k h
      obtain ⟨v, h1, i, j, h2, h3, c, h4, h5⟩ := h
      exact ⟨v, h1, i, j, h2, h3, c, h4, k _ _ h5⟩
end
end Ev

set_option exponentiation.threshold 20000
namespace Ev
open PySem PySem.Spec PyProof.Rows L2
theorem recT_app (m : Nat) (q : Nat → Int) (n : Nat) : ∀ (l k : List (Nat × Int)), recT m q (l ++ k) n = recT m q l n + recT m q k n
  | [], k => by simp [recT]
  | (a, c) :: l, k => by
    have ih := recT_app m q n l k
    show (if a ≤ n then ((m : Int) * a - n + a) * c * q (n - a) else 0) + recT m q (l ++ k) n = (if a ≤ n then ((m : Int) * a - n + a) * c * q (n - a) else 0) + recT m q l n + recT m q k n
    rw [ih]
    omega
def natP (l : List (Nat × Int)) : List (Int × Int) := l.map fun q => ((q.1 : Int), q.2)
theorem natP_at {l : List (Nat × Int)} {i : Nat} {x y : Int} (h : (natP l)[i]? = some (x, y)) : ∃ a : Nat, x = a ∧ l[i]? = some (a, y) := by
  unfold natP at h
  rw [List.getElem?_map] at h
  cases q : l[i]? with
  | none => rw [q] at h; cases h
  | some p =>
    rw [q] at h
    cases h
    exact ⟨p.1, rfl, rfl⟩
theorem natP_to {l : List (Nat × Int)} {i : Nat} {p : Nat × Int} (h : l[i]? = some p) : (natP l)[i]? = some ((p.1 : Int), p.2) := by
  unfold natP
  rw [List.getElem?_map, h]
  rfl
theorem natP_len (l : List (Nat × Int)) : (natP l).length = l.length := List.length_map ..
/-- the weights 0 to n - 1 -/
def rowsI (q : Nat → Int) (n : Nat) : List Int := (List.range n).map q
theorem rowsI_at {q : Nat → Int} {n i : Nat} (h : i < n) : (rowsI q n)[i]? = some (q i) := by
  unfold rowsI
  rw [List.getElem?_map, List.getElem?_range h]
  rfl
theorem rowsI_succ (q : Nat → Int) (n : Nat) : rowsI q (n + 1) = rowsI q n ++ [q n] := by
  unfold rowsI
  rw [List.range_succ, List.map_append]
  rfl
theorem rowsI_len (q : Nat → Int) (n : Nat) : (rowsI q n).length = n := by
  unfold rowsI
  rw [List.length_map, List.length_range]
/-- the size of the weights of many throws -/
theorem pw_size {l : List (Nat × Int)} (h : ∀ p ∈ l, 0 ≤ p.2) (hw : (wsum l).natAbs < 2 ^ 1400) (m n : Nat) : (pw l m n).natAbs < 2 ^ (1400 * m + 1) := by
  have h1 := pw_nn h m n
  have h2 := pw_le h m n
  have h3 := pow_lt hw m
  omega
section
variable {P : Program} {w : World} {K : PySem.W.Frag} {mg : Str → Option Value} {base : Heap} {A : Nat → Addr} {D : Nat → FuncData}
def sp_power_weights (K : PySem.W.Frag) : Sp := fun vs H Q _ => ∃ (f st : Int) (R : Addr) (xs : List V) (r : List (Nat × Int)) (m : Nat), vs = [.int f, .ref R, .int (m : Int), .int st] ∧
  H R = some (.lst xs) ∧ DxAll K NoP H xs ((natP r).map fun q => prD q.1 q.2) ∧ (∀ p ∈ r, 1 ≤ p.1 ∧ p.1 ≤ 1000 ∧ 0 ≤ p.2) ∧ 1 ≤ f ∧ (wsum ((0, f) :: r)).natAbs < 2 ^ 1400 ∧ m ≤ 200 ∧ st ≤ 10000 ∧
  ∀ (H' : Hp) (p : Addr), Same H H' → H p = none → H' p = some (.lst ((rowsI (pw ((0, f) :: r) m) (st + 1).toNat).map V.int)) → Q (.ref p) H'
theorem Txt.ok_power_weights (T : Txt K mg A D) : FnOk P w K mg base CX0 2 (A 22) (D 22) ["first", "rest", "many", "steps"] (sp_power_weights K) := by
  refine T.F_power_weights.ok sc_power_weights (fun vs H Q E h => ?_) (fun cdv Ar outer s H vs Q E hr h => ?_)
  · obtain ⟨f, st, R, xs, r, m, rfl, _⟩ := h
    rfl
  · obtain ⟨f, st, R, xs, r, m, rfl, hR, dR, hr1, hf, hw, hm, hst, q⟩ := h
    have nn : ∀ p ∈ (0, f) :: r, 0 ≤ p.2 := fun p hp => by
      rcases List.mem_cons.mp hp with rfl | hp
      · show 0 ≤ f; omega
      · exact (hr1 p hp).2.2
    have rn : 0 ≤ wsum r := wsum_nn fun p hp => (hr1 p hp).2.2
    have ew : wsum ((0, f) :: r) = f + wsum r := by
      unfold wsum
      rw [List.map_cons, List.sum_cons]
    have hf2 : f.natAbs < 2 ^ 1400 := by omega
    have cle : ∀ p ∈ r, p.2.natAbs < 2 ^ 1400 := fun p hp => by
      have : p.2 ≤ wsum r := by
        have key : ∀ (l : List (Nat × Int)), (∀ x ∈ l, 0 ≤ x.2) → p ∈ l → p.2 ≤ wsum l := by
          intro l
          induction l with
          | nil => intro _ h; cases h
          | cons x l ih =>
            intro hl hp
            have e : wsum (x :: l) = x.2 + wsum l := by
              unfold wsum
              rw [List.map_cons, List.sum_cons]
            have a1 := hl x (List.mem_cons_self ..)
            have a2 := wsum_nn (l := l) fun y hy => hl y (List.mem_cons_of_mem _ hy)
            rcases List.mem_cons.mp hp with rfl | hp
            · omega
            · have := ih (fun y hy => hl y (List.mem_cons_of_mem _ hy)) hp
              omega
        exact key r (fun x hx => (hr1 x hx).2.2) hp
      have := (hr1 p hp).2.2
      omega
    have lx : xs.length = r.length := by rw [dxAll_len dR, List.length_map, natP_len]
    refine ⟨_, (pss_cons (ps_if (pt_cmpR op_lt (pv 3) pe_int (nomark _)) (pss_one (ps_ret (pe_lst pa_nil))) pss_nil)
    (pss_cons (ps_set (i := 4) sc_power_weights.nd rfl (Or.inl rfl) (pe_lst (pa_cons (pe_call (T.ok_power) hr (by rfl) T.g_power T.k_power T.b_power .nil pass0 (pa_cons (pv 0) (pa_cons (pv 2) pa_nil))) pa_nil)))
    (pss_cons (ps_for PassesOwn.never rfl (pi_range2 rfl T.range (pa_cons pe_int (pa_cons (pe_op op_add (pv 3) pe_int) pa_nil))) (pg_name (i := 5) sc_power_weights.nd rfl (Or.inl rfl)) (pss_cons (ps_set (i := 6) sc_power_weights.nd rfl (Or.inl rfl) pe_int)
    (pss_cons (ps_for PassesOwn.never rfl (pi_list (pv 1)) (pg_tup rfl (pgs_cons (pg_name (i := 7) sc_power_weights.nd rfl (Or.inl rfl)) (pgs_cons (pg_name (i := 8) sc_power_weights.nd rfl (Or.inl rfl)) pgs_nil))) (pss_one (ps_if (pt_cmpR op_le (pv 7) (pv 5) (nomark _)) (pss_one (ps_aug (i := 6) sc_power_weights.nd rfl (Or.inl rfl) (pe_op op_mulW (pe_op op_mul (pe_op op_add (pe_op op_sub (pe_op op_mul (pv 2) (pv 7)) (pv 5)) (pv 7)) (pv 8)) (pe_ix ix_list (pv 4) (pe_op op_sub (pv 5) (pv 7)) (fun _ _ => rfl))) ip_add)) pss_nil)))
    (pss_one (ps_expr (pe_bm PySem.F.plainAttrs_list PySem.F.slot_list_append PySem.F.type_list_append mt_append (pv 4) (pa_cons (pe_op op_fdivZ (pv 6) (pe_op op_mul (pv 5) (pv 0))) pa_nil)))))))
    (pss_one (ps_ret (pv 4)))))), ?_⟩
    refine ⟨_, rfl, _, _, rfl, rfl, _, rfl, ite2 (fun e => ?_) (fun e => ?_)⟩
    · have hs := of_decide_eq_true e
      refine ⟨(by show 0 ≤ sizeLine; decide), fun p hp => q _ p (same_new hp) hp ?_⟩
      rw [upd_same]
      have z : (st + 1).toNat = 0 := by omega
      rw [z]
      rfl
    · have hs : 0 ≤ st := Int.not_lt.mp fun z => e (decide_eq_true z)
      refine ⟨_, rfl, _, rfl, f, m, 1400, rfl, hf2, by omega, (by show 1 ≤ sizeLine; decide), fun p hp => ?_⟩
      have e0 : pw ((0, f) :: r) m 0 = f ^ m := pw_zero f (fun x hx => (hr1 x hx).1) m
      have nR : R ≠ p := ne_of_none hR hp
      refine ⟨_, rfl, _, _, rfl, rfl, 1, st + 1, rfl, ⟨by decide, by decide, by omega, by omega⟩, for_range (lo := 1) (n := (st + 1 - 1).toNat) (fun i σ H' => (∃ y1 y2 y3 y4 : Option V, σ = [some (.int f), some (.ref R), some (.int (m : Int)), some (.int st), some (.ref p), y1, y2, y3, y4]) ∧ Same H H' ∧ H' p = some (.lst ((rowsI (pw ((0, f) :: r) m) (i + 1)).map V.int))) ?_ ?_ ?_⟩
      · refine ⟨⟨none, none, none, none, rfl⟩, same_new hp, ?_⟩
        rw [upd_same, rowsI_succ]
        show some (HO.lst [V.int (f ^ m)]) = some (HO.lst [V.int (pw ((0, f) :: r) m 0)])
        rw [e0]
      · rintro i σ H1 hi ⟨⟨y1, y2, y3, y4, rfl⟩, sm, hL⟩
        have eplace : (1 + (i : Int)) = ((i + 1 : Nat) : Int) := by omega
        refine ⟨_, rfl, R, rfl, ⟨_, SqL.of (sm _ _ hR)⟩, for_it walk_list (fun j σ H' => H' = H1 ∧ ∃ y3 y4 : Option V, σ = [some (.int f), some (.ref R), some (.int (m : Int)), some (.int st), some (.ref p), some (.int (1 + (i : Int))), some (.int (recT m (pw ((0, f) :: r) m) (r.take j) (i + 1))), y3, y4]) ⟨rfl, y3, y4, rfl⟩ (fun j σ H' _ z => by rw [z.1]; exact SqL.of (sm _ _ hR)) ?_ ?_⟩
        · rintro j x σ H2 H3 hj ⟨rfl, z3, z4, rfl⟩ ⟨rfl, hx⟩
          obtain ⟨u, v, t, h1, rfl, ht⟩ := prs_at (dxAll_same sm dR) hx
          obtain ⟨a, rfl, ha⟩ := natP_at h1
          have hmem := List.mem_of_getElem? ha
          obtain ⟨a1, a2, a3⟩ := hr1 _ hmem
          have et : recT m (pw ((0, f) :: r) m) (r.take (j + 1)) (i + 1) = recT m (pw ((0, f) :: r) m) (r.take j) (i + 1) + (if a ≤ i + 1 then ((m : Int) * a - ((i + 1 : Nat) : Int) + a) * v * pw ((0, f) :: r) m (i + 1 - a) else 0) := by
            rw [List.take_add_one, ha, recT_app]
            show _ = _
            simp [recT]
          refine ⟨t, _, rfl, ht, rfl, _, _, rfl, _, _, rfl, rfl, ?_⟩
          refine ⟨_, rfl, _, rfl, _, _, rfl, rfl, _, rfl, ite2 (fun e1 => ?_) (fun e1 => ?_)⟩
          · have le : a ≤ i + 1 := by
              have : (a : Int) ≤ 1 + (i : Int) := by simpa using e1
              omega
            have ei : (1 + (i : Int)) - (a : Int) = ((i + 1 - a : Nat) : Int) := by omega
            have small : ((m : Int) * a - (1 + (i : Int)) + a).natAbs < 2 ^ 30 := by
              have b1 : (m : Int) * a ≤ 200 * 1000 := Int.mul_le_mul (by omega) (by omega) (by omega) (by decide)
              have b2 : 0 ≤ (m : Int) * a := Int.mul_nonneg (by omega) (by omega)
              omega
            have hi2 : i < (st + 1 - 1).toNat := hi
            refine ⟨_, rfl, _, rfl, _, rfl, _, _, rfl, rfl, .inl ⟨by omega, by omega⟩, _, rfl, _, _, rfl, rfl, _, rfl, _, _, rfl, rfl, _, rfl, _, _, rfl, rfl, .inl ⟨by omega, by omega⟩, _, rfl, _, rfl, _, rfl, _, _, rfl, rfl, p, _, _, V.int (pw ((0, f) :: r) m (i + 1 - a)), rfl, rfl, SqL.of hL, ?_, _, _, rfl, rfl, ?_, _, _, rfl, rfl, ?_⟩
            · rw [ei]
              refine atI_nat ?_
              rw [List.getElem?_map, rowsI_at (by omega)]
              rfl
            · refine wide_mul (wide_lt small (cle _ hmem)) (pw_size nn hw m (i + 1 - a)) (by decide) (Nat.succ_pos _) ?_
              omega
            · refine ⟨rfl, some (.int (a : Int)), some (.int v), ?_⟩
              rw [et, if_pos le, ← eplace]
              rfl
          · have gt : ¬ a ≤ i + 1 := fun z => e1 (by
              have : (a : Int) ≤ 1 + (i : Int) := by omega
              simpa using this)
            refine ⟨rfl, some (.int (a : Int)), some (.int v), ?_⟩
            rw [et, if_neg gt, Int.add_zero]
            rfl
        · rintro σ H2 ⟨rfl, z3, z4, rfl⟩
          rw [lx, List.take_length]
          have nx := pw_next f r m (i + 1)
          have hi2 : i < (st + 1 - 1).toNat := hi
          have fpos : 0 < (1 + (i : Int)) * f := Int.mul_pos (by omega) (by omega)
          have quo : (recT m (pw ((0, f) :: r) m) r (i + 1)).fdiv ((1 + (i : Int)) * f) = pw ((0, f) :: r) m (i + 1) := by
            rw [← nx, eplace, Int.mul_comm f, Int.mul_fdiv_cancel_left]
            rw [← eplace]
            omega
          refine ⟨_, rfl, .inl ⟨rfl, _, SqL.of hL⟩, _, rfl, _, rfl, _, rfl, _, _, rfl, rfl, .inl ⟨by omega, by omega⟩, _, _, rfl, rfl, ⟨by omega, ?_⟩, p, _, _, rfl, rfl, hL, ?_, ?_⟩
          · have : ((1 + (i : Int)) * f).natAbs < 2 ^ (30 + 1400) := wide_lt (by omega) hf2
            exact Nat.lt_trans (PySem.Flt.log2_lt_of (by decide) this) (by decide)
          · rw [List.length_map, rowsI_len]
            have : i + 1 ≤ 10000 := by omega
            exact Nat.lt_of_le_of_lt this (by decide)
          · refine ⟨⟨_, _, _, _, rfl⟩, same_put sm hp, ?_⟩
            rw [upd_same, rowsI_succ _ (i + 1), List.map_append]
            show some (HO.lst (_ ++ [V.int ((recT m (pw ((0, f) :: r) m) r (i + 1)).fdiv ((1 + (i : Int)) * f))])) = _
            rw [quo]
            rfl
      · rintro σ H1 ⟨⟨y1, y2, y3, y4, rfl⟩, sm, hL⟩
        refine ⟨_, rfl, q _ p sm hp ?_⟩
        have z : (st + 1 - 1).toNat + 1 = (st + 1).toNat := by omega
        rw [hL, z]
end
end Ev

set_option exponentiation.threshold 20000
namespace Ev
open PySem PySem.Spec PyProof.Rows L2
def gapN (lo : Nat) (S : List (Nat × Int)) : Nat := S.foldl (fun g q => Nat.gcd g (q.1 - lo)) 0
theorem fold_gap_dvd (lo : Nat) : ∀ (S : List (Nat × Int)) (g : Nat), S.foldl (fun g q => Nat.gcd g (q.1 - lo)) g ∣ g
  | [], g => Nat.dvd_refl _
  | q :: S, g => Nat.dvd_trans (fold_gap_dvd lo S _) (Nat.gcd_dvd_left _ _)
theorem fold_gap_mem (lo : Nat) : ∀ (S : List (Nat × Int)) (g : Nat), ∀ q ∈ S, S.foldl (fun g q => Nat.gcd g (q.1 - lo)) g ∣ q.1 - lo
  | [], g, q, h => nomatch h
  | p :: S, g, q, h => by
    rcases List.mem_cons.mp h with rfl | h
    · exact Nat.dvd_trans (fold_gap_dvd lo S _) (Nat.gcd_dvd_right _ _)
    · exact fold_gap_mem lo S _ q h
theorem gap_mem {lo : Nat} {S : List (Nat × Int)} {q : Nat × Int} (h : q ∈ S) : gapN lo S ∣ q.1 - lo := fold_gap_mem lo S 0 q h
theorem gap_take {lo : Nat} {S : List (Nat × Int)} {i : Nat} {q : Nat × Int} (h : S[i]? = some q) : gapN lo (S.take (i + 1)) = Nat.gcd (gapN lo (S.take i)) (q.1 - lo) := by
  unfold gapN
  rw [List.take_add_one, h, List.foldl_append]
  rfl
def restN (lo g : Nat) (r : List (Nat × Int)) : List (Nat × Int) := r.map fun q => ((q.1 - lo) / g, q.2)
theorem spread_eq {lo g : Nat} {f : Int} {r : List (Nat × Int)} (h : ∀ q ∈ r, lo ≤ q.1 ∧ g ∣ q.1 - lo) : spread lo g ((0, f) :: restN lo g r) = (lo, f) :: r := by
  show (lo + g * 0, f) :: spread lo g (restN lo g r) = _
  rw [Nat.mul_zero, Nat.add_zero]
  congr 1
  unfold spread restN
  rw [List.map_map]
  refine (List.map_congr_left fun q hq => ?_).trans (List.map_id r)
  obtain ⟨h1, h2⟩ := h q hq
  show (lo + g * ((q.1 - lo) / g), q.2) = q
  rw [Nat.mul_div_cancel' h2]
  have : lo + (q.1 - lo) = q.1 := by omega
  rw [this]
theorem asc_last {S : List (Nat × Int)} (h : S.Pairwise fun p q => p.1 < q.1) {p : Nat × Int} {S' : List (Nat × Int)} (e : S = S' ++ [p]) : ∀ q ∈ S, q.1 ≤ p.1 := by
  subst e
  intro q hq
  rw [List.pairwise_append] at h
  rcases List.mem_append.mp hq with hq | hq
  · exact Nat.le_of_lt (h.2.2 q hq p (List.mem_singleton.mpr rfl))
  · rw [List.mem_singleton.mp hq]
    exact Nat.le_refl _
theorem cut_one {v : V} {xs : List V} : cutV (v :: xs) (some 1) none = xs := by
  unfold cutV
  have e : HT.sIx (v :: xs).length 0 (some 1) = min 1 (v :: xs).length := HT.sIx_nat (v :: xs).length 0 1
  have e1 : min 1 (v :: xs).length = 1 := by rw [List.length_cons]; omega
  rw [e, e1, HT.sIx_none, List.drop_one, List.tail_cons]
  exact List.take_of_length_le (by rw [List.length_cons]; omega)
section
variable {P : Program} {w : World} {K : PySem.W.Frag} {mg : Str → Option Value} {base : Heap} {A : Nat → Addr} {D : Nat → FuncData}
def sp_throw_weights (K : PySem.W.Frag) : Sp := fun vs H Q _ => ∃ (W : Addr) (xs : List V) (lo : Nat) (f : Int) (r : List (Nat × Int)) (m N : Nat), vs = [.ref W, .int (m : Int), .int (N : Int)] ∧
  H W = some (.lst xs) ∧ DxAll K NoP H xs ((natP ((lo, f) :: r)).map fun q => prD q.1 q.2) ∧ ((lo, f) :: r).Pairwise (fun p q => p.1 < q.1) ∧ (∀ p ∈ (lo, f) :: r, p.1 ≤ 9 ∧ 1 ≤ p.2) ∧
  (wsum ((lo, f) :: r)).natAbs < 2 ^ 1400 ∧ m ≤ 200 ∧ N ≤ 9000 ∧
  ∀ (H' : Hp) (p : Addr) (ys : List V) (res : List (Int × Int)), Same H H' → H' p = some (.lst ys) → DxAll K NoP H' ys (res.map fun q => prD q.1 q.2) →
    (∀ q ∈ res, ∃ n : Nat, q.1 = n ∧ q.2 = pw ((lo, f) :: r) m n) → (pw ((lo, f) :: r) m N ≠ 0 → ∃ q ∈ res, q.1 = N) → Q (.ref p) H'
theorem Txt.ok_throw_weights (T : Txt K mg A D) : FnOk P w K mg base CX0 3 (A 21) (D 21) ["weights", "many", "most"] (sp_throw_weights K) := by
  refine T.F_throw_weights.ok sc_throw_weights (fun vs H Q E h => ?_) (fun cdv Ar outer s H vs Q E hr h => ?_)
  · obtain ⟨W, xs, lo, f, r, m, N, rfl, _⟩ := h
    rfl
  · obtain ⟨W, xs, lo, f, r, m, N, rfl, hW, dW, asc, hS, hw, hm, hN, q⟩ := h
    have lx : xs.length = r.length + 1 := by rw [dxAll_len dW, List.length_map, natP_len]; rfl
    obtain ⟨t0, ht0, hs0⟩ := prs_to dW (i := 0) (p := ((lo : Int), f)) rfl
    obtain ⟨f1, f2⟩ := hS (lo, f) (List.mem_cons_self ..)
    have lo9 : lo ≤ 9 := f1
    have fpos : 1 ≤ f := f2
    have rn : 0 ≤ wsum r := wsum_nn fun p hp => by have := (hS p (List.mem_cons_of_mem _ hp)).2; omega
    have ew : wsum ((lo, f) :: r) = f + wsum r := by
      unfold wsum
      rw [List.map_cons, List.sum_cons]
    have hf2 : f.natAbs < 2 ^ 1400 := by omega
    have upL : ∀ p ∈ r, lo < p.1 := (List.pairwise_cons.mp asc).1
    have ascR := (List.pairwise_cons.mp asc).2
    refine ⟨_, (pss_cons (ps_asg (pe_ix ix_list (pv 0) pe_int (fun _ _ => rfl)) (pg_tup rfl (pgs_cons (pg_name (i := 3) sc_throw_weights.nd rfl (Or.inr rfl)) (pgs_cons (pg_name (i := 4) sc_throw_weights.nd rfl (Or.inl rfl)) pgs_nil))))
    (pss_cons (ps_if (PW.pt (pw_or (pt_cmpR op_eq (pe_callB call_len_seq (by rfl) T.z_len (by decide +kernel) (pa_cons (pv 0) pa_nil)) pe_int (nomark _)) (pw_or1 (pt_cmpR op_eq (pv 1) pe_int (nomark _))))) (pss_one (ps_ret (pe_lst (pa_cons (pe_tup (pa_cons (pe_op op_mul (pv 3) (pv 1)) (pa_cons (pe_call (T.ok_power) (hr.mono (by decide)) (by rfl) T.g_power T.k_power T.b_power .nil pass0 (pa_cons (pv 4) (pa_cons (pv 1) pa_nil))) pa_nil))) pa_nil)))) pss_nil)
    (pss_cons (ps_set (i := 5) sc_throw_weights.nd rfl (Or.inr rfl) pe_int)
    (pss_cons (ps_for PassesOwn.never rfl (pi_list (pv 0)) (pg_tup rfl (pgs_cons (pg_name (i := 6) sc_throw_weights.nd rfl (Or.inl rfl)) (pgs_cons (pg_name (i := 7) sc_throw_weights.nd rfl (Or.inl rfl)) pgs_nil))) (pss_one (ps_set (i := 5) sc_throw_weights.nd rfl (Or.inr rfl) (pe_callBfun cr_gcd (by rfl) T.z_gcd (pa_cons (pv 5) (pa_cons (pe_op op_sub (pv 6) (pv 3)) pa_nil))))))
    (pss_cons (ps_setLc (i := 8) (own := [("number", 6), ("weight", 11)]) (g := gTup K 2 (gCons (gName 6) (gCons (gName 11) gNil))) (tt := tYes) rfl sc_throw_weights.nd rfl rfl (sw_true rfl rfl rfl (by decide +kernel)) (pi_list (pe_slice sl_list (pv 0) (po_some pe_int) po_none)) (blkOk_by (N := ["weights", "many", "most", "least", "first", "step", "number", "_", "rest", "steps", "rows", "weight", "at"]) (sc := defScope s_throw_weights) (by decide +kernel)) (fun _ _ _ _ _ => (pg_tup rfl (pgs_cons (pg_name (i := 6) sc_throw_weights.nd rfl (Or.inl rfl)) (pgs_cons (pg_name (i := 11) sc_throw_weights.nd rfl (Or.inl rfl)) pgs_nil)))) (fun _ _ _ _ _ => pts_nil) (fun _ _ _ _ _ => (pe_tup (pa_cons (pe_op op_fdivN (pe_op op_sub (pv 6) (pv 3)) (pv 5)) (pa_cons (pv 11) pa_nil)))))
    (pss_cons (ps_set (i := 9) sc_throw_weights.nd rfl (Or.inl rfl) (pe_op op_mul (pe_ix ix_tup (pe_ix ix_list (pv 8) (pe_un un_neg pe_int) (fun _ _ => rfl)) pe_int (fun _ _ => rfl)) (pv 1)))
    (C8.pss_cut (ps_if (pt_cmpR op_notN (pv 2) pe_non (nomark _)) (pss_one (ps_set (i := 9) sc_throw_weights.nd rfl (Or.inl rfl) (pe_callB (call_min2 rfl) (by rfl) T.z_min (by decide +kernel) (pa_cons (pv 9) (pa_cons (pe_op op_fdivN (pe_op op_sub (pv 2) (pe_op op_mul (pv 3) (pv 1))) (pv 5)) pa_nil))))) pss_nil)
    (pss_cons (ps_set (i := 10) sc_throw_weights.nd rfl (Or.inl rfl) (pe_call (T.ok_power_weights) hr (by rfl) T.g_power_weights T.k_power_weights T.b_power_weights .nil pass0 (pa_cons (pv 4) (pa_cons (pv 8) (pa_cons (pv 1) (pa_cons (pv 9) pa_nil))))))
    (pss_one (ps_ret (pe_lc (own := [("at", 12), ("weight", 11)]) (g := gTup K 2 (gCons (gName 12) (gCons (gName 11) gNil))) (tt := _) rfl sc_throw_weights.nd (pi_enum (by rfl) T.enumerate (pa_cons (pv 10) pa_nil)) (blkOk_by (N := ["weights", "many", "most", "least", "first", "step", "number", "_", "rest", "steps", "rows", "weight", "at"]) (sc := defScope s_throw_weights) (by decide +kernel)) (fun _ _ _ _ _ => (pg_tup rfl (pgs_cons (pg_name (i := 12) sc_throw_weights.nd rfl (Or.inl rfl)) (pgs_cons (pg_name (i := 11) sc_throw_weights.nd rfl (Or.inl rfl)) pgs_nil)))) (fun _ _ _ _ _ => (pts_one (pt_cmpR op_gt (pv 11) pe_int (nomark _)))) (fun _ _ _ _ _ => (pe_tup (pa_cons (pe_op op_add (pe_op op_mul (pv 3) (pv 1)) (pe_op op_mul (pv 5) (pv 12))) (pa_cons (pv 11) pa_nil))))))))))))))), ?_⟩
    have fin : (r = [] ∨ m = 0) → ∀ (p1 p2 : Addr), H p1 = none → (upd H p1 (.tup [.int ((lo : Int) * m), .int (f ^ m)])) p2 = none →
        Q (.ref p2) (upd (upd H p1 (.tup [.int ((lo : Int) * m), .int (f ^ m)])) p2 (.lst [.ref p1])) := by
      intro h p1 p2 h1 h2
      have z : ∀ n, pw ((lo, f) :: r) m n = if n = lo * m then f ^ m else 0 := by
        intro n
        rcases h with rfl | rfl
        · exact pw_single lo f m n
        · rw [Nat.mul_zero, Int.pow_zero]
          rfl
      refine q _ p2 [.ref p1] [((lo : Int) * m, f ^ m)] ((same_new h1).trans (same_new h2)) upd_same (.cons (prD_dx (SqT.of ?_)) .nil) (fun x hx => ?_) (fun hx => ⟨_, List.mem_singleton.mpr rfl, ?_⟩)
      · exact same_new h2 _ _ upd_same
      · rw [List.mem_singleton.mp hx]
        refine ⟨lo * m, (Int.natCast_mul lo m).symm, ?_⟩
        rw [z, if_pos rfl]
      · rw [z] at hx
        have : N = lo * m := Decidable.byContradiction fun y => hx (if_neg y)
        rw [this]
        exact (Int.natCast_mul lo m).symm
    refine ⟨_, rfl, W, xs, _, _, rfl, rfl, SqL.of hW, atI_nat (j := 0) ht0, t0, _, rfl, hs0, rfl, _, _, rfl, _, _, rfl, rfl, ?_⟩
    refine ⟨_, rfl, W, xs, rfl, .inl (SqL.of hW), rfl, _, rfl, ite2 (fun e1 => ?_) (fun e1 => ?_)⟩
    · have h1 : r = [] := by
        have : (xs.length : Int) = 1 := V.int.inj (of_decide_eq_true e1)
        exact List.eq_nil_of_length_eq_zero (by omega)
      exact iteT ⟨_, rfl, _, rfl, _, _, rfl, rfl, .inl ⟨by omega, by omega⟩, _, rfl, _, rfl, f, m, 1400, rfl, hf2, by omega, (by show 2 ≤ sizeLine; decide), fun p1 hp1 => ⟨(by show 1 ≤ sizeLine; decide), fun p2 hp2 => fin (.inl h1) p1 p2 hp1 hp2⟩⟩
    refine ⟨_, rfl, rfl, _, rfl, ite2 (fun e2 => ?_) (fun e2 => ?_)⟩
    · have h1 : m = 0 := by
        have : (m : Int) = 0 := V.int.inj (of_decide_eq_true e2)
        omega
      exact ⟨_, rfl, _, rfl, _, _, rfl, rfl, .inl ⟨by omega, by omega⟩, _, rfl, _, rfl, f, m, 1400, rfl, hf2, by omega, (by show 2 ≤ sizeLine; decide), fun p1 hp1 => ⟨(by show 1 ≤ sizeLine; decide), fun p2 hp2 => fin (.inr h1) p1 p2 hp1 hp2⟩⟩
    have hr0 : r ≠ [] := fun z => vneF e1 (by rw [lx, z]; rfl)
    obtain ⟨r', la, er⟩ : ∃ r' la, r = r' ++ [la] := ⟨r.dropLast, r.getLast hr0, (List.dropLast_concat_getLast hr0).symm⟩
    have lam : la ∈ r := by rw [er]; exact List.mem_append_right _ (List.mem_singleton.mpr rfl)
    -- the step
    refine ⟨_, rfl, W, rfl, ⟨_, SqL.of hW⟩, for_it walk_list (fun i σ H' => H' = H ∧ ∃ y1 y2 : Option V, σ = [some (.ref W), some (.int (m : Int)), some (.int (N : Int)), some (.int (lo : Int)), some (.int f), some (.int (gapN lo (((lo, f) :: r).take i) : Int)), y1, y2, none, none, none, none, none]) ⟨rfl, none, none, rfl⟩ (fun i σ H' _ z => by rw [z.1]; exact SqL.of hW) ?_ ?_⟩
    · rintro i x σ H2 H3 hi ⟨rfl, y1, y2, rfl⟩ ⟨rfl, hx⟩
      obtain ⟨u, v, t, h1, rfl, ht⟩ := prs_at dW hx
      obtain ⟨a, rfl, ha⟩ := natP_at h1
      have lea : lo ≤ a := by
        rcases List.mem_cons.mp (List.mem_of_getElem? ha) with z | z
        · cases z; exact Nat.le_refl _
        · exact Nat.le_of_lt (upL _ z)
      refine ⟨t, _, rfl, ht, rfl, _, _, rfl, _, _, rfl, rfl, ?_⟩
      refine ⟨_, rfl, _, rfl, _, rfl, _, _, rfl, rfl, _, _, rfl, rfl, some (.int (a : Int)), some (.int v), ?_⟩
      have e1 : ((a : Int) - (lo : Int)).natAbs = a - lo := by omega
      rw [gap_take ha, ← e1]
      rfl
    rintro σ H2 ⟨rfl, y1, y2, rfl⟩
    have full : ((lo, f) :: r).take xs.length = (lo, f) :: r := List.take_of_length_le (by rw [List.length_cons]; omega)
    rw [full]
    generalize eg : gapN lo ((lo, f) :: r) = g
    have gd : ∀ p ∈ r, g ∣ p.1 - lo := fun p hp => by rw [← eg]; exact gap_mem (List.mem_cons_of_mem _ hp)
    have gp : 0 < g := by
      obtain ⟨k, hk⟩ := gd la lam
      have := upL la lam
      refine Nat.pos_of_ne_zero fun z => ?_
      subst z
      rw [Nat.zero_mul] at hk
      omega
    have gle : g ≤ 9 := by
      have h1 := Nat.le_of_dvd (by have := upL la lam; omega) (gd la lam)
      have h2 := (hS la (List.mem_cons_of_mem _ lam)).1
      omega
    have spr : spread lo g ((0, f) :: restN lo g r) = (lo, f) :: r := spread_eq fun p hp => ⟨Nat.le_of_lt (upL p hp), gd p hp⟩
    obtain ⟨v0, xs', ex⟩ : ∃ v0 xs', xs = v0 :: xs' := by
      cases xs with
      | nil => rw [List.length_nil] at lx; omega
      | cons v0 xs' => exact ⟨v0, xs', rfl⟩
    have dR : DxAll K NoP H2 xs' ((natP r).map fun q => prD q.1 q.2) := by
      rw [ex] at dW
      cases dW with
      | cons _ z => exact z
    have lx' : xs'.length = r.length := by rw [ex, List.length_cons] at lx; omega
    -- the others
    refine ⟨_, rfl, 1, rfl, W, xs, rfl, SqL.of hW, fun p4 hp4 => ?_⟩
    rw [ex, cut_one]
    have e4 : (upd H2 p4 (.lst xs')) p4 = some (.lst xs') := upd_same
    have sm4 : Same H2 (upd H2 p4 (.lst xs')) := same_new hp4
    revert e4 sm4
    generalize upd H2 p4 (HO.lst xs') = G
    intro e4 sm4
    refine ⟨p4, rfl, ⟨_, SqL.of e4⟩, fun D1 hD1 => ?_⟩
    refine lc_it walk_list (fun i H' => Same G H' ∧ ∃ ws : List V, H' D1 = some (.lst ws) ∧ DxAll K NoP H' ws ((natP ((restN lo g r).take i)).map fun q => prD q.1 q.2)) ⟨same_new hD1, [], upd_same, .nil⟩ (fun i H' _ z => SqL.of (z.1 _ _ e4)) ?_ ?_
    · rintro i x H5 H6 hi ⟨sm, ws, hws, dws⟩ ⟨rfl, hx⟩
      obtain ⟨u, v, t, h1, rfl, ht⟩ := prs_at (dxAll_same (sm4.trans sm) dR) hx
      obtain ⟨a, rfl, ha⟩ := natP_at h1
      have lea : lo < a := upL _ (List.mem_of_getElem? ha)
      have a9 : a ≤ 9 := (hS _ (List.mem_cons_of_mem _ (List.mem_of_getElem? ha))).1
      have ev : ((a : Int) - (lo : Int)).fdiv (g : Int) = (((a - lo) / g : Nat) : Int) := by
        rw [Int.fdiv_eq_ediv_of_nonneg _ (by omega), show (a : Int) - (lo : Int) = ((a - lo : Nat) : Int) by omega]
        rfl
      refine ⟨t, _, rfl, ht, rfl, _, _, rfl, _, _, rfl, rfl, ?_⟩
      refine ⟨rfl, yes_of ?_⟩
      refine ⟨_, rfl, _, rfl, _, _, rfl, rfl, _, rfl, _, _, rfl, rfl, ⟨by omega, by omega⟩, _, rfl, (by show 2 ≤ sizeLine; decide), fun p8 hp8 => ?_⟩
      dsimp only; rw [ev]
      refine ⟨ws, same_new hp8 _ _ hws, ?_, same_put (sm.trans (same_new hp8)) hD1, ws ++ [.ref p8], upd_same, ?_⟩
      · have h1 := dxAll_len dws
        rw [List.length_map, natP_len, List.length_take] at h1
        have : r.length ≤ 9 := by
          have key : ∀ (l : List (Nat × Int)) (b : Nat), l.Pairwise (fun p q => p.1 < q.1) → (∀ p ∈ l, b ≤ p.1 ∧ p.1 ≤ 9) → b ≤ 10 → l.length + b ≤ 10 := by
            intro l
            induction l with
            | nil => intro b _ _ hb; rw [List.length_nil]; omega
            | cons p l ih =>
              intro b hp hb _
              have a1 := hb p (List.mem_cons_self ..)
              have a2 := List.pairwise_cons.mp hp
              have := ih (p.1 + 1) a2.2 (fun y hy => ⟨a2.1 y hy, (hb y (List.mem_cons_of_mem _ hy)).2⟩) (by omega)
              rw [List.length_cons]
              omega
          have := key r 1 ascR (fun p hp => ⟨by have := upL p hp; omega, (hS p (List.mem_cons_of_mem _ hp)).1⟩) (by decide)
          omega
        exact small1000 (by omega)
      · have hz : (restN lo g r)[i]? = some ((a - lo) / g, v) := by
          unfold restN
          rw [List.getElem?_map, ha]
          rfl
        have e5 : natP ((restN lo g r).take (i + 1)) = natP ((restN lo g r).take i) ++ [((((a - lo) / g : Nat) : Int), v)] := by
          unfold natP
          rw [List.take_add_one, hz, List.map_append]
          rfl
        rw [e5, List.map_append]
        have d1 : DxAll K NoP (upd H6 p8 (.tup [.int (((a - lo) / g : Nat) : Int), .int v])) (ws ++ [.ref p8]) _ := dxAll_app (dxAll_new hp8 dws) (.cons (prD_dx (SqT.of upd_same)) .nil)
        refine dxAll_keep (fun a' zs e => ?_) (fun a' o z e => z.elim) d1
        rcases e with (e | ⟨ob, e⟩) | e
        · exact .inl (.inl (by rw [upd_ne (ne_of e (same_new hp8 _ _ hws) (by intro z; cases z))]; exact e))
        · exact .inl (.inr ⟨ob, by rw [upd_ne (ne_of e (same_new hp8 _ _ hws) (by intro z; cases z))]; exact e⟩)
        · exact .inr e
    rintro H5 ⟨sm5, ws, hws, dws⟩
    have lrest : (restN lo g r).length = r.length := List.length_map ..
    rw [lx', ← lrest, List.take_length] at dws
    have sm := sm4.trans sm5
    have erest : restN lo g r = restN lo g r' ++ [((la.1 - lo) / g, la.2)] := by
      rw [er]
      unfold restN
      rw [List.map_append]
      rfl
    obtain ⟨ws', wl, ews, tl, ewl, hwl⟩ : ∃ ws' wl, ws = ws' ++ [wl] ∧ ∃ tl, wl = .ref tl ∧ SqT K H5 tl [.int (((la.1 - lo) / g : Nat) : Int), .int la.2] := by
      have l1 := dxAll_len dws
      rw [List.length_map, natP_len, erest, List.length_append, List.length_singleton] at l1
      obtain ⟨a, ha, hs⟩ := prs_to dws (i := (restN lo g r').length) (p := ((((la.1 - lo) / g : Nat) : Int), la.2)) (by
        rw [erest]
        unfold natP
        rw [List.map_append, List.getElem?_append_right (by rw [List.length_map]; exact Nat.le_refl _), List.length_map, Nat.sub_self]
        rfl)
      have hne : ws ≠ [] := fun z => by rw [z] at l1; cases l1
      refine ⟨ws.dropLast, ws.getLast hne, (List.dropLast_concat_getLast hne).symm, a, ?_, hs⟩
      rw [List.getLast_eq_getElem]
      have : ws[ws.length - 1]? = some (.ref a) := by rw [show ws.length - 1 = (restN lo g r').length by omega]; exact ha
      exact (List.getElem?_eq_some_iff.mp this).2
    subst ewl
    have top : ∀ p ∈ (0, f) :: restN lo g r, p.1 ≤ (la.1 - lo) / g := by
      intro p hp
      rcases List.mem_cons.mp hp with rfl | hp
      · exact Nat.zero_le _
      · unfold restN at hp
        obtain ⟨q0, hq0, rfl⟩ := List.mem_map.mp hp
        have := asc_last ascR er q0 hq0
        exact Nat.div_le_div_right (by omega)
    generalize etp : (la.1 - lo) / g = tp at hwl top
    have tp9 : tp ≤ 9 := by
      have h2 := (hS la (List.mem_cons_of_mem _ lam)).1
      have h3 : (la.1 - lo) / g ≤ la.1 - lo := Nat.div_le_self _ _
      omega
    refine ⟨_, rfl, _, rfl, D1, _, _, _, rfl, rfl, SqL.of hws, (by rw [ews]; exact atI_last ws' _), tl, _, _, _, rfl, rfl, hwl, ix0, _, rfl, _, _, rfl, rfl, .inl ⟨by omega, by omega⟩, ?_⟩
    have tm : (tp : Int) * (m : Int) = ((tp * m : Nat) : Int) := (Int.natCast_mul tp m).symm
    have lm : (lo : Int) * (m : Int) = ((lo * m : Nat) : Int) := (Int.natCast_mul lo m).symm
    have tm2 : tp * m ≤ 1800 := by
      have := Nat.mul_le_mul tp9 hm
      omega
    have lm2 : lo * m ≤ 1800 := by
      have := Nat.mul_le_mul lo9 hm
      omega
    refine ⟨fun σ' H' => H' = H5 ∧ ∃ st : Int, σ' = [some (.ref W), some (.int (m : Int)), some (.int (N : Int)), some (.int (lo : Int)), some (.int f), some (.int (g : Int)), y1, y2, some (.ref D1), some (.int st), none, none, none] ∧ st ≤ 1800 ∧
      (∀ k : Nat, k ≤ tp * m → lo * m + g * k = N → (k : Int) ≤ st), ?_, ?_⟩
    · refine ⟨_, rfl, rfl, _, rfl, ite2 (fun _ => ?_) (fun e => absurd rfl e)⟩
      refine ⟨_, rfl, _, rfl, _, rfl, _, rfl, _, _, rfl, rfl, .inl ⟨by omega, by omega⟩, _, _, rfl, rfl, _, rfl, _, _, rfl, rfl, ⟨by omega, by omega⟩, _, _, rfl, rfl, _, rfl, ?_, ?_⟩
      · split <;> omega
      · intro k hk hn
        have e : ((N : Int) - (lo : Int) * (m : Int)).fdiv (g : Int) = (k : Int) := by
          rw [lm, show (N : Int) - ((lo * m : Nat) : Int) = (g : Int) * (k : Int) by rw [← Int.natCast_mul]; omega, Int.mul_fdiv_cancel_left _ (by omega)]
        rw [e, tm]
        split <;> omega
    rintro σ' H6 ⟨rfl, st, rfl, st2, hk⟩
    have r1 : ∀ p ∈ restN lo g r, 1 ≤ p.1 ∧ p.1 ≤ 1000 ∧ 0 ≤ p.2 := fun p hp => by
      have t1 := top p (List.mem_cons_of_mem _ hp)
      unfold restN at hp
      obtain ⟨q0, hq0, rfl⟩ := List.mem_map.mp hp
      have h1 := upL q0 hq0
      have h2 := (hS q0 (List.mem_cons_of_mem _ hq0)).2
      have h3 : 1 ≤ (q0.1 - lo) / g := by
        have := Nat.le_of_dvd (by omega) (gd q0 hq0)
        exact (Nat.le_div_iff_mul_le gp).mpr (by omega)
      exact ⟨h3, Nat.le_trans t1 (by omega), by show 0 ≤ q0.2; omega⟩
    have ws2 : wsum ((0, f) :: restN lo g r) = wsum ((lo, f) :: r) := by
      unfold wsum restN
      rw [List.map_cons, List.map_cons, List.map_map]
      rfl
    refine ⟨_, rfl, _, rfl, _, rfl, _, rfl, f, st, D1, ws, restN lo g r, m, rfl, hws, dws, r1, fpos, by rw [ws2]; exact hw, hm, by omega, fun H7 p7 sm7 hp7 e7 => ?_⟩
    generalize eq : pw ((0, f) :: restN lo g r) m = qf at e7
    have qnn : ∀ n, 0 ≤ qf n := fun n => by
      rw [← eq]
      exact pw_nn (fun p hp => by
        rcases List.mem_cons.mp hp with rfl | hp
        · show 0 ≤ f; omega
        · exact (r1 p hp).2.2) m n
    have val : pw ((lo, f) :: r) m = spreadF (lo * m) g qf := by
      rw [← spr, pw_spread gp, eq]
    refine ⟨_, rfl, p7, _, rfl, SqL.of e7, fun D2 hD2 => ?_⟩
    refine lc_it walk_enum (fun i H' => Same H7 H' ∧ ∃ (ys : List V) (res : List (Int × Int)), H' D2 = some (.lst ys) ∧ DxAll K NoP H' ys (res.map fun q => prD q.1 q.2) ∧ res.length ≤ i ∧
      (∀ q ∈ res, ∃ k : Nat, q = (((lo * m + g * k : Nat) : Int), qf k)) ∧ (∀ k : Nat, k < i → 0 < qf k → (((lo * m + g * k : Nat) : Int), qf k) ∈ res))
      ⟨same_new hD2, [], [], upd_same, .nil, Nat.zero_le _, fun q hq => (nomatch hq), fun k hk => absurd hk (Nat.not_lt_zero _)⟩ (fun i H' _ z => SqL.of (z.1 _ _ e7)) ?_ ?_
    · rintro i x H8 H9 hi ⟨sm8, ys, res, hys, dys, lr, ra, rb⟩ ⟨t, x1, y9, rfl, ht, rfl, hx1, hy1⟩
      obtain rfl : x1 = .int (i : Nat) := (Option.some.inj hx1).symm
      obtain ⟨n0, hn0, rfl⟩ := int_at hy1
      rw [List.length_map, rowsI_len] at hi
      rw [rowsI_at hi] at hn0
      obtain rfl : qf i = n0 := Option.some.inj hn0
      have sm9 := sm8.trans (same_new (o := .tup [.int (i : Nat), .int (qf i)]) ht)
      have hys9 : (upd H8 t (.tup [.int (i : Nat), .int (qf i)])) D2 = some (.lst ys) := same_new ht _ _ hys
      have dys9 := dxAll_new (o := .tup [.int (i : Nat), .int (qf i)]) ht dys
      refine ⟨t, _, rfl, SqT.of upd_same, rfl, _, _, rfl, _, _, rfl, rfl, ?_⟩
      refine ⟨rfl, ⟨_, rfl, _, _, rfl, rfl, _, rfl, ite2 (fun e2 => ?_) (fun e2 => ?_)⟩⟩
      · have gi : (g : Int) * (i : Int) = ((g * i : Nat) : Int) := (Int.natCast_mul g i).symm
        have es : (lo : Int) * (m : Int) + (g : Int) * (i : Int) = ((lo * m + g * i : Nat) : Int) := by omega
        refine ⟨_, rfl, _, rfl, _, _, rfl, rfl, .inl ⟨by omega, by omega⟩, _, rfl, _, rfl, _, _, rfl, rfl, .inl ⟨by omega, by omega⟩, _, _, rfl, rfl, _, rfl, (by show 2 ≤ sizeLine; decide), fun p8 hp8 => ?_⟩
        dsimp only; rw [es]
        refine ⟨ys, same_new hp8 _ _ hys9, ?_, same_put (sm9.trans (same_new hp8)) hD2, ys ++ [.ref p8], res ++ [(((lo * m + g * i : Nat) : Int), qf i)], upd_same, ?_, ?_, ?_, ?_⟩
        · have h1 := dxAll_len dys
          rw [List.length_map] at h1
          exact Nat.lt_of_le_of_lt (show ys.length ≤ 5000 by omega) (by decide)
        · rw [List.map_append]
          have d1 : DxAll K NoP (upd (upd H8 t (.tup [.int (i : Nat), .int (qf i)])) p8 (.tup [.int ((lo * m + g * i : Nat) : Int), .int (qf i)])) (ys ++ [.ref p8]) _ := dxAll_app (dxAll_new hp8 dys9) (.cons (prD_dx (SqT.of upd_same)) .nil)
          refine dxAll_keep (fun a' zs e => ?_) (fun a' o z e => z.elim) d1
          rcases e with (e | ⟨ob, e⟩) | e
          · exact .inl (.inl (by rw [upd_ne (ne_of e (same_new hp8 _ _ hys9) (by intro z; cases z))]; exact e))
          · exact .inl (.inr ⟨ob, by rw [upd_ne (ne_of e (same_new hp8 _ _ hys9) (by intro z; cases z))]; exact e⟩)
          · exact .inr e
        · rw [List.length_append, List.length_singleton]
          omega
        · intro q0 hq0
          rcases List.mem_append.mp hq0 with z | z
          · exact ra q0 z
          · exact ⟨i, List.mem_singleton.mp z⟩
        · intro k hk2 hp
          by_cases ek : k = i
          · subst ek
            exact List.mem_append_right _ (List.mem_singleton.mpr rfl)
          · exact List.mem_append_left _ (rb k (by omega) hp)
      · refine ⟨sm9, ys, res, hys9, dys9, by omega, ra, fun k hk2 hp => ?_⟩
        by_cases ek : k = i
        · subst ek
          exact absurd (decide_eq_true hp) e2
        · exact rb k (by omega) hp
    · rintro H8 ⟨sm8, ys, res, hys, dys, lr, ra, rb⟩
      rw [List.length_map, rowsI_len] at rb
      refine q H8 D2 ys res ((sm.trans sm7).trans sm8) hys dys (fun q0 hq0 => ?_) (fun hne => ?_)
      · obtain ⟨k, rfl⟩ := ra q0 hq0
        refine ⟨lo * m + g * k, rfl, ?_⟩
        rw [val]
        unfold spreadF
        rw [if_pos ⟨by omega, ⟨k, by omega⟩⟩, Nat.add_sub_cancel_left, Nat.mul_div_cancel_left _ gp]
      · rw [val] at hne
        unfold spreadF at hne
        by_cases hc : lo * m ≤ N ∧ g ∣ (N - lo * m)
        · rw [if_pos hc] at hne
          obtain ⟨h1, k, h2⟩ := hc
          rw [h2, Nat.mul_div_cancel_left _ gp] at hne
          have hN2 : lo * m + g * k = N := by omega
          have kt : k ≤ tp * m := by
            refine Nat.le_of_not_lt fun z => hne ?_
            rw [← eq]
            exact pw_top top m k z
          have := hk k kt hN2
          have hp := qnn k
          exact ⟨_, rb k (by omega) (by omega), by rw [hN2]⟩
        · rw [if_neg hc] at hne
          exact absurd rfl hne
end
end Ev

set_option exponentiation.threshold 20000
namespace Ev
open PySem PySem.Spec PyProof.Rows L2
theorem gc_zero (b : Int) : gc 0 b = b.natAbs := by
  unfold gc
  exact Nat.gcd_zero_left _
theorem fA_zero (b : Int) : fA 0 b = 0 := by
  unfold fA
  exact Int.zero_fdiv _
theorem fB_zero {b : Int} (h : 0 < b) : fB 0 b = 1 := by
  have d : dv 0 b = b := by
    unfold dv
    rw [if_pos h, gc_zero]
    omega
  unfold fB
  rw [d]
  exact Int.fdiv_self (by omega)
theorem fA_one : fA 1 1 = 1 := by decide
theorem fB_one : fB 1 1 = 1 := by decide
theorem comb_small {a b : Int} (h0 : 0 ≤ b) (h : b ≤ a) (ha : a ≤ 400) : (PySem.W.mcComb a b).natAbs < 2 ^ 25700 := by
  have hn := PySem.W.mc_fp_abs (n := a) (by omega) (by omega) (min b (a - b)).toNat (by omega)
  have h1 := PySem.W.mc_fp_pos (n := a) (min b (a - b)).toNat (by omega)
  have h2 := PySem.W.mc_fp_pos (n := min b (a - b)) (min b (a - b)).toNat (by omega)
  have hq : PySem.W.mcComb a b = Builtin.Math.fallingProduct a (min b (a - b)).toNat / Builtin.Math.fallingProduct (min b (a - b)) (min b (a - b)).toNat := PySem.W.mcComb_at h0 h rfl
  have hlo : 0 ≤ PySem.W.mcComb a b := by
    rw [hq]
    exact Int.ediv_nonneg (by omega) (by omega)
  have hle : PySem.W.mcComb a b ≤ Builtin.Math.fallingProduct a (min b (a - b)).toNat := by
    rw [hq]
    exact Int.ediv_le_self _ (by omega)
  have hab : (PySem.W.mcComb a b).natAbs ≤ 2 ^ (64 * (min b (a - b)).toNat) := by omega
  exact Nat.lt_of_le_of_lt hab (Nat.pow_lt_pow_right (by decide) (by omega))
/-- the weight with which so many tills come to so many misses -/
def missN (x y : Int) (m N : Nat) : Int := if m = 0 then (if N = 0 then 1 else 0) else PySem.W.mcComb ((m : Int) - 1 + N) N * x ^ m * (y - x) ^ N
def tillE (x y : Int) : PyData := .tuple [.str "till", prD x y]
def dieE (l : List (Int × Int × Int)) : PyData := .tuple [.str "die", .tuple (l.map sdD)]
def natW (l : List (Int × Int × Int)) : List (Nat × Int) := (wts l).map fun q => (q.1.toNat, q.2)
theorem natP_natW {l : List (Int × Int × Int)} (h : ∀ q ∈ l, 0 ≤ q.1) : natP (natW l) = wts l := by
  unfold natP natW wts
  rw [List.map_map, List.map_map]
  refine List.map_congr_left fun q hq => ?_
  have := h q hq
  show (((q.1.toNat : Nat) : Int), _) = (q.1, _)
  rw [Int.toNat_of_nonneg this]
/-- sides whose shares are above 0, by ascending numbers -/
structure Good (l : List (Int × Int × Int)) : Prop where
  ne : l ≠ []
  up : l.Pairwise fun p q => p.1 < q.1
  num : ∀ q ∈ l, 0 ≤ q.1 ∧ q.1 ≤ 9
  pos : ∀ q ∈ l, 1 ≤ q.2.1 ∧ 1 ≤ q.2.2
  big : ∀ q ∈ l, q.2.1.natAbs < 2 ^ 8900
  whole : wholeN l < 2 ^ 1400
  sum : (wsum (natW l)).natAbs < 2 ^ 1400
  len : l.length ≤ 1000
theorem Good.pos9 {l : List (Int × Int × Int)} (G : Good l) : ∀ p ∈ natW l, p.1 ≤ 9 ∧ 1 ≤ p.2 := by
  intro p hp
  unfold natW wts at hp
  rw [List.map_map] at hp
  obtain ⟨q, hq, rfl⟩ := List.mem_map.mp hp
  have h1 := G.num q hq
  have h2 := G.pos q hq
  have wp := whole_pos (l := l) fun x hx => (G.pos x hx).2
  have h3 := Nat.le_of_dvd wp (whole_mem hq)
  refine ⟨by show q.1.toNat ≤ 9; omega, ?_⟩
  show 1 ≤ q.2.1 * ((wholeN l : Int) / q.2.2)
  have h4 : 1 ≤ (wholeN l : Int) / q.2.2 := by
    refine (Int.le_ediv_iff_mul_le (by omega)).mpr ?_
    omega
  have := Int.mul_pos (a := q.2.1) (b := (wholeN l : Int) / q.2.2) (by omega) (by omega)
  omega
theorem Good.asc {l : List (Int × Int × Int)} (G : Good l) : (natW l).Pairwise fun p q => p.1 < q.1 := by
  unfold natW wts
  rw [List.map_map, List.pairwise_map]
  refine G.up.imp_of_mem fun {a b} ha hb h => ?_
  have h1 := G.num a ha
  have h2 := G.num b hb
  show a.1.toNat < b.1.toNat
  omega
section
variable {P : Program} {w : World} {K : PySem.W.Frag} {mg : Str → Option Value} {base : Heap} {A : Nat → Addr} {D : Nat → FuncData}
def sp_misses_share (K : PySem.W.Frag) : Sp := fun vs H Q _ => ∃ (t : Addr) (x y : Int) (m N : Nat), vs = [.ref t, .int (m : Int), .int (N : Int)] ∧ SqT K H t [.int x, .int y] ∧ 0 < x ∧ x < y ∧ y.natAbs < 2 ^ 40 ∧ m + N ≤ 200 ∧
  ∀ (H' : Hp) (p : Addr), Same H H' → H' p = some (.tup [.int (fA (missN x y m N) (y ^ (m + N))), .int (fB (missN x y m N) (y ^ (m + N)))]) → Q (.ref p) H'
theorem ypos {y : Int} (h : 0 < y) (n : Nat) : 0 < y ^ n := Int.pow_pos h
theorem Txt.ok_misses_share (T : Txt K mg A D) : FnOk P w K mg base CX0 2 (A 23) (D 23) ["share", "many", "number"] (sp_misses_share K) := by
  refine T.F_misses_share.ok sc_misses_share (fun vs H Q E h => ?_) (fun cdv Ar outer s H vs Q E hr h => ?_)
  · obtain ⟨t, x, y, m, N, rfl, _⟩ := h
    rfl
  · obtain ⟨t, x, y, m, N, rfl, hT, hx, hxy, hy, hmN, q⟩ := h
    have yp := ypos (y := y) (by omega)
    refine ⟨_, (pss_cons (ps_if (pt_cmpR op_eq (pv 1) pe_int (nomark _)) (pss_one (ps_ret (pe_ifExp (pt_cmpR op_eq (pv 2) pe_int (nomark _)) (pe_tup (pa_cons pe_int (pa_cons pe_int pa_nil))) (pe_tup (pa_cons pe_int (pa_cons pe_int pa_nil)))))) pss_nil)
    (pss_cons (ps_asg (pv 0) (pg_tup rfl (pgs_cons (pg_name (i := 3) sc_misses_share.nd rfl (Or.inl rfl)) (pgs_cons (pg_name (i := 4) sc_misses_share.nd rfl (Or.inl rfl)) pgs_nil))))
    (pss_cons (ps_set (i := 5) sc_misses_share.nd rfl (Or.inl rfl) (pe_callBfun cr_comb (by rfl) T.z_comb (pa_cons (pe_op op_add (pe_op op_sub (pv 1) pe_int) (pv 2)) (pa_cons (pv 2) pa_nil))))
    (pss_one (ps_ret (pe_call (T.ok_lowest) hr (by rfl) T.g_lowest T.k_lowest T.b_lowest .nil pass0 (pa_cons (pe_op op_mulW (pe_op op_mulW (pv 5) (pe_call (T.ok_power) hr (by rfl) T.g_power T.k_power T.b_power .nil pass0 (pa_cons (pv 3) (pa_cons (pv 1) pa_nil)))) (pe_call (T.ok_power) hr (by rfl) T.g_power T.k_power T.b_power .nil pass0 (pa_cons (pe_op op_sub (pv 4) (pv 3)) (pa_cons (pv 2) pa_nil)))) (pa_cons (pe_call (T.ok_power) hr (by rfl) T.g_power T.k_power T.b_power .nil pass0 (pa_cons (pv 4) (pa_cons (pe_op op_add (pv 1) (pv 2)) pa_nil))) pa_nil)))))))), ?_⟩
    refine ⟨_, rfl, rfl, _, rfl, ite2 (fun e => ?_) (fun e => ?_)⟩
    · have hm : m = 0 := by
        have : (m : Int) = 0 := V.int.inj (of_decide_eq_true e)
        omega
      subst hm
      refine ⟨_, rfl, rfl, _, rfl, ite2 (fun e => ?_) (fun e => ?_)⟩
      · have hN : N = 0 := by
          have : (N : Int) = 0 := V.int.inj (of_decide_eq_true e)
          omega
        subst hN
        refine ⟨(by show 2 ≤ sizeLine; decide), fun p hp => q _ p (same_new hp) ?_⟩
        rw [upd_same]
        have e1 : missN x y 0 0 = 1 := rfl
        have e2 : y ^ (0 + 0) = 1 := Int.pow_zero _
        rw [e1, e2, fA_one, fB_one]
      · have hN : N ≠ 0 := fun z => vneF e (by rw [z]; rfl)
        refine ⟨(by show 2 ≤ sizeLine; decide), fun p hp => q _ p (same_new hp) ?_⟩
        rw [upd_same]
        have e1 : missN x y 0 N = 0 := by
          unfold missN
          rw [if_pos rfl, if_neg hN]
        rw [e1, fA_zero, fB_zero (yp _)]
    · have hm : m ≠ 0 := fun z => vneF e (by rw [z]; rfl)
      have val : missN x y m N = PySem.W.mcComb ((m : Int) - 1 + N) N * x ^ m * (y - x) ^ N := if_neg hm
      have cs := comb_small (a := (m : Int) - 1 + N) (b := N) (by omega) (by omega) (by omega)
      have px := pow_lt (b := x) (s := 40) (by omega) m
      have py := pow_lt (b := y - x) (s := 40) (by omega) N
      have pl := pow_lt hy (m + N)
      refine ⟨_, rfl, t, _, rfl, hT, rfl, _, _, rfl, _, _, rfl, rfl, ?_⟩
      refine ⟨_, rfl, _, _, rfl, rfl, _, rfl, _, _, rfl, rfl, _, rfl, _, _, rfl, by omega, by omega, by omega, by omega, ?_⟩
      refine ⟨_, rfl, _, rfl, _, rfl, x, m, 40, rfl, by omega, by omega, _, _, rfl, rfl, ?_, _, rfl, _, rfl, _, _, rfl, rfl, _, rfl, y - x, N, 40, rfl, by omega, by omega, _, _, rfl, rfl, ?_, _, rfl, _, rfl, _, rfl, _, _, rfl, rfl, y, m + N, 40, rfl, hy, by omega, _, _, rfl, ?_, ?_, fun H' p sm hp e' => q H' p sm ?_⟩
      · exact wide_mul cs px (by decide) (Nat.succ_pos _) (by omega)
      · exact wide_mul (wide_lt cs px) py (by omega) (Nat.succ_pos _) (by omega)
      · have := yp (m + N)
        omega
      · have h1 : gc (PySem.W.mcComb ((m : Int) - 1 + N) N * x ^ m * (y - x) ^ N) (y ^ (m + N)) ≤ (y ^ (m + N)).natAbs := Nat.gcd_le_right _ (by have := yp (m + N); omega)
        exact Nat.lt_of_le_of_lt h1 (Nat.lt_trans pl (Nat.pow_lt_pow_right (by decide) (by omega)))
      · rw [val]
        exact e'
def sp_sum_share (K : PySem.W.Frag) : Sp := fun vs H Q _ => ∃ (Z : Addr → Prop) (v : V) (m N : Nat), vs = [v, .int (m : Int), .int (N : Int)] ∧
  ((∃ x y : Int, Dx K Z H v (tillE x y) ∧ 0 < x ∧ x < y ∧ y.natAbs < 2 ^ 40 ∧ m + N ≤ 200 ∧
      ∀ (H' : Hp) (p : Addr), Same H H' → H' p = some (.tup [.int (fA (missN x y m N) (y ^ (m + N))), .int (fB (missN x y m N) (y ^ (m + N)))]) → Q (.ref p) H') ∨
    ∃ l : List (Int × Int × Int), Dx K Z H v (dieE l) ∧ Good l ∧ m ≤ 200 ∧ N ≤ 9000 ∧ gc (pw (natW l) m N) ((wholeN l : Int) ^ m) < 2 ^ 8990 ∧
      ∀ (H' : Hp) (p : Addr), Same H H' → H' p = some (.tup [.int (fA (pw (natW l) m N) ((wholeN l : Int) ^ m)), .int (fB (pw (natW l) m N) ((wholeN l : Int) ^ m))]) → Q (.ref p) H')
theorem Txt.ok_sum_share (T : Txt K mg A D) : FnOk P w K mg base CX0 4 (A 24) (D 24) ["die", "many", "number"] (sp_sum_share K) := by
  refine T.F_sum_share.ok sc_sum_share (fun vs H Q E h => ?_) (fun cdv Ar outer s H vs Q E hr h => ?_)
  · obtain ⟨Z, v, m, N, rfl, _⟩ := h
    rfl
  · obtain ⟨Z, v, m, N, rfl, h⟩ := h
    refine ⟨_, (pss_cons (ps_if (pt_cmpR op_lt (pv 2) pe_int (nomark _)) (pss_one (ps_ret (pe_tup (pa_cons pe_int (pa_cons pe_int pa_nil))))) pss_nil)
    (pss_cons (ps_asg (pv 0) (pg_tup rfl (pgs_cons (pg_name (i := 3) sc_sum_share.nd rfl (Or.inl rfl)) (pgs_cons (pg_name (i := 4) sc_sum_share.nd rfl (Or.inl rfl)) pgs_nil))))
    (pss_cons (ps_if (pt_cmpR op_eq (pv 3) pe_str (nomark _)) (pss_one (ps_ret (pe_call (T.ok_misses_share) (hr.mono (by decide)) (by rfl) T.g_misses_share T.k_misses_share T.b_misses_share .nil pass0 (pa_cons (pv 4) (pa_cons (pv 1) (pa_cons (pv 2) pa_nil)))))) pss_nil)
    (pss_cons (ps_asg (pe_call (T.ok_side_weights) (hr.mono (by decide)) (by rfl) T.g_side_weights T.k_side_weights T.b_side_weights .nil pass0 (pa_cons (pv 4) pa_nil)) (pg_tup rfl (pgs_cons (pg_name (i := 5) sc_sum_share.nd rfl (Or.inl rfl)) (pgs_cons (pg_name (i := 6) sc_sum_share.nd rfl (Or.inl rfl)) pgs_nil))))
    (pss_cons (ps_for PassesOwn.never rfl (pi_list (pe_call (T.ok_throw_weights) hr (by rfl) T.g_throw_weights T.k_throw_weights T.b_throw_weights .nil pass0 (pa_cons (pv 5) (pa_cons (pv 1) (pa_cons (pv 2) pa_nil))))) (pg_tup rfl (pgs_cons (pg_name (i := 7) sc_sum_share.nd rfl (Or.inl rfl)) (pgs_cons (pg_name (i := 8) sc_sum_share.nd rfl (Or.inl rfl)) pgs_nil))) (pss_one (ps_if (pt_cmpR op_eq (pv 7) (pv 2) (nomark _)) (pss_one (ps_ret (pe_call (T.ok_lowest) (hr.mono (by decide)) (by rfl) T.g_lowest T.k_lowest T.b_lowest .nil pass0 (pa_cons (pv 8) (pa_cons (pe_call (T.ok_power) (hr.mono (by decide)) (by rfl) T.g_power T.k_power T.b_power .nil pass0 (pa_cons (pv 6) (pa_cons (pv 1) pa_nil))) pa_nil))))) pss_nil)))
    (pss_one (ps_ret (pe_tup (pa_cons pe_int (pa_cons pe_int pa_nil)))))))))), ?_⟩
    refine ⟨_, rfl, _, _, rfl, rfl, _, rfl, ite2 (fun e => absurd (of_decide_eq_true e) (by omega)) (fun _ => ?_)⟩
    rcases h with ⟨x, y, hd, hx, hxy, hy, hmN, q⟩ | ⟨l, hd, G, hm, hN, hg, q⟩
    · obtain ⟨a, u, rfl, hs, hu⟩ := dx_word hd
      obtain ⟨t, rfl, ht⟩ := dx_prD hu
      refine ⟨_, rfl, a, _, rfl, hs, rfl, _, _, rfl, _, _, rfl, rfl, ?_⟩
      refine ⟨_, rfl, rfl, _, rfl, ite2 (fun _ => ?_) (fun e => absurd (decide_eq_true rfl) e)⟩
      exact ⟨_, rfl, _, rfl, _, rfl, t, x, y, m, N, rfl, ht, hx, hxy, hy, hmN, q⟩
    · obtain ⟨a, u, rfl, hs, hu⟩ := dx_word hd
      refine ⟨_, rfl, a, _, rfl, hs, rfl, _, _, rfl, _, _, rfl, rfl, ?_⟩
      refine ⟨_, rfl, rfl, _, rfl, ite2 (fun e => absurd (V.str.inj (of_decide_eq_true e)) (by decide)) (fun _ => ?_)⟩
      have big : (2 : Nat) ^ 1400 ≤ 2 ^ 8900 := Nat.pow_le_pow_right (by decide) (by decide)
      have wb := G.whole
      have wp := whole_pos (l := l) fun x hx => (G.pos x hx).2
      have asc := G.asc
      have pos9 := G.pos9
      have sum9 := G.sum
      have np := natP_natW (l := l) fun q hq => (G.num q hq).1
      refine ⟨_, rfl, Z, u, l, rfl, hu, fun q hq => ⟨(G.pos q hq).2, G.big q hq⟩, by omega, G.len, fun H1 p W ws sm hp hW dW => ⟨p, _, rfl, SqT.of hp, rfl, _, _, rfl, _, _, rfl, rfl, ?_⟩⟩
      obtain ⟨lo, f, r, er⟩ : ∃ lo f r, natW l = (lo, f) :: r := by
        cases e : natW l with
        | nil =>
          have : (natW l).length = l.length := by unfold natW wts; rw [List.length_map, List.length_map]
          rw [e] at this
          exact absurd (List.eq_nil_of_length_eq_zero this.symm) G.ne
        | cons p r => exact ⟨p.1, p.2, r, rfl⟩
      rw [← np, er] at dW
      rw [er] at asc pos9 sum9
      refine ⟨_, rfl, _, rfl, _, rfl, W, ws, lo, f, r, m, N, rfl, hW, dW, asc, pos9, sum9, hm, hN, fun H2 p2 ys res sm2 h2 d2 ra rb => ⟨p2, rfl, ⟨_, SqL.of h2⟩, ?_⟩⟩
      rw [← er] at ra rb
      refine for_it walk_list (fun i σ H' => H' = H2 ∧ (∃ y1 y2 : Option V, σ = [some (.ref a), some (.int (m : Int)), some (.int (N : Int)), some (.str "die"), some u, some (.ref W), some (.int (wholeN l : Int)), y1, y2]) ∧ ∀ j q, j < i → res[j]? = some q → q.1 ≠ N) ⟨rfl, ⟨none, none, rfl⟩, fun j q h => absurd h (Nat.not_lt_zero _)⟩ (fun i σ H' _ z => by rw [z.1]; exact SqL.of h2) ?_ ?_
      · rintro i x σ H3 H4 hi ⟨rfl, ⟨y1, y2, rfl⟩, hj⟩ ⟨rfl, hx⟩
        obtain ⟨n, c, t, h1, rfl, ht⟩ := prs_at d2 hx
        obtain ⟨k, rfl, hc⟩ := ra _ (List.mem_of_getElem? h1)
        refine ⟨t, _, rfl, ht, rfl, _, _, rfl, _, _, rfl, rfl, ?_⟩
        refine ⟨_, rfl, _, rfl, rfl, _, rfl, ite2 (fun e => ?_) (fun e => ?_)⟩
        · have ek : k = N := by
            have : (k : Int) = N := V.int.inj (of_decide_eq_true e)
            omega
          subst ek
          subst hc
          refine ⟨_, rfl, _, rfl, _, rfl, (wholeN l : Int), m, 1400, rfl, by omega, by omega, _, _, rfl, ?_, hg, fun H' p5 sm5 _ e5 => q H' p5 ((sm.trans sm2).trans sm5) e5⟩
          have := ypos (y := (wholeN l : Int)) (by omega) m
          omega
        · refine ⟨rfl, ⟨_, _, rfl⟩, fun j q' hj' hq' => ?_⟩
          by_cases ej : j = i
          · subst ej
            rw [h1] at hq'
            cases hq'
            exact fun z => vneF e (congrArg V.int z)
          · exact hj j q' (by omega) hq'
      · rintro σ H3 ⟨rfl, ⟨y1, y2, rfl⟩, hj⟩
        have lr : ys.length = res.length := by rw [dxAll_len d2, List.length_map]
        have z : pw (natW l) m N = 0 := by
          refine Decidable.byContradiction fun hne => ?_
          obtain ⟨q', hq', e'⟩ := rb hne
          obtain ⟨j, hj1, hj2⟩ := List.getElem_of_mem hq'
          exact hj j q' (by omega) (by rw [List.getElem?_eq_getElem hj1, hj2]) e'
        refine ⟨(by show 2 ≤ sizeLine; decide), fun p9 hp9 => q _ p9 ((sm.trans sm2).trans (same_new hp9)) ?_⟩
        rw [upd_same, z, fA_zero, fB_zero (ypos (by omega) m)]
end
end Ev

set_option exponentiation.threshold 3000
namespace Ev
open PySem PySem.Spec PyProof.Rows L2 SX
open TL (numL numL_lt numL_step numL_digits numL_ne numL_free numL_val numL_inj numL_len)
/-! ### what is read is of at most 400 figures -/
theorem digits_lt : ∀ n (cs : List Nat), cs.length = n → NumText.AllDigits cs → NumText.digitsVal cs < 10 ^ n
  | 0, cs, hl, _ => by
    have e : cs = [] := List.eq_nil_of_length_eq_zero hl
    rw [e]
    decide
  | n + 1, cs, hl, hd => by
    rcases List.eq_nil_or_concat cs with e | ⟨r, c, e⟩
    · rw [e] at hl
      cases hl
    · rw [List.concat_eq_append] at e
      subst e
      rw [List.length_append, List.length_singleton] at hl
      have ih := digits_lt n r (by omega) fun d h => hd d (List.mem_append_left _ h)
      have hc := hd c (List.mem_append_right _ (List.mem_singleton.mpr rfl))
      rw [NumText.digitsVal_snoc, Nat.pow_succ]
      omega
theorem vl_lt {u : List Nat} (h : okP u = true) : vl u < 10 ^ 400 := by
  obtain ⟨h1, h2, h3, h4⟩ := okP_iff.mp h
  exact Nat.lt_of_lt_of_le (digits_lt _ u rfl (dig_all h3)) (Nat.pow_le_pow_right (by decide) h2)
theorem sg_abs (t : List Nat) (n : Nat) : (sg t n).natAbs = n := by
  unfold sg
  split <;> omega
theorem rd_in4 {t : List Nat} {a b : Int} (h : rdF t = some (a, b)) : In4 a ∧ In4 b := by
  rw [← rdL_eq] at h
  unfold rdL at h
  split at h
  · split at h
    · rename_i u _ c
      cases h
      refine ⟨?_, In4.one⟩
      show (sg t (vl u)).natAbs < 10 ^ 400
      rw [sg_abs]
      exact vl_lt c.1
    · cases h
  · split at h
    · rename_i u r _ c
      cases h
      refine ⟨?_, ?_⟩
      · show (sg t (vl u)).natAbs < 10 ^ 400
        rw [sg_abs]
        exact vl_lt c.1
      · show (((vl r : Nat) : Int)).natAbs < 10 ^ 400
        rw [Int.natAbs_natCast]
        exact vl_lt c.2.1
    · cases h
  · cases h
theorem fits_int {x : Int} (h : In4 x) : decide (x.natAbs.log2 < 1920) = true := decide_eq_true h.log
theorem fits_R {o : Option (Int × Int)} (h : ∀ a b, o = some (a, b) → In4 a ∧ In4 b) : fits (toldR o) = true := by
  match o, h with
  | none, _ => decide
  | some (a, b), h =>
    have f1 := fits_int (h a b rfl).1
    have f2 := fits_int (h a b rfl).2
    have f3 : (("told" : Str).cps.toList.all fun c => decide (c < 16 ^ 8)) = true := by decide
    unfold toldR
    simp only [fits, fitsAll, f1, f2, Bool.and_self]
    exact f3
theorem sz_R (o : Option (Int × Int)) : sz (toldR o) ≤ 100 := by
  match o with
  | none => exact Nat.le_of_ble_eq_true rfl
  | some (a, b) => exact Nat.le_of_ble_eq_true rfl
theorem depth_R (o : Option (Int × Int)) : (toldR o).depth ≤ 2 := by
  match o with
  | none => exact Nat.le_of_ble_eq_true rfl
  | some (a, b) => exact Nat.le_of_ble_eq_true rfl
/-! ### values stay what they are -/
theorem TyX.same {K : PySem.W.Frag} {H H' : Hp} (s : Same H H') {v : V} {t : Value} (h : TyX K H v t) : TyX K H' v t := by
  cases h with
  | base h =>
    refine .base ?_
    cases h with
    | non => exact .non
    | bl x => exact .bl x
    | int i => exact .int i
    | str x => exact .str x
    | flt x => exact .flt x
    | lst e => exact .lst (s _ _ e)
    | frz e => exact .frz (s _ _ e)
    | tup e => exact .tup (s _ _ e)
    | dK e => exact .dK (s _ _ e)
    | dT e => exact .dT (s _ _ e)
    | ins e cl ha hn htk hm => exact .ins (s _ _ e) cl ha hn htk hm
  | byt b => exact .byt b
  | set e => exact .set (s _ _ e)
  | kList e c => exact .kList e c
  | kTuple e c => exact .kTuple e c
  | kDict e c => exact .kDict e c
  | fTuple e => exact .fTuple (s _ _ e)
  | fDict e => exact .fDict (s _ _ e)
theorem Vo.same {K : PySem.W.Frag} {H H' : Hp} (s : Same H H') {v : V} {o : Option (Int × Int)} (h : Vo K H v o) : Vo K H' v o := by
  rcases h with h | ⟨tn, ty, kt, e⟩
  · exact .inl h
  · exact .inr ⟨tn, TyX.same s ty, kt, e⟩
theorem Vo.in4 {K : PySem.W.Frag} {H : Hp} {v : V} {o : Option (Int × Int)} (h : Vo K H v o) : ∀ a b, o = some (a, b) → In4 a ∧ In4 b := by
  rcases h with ⟨t, _, _, _, e⟩ | ⟨_, _, _, e⟩
  · intro a b z
    rw [z] at e
    exact rd_in4 e
  · intro a b z
    rw [z] at e
    cases e
/-! ### the state of the law -/
def TxS (m : Nat) (x : V) : Prop := ∃ t : List Nat, x = .str (S t) ∧ Ch t ∧ t.length ≤ m
structure Sk (L F O Kn : Addr) (os : List V) (kvs : List (Key × V)) (n : Nat) (H : Hp) : Prop where
  lm : Lm H L F
  ol : H O = some (.lst os)
  o1 : O ≠ L
  o2 : O ≠ F
  kl : H Kn = some (.dK kvs)
  k1 : Kn ≠ L
  k2 : Kn ≠ F
  len : kvs.length ≤ n
  good : ∀ kv ∈ kvs, ∃ (a b : Int) (t : Addr), kv = (Sum.inr (S (fracL a b)), .ref t) ∧ H t = some (.tup [.int a, .int b]) ∧ Low a b ∧ In4 a ∧ In4 b
theorem Sk.kp {L F O Kn : Addr} {os : List V} {kvs : List (Key × V)} {n : Nat} {H H' : Hp} (h : Sk L F O Kn os kvs n H) (k : Kp L F H H') (l : Lm H' L F) : Sk L F O Kn os kvs n H' where
  lm := l
  ol := k _ _ h.o1 h.o2 h.ol
  o1 := h.o1
  o2 := h.o2
  kl := k _ _ h.k1 h.k2 h.kl
  k1 := h.k1
  k2 := h.k2
  len := h.len
  good := fun kv hv => by
    obtain ⟨a, b, t, e, ht, r⟩ := h.good kv hv
    exact ⟨a, b, t, e, k.tup h.lm ht, r⟩
theorem Sk.same {L F O Kn : Addr} {os : List V} {kvs : List (Key × V)} {n : Nat} {H H' : Hp} (h : Sk L F O Kn os kvs n H) (s : Same H H') : Sk L F O Kn os kvs n H' := h.kp (kp_same s) (h.lm.same s)
theorem Sk.new {L F O Kn p : Addr} {os : List V} {kvs : List (Key × V)} {n : Nat} {H : Hp} {o : HO} (h : Sk L F O Kn os kvs n H) (hp : H p = none) : Sk L F O Kn os kvs n (upd H p o) := h.same (same_new hp)
theorem mem_putK {kvs : List (Key × V)} {k : Key} {v : V} {kv : Key × V} (h : kv ∈ putK kvs k v) : kv ∈ kvs ∨ kv = (k, v) := by
  unfold putK at h
  split at h
  · obtain ⟨x, hx, e⟩ := List.mem_map.mp h
    by_cases z : x.1 = k
    · rw [if_pos z] at e
      exact .inr (by rw [← e, z])
    · rw [if_neg z] at e
      exact .inl (by rw [← e]; exact hx)
  · rcases List.mem_append.mp h with z | z
    · exact .inl z
    · exact .inr (List.mem_singleton.mp z)
theorem len_putK (kvs : List (Key × V)) (k : Key) (v : V) : (putK kvs k v).length ≤ kvs.length + 1 := by
  unfold putK
  split
  · rw [List.length_map]; omega
  · exact Nat.le_of_eq (by rw [List.length_append, List.length_singleton])
theorem Sk.put {L F O Kn t : Addr} {os : List V} {kvs : List (Key × V)} {n : Nat} {H : Hp} {a b : Int} (h : Sk L F O Kn os kvs n H) (ht : H t = some (.tup [.int a, .int b])) (lo : Low a b) (ia : In4 a) (ib : In4 b) :
    Sk L F O Kn os (putK kvs (Sum.inr (S (fracL a b))) (.ref t)) (n + 1) (upd H Kn (.dK (putK kvs (Sum.inr (S (fracL a b))) (.ref t)))) := by
  have stay : ∀ {u : Addr} {xs : List V}, H u = some (.tup xs) → (upd H Kn (.dK (putK kvs (Sum.inr (S (fracL a b))) (.ref t)))) u = some (.tup xs) := fun {u xs} hu => by
    rw [upd_ne (ne_of hu h.kl (by intro z; cases z))]
    exact hu
  refine ⟨?_, ?_, h.o1, h.o2, upd_same, h.k1, h.k2, Nat.le_trans (len_putK _ _ _) (Nat.succ_le_succ h.len), fun kv hv => ?_⟩
  · obtain ⟨fs, x, y, h1, h2, h3⟩ := h.lm
    exact ⟨fs, x, y, by rw [upd_ne h.k1.symm]; exact h1, by rw [upd_ne h.k2.symm]; exact h2, h3⟩
  · rw [upd_ne (ne_of h.ol h.kl (by intro z; cases z))]
    exact h.ol
  · rcases mem_putK hv with z | z
    · obtain ⟨x, y, u, e, hu, r⟩ := h.good kv z
      exact ⟨x, y, u, e, stay hu, r⟩
    · exact ⟨a, b, t, z, stay ht, lo, ia, ib⟩
/-- what the dict holds at a fraction's text is that fraction -/
theorem Sk.at {L F O Kn : Addr} {os : List V} {kvs : List (Key × V)} {n : Nat} {H : Hp} {a b : Int} {v : V} (h : Sk L F O Kn os kvs n H) (lo : Low a b) (ia : In4 a) (ib : In4 b)
    (e : valV kvs (Sum.inr (S (fracL a b))) = some v) : ∃ u, v = .ref u ∧ H u = some (.tup [.int a, .int b]) := by
  unfold valV at e
  cases z : kvs.find? (fun kv => decide (kv.1 = Sum.inr (S (fracL a b)))) with
  | none => rw [z] at e; cases e
  | some kv =>
    rw [z] at e
    have ev : kv.2 = v := Option.some.inj e
    have hk : kv.1 = Sum.inr (S (fracL a b)) := of_decide_eq_true (List.find?_some (p := fun x : Key × V => decide (x.1 = Sum.inr (S (fracL a b)))) z)
    obtain ⟨x, y, u, ek, hu, lo2, ix, iy⟩ := h.good kv (List.mem_of_find?_eq_some z)
    rw [ek] at hk ev
    have e2 : S (fracL x y) = S (fracL a b) := Sum.inr.inj hk
    obtain ⟨rfl, rfl⟩ := frac_inj lo2 lo ix iy ia ib (S_inj e2)
    exact ⟨u, ev.symm, hu⟩
theorem al_eq {L F p : Addr} {H G : Hp} {ob : HO} (hG : upd H p ob = G) (hM : Lm H L F) (hp : H p = none) :
    Lm G L F ∧ Kp L F H G ∧ G p = some ob ∧ p ≠ L ∧ p ≠ F := by
  subst hG
  exact ⟨hM.new hp, Kp.new hp, upd_same, hM.ne hp⟩
end Ev

set_option exponentiation.threshold 10000
/-! 1 and so many noughts -/
namespace Ev
open PySem PySem.Spec PyProof.Rows L2 SX
open TL (numL numL_lt numL_step numL_digits numL_ne numL_free numL_val numL_inj numL_len)
theorem numL_ten : ∀ n, numL (10 ^ n) = 49 :: List.replicate n 48
  | 0 => by
    rw [Nat.pow_zero, numL_lt (by decide)]
    rfl
  | n + 1 => by
    have p : 0 < 10 ^ n := Nat.pow_pos (by decide)
    have e : 10 ^ (n + 1) = 10 ^ n * 10 := Nat.pow_succ 10 n
    rw [numL_step (by omega), show 10 ^ (n + 1) / 10 = 10 ^ n by omega, show 10 ^ (n + 1) % 10 = 0 by omega, numL_ten n, List.replicate_succ' (n := n)]
    rfl
theorem reps (c : Array Nat) : ∀ (k : Nat) (acc : Array Nat), ((List.replicate k c).foldl (· ++ ·) acc).toList = acc.toList ++ (List.replicate k c.toList).flatten
  | 0, acc => by simp
  | k + 1, acc => by
    rw [List.replicate_succ, List.foldl_cons, reps c k, List.replicate_succ, List.flatten_cons, Array.toList_append, List.append_assoc]
theorem mul_one_sign (c k : Nat) : Txt.mul (S [c]) (k : Int) = S (List.replicate k c) := by
  refine TL.ext_tl ?_
  show (Txt.mul (S [c]) (k : Int)).cps.toList = List.replicate k c
  unfold Txt.mul
  by_cases h : (k : Int) < 1
  · have : k = 0 := by omega
    subst this
    rw [if_pos h]
    rfl
  · rw [if_neg h]
    by_cases h1 : k = 1
    · subst h1
      rfl
    · have n1 : ((k : Int) == 1 || (S [c]).length == 0) = false := by
        rw [Bool.or_eq_false_iff, beq_eq_false_iff_ne]
        exact ⟨by omega, rfl⟩
      rw [n1]
      show ((List.replicate (k : Int).toNat (S [c]).cps).foldl (· ++ ·) #[]).toList = _
      rw [reps]
      have flat : ∀ m, (List.replicate m [c]).flatten = List.replicate m c := fun m => by
        induction m with
        | zero => rfl
        | succ m ih => rw [List.replicate_succ, List.flatten_cons, ih]; rfl
      exact flat k
theorem frac_ten {k : Nat} (h : 1 ≤ k) : fracL 1 ((10 ^ k : Nat) : Int) = [49, 47, 49] ++ List.replicate k 48 := by
  have p : 10 ≤ 10 ^ k := by
    have := Nat.pow_le_pow_right (n := 10) (by decide) h
    rw [Nat.pow_one] at this
    exact this
  have n1 : ¬ ((10 ^ k : Nat) : Int) = 1 := by omega
  unfold fracL
  rw [if_neg n1]
  have e1 : intL 1 = [49] := by decide +kernel
  have e2 : intL ((10 ^ k : Nat) : Int) = 49 :: List.replicate k 48 := by
    unfold intL
    rw [if_neg (by omega), Int.natAbs_natCast, numL_ten]
  rw [e1, e2]
  rfl
end Ev

set_option exponentiation.threshold 20000
namespace Ev
open PySem PySem.Spec PyProof.Rows L2 SX
open TL (numL numL_lt numL_step numL_digits numL_ne numL_free numL_val numL_inj numL_len)
theorem ps_absurd {X : Cx} {st : Stmt} : PS X st (fun _ _ _ => False) := ⟨fun _ _ _ _ _ _ h => h.elim⟩
/-! ### texts of the law's own list -/
theorem TxS.app {m n : Nat} {u v : Str} (a : TxS m (.str u)) (b : TxS n (.str v)) : TxS (m + n) (.str (u ++ v)) := by
  obtain ⟨x, e1, c1, l1⟩ := a
  obtain ⟨y, e2, c2, l2⟩ := b
  have e1 := V.str.inj e1
  have e2 := V.str.inj e2
  subst e1 e2
  exact ⟨x ++ y, by rw [S_cat], c1.app c2, by rw [List.length_append]; omega⟩
theorem TxS.le {m n : Nat} {v : V} (a : TxS m v) (h : m ≤ n) : TxS n v := by
  obtain ⟨x, e1, c1, l1⟩ := a
  exact ⟨x, e1, c1, Nat.le_trans l1 h⟩
theorem TxS.len {m : Nat} {u : Str} (a : TxS m (.str u)) : u.length ≤ m := by
  obtain ⟨x, e1, c1, l1⟩ := a
  have e1 := V.str.inj e1
  rw [e1, S_len]
  exact l1
theorem tx_of (t : List Nat) (h : (t.all fun c => decide (c < 1114112)) = true) : TxS t.length (.str (S t)) :=
  ⟨t, rfl, fun c hc => of_decide_eq_true (List.all_eq_true.mp h c hc), Nat.le_refl _⟩
theorem ch_int (x : Int) : Ch (intL x) := fun c hc => by
  unfold intL at hc
  split at hc
  · rcases List.mem_cons.mp hc with y | y
    · omega
    · have := numL_digits _ c y
      omega
  · have := numL_digits _ c hc
    omega
theorem tx_int {x : Int} (h : x.natAbs < 10 ^ 402) : TxS 403 (.str (Str.ofString (toString x))) :=
  ⟨intL x, by rw [int_S], ch_int x, intL_len (by decide) h⟩
theorem p402 : 10 ^ 402 < 2 ^ 1920 := by decide +kernel
theorem log402 {x : Int} (h : x.natAbs < 10 ^ 402) : x.natAbs.log2 < 1920 := PySem.Flt.log2_lt_of (by decide) (Nat.lt_trans h p402)
theorem pow402 {k : Nat} (h : k ≤ 400) : (((10 ^ k : Nat) : Int) + 1).natAbs < 10 ^ 402 := by
  have e : (((10 ^ k : Nat) : Int) + 1).natAbs = 10 ^ k + 1 := by
    generalize 10 ^ k = n
    omega
  rw [e]
  have h1 : 10 ^ k ≤ 10 ^ 400 := Nat.pow_le_pow_right (by decide) h
  have h2 : 10 ^ 400 + 1 < 10 ^ 402 := by decide +kernel
  omega
theorem pow402' {k : Nat} (h : k ≤ 400) : (((10 ^ k : Nat) : Int)).natAbs < 10 ^ 402 := by
  have e := pow402 h
  revert e
  generalize 10 ^ 402 = m
  generalize 10 ^ k = n
  intro e
  omega
theorem fold_in (c : Array Nat) : ∀ (k : Nat) (acc : Array Nat) (x : Nat), x ∈ ((List.replicate k c).foldl (· ++ ·) acc).toList → x ∈ acc.toList ∨ x ∈ c.toList
  | 0, acc, x, h => .inl h
  | k + 1, acc, x, h => by
    rw [List.replicate_succ, List.foldl_cons] at h
    rcases fold_in c k (acc ++ c) x h with z | z
    · rw [Array.toList_append] at z
      exact List.mem_append.mp z
    · exact .inr z
theorem mul_ex {m : Nat} {u : Str} (h : TxS m (.str u)) (n : Nat) : TxS (m * n) (.str (Txt.mul u n)) := by
  obtain ⟨x, e1, c1, l1⟩ := h
  have e1 := V.str.inj e1
  subst e1
  have hl := len_mul (S x) (n : Int)
  refine ⟨(Txt.mul (S x) n).cps.toList, congrArg V.str (S_of _), fun c hc => ?_, ?_⟩
  · unfold Txt.mul at hc
    split at hc
    · cases hc
    · split at hc
      · exact c1 c hc
      · rcases fold_in _ _ _ _ hc with z | z
        · cases z
        · exact c1 c z
  · rw [len_S]
    have e0 : (if decide ((n : Int) < 0) = true then (0 : Int) else n) = n := if_neg (by simp)
    have hx : (S x).length = x.length := S_len x
    rw [e0, hx] at hl
    have : (Txt.mul (S x) n).length = x.length * n := by
      have e2 : ((x.length * n : Nat) : Int) = (x.length : Int) * n := Int.natCast_mul _ _
      rw [← e2] at hl
      exact Int.ofNat.inj hl
    rw [this]
    exact Nat.mul_le_mul_right _ l1
/-! ### the die of two sides, the one of which hardly ever shows -/
def tallL : List (Int × Int × Int) := [(0, 1, ((10 ^ 399 : Nat) : Int)), (1, ((10 ^ 399 : Nat) : Int) - 1, ((10 ^ 399 : Nat) : Int))]
theorem tall_whole : wholeN tallL = 10 ^ 399 := by
  show Nat.lcm (Nat.lcm 1 (((10 ^ 399 : Nat) : Int)).natAbs) (((10 ^ 399 : Nat) : Int)).natAbs = 10 ^ 399
  rw [Int.natAbs_natCast, PySem.W.mc_lcm_one, Nat.lcm_self]
theorem ten_pos (n : Nat) : 0 < 10 ^ n := Nat.pow_pos (by decide)
theorem tall_natW : natW tallL = [(0, 1), (1, ((10 ^ 399 : Nat) : Int) - 1)] := by
  have e : ((10 ^ 399 : Nat) : Int) / ((10 ^ 399 : Nat) : Int) = 1 := Int.ediv_self (by have := ten_pos 399; omega)
  show [((0 : Int).toNat, 1 * ((wholeN tallL : Int) / ((10 ^ 399 : Nat) : Int))), ((1 : Int).toNat, (((10 ^ 399 : Nat) : Int) - 1) * ((wholeN tallL : Int) / ((10 ^ 399 : Nat) : Int)))] = _
  rw [tall_whole, e, Int.mul_one, Int.mul_one]
  rfl
theorem tall_lt : (10 : Nat) ^ 399 < 2 ^ 1400 := by decide +kernel
theorem tall_good : Good tallL := by
  have p := ten_pos 399
  have h1 : (10 : Nat) ≤ 10 ^ 399 := Nat.le_self_pow (by decide) 10
  have l := tall_lt
  have big : (2 : Nat) ^ 1400 ≤ 2 ^ 8900 := Nat.pow_le_pow_right (by decide) (by decide)
  have mem : ∀ q ∈ tallL, q = (0, 1, ((10 ^ 399 : Nat) : Int)) ∨ q = (1, ((10 ^ 399 : Nat) : Int) - 1, ((10 ^ 399 : Nat) : Int)) := fun q hq => by
    unfold tallL at hq
    simpa only [List.mem_cons, List.not_mem_nil, or_false] using hq
  generalize et : (10 : Nat) ^ 399 = t at *
  refine ⟨by unfold tallL; exact List.cons_ne_nil _ _, ?_, fun q hq => ?_, fun q hq => ?_, fun q hq => ?_, ?_, ?_, ?_⟩
  · unfold tallL
    refine .cons (fun q hq => ?_) (.cons (fun q hq => nomatch hq) .nil)
    rw [List.mem_singleton.mp hq]
    show (0 : Int) < 1
    decide
  · rcases mem q hq with rfl | rfl
    · exact ⟨Int.le_refl _, by show (0 : Int) ≤ 9; decide⟩
    · exact ⟨by show (0 : Int) ≤ 1; decide, by show (1 : Int) ≤ 9; decide⟩
  · rcases mem q hq with rfl | rfl
    · exact ⟨by show (1 : Int) ≤ 1; decide, by show 1 ≤ (t : Int); omega⟩
    · exact ⟨by show 1 ≤ (t : Int) - 1; omega, by show 1 ≤ (t : Int); omega⟩
  · rcases mem q hq with rfl | rfl
    · show (1 : Int).natAbs < 2 ^ 8900
      exact Nat.one_lt_pow (by decide) (by decide)
    · show ((t : Int) - 1).natAbs < 2 ^ 8900
      omega
  · rw [tall_whole, et]
    exact l
  · rw [tall_natW, et]
    show (1 + (((t : Int) - 1) + 0)).natAbs < 2 ^ 1400
    omega
  · show 2 ≤ 1000
    decide
theorem tall_pw (m : Nat) : pw (natW tallL) m 0 = 1 := by
  rw [tall_natW, pw_zero 1 (fun p hp => by rw [List.mem_singleton.mp hp]; exact Nat.le_refl _) m, Int.one_pow]
theorem gc_one (b : Int) : gc 1 b = 1 := by
  unfold gc
  exact Nat.gcd_one_left _
theorem fA_1 {b : Int} (h : 0 < b) : fA 1 b = 1 := by
  unfold fA dv
  rw [if_pos h, gc_one]
  rfl
theorem fB_1 {b : Int} (h : 0 < b) : fB 1 b = b := by
  unfold fB dv
  rw [if_pos h, gc_one]
  exact Int.fdiv_one _
section
variable {P : Program} {w : World} {K : PySem.W.Frag} {mg : Str → Option Value} {base : Heap} {A : Nat → Addr} {D : Nat → FuncData}
def sp_law (K : PySem.W.Frag) : Sp := fun vs H Q _ => ∃ (a : Addr) (ns : List Int), vs = [.ref a] ∧ SqL K H a (ns.map V.int) ∧ ns.length ≤ 63 ∧ ∀ H', Q (.bl true) H'
theorem Txt.ok_law (T : Txt K mg A D) : FnG P w K mg base CX0 5 (A 17) (D 17) ["script"] (sp_law K) := by
  refine okG T.F_law sc_law (fun vs H Q E h => ?_) (fun cdv Ar outer s H vs Q E hA hr h => ?_)
  · obtain ⟨a, ns, rfl, _⟩ := h
    rfl
  · obtain ⟨a0, ns, rfl, hS, hlen, q⟩ := h
    have hG : (Ar.deeper (envOfC (Str.ofString "law") (defScope s_law) s.heap.objs.size (A 17) cdv)).guards = some [] := hA
    have hu := hu_of hr
    refine ⟨_, (pss_cons (ps_set (i := 1) sc_law.nd rfl (Or.inl rfl) (pe_call (T.ok_loom) (hr.mono (by decide)) (by rfl) T.g_loom T.k_loom T.b_loom .nil pass0 (pa_cons (pv 0) pa_nil)))
    (pss_cons (ps_set (i := 2) sc_law.nd rfl (Or.inl rfl) (pe_lst (pa_cons pe_str (pa_cons pe_str (pa_cons pe_str (pa_cons pe_str (pa_cons pe_str (pa_cons pe_str (pa_cons pe_str (pa_cons pe_str (pa_cons pe_str pa_nil)))))))))))
    (pss_cons (ps_set (i := 2) sc_law.nd rfl (Or.inl rfl) (pe_op op_cat (pv 2) (pe_lst (pa_cons pe_str (pa_cons pe_str (pa_cons pe_str (pa_cons pe_str (pa_cons pe_str (pa_cons pe_str (pa_cons pe_str (pa_cons pe_str pa_nil)))))))))))
    (pss_cons (ps_set (i := 2) sc_law.nd rfl (Or.inl rfl) (pe_op op_cat (pv 2) (pe_lst (pa_cons (pe_callTy call_str_int (by rfl) T.z_str (by decide +kernel) (pa_cons (pe_call (T.ok_ten) (hr.mono (by decide)) (by rfl) T.g_ten T.k_ten T.b_ten .nil pass0 (pa_cons pe_int pa_nil)) pa_nil)) (pa_cons (pe_callTy call_str_int (by rfl) T.z_str (by decide +kernel) (pa_cons (pe_call (T.ok_ten) (hr.mono (by decide)) (by rfl) T.g_ten T.k_ten T.b_ten .nil pass0 (pa_cons pe_int pa_nil)) pa_nil)) (pa_cons (pe_op op_add_str pe_str (pe_callTy call_str_int (by rfl) T.z_str (by decide +kernel) (pa_cons (pe_call (T.ok_ten) (hr.mono (by decide)) (by rfl) T.g_ten T.k_ten T.b_ten .nil pass0 (pa_cons pe_int pa_nil)) pa_nil))) (pa_cons (pe_op op_add_str pe_str (pe_callTy call_str_int (by rfl) T.z_str (by decide +kernel) (pa_cons (pe_call (T.ok_ten) (hr.mono (by decide)) (by rfl) T.g_ten T.k_ten T.b_ten .nil pass0 (pa_cons pe_int pa_nil)) pa_nil))) pa_nil)))))))
    (pss_cons (ps_set (i := 2) sc_law.nd rfl (Or.inl rfl) (pe_op op_cat (pv 2) (pe_lst (pa_cons (pe_op op_mulS pe_str pe_int) (pa_cons (pe_op op_add_str pe_str (pe_callTy call_str_int (by rfl) T.z_str (by decide +kernel) (pa_cons (pe_op op_add (pe_call (T.ok_ten) (hr.mono (by decide)) (by rfl) T.g_ten T.k_ten T.b_ten .nil pass0 (pa_cons pe_int pa_nil)) pe_int) pa_nil))) (pa_cons (pe_op op_add_str pe_str (pe_op op_mulS pe_str pe_int)) (pa_cons pe_str (pa_cons pe_str (pa_cons pe_str pa_nil)))))))))
    (pss_cons (ps_set (i := 3) sc_law.nd rfl (Or.inl rfl) pe_dnewK)
    (pss_cons (ps_for PassesOwn.never rfl (pi_range1 rfl T.range (pa_cons pe_int pa_nil)) (pg_name (i := 4) sc_law.nd rfl (Or.inl rfl)) (pss_cons (ps_set (i := 5) sc_law.nd rfl (Or.inl rfl) (pe_call (T.ok_fraction) (hr.mono (by decide)) (by rfl) T.g_fraction T.k_fraction T.b_fraction .nil pass0 (pa_cons (pv 1) pa_nil)))
    (C8.pss_cut (ps_set (i := 6) sc_law.nd rfl (Or.inl rfl) (pe_ifExp (pt_cmpR op_eq (pv 4) pe_int (nomark _)) (pe_callK0 T.ok_fraction_text (hr.mono (by decide)) (by rfl) T.g_fraction_text T.k_fraction_text T.kb_fraction_text pass0 (pk_cons (pv 5) pk_nil)) (pe_call (T.ok_fraction_text) (hr.mono (by decide)) (by rfl) T.g_fraction_text T.k_fraction_text T.b_fraction_text .nil pass0 (pa_cons (pv 5) pa_nil))))
    (pss_cons (ps_if (PW.pt (pw_or (pt_cmpR op_ne (pe_callB (call_reprV hG hr.units) (by rfl) T.z_repr (by decide +kernel) (pa_cons (pv 6) pa_nil)) (pe_callB (call_reprV hG hr.units) (by rfl) T.z_repr (by decide +kernel) (pa_cons (pe_call (T.ok_written) (hr.mono (by decide)) (by rfl) T.g_written T.k_written T.b_written .nil pass0 (pa_cons (pv 5) pa_nil)) pa_nil)) (nomark _)) (pw_or1 (pt_cmpR op_ne (pe_callB (call_repr hG hr.units) (by rfl) T.z_repr (by decide +kernel) (pa_cons (pe_call (T.ok_told) (hr.mono (by decide)) (by rfl) T.g_told T.k_told T.b_told .nil pass0 (pa_cons (pv 6) (pa_cons (pe_cmpR op_eq (pv 4) pe_int (nomark _)) pa_nil))) pa_nil)) (pe_callB (call_repr hG hr.units) (by rfl) T.z_repr (by decide +kernel) (pa_cons (pe_lst (pa_cons pe_str (pa_cons (pv 5) pa_nil))) pa_nil)) (nomark _))))) (pss_one (ps_ret pe_bl)) pss_nil)
    (pss_cons (ps_if (pt_cmpR (op_neD hr.units) (pe_dget2 hu (pv 3) (pv 6) (pv 5) ⟨rfl, rfl, rfl, rfl⟩) (pv 5) (nomark _)) (pss_one (ps_ret pe_bl)) pss_nil)
    (pss_cons (ps_dput hu (pv 3) (pv 6) (pv 5) rfl)
    (pss_one (ps_for PassesOwn.never rfl (pi_range1 rfl T.range (pa_cons pe_int pa_nil)) (pg_name (i := 7) sc_law.nd rfl (Or.inl rfl)) (C8.pss_cut (ps_set (i := 8) sc_law.nd rfl (Or.inl rfl) (pe_ifExp (pt_cmpR op_lt (pv 7) pe_int (nomark _)) (pe_call (T.ok_bent) (hr.mono (by decide)) (by rfl) T.g_bent T.k_bent T.b_bent .nil pass0 (pa_cons (pv 1) (pa_cons (pv 6) pa_nil))) (pe_ifExp (pt_cmpR op_eq (pv 7) pe_int (nomark _)) (pe_call (T.ok_pick) (hr.mono (by decide)) (by rfl) T.g_pick T.k_pick T.b_pick .nil pass0 (pa_cons (pv 1) (pa_cons (pv 2) pa_nil))) (pe_call (T.ok_odd) (hr.mono (by decide)) (by rfl) T.g_odd T.k_odd T.b_odd .nil pass0 (pa_cons (pv 1) pa_nil)))))
    (C8.pss_cut (ps_set (i := 9) sc_law.nd rfl (Or.inl rfl) (pe_call (T.ok_read) (hr.mono (by decide)) (by rfl) T.g_read T.k_read T.b_read .nil pass0 (pa_cons (pv 8) pa_nil)))
    (C8.pss_cut (ps_set (i := 9) sc_law.nd rfl (Or.inl rfl) (pe_ifExp (pt_cmpR op_isN (pv 9) pe_non (nomark _)) (pe_lst (pa_cons pe_str (pa_cons pe_bl pa_nil))) (pe_lst (pa_cons pe_str (pa_cons (pv 9) pa_nil)))))
    (pss_one (ps_if (PW.pt (pw_or (pt_cmpR op_ne (pe_callB (call_repr hG hr.units) (by rfl) T.z_repr (by decide +kernel) (pa_cons (pe_call (T.ok_told) (hr.mono (by decide)) (by rfl) T.g_told T.k_told T.b_told .nil pass0 (pa_cons (pv 8) (pa_cons (pe_cmpR op_eq (pv 7) pe_int (nomark _)) pa_nil))) pa_nil)) (pe_callB (call_repr hG hr.units) (by rfl) T.z_repr (by decide +kernel) (pa_cons (pv 9) pa_nil)) (nomark _)) (pw_or1 (pt_cmpR op_ne (pe_callB (call_repr hG hr.units) (by rfl) T.z_repr (by decide +kernel) (pa_cons (pe_call (T.ok_told) (hr.mono (by decide)) (by rfl) T.g_told T.k_told T.b_told .nil pass0 (pa_cons (pv 8) (pa_cons pe_bl pa_nil))) pa_nil)) (pe_callB (call_repr hG hr.units) (by rfl) T.z_repr (by decide +kernel) (pa_cons (pv 9) pa_nil)) (nomark _))))) (pss_one (ps_ret pe_bl)) pss_nil)))))))))))))
    (pss_cons (ps_if (pt_cmpR op_gt (pe_call (T.ok_draw) (hr.mono (by decide)) (by rfl) T.g_draw T.k_draw T.b_draw .nil pass0 (pa_cons (pv 1) (pa_cons pe_int pa_nil))) pe_int (nomark _)) (pss_one (ps_ret pe_bl)) pss_nil)
    (pss_cons (ps_par (i := 10) (j := 11) rfl sc_law.nd rfl rfl (by decide) rfl rfl (pa_cons (pe_call (T.ok_ten) (hr.mono (by decide)) (by rfl) T.g_ten T.k_ten T.b_ten .nil pass0 (pa_cons pe_int pa_nil)) (pa_cons (pe_call (T.ok_pick) (hr.mono (by decide)) (by rfl) T.g_pick T.k_pick T.b_pick .nil pass0 (pa_cons (pv 1) (pa_cons (pe_lst (pa_cons pe_int (pa_cons pe_int (pa_cons pe_int pa_nil)))) pa_nil))) pa_nil)) (by rfl))
    (pss_cons (ps_set (i := 5) sc_law.nd rfl (Or.inl rfl) (pe_call (T.ok_sum_share) hr (by rfl) T.g_sum_share T.k_sum_share T.b_sum_share .nil pass0 (pa_cons (pe_tup (pa_cons pe_str (pa_cons (pe_tup (pa_cons (pe_tup (pa_cons pe_int (pa_cons (pe_tup (pa_cons pe_int (pa_cons (pv 10) pa_nil))) pa_nil))) (pa_cons (pe_tup (pa_cons pe_int (pa_cons (pe_tup (pa_cons (pe_op op_sub (pv 10) pe_int) (pa_cons (pv 10) pa_nil))) pa_nil))) pa_nil))) pa_nil))) (pa_cons (pv 11) (pa_cons pe_int pa_nil)))))
    (pss_one (ps_ret (pe_cmpR op_eq (pe_callB (call_reprV hG hr.units) (by rfl) T.z_repr (by decide +kernel) (pa_cons (pe_call (T.ok_fraction_text) (hr.mono (by decide)) (by rfl) T.g_fraction_text T.k_fraction_text T.b_fraction_text .nil pass0 (pa_cons (pv 5) pa_nil)) pa_nil)) (pe_callB (call_reprV hG hr.units) (by rfl) T.z_repr (by decide +kernel) (pa_cons (pe_op op_add_str pe_str (pe_op op_mulS pe_str (pe_op op_mul pe_int (pv 11)))) pa_nil)) (nomark _)))))))))))))), ?_⟩
    have z : ∀ n : Nat, n ≤ 100 → n ≤ sizeLine := fun n h => Nat.le_trans h (by decide)
    refine ⟨_, rfl, a0, ns, rfl, hS, hlen, fun H0 L F _ hM _ _ => ?_⟩
    -- odd
    refine ⟨z 9 (by decide), fun p1 h1 => ?_⟩
    generalize g1 : upd H0 p1 (HO.lst ([.str "", .str "-", .str "/", .str "0/1", .str "-0", .str "1/0", .str "0/5", .str "2/4", .str "6/3"])) = G1
    obtain ⟨M1, k1, e1, l1, f1⟩ := al_eq g1 hM h1
    clear g1
    refine ⟨_, rfl, ?_⟩
    refine ⟨z 8 (by decide), fun p2 h2 => ?_⟩
    generalize g2 : upd G1 p2 (HO.lst ([.str "1/-2", .str "--1", .str "+1", .str "1 /2", .str "1/ 2", .str "1e2", .str "1.5", .str "00"])) = G2
    obtain ⟨M2, k2, e2, l2, f2⟩ := al_eq g2 M1 h2
    clear g2
    refine ⟨p1, p2, [.str "", .str "-", .str "/", .str "0/1", .str "-0", .str "1/0", .str "0/5", .str "2/4", .str "6/3"], [.str "1/-2", .str "--1", .str "+1", .str "1 /2", .str "1/ 2", .str "1e2", .str "1.5", .str "00"], rfl, rfl, k2 _ _ l1 f1 e1, e2, z _ (by decide), fun p3 h3 => ?_⟩
    generalize g3 : upd G2 p3 (HO.lst ([.str "", .str "-", .str "/", .str "0/1", .str "-0", .str "1/0", .str "0/5", .str "2/4", .str "6/3"] ++ [.str "1/-2", .str "--1", .str "+1", .str "1 /2", .str "1/ 2", .str "1e2", .str "1.5", .str "00"])) = G3
    obtain ⟨M3, k3, e3, l3, f3⟩ := al_eq g3 M2 h3
    clear g3
    have os3 : ∀ x ∈ ([.str "", .str "-", .str "/", .str "0/1", .str "-0", .str "1/0", .str "0/5", .str "2/4", .str "6/3"] ++ [.str "1/-2", .str "--1", .str "+1", .str "1 /2", .str "1/ 2", .str "1e2", .str "1.5", .str "00"] : List V), TxS 6000 x := by
      intro x hx
      simp only [List.cons_append, List.nil_append, List.mem_cons, List.not_mem_nil, or_false] at hx
      rcases hx with rfl | rfl | rfl | rfl | rfl | rfl | rfl | rfl | rfl | rfl | rfl | rfl | rfl | rfl | rfl | rfl | rfl
      · exact (tx_of [] (by decide)).le (by decide)
      · exact (tx_of [45] (by decide)).le (by decide)
      · exact (tx_of [47] (by decide)).le (by decide)
      · exact (tx_of [48, 47, 49] (by decide)).le (by decide)
      · exact (tx_of [45, 48] (by decide)).le (by decide)
      · exact (tx_of [49, 47, 48] (by decide)).le (by decide)
      · exact (tx_of [48, 47, 53] (by decide)).le (by decide)
      · exact (tx_of [50, 47, 52] (by decide)).le (by decide)
      · exact (tx_of [54, 47, 51] (by decide)).le (by decide)
      · exact (tx_of [49, 47, 45, 50] (by decide)).le (by decide)
      · exact (tx_of [45, 45, 49] (by decide)).le (by decide)
      · exact (tx_of [43, 49] (by decide)).le (by decide)
      · exact (tx_of [49, 32, 47, 50] (by decide)).le (by decide)
      · exact (tx_of [49, 47, 32, 50] (by decide)).le (by decide)
      · exact (tx_of [49, 101, 50] (by decide)).le (by decide)
      · exact (tx_of [49, 46, 53] (by decide)).le (by decide)
      · exact (tx_of [48, 48] (by decide)).le (by decide)
    have ln3 : ([.str "", .str "-", .str "/", .str "0/1", .str "-0", .str "1/0", .str "0/5", .str "2/4", .str "6/3"] ++ [.str "1/-2", .str "--1", .str "+1", .str "1 /2", .str "1/ 2", .str "1e2", .str "1.5", .str "00"] : List V).length = 17 := rfl
    revert e3 os3 ln3
    generalize ([.str "", .str "-", .str "/", .str "0/1", .str "-0", .str "1/0", .str "0/5", .str "2/4", .str "6/3"] ++ [.str "1/-2", .str "--1", .str "+1", .str "1 /2", .str "1/ 2", .str "1e2", .str "1.5", .str "00"] : List V) = x3
    intro e3 os3 ln3
    have i399 := pow402' (k := 399) (by decide)
    have i400 := pow402' (k := 400) (by decide)
    have j399 := pow402 (k := 399) (by decide)
    have lin : ∀ {m n : Nat} {u v : Str}, TxS m (.str u) → TxS n (.str v) → m + n ≤ 10000 → u.length + v.length ≤ sizeLine := fun {m n u v} a b h => by
      have h1 := a.len
      have h2 := b.len
      rw [sizeLine_eq]
      omega
    have c1 := tx_of [49, 47] (by decide)
    have c2 := tx_of [45, 49, 47] (by decide)
    have c3 := tx_of [45] (by decide)
    have c9 := tx_of [57] (by decide)
    have c7 := tx_of [55] (by decide)
    have m9 := mul_ex c9 5000
    have m7 := mul_ex c7 401
    refine ⟨_, rfl, 399, rfl, by decide, _, rfl, log402 i399, 400, rfl, by decide, _, rfl, log402 i400, 399, rfl, by decide, _, rfl, log402 i399, _, _, rfl, rfl, lin c3 (tx_int i399) (by decide), 400, rfl, by decide, _, rfl, log402 i400, _, _, rfl, rfl, lin c1 (tx_int i400) (by decide), ?_⟩
    refine ⟨z 4 (by decide), fun p4 h4 => ?_⟩
    generalize g4 : upd G3 p4 (HO.lst ([V.str (Str.ofString (toString (((10 ^ 399 : Nat) : Int)))), V.str (Str.ofString (toString (((10 ^ 400 : Nat) : Int)))), V.str (("-" : Str) ++ Str.ofString (toString (((10 ^ 399 : Nat) : Int)))), V.str (("1/" : Str) ++ Str.ofString (toString (((10 ^ 400 : Nat) : Int))))])) = G4
    obtain ⟨M4, k4, e4, l4, f4⟩ := al_eq g4 M3 h4
    clear g4
    refine ⟨p3, p4, x3, [V.str (Str.ofString (toString (((10 ^ 399 : Nat) : Int)))), V.str (Str.ofString (toString (((10 ^ 400 : Nat) : Int)))), V.str (("-" : Str) ++ Str.ofString (toString (((10 ^ 399 : Nat) : Int)))), V.str (("1/" : Str) ++ Str.ofString (toString (((10 ^ 400 : Nat) : Int))))], rfl, rfl, k4 _ _ l3 f3 e3, e4, (by rw [ln3]; exact z 21 (by decide)), fun p5 h5 => ?_⟩
    generalize g5 : upd G4 p5 (HO.lst (x3 ++ [V.str (Str.ofString (toString (((10 ^ 399 : Nat) : Int)))), V.str (Str.ofString (toString (((10 ^ 400 : Nat) : Int)))), V.str (("-" : Str) ++ Str.ofString (toString (((10 ^ 399 : Nat) : Int)))), V.str (("1/" : Str) ++ Str.ofString (toString (((10 ^ 400 : Nat) : Int))))])) = G5
    obtain ⟨M5, k5, e5, l5, f5⟩ := al_eq g5 M4 h5
    clear g5
    have os5 : ∀ x ∈ x3 ++ [V.str (Str.ofString (toString (((10 ^ 399 : Nat) : Int)))), V.str (Str.ofString (toString (((10 ^ 400 : Nat) : Int)))), V.str (("-" : Str) ++ Str.ofString (toString (((10 ^ 399 : Nat) : Int)))), V.str (("1/" : Str) ++ Str.ofString (toString (((10 ^ 400 : Nat) : Int))))], TxS 6000 x := fun x hx => by
      rcases List.mem_append.mp hx with hx | hx
      · exact os3 x hx
      · simp only [List.mem_cons, List.not_mem_nil, or_false] at hx
        rcases hx with rfl | rfl | rfl | rfl
        · exact (tx_int i399).le (by decide)
        · exact (tx_int i400).le (by decide)
        · exact (c3.app (tx_int i399)).le (by decide)
        · exact (c1.app (tx_int i400)).le (by decide)
    have ln5 : (x3 ++ [V.str (Str.ofString (toString (((10 ^ 399 : Nat) : Int)))), V.str (Str.ofString (toString (((10 ^ 400 : Nat) : Int)))), V.str (("-" : Str) ++ Str.ofString (toString (((10 ^ 399 : Nat) : Int)))), V.str (("1/" : Str) ++ Str.ofString (toString (((10 ^ 400 : Nat) : Int))))]).length = 21 := by rw [List.length_append, ln3]; rfl
    revert e5 os5 ln5
    generalize x3 ++ [V.str (Str.ofString (toString (((10 ^ 399 : Nat) : Int)))), V.str (Str.ofString (toString (((10 ^ 400 : Nat) : Int)))), V.str (("-" : Str) ++ Str.ofString (toString (((10 ^ 399 : Nat) : Int)))), V.str (("1/" : Str) ++ Str.ofString (toString (((10 ^ 400 : Nat) : Int))))] = x5
    intro e5 os5 ln5
    refine ⟨_, rfl, _, _, rfl, rfl, mulOk_of 1 5000 (by decide) (by decide) (by decide) (by decide) (by decide), 399, rfl, by decide, _, _, rfl, rfl, _, rfl, log402 j399, _, _, rfl, rfl, lin c1 (tx_int j399) (by decide),
      _, _, rfl, rfl, mulOk_of 1 401 (by decide) (by decide) (by decide) (by decide) (by decide), _, _, rfl, rfl, lin c2 m7 (by decide), ?_⟩
    refine ⟨z 6 (by decide), fun p6 h6 => ?_⟩
    generalize g6 : upd G5 p6 (HO.lst ([V.str (Txt.mul "9" 5000), V.str (("1/" : Str) ++ Str.ofString (toString (((10 ^ 399 : Nat) : Int) + 1))), V.str (("-1/" : Str) ++ Txt.mul "7" 401), V.str "1/1", V.str "-1/1", V.str "3/2/1"])) = G6
    obtain ⟨M6, k6, e6, l6, f6⟩ := al_eq g6 M5 h6
    clear g6
    refine ⟨p5, p6, x5, [V.str (Txt.mul "9" 5000), V.str (("1/" : Str) ++ Str.ofString (toString (((10 ^ 399 : Nat) : Int) + 1))), V.str (("-1/" : Str) ++ Txt.mul "7" 401), V.str "1/1", V.str "-1/1", V.str "3/2/1"], rfl, rfl, k6 _ _ l5 f5 e5, e6, (by rw [ln5]; exact z 27 (by decide)), fun p7 h7 => ?_⟩
    generalize g7 : upd G6 p7 (HO.lst (x5 ++ [V.str (Txt.mul "9" 5000), V.str (("1/" : Str) ++ Str.ofString (toString (((10 ^ 399 : Nat) : Int) + 1))), V.str (("-1/" : Str) ++ Txt.mul "7" 401), V.str "1/1", V.str "-1/1", V.str "3/2/1"])) = G7
    obtain ⟨M7, k7, e7, l7, f7⟩ := al_eq g7 M6 h7
    clear g7
    have os7 : ∀ x ∈ x5 ++ [V.str (Txt.mul "9" 5000), V.str (("1/" : Str) ++ Str.ofString (toString (((10 ^ 399 : Nat) : Int) + 1))), V.str (("-1/" : Str) ++ Txt.mul "7" 401), V.str "1/1", V.str "-1/1", V.str "3/2/1"], TxS 6000 x := fun x hx => by
      rcases List.mem_append.mp hx with hx | hx
      · exact os5 x hx
      · simp only [List.mem_cons, List.not_mem_nil, or_false] at hx
        rcases hx with rfl | rfl | rfl | rfl | rfl | rfl
        · exact m9.le (by decide)
        · exact (c1.app (tx_int j399)).le (by decide)
        · exact (c2.app m7).le (by decide)
        · exact (tx_of [49, 47, 49] (by decide)).le (by decide)
        · exact (tx_of [45, 49, 47, 49] (by decide)).le (by decide)
        · exact (tx_of [51, 47, 50, 47, 49] (by decide)).le (by decide)
    have ln7 : (x5 ++ [V.str (Txt.mul "9" 5000), V.str (("1/" : Str) ++ Str.ofString (toString (((10 ^ 399 : Nat) : Int) + 1))), V.str (("-1/" : Str) ++ Txt.mul "7" 401), V.str "1/1", V.str "-1/1", V.str "3/2/1"]).length = 27 := by rw [List.length_append, ln5]; rfl
    revert e7 os7 ln7
    generalize x5 ++ [V.str (Txt.mul "9" 5000), V.str (("1/" : Str) ++ Str.ofString (toString (((10 ^ 399 : Nat) : Int) + 1))), V.str (("-1/" : Str) ++ Txt.mul "7" 401), V.str "1/1", V.str "-1/1", V.str "3/2/1"] = os
    intro e7 os7 ln7
    clear os5 os3 e5 e3 e1 e2 e4 e6 k1 k2 k3 k4 k5 k6 k7 M1 M2 M3 M4 M5 M6 h1 h2 h3 h4 h5 h6 h7
    intro Kn hKn
    have nK := M7.ne hKn
    have sk0 : Sk L F p7 Kn os [] 0 (upd G7 Kn (.dK [])) := by
      refine ⟨M7.new hKn, ?_, l7, f7, upd_same, nK.1, nK.2, Nat.le_refl _, fun kv h => nomatch h⟩
      rw [upd_ne (ne_of_none e7 hKn)]
      exact e7
    revert sk0
    generalize upd G7 Kn (.dK []) = G8
    intro sk0
    refine ⟨_, rfl, by decide, by decide, for_range (lo := 0) (n := 7) (fun i σ H' => ∃ (kvs : List (Key × V)) (y4 y5 y6 y7 y8 y9 : Option V), σ = [some (.ref a0), some (.ref L), some (.ref p7), some (.ref Kn), y4, y5, y6, y7, y8, y9, none, none] ∧ Sk L F p7 Kn os kvs i H') ?_ ?_ ?_⟩
    · exact ⟨[], none, none, none, none, none, none, rfl, sk0⟩
    · rintro i σ H1 hi ⟨kvs, y4, y5, y6, y7, y8, y9, rfl, sk⟩
      refine ⟨_, rfl, L, F, rfl, sk.lm, fun H2 t a b kp2 hM2 ht lo ia ib => ?_⟩
      have sk2 := sk.kp kp2 hM2
      have la := intL_len (n := a) (k := 400) (by decide) ia
      have lb := intL_len (n := b) (k := 400) (by decide) ib
      have lt : (fracL a b).length ≤ 803 := by
        unfold fracL
        split
        · omega
        · rw [List.length_append, List.length_cons]
          omega
      have hch : Ch (fracL a b) := by
        unfold fracL
        split
        · exact ch_int a
        · exact (ch_int a).app (fun c hc => by
            rcases List.mem_cons.mp hc with y | y
            · omega
            · exact ch_int b c y)
      have hft : fits (.str (S (fracL a b))) = true := by
        simp only [fits, List.all_eq_true, decide_eq_true_eq]
        intro c hc
        exact Nat.lt_trans (hch c hc) (by decide)
      have hst : sz (.str (S (fracL a b))) ≤ 8000 := by
        simp only [sz]
        rw [S_len]
        omega
      have hrd := rd_frac lo ia ib
      -- the text
      refine ⟨fun σ' H' => Same H2 H' ∧ σ' = [some (.ref a0), some (.ref L), some (.ref p7), some (.ref Kn), some (.int (0 + (i : Int))), some (.ref t), some (.str (S (fracL a b))), y7, y8, y9, none, none], ?_, ?_⟩
      · refine ⟨_, rfl, rfl, _, rfl, ite2 (fun _ => ?_) (fun _ => ?_)⟩
        · exact ⟨_, rfl, rfl, t, a, b, rfl, SqT.of ht, ia.big, ib.big, fun H3 sm => ⟨sm, rfl⟩⟩
        · exact ⟨_, rfl, t, a, b, rfl, SqT.of ht, ia.big, ib.big, fun H3 sm => ⟨sm, rfl⟩⟩
      rintro σ' H3 ⟨sm3, rfl⟩
      have sk3 := sk2.same sm3
      have ht3 := sm3 _ _ ht
      have f4 : ∀ a' b', some (a, b) = some (a', b') → In4 a' ∧ In4 b' := fun a' b' e => by
        cases e
        exact ⟨ia, ib⟩
      have hsz : ∀ o, sz (toldR o) ≤ 8000 := fun o => Nat.le_trans (sz_R o) (by decide)
      have hdp : ∀ o, (toldR o).depth ≤ 60 := fun o => Nat.le_trans (depth_R o) (by decide)
      have vo : Vo K H3 (.str (S (fracL a b))) (some (a, b)) := .inl ⟨fracL a b, rfl, by omega, hch, hrd⟩
      refine ⟨_, rfl, _, _, rfl, .str _, hft, hst, (by show 0 ≤ 60; decide), _, rfl, t, a, b, rfl, SqT.of ht3, ia, ib, _, _, rfl, .str _, hft, hst, (by show 0 ≤ 60; decide), rfl, _, rfl, ite2 (fun y => absurd rfl (vne y)) (fun _ => ?_)⟩
      refine ⟨_, rfl, _, rfl, rfl, _, _, some (a, b), rfl, vo, fun H4 p4 sm4 hp4 hd4 => ⟨p4, _, rfl, hd4, fits_R f4, hsz _, hdp _, ?_⟩⟩
      have sk4 := sk3.same sm4
      have ht4 := sm4 _ _ ht3
      refine ⟨_, rfl, (by show 2 ≤ sizeLine; decide), fun p5 hp5 => ⟨p5, toldR (some (a, b)), rfl, ?_, fits_R f4, hsz _, hdp _, rfl, _, rfl, ite2 (fun y => absurd rfl (vne y)) (fun _ => ?_)⟩⟩
      · refine .lst (.inl (.inl upd_same)) (.cons (.str _) (.cons (.tup (xs := [.int a, .int b]) (SqT.of ?_) (.cons (.int _) (.cons (.int _) .nil))) .nil))
        rw [upd_ne (ne_of_none ht4 hp5)]
        exact ht4
      have sk5 := sk4.new (o := .lst [.str "told", .ref t]) hp5
      have ht5 : (upd H4 p5 (.lst [.str "told", .ref t])) t = some (.tup [.int a, .int b]) := by
        rw [upd_ne (ne_of_none ht4 hp5)]
        exact ht4
      revert sk5 ht5
      generalize upd H4 p5 (HO.lst [.str "told", .ref t]) = H5
      intro sk5 ht5
      -- known
      obtain ⟨u, eu, hu5⟩ : ∃ u, (valV kvs (Sum.inr (S (fracL a b)))).getD (.ref t) = .ref u ∧ H5 u = some (.tup [.int a, .int b]) := by
        cases e : valV kvs (Sum.inr (S (fracL a b))) with
        | none => exact ⟨t, rfl, ht5⟩
        | some v =>
          obtain ⟨u, ev, hu⟩ := sk5.at lo ia ib e
          exact ⟨u, ev, hu⟩
      refine ⟨_, rfl, Kn, rfl, .inl ⟨kvs, .inl sk5.kl⟩, _, rfl, _, rfl, _, DGet.k (k := Sum.inr (S (fracL a b))) sk5.kl, ?_⟩
      rw [eu]
      refine ⟨_, rfl, _, _, .tup (SqT.of hu5) (.cons (.int _) (.cons (.int _) .nil)), .tup (SqT.of ht5) (.cons (.int _) (.cons (.int _) .nil)), shaped_intsT [a, b], shaped_intsT [a, b], _, rfl, ite2 (fun y => ?_) (fun _ => ?_)⟩
      · have e : PyData.eqv (.tuple [.int a, .int b]) (.tuple [.int a, .int b]) = true := by simp [PyData.eqv, PyData.eqvAll]
        rw [e] at y
        exact absurd y (by decide)
      refine ⟨_, rfl, _, rfl, _, rfl, Kn, _, rfl, DPut.k (k := Sum.inr (S (fracL a b))) sk5.kl ?_, ?_⟩
      · exact Nat.lt_of_le_of_lt (Nat.le_trans sk5.len (Nat.le_of_lt hi)) (by decide)
      have sk6 := sk5.put ht5 lo ia ib
      revert sk6
      generalize putK kvs (Sum.inr (S (fracL a b))) (V.ref t) = kvs2
      intro sk6
      generalize upd H5 Kn (HO.dK kvs2) = H6 at sk6 ⊢
      -- five values
      refine ⟨_, rfl, by decide, by decide, for_range (lo := 0) (n := 5) (fun j σ H' => ∃ (y7 y8 y9 : Option V), σ = [some (.ref a0), some (.ref L), some (.ref p7), some (.ref Kn), some (.int (0 + (i : Int))), some (.ref t), some (.str (S (fracL a b))), y7, y8, y9, none, none] ∧ Sk L F p7 Kn os kvs2 (i + 1) H') ?_ ?_ ?_⟩
      · exact ⟨y7, y8, y9, rfl, sk6⟩
      · rintro j σ H7 hj ⟨y7, y8, y9, rfl, sk7⟩
        refine ⟨fun σ' H' => ∃ (v : V) (o : Option (Int × Int)), σ' = [some (.ref a0), some (.ref L), some (.ref p7), some (.ref Kn), some (.int (0 + (i : Int))), some (.ref t), some (.str (S (fracL a b))), some (.int (0 + (j : Int))), some v, y9, none, none] ∧
          Sk L F p7 Kn os kvs2 (i + 1) H' ∧ Vo K H' v o, ?_, ?_⟩
        · refine ⟨_, rfl, _, _, rfl, rfl, _, rfl, ite2 (fun _ => ?_) (fun _ => ?_)⟩
          · refine ⟨_, rfl, _, rfl, L, F, fracL a b, rfl, sk7.lm, hch, by omega, fun H8 g kp8 hM8 cg lg => ?_⟩
            exact ⟨_, rdF g, rfl, sk7.kp kp8 hM8, .inl ⟨g, rfl, by omega, cg, rfl⟩⟩
          · refine ⟨_, rfl, rfl, _, rfl, ite2 (fun _ => ?_) (fun _ => ?_)⟩
            · refine ⟨_, rfl, _, rfl, L, F, p7, os, rfl, sk7.lm, SqL.of sk7.ol, sk7.o1, sk7.o2, (by rw [ln7]; decide), (by rw [ln7]; decide), fun H8 n x kp8 hM8 hx => ?_⟩
              obtain ⟨g, rfl, cg, lg⟩ := os7 x (List.mem_of_getElem? hx)
              exact ⟨_, rdF g, rfl, sk7.kp kp8 hM8, .inl ⟨g, rfl, by omega, cg, rfl⟩⟩
            · refine ⟨_, rfl, L, F, rfl, sk7.lm, fun H8 x kp8 hM8 ob => ?_⟩
              obtain ⟨r, hr8⟩ := Ob.vo (K := K) ob
              exact ⟨x, r, rfl, sk7.kp kp8 hM8, hr8⟩
        rintro σ' H8 ⟨v, o, rfl, sk8, vo8⟩
        refine ⟨fun σ' H' => ∃ (x : V), σ' = [some (.ref a0), some (.ref L), some (.ref p7), some (.ref Kn), some (.int (0 + (i : Int))), some (.ref t), some (.str (S (fracL a b))), some (.int (0 + (j : Int))), some v, some x, none, none] ∧
          Same H8 H' ∧ (o = none ∧ x = .non ∨ ∃ (a' b' : Int) (r : Addr), o = some (a', b') ∧ x = .ref r ∧ H' r = some (.tup [.int a', .int b'])), ?_, ?_⟩
        · refine ⟨_, rfl, v, rfl, ?_⟩
          rcases vo8 with ⟨g, rfl, lg, cg, eo⟩ | ⟨tn, ty, kt, eo⟩
          · refine .inl ⟨g, rfl, lg, cg, fun e H9 sm9 => ?_, fun a' b' e H9 r sm9 _ hr9 => ?_⟩
            · rw [rdL_eq, eo] at e
              exact ⟨_, rfl, sm9, .inl ⟨e, rfl⟩⟩
            · rw [rdL_eq, eo] at e
              exact ⟨_, rfl, sm9, .inr ⟨a', b', r, e, rfl, hr9⟩⟩
          · exact .inr ⟨tn, ty, kt, _, rfl, Same.refl _, .inl ⟨eo, rfl⟩⟩
        rintro σ' H9 ⟨x, rfl, sm9, hx9⟩
        refine ⟨fun σ' H' => ∃ (r : Addr), σ' = [some (.ref a0), some (.ref L), some (.ref p7), some (.ref Kn), some (.int (0 + (i : Int))), some (.ref t), some (.str (S (fracL a b))), some (.int (0 + (j : Int))), some v, some (.ref r), none, none] ∧
          Same H9 H' ∧ Dp K H' (.ref r) (toldR o), ?_, ?_⟩
        · rcases hx9 with ⟨rfl, rfl⟩ | ⟨a', b', r, rfl, rfl, hr9⟩
          · refine ⟨_, rfl, rfl, _, rfl, ite2 (fun _ => ?_) (fun y => absurd (decide_eq_true rfl) y)⟩
            refine ⟨(by show 2 ≤ sizeLine; decide), fun p10 hp10 => ?_⟩
            exact ⟨p10, rfl, same_new hp10, .lst (.inl (.inl upd_same)) (.cons (.str _) (.cons (.bl _) .nil))⟩
          · refine ⟨_, rfl, rfl, _, rfl, ite2 (fun y => nomatch (of_decide_eq_true y)) (fun _ => ?_)⟩
            refine ⟨_, rfl, (by show 2 ≤ sizeLine; decide), fun p10 hp10 => ?_⟩
            refine ⟨p10, rfl, same_new hp10, .lst (.inl (.inl upd_same)) (.cons (.str _) (.cons (.tup (xs := [.int a', .int b']) (SqT.of ?_) (.cons (.int _) (.cons (.int _) .nil))) .nil))⟩
            rw [upd_ne (ne_of_none hr9 hp10)]
            exact hr9
        rintro σ' H10 ⟨r, rfl, sm10, hd10⟩
        have sk10 := (sk8.same sm9).same sm10
        have vo10 := Vo.same (sm9.trans sm10) vo8
        have fR := fits_R (Vo.in4 vo8)
        refine ⟨_, rfl, _, rfl, rfl, _, _, o, rfl, vo10, fun H11 p11 sm11 hp11 hd11 => ⟨p11, _, rfl, hd11, fR, hsz _, hdp _, _, rfl, r, _, rfl, dp_same sm11 _ _ hd10, fR, hsz _, hdp _, rfl, _, rfl, ite2 (fun y => absurd rfl (vne y)) (fun _ => ?_)⟩⟩
        refine ⟨_, rfl, _, _, o, rfl, Vo.same sm11 vo10, fun H12 p12 sm12 hp12 hd12 => ⟨p12, _, rfl, hd12, fR, hsz _, hdp _, _, rfl, r, _, rfl, dp_same (sm11.trans sm12) _ _ hd10, fR, hsz _, hdp _, rfl, _, rfl, ite2 (fun y => absurd rfl (vne y)) (fun _ => ?_)⟩⟩
        exact ⟨_, _, _, rfl, (sk10.same sm11).same sm12⟩
      · rintro σ H7 ⟨y7, y8, y9, rfl, sk7⟩
        exact ⟨kvs2, _, _, _, _, _, _, rfl, sk7⟩
    · rintro σ H1 ⟨kvs, y4, y5, y6, y7, y8, y9, rfl, sk⟩
      refine ⟨_, rfl, L, F, 3, rfl, sk.lm, by decide, fun H2 k kp2 hM2 k0 kl => ⟨_, _, rfl, rfl, _, rfl, ite2 (fun _ => q H2) (fun _ => ?_)⟩⟩
      refine ⟨399, rfl, by decide, _, rfl, z 3 (by decide), fun p1 h1 => ?_⟩
      have n1 := hM2.ne h1
      refine ⟨L, F, p1, _, rfl, hM2.new h1, SqL.of upd_same, n1.1, n1.2, (by show 0 < 3; decide), (by show 3 < 1073741824; decide), fun H3 i x kp3 hM3 hx => ?_⟩
      obtain ⟨m, rfl, m1, m12⟩ : ∃ m : Nat, x = .int (m : Int) ∧ 1 ≤ m ∧ m ≤ 12 := by
        have hx' := List.mem_of_getElem? hx
        simp only [List.mem_cons, List.not_mem_nil, or_false] at hx'
        rcases hx' with rfl | rfl | rfl
        · exact ⟨2, rfl, by decide, by decide⟩
        · exact ⟨11, rfl, by decide, by decide⟩
        · exact ⟨12, rfl, by decide, by decide⟩
      have tp := ten_pos 399
      have tpm := ten_pos (399 * m)
      have epow : (((10 ^ 399 : Nat) : Int)) ^ m = ((10 ^ (399 * m) : Nat) : Int) := by
        rw [Nat.pow_mul]
        exact (Int.natCast_pow _ _).symm
      have bigm : 10 ^ (399 * m) < 10 ^ 100000 := Nat.pow_lt_pow_right (by decide) (by omega)
      refine ⟨_, _, rfl, ?_⟩
      refine ⟨_, rfl, z 2 (by decide), fun t1 k1 => ?_⟩
      refine ⟨z 2 (by decide), fun t2 k2 => ?_⟩
      refine ⟨_, rfl, _, _, rfl, rfl, _, rfl, z 2 (by decide), fun t3 k3 => ?_⟩
      refine ⟨z 2 (by decide), fun t4 k4 => ?_⟩
      refine ⟨z 2 (by decide), fun t5 k5 => ?_⟩
      refine ⟨z 2 (by decide), fun t6 k6 => ?_⟩
      have s1 := same_new (o := .tup [.int 1, .int ((10 ^ 399 : Nat) : Int)]) k1
      have s2 := same_new (o := .tup [.int 0, .ref t1]) k2
      have s3 := same_new (o := .tup [.int (((10 ^ 399 : Nat) : Int) - 1), .int ((10 ^ 399 : Nat) : Int)]) k3
      have s4 := same_new (o := .tup [.int 1, .ref t3]) k4
      have s5 := same_new (o := .tup [.ref t2, .ref t4]) k5
      have s6 := same_new (o := .tup [.str "die", .ref t5]) k6
      have gcs : gc (pw (natW tallL) m 0) ((wholeN tallL : Int) ^ m) < 2 ^ 8990 := by
        rw [tall_pw, gc_one]
        exact Nat.one_lt_pow (by decide) (by decide)
      refine ⟨_, rfl, fun _ => False, _, m, 0, rfl, .inr ⟨tallL, ?_, tall_good, by omega, by decide, gcs, fun H7 p7 sm7 hp7 => ?_⟩⟩
      · refine .tup (SqT.of upd_same) (.cons (.str _) (.cons (.tup (SqT.of (s6 _ _ upd_same)) (.cons (.tup (SqT.of (s6 _ _ (s5 _ _ (s4 _ _ (s3 _ _ upd_same))))) (.cons (.int _) (.cons (prD_dx (SqT.of (s6 _ _ (s5 _ _ (s4 _ _ (s3 _ _ (s2 _ _ upd_same))))))) .nil))) (.cons (.tup (SqT.of (s6 _ _ (s5 _ _ upd_same))) (.cons (.int _) (.cons (prD_dx (SqT.of (s6 _ _ (s5 _ _ (s4 _ _ upd_same))))) .nil))) .nil))) .nil))
      · rw [tall_pw, tall_whole, epow, fA_1 (by omega), fB_1 (by omega)] at hp7
        have ft := frac_ten (k := 399 * m) (by omega)
        have lst : (S (fracL 1 ((10 ^ (399 * m) : Nat) : Int))).length = 3 + 399 * m := by
          rw [S_len, ft, List.length_append, List.length_replicate]
          rfl
        have hmul : Txt.mul "0" ((399 : Int) * (m : Int)) = S (List.replicate (399 * m) 48) := by
          have := mul_one_sign 48 (399 * m)
          rw [Int.natCast_mul] at this
          exact this
        have etxt : ("1/1" : Str) ++ Txt.mul "0" ((399 : Int) * (m : Int)) = S (fracL 1 ((10 ^ (399 * m) : Nat) : Int)) := by
          rw [hmul, ft]
          exact S_cat [49, 47, 49] _
        have fts : fits (.str (S (fracL 1 ((10 ^ (399 * m) : Nat) : Int)))) = true := by
          rw [ft]
          simp only [fits, List.all_eq_true, decide_eq_true_eq]
          intro c hc
          have hc' : c ∈ [49, 47, 49] ++ List.replicate (399 * m) 48 := hc
          rcases List.mem_append.mp hc' with y | y
          · have : c = 49 ∨ c = 47 ∨ c = 49 := by simpa using y
            have h16 : (49 : Nat) < 16 ^ 8 := by decide
            omega
          · have := (List.mem_replicate.mp y).2
            rw [this]
            decide
        have sts : sz (.str (S (fracL 1 ((10 ^ (399 * m) : Nat) : Int)))) ≤ 8000 := by
          simp only [sz]
          rw [lst]
          omega
        have lm : (Txt.mul "0" ((399 : Int) * (m : Int))).length = 399 * m := by
          rw [hmul, S_len, List.length_replicate]
        refine ⟨_, rfl, p7, 1, _, rfl, SqT.of hp7, Nat.one_lt_pow (by decide) (by decide), by rw [Int.natAbs_natCast]; exact bigm, fun H8 sm8 => ⟨_, _, rfl, .str _, fts, sts, (by show 0 ≤ 60; decide), ?_⟩⟩
        refine ⟨_, rfl, _, _, rfl, rfl, .inl ⟨by omega, by omega⟩, _, _, rfl, rfl, ?_, _, _, rfl, rfl, ?_, ?_⟩
        · exact mulOk_of (n := (399 : Int) * (m : Int)) 1 (399 * m) (by decide) (by omega) (by omega) (by omega) (by omega)
        · rw [lm, sizeLine_eq]
          show 3 + 399 * m ≤ _
          omega
        · rw [etxt]
          refine ⟨_, _, rfl, .str _, fts, sts, (by show 0 ≤ 60; decide), rfl, ?_⟩
          rw [decide_eq_true rfl]
          exact q _
end
end Ev

set_option exponentiation.threshold 256
namespace Ev
open PySem PySem.Spec PyProof.Rows L2
theorem all_mk {l : PySem.W.OpenLaw} {w : World} {K : PySem.W.Frag} {h : Heap} {mg : Str → Option Value} {fa : Addr}
    (X : K.In h) (G : h.Ns mainGlobals mg) (hfa : mg "law" = some (.ref fa))
    {f0 : Addr} {od0 an0 : Option Addr} {sl0 : Array (Option Value)} {oc0 kV0 dc0 pm0 cd0 ct0 : Value}
    (a0 : PySem.W.nsIn K mainGlobals "fraction_text" = some (some (.ref f0)))
    (l0 : K.lookup f0 = some ⟨oc0, od0, .func (PySem.W.fnOf "fraction_text" "fraction_text" (defArgs s_fraction_text) (defBody s_fraction_text) (defScope s_fraction_text) .none kV0 dc0 pm0 an0 cd0 ct0), sl0⟩)
    (c0 : PySem.W.codeIn K cd0 "fraction_text" = true)
    (k0 : PySem.W.keepIn K (.ref f0) = true)
    {f1 : Addr} {od1 an1 : Option Addr} {sl1 : Array (Option Value)} {oc1 kV1 dc1 pm1 cd1 ct1 : Value}
    (a1 : PySem.W.nsIn K mainGlobals "read_fraction" = some (some (.ref f1)))
    (l1 : K.lookup f1 = some ⟨oc1, od1, .func (PySem.W.fnOf "read_fraction" "read_fraction" (defArgs s_read_fraction) (defBody s_read_fraction) (defScope s_read_fraction) .none kV1 dc1 pm1 an1 cd1 ct1), sl1⟩)
    (c1 : PySem.W.codeIn K cd1 "read_fraction" = true)
    (k1 : PySem.W.keepIn K (.ref f1) = true)
    {f2 : Addr} {od2 an2 : Option Addr} {sl2 : Array (Option Value)} {oc2 kV2 dc2 pm2 cd2 ct2 : Value}
    (a2 : PySem.W.nsIn K mainGlobals "_integer_text" = some (some (.ref f2)))
    (l2 : K.lookup f2 = some ⟨oc2, od2, .func (PySem.W.fnOf "_integer_text" "_integer_text" (defArgs s_integer_text) (defBody s_integer_text) (defScope s_integer_text) .none kV2 dc2 pm2 an2 cd2 ct2), sl2⟩)
    (c2 : PySem.W.codeIn K cd2 "_integer_text" = true)
    (k2 : PySem.W.keepIn K (.ref f2) = true)
    {f3 : Addr} {od3 an3 : Option Addr} {sl3 : Array (Option Value)} {oc3 kV3 dc3 pm3 cd3 ct3 : Value}
    (a3 : PySem.W.nsIn K mainGlobals "_read_integer" = some (some (.ref f3)))
    (l3 : K.lookup f3 = some ⟨oc3, od3, .func (PySem.W.fnOf "_read_integer" "_read_integer" (defArgs s_read_integer) (defBody s_read_integer) (defScope s_read_integer) .none kV3 dc3 pm3 an3 cd3 ct3), sl3⟩)
    (c3 : PySem.W.codeIn K cd3 "_read_integer" = true)
    (k3 : PySem.W.keepIn K (.ref f3) = true)
    {f4 : Addr} {od4 an4 : Option Addr} {sl4 : Array (Option Value)} {oc4 kV4 dc4 pm4 cd4 ct4 : Value}
    (a4 : PySem.W.nsIn K mainGlobals "_law_loom" = some (some (.ref f4)))
    (l4 : K.lookup f4 = some ⟨oc4, od4, .func (PySem.W.fnOf "_law_loom" "_law_loom" (defArgs s_loom) (defBody s_loom) (defScope s_loom) .none kV4 dc4 pm4 an4 cd4 ct4), sl4⟩)
    (c4 : PySem.W.codeIn K cd4 "_law_loom" = true)
    (k4 : PySem.W.keepIn K (.ref f4) = true)
    {f5 : Addr} {od5 an5 : Option Addr} {sl5 : Array (Option Value)} {oc5 kV5 dc5 pm5 cd5 ct5 : Value}
    (a5 : PySem.W.nsIn K mainGlobals "_law_draw" = some (some (.ref f5)))
    (l5 : K.lookup f5 = some ⟨oc5, od5, .func (PySem.W.fnOf "_law_draw" "_law_draw" (defArgs s_draw) (defBody s_draw) (defScope s_draw) .none kV5 dc5 pm5 an5 cd5 ct5), sl5⟩)
    (c5 : PySem.W.codeIn K cd5 "_law_draw" = true)
    (k5 : PySem.W.keepIn K (.ref f5) = true)
    {f6 : Addr} {od6 an6 : Option Addr} {sl6 : Array (Option Value)} {oc6 kV6 dc6 pm6 cd6 ct6 : Value}
    (a6 : PySem.W.nsIn K mainGlobals "_law_pick" = some (some (.ref f6)))
    (l6 : K.lookup f6 = some ⟨oc6, od6, .func (PySem.W.fnOf "_law_pick" "_law_pick" (defArgs s_pick) (defBody s_pick) (defScope s_pick) .none kV6 dc6 pm6 an6 cd6 ct6), sl6⟩)
    (c6 : PySem.W.codeIn K cd6 "_law_pick" = true)
    (k6 : PySem.W.keepIn K (.ref f6) = true)
    {f7 : Addr} {od7 an7 : Option Addr} {sl7 : Array (Option Value)} {oc7 kV7 dc7 pm7 cd7 ct7 : Value}
    (a7 : PySem.W.nsIn K mainGlobals "_law_gcd" = some (some (.ref f7)))
    (l7 : K.lookup f7 = some ⟨oc7, od7, .func (PySem.W.fnOf "_law_gcd" "_law_gcd" (defArgs s_gcd) (defBody s_gcd) (defScope s_gcd) .none kV7 dc7 pm7 an7 cd7 ct7), sl7⟩)
    (c7 : PySem.W.codeIn K cd7 "_law_gcd" = true)
    (k7 : PySem.W.keepIn K (.ref f7) = true)
    {f8 : Addr} {od8 an8 : Option Addr} {sl8 : Array (Option Value)} {oc8 kV8 dc8 pm8 cd8 ct8 : Value}
    (a8 : PySem.W.nsIn K mainGlobals "_law_frac" = some (some (.ref f8)))
    (l8 : K.lookup f8 = some ⟨oc8, od8, .func (PySem.W.fnOf "_law_frac" "_law_frac" (defArgs s_frac) (defBody s_frac) (defScope s_frac) .none kV8 dc8 pm8 an8 cd8 ct8), sl8⟩)
    (c8 : PySem.W.codeIn K cd8 "_law_frac" = true)
    (k8 : PySem.W.keepIn K (.ref f8) = true)
    {f9 : Addr} {od9 an9 : Option Addr} {sl9 : Array (Option Value)} {oc9 kV9 dc9 pm9 cd9 ct9 : Value}
    (a9 : PySem.W.nsIn K mainGlobals "_law_ten" = some (some (.ref f9)))
    (l9 : K.lookup f9 = some ⟨oc9, od9, .func (PySem.W.fnOf "_law_ten" "_law_ten" (defArgs s_ten) (defBody s_ten) (defScope s_ten) .none kV9 dc9 pm9 an9 cd9 ct9), sl9⟩)
    (c9 : PySem.W.codeIn K cd9 "_law_ten" = true)
    (k9 : PySem.W.keepIn K (.ref f9) = true)
    {f10 : Addr} {od10 an10 : Option Addr} {sl10 : Array (Option Value)} {oc10 kV10 dc10 pm10 cd10 ct10 : Value}
    (a10 : PySem.W.nsIn K mainGlobals "_law_far" = some (some (.ref f10)))
    (l10 : K.lookup f10 = some ⟨oc10, od10, .func (PySem.W.fnOf "_law_far" "_law_far" (defArgs s_far) (defBody s_far) (defScope s_far) .none kV10 dc10 pm10 an10 cd10 ct10), sl10⟩)
    (c10 : PySem.W.codeIn K cd10 "_law_far" = true)
    (k10 : PySem.W.keepIn K (.ref f10) = true)
    {f11 : Addr} {od11 an11 : Option Addr} {sl11 : Array (Option Value)} {oc11 kV11 dc11 pm11 cd11 ct11 : Value}
    (a11 : PySem.W.nsIn K mainGlobals "_law_odd" = some (some (.ref f11)))
    (l11 : K.lookup f11 = some ⟨oc11, od11, .func (PySem.W.fnOf "_law_odd" "_law_odd" (defArgs s_odd) (defBody s_odd) (defScope s_odd) .none kV11 dc11 pm11 an11 cd11 ct11), sl11⟩)
    (c11 : PySem.W.codeIn K cd11 "_law_odd" = true)
    (k11 : PySem.W.keepIn K (.ref f11) = true)
    {f12 : Addr} {od12 an12 : Option Addr} {sl12 : Array (Option Value)} {oc12 kV12 dc12 pm12 cd12 ct12 : Value}
    (a12 : PySem.W.nsIn K mainGlobals "_law_fraction" = some (some (.ref f12)))
    (l12 : K.lookup f12 = some ⟨oc12, od12, .func (PySem.W.fnOf "_law_fraction" "_law_fraction" (defArgs s_fraction) (defBody s_fraction) (defScope s_fraction) .none kV12 dc12 pm12 an12 cd12 ct12), sl12⟩)
    (c12 : PySem.W.codeIn K cd12 "_law_fraction" = true)
    (k12 : PySem.W.keepIn K (.ref f12) = true)
    {f13 : Addr} {od13 an13 : Option Addr} {sl13 : Array (Option Value)} {oc13 kV13 dc13 pm13 cd13 ct13 : Value}
    (a13 : PySem.W.nsIn K mainGlobals "_law_written" = some (some (.ref f13)))
    (l13 : K.lookup f13 = some ⟨oc13, od13, .func (PySem.W.fnOf "_law_written" "_law_written" (defArgs s_written) (defBody s_written) (defScope s_written) .none kV13 dc13 pm13 an13 cd13 ct13), sl13⟩)
    (c13 : PySem.W.codeIn K cd13 "_law_written" = true)
    (k13 : PySem.W.keepIn K (.ref f13) = true)
    {f14 : Addr} {od14 an14 : Option Addr} {sl14 : Array (Option Value)} {oc14 kV14 dc14 pm14 cd14 ct14 : Value}
    (a14 : PySem.W.nsIn K mainGlobals "_law_read" = some (some (.ref f14)))
    (l14 : K.lookup f14 = some ⟨oc14, od14, .func (PySem.W.fnOf "_law_read" "_law_read" (defArgs s_read) (defBody s_read) (defScope s_read) .none kV14 dc14 pm14 an14 cd14 ct14), sl14⟩)
    (c14 : PySem.W.codeIn K cd14 "_law_read" = true)
    (k14 : PySem.W.keepIn K (.ref f14) = true)
    {f15 : Addr} {od15 an15 : Option Addr} {sl15 : Array (Option Value)} {oc15 kV15 dc15 pm15 cd15 ct15 : Value}
    (a15 : PySem.W.nsIn K mainGlobals "_law_told" = some (some (.ref f15)))
    (l15 : K.lookup f15 = some ⟨oc15, od15, .func (PySem.W.fnOf "_law_told" "_law_told" (defArgs s_told) (defBody s_told) (defScope s_told) .none kV15 dc15 pm15 an15 cd15 ct15), sl15⟩)
    (c15 : PySem.W.codeIn K cd15 "_law_told" = true)
    (k15 : PySem.W.keepIn K (.ref f15) = true)
    {f16 : Addr} {od16 an16 : Option Addr} {sl16 : Array (Option Value)} {oc16 kV16 dc16 pm16 cd16 ct16 : Value}
    (a16 : PySem.W.nsIn K mainGlobals "_law_bent" = some (some (.ref f16)))
    (l16 : K.lookup f16 = some ⟨oc16, od16, .func (PySem.W.fnOf "_law_bent" "_law_bent" (defArgs s_bent) (defBody s_bent) (defScope s_bent) .none kV16 dc16 pm16 an16 cd16 ct16), sl16⟩)
    (c16 : PySem.W.codeIn K cd16 "_law_bent" = true)
    (k16 : PySem.W.keepIn K (.ref f16) = true)
    {f17 : Addr} {od17 an17 : Option Addr} {sl17 : Array (Option Value)} {oc17 kV17 dc17 pm17 cd17 ct17 : Value}
    (a17 : PySem.W.nsIn K mainGlobals "law" = some (some (.ref f17)))
    (l17 : K.lookup f17 = some ⟨oc17, od17, .func (PySem.W.fnOf "law" "law" (defArgs s_law) (defBody s_law) (defScope s_law) .none kV17 dc17 pm17 an17 cd17 ct17), sl17⟩)
    (c17 : PySem.W.codeIn K cd17 "law" = true)
    (k17 : PySem.W.keepIn K (.ref f17) = true)
    {f18 : Addr} {od18 an18 : Option Addr} {sl18 : Array (Option Value)} {oc18 kV18 dc18 pm18 cd18 ct18 : Value}
    (a18 : PySem.W.nsIn K mainGlobals "lowest" = some (some (.ref f18)))
    (l18 : K.lookup f18 = some ⟨oc18, od18, .func (PySem.W.fnOf "lowest" "lowest" (defArgs s_lowest) (defBody s_lowest) (defScope s_lowest) .none kV18 dc18 pm18 an18 cd18 ct18), sl18⟩)
    (c18 : PySem.W.codeIn K cd18 "lowest" = true)
    (k18 : PySem.W.keepIn K (.ref f18) = true)
    {f19 : Addr} {od19 an19 : Option Addr} {sl19 : Array (Option Value)} {oc19 kV19 dc19 pm19 cd19 ct19 : Value}
    (a19 : PySem.W.nsIn K mainGlobals "power" = some (some (.ref f19)))
    (l19 : K.lookup f19 = some ⟨oc19, od19, .func (PySem.W.fnOf "power" "power" (defArgs s_power) (defBody s_power) (defScope s_power) .none kV19 dc19 pm19 an19 cd19 ct19), sl19⟩)
    (c19 : PySem.W.codeIn K cd19 "power" = true)
    (k19 : PySem.W.keepIn K (.ref f19) = true)
    {f20 : Addr} {od20 an20 : Option Addr} {sl20 : Array (Option Value)} {oc20 kV20 dc20 pm20 cd20 ct20 : Value}
    (a20 : PySem.W.nsIn K mainGlobals "side_weights" = some (some (.ref f20)))
    (l20 : K.lookup f20 = some ⟨oc20, od20, .func (PySem.W.fnOf "side_weights" "side_weights" (defArgs s_side_weights) (defBody s_side_weights) (defScope s_side_weights) .none kV20 dc20 pm20 an20 cd20 ct20), sl20⟩)
    (c20 : PySem.W.codeIn K cd20 "side_weights" = true)
    (k20 : PySem.W.keepIn K (.ref f20) = true)
    {f21 : Addr} {od21 an21 : Option Addr} {sl21 : Array (Option Value)} {oc21 kV21 dc21 pm21 cd21 ct21 : Value}
    (a21 : PySem.W.nsIn K mainGlobals "throw_weights" = some (some (.ref f21)))
    (l21 : K.lookup f21 = some ⟨oc21, od21, .func (PySem.W.fnOf "throw_weights" "throw_weights" (defArgs s_throw_weights) (defBody s_throw_weights) (defScope s_throw_weights) .none kV21 dc21 pm21 an21 cd21 ct21), sl21⟩)
    (c21 : PySem.W.codeIn K cd21 "throw_weights" = true)
    (k21 : PySem.W.keepIn K (.ref f21) = true)
    {f22 : Addr} {od22 an22 : Option Addr} {sl22 : Array (Option Value)} {oc22 kV22 dc22 pm22 cd22 ct22 : Value}
    (a22 : PySem.W.nsIn K mainGlobals "_power_weights" = some (some (.ref f22)))
    (l22 : K.lookup f22 = some ⟨oc22, od22, .func (PySem.W.fnOf "_power_weights" "_power_weights" (defArgs s_power_weights) (defBody s_power_weights) (defScope s_power_weights) .none kV22 dc22 pm22 an22 cd22 ct22), sl22⟩)
    (c22 : PySem.W.codeIn K cd22 "_power_weights" = true)
    (k22 : PySem.W.keepIn K (.ref f22) = true)
    {f23 : Addr} {od23 an23 : Option Addr} {sl23 : Array (Option Value)} {oc23 kV23 dc23 pm23 cd23 ct23 : Value}
    (a23 : PySem.W.nsIn K mainGlobals "_misses_share" = some (some (.ref f23)))
    (l23 : K.lookup f23 = some ⟨oc23, od23, .func (PySem.W.fnOf "_misses_share" "_misses_share" (defArgs s_misses_share) (defBody s_misses_share) (defScope s_misses_share) .none kV23 dc23 pm23 an23 cd23 ct23), sl23⟩)
    (c23 : PySem.W.codeIn K cd23 "_misses_share" = true)
    (k23 : PySem.W.keepIn K (.ref f23) = true)
    {f24 : Addr} {od24 an24 : Option Addr} {sl24 : Array (Option Value)} {oc24 kV24 dc24 pm24 cd24 ct24 : Value}
    (a24 : PySem.W.nsIn K mainGlobals "sum_share" = some (some (.ref f24)))
    (l24 : K.lookup f24 = some ⟨oc24, od24, .func (PySem.W.fnOf "sum_share" "sum_share" (defArgs s_sum_share) (defBody s_sum_share) (defScope s_sum_share) .none kV24 dc24 pm24 an24 cd24 ct24), sl24⟩)
    (c24 : PySem.W.codeIn K cd24 "sum_share" = true)
    (k24 : PySem.W.keepIn K (.ref f24) = true)
    {f25 : Addr}
    (a25 : PySem.W.nsIn K mainGlobals "BadText" = some (some (.ref f25)))
    {f26 : Addr}
    (a26 : PySem.W.nsIn K mainGlobals "ThrowError" = some (some (.ref f26)))
    (n_int : PySem.W.nsIn K mainGlobals "int" = some none)
    (n_len : PySem.W.nsIn K mainGlobals "len" = some none)
    (n_abs : PySem.W.nsIn K mainGlobals "abs" = some none)
    (n_repr : PySem.W.nsIn K mainGlobals "repr" = some none)
    (n_range : PySem.W.nsIn K mainGlobals "range" = some none)
    (n_isinstance : PySem.W.nsIn K mainGlobals "isinstance" = some none)
    (n_str : PySem.W.nsIn K mainGlobals "str" = some none)
    (n_all : PySem.W.nsIn K mainGlobals "all" = some none)
    (n_divmod : PySem.W.nsIn K mainGlobals "divmod" = some none)
    (n_reversed : PySem.W.nsIn K mainGlobals "reversed" = some none)
    (n_min : PySem.W.nsIn K mainGlobals "min" = some none)
    (n_enumerate : PySem.W.nsIn K mainGlobals "enumerate" = some none)
    (n_gcd : PySem.W.nsIn K mainGlobals "gcd" = some (some (.builtin "math.gcd")))
    (n_lcm : PySem.W.nsIn K mainGlobals "lcm" = some (some (.builtin "math.lcm")))
    (n_comb : PySem.W.nsIn K mainGlobals "comb" = some (some (.builtin "math.comb")))
    {t_MAX_FIGURES : Tok}
    (q_MAX_FIGURES : PySem.W.nsIn K mainGlobals "MAX_FIGURES" = some (some (.int 400 t_MAX_FIGURES)))
    {t_FIGURES : Tok}
    (q_FIGURES : PySem.W.nsIn K mainGlobals "FIGURES" = some (some (.str "0123456789" t_FIGURES)))
    (q_xB : PySem.W.excIn K (f25) [.type "ValueError", .type "Exception", .type "BaseException", .type "object"] "ValueError.__new__" = true)
    (q_kB : PySem.W.keepIn K (.ref (f25)) = true)
    (q_bB : PySem.W.subIn K (.ref (f25)) (.type "BaseException") = some true)
    (q_tB : PySem.W.typeIn K (.ref (f25)) = some (.type "type"))
    (q_sB : PySem.W.subIn K (.ref (f25)) (.ref (f25)) = some true)
    (cB1 : PySem.W.findIn K (.ref f25) "__getattribute__" = some (some (.builtin "BaseException.__getattribute__")))
    (cB2 : PySem.W.findIn K (.ref f25) "__getattr__" = some none)
    (cB3 : PySem.W.subIn K (.ref f25) (.type "BaseException") = some true)
    (cB4 : PySem.W.hasDictIn K f25 = true)
    (cB5 : PySem.W.findIn K (.ref f25) "__class__" = some (some (.builtin "object.__class__")))
    (cB6 : PySem.W.specialIn K (.builtin "object.__class__") "__get__" = some (some (.builtin "getset_descriptor.__get__")))
    (cB7 : PySem.W.takesIn K (.builtin "object.__class__") = some true)
    (cB8 : PySem.W.mroIn K f25 (.type "object") = some true)
    (q_oB : PySem.W.kitOne K (.ref (f25)) (.ref (f26)) = some true)
    : ∃ fd : FuncData, (∀ (s : Shared) (v : Value), BindsTo s fd ⟨[v], []⟩ [("script", v)]) ∧ ∀ base : Heap, K.In base → base.Ns mainGlobals mg →
      FnG l.prog w K mg base CX0 5 fa fd ["script"] (sp_law K) := by
  have e : f17 = fa := by
    cases hfa.symm.trans (PySem.W.mg_of X G a17)
    rfl
  subst e
  have T : Txt K mg (fun i => [f0, f1, f2, f3, f4, f5, f6, f7, f8, f9, f10, f11, f12, f13, f14, f15, f16, f17, f18, f19, f20, f21, f22, f23, f24, f25, f26].getD i 0) (fun i => [(PySem.W.fnOf "fraction_text" "fraction_text" (defArgs s_fraction_text) (defBody s_fraction_text) (defScope s_fraction_text) .none kV0 dc0 pm0 an0 cd0 ct0),
      (PySem.W.fnOf "read_fraction" "read_fraction" (defArgs s_read_fraction) (defBody s_read_fraction) (defScope s_read_fraction) .none kV1 dc1 pm1 an1 cd1 ct1),
      (PySem.W.fnOf "_integer_text" "_integer_text" (defArgs s_integer_text) (defBody s_integer_text) (defScope s_integer_text) .none kV2 dc2 pm2 an2 cd2 ct2),
      (PySem.W.fnOf "_read_integer" "_read_integer" (defArgs s_read_integer) (defBody s_read_integer) (defScope s_read_integer) .none kV3 dc3 pm3 an3 cd3 ct3),
      (PySem.W.fnOf "_law_loom" "_law_loom" (defArgs s_loom) (defBody s_loom) (defScope s_loom) .none kV4 dc4 pm4 an4 cd4 ct4),
      (PySem.W.fnOf "_law_draw" "_law_draw" (defArgs s_draw) (defBody s_draw) (defScope s_draw) .none kV5 dc5 pm5 an5 cd5 ct5),
      (PySem.W.fnOf "_law_pick" "_law_pick" (defArgs s_pick) (defBody s_pick) (defScope s_pick) .none kV6 dc6 pm6 an6 cd6 ct6),
      (PySem.W.fnOf "_law_gcd" "_law_gcd" (defArgs s_gcd) (defBody s_gcd) (defScope s_gcd) .none kV7 dc7 pm7 an7 cd7 ct7),
      (PySem.W.fnOf "_law_frac" "_law_frac" (defArgs s_frac) (defBody s_frac) (defScope s_frac) .none kV8 dc8 pm8 an8 cd8 ct8),
      (PySem.W.fnOf "_law_ten" "_law_ten" (defArgs s_ten) (defBody s_ten) (defScope s_ten) .none kV9 dc9 pm9 an9 cd9 ct9),
      (PySem.W.fnOf "_law_far" "_law_far" (defArgs s_far) (defBody s_far) (defScope s_far) .none kV10 dc10 pm10 an10 cd10 ct10),
      (PySem.W.fnOf "_law_odd" "_law_odd" (defArgs s_odd) (defBody s_odd) (defScope s_odd) .none kV11 dc11 pm11 an11 cd11 ct11),
      (PySem.W.fnOf "_law_fraction" "_law_fraction" (defArgs s_fraction) (defBody s_fraction) (defScope s_fraction) .none kV12 dc12 pm12 an12 cd12 ct12),
      (PySem.W.fnOf "_law_written" "_law_written" (defArgs s_written) (defBody s_written) (defScope s_written) .none kV13 dc13 pm13 an13 cd13 ct13),
      (PySem.W.fnOf "_law_read" "_law_read" (defArgs s_read) (defBody s_read) (defScope s_read) .none kV14 dc14 pm14 an14 cd14 ct14),
      (PySem.W.fnOf "_law_told" "_law_told" (defArgs s_told) (defBody s_told) (defScope s_told) .none kV15 dc15 pm15 an15 cd15 ct15),
      (PySem.W.fnOf "_law_bent" "_law_bent" (defArgs s_bent) (defBody s_bent) (defScope s_bent) .none kV16 dc16 pm16 an16 cd16 ct16),
      (PySem.W.fnOf "law" "law" (defArgs s_law) (defBody s_law) (defScope s_law) .none kV17 dc17 pm17 an17 cd17 ct17),
      (PySem.W.fnOf "lowest" "lowest" (defArgs s_lowest) (defBody s_lowest) (defScope s_lowest) .none kV18 dc18 pm18 an18 cd18 ct18),
      (PySem.W.fnOf "power" "power" (defArgs s_power) (defBody s_power) (defScope s_power) .none kV19 dc19 pm19 an19 cd19 ct19),
      (PySem.W.fnOf "side_weights" "side_weights" (defArgs s_side_weights) (defBody s_side_weights) (defScope s_side_weights) .none kV20 dc20 pm20 an20 cd20 ct20),
      (PySem.W.fnOf "throw_weights" "throw_weights" (defArgs s_throw_weights) (defBody s_throw_weights) (defScope s_throw_weights) .none kV21 dc21 pm21 an21 cd21 ct21),
      (PySem.W.fnOf "_power_weights" "_power_weights" (defArgs s_power_weights) (defBody s_power_weights) (defScope s_power_weights) .none kV22 dc22 pm22 an22 cd22 ct22),
      (PySem.W.fnOf "_misses_share" "_misses_share" (defArgs s_misses_share) (defBody s_misses_share) (defScope s_misses_share) .none kV23 dc23 pm23 an23 cd23 ct23),
      (PySem.W.fnOf "sum_share" "sum_share" (defArgs s_sum_share) (defBody s_sum_share) (defScope s_sum_share) .none kV24 dc24 pm24 an24 cd24 ct24)].getD i (PySem.W.fnOf "fraction_text" "fraction_text" (defArgs s_fraction_text) (defBody s_fraction_text) (defScope s_fraction_text) .none kV0 dc0 pm0 an0 cd0 ct0)) :=
    { F_fraction_text := fun_mk (st := s_fraction_text) l0 c0 k0,
      g_fraction_text := PySem.W.mg_of X G a0,
      F_read_fraction := fun_mk (st := s_read_fraction) l1 c1 k1,
      g_read_fraction := PySem.W.mg_of X G a1,
      F_integer_text := fun_mk (st := s_integer_text) l2 c2 k2,
      g_integer_text := PySem.W.mg_of X G a2,
      F_read_integer := fun_mk (st := s_read_integer) l3 c3 k3,
      g_read_integer := PySem.W.mg_of X G a3,
      F_loom := fun_mk (st := s_loom) l4 c4 k4,
      g_loom := PySem.W.mg_of X G a4,
      F_draw := fun_mk (st := s_draw) l5 c5 k5,
      g_draw := PySem.W.mg_of X G a5,
      F_pick := fun_mk (st := s_pick) l6 c6 k6,
      g_pick := PySem.W.mg_of X G a6,
      F_gcd := fun_mk (st := s_gcd) l7 c7 k7,
      g_gcd := PySem.W.mg_of X G a7,
      F_frac := fun_mk (st := s_frac) l8 c8 k8,
      g_frac := PySem.W.mg_of X G a8,
      F_ten := fun_mk (st := s_ten) l9 c9 k9,
      g_ten := PySem.W.mg_of X G a9,
      F_far := fun_mk (st := s_far) l10 c10 k10,
      g_far := PySem.W.mg_of X G a10,
      F_odd := fun_mk (st := s_odd) l11 c11 k11,
      g_odd := PySem.W.mg_of X G a11,
      F_fraction := fun_mk (st := s_fraction) l12 c12 k12,
      g_fraction := PySem.W.mg_of X G a12,
      F_written := fun_mk (st := s_written) l13 c13 k13,
      g_written := PySem.W.mg_of X G a13,
      F_read := fun_mk (st := s_read) l14 c14 k14,
      g_read := PySem.W.mg_of X G a14,
      F_told := fun_mk (st := s_told) l15 c15 k15,
      g_told := PySem.W.mg_of X G a15,
      F_bent := fun_mk (st := s_bent) l16 c16 k16,
      g_bent := PySem.W.mg_of X G a16,
      F_law := fun_mk (st := s_law) l17 c17 k17,
      g_law := PySem.W.mg_of X G a17,
      F_lowest := fun_mk (st := s_lowest) l18 c18 k18,
      g_lowest := PySem.W.mg_of X G a18,
      F_power := fun_mk (st := s_power) l19 c19 k19,
      g_power := PySem.W.mg_of X G a19,
      F_side_weights := fun_mk (st := s_side_weights) l20 c20 k20,
      g_side_weights := PySem.W.mg_of X G a20,
      F_throw_weights := fun_mk (st := s_throw_weights) l21 c21 k21,
      g_throw_weights := PySem.W.mg_of X G a21,
      F_power_weights := fun_mk (st := s_power_weights) l22 c22 k22,
      g_power_weights := PySem.W.mg_of X G a22,
      F_misses_share := fun_mk (st := s_misses_share) l23 c23 k23,
      g_misses_share := PySem.W.mg_of X G a23,
      F_sum_share := fun_mk (st := s_sum_share) l24 c24 k24,
      g_sum_share := PySem.W.mg_of X G a24,
      g_BadText := PySem.W.mg_of X G a25,
      g_ThrowError := PySem.W.mg_of X G a26,
      z_int := PySem.W.mg_none_of X G n_int,
      z_len := PySem.W.mg_none_of X G n_len,
      z_abs := PySem.W.mg_none_of X G n_abs,
      z_repr := PySem.W.mg_none_of X G n_repr,
      range := PySem.W.mg_none_of X G n_range,
      z_isinstance := PySem.W.mg_none_of X G n_isinstance,
      z_str := PySem.W.mg_none_of X G n_str,
      z_all := PySem.W.mg_none_of X G n_all,
      z_divmod := PySem.W.mg_none_of X G n_divmod,
      reversed := PySem.W.mg_none_of X G n_reversed,
      z_min := PySem.W.mg_none_of X G n_min,
      enumerate := PySem.W.mg_none_of X G n_enumerate,
      z_gcd := PySem.W.mg_of X G n_gcd,
      z_lcm := PySem.W.mg_of X G n_lcm,
      z_comb := PySem.W.mg_of X G n_comb,
      c_MAX_FIGURES := ⟨_, PySem.W.mg_of X G q_MAX_FIGURES, _, rfl⟩,
      c_FIGURES := ⟨_, PySem.W.mg_of X G q_FIGURES, _, rfl⟩,
      xB := q_xB,
      kB := q_kB,
      bB := q_bB,
      tB := q_tB,
      sB := q_sB,
      cB := ⟨cB1, cB2, cB3, cB4, cB5, cB6, cB7, cB8⟩,
      oB := q_oB }
  exact ⟨_, fun s v => .of_eq rfl, fun base _ _ => T.ok_law⟩
end Ev

open PySem PySem.W PyProof.Rows in
set_option maxRecDepth 100000 in
set_option maxHeartbeats 0 in
theorem PySem.Challenge.cw_everystart_k02_whole_texts_of_fractions_holds : PySem.Challenge.rw_everystart_k02_whole_texts_of_fractions.Holds := by
  w_on; o_law; k_head; (case hw => w_witness2)
  k_fill
  refine Ev.walk_ofG (l := PySem.Challenge.rw_everystart_k02_whole_texts_of_fractions) (n := 63) (k := 5) (x := "script") (sp := fun w => Ev.sp_law _) rfl (by decide) rfl ⟨rfl, by decide, by decide⟩ (fun w h Y => PySem.W.kIn_of Y) ?F (fun _ _ a ns hl _ hS => ⟨a, ns, rfl, hS, hl, fun _ => rfl⟩)
  case F =>
    intro w mg fa h KX G hmg
    refine' Ev.all_mk KX G hmg ?a0 ?l0 ?c0 ?k0 ?a1 ?l1 ?c1 ?k1 ?a2 ?l2 ?c2 ?k2 ?a3 ?l3 ?c3 ?k3 ?a4 ?l4 ?c4 ?k4 ?a5 ?l5 ?c5 ?k5 ?a6 ?l6 ?c6 ?k6 ?a7 ?l7 ?c7 ?k7 ?a8 ?l8 ?c8 ?k8 ?a9 ?l9 ?c9 ?k9 ?a10 ?l10 ?c10 ?k10 ?a11 ?l11 ?c11 ?k11 ?a12 ?l12 ?c12 ?k12 ?a13 ?l13 ?c13 ?k13 ?a14 ?l14 ?c14 ?k14 ?a15 ?l15 ?c15 ?k15 ?a16 ?l16 ?c16 ?k16 ?a17 ?l17 ?c17 ?k17 ?a18 ?l18 ?c18 ?k18 ?a19 ?l19 ?c19 ?k19 ?a20 ?l20 ?c20 ?k20 ?a21 ?l21 ?c21 ?k21 ?a22 ?l22 ?c22 ?k22 ?a23 ?l23 ?c23 ?k23 ?a24 ?l24 ?c24 ?k24 ?a25 ?a26 ?n_int ?n_len ?n_abs ?n_repr ?n_range ?n_isinstance ?n_str ?n_all ?n_divmod ?n_reversed ?n_min ?n_enumerate ?n_gcd ?n_lcm ?n_comb ?q_MAX_FIGURES ?q_FIGURES ?q_xB ?q_kB ?q_bB ?q_tB ?q_sB ?cB1 ?cB2 ?cB3 ?cB4 ?cB5 ?cB6 ?cB7 ?cB8 ?q_oB
    (case a0 => k_is)
    (case l0 => k_is)
    (case c0 => k_is)
    (case k0 => k_is)
    (case a1 => k_is)
    (case l1 => k_is)
    (case c1 => k_is)
    (case k1 => k_is)
    (case a2 => k_is)
    (case l2 => k_is)
    (case c2 => k_is)
    (case k2 => k_is)
    (case a3 => k_is)
    (case l3 => k_is)
    (case c3 => k_is)
    (case k3 => k_is)
    (case a4 => k_is)
    (case l4 => k_is)
    (case c4 => k_is)
    (case k4 => k_is)
    (case a5 => k_is)
    (case l5 => k_is)
    (case c5 => k_is)
    (case k5 => k_is)
    (case a6 => k_is)
    (case l6 => k_is)
    (case c6 => k_is)
    (case k6 => k_is)
    (case a7 => k_is)
    (case l7 => k_is)
    (case c7 => k_is)
    (case k7 => k_is)
    (case a8 => k_is)
    (case l8 => k_is)
    (case c8 => k_is)
    (case k8 => k_is)
    (case a9 => k_is)
    (case l9 => k_is)
    (case c9 => k_is)
    (case k9 => k_is)
    (case a10 => k_is)
    (case l10 => k_is)
    (case c10 => k_is)
    (case k10 => k_is)
    (case a11 => k_is)
    (case l11 => k_is)
    (case c11 => k_is)
    (case k11 => k_is)
    (case a12 => k_is)
    (case l12 => k_is)
    (case c12 => k_is)
    (case k12 => k_is)
    (case a13 => k_is)
    (case l13 => k_is)
    (case c13 => k_is)
    (case k13 => k_is)
    (case a14 => k_is)
    (case l14 => k_is)
    (case c14 => k_is)
    (case k14 => k_is)
    (case a15 => k_is)
    (case l15 => k_is)
    (case c15 => k_is)
    (case k15 => k_is)
    (case a16 => k_is)
    (case l16 => k_is)
    (case c16 => k_is)
    (case k16 => k_is)
    (case a17 => k_is)
    (case l17 => k_is)
    (case c17 => k_is)
    (case k17 => k_is)
    (case a18 => k_is)
    (case l18 => k_is)
    (case c18 => k_is)
    (case k18 => k_is)
    (case a19 => k_is)
    (case l19 => k_is)
    (case c19 => k_is)
    (case k19 => k_is)
    (case a20 => k_is)
    (case l20 => k_is)
    (case c20 => k_is)
    (case k20 => k_is)
    (case a21 => k_is)
    (case l21 => k_is)
    (case c21 => k_is)
    (case k21 => k_is)
    (case a22 => k_is)
    (case l22 => k_is)
    (case c22 => k_is)
    (case k22 => k_is)
    (case a23 => k_is)
    (case l23 => k_is)
    (case c23 => k_is)
    (case k23 => k_is)
    (case a24 => k_is)
    (case l24 => k_is)
    (case c24 => k_is)
    (case k24 => k_is)
    (case a25 => k_is)
    (case a26 => k_is)
    (case n_int => k_is)
    (case n_len => k_is)
    (case n_abs => k_is)
    (case n_repr => k_is)
    (case n_range => k_is)
    (case n_isinstance => k_is)
    (case n_str => k_is)
    (case n_all => k_is)
    (case n_divmod => k_is)
    (case n_reversed => k_is)
    (case n_min => k_is)
    (case n_enumerate => k_is)
    (case n_gcd => k_is)
    (case n_lcm => k_is)
    (case n_comb => k_is)
    (case q_MAX_FIGURES => k_is)
    (case q_FIGURES => k_is)
    (case q_xB => k_exc)
    (case q_kB => k_is)
    (case q_bB => k_is)
    (case q_tB => k_is)
    (case q_sB => k_is)
    (case cB1 => k_is)
    (case cB2 => k_is)
    (case cB3 => k_is)
    (case cB4 => k_is)
    (case cB5 => k_is)
    (case cB6 => k_is)
    (case cB7 => k_is)
    (case cB8 => k_is)
    (case q_oB => kit_is)
